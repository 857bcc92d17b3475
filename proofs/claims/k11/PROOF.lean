import PyProof.Rows.All
import Wide.All
import OpenK.AllK
import Wide.FinOn
import Lean
import PyProof.EqAt
import PyProof.EqKinds
import PyProof.TupleCall
import PyProof.NsDelKeeps
import KE.KIsBytes
import PyProof.Rows.SetFrom
import KE.KDictOf
import PyProof.AttrMissSeq
import PyProof.WalksMore
import PyProof.ZipIter
import PyProof.StrBlock2
import PyProof.StrBlockI
import PyProof.Rows.StrJoin2
import PyProof.Rows.CountFlat
import PyProof.Rows.Range3
import PyProof.SumWalkG
import PyProof.Rows.ListMulArg
import PyProof.FactsAll.tuple
import PySem.Challenge.RW_pageturns_k11_what_is_a_sieve
set_option Elab.async false
set_option linter.all false
set_option maxRecDepth 100000
namespace L2
open PySem PySem.Spec PyProof.Rows
/-- a key: an int or a str -/
abbrev Key := Sum Int Str
def keyIs : Key → Value → Bool
  | .inl k, v => Value.isInt k v
  | .inr x, v => Value.isStrOf x v
def keyH (w : World) : Key → Int
  | .inl k => hashInt k
  | .inr x => hashStr w x
theorem keyIs_shape : ∀ {k : Key} {v : Value}, keyIs k v = true → (∃ i t, k = Sum.inl i ∧ v = Value.int i t) ∨ (∃ x t, k = Sum.inr x ∧ v = Value.str x t)
  | .inl i, v, h => by
    obtain ⟨t, e⟩ := Value.isInt_shape (k := i) (v := v) h
    exact .inl ⟨i, t, rfl, e⟩
  | .inr x, v, h => by
    obtain ⟨t, e⟩ := Value.isStrOf_shape (x := x) (v := v) h
    exact .inr ⟨x, t, rfl, e⟩
theorem keyIs_int (i : Int) (t : Tok) : keyIs (.inl i) (.int i t) = true := by simp [keyIs, Value.isInt]
theorem keyIs_str (x : Str) (t : Tok) : keyIs (.inr x) (.str x t) = true := by simp [keyIs, Value.isStrOf]
theorem key_ll (a b : Int) : decide ((Sum.inl a : Key) = Sum.inl b) = (a == b) := by
  by_cases e : a = b
  · subst e; simp
  · have h : ¬ (Sum.inl a : Key) = Sum.inl b := fun q => e (Sum.inl.inj q)
    rw [decide_eq_false h]
    exact (beq_eq_false_iff_ne.mpr e).symm
theorem key_rr (a b : Str) : decide ((Sum.inr a : Key) = Sum.inr b) = decide (a = b) := by
  by_cases e : a = b
  · subst e; simp
  · have h : ¬ (Sum.inr a : Key) = Sum.inr b := fun q => e (Sum.inr.inj q)
    rw [decide_eq_false h, decide_eq_false e]
theorem key_lr (a : Int) (b : Str) : decide ((Sum.inl a : Key) = Sum.inr b) = false := decide_eq_false (fun q => nomatch q)
theorem key_rl (a : Str) (b : Int) : decide ((Sum.inr a : Key) = Sum.inl b) = false := decide_eq_false (fun q => nomatch q)
def mixKind (prog : Program) (w : World) : PySem.KeyKind prog w Key where
  is := keyIs
  hash := keyH w
  inj := fun v a b ha hb => by
    rcases keyIs_shape ha with ⟨i, t, rfl, rfl⟩ | ⟨x, t, rfl, rfl⟩
    · rcases keyIs_shape hb with ⟨j, u, rfl, e⟩ | ⟨y, u, rfl, e⟩
      · injection e with e1 _; rw [e1]
      · exact nomatch e
    · rcases keyIs_shape hb with ⟨j, u, rfl, e⟩ | ⟨y, u, rfl, e⟩
      · exact nomatch e
      · injection e with e1 _; rw [e1]
  byValue := fun k v h => by
    rcases keyIs_shape h with ⟨i, t, rfl, rfl⟩ | ⟨x, t, rfl, rfl⟩ <;> rfl
  pyHash := fun hv h => by
    rcases keyIs_shape hv with ⟨i, t, rfl, rfl⟩ | ⟨x, t, rfl, rfl⟩
    · exact wpAny_pyHash_int h
    · exact wpAny_pyHash_str h
  eqBool := fun hu hv h => by
    rcases keyIs_shape hu with ⟨i, t, rfl, rfl⟩ | ⟨x, t, rfl, rfl⟩
    · rcases keyIs_shape hv with ⟨j, u, rfl, rfl⟩ | ⟨y, u, rfl, rfl⟩
      · rw [key_ll] at h; exact wpAny_eqBool_int h
      · rw [key_lr] at h; exact SeqAt.EqAt.int_str i t y u _ _ _ _ h
    · rcases keyIs_shape hv with ⟨j, u, rfl, rfl⟩ | ⟨y, u, rfl, rfl⟩
      · rw [key_rl] at h; exact SeqAt.EqAt.str_int x t j u _ _ _ _ h
      · rw [key_rr] at h; exact wpAny_eqBool_str h
  «strs» := fun k x t v h => by
    rcases keyIs_shape h with ⟨i, u, rfl, e⟩ | ⟨y, u, rfl, e⟩
    · exact nomatch e
    · injection e with e1 _
      subst e1
      cases v <;> rfl
theorem mixKind_int (prog : Program) (w : World) (i : Int) (t : Tok) : (mixKind prog w).is (.inl i) (.int i t) = true := keyIs_int i t
theorem mixKind_str (prog : Program) (w : World) (x : Str) (t : Tok) : (mixKind prog w).is (.inr x) (.str x t) = true := keyIs_str x t
end L2
namespace L2
open PySem PySem.Spec PyProof.Rows
/-- a value, without the heap -/
inductive V where
  | non | bl (b : Bool) | int (i : Int) | str (x : Str) | byt (b : Array UInt8) | flt (b : UInt64) | ref (a : Addr) | ty (n : String)
  deriving DecidableEq
def RelV : V → Value → Prop
  | .non, u => u = Value.none
  | .bl b, u => u = Value.bool b
  | .int i, u => ∃ t, u = Value.int i t
  | .str x, u => ∃ t, u = Value.str x t
  | .byt b, u => ∃ t, u = Value.bytes b t
  | .flt b, u => ∃ t, u = Value.float b t
  | .ref a, u => u = Value.ref a
  | .ty n, u => u = Value.type n
abbrev Vals : List V → List Value → Prop := Paired RelV
theorem Vals.length {xs : List V} {us : List Value} (r : Vals xs us) : xs.length = us.length := Paired.length r
theorem Vals.get : ∀ {xs : List V} {us : List Value} {i : Nat} {x : V}, Vals xs us → xs[i]? = some x → ∃ u, us[i]? = some u ∧ RelV x u
  | _, _, _, _, .nil, e => by simp at e
  | _, _, 0, _, .cons r _, e => by simp at e; subst e; exact ⟨_, rfl, r⟩
  | _, _, i + 1, x, .cons _ t, e => by
    obtain ⟨u, h1, h2⟩ := Vals.get (i := i) (x := x) t (by simpa using e)
    exact ⟨u, by simpa using h1, h2⟩
theorem Vals.set {x : V} {u : Value} (r : RelV x u) : ∀ {xs : List V} {us : List Value} (i : Nat), Vals xs us → Vals (xs.set i x) (us.set i u)
  | _, _, _, .nil => .nil
  | _, _, 0, .cons _ t => .cons r t
  | _, _, i + 1, .cons q t => .cons q (Vals.set r i t)
theorem Vals.append : ∀ {xs ys : List V} {us ws : List Value}, Vals xs us → Vals ys ws → Vals (xs ++ ys) (us ++ ws)
  | _, _, _, _, .nil, s => s
  | _, _, _, _, .cons r t, s => .cons r (Vals.append t s)
theorem Vals.take : ∀ {xs : List V} {us : List Value} (n : Nat), Vals xs us → Vals (xs.take n) (us.take n)
  | _, _, 0, _ => .nil
  | _, _, _ + 1, .nil => .nil
  | _, _, n + 1, .cons r t => .cons r (Vals.take n t)
theorem Vals.drop : ∀ {xs : List V} {us : List Value} (n : Nat), Vals xs us → Vals (xs.drop n) (us.drop n)
  | _, _, 0, r => r
  | _, _, _ + 1, .nil => .nil
  | _, _, n + 1, .cons _ t => Vals.drop n t
theorem Vals.none_of : ∀ {xs : List V} {us : List Value} {i : Nat}, Vals xs us → xs[i]? = none → us[i]? = none := fun {xs us i} r e => by
  have h1 := r.length
  have h2 : xs.length ≤ i := List.getElem?_eq_none_iff.mp e
  exact List.getElem?_eq_none_iff.mpr (by omega)
def RelO : Option V → Option Value → Prop
  | some v, some u => RelV v u
  | none, none => True
  | _, _ => False
def KV {κ : Type} : List (κ × V) → List (κ × Value) → Prop := Paired fun (p : κ × V) (q : κ × Value) => p.1 = q.1 ∧ RelV p.2 q.2
/-- a key of a dict (00_mix): an int or a text -/
def kV : Key → V
  | .inl i => .int i
  | .inr x => .str x
/-- what stands at a tracked address -/
inductive HO where
  /-- a list -/
  | lst (xs : List V)
  /-- a tuple (never changes) -/
  | tup (xs : List V)
  /-- a dict whose keys are ints and texts; one whose keys are tuples of ints and texts (the empty one is both) -/
  | dK (kvs : List (Key × V)) | dT (kvs : List (List Key × V))
  /-- a set of ints: its members, its size -/
  | set (S : Int → Bool) (n : Nat)
  /-- an instance of the class at C, its dict at dx, its attributes -/
  | ins (C dx : Addr) (fs : List (Str × V))
  /-- the dict of the instance at x -/
  | own (x : Addr)
  /-- the dict of an exception -/
  | xd (fs : List (Str × V))
  /-- a bound method, f of x -/
  | met (f x : Addr)
  /-- a range object lo, lo + 1, .. below hi -/
  | rng (lo hi : Int)
  /-- a thing that is known to the object (the script; a dict while a loop walks it): read, never written while it is so -/
  | frz (o : Obj) (u : HO)
  /-- a code object's table -/
  | tbl (ps : Array Value)
  /-- any other thing, by what is true of its one object (a def of one's own: SetO a S n := HO.ext fun h => ..) -/
  | ext (φ : Heap → Prop)
abbrev Hp := Addr → Option HO
def upd (H : Hp) (a : Addr) (o : HO) : Hp := fun b => if b = a then some o else H b
theorem upd_same {H : Hp} {a : Addr} {o : HO} : upd H a o a = some o := by unfold upd; rw [if_pos rfl]
theorem upd_ne {H : Hp} {a b : Addr} {o : HO} (h : b ≠ a) : upd H a o b = H b := by unfold upd; rw [if_neg h]
/-- two objects of different content stand apart -/
theorem ne_of {H : Hp} {a b : Addr} {o u : HO} (h : H a = some o) (h' : H b = some u) (d : o ≠ u) : a ≠ b := by
  intro e; subst e; rw [h] at h'; exact d (Option.some.inj h')
theorem ne_of_none {H : Hp} {a b : Addr} {o : HO} (h : H a = some o) (h' : H b = none) : a ≠ b := by
  intro e; subst e; rw [h] at h'; cases h'
def IsTupN (h : Heap) (a : Addr) (items : Array Value) : Prop := ∃ o, h.get? a = some o ∧ o.cls = .type "tuple" ∧ o.dict = none ∧ ∃ n, o.data = .seq items n
theorem IsTupN.tup {h : Heap} {a : Addr} {items : Array Value} (x : IsTupN h a items) : IsTup h a items := let ⟨o, e, c, _, n, d⟩ := x; ⟨o, e, c, n, d⟩
theorem IsTupN.lt {h : Heap} {a : Addr} {items : Array Value} (x : IsTupN h a items) : a < h.objs.size := x.tup.lt
theorem IsTupN.new (h : Heap) (items : Array Value) : IsTupN (h.push { cls := .type "tuple", data := .seq items }) h.objs.size items := ⟨_, Heap.get?_push_size _ rfl, rfl, rfl, _, rfl⟩
section
variable (P : Program) (w : World)
def ObjOk (H : Hp) (h : Heap) (a : Addr) : HO → Prop
  | .lst xs => xs.length ≤ sizeLine ∧ ∃ (its : List Value) (n : Nat), Vals xs its ∧ h.get? a = some { cls := .type "list", data := .seq its.toArray n }
  | .tup xs => xs.length ≤ sizeLine ∧ ∃ its : List Value, Vals xs its ∧ IsTupN h a its.toArray
  | .dK kvs => kvs.length ≤ sizeLine ∧ (a == sysModules) = false ∧ ∃ vs, KV kvs vs ∧ h.DictOf (mixKind P w) a vs
  | .dT _ => False
  | .set S n => h.SetOf (intKind P w) a S n
  | .ins C dx fs => H dx = some (.own a) ∧ fs.length ≤ 1000 ∧ dx ≠ a ∧ h.get? a = some (PySem.W.instObj C dx) ∧
      ∃ mA, h.Ns1 dx mA ∧ (∀ f, RelO (fs.lookup f) (mA f)) ∧ PySem.Within mA (fs.map (·.1))
  | .own _ => ∃ o, h.get? a = some o
  | .xd fs => ∃ mA, h.Ns1 a mA ∧ ∀ f, RelO (fs.lookup f) (mA f)
  | .rng lo hi => ∃ t u v, h.get? a = some { cls := .type "range", data := .fields #[.int lo t, .int hi u, .int 1 v] }
  | .frz o u => h.get? a = some o ∧ ObjOk H h a u
  | .tbl ps => h.get? a = some { cls := .none, data := .fields ps }
  | .met f x => h.get? a = some (PySem.W.methodObj (.ref f) (.ref x))
  | .ext φ => φ h ∧ (∃ o, h.get? a = some o) ∧ ∀ h1 h2 : Heap, φ h1 → (∀ o, h1.get? a = some o → h2.get? a = some o) → φ h2
/-- the abstract heap is held -/
def HOk (H : Hp) (h : Heap) : Prop := ∀ a o, H a = some o → ObjOk P w H h a o
end
section
variable {P : Program} {w : World} {H H' : Hp} {h h' : Heap} {a : Addr} {o : HO}
theorem ObjOk.lt (x : ObjOk P w H h a o) : a < h.objs.size := by
  cases o with
  | lst xs => obtain ⟨_, _, _, _, e⟩ := x; exact Heap.lt_size e
  | tup xs => obtain ⟨_, _, _, p⟩ := x; exact p.lt
  | dK kvs => obtain ⟨_, _, _, _, o, _, _, e, _⟩ := x; exact Heap.lt_size e
  | dT kvs => exact False.elim x
  | set S n => obtain ⟨o, _, _, _, e, _⟩ := x; exact Heap.lt_size e
  | ins C dx fs => obtain ⟨_, _, _, e, _⟩ := x; exact Heap.lt_size e
  | own y => obtain ⟨_, e⟩ := x; exact Heap.lt_size e
  | xd fs => obtain ⟨_, ⟨_, _, _, e, _⟩, _⟩ := x; exact Heap.lt_size e
  | rng lo hi => obtain ⟨_, _, _, e⟩ := x; exact Heap.lt_size e
  | frz ob u => obtain ⟨e, _⟩ := x; exact Heap.lt_size e
  | tbl ps => exact Heap.lt_size (show h.get? a = some _ from x)
  | met f y => exact Heap.lt_size (show h.get? a = some _ from x)
  | ext φ => obtain ⟨_, ⟨_, e⟩, _⟩ := x; exact Heap.lt_size e
theorem Paired.mapP {α β : Type} {F G : α → β → Prop} : ∀ {l₁ : List α} {l₂ : List β}, Paired F l₁ l₂ → (∀ a b, F a b → G a b) → Paired G l₁ l₂
  | _, _, .nil, _ => .nil
  | _, _, .cons r t, f => .cons (f _ _ r) (Paired.mapP t f)
/-- what an object's description leans on: its own object, its own dict, the tuples -/
theorem ObjOk.stay (x : ObjOk P w H h a o) (k : ∀ b u, (b = a ∨ H b = some (.own a)) → h.get? b = some u → h'.get? b = some u)
    (ho : ∀ b, H b = some (.own a) → H' b = some (.own a)) (ht : ∀ b xs, H b = some (.tup xs) → H' b = some (.tup xs)) : ObjOk P w H' h' a o := by
  induction o with
  | lst xs => obtain ⟨z, its, n, r, e⟩ := x; exact ⟨z, its, n, r, k _ _ (.inl rfl) e⟩
  | tup xs => obtain ⟨z, its, r, ob, e, c⟩ := x; exact ⟨z, its, r, ob, k _ _ (.inl rfl) e, c⟩
  | dK kvs => obtain ⟨z, y, vs, r, ob, es, ep, e, c⟩ := x; exact ⟨z, y, vs, r, ob, es, ep, k _ _ (.inl rfl) e, c⟩
  | dT kvs => exact False.elim x
  | set S n => obtain ⟨ob, es, ep, t, e, c⟩ := x; exact ⟨ob, es, ep, t, k _ _ (.inl rfl) e, c⟩
  | ins C dx fs =>
    obtain ⟨d, z, ne, e, mA, ⟨od, es, ep, e2, c⟩, r⟩ := x
    exact ⟨ho _ d, z, ne, k _ _ (.inl rfl) e, mA, ⟨od, es, ep, k _ _ (.inr d) e2, c⟩, r⟩
  | own y => obtain ⟨ob, e⟩ := x; exact ⟨ob, k _ _ (.inl rfl) e⟩
  | xd fs => obtain ⟨mA, ⟨od, es, ep, e, c⟩, r⟩ := x; exact ⟨mA, ⟨od, es, ep, k _ _ (.inl rfl) e, c⟩, r⟩
  | rng lo hi => obtain ⟨t, u, v, e⟩ := x; exact ⟨t, u, v, k _ _ (.inl rfl) e⟩
  | frz ob u ih => obtain ⟨e, q⟩ := x; exact ⟨k _ _ (.inl rfl) e, ih q⟩
  | tbl ps =>
    have e : h.get? a = some { cls := .none, data := .fields ps } := x
    show h'.get? a = some { cls := .none, data := .fields ps }
    exact k a _ (.inl rfl) e
  | met f y =>
    have e : h.get? a = some (PySem.W.methodObj (.ref f) (.ref y)) := x
    show h'.get? a = some (PySem.W.methodObj (.ref f) (.ref y))
    exact k a _ (.inl rfl) e
  | ext φ => obtain ⟨p, ⟨o, e⟩, st⟩ := x; exact ⟨st _ _ p fun o q => k _ _ (.inl rfl) q, ⟨o, k _ _ (.inl rfl) e⟩, st⟩
theorem HOk.lt (x : HOk P w H h) (e : H a = some o) : a < h.objs.size := (x a o e).lt
theorem HOk.fresh (x : HOk P w H h) (e : h.objs.size ≤ a) : H a = none := by
  cases q : H a with
  | none => rfl
  | some u => exact absurd (Nat.lt_of_lt_of_le (x.lt q) e) (Nat.lt_irrefl _)
/-- every object of the heap is kept -/
theorem HOk.kept (x : HOk P w H h) (k : ∀ b u, h.get? b = some u → h'.get? b = some u) : HOk P w H h' := fun a o e =>
  (x a o e).stay (fun b u _ q => k b u q) (fun _ q => q) fun _ _ q => q
/-- a new object is laid and tracked -/
theorem HOk.laid (x : HOk P w H h) (k : ∀ b u, h.get? b = some u → h'.get? b = some u) (hp : h.objs.size ≤ a) (new : ObjOk P w (upd H a o) h' a o) : HOk P w (upd H a o) h' := fun b u e => by
  have hn := x.fresh hp
  by_cases hb : b = a
  · subst hb; rw [upd_same] at e; cases e; exact new
  · rw [upd_ne hb] at e
    exact (x b u e).stay (fun c v _ q => k c v q) (fun c q => by rw [upd_ne (ne_of_none q hn)]; exact q) fun c xs q => by rw [upd_ne (ne_of_none q hn)]; exact q
end
/-- what may be read as u: it is u, or a known u -/
def Rd (H : Hp) (a : Addr) (u : HO) : Prop := H a = some u ∨ ∃ o, H a = some (.frz o u)
theorem Rd.of {H : Hp} {a : Addr} {u : HO} (h : H a = some u) : Rd H a u := .inl h
theorem Rd.ok {P : Program} {w : World} {H : Hp} {h : Heap} {a : Addr} {u : HO} (r : Rd H a u) (x : HOk P w H h) : ObjOk P w H h a u := by
  rcases r with r | ⟨o, r⟩
  · exact x a u r
  · obtain ⟨_, q⟩ := x a _ r
    exact q
/-- what may be written -/
def Mut : Option HO → Prop
  | some (.lst _) => True
  | some (.dK _) => True
  | some (.dT _) => True
  | some (.set _ _) => True
  | some (.ins _ _ _) => True
  | some (.ext _) => True
  | _ => False
section
variable {P : Program} {w : World} {H : Hp} {h h' : Heap} {x e : Addr} {o' : HO}
/-- the object at e is changed: x itself, or the dict of the instance x -/
theorem HOk.write (ok : HOk P w H h) (mu : Mut (H x)) (he : e = x ∨ H e = some (.own x)) (k : ∀ b u, b ≠ e → h.get? b = some u → h'.get? b = some u) (heo : ∃ u, h'.get? e = some u)
    (new : ObjOk P w (upd H x o') h' x o') : HOk P w (upd H x o') h' := fun b u q => by
  have nown : ∀ c y, H c = some (.own y) → c ≠ x := fun c y r z => by subst z; rw [r] at mu; exact mu
  have ntup : ∀ c xs, H c = some (.tup xs) → c ≠ x := fun c xs r z => by subst z; rw [r] at mu; exact mu
  by_cases hb : b = x
  · subst hb; rw [upd_same] at q; cases q; exact new
  · rw [upd_ne hb] at q
    by_cases hbe : b = e
    · have q' : H b = some (.own x) := by
        rcases he with z | z
        · exact absurd (hbe.trans z) hb
        · rw [hbe]; exact z
      rw [q] at q'; cases q'
      obtain ⟨v, hv⟩ := heo
      exact ⟨v, by rw [hbe]; exact hv⟩
    · refine (ok b u q).stay (fun c v hc r => k c v ?_ r) (fun c r => by rw [upd_ne (nown c b r)]; exact r) fun c xs r => by rw [upd_ne (ntup c xs r)]; exact r
      rcases hc with rfl | hc
      · exact hbe
      · rintro rfl
        rcases he with z | z
        · exact nown c b hc z
        · rw [hc] at z; cases z; exact hb rfl
end
structure Un (fs ex : List Addr) (H H' : Hp) (h h' : Heap) : Prop where
  keep : ∀ b o, h.get? b = some o → H b = none → b ∉ fs → b ∉ ex → h'.get? b = some o
  slot : ∀ b o, h.get? b = some o → H b = none → b ∈ fs → b ∉ ex → ∃ sl, h'.get? b = some { o with slots := sl }
  free : ∀ b o, h.get? b = some o → H b = none → b ∉ ex → H' b = none
  there : ∀ b o, h.get? b = some o → b ∉ ex → ∃ o', h'.get? b = some o'
  tups : ∀ b xs, H b = some (.tup xs) → H' b = some (.tup xs)
  frzs : ∀ b o u, H b = some (.frz o u) → H' b = some (.frz o u)
  tbls : ∀ b ps, H b = some (.tbl ps) → ∃ more, H' b = some (.tbl (ps ++ more))
section
variable {fs fs' ex ex' : List Addr} {H H1 H2 : Hp} {h h1 h2 h' : Heap} {a x e : Addr} {o : HO}
theorem Un.any (u : Un fs ex H H1 h h1) {b : Addr} {ob : Obj} (q : h.get? b = some ob) (n : H b = none) (hx : b ∉ ex) : ∃ sl, h1.get? b = some { ob with slots := sl } := by
  by_cases hb : b ∈ fs
  · exact u.slot b ob q n hb hx
  · exact ⟨ob.slots, u.keep b ob q n hb hx⟩
theorem Un.trans (a : Un fs ex H H1 h h1) (b : Un fs ex H1 H2 h1 h2) : Un fs ex H H2 h h2 where
  keep := fun c ob q n hc hx => b.keep c ob (a.keep c ob q n hc hx) (a.free c ob q n hx) hc hx
  slot := fun c ob q n hc hx => by
    obtain ⟨sl, e1⟩ := a.slot c ob q n hc hx
    obtain ⟨sl', e2⟩ := b.slot c _ e1 (a.free c ob q n hx) hc hx
    exact ⟨sl', e2⟩
  free := fun c ob q n hx => by
    obtain ⟨o', e1⟩ := a.there c ob q hx
    exact b.free c o' e1 (a.free c ob q n hx) hx
  there := fun c ob q hx => by
    obtain ⟨o', e1⟩ := a.there c ob q hx
    exact b.there c o' e1 hx
  tups := fun c xs q => b.tups c xs (a.tups c xs q)
  frzs := fun c ob xs q => b.frzs c ob xs (a.frzs c ob xs q)
  tbls := fun c ps q => by
    obtain ⟨m1, e1⟩ := a.tbls c ps q
    obtain ⟨m2, e2⟩ := b.tbls c _ e1
    exact ⟨m1 ++ m2, by rw [e2, Array.append_assoc]⟩
theorem Un.kept (k : ∀ b u, h.get? b = some u → h'.get? b = some u) : Un fs ex H H h h' :=
  ⟨fun b ob q _ _ _ => k b ob q, fun b ob q _ _ _ => ⟨ob.slots, k b ob q⟩, fun _ _ _ n _ => n, fun b ob q _ => ⟨ob, k b ob q⟩, fun _ _ q => q, fun _ _ _ q => q, fun _ ps q => ⟨#[], by rw [q]; simp⟩⟩
theorem Un.refl : Un fs ex H H h h := Un.kept fun _ _ q => q
theorem Un.laid (k : ∀ b u, h.get? b = some u → h'.get? b = some u) (hp : h.objs.size ≤ a) (hn : H a = none) : Un fs ex H (upd H a o) h h' where
  keep := fun b u q _ _ _ => k b u q
  slot := fun b u q _ _ _ => ⟨u.slots, k b u q⟩
  free := fun b u q n _ => by rw [upd_ne (Nat.ne_of_lt (Nat.lt_of_lt_of_le (Heap.lt_size q) hp))]; exact n
  there := fun b u q _ => ⟨u, k b u q⟩
  tups := fun b xs q => by rw [upd_ne (ne_of_none q hn)]; exact q
  frzs := fun b u xs q => by rw [upd_ne (ne_of_none q hn)]; exact q
  tbls := fun b ps q => ⟨#[], by rw [upd_ne (ne_of_none q hn), q]; simp⟩
theorem Un.write (mu : Mut (H x)) (he : e = x ∨ H e = some (.own x)) (k : ∀ b u, b ≠ e → h.get? b = some u → h'.get? b = some u) (heo : ∃ u, h'.get? e = some u) : Un fs ex H (upd H x o) h h' := by
  have hx : ∀ b, H b = none → b ≠ x := fun b n z => by subst z; rw [n] at mu; exact mu
  have hb : ∀ b, H b = none → b ≠ e := fun b n z => by
    subst z
    rcases he with r | r
    · exact hx b n r
    · rw [n] at r; cases r
  have hm : ∀ b u, H b = some u → ¬ Mut (some u) → b ≠ x := fun b u q nm z => by subst z; rw [q] at mu; exact nm mu
  refine ⟨fun b u q n _ _ => k b u (hb b n) q, fun b u q n _ _ => ⟨u.slots, k b u (hb b n) q⟩, fun b u q n _ => by rw [upd_ne (hx b n)]; exact n, fun b u q _ => ?_,
    fun b xs q => by rw [upd_ne (hm b _ q fun z => z)]; exact q, fun b u xs q => by rw [upd_ne (hm b _ q fun z => z)]; exact q, fun b ps q => ⟨#[], by rw [upd_ne (hm b _ q fun z => z), q]; simp⟩⟩
  by_cases hbe : b = e
  · subst hbe; exact heo
  · exact ⟨u, k b u hbe q⟩
theorem Un.mono (u : Un fs ex H H1 h h1) (hs : ∀ b ∈ fs, b ∈ fs') (hx : ∀ b ∈ ex, b ∈ ex') : Un fs' ex' H H1 h h1 :=
  ⟨fun b ob q n hb he => u.keep b ob q n (fun z => hb (hs b z)) fun z => he (hx b z), fun _ _ q n _ he => u.any q n fun z => he (hx _ z), fun b ob q n he => u.free b ob q n fun z => he (hx b z), fun b ob q he => u.there b ob q fun z => he (hx b z), u.tups, u.frzs, u.tbls⟩
end
def trk (h : Heap) (H : Hp) : List Addr := (List.range h.objs.size).filter fun a => (H a).isSome
def hidT (h : Heap) (H : Hp) : Heap := PySem.W.hideAll h (trk h H)
theorem hidT_size (h : Heap) (H : Hp) : (hidT h H).objs.size = h.objs.size := PySem.W.hideAll_size _ _
theorem hidT_get {h : Heap} {H : Hp} {b : Addr} {o : Obj} (e : h.get? b = some o) (n : H b = none) : (hidT h H).get? b = some o :=
  PySem.W.hideAll_get _ e fun hm => by
    have q : (H b).isSome = true := (List.mem_filter.mp hm).2
    rw [n] at q; simp at q
theorem of_hidT {h : Heap} {H : Hp} {b : Addr} {o : Obj} (e : (hidT h H).get? b = some o) : h.get? b = some o ∧ H b = none := by
  have e' : h.get? b = some o := PySem.W.of_hideAll (trk h H) e
  refine ⟨e', ?_⟩
  cases q : H b with
  | none => rfl
  | some x =>
    have hm : b ∈ trk h H := List.mem_filter.mpr ⟨List.mem_range.mpr (Heap.lt_size e'), by simp [q]⟩
    have z : (hidT h H).get? b = none := PySem.W.hideAll_none (trk h H) hm
    rw [z] at e; cases e
def allNews (g h : Heap) (L : Addr) : List (Addr × Obj) := (List.range h.objs.size).filterMap fun a => if a = L ∨ (g.get? a).isSome = true then none else (h.get? a).map fun o => (a, o)
def rest (g h : Heap) (L d : Addr) : List (Addr × Obj) := (allNews g h L).filter fun p => decide (p.1 ≠ d)
end L2
namespace L2
open PySem PySem.Spec PyProof.Rows
/-- the module's facts, over the base: the heap at the law's entry without what is tracked there -/
structure Mod (K : PySem.W.Frag) (mg : Str → Option Value) (base : Heap) : Prop where
  kin : K.In base
  glob : base.Ns mainGlobals mg
  blt : ∃ mb, base.Ns builtinsNs mb ∧ ∀ x : Str, x ≠ "__name__" → mb x = bootBuiltins x
  nolimit : base.NoLimit
/-- the context: a def's body (or a comprehension's block) running. base: fixed through the whole law; s₀, H₀: the entry; outer: the frames whose slots others may change (a def's callers); stack: all frames that run;
   ex: iterators that were made ahead of the entry and are walked here (a comprehension's); fn: the names whose cells were made at the entry (a def: all; a comprehension's block: its own); calm: not within an except suite; pn: pins that every state bears; xe: what is wanted of an exception that leaves the code -/
structure Cx where
  prog : Program
  w : World
  K : PySem.W.Frag
  mg : Str → Option Value
  base : Heap
  A : Around
  N : List Str
  s₀ : Shared
  H₀ : Hp
  env : Env
  outer : List Env
  stack : List Env
  ex : List Addr
  fn : Str → Bool
  calm : Bool
  pn : List (Addr × Obj)
  xe : Value → Shared → Prop
/-- the callers' frames -/
def frs (l : List Env) : List Addr := l.filterMap (·.frame)
abbrev Cx.fs (X : Cx) : List Addr := frs X.outer
def Vis (sc : Scope) (x : Str) : Prop := sc.names.lookup x = some .local ∨ sc.names.lookup x = some .cell ∨ sc.names.lookup x = some .free
def Loc (sc : Scope) (x : Str) : Prop := sc.names.lookup x = some .local ∨ sc.names.lookup x = some .cell
def Look (env : Env) (h : Heap) (m : Str → Option Value) (x : Str) (u : Value) : Prop :=
  (env.kindOf x = some .local ∧ m x = some u) ∨ ((env.kindOf x = some .cell ∨ env.kindOf x = some .free) ∧ ∃ c, env.cells.lookup x = some c ∧ h.IsCell c (some u))
structure Cx.Ok (X : Cx) : Prop where
  mod : Mod X.K X.mg X.base
  kind : X.env.scope.kind = .function
  glob : X.env.globals = mainGlobals
  blt : X.env.builtins = builtinsNs
  above : X.s₀.heap.objs.size ≤ X.env.locals
  inj : ∀ x y c, X.env.cells.lookup x = some c → X.env.cells.lookup y = some c → x = y
  has : ∀ x, (X.env.kindOf x = some .cell ∨ X.env.kindOf x = some .free) → ∃ c, X.env.cells.lookup x = some c
  cab : ∀ x c, X.fn x = true → X.env.cells.lookup x = some c → X.s₀.heap.objs.size ≤ c
  hd : X.calm = true → X.A.handled = none
  frames : X.A.frames = some X.stack
  stk : X.stack = X.outer ∨ (X.stack = X.env :: X.outer ∧ X.env.frame = some X.env.locals)
  exf : ∀ b ∈ X.ex, b ≠ X.env.locals ∧ ∀ x c, X.env.cells.lookup x = some c → c ≠ b
  bs : ∀ b o, X.base.get? b = some o → X.s₀.heap.get? b = some o ∧ X.H₀ b = none
  bsz : X.base.objs.size ≤ X.s₀.heap.objs.size
  noex : ∀ b o, X.base.get? b = some o → b ∉ X.ex
  exfs : ∀ b ∈ X.ex, b ∉ X.fs
  funs : X.s₀.heap.FunFrames X.base X.outer
  frf : ∀ b ∈ X.fs, X.H₀ b = none
structure Inv (X : Cx) (pins : List (Addr × Obj)) (σ : List (Option V)) (H : Hp) (s : Shared) : Prop where
  ok : X.Ok
  os : s.os = X.s₀.os
  bare : AllBare s.gens
  base : Un X.fs X.ex X.H₀ H X.s₀.heap s.heap
  loc : ∃ m, s.heap.Ns X.env.locals m ∧ ∀ (i : Nat) (x : Str) (v : V), X.N[i]? = some x → σ[i]? = some (some v) → Vis X.env.scope x → ∃ u, RelV v u ∧ Look X.env s.heap m x u
  cell : ∀ x c, X.env.cells.lookup x = some c → ∃ v, s.heap.IsCell c v
  free : H X.env.locals = none
  freeC : ∀ x c, X.env.cells.lookup x = some c → H c = none
  pin : ∀ p ∈ X.pn ++ pins, s.heap.get? p.1 = some p.2 ∧ H p.1 = none ∧ p.1 ≠ X.env.locals ∧ p.1 ∉ X.fs ∧ ∀ v, p.2.data ≠ .cell v
  hok : HOk X.prog X.w H s.heap
  len : σ.length = X.N.length
section
variable {X : Cx} {pins : List (Addr × Obj)} {σ : List (Option V)} {H H' : Hp} {s : Shared} {h' : Heap}
theorem Cx.Ok.nofr (ok : X.Ok) {b : Addr} {o : Obj} (e : X.base.get? b = some o) : b ∉ X.fs := fun hb => by
  have := (ok.funs.mem hb).1
  rw [e] at this; cases this
theorem Inv.bs (I : Inv X pins σ H s) : ∀ b o, X.base.get? b = some o → s.heap.get? b = some o ∧ H b = none := fun b o e =>
  ⟨I.base.keep b o (I.ok.bs b o e).1 (I.ok.bs b o e).2 (I.ok.nofr e) (I.ok.noex b o e), I.base.free b o (I.ok.bs b o e).1 (I.ok.bs b o e).2 (I.ok.noex b o e)⟩
theorem Inv.bk (I : Inv X pins σ H s) : ∀ b o, X.base.get? b = some o → s.heap.get? b = some o := fun b o e => (I.bs b o e).1
theorem Inv.mod (I : Inv X pins σ H s) : Mod X.K X.mg X.base := I.ok.mod
theorem Inv.kIn (I : Inv X pins σ H s) : X.K.In s.heap := I.ok.mod.kin.keeps I.bk
theorem Inv.nolimit (I : Inv X pins σ H s) : s.heap.NoLimit := I.ok.mod.nolimit.keeps I.bk
/-- the frame over the base: for OpenK's rules (K.In X.base is I.mod.kin) -/
theorem Inv.fr (I : Inv X pins σ H s) : ∃ m, Fr X.base X.env.locals s.heap m :=
  let ⟨m, hn, _⟩ := I.loc
  ⟨m, hn, I.bk, Nat.le_trans I.ok.bsz I.ok.above⟩
theorem Inv.lt (I : Inv X pins σ H s) : X.env.locals < s.heap.objs.size := let ⟨_, hn, _⟩ := I.loc; hn.lt
theorem Inv.sz (I : Inv X pins σ H s) : X.s₀.heap.objs.size ≤ s.heap.objs.size := Nat.le_trans I.ok.above (Nat.le_of_lt I.lt)
theorem Inv.nofs (I : Inv X pins σ H s) {a : Addr} (h : s.heap.objs.size ≤ a) : a ∉ X.fs := fun hb => by
  obtain ⟨_, o, ho, _⟩ := I.ok.funs.mem hb
  exact absurd (Nat.lt_of_lt_of_le (Heap.lt_size ho) (Nat.le_trans I.sz h)) (Nat.lt_irrefl _)
theorem Inv.cne (I : Inv X pins σ H s) : ∀ x c, X.env.cells.lookup x = some c → c ≠ X.env.locals := fun x c e z => by
  obtain ⟨v, o, ho, hd⟩ := I.cell x c e
  obtain ⟨m, ⟨o', es, ep, ho', hd', _⟩, _⟩ := I.loc
  rw [z, ho'] at ho; cases ho; rw [hd'] at hd; cases hd
theorem Inv.funs (I : Inv X pins σ H s) : s.heap.FunFrames X.base X.outer := by
  have all : ∀ (l : List Env), (∀ b ∈ frs l, b ∈ X.fs) → X.s₀.heap.FunFrames X.base l → s.heap.FunFrames X.base l := by
    intro l
    induction l with
    | nil => intro _ _; trivial
    | cons env r ih =>
      intro hs hl
      obtain ⟨hk, ⟨L, o, hf, hn, ho, hd⟩, hr⟩ := hl
      have hL : L ∈ X.fs := hs L (by unfold frs; rw [List.filterMap_cons, hf]; exact List.mem_cons_self)
      obtain ⟨sl, e⟩ := I.base.slot L o ho (I.ok.frf L hL) hL fun z => I.ok.exfs L z hL
      exact ⟨hk, ⟨L, _, hf, hn, e, hd⟩, ih (fun b hb => hs b (by unfold frs; rw [List.filterMap_cons, hf]; exact List.mem_cons_of_mem _ hb)) hr⟩
  exact all X.outer (fun _ hb => hb) I.ok.funs
/-- the frames that run, for a call -/
theorem Inv.stack (I : Inv X pins σ H s) : s.heap.FunFrames X.base X.stack := by
  rcases I.ok.stk with e | ⟨e, hf⟩
  · rw [e]; exact I.funs
  · rw [e]
    obtain ⟨m, hn, _⟩ := I.loc
    refine .cons (by rw [I.ok.kind]; decide) hf hn ?_ I.funs
    exact Heap.get?_none_of_le (Nat.le_trans I.ok.bsz I.ok.above)
theorem Inv.stkSub (I : Inv X pins σ H s) : ∀ b ∈ frs X.stack, b ∈ X.env.locals :: X.fs := fun b hb => by
  rcases I.ok.stk with e | ⟨e, hf⟩
  · rw [e] at hb; exact List.mem_cons_of_mem _ hb
  · rw [e] at hb
    unfold frs at hb
    rw [List.filterMap_cons, hf] at hb
    exact hb
theorem Inv.stkFree (I : Inv X pins σ H s) : ∀ b ∈ frs X.stack, H b = none := fun b hb => by
  rcases List.mem_cons.mp (I.stkSub b hb) with e | hb
  · rw [e]; exact I.free
  · obtain ⟨_, o, ho, _⟩ := I.ok.funs.mem hb
    exact I.base.free b o ho (I.ok.frf b hb) fun z => I.ok.exfs b z hb
/-- THE STEP: the untracked objects but the frame and the records at ch are kept (the callers' frames up to slots), the frame's map is kept, the new abstract heap is held -/
theorem Inv.step {g' : Array GenState} {t' : Nat} {d' : Drawn} {ch : List Addr} (I : Inv X pins σ H s)
    (hch : ∀ b ∈ ch, (b ∈ X.ex ∨ X.s₀.heap.objs.size ≤ b) ∧ b ≠ X.env.locals ∧ (∀ x c, X.env.cells.lookup x = some c → c ≠ b) ∧ ∀ p ∈ X.pn ++ pins, p.1 ≠ b)
    (keep : ∀ b o, b ≠ X.env.locals → b ∉ X.fs → b ∉ ch → s.heap.get? b = some o → H b = none → h'.get? b = some o)
    (slot : ∀ b o, b ≠ X.env.locals → b ∈ X.fs → b ∉ ch → s.heap.get? b = some o → H b = none → ∃ sl, h'.get? b = some { o with slots := sl }) (free : ∀ b o, b ∉ ch → s.heap.get? b = some o → H b = none → H' b = none)
    (there : ∀ b o, b ∉ ch → s.heap.get? b = some o → ∃ o', h'.get? b = some o')
    (tups : ∀ b xs, H b = some (.tup xs) → H' b = some (.tup xs)) (frzs : ∀ b o u, H b = some (.frz o u) → H' b = some (.frz o u)) (tbls : ∀ b ps, H b = some (.tbl ps) → ∃ more, H' b = some (.tbl (ps ++ more)))
    (ns : ∀ m, s.heap.Ns X.env.locals m → h'.Ns X.env.locals m) (hok : HOk X.prog X.w H' h') (hg : AllBare g') :
    Inv X pins σ H' { s with heap := h', gens := g', drawn := d', toks := t' } := by
  have neL : ∀ b o, X.s₀.heap.get? b = some o → b ≠ X.env.locals := fun b o e => Nat.ne_of_lt (Nat.lt_of_lt_of_le (Heap.lt_size e) I.ok.above)
  have neC : ∀ b o, X.s₀.heap.get? b = some o → b ∉ X.ex → b ∉ ch := fun b o e hx hb => by
    rcases (hch b hb).1 with z | z
    · exact hx z
    · exact absurd (Nat.lt_of_lt_of_le (Heap.lt_size e) z) (Nat.lt_irrefl _)
  have cellK : ∀ x c, X.env.cells.lookup x = some c → ∀ v, s.heap.IsCell c v → h'.IsCell c v := fun x c e v ⟨o, ho, hd⟩ => by
    have nch : c ∉ ch := fun z => (hch c z).2.2.1 x c e rfl
    by_cases hc : c ∈ X.fs
    · obtain ⟨sl, q⟩ := slot c o (I.cne x c e) hc nch ho (I.freeC x c e)
      exact ⟨_, q, hd⟩
    · exact ⟨o, keep c o (I.cne x c e) hc nch ho (I.freeC x c e), hd⟩
  refine ⟨I.ok, I.os, hg, ⟨fun b o e n hb hx => ?_, fun b o e n hb hx => ?_, fun b o e n hx => ?_, fun b o e hx => ?_, fun b xs e => tups b xs (I.base.tups b xs e), fun b o xs e => frzs b o xs (I.base.frzs b o xs e), fun b ps e => ?_⟩, ?_, fun x c e => ?_, ?_, fun x c e => ?_, fun p hp => ?_, hok, I.len⟩
  · exact keep b o (neL b o e) hb (neC b o e hx) (I.base.keep b o e n hb hx) (I.base.free b o e n hx)
  · obtain ⟨sl, e1⟩ := I.base.slot b o e n hb hx
    obtain ⟨sl', e2⟩ := slot b _ (neL b o e) hb (neC b o e hx) e1 (I.base.free b o e n hx)
    exact ⟨sl', e2⟩
  · obtain ⟨o', e1⟩ := I.base.there b o e hx
    exact free b o' (neC b o e hx) e1 (I.base.free b o e n hx)
  · obtain ⟨o', e1⟩ := I.base.there b o e hx
    exact there b o' (neC b o e hx) e1
  · obtain ⟨m1, e1⟩ := I.base.tbls b ps e
    obtain ⟨m2, e2⟩ := tbls b _ e1
    exact ⟨m1 ++ m2, by rw [e2, Array.append_assoc]⟩
  · obtain ⟨m, hn, hl⟩ := I.loc
    refine ⟨m, ns m hn, fun i x v e1 e2 e3 => ?_⟩
    obtain ⟨u, r, l⟩ := hl i x v e1 e2 e3
    refine ⟨u, r, ?_⟩
    rcases l with l | ⟨k, c, e, z⟩
    · exact .inl l
    · exact .inr ⟨k, c, e, cellK x c e _ z⟩
  · obtain ⟨v, z⟩ := I.cell x c e
    exact ⟨v, cellK x c e v z⟩
  · obtain ⟨m, ⟨o, _, _, ho, _⟩, _⟩ := I.loc
    exact free _ o (fun z => (hch _ z).2.1 rfl) ho I.free
  · obtain ⟨v, o, ho, hd⟩ := I.cell x c e
    exact free c o (fun z => (hch c z).2.2.1 x c e rfl) ho (I.freeC x c e)
  · obtain ⟨e, n, ne, nf, d⟩ := I.pin p hp
    have nch : p.1 ∉ ch := fun z => (hch p.1 z).2.2.2 p hp rfl
    exact ⟨keep p.1 p.2 ne nf nch e n, free p.1 p.2 nch e n, ne, nf, d⟩
/-- .. where the frame's own object is kept too -/
theorem Inv.un {t' : Nat} (I : Inv X pins σ H s) (u : Un X.fs [] H H' s.heap h') (hok : HOk X.prog X.w H' h') : Inv X pins σ H' { s with heap := h', toks := t' } := by
  obtain ⟨m, ⟨o, es, ep, ho, r⟩, _⟩ := id I.loc
  obtain ⟨sl, hL⟩ := u.any ho I.free (by simp)
  exact I.step (g' := s.gens) (d' := s.drawn) (ch := []) (fun _ z => nomatch z) (fun b o _ hb _ e n => u.keep b o e n hb (by simp)) (fun b o _ hb _ e n => u.slot b o e n hb (by simp)) (fun b o _ e n => u.free b o e n (by simp)) (fun b o _ e => u.there b o e (by simp)) u.tups u.frzs u.tbls (fun m' hm => by
    obtain ⟨o', es', ep', ho', r'⟩ := hm
    rw [ho] at ho'; cases ho'
    exact ⟨_, es', ep', hL, r'⟩) hok I.bare
/-- behind a call (or a comprehension's block): the slots of this frame may have changed too, the records at ch may have turned -/
theorem Inv.call {g' : Array GenState} {t' : Nat} {d' : Drawn} {ch : List Addr} (I : Inv X pins σ H s) (u : Un (frs X.stack) ch H H' s.heap h') (hok : HOk X.prog X.w H' h') (hg : AllBare g')
    (hch : ∀ b ∈ ch, (b ∈ X.ex ∨ X.s₀.heap.objs.size ≤ b) ∧ b ≠ X.env.locals ∧ (∀ x c, X.env.cells.lookup x = some c → c ≠ b) ∧ ∀ p ∈ X.pn ++ pins, p.1 ≠ b) :
    Inv X pins σ H' { s with heap := h', gens := g', drawn := d', toks := t' } := by
  obtain ⟨m, ⟨o, es, ep, ho, r⟩, _⟩ := id I.loc
  obtain ⟨sl, hL⟩ := u.any ho I.free fun z => (hch _ z).2.1 rfl
  exact I.step (ch := ch) hch (fun b o hL hb hc e n => u.keep b o e n (fun z => (List.mem_cons.mp (I.stkSub b z)).elim hL hb) hc) (fun b o _ _ hc e n => u.any e n hc) (fun b o hc e n => u.free b o e n hc) (fun b o hc e => u.there b o e hc) u.tups u.frzs u.tbls (fun m' hm => by
    obtain ⟨o', es', ep', ho', r'⟩ := hm
    rw [ho] at ho'; cases ho'
    exact ⟨_, es', ep', hL, r'⟩) hok hg
/-- an untracked record of ours (an iterator) has turned -/
theorem Inv.turned {t' : Nat} {it : Addr} (I : Inv X pins σ H s) (k : ∀ b o, b ≠ it → s.heap.get? b = some o → h'.get? b = some o) (hn : H it = none) (hL : it ≠ X.env.locals)
    (h1 : it ∈ X.ex ∨ X.s₀.heap.objs.size ≤ it) (h2 : ∀ x c, X.env.cells.lookup x = some c → c ≠ it) (h3 : ∀ p ∈ X.pn ++ pins, p.1 ≠ it) : Inv X pins σ H { s with heap := h', toks := t' } := by
  have nit : ∀ b u, H b = some u → b ≠ it := fun b u e z => by rw [z, hn] at e; cases e
  refine I.step (g' := s.gens) (d' := s.drawn) (ch := [it]) (fun b hb => ?_) (fun b o _ _ hc e _ => k b o (fun z => hc (by simp [z])) e) (fun b o _ _ hc e _ => ⟨o.slots, k b o (fun z => hc (by simp [z])) e⟩) (fun _ _ _ _ n => n)
    (fun b o hc e => ⟨o, k b o (fun z => hc (by simp [z])) e⟩) (fun _ _ e => e) (fun _ _ _ e => e) (fun b ps e => ⟨#[], by rw [e]; simp⟩) (fun m hm => ?_) (fun b u e => ?_) I.bare
  · have e : b = it := by simpa using hb
    subst e
    exact ⟨h1, hL, h2, h3⟩
  · obtain ⟨o, es, ep, ho, r⟩ := hm
    exact ⟨o, es, ep, k _ o (Ne.symm hL) ho, r⟩
  · refine (I.hok b u e).stay (fun c v hc q => k c v ?_ q) (fun _ q => q) fun _ _ q => q
    rcases hc with z | z
    · rw [z]; exact nit b u e
    · exact nit c _ z
theorem Inv.tok (I : Inv X pins σ H s) (t : Nat) : Inv X pins σ H { s with toks := t } := I.un (h' := s.heap) (t' := t) Un.refl I.hok
/-- all objects kept -/
theorem Inv.kept {t' : Nat} (I : Inv X pins σ H s) (k : ∀ b u, s.heap.get? b = some u → h'.get? b = some u) : Inv X pins σ H { s with heap := h', toks := t' } := I.un (Un.kept k) (I.hok.kept k)
/-- a new object laid and tracked -/
theorem Inv.laid {a : Addr} {o : HO} {t' : Nat} (I : Inv X pins σ H s) (k : ∀ b u, s.heap.get? b = some u → h'.get? b = some u) (hp : s.heap.objs.size ≤ a) (new : ObjOk X.prog X.w (upd H a o) h' a o) :
    Inv X pins σ (upd H a o) { s with heap := h', toks := t' } := I.un (Un.laid k hp (I.hok.fresh hp)) (I.hok.laid k hp new)
/-- an object written -/
theorem Inv.write {x e : Addr} {o : HO} {t' : Nat} (I : Inv X pins σ H s) (mu : Mut (H x)) (he : e = x ∨ H e = some (.own x)) (k : ∀ b u, b ≠ e → s.heap.get? b = some u → h'.get? b = some u) (heo : ∃ u, h'.get? e = some u)
    (new : ObjOk X.prog X.w (upd H x o) h' x o) : Inv X pins σ (upd H x o) { s with heap := h', toks := t' } := I.un (Un.write mu he k heo) (I.hok.write mu he k heo new)
/-- forgetting slots, pins -/
theorem Inv.weak {σ' : List (Option V)} (I : Inv X pins σ H s) (hl : σ'.length = σ.length) (w : ∀ (i : Nat) v, σ'[i]? = some (some v) → σ[i]? = some (some v)) : Inv X pins σ' H s :=
  ⟨I.ok, I.os, I.bare, I.base, let ⟨m, hn, hl'⟩ := I.loc; ⟨m, hn, fun i x v e1 e2 e3 => hl' i x v e1 (w i v e2) e3⟩, I.cell, I.free, I.freeC, I.pin, I.hok, hl.trans I.len⟩
theorem Inv.pins_of {pins' : List (Addr × Obj)} (I : Inv X pins σ H s) (h : ∀ p ∈ pins', s.heap.get? p.1 = some p.2 ∧ H p.1 = none ∧ p.1 ≠ X.env.locals ∧ p.1 ∉ X.fs ∧ ∀ v, p.2.data ≠ .cell v) : Inv X pins' σ H s :=
  ⟨I.ok, I.os, I.bare, I.base, I.loc, I.cell, I.free, I.freeC, fun p hp => (List.mem_append.mp hp).elim (fun z => I.pin p (List.mem_append_left _ z)) (h p), I.hok, I.len⟩
theorem nodup_ix {N : List Str} (hN : N.Nodup) {i j : Nat} {x : Str} (a : N[i]? = some x) (b : N[j]? = some x) : i = j := by
  obtain ⟨h1, e1⟩ := List.getElem?_eq_some_iff.mp a
  obtain ⟨h2, e2⟩ := List.getElem?_eq_some_iff.mp b
  exact (List.getElem_inj hN).mp (e1.trans e2.symm)
/-- a name is stored; what changed -/
theorem store_ok2 {M : Model} {A : Around} {E : Value → Shared → Prop} {i : Nat} {x : Str} {v : V} {u : Value} {Q : Unit → Shared → Prop} (I : Inv X pins σ H s) (hN : X.N.Nodup) (hi : X.N[i]? = some x) (hx : Loc X.env.scope x) (r : RelV v u)
    (h : ∀ s', Inv X pins (σ.set i (some v)) H s' → (∃ a, Heap.SameBut a s.heap s'.heap ∧ (a = X.env.locals ∨ X.env.cells.lookup x = some a)) → Q () s') (hf : X.fn x = true ∨ X.env.scope.names.lookup x = some .local := by first | exact .inl rfl | exact .inr rfl | assumption) : wpAny M A (storeName X.env x u) Q E s := by
  obtain ⟨m, hn, hl⟩ := id I.loc
  have hcls : (X.env.scope.kind == .class || (X.env.scope.kind == .module && X.env.locals != X.env.globals)) = false := by rw [I.ok.kind]; rfl
  have hiσ : i < σ.length := by rw [I.len]; exact (List.getElem?_eq_some_iff.mp hi).1
  have cne := I.cne
  have tracked : ∀ {a : Addr} {h' : Heap}, (∃ o, s.heap.get? a = some o ∧ H a = none) → Heap.SameBut a s.heap h' → HOk X.prog X.w H h' := fun {a h'} ha hs b ob e => by
    obtain ⟨_, _, hfree⟩ := ha
    refine (I.hok b ob e).stay (fun c w' hc q => (hs.2 c ?_).trans q) (fun _ q => q) fun _ _ q => q
    rintro rfl
    rcases hc with rfl | hc
    · rw [hfree] at e; cases e
    · rw [hfree] at hc; cases hc
  rcases hx with hk | hk
  · refine wpAny_storeName_local hk hn (fun h' hn' hs => ?_) hcls
    obtain ⟨oL, _, _, hoL, _⟩ := id hn
    refine h _ ⟨I.ok, I.os, I.bare, ⟨fun b o e n hb hx => ?_, fun b o e n hb hx => ?_, I.base.free, fun b o e hx => ?_, I.base.tups, I.base.frzs, I.base.tbls⟩, ⟨_, hn', fun j y v' e1 e2 e3 => ?_⟩, fun y c e => ?_, I.free, I.freeC, fun p hp => ?_, tracked ⟨oL, hoL, I.free⟩ hs, by simpa using I.len⟩ ⟨_, hs, .inl rfl⟩
    · exact (hs.2 b (Nat.ne_of_lt (Nat.lt_of_lt_of_le (Heap.lt_size e) I.ok.above))).trans (I.base.keep b o e n hb hx)
    · obtain ⟨sl, e1⟩ := I.base.slot b o e n hb hx
      exact ⟨sl, (hs.2 b (Nat.ne_of_lt (Nat.lt_of_lt_of_le (Heap.lt_size e) I.ok.above))).trans e1⟩
    · obtain ⟨o', e1⟩ := I.base.there b o e hx
      exact ⟨o', (hs.2 b (Nat.ne_of_lt (Nat.lt_of_lt_of_le (Heap.lt_size e) I.ok.above))).trans e1⟩
    · by_cases hj : j = i
      · subst hj
        rw [hi] at e1; cases e1
        rw [List.getElem?_set_self hiσ] at e2
        cases e2
        exact ⟨u, r, .inl ⟨hk, by simp⟩⟩
      · rw [List.getElem?_set_ne (Ne.symm hj)] at e2
        obtain ⟨u', r', q⟩ := hl j y v' e1 e2 e3
        refine ⟨u', r', ?_⟩
        rcases q with ⟨k, e⟩ | ⟨k, c, e, z⟩
        · refine .inl ⟨k, ?_⟩
          have : y ≠ x := fun e => hj (nodup_ix hN e1 (e ▸ hi))
          simp [this, e]
        · exact .inr ⟨k, c, e, z.sameBut hs (cne y c e)⟩
    · obtain ⟨w', z⟩ := I.cell y c e
      exact ⟨w', z.sameBut hs (cne y c e)⟩
    · obtain ⟨e, n, ne, nf, d⟩ := I.pin p hp
      exact ⟨(hs.2 p.1 ne).trans e, n, ne, nf, d⟩
  · have hfn : X.fn x = true := by
      rcases hf with z | z
      · exact z
      · rw [z] at hk; cases hk
    obtain ⟨c, hc⟩ := I.ok.has x (.inl hk)
    obtain ⟨w', z⟩ := I.cell x c hc
    refine wpAny_storeName_cell I.ok.kind hk hc z (fun h' hc' hs => ?_)
    obtain ⟨oc, hoc, hocd⟩ := id z
    refine h { s with heap := h' } ⟨I.ok, I.os, I.bare, ⟨fun b o e n hb hx => ?_, fun b o e n hb hx => ?_, I.base.free, fun b o e hx => ?_, I.base.tups, I.base.frzs, I.base.tbls⟩, ⟨m, hn.sameBut hs (Ne.symm (cne x c hc)), fun j y v' e1 e2 e3 => ?_⟩, fun y c' e => ?_, I.free, I.freeC, fun p hp => ?_, tracked ⟨oc, hoc, I.freeC x c hc⟩ hs, by simpa using I.len⟩ ⟨c, hs, .inr hc⟩
    · exact (hs.2 b (Nat.ne_of_lt (Nat.lt_of_lt_of_le (Heap.lt_size e) (I.ok.cab x c hfn hc)))).trans (I.base.keep b o e n hb hx)
    · obtain ⟨sl, e1⟩ := I.base.slot b o e n hb hx
      exact ⟨sl, (hs.2 b (Nat.ne_of_lt (Nat.lt_of_lt_of_le (Heap.lt_size e) (I.ok.cab x c hfn hc)))).trans e1⟩
    · obtain ⟨o', e1⟩ := I.base.there b o e hx
      exact ⟨o', (hs.2 b (Nat.ne_of_lt (Nat.lt_of_lt_of_le (Heap.lt_size e) (I.ok.cab x c hfn hc)))).trans e1⟩
    · by_cases hj : j = i
      · subst hj
        rw [hi] at e1; cases e1
        rw [List.getElem?_set_self hiσ] at e2
        cases e2
        exact ⟨u, r, .inr ⟨.inl hk, c, hc, hc'⟩⟩
      · rw [List.getElem?_set_ne (Ne.symm hj)] at e2
        obtain ⟨u', r', q⟩ := hl j y v' e1 e2 e3
        refine ⟨u', r', ?_⟩
        rcases q with q | ⟨k, c', e, z'⟩
        · exact .inl q
        · refine .inr ⟨k, c', e, z'.sameBut hs ?_⟩
          rintro rfl
          exact hj (nodup_ix hN e1 (I.ok.inj _ _ _ e hc ▸ hi))
    · by_cases hcc : c' = c
      · subst hcc; exact ⟨_, hc'⟩
      · obtain ⟨w2, z2⟩ := I.cell y c' e
        exact ⟨w2, z2.sameBut hs hcc⟩
    · obtain ⟨e, n, ne, nf, d⟩ := I.pin p hp
      refine ⟨(hs.2 p.1 ?_).trans e, n, ne, nf, d⟩
      intro q
      rw [q, hoc] at e
      have q' : oc = p.2 := Option.some.inj e
      exact d w' (by rw [← q']; exact hocd)
theorem store_ok {M : Model} {A : Around} {E : Value → Shared → Prop} {i : Nat} {x : Str} {v : V} {u : Value} {Q : Unit → Shared → Prop} (I : Inv X pins σ H s) (hN : X.N.Nodup) (hi : X.N[i]? = some x) (hx : Loc X.env.scope x) (r : RelV v u)
    (h : ∀ s', Inv X pins (σ.set i (some v)) H s' → Q () s') (hf : X.fn x = true ∨ X.env.scope.names.lookup x = some .local := by first | exact .inl rfl | exact .inr rfl | assumption) : wpAny M A (storeName X.env x u) Q E s :=
  store_ok2 I hN hi hx r (fun s' I' _ => h s' I') hf
/-- behind a call or a block, the state as it is -/
theorem Inv.call' {s' : Shared} {ch : List Addr} (I : Inv X pins σ H s) (ho : s'.os = s.os) (u : Un (frs X.stack) ch H H' s.heap s'.heap) (hok : HOk X.prog X.w H' s'.heap) (hg : AllBare s'.gens)
    (hch : ∀ b ∈ ch, (b ∈ X.ex ∨ X.s₀.heap.objs.size ≤ b) ∧ b ≠ X.env.locals ∧ (∀ x c, X.env.cells.lookup x = some c → c ≠ b) ∧ ∀ p ∈ X.pn ++ pins, p.1 ≠ b) : Inv X pins σ H' s' := by
  obtain ⟨h', g', d', t', o'⟩ := s'
  have e : o' = s.os := ho
  subst e
  exact I.call (g' := g') (t' := t') (d' := d') u hok hg hch
end
/-- an exception: its class, its own dict's address (where it has one), the abstract heap behind it -/
abbrev XK := Value → Option Addr → Hp → Prop
abbrev St := List (Option V)
abbrev VK := V → Hp → Prop
/-- an expression's reading; a test's; an argument list's -/
abbrev TE := St → Hp → VK → Prop
abbrev TT := St → Hp → (Bool → Hp → Prop) → Prop
abbrev TA := St → Hp → (List V → Hp → Prop) → Prop
/-- what is wanted behind a statement -/
structure Ends where
  nx : St → Hp → Prop
  rt : VK
  bk : St → Hp → Prop := fun _ _ => False
  ct : St → Hp → Prop := fun _ _ => False
abbrev TS := Ends → St → Hp → Prop
def EP (X : Cx) (pins : List (Addr × Obj)) (σ : St) (Q : VK) (u : Value) (s' : Shared) : Prop := ∃ v H', Inv X pins σ H' s' ∧ RelV v u ∧ Q v H'
def TP (X : Cx) (pins : List (Addr × Obj)) (σ : St) (Q : Bool → Hp → Prop) (b : Bool) (s' : Shared) : Prop := ∃ H', Inv X pins σ H' s' ∧ Q b H'
def AP (X : Cx) (pins : List (Addr × Obj)) (σ : St) (Q : List V → Hp → Prop) (us : List Value) (s' : Shared) : Prop := ∃ vs H', Inv X pins σ H' s' ∧ Vals vs us ∧ Q vs H'
def SP (X : Cx) (pins : List (Addr × Obj)) (D : Ends) (f : Flow) (s' : Shared) : Prop :=
  match f with
  | .next => ∃ σ' H', Inv X pins σ' H' s' ∧ D.nx σ' H'
  | .brk => ∃ σ' H', Inv X pins σ' H' s' ∧ D.bk σ' H'
  | .cont => ∃ σ' H', Inv X pins σ' H' s' ∧ D.ct σ' H'
  | .ret u => ∃ v σ' H', Inv X pins σ' H' s' ∧ RelV v u ∧ D.rt v H'
def PE (X : Cx) (e : Expr) (t : TE) : Prop :=
  ∀ (pins : List (Addr × Obj)) (s : Shared) (σ : St) (H : Hp) (Q : VK), Inv X pins σ H s → t σ H Q → wpAny (model X.prog X.w) X.A (eval e X.env) (EP X pins σ Q) X.xe s
def PT (X : Cx) (e : Expr) (t : TT) : Prop :=
  ∀ (pins : List (Addr × Obj)) (s : Shared) (σ : St) (H : Hp) (Q : Bool → Hp → Prop), Inv X pins σ H s → t σ H Q → wpAny (model X.prog X.w) X.A (isTrue e X.env (eval e X.env)) (TP X pins σ Q) X.xe s
/-- a test whatever its 'whole' is (and, or) -/
def PW (X : Cx) (e : Expr) (t : TT) : Prop :=
  ∀ (whole : Sem Value) (pins : List (Addr × Obj)) (s : Shared) (σ : St) (H : Hp) (Q : Bool → Hp → Prop), Inv X pins σ H s → t σ H Q → wpAny (model X.prog X.w) X.A (isTrue e X.env whole) (TP X pins σ Q) X.xe s
theorem PW.pt {X : Cx} {e : Expr} {t : TT} (h : PW X e t) : PT X e t := h _
/-- an argument list (no star), from the left -/
def PA (X : Cx) (es : List Expr) (t : TA) : Prop :=
  ∀ (pos : Pos) (pins : List (Addr × Obj)) (s : Shared) (σ : St) (H : Hp) (Q : List V → Hp → Prop), Inv X pins σ H s → t σ H Q → wpAny (model X.prog X.w) X.A (spliced (backTo pos (starEach es X.env))) (AP X pins σ Q) X.xe s
def PS (X : Cx) (st : Stmt) (t : TS) : Prop :=
  ∀ (pins : List (Addr × Obj)) (s : Shared) (σ : St) (H : Hp) (D : Ends), Inv X pins σ H s → t D σ H → wpAny (model X.prog X.w) X.A (exec st X.env) (SP X pins D) X.xe s
def PSs (X : Cx) (st : List Stmt) (t : TS) : Prop :=
  ∀ (pins : List (Addr × Obj)) (s : Shared) (σ : St) (H : Hp) (D : Ends), Inv X pins σ H s → t D σ H → wpAny (model X.prog X.w) X.A (execs st X.env) (SP X pins D) X.xe s
/-- weaken the end -/
theorem thn {α : Type} {t : Sem α} {Q Q' : α → Shared → Prop} {M : Model} {A : Around} {E : Value → Shared → Prop} {s : Shared} (h : wpAny M A t Q E s) (hQ : ∀ a s, Q a s → Q' a s) : wpAny M A t Q' E s := wpAny_mono h hQ fun _ _ x => x
end L2
namespace L2
open PySem PySem.Spec PyProof.Rows
section
variable {X : Cx}
def tVar (i : Nat) : TE := fun σ H Q => ∃ v, σ[i]? = some (some v) ∧ Q v H
def tC (v : V) : TE := fun _ H Q => Q v H
theorem pe_var {i : Nat} {x : Str} {pos : Pos} (hN : X.N[i]? = some x) (hv : Vis X.env.scope x) (hd : (x == ("__debug__" : Str)) = false := by decide) (hcd : (x == ("__classdict__" : Str)) = false := by decide) : PE X (.Name x pos) (tVar i) := by
  intro pins s σ H Q I h
  obtain ⟨v, e, h⟩ := h
  obtain ⟨m, hn, hl⟩ := I.loc
  obtain ⟨u, r, l⟩ := hl i x v hN e hv
  have fin : EP X pins σ Q u s := ⟨v, H, I, r, h⟩
  rcases l with ⟨hk, hm⟩ | ⟨hk, c, hc, hcell⟩
  · exact wpAny_Name (wpAny_loadName_local I.ok.kind hk hn hm fin) hd
  · rcases hk with hk | hk
    · exact wpAny_Name (wpAny_loadName_cell I.ok.kind hk hc hcell fin) hd
    · exact wpAny_Name (wpAny_loadName_free I.ok.kind hk hc hcell fin hcd) hd
theorem pe_int {i j pos} : PE X (.Constant (.int i) j pos) (tC (.int i)) := fun _ _ _ H _ I h => wpAny_Constant_int ⟨.int i, H, I.tok _, ⟨_, rfl⟩, h⟩
theorem pe_bl {b j pos} : PE X (.Constant (.bool b) j pos) (tC (.bl b)) := fun _ _ _ H _ I h => Constant_bool ⟨.bl b, H, I, rfl, h⟩
theorem pe_non {j pos} : PE X (.Constant .none j pos) (tC .non) := fun _ _ _ H _ I h => Constant_none ⟨.non, H, I, rfl, h⟩
theorem pe_str {x j pos} : PE X (.Constant (.str x) j pos) (tC (.str x)) := fun _ _ _ H _ I h => Calls.Constant_str ⟨.str x, H, I.tok _, ⟨_, rfl⟩, h⟩
/-- a global name of the def -/
def Gl (X : Cx) (x : Str) : Prop := X.env.kindOf x = some .globalImplicit
theorem ld_glob {E : Value → Shared → Prop} {pins : List (Addr × Obj)} {s : Shared} {σ : St} {H : Hp} {x : Str} {u : Value} {pos : Pos} {Q : Value → Shared → Prop} (I : Inv X pins σ H s) (hg : Gl X x) (hm : X.mg x = some u) (h : Q u s)
    (hd : (x == ("__debug__" : Str)) = false := by decide) : wpAny (model X.prog X.w) X.A (eval (.Name x pos) X.env) Q E s :=
  Calls.Name_function_global I.ok.kind hg (Calls.loadGlobal_global (by rw [I.ok.glob]; exact I.mod.glob.keeps I.bk) hm h) hd
theorem ld_blt {E : Value → Shared → Prop} {pins : List (Addr × Obj)} {s : Shared} {σ : St} {H : Hp} {x : Str} {u : Value} {pos : Pos} {Q : Value → Shared → Prop} (I : Inv X pins σ H s) (hg : Gl X x) (hm : X.mg x = none) (hv : bootBuiltins x = some u) (h : Q u s)
    (hn : x ≠ "__name__" := by decide) (hd : (x == ("__debug__" : Str)) = false := by decide) : wpAny (model X.prog X.w) X.A (eval (.Name x pos) X.env) Q E s := by
  obtain ⟨mb, h1, h2⟩ := I.mod.blt
  exact Calls.Name_function_global I.ok.kind hg (Calls.loadGlobal_builtin (by rw [I.ok.glob]; exact I.mod.glob.keeps I.bk) hm (by rw [I.ok.blt]; exact h1.keeps I.bk) ((h2 x hn).trans hv) h) hd
/-- a module's constant, a class, a function, as a value -/
theorem pe_glob {x : Str} {v : V} {u : Value} {pos : Pos} (hg : Gl X x) (hm : X.mg x = some u) (r : RelV v u) (hd : (x == ("__debug__" : Str)) = false := by decide) : PE X (.Name x pos) (tC v) :=
  fun _ _ _ H _ I h => ld_glob I hg hm ⟨v, H, I, r, h⟩ hd
theorem pe_bltn {x : Str} {v : V} {u : Value} {pos : Pos} (hg : Gl X x) (hm : X.mg x = none) (hv : bootBuiltins x = some u) (r : RelV v u) (hn : x ≠ "__name__" := by decide) (hd : (x == ("__debug__" : Str)) = false := by decide) : PE X (.Name x pos) (tC v) :=
  fun _ _ _ H _ I h => ld_blt I hg hm hv ⟨v, H, I, r, h⟩ hn hd
variable {a b : Expr} {ta tb : TE} {pos : Pos}
/-- a comparison as a value, as a test -/
def tB (t : TE) : TT := fun σ H Q => t σ H fun x H1 => ∃ c, x = .bl c ∧ Q c H1
/-- an expression whose value is a bool, as a test -/
theorem pt_val {e : Expr} {t : TE} (h : PE X e t) (he : ∀ whole, isTrue e X.env whole = (do let v ← whole; standAt e.pos; holding [v] (truthy v)) := by intro _; rfl) : PT X e (tB t) := by
  intro pins s σ H Q I hw
  refine isTrue_plain (thn (h pins s σ H _ I hw) fun v s1 ⟨x, H1, I1, r1, q1⟩ => ?_) (he _)
  obtain ⟨d, rfl, q⟩ := q1
  cases r1
  exact wpAny_truthy_bool ⟨H1, I1, q⟩
variable {tA tB' : TT} {rest : List Expr}
def tAnd (t u : TT) : TT := fun σ H Q => t σ H fun c H1 => if c = true then u σ H1 Q else Q false H1
def tOr (t u : TT) : TT := fun σ H Q => t σ H fun c H1 => if c = true then Q true H1 else u σ H1 Q
def tNot (t : TT) : TT := fun σ H Q => t σ H fun c H1 => Q (!c) H1
theorem pw_and1 (ha : PT X a tA) : PW X (.BoolOp .And [a] pos) tA := by
  intro wh pins s σ H Q I h
  refine isTrue_and (thn (ha pins s σ H Q I h) fun c s1 e => ?_)
  cases c with
  | true => exact isTrue_and_nil e
  | false => exact e
theorem pw_or1 (ha : PT X a tA) : PW X (.BoolOp .Or [a] pos) tA := by
  intro wh pins s σ H Q I h
  refine isTrue_or (thn (ha pins s σ H Q I h) fun c s1 e => ?_)
  cases c with
  | false => exact isTrue_or_nil e
  | true => exact e
theorem pw_and (ha : PT X a tA) (hb : PW X (.BoolOp .And (b :: rest) pos) tB') : PW X (.BoolOp .And (a :: b :: rest) pos) (tAnd tA tB') := by
  intro wh pins s σ H Q I h
  refine isTrue_and (thn (ha pins s σ H _ I h) fun c s1 ⟨H1, I1, q1⟩ => ?_)
  cases c with
  | true => exact hb wh pins s1 σ H1 Q I1 q1
  | false => exact ⟨H1, I1, q1⟩
theorem pw_or (ha : PT X a tA) (hb : PW X (.BoolOp .Or (b :: rest) pos) tB') : PW X (.BoolOp .Or (a :: b :: rest) pos) (tOr tA tB') := by
  intro wh pins s σ H Q I h
  refine isTrue_or (thn (ha pins s σ H _ I h) fun c s1 ⟨H1, I1, q1⟩ => ?_)
  cases c with
  | true => exact ⟨H1, I1, q1⟩
  | false => exact hb wh pins s1 σ H1 Q I1 q1
theorem pt_not (ha : PT X a tA) : PT X (.UnaryOp .Not a pos) (tNot tA) := by
  intro pins s σ H Q I h
  exact isTrue_not (ha pins s σ H (fun c H1 => Q (!c) H1) I h)
/-- .. as values (bools) -/
def tAndV (ta tb : TE) : TE := fun σ H Q => ta σ H fun x H1 => ∃ c, x = .bl c ∧ if c = true then tb σ H1 Q else Q (.bl false) H1
def tOrV (ta tb : TE) : TE := fun σ H Q => ta σ H fun x H1 => ∃ c, x = .bl c ∧ if c = true then Q (.bl true) H1 else tb σ H1 Q
def tNotV (ta : TE) : TE := fun σ H Q => ta σ H fun x H1 => ∃ c, x = .bl c ∧ Q (.bl (!c)) H1
theorem pe_one {op} {t : TE} (h : PE X a t) : PE X (.BoolOp op [a] pos) t := fun pins s σ H Q I hw => BoolOp_one (h pins s σ H Q I hw)
theorem pe_and (ha : PE X a ta) (hb : PE X (.BoolOp .And (b :: rest) pos) tb) : PE X (.BoolOp .And (a :: b :: rest) pos) (tAndV ta tb) := by
  intro pins s σ H Q I h
  refine BoolOp_and (thn (ha pins s σ H _ I h) fun v s1 ⟨x, H1, I1, r1, q1⟩ => ?_)
  obtain ⟨c, rfl, q1⟩ := q1
  cases r1
  refine wpAny_truthy_bool ?_
  cases c with
  | true => exact hb pins s1 σ H1 Q I1 q1
  | false => exact ⟨.bl false, H1, I1, rfl, q1⟩
theorem pe_or (ha : PE X a ta) (hb : PE X (.BoolOp .Or (b :: rest) pos) tb) : PE X (.BoolOp .Or (a :: b :: rest) pos) (tOrV ta tb) := by
  intro pins s σ H Q I h
  refine BoolOp_or (thn (ha pins s σ H _ I h) fun v s1 ⟨x, H1, I1, r1, q1⟩ => ?_)
  obtain ⟨c, rfl, q1⟩ := q1
  cases r1
  refine wpAny_truthy_bool ?_
  cases c with
  | false => exact hb pins s1 σ H1 Q I1 q1
  | true => exact ⟨.bl true, H1, I1, rfl, q1⟩
theorem pe_not (ha : PE X a ta) : PE X (.UnaryOp .Not a pos) (tNotV ta) := by
  intro pins s σ H Q I h
  refine UnaryOp_ (thn (ha pins s σ H _ I h) fun v s1 ⟨x, H1, I1, r1, q1⟩ => ?_)
  obtain ⟨c, rfl, q1⟩ := q1
  cases r1
  exact not_of (wpAny_truthy_bool ⟨.bl (!c), H1, I1, rfl, q1⟩)
end
end L2
namespace L2
open PySem PySem.Spec PyProof.Rows
def SqL (K : PySem.W.Frag) (H : Hp) (a : Addr) (xs : List V) : Prop :=
  Rd H a (.lst xs) ∨
    ∃ (o : Obj) (its : Array Value) (n : Nat), K.lookup a = some o ∧ o.cls = .type "list" ∧ o.dict = none ∧ o.data = .seq its n ∧ its.size ≤ sizeLine ∧ Vals xs its.toList
def SqT (K : PySem.W.Frag) (H : Hp) (a : Addr) (xs : List V) : Prop :=
  Rd H a (.tup xs) ∨
    ∃ (o : Obj) (its : Array Value) (n : Nat), K.lookup a = some o ∧ o.cls = .type "tuple" ∧ o.data = .seq its n ∧ its.size ≤ sizeLine ∧ Vals xs its.toList
def absV : Value → Option V
  | .none => some .non
  | .bool b => some (.bl b)
  | .int i _ => some (.int i)
  | .str x _ => some (.str x)
  | .bytes b _ => some (.byt b)
  | .float b _ => some (.flt b)
  | .ref a => some (.ref a)
  | .type n => some (.ty n)
  | _ => none
theorem RelV.abs {x : V} {u : Value} (r : RelV x u) : absV u = some x := by
  cases x with
  | non => cases r; rfl
  | bl _ => cases r; rfl
  | int _ => obtain ⟨t, rfl⟩ := r; rfl
  | str _ => obtain ⟨t, rfl⟩ := r; rfl
  | byt _ => obtain ⟨t, rfl⟩ := r; rfl
  | flt _ => obtain ⟨t, rfl⟩ := r; rfl
  | ref _ => cases r; rfl
  | ty _ => cases r; rfl
theorem RelV.inj {x y : V} {u : Value} (r : RelV x u) (q : RelV y u) : x = y := Option.some.inj (r.abs.symm.trans q.abs)
theorem Vals.inj : ∀ {xs ys : List V} {us : List Value}, Vals xs us → Vals ys us → xs = ys
  | _, _, _, .nil, .nil => rfl
  | _, _, _, .cons r t, .cons r' t' => by rw [r.inj r', Vals.inj t t']
section
variable {X : Cx} {pins : List (Addr × Obj)} {σ : St} {H : Hp} {s : Shared} {a : Addr} {xs ys : List V}
theorem SqL.of {K : PySem.W.Frag} (h : H a = some (.lst xs)) : SqL K H a xs := .inl (.inl h)
theorem SqT.of {K : PySem.W.Frag} (h : H a = some (.tup xs)) : SqT K H a xs := .inl (.inl h)
theorem Inv.list (I : Inv X pins σ H s) (h : SqL X.K H a xs) : ∃ its : List Value, Vals xs its ∧ PlainL s.heap a its.toArray ∧ xs.length ≤ sizeLine := by
  rcases h with h | ⟨o, its, n, hk, hc, hd, hs, hz, r⟩
  · obtain ⟨z, its, n, r, e⟩ := h.ok I.hok
    exact ⟨its, r, ⟨_, n, e, rfl, rfl, rfl⟩, z⟩
  · refine ⟨its.toList, r, ⟨o, n, I.kIn a o hk, hc, hd, by simpa using hs⟩, ?_⟩
    have e := r.length
    simp only [Array.length_toList] at e
    omega
theorem Inv.tuple (I : Inv X pins σ H s) (h : SqT X.K H a xs) : ∃ its : List Value, Vals xs its ∧ IsTup s.heap a its.toArray ∧ xs.length ≤ sizeLine := by
  rcases h with h | ⟨o, its, n, hk, hc, hs, hz, r⟩
  · obtain ⟨z, its, r, p⟩ := h.ok I.hok
    exact ⟨its, r, p.tup, z⟩
  · refine ⟨its.toList, r, ⟨o, I.kIn a o hk, hc, n, by simpa using hs⟩, ?_⟩
    have e := r.length
    simp only [Array.length_toList] at e
    omega
theorem Inv.list_inj (I : Inv X pins σ H s) (h : SqL X.K H a xs) (h' : SqL X.K H a ys) : xs = ys := by
  obtain ⟨its, r, ⟨o, n, e, _, _, d⟩, _⟩ := I.list h
  obtain ⟨its', r', ⟨o', n', e', _, _, d'⟩, _⟩ := I.list h'
  rw [e] at e'; cases e'
  rw [d] at d'
  injection d' with d1 _
  have : its = its' := by simpa using congrArg Array.toList d1
  subst this
  exact r.inj r'
theorem Inv.tuple_inj (I : Inv X pins σ H s) (h : SqT X.K H a xs) (h' : SqT X.K H a ys) : xs = ys := by
  obtain ⟨its, r, ⟨o, e, _, n, d⟩, _⟩ := I.tuple h
  obtain ⟨its', r', ⟨o', e', _, n', d'⟩, _⟩ := I.tuple h'
  rw [e] at e'; cases e'
  rw [d] at d'
  injection d' with d1 _
  have : its = its' := by simpa using congrArg Array.toList d1
  subst this
  exact r.inj r'
end
abbrev Cx.wish (X : Cx) (E : Value → Shared → Prop) : Cx := { X with xe := E }
/-- no exception leaves -/
abbrev Cx.nox (X : Cx) : Cx := X.wish fun _ _ => False
theorem Cx.Ok.wish {X : Cx} (ok : X.Ok) (E : Value → Shared → Prop) : (X.wish E).Ok :=
  ⟨ok.mod, ok.kind, ok.glob, ok.blt, ok.above, ok.inj, ok.has, ok.cab, ok.hd, ok.frames, ok.stk, ok.exf, ok.bs, ok.bsz, ok.noex, ok.exfs, ok.funs, ok.frf⟩
theorem Cx.Ok.unwish {X : Cx} {E : Value → Shared → Prop} (ok : (X.wish E).Ok) : X.Ok :=
  ⟨ok.mod, ok.kind, ok.glob, ok.blt, ok.above, ok.inj, ok.has, ok.cab, ok.hd, ok.frames, ok.stk, ok.exf, ok.bs, ok.bsz, ok.noex, ok.exfs, ok.funs, ok.frf⟩
section
variable {X : Cx} {pins : List (Addr × Obj)} {σ : St} {H : Hp} {s : Shared} {E : Value → Shared → Prop}
theorem Inv.wish (I : Inv X pins σ H s) (E : Value → Shared → Prop) : Inv (X.wish E) pins σ H s := ⟨I.ok.wish E, I.os, I.bare, I.base, I.loc, I.cell, I.free, I.freeC, I.pin, I.hok, I.len⟩
theorem Inv.unwish (I : Inv (X.wish E) pins σ H s) : Inv X pins σ H s := ⟨I.ok.unwish, I.os, I.bare, I.base, I.loc, I.cell, I.free, I.freeC, I.pin, I.hok, I.len⟩
theorem SP.unwish {D : Ends} {f : Flow} {s' : Shared} (h : SP (X.wish E) pins D f s') : SP X pins D f s' := by
  cases f with
  | next => obtain ⟨σ', H', I, q⟩ := h; exact ⟨σ', H', I.unwish, q⟩
  | brk => obtain ⟨σ', H', I, q⟩ := h; exact ⟨σ', H', I.unwish, q⟩
  | cont => obtain ⟨σ', H', I, q⟩ := h; exact ⟨σ', H', I.unwish, q⟩
  | ret u => obtain ⟨v, σ', H', I, r, q⟩ := h; exact ⟨v, σ', H', I.unwish, r, q⟩
theorem PE.nox {e : Expr} {t : TE} (h : PE X.nox e t) : PE X e t := fun pins s σ H Q I hw =>
  wpAny_mono (h pins s σ H Q (I.wish _) hw) (fun _ _ ⟨v, H', I', r, q⟩ => ⟨v, H', I'.unwish, r, q⟩) fun _ _ z => False.elim z
theorem PT.nox {e : Expr} {t : TT} (h : PT X.nox e t) : PT X e t := fun pins s σ H Q I hw =>
  wpAny_mono (h pins s σ H Q (I.wish _) hw) (fun _ _ ⟨H', I', q⟩ => ⟨H', I'.unwish, q⟩) fun _ _ z => False.elim z
theorem PSs.nox {st : List Stmt} {t : TS} (h : PSs X.nox st t) : PSs X st t := fun pins s σ H D I hw =>
  wpAny_mono (h pins s σ H D (I.wish _) hw) (fun _ _ q => q.unwish) fun _ _ z => False.elim z
end
section
variable {X : Cx} {st : Stmt} {rest : List Stmt} {t u : TS} {e : Expr} {te : TE} {pos : Pos}
def tNext : TS := fun D σ H => D.nx σ H
def tSeq (t u : TS) : TS := fun D σ H => t { D with nx := u D } σ H
theorem pss_nil : PSs X [] tNext := fun _ _ σ H _ I h => wpAny_execs_nil ⟨σ, H, I, h⟩
theorem pss_cons (h1 : PS X st t) (h2 : PSs X rest u) : PSs X (st :: rest) (tSeq t u) := by
  intro pins s σ H D I h
  refine wpAny_execs_cons (thn (h1 pins s σ H { D with nx := u D } I h) fun f s1 q => ?_)
  cases f with
  | next =>
    obtain ⟨σ', H', I', q⟩ := q
    exact h2 pins s1 σ' H' D I' q
  | ret v => exact q
  | brk => exact q
  | cont => exact q
theorem pss_one (h1 : PS X st t) : PSs X [st] t := by
  intro pins s σ H D I h
  refine wpAny_execs_cons (thn (h1 pins s σ H D I h) fun f s1 q => ?_)
  cases f with
  | next => exact wpAny_execs_nil q
  | ret v => exact q
  | brk => exact q
  | cont => exact q
/-- in a def's body nothing is shown -/
theorem Inv.quiet {pins : List (Addr × Obj)} {σ : St} {H : Hp} {s : Shared} (I : Inv X pins σ H s) : interactive X.env = false := by simp [interactive, I.ok.kind]
/-- an expression whose value is dropped -/
def tDrop (te : TE) : TS := fun D σ H => te σ H fun _ H1 => D.nx σ H1
theorem ps_expr (he : PE X e te) (hs : swapsWith e none pos.line X.env = pure false := by rfl) : PS X (.Expr e pos) (tDrop te) := by
  intro pins s σ H D I h
  exact wpAny_Expr_any (thn (he pins s σ H _ I h) fun v s1 ⟨x, H1, I1, r1, q1⟩ => ⟨σ, H1, I1, q1⟩) I.quiet hs
def tRet (te : TE) : TS := fun D σ H => te σ H D.rt
theorem ps_ret (he : PE X e te) : PS X (.Return (some e) pos) (tRet te) := by
  intro pins s σ H D I h
  exact wpAny_Return_some (thn (he pins s σ H _ I h) fun v s1 ⟨x, H1, I1, r1, q1⟩ => ⟨x, σ, H1, I1, r1, q1⟩)
def tIfS (c : TT) (t u : TS) : TS := fun D σ H => c σ H fun b H1 => if b = true then t D σ H1 else u D σ H1
theorem ps_if {c : Expr} {a b : List Stmt} {tc : TT} (hc : PT X c tc) (ha : PSs X a t) (hb : PSs X b u) : PS X (.If c a b pos) (tIfS tc t u) := by
  intro pins s σ H D I h
  refine wpAny_If (thn (hc pins s σ H _ I h) fun d s1 ⟨H1, I1, q1⟩ => ?_)
  cases d with
  | true => exact ha pins s1 σ H1 D I1 q1
  | false => exact hb pins s1 σ H1 D I1 q1
end
abbrev TG := V → St → Hp → (St → Hp → Prop) → Prop
abbrev TGs := List V → St → Hp → (St → Hp → Prop) → Prop
def PG (X : Cx) (target : Expr) (t : TG) : Prop :=
  ∀ (pins : List (Addr × Obj)) (s : Shared) (σ : St) (H : Hp) (v : V) (u : Value) (Q : St → Hp → Prop), Inv X pins σ H s → RelV v u → t v σ H Q →
    wpAny (model X.prog X.w) X.A (assign target X.env u) (fun _ s' => ∃ σ' H', Inv X pins σ' H' s' ∧ Q σ' H') X.xe s
/-- several targets, one after another -/
def PGs (X : Cx) (ts : List Expr) (t : TGs) : Prop :=
  ∀ (pins : List (Addr × Obj)) (s : Shared) (σ : St) (H : Hp) (vs : List V) (us : List Value) (Q : St → Hp → Prop), Inv X pins σ H s → Vals vs us → t vs σ H Q →
    wpAny (model X.prog X.w) X.A (assignInOrder ((assignEach ts X.env).map (·.2)) us) (fun _ s' => ∃ σ' H', Inv X pins σ' H' s' ∧ Q σ' H') X.xe s
/-- o[i] = v, by values -/
abbrev TSet := V → V → V → Hp → (Hp → Prop) → Prop
def PSet (X : Cx) (t : TSet) : Prop :=
  ∀ (pins : List (Addr × Obj)) (s : Shared) (σ : St) (H : Hp) (o i v : V) (ov iv u : Value) (Q : Hp → Prop), Inv X pins σ H s → RelV o ov → RelV i iv → RelV v u → t o i v H Q →
    wpAny (model X.prog X.w) X.A (setItem ov iv u) (fun _ s' => ∃ H', Inv X pins σ H' s' ∧ Q H') X.xe s
/-- a op= b, by values -/
abbrev TIp := V → V → Hp → VK → Prop
def PIp (X : Cx) (op : Operator) (t : TIp) : Prop :=
  ∀ (pins : List (Addr × Obj)) (s : Shared) (σ : St) (H : Hp) (x y : V) (v u : Value) (Q : VK), Inv X pins σ H s → RelV x v → RelV y u → t x y H Q →
    wpAny (model X.prog X.w) X.A (inplaceOp op v u) (EP X pins σ Q) X.xe s
section
variable {X : Cx} {pos : Pos}
def gName (i : Nat) : TG := fun v σ H Q => Q (σ.set i (some v)) H
theorem pg_name {i : Nat} {x : Str} (hN : X.N.Nodup) (hi : X.N[i]? = some x) (hx : Loc X.env.scope x) (hf : X.fn x = true ∨ X.env.scope.names.lookup x = some .local := by first | exact .inl rfl | exact .inr rfl | assumption) : PG X (.Name x pos) (gName i) := by
  intro pins s σ H v u Q I r h
  exact wpAny_assign_Name (store_ok I hN hi hx r (fun s' I' => ⟨_, H, I', h⟩) hf)
def gNil : TGs := fun vs σ H Q => vs = [] ∧ Q σ H
def gCons (t : TG) (u : TGs) : TGs := fun vs σ H Q => ∃ v r, vs = v :: r ∧ t v σ H fun σ' H' => u r σ' H' Q
theorem pgs_nil : PGs X [] gNil := by
  intro pins s σ H vs us Q I r h
  obtain ⟨e, h⟩ := h
  subst e
  cases r
  exact assignInOrder_nil ⟨σ, H, I, h⟩
theorem pgs_cons {e : Expr} {es : List Expr} {t : TG} {u : TGs} (h1 : PG X e t) (h2 : PGs X es u)
    (hs : (assignEach (e :: es) X.env).map (·.2) = assign e X.env :: (assignEach es X.env).map (·.2) := by rfl) : PGs X (e :: es) (gCons t u) := by
  intro pins s σ H vs us Q I r h
  obtain ⟨v, vr, e1, h⟩ := h
  subst e1
  cases r with
  | cons r rr =>
    rw [hs]
    refine assignInOrder_cons (thn (h1 pins s σ H _ _ _ I r h) fun _ s1 ⟨σ1, H1, I1, q1⟩ => ?_)
    exact h2 pins s1 σ1 H1 _ _ Q I1 rr q1
/-- (a, b, ..) = a tuple of that length -/
def gTup (K : PySem.W.Frag) (n : Nat) (t : TGs) : TG := fun v σ H Q => ∃ a xs, v = .ref a ∧ SqT K H a xs ∧ xs.length = n ∧ t xs σ H Q
theorem pg_tup {es : List Expr} {k : Nat} {t : TGs} {n : Nat} (hc : X.calm = true) (h : PGs X es t)
    (hn : (assignEach es X.env).length = n := by rfl) (hst : (assignEach es X.env).findIdx? (·.1) = none := by rfl) : PG X (.Tuple es k pos) (gTup X.K n t) := by
  intro pins s σ H v u Q I r hw
  obtain ⟨a, xs, e1, hq, hl, hw⟩ := hw
  subst e1
  cases r
  obtain ⟨its, rv, ht, hz⟩ := I.tuple hq
  refine assign_Tuple_tuple (I.ok.hd hc) ht (by simp [hn, ← hl, rv.length]) hst fun h' hx => ?_
  have I1 : Inv X pins σ H { s with heap := h' } := I.kept (t' := s.toks) fun b o e => hx b o (Nat.ne_of_lt (Heap.lt_size e)) e
  exact h pins _ σ H xs _ Q I1 (by simpa using rv) hw
/-- o[i] = .. -/
def gSub (to ti : TE) (t : TSet) : TG := fun v σ H Q => to σ H fun o H1 => ti σ H1 fun i H2 => t o i v H2 fun H3 => Q σ H3
theorem pg_sub {o i : Expr} {to ti : TE} {t : TSet} (ho : PE X o to) (hi : PE X i ti) (hs : PSet X t)
    (ha : ∀ v, assign (.Subscript o i pos) X.env v = (do
      let ov ← holding [v] (eval o X.env)
      let iv ← holding [v, ov] (eval i X.env)
      standAt pos
      holding [v, ov, iv] (setItem ov iv v)
      release [v, ov, iv] []) := by intro _; rfl) : PG X (.Subscript o i pos) (gSub to ti t) := by
  intro pins s σ H v u Q I r h
  rw [ha]
  refine wpAny_bind (wpAny_holding (thn (ho pins s σ H _ I h) fun ov s1 ⟨x, H1, I1, r1, q1⟩ => ?_))
  refine wpAny_bind (wpAny_holding (thn (hi pins s1 σ H1 _ I1 q1) fun iv s2 ⟨y, H2, I2, r2, q2⟩ => ?_))
  refine wpAny_bind (wpAny_standAt (wpAny_bind (wpAny_holding (thn (hs pins s2 σ H2 x y v ov iv u _ I2 r1 r2 r q2) fun _ s3 ⟨H3, I3, q3⟩ => ?_))))
  exact wpAny_release ⟨σ, H3, I3, q3⟩
/-- target = value -/
def tAsg (te : TE) (g : TG) : TS := fun D σ H => te σ H fun x H1 => g x σ H1 D.nx
theorem ps_asg {tg e : Expr} {te : TE} {g : TG} (he : PE X e te) (hg : PG X tg g) (hs : swapsWithSole [tg] e pos.line X.env = pure false := by rfl) (hw : swappedStores [tg] e X.env = pure none := by rfl)
    (h1 : (assignEach [tg] X.env).map (·.2) = [assign tg X.env] := by rfl) : PS X (.Assign [tg] e pos) (tAsg te g) := by
  intro pins s σ H D I h
  refine wpAny_Assign_stores (thn (he pins s σ H _ I h) fun v s1 ⟨x, H1, I1, r1, q1⟩ => ?_) hs hw
  rw [h1]
  exact thn (hg pins s1 σ H1 x v _ I1 r1 q1) fun _ s2 q => q
/-- name = value -/
theorem ps_set {i : Nat} {x : Str} {e : Expr} {te : TE} {pos' : Pos} (hN : X.N.Nodup) (hi : X.N[i]? = some x) (hx : Loc X.env.scope x) (he : PE X e te) (hs : swapsWith e (some (.Name x pos')) pos.line X.env = pure false := by rfl) (hf : X.fn x = true ∨ X.env.scope.names.lookup x = some .local := by first | exact .inl rfl | exact .inr rfl | assumption) :
    PS X (.Assign [.Name x pos'] e pos) (tAsg te (gName i)) := by
  intro pins s σ H D I h
  refine wpAny_Assign_Name (thn (he pins s σ H _ I h) fun v s1 ⟨y, H1, I1, r1, q1⟩ => ?_) hs
  exact store_ok I1 hN hi hx r1 (fun s2 I2 => ⟨_, H1, I2, q1⟩) hf
/-- name op= e -/
def tAug (i : Nat) (te : TE) (ti : TIp) : TS := fun D σ H => ∃ x, σ[i]? = some (some x) ∧ te σ H fun y H1 => ti x y H1 fun z H2 => D.nx (σ.set i (some z)) H2
theorem ps_aug {i : Nat} {x : Str} {e : Expr} {te : TE} {op : Operator} {ti : TIp} {pos' : Pos} (hN : X.N.Nodup) (hi : X.N[i]? = some x) (hx : Loc X.env.scope x) (he : PE X e te) (ho : PIp X op ti) (hf : X.fn x = true ∨ X.env.scope.names.lookup x = some .local := by first | exact .inl rfl | exact .inr rfl | assumption) :
    PS X (.AugAssign (.Name x pos') op e pos) (tAug i te ti) := by
  intro pins s σ H D I h
  obtain ⟨v, e1, h⟩ := h
  obtain ⟨m, hn, hl⟩ := I.loc
  have vis : Vis X.env.scope x := by rcases hx with k | k; exact .inl k; exact .inr (.inl k)
  obtain ⟨u, r, l⟩ := hl i x v hi e1 vis
  refine wpAny_AugAssign_Name ?_
  have go : wpAny (model X.prog X.w) X.A (eval e X.env) (fun w s₂ => wpAny (model X.prog X.w) X.A (inplaceOp op u w) (fun r s₃ => wpAny (model X.prog X.w) X.A (storeName X.env x r) (fun _ => SP X pins D .next) X.xe s₃) X.xe s₂) X.xe s := by
    refine thn (he pins s σ H _ I h) fun w s1 ⟨y, H1, I1, r1, q1⟩ => ?_
    refine thn (ho pins s1 σ H1 v y u w _ I1 r r1 q1) fun z s2 ⟨zv, H2, I2, r2, q2⟩ => ?_
    exact store_ok I2 hN hi hx r2 (fun s3 I3 => ⟨_, H2, I3, q2⟩) hf
  rcases l with ⟨hk, hm⟩ | ⟨hk, c, hc, hcell⟩
  · exact wpAny_loadName_local I.ok.kind hk hn hm go
  · rcases hk with hk | hk
    · exact wpAny_loadName_cell I.ok.kind hk hc hcell go
    · rcases hx with k | k
      · have : X.env.scope.names.lookup x = some .free := hk
        rw [k] at this; cases this
      · have : X.env.scope.names.lookup x = some .free := hk
        rw [k] at this; cases this
/-- ints -/
def ipI (f : Int → Int → Int) : TIp := fun x y H Q => ∃ i j, x = .int i ∧ y = .int j ∧ Q (.int (f i j)) H
theorem ip_add : PIp X .Add (ipI fun i j => i + j) := by
  intro pins s σ H x y v u Q I r1 r2 h
  obtain ⟨i, j, e1, e2, q⟩ := h
  subst e1; subst e2
  obtain ⟨t, rfl⟩ := r1
  obtain ⟨t', rfl⟩ := r2
  exact iadd_int ⟨.int _, H, I.tok _, ⟨_, rfl⟩, q⟩
end
section
variable {X : Cx} {pos : Pos}
/-- the invariant W with its measure -/
def tWhile (c : TT) (tb : TS) : TS := fun D σ H => ∃ W : Nat → St → Hp → Prop, (∃ m, W m σ H) ∧ ∀ m σ H, W m σ H →
  c σ H fun b H1 => if b = true then ∃ N : St → Hp → Prop, (∀ σ' H', N σ' H' → ∃ m', m' < m ∧ W m' σ' H') ∧ tb { D with nx := N, ct := N, bk := D.nx } σ H1 else D.nx σ H1
theorem ps_while {c : Expr} {body : List Stmt} {tc : TT} {tb : TS} (hp : PassesOwn (model X.prog X.w) X.A X.env X.xe) (hc : PT X c tc) (hb : PSs X body tb) : PS X (.While c body [] pos) (tWhile tc tb) := by
  intro pins s σ H D I h
  obtain ⟨W, ⟨m0, w0⟩, turn⟩ := h
  refine wpAny_While (codeAny_whileLoop (fun n s' => ∃ σ' H', Inv X pins σ' H' s' ∧ W n σ' H') ?_ m0 ⟨σ, H, I, w0⟩)
  rintro n s1 ⟨σ1, H1, I1, w1⟩
  refine wpAny_passesOwn hp (thn (hc pins s1 σ1 H1 _ I1 (turn n σ1 H1 w1)) fun b s2 ⟨H2, I2, q2⟩ => ?_)
  cases b with
  | true =>
    obtain ⟨N, hN, q2⟩ := q2
    rw [if_pos rfl]
    refine wpAny_passesOwn hp (thn (hb pins s2 σ1 H2 _ I2 q2) fun f s3 q3 => ?_)
    cases f with
    | next =>
      obtain ⟨σ3, H3, I3, n3⟩ := q3
      obtain ⟨m', hm, w3⟩ := hN σ3 H3 n3
      exact ⟨m', hm, σ3, H3, I3, w3⟩
    | cont =>
      obtain ⟨σ3, H3, I3, n3⟩ := q3
      obtain ⟨m', hm, w3⟩ := hN σ3 H3 n3
      exact ⟨m', hm, σ3, H3, I3, w3⟩
    | brk => exact q3
    | ret v => exact q3
  | false =>
    rw [if_neg Bool.false_ne_true]
    exact wpAny_execs_nil ⟨σ1, H2, I2, q2⟩
end
/-- at turn i: it yields x (the heap may grow), or it stops -/
structure It where
  go : Nat → Hp → Prop
  yld : Nat → Hp → V → Hp → Prop
  stop : Nat → Hp → Prop
/-- the iterator's own objects may turn: they are not the frame's, not pinned, younger than the entry (or a comprehension's own) -/
def FpOk (X : Cx) (pins : List (Addr × Obj)) (H : Hp) (b : Addr) : Prop :=
  H b = none ∧ b ≠ X.env.locals ∧ b ∉ X.fs ∧ (b ∈ X.ex ∨ X.s₀.heap.objs.size ≤ b) ∧ (∀ x c, X.env.cells.lookup x = some c → c ≠ b) ∧ ∀ p ∈ X.pn ++ pins, p.1 ≠ b
theorem Inv.fpOk {X : Cx} {pins : List (Addr × Obj)} {σ : St} {H H' : Hp} {s : Shared} {b : Addr} (I : Inv X pins σ H s) (hb : s.heap.objs.size ≤ b) (hn : H' b = none) : FpOk X pins H' b := by
  refine ⟨hn, Nat.ne_of_gt (Nat.lt_of_lt_of_le I.lt hb), I.nofs hb, .inr (Nat.le_trans I.sz hb), fun x c e z => ?_, fun p hp z => ?_⟩
  · obtain ⟨v, q⟩ := I.cell x c e
    exact absurd (Nat.lt_of_lt_of_le q.lt (by rw [z]; exact hb)) (Nat.lt_irrefl _)
  · exact absurd (Nat.lt_of_lt_of_le (Heap.lt_size (I.pin p hp).1) (by rw [z]; exact hb)) (Nat.lt_irrefl _)
structure Turn (P : Program) (w : World) (K : PySem.W.Frag) (tg : Expr) (J : It) (fp : List Addr) (it : Addr) (tn : Nat → Heap → Prop) : Prop where
  mem : it ∈ fp
  obj : ∀ i h, tn i h → ∀ b ∈ fp, ∃ o, h.get? b = some o ∧ ∀ v, o.data ≠ .cell v
  keep : ∀ i h h', tn i h → (∀ b ∈ fp, ∀ o, h.get? b = some o → h'.get? b = some o) → tn i h'
  item : ∀ (X : Cx), X.prog = P → X.w = w → X.K = K → X.calm = true → ∀ (i : Nat) (pins : List (Addr × Obj)) (s : Shared) (σ : St) (H : Hp) (E : Value → Shared → Prop), Inv X pins σ H s → (∀ b ∈ fp, FpOk X pins H b) → tn i s.heap → J.go i H →
    wpAny (model P w) X.A (pyNext (.ref it)) (fun r s1 => ∃ u, r = some u ∧
      wpAny (model P w) X.A (letOwnedTupleGo tg (.ref it) u) (fun _ s2 => ∃ x H', Inv X pins σ H' s2 ∧ RelV x u ∧ J.yld i H x H' ∧ tn (i + 1) s2.heap ∧ ∀ b ∈ fp, H' b = none) E s1) E s
  done : ∀ (X : Cx), X.prog = P → X.w = w → X.K = K → X.calm = true → ∀ (i : Nat) (pins : List (Addr × Obj)) (s : Shared) (σ : St) (H : Hp) (E : Value → Shared → Prop), Inv X pins σ H s → (∀ b ∈ fp, FpOk X pins H b) → tn i s.heap → J.stop i H →
    wpAny (model P w) X.A (pyNext (.ref it)) (fun r s1 => r = none ∧ Inv X pins σ H s1) E s
  self : ∀ (A : Around) (i : Nat) (s : Shared) (Q : Value → Shared → Prop) (E : Value → Shared → Prop), tn i s.heap → Q (.ref it) s → wpAny (model P w) A (pyIter (.ref it)) Q E s
abbrev TI := St → Hp → (It → Hp → Prop) → Prop
/-- an iterator has come -/
def PIE (X : Cx) (pins : List (Addr × Obj)) (σ : St) (tg : Expr) (R : It → Hp → Prop) (itv : Value) (s2 : Shared) : Prop :=
  ∃ (it : Addr) (fp : List Addr) (tn : Nat → Heap → Prop) (J : It) (H' : Hp), itv = .ref it ∧ Inv X pins σ H' s2 ∧ Turn X.prog X.w X.K tg J fp it tn ∧ tn 0 s2.heap ∧ (∀ b ∈ fp, FpOk X pins H' b) ∧ R J H'
def PI (X : Cx) (tg iter : Expr) (wi : TI) : Prop :=
  ∀ (pins : List (Addr × Obj)) (s : Shared) (σ : St) (H : Hp) (R : It → Hp → Prop), Inv X pins σ H s → wi σ H R →
    wpAny (model X.prog X.w) X.A (eval iter X.env) (fun v s1 => wpAny (model X.prog X.w) X.A (pyIter v) (PIE X pins σ tg R) X.xe s1) X.xe s
/-- the step ahead of the store is nothing for an iterator that keeps no tuple -/
theorem go_of {M : Model} {A : Around} {E : Value → Shared → Prop} {s : Shared} {tg : Expr} {it : Addr} {u : Value} {o : Obj} {n : String} {vs : Array Value} {Q : Unit → Shared → Prop} (ho : s.heap.get? it = some o) (hc : o.cls = .type n) (hd : o.data = .fields vs)
    (hn : ["enumerate", "zip", "dict_itemiterator", "dict_reverseitemiterator", "odict_iterator", "itertools.zip_longest", "itertools.pairwise"].contains n = false) (hQ : Q () s) : wpAny M A (letOwnedTupleGo tg (.ref it) u) Q E s := by
  unfold letOwnedTupleGo
  cases tg <;> first
    | exact wpAny_pure hQ
    | (cases u <;> first
        | exact wpAny_pure hQ
        | (refine wpAny_bind (wpAny_load ho ?_)
           rw [hc, hd]
           show wpAny M A (if (["enumerate", "zip", "dict_itemiterator", "dict_reverseitemiterator", "odict_iterator", "itertools.zip_longest", "itertools.pairwise"].contains n && vs[0]? == some (rawInt _)) = true then _ else _) Q E s
           rw [if_neg (by intro h; rw [hn, Bool.false_and] at h; cases h)]
           exact wpAny_pure hQ))
/-- the list at a, as it stands at each turn (a loop may append to it) -/
def Itl (K : PySem.W.Frag) (a : Addr) : It :=
  ⟨fun i H => ∃ xs x, SqL K H a xs ∧ xs[i]? = some x, fun i H x H' => H' = H ∧ ∀ xs, SqL K H a xs → xs[i]? = some x, fun i H => ∃ xs, SqL K H a xs ∧ xs.length ≤ i⟩
def Itt (K : PySem.W.Frag) (a : Addr) : It :=
  ⟨fun i H => ∃ xs x, SqT K H a xs ∧ xs[i]? = some x, fun i H x H' => H' = H ∧ ∀ xs, SqT K H a xs → xs[i]? = some x, fun i H => ∃ xs, SqT K H a xs ∧ xs.length ≤ i⟩
/-- lo, lo + 1, .. (n of them) -/
def Itr (lo : Int) (n : Nat) : It := ⟨fun i _ => i < n, fun i H x H' => H' = H ∧ x = .int (lo + i), fun i _ => n ≤ i⟩
theorem turn_list {P : Program} {w : World} {K : PySem.W.Frag} {tg : Expr} (a it : Addr) : Turn P w K tg (Itl K a) [it] it (fun i h => h.IsListIter it a i) where
  mem := by simp
  obj := fun i h st b hb => by
    have e : b = it := by simpa using hb
    subst e
    obtain ⟨o, e, c, d⟩ := st
    exact ⟨o, e, fun v z => by rw [d] at z; cases z⟩
  keep := fun i h h' st k => st.at fun o e => k it (by simp) o e
  item := by
    intro X hP hw hK hc i pins s σ H E I hf st hg
    subst hP hw hK
    obtain ⟨xs, x, hq, hx⟩ := hg
    obtain ⟨its, rv, p, hz⟩ := I.list hq
    obtain ⟨u, hu, ru⟩ := rv.get hx
    obtain ⟨f0, f1, f2, f3, f4, f5⟩ := hf it (by simp)
    refine wpAny_pyNext_list_item st p.isList (x := u) (by simpa using hu) fun h' st' sb => ?_
    have I1 : Inv X pins σ H { s with heap := h' } := I.turned (t' := s.toks) (fun b o hb e => (sb.2 b hb).trans e) f0 f1 f3 f4 f5
    obtain ⟨o, e, c, d⟩ := id st'
    exact ⟨u, rfl, go_of (s := { s with heap := h' }) e c d (by decide) ⟨x, H, I1, ru, ⟨rfl, fun ys hy => by rw [I.list_inj hy hq]; exact hx⟩, st', fun b hb => (hf b hb).1⟩⟩
  done := by
    intro X hP hw hK hc i pins s σ H E I hf st hg
    subst hP hw hK
    obtain ⟨xs, hq, hx⟩ := hg
    obtain ⟨its, rv, p, hz⟩ := I.list hq
    obtain ⟨f0, f1, f2, f3, f4, f5⟩ := hf it (by simp)
    have hl := rv.length
    exact wpAny_pyNext_list_end (I.ok.hd hc) st p.isList (by simp; omega) fun h' eb => ⟨rfl, I.turned (t' := s.toks) (fun b o hb e => eb b o hb e) f0 f1 f3 f4 f5⟩
  self := fun _ _ _ _ _ st h => wpAny_pyIter_listiter st h
theorem turn_tuple {P : Program} {w : World} {K : PySem.W.Frag} {tg : Expr} (a it : Addr) : Turn P w K tg (Itt K a) [it] it (fun i h => h.IsTupleIter it a i) where
  mem := by simp
  obj := fun i h st b hb => by
    have e : b = it := by simpa using hb
    subst e
    obtain ⟨o, e, c, d⟩ := st
    exact ⟨o, e, fun v z => by rw [d] at z; cases z⟩
  keep := fun i h h' st k => st.at fun o e => k it (by simp) o e
  item := by
    intro X hP hw hK hc i pins s σ H E I hf st hg
    subst hP hw hK
    obtain ⟨xs, x, hq, hx⟩ := hg
    obtain ⟨its, rv, p, hz⟩ := I.tuple hq
    obtain ⟨u, hu, ru⟩ := rv.get hx
    obtain ⟨f0, f1, f2, f3, f4, f5⟩ := hf it (by simp)
    refine wpAny_pyNext_tuple_item st (show s.heap.IsTuple a its.toArray from p) (x := u) (by simpa using hu) fun h' st' sb => ?_
    have I1 : Inv X pins σ H { s with heap := h' } := I.turned (t' := s.toks) (fun b o hb e => (sb.2 b hb).trans e) f0 f1 f3 f4 f5
    obtain ⟨o, e, c, d⟩ := id st'
    exact ⟨u, rfl, go_of (s := { s with heap := h' }) e c d (by decide) ⟨x, H, I1, ru, ⟨rfl, fun ys hy => by rw [I.tuple_inj hy hq]; exact hx⟩, st', fun b hb => (hf b hb).1⟩⟩
  done := by
    intro X hP hw hK hc i pins s σ H E I hf st hg
    subst hP hw hK
    obtain ⟨xs, hq, hx⟩ := hg
    obtain ⟨its, rv, p, hz⟩ := I.tuple hq
    obtain ⟨f0, f1, f2, f3, f4, f5⟩ := hf it (by simp)
    have hl := rv.length
    exact wpAny_pyNext_tuple_end (I.ok.hd hc) st (show s.heap.IsTuple a its.toArray from p) (by simp; omega) fun h' eb => ⟨rfl, I.turned (t' := s.toks) (fun b o hb e => eb b o hb e) f0 f1 f3 f4 f5⟩
  self := fun _ _ _ _ _ st h => wpAny_pyIter_tupleiter st h
theorem turn_range {P : Program} {w : World} {K : PySem.W.Frag} {tg : Expr} (it : Addr) (lo : Int) (n : Nat) : Turn P w K tg (Itr lo n) [it] it (fun i h => IsRangeIter h it (lo + (i : Nat) * 1) ((n : Int) - (i : Nat)) 1) where
  mem := by simp
  obj := fun i h st b hb => by
    have e : b = it := by simpa using hb
    subst e
    exact ⟨_, st, fun v z => by
      have z' : Data.fields _ = Data.cell v := z
      cases z'⟩
  keep := fun i h h' st k => k it (by simp) _ st
  item := by
    intro X hP hw hK hc i pins s σ H E I hf st hg
    subst hP hw hK
    obtain ⟨f0, f1, f2, f3, f4, f5⟩ := hf it (by simp)
    have W := Walks.range (prog := X.prog) (w := X.w) (I.ok.hd hc) it lo 1 n
    refine W.item i s _ _ hg st fun v h' tk hv st' kk => ?_
    obtain ⟨t, rfl⟩ := hv
    have I1 : Inv X pins σ H { s with heap := h', toks := tk } := I.turned (fun b o hb e => kk b o (by simpa using hb) e) f0 f1 f3 f4 f5
    refine ⟨_, rfl, go_of (s := { s with heap := h', toks := tk }) (n := "range_iterator") st' rfl rfl (by decide) ⟨.int (lo + i), H, I1, ⟨t, ?_⟩, ⟨rfl, rfl⟩, st', fun b hb => (hf b hb).1⟩⟩
    rw [Int.mul_one]
  done := by
    intro X hP hw hK hc i pins s σ H E I hf st hg
    subst hP hw hK
    obtain ⟨f0, f1, f2, f3, f4, f5⟩ := hf it (by simp)
    exact wpAny_pyNext_range_end (I.ok.hd hc) st (by have : n ≤ i := hg; omega) fun h' eb => ⟨rfl, I.turned (t' := s.toks) (fun b o hb e => eb b o hb e) f0 f1 f3 f4 f5⟩
  self := fun _ _ _ _ _ st h => wpAny_pyIter_rangeiter st h
end L2
namespace L2
open PySem PySem.Spec PyProof.Rows
section
variable {X : Cx} {tg : Expr}
def iList (K : PySem.W.Frag) (tl : TE) : TI := fun σ H R => tl σ H fun x H1 => ∃ a, x = .ref a ∧ (∃ xs, SqL K H1 a xs) ∧ R (Itl K a) H1
def iTup (K : PySem.W.Frag) (tl : TE) : TI := fun σ H R => tl σ H fun x H1 => ∃ a, x = .ref a ∧ (∃ xs, SqT K H1 a xs) ∧ R (Itt K a) H1
theorem pi_list {l : Expr} {tl : TE} (hl : PE X l tl) : PI X tg l (iList X.K tl) := by
  intro pins s σ H R I h
  refine thn (hl pins s σ H _ I h) fun v s1 ⟨x, H1, I1, r1, q1⟩ => ?_
  obtain ⟨a, e, ⟨xs, hq⟩, q⟩ := q1
  subst e
  cases r1
  obtain ⟨its, rv, p, hz⟩ := I1.list hq
  refine wpAny_pyIter_list p.isList ?_
  refine ⟨s1.heap.objs.size, [s1.heap.objs.size], _, _, H1, rfl, I1.kept (t' := s1.toks) fun b o e => Heap.get?_push_of_some _ e, turn_list a _, ⟨_, Heap.get?_push_size _ rfl, rfl, rfl⟩, fun b hb => ?_, q⟩
  have e : b = s1.heap.objs.size := by simpa using hb
  subst e
  exact I1.fpOk (Nat.le_refl _) (I1.hok.fresh (Nat.le_refl _))
theorem pi_tup {l : Expr} {tl : TE} (hl : PE X l tl) : PI X tg l (iTup X.K tl) := by
  intro pins s σ H R I h
  refine thn (hl pins s σ H _ I h) fun v s1 ⟨x, H1, I1, r1, q1⟩ => ?_
  obtain ⟨a, e, ⟨xs, hq⟩, q⟩ := q1
  subst e
  cases r1
  obtain ⟨its, rv, p, hz⟩ := I1.tuple hq
  refine wpAny_pyIter_tuple (show s1.heap.IsTuple a its.toArray from p) ?_
  refine ⟨s1.heap.objs.size, [s1.heap.objs.size], _, _, H1, rfl, I1.kept (t' := s1.toks) fun b o e => Heap.get?_push_of_some _ e, turn_tuple a _, ⟨_, Heap.get?_push_size _ rfl, rfl, rfl⟩, fun b hb => ?_, q⟩
  have e : b = s1.heap.objs.size := by simpa using hb
  subst e
  exact I1.fpOk (Nat.le_refl _) (I1.hok.fresh (Nat.le_refl _))
/-- a range object just made, walked -/
theorem range_it {pins : List (Addr × Obj)} {σ : St} {H : Hp} {s : Shared} {R : It → Hp → Prop} {E : Value → Shared → Prop} {lo hi : Int} {t u v : Tok} {tk : Nat} (I : Inv X pins σ H s) (h1 : -(2 ^ 62) ≤ lo) (h2 : lo < 2 ^ 62) (h3 : -(2 ^ 62) ≤ hi) (h4 : hi < 2 ^ 62)
    (q : R (Itr lo (hi - lo).toNat) H) : wpAny (model X.prog X.w) X.A (pyIter (.ref s.heap.objs.size)) (PIE X pins σ tg R) E { s with heap := s.heap.push { cls := .type "range", data := .fields #[.int lo t, .int hi u, .int 1 v] }, toks := tk } := by
  refine wpAny_pyIter_range (IsRange.new ..) (small_one h1 h2 h3 h4) ?_
  have I1 : Inv X pins σ H { s with heap := s.heap.push { cls := .type "range", data := .fields #[.int lo t, .int hi u, .int 1 v] }, toks := tk } := I.kept fun b o e => Heap.get?_push_of_some _ e
  refine ⟨(s.heap.push { cls := .type "range", data := .fields #[.int lo t, .int hi u, .int 1 v] }).objs.size, [(s.heap.push { cls := .type "range", data := .fields #[.int lo t, .int hi u, .int 1 v] }).objs.size], _, _, H, rfl,
    I1.kept (t' := tk) fun b o e => Heap.get?_push_of_some _ e, turn_range _ lo (hi - lo).toNat, ?_, fun b hb => ?_, q⟩
  · have e1 : lo + ((0 : Nat) : Int) * 1 = lo := by simp
    have e2 : (((hi - lo).toNat : Nat) : Int) - ((0 : Nat) : Int) = Builtin.Range.rangeSize lo hi 1 := by rw [rangeSize_one]; split <;> omega
    show IsRangeIter _ _ (lo + ((0 : Nat) : Int) * 1) ((((hi - lo).toNat : Nat) : Int) - ((0 : Nat) : Int)) 1
    rw [e1, e2]
    exact Heap.get?_push_size _ rfl
  · have e : b = (s.heap.push { cls := .type "range", data := .fields #[.int lo t, .int hi u, .int 1 v] }).objs.size := by simpa using hb
    subst e
    exact I1.fpOk (Nat.le_refl _) (I1.hok.fresh (Nat.le_refl _))
def iRng1 (ta : TA) : TI := fun σ H R => ta σ H fun vs H1 => ∃ j : Int, vs = [.int j] ∧ -(2 ^ 62) ≤ j ∧ j < 2 ^ 62 ∧ R (Itr 0 j.toNat) H1
def iRng2 (ta : TA) : TI := fun σ H R => ta σ H fun vs H1 => ∃ i j : Int, vs = [.int i, .int j] ∧ (-(2 ^ 62) ≤ i ∧ i < 2 ^ 62 ∧ -(2 ^ 62) ≤ j ∧ j < 2 ^ 62) ∧ R (Itr i (j - i).toNat) H1
theorem pi_range1 {a : Expr} {ta : TA} {p pos : Pos} (hg : Gl X "range") (hm : X.mg "range" = none) (ha : PA X [a] ta) (hs : starEach [a] X.env = [(false, eval a X.env)] := by rfl) : PI X tg (.Call (.Name "range" p) [a] [] pos) (iRng1 ta) := by
  intro pins s σ H R I h
  refine Call_ (ld_blt I hg hm boot_range (PyProof.Rows.callWith_type1 (thn (ha pos pins s σ H _ I h) fun us s1 ⟨vs, H1, I1, r1, q1⟩ => ?_) hs rfl))
  obtain ⟨j, e, q1, q2, q⟩ := q1
  subst e
  cases r1 with
  | cons r rr =>
    cases rr
    obtain ⟨t, rfl⟩ := r
    exact call_range_1 (range_it I1 (by omega) (by omega) q1 q2 (by simpa using q))
theorem pi_range2 {a b : Expr} {ta : TA} {p pos : Pos} (hg : Gl X "range") (hm : X.mg "range" = none) (ha : PA X [a, b] ta) (hs : starEach [a, b] X.env = [(false, eval a X.env), (false, eval b X.env)] := by rfl) (hs2 : starEach [b] X.env = [(false, eval b X.env)] := by rfl) :
    PI X tg (.Call (.Name "range" p) [a, b] [] pos) (iRng2 ta) := by
  intro pins s σ H R I h
  refine Call_ (ld_blt I hg hm boot_range (PyProof.Rows.callWith_type1 (thn (ha pos pins s σ H _ I h) fun us s1 ⟨vs, H1, I1, r1, q1⟩ => ?_) (by rw [hs, hs2]) (by rw [hs2]; rfl)))
  obtain ⟨i, j, e, ⟨q1, q2, q3, q4⟩, q⟩ := q1
  subst e
  cases r1 with
  | cons r rr =>
    cases rr with
    | cons r' rr =>
      cases rr
      obtain ⟨t, rfl⟩ := r
      obtain ⟨t', rfl⟩ := r'
      exact call_range_2 (range_it I1 q1 q2 q3 q4 q)
/-- W: the invariant by the turn and a measure; N: what the body is to reach -/
def tFor (wi : TI) (g : TG) (tb : TS) : TS := fun D σ H => wi σ H fun J H1 => ∃ W : Nat → Nat → St → Hp → Prop, (∃ m, W 0 m σ H1) ∧ ∀ i m σ H, W i m σ H →
  (J.stop i H ∧ D.nx σ H) ∨ (J.go i H ∧ ∃ N : St → Hp → Prop, (∀ σ' H', N σ' H' → ∃ m', m' < m ∧ W (i + 1) m' σ' H') ∧ ∀ x H', J.yld i H x H' → g x σ H' fun σ2 H2 => tb { D with nx := N, ct := N, bk := D.nx } σ2 H2)
/-- the records at fp as they stand -/
def pinsAt (fp : List Addr) (h : Heap) : List (Addr × Obj) := fp.filterMap fun b => (h.get? b).map fun o => (b, o)
theorem mem_pinsAt {fp : List Addr} {h : Heap} {b : Addr} {o : Obj} (hb : b ∈ fp) (e : h.get? b = some o) : (b, o) ∈ pinsAt fp h := List.mem_filterMap.mpr ⟨b, hb, by rw [e]; rfl⟩
theorem of_pinsAt {fp : List Addr} {h : Heap} {p : Addr × Obj} (hp : p ∈ pinsAt fp h) : p.1 ∈ fp ∧ h.get? p.1 = some p.2 := by
  obtain ⟨b, hb, e⟩ := List.mem_filterMap.mp hp
  cases q : h.get? b with
  | none => rw [q] at e; cases e
  | some o =>
    rw [q] at e
    have e' : (b, o) = p := Option.some.inj e
    subst e'
    exact ⟨hb, q⟩
theorem Inv.pinned {pins : List (Addr × Obj)} {σ : St} {H : Hp} {s : Shared} {fp : List Addr} (I : Inv X pins σ H s) (hf : ∀ b ∈ fp, FpOk X pins H b) (ho : ∀ b ∈ fp, ∃ o, s.heap.get? b = some o ∧ ∀ v, o.data ≠ .cell v) : Inv X (pins ++ pinsAt fp s.heap) σ H s :=
  I.pins_of fun p hp => (List.mem_append.mp hp).elim (fun z => I.pin p (List.mem_append_right _ z)) fun z => by
    obtain ⟨hb, e⟩ := of_pinsAt z
    obtain ⟨f0, f1, f2, _⟩ := hf p.1 hb
    obtain ⟨o, e', d⟩ := ho p.1 hb
    rw [e] at e'; cases e'
    exact ⟨e, f0, f1, f2, d⟩
theorem Inv.unpinned {pins pl : List (Addr × Obj)} {σ : St} {H : Hp} {s : Shared} (I : Inv X (pins ++ pl) σ H s) : Inv X pins σ H s := I.pins_of fun p hp => I.pin p (List.mem_append_right _ (List.mem_append_left _ hp))
theorem ps_for {iter : Expr} {body : List Stmt} {wi : TI} {g : TG} {tb : TS} {pos : Pos} (hp : PassesOwn (model X.prog X.w) X.A X.env X.xe) (hc : X.calm = true) (hi : PI X tg iter wi) (hg : PG X tg g) (hb : PSs X body tb)
    (hs : ∀ x, foldedSetIterable iter X.env x = pure x := by intro _; rfl) : PS X (.For tg iter body [] pos) (tFor wi g tb) := by
  intro pins s σ H D I h
  refine wpAny_For (thn (hi pins s σ H _ I h) fun v s1 h1 => thn h1 fun itv s2 h2 => ?_) hs
  obtain ⟨it, fp, tn, J, H2, e, I2, T, st2, f2, W, ⟨m0, w0⟩, turn⟩ := h2
  subst e
  -- what stays true of the iterator's objects through the loop
  have stat : ∀ {H' : Hp}, (∀ b ∈ fp, H' b = none) → ∀ b ∈ fp, FpOk X pins H' b := fun hn b hb => ⟨hn b hb, (f2 b hb).2⟩
  refine codeAny_forLoop_any (fun n s' => ∃ i σ' H', Inv X pins σ' H' s' ∧ tn i s'.heap ∧ (∀ b ∈ fp, H' b = none) ∧ W i n σ' H') ?_ m0 ⟨0, σ, H2, I2, st2, fun b hb => (f2 b hb).1, w0⟩
  rintro n s3 ⟨i, σ3, H3, I3, st3, fr3, w3⟩
  rcases turn i n σ3 H3 w3 with ⟨stop, qn⟩ | ⟨go, N, hN, step⟩
  · refine wpAny_passesOwn hp (thn (T.done X rfl rfl rfl hc i pins s3 σ3 H3 X.xe I3 (stat fr3) st3 stop) fun r s4 ⟨hr, I4⟩ => ?_)
    subst hr
    exact wpAny_execs_nil ⟨σ3, H3, I4, qn⟩
  · refine wpAny_passesOwn hp (thn (T.item X rfl rfl rfl hc i pins s3 σ3 H3 X.xe I3 (stat fr3) st3 go) fun r s4 ⟨u, hr, h4⟩ => ?_)
    subst hr
    refine wpAny_passesOwn hp (thn h4 fun _ s5 ⟨x, H5, I5, r5, y5, st5, fr5⟩ => ?_)
    have I5' := I5.pinned (stat fr5) (T.obj _ _ st5)
    refine wpAny_passesOwn hp (thn (hg _ s5 σ3 H5 x u _ I5' r5 (step x H5 y5)) fun _ s6 ⟨σ6, H6, I6, q6⟩ => ?_)
    refine wpAny_passesOwn hp (thn (hb _ s6 σ6 H6 _ I6 q6) fun f s7 q7 => ?_)
    have again : ∀ {σ7 : St} {H7 : Hp}, Inv X (pins ++ pinsAt fp s5.heap) σ7 H7 s7 → N σ7 H7 → ∃ m, m < n ∧ ∃ i σ' H', Inv X pins σ' H' s7 ∧ tn i s7.heap ∧ (∀ b ∈ fp, H' b = none) ∧ W i m σ' H' := fun {σ7 H7} I7 n7 => by
      obtain ⟨m', hm, w7⟩ := hN σ7 H7 n7
      refine ⟨m', hm, i + 1, σ7, H7, I7.unpinned, T.keep _ _ _ st5 fun b hb o e => (I7.pin (b, o) (List.mem_append_right _ (List.mem_append_right _ (mem_pinsAt hb e)))).1, fun b hb => ?_, w7⟩
      obtain ⟨o, e, d⟩ := T.obj _ _ st5 b hb
      exact (I7.pin (b, o) (List.mem_append_right _ (List.mem_append_right _ (mem_pinsAt hb e)))).2.1
    cases f with
    | next => obtain ⟨σ7, H7, I7, n7⟩ := q7; exact again I7 n7
    | cont => obtain ⟨σ7, H7, I7, n7⟩ := q7; exact again I7 n7
    | brk => obtain ⟨σ7, H7, I7, q7⟩ := q7; exact ⟨σ7, H7, I7.unpinned, q7⟩
    | ret v => obtain ⟨x7, σ7, H7, I7, r7, q7⟩ := q7; exact ⟨x7, σ7, H7, I7.unpinned, r7, q7⟩
end
/-- over a list that the body leaves as it is -/
theorem for_list {K : PySem.W.Frag} {a : Addr} {xs : List V} {g : TG} {tb : TS} {D : Ends} {σ : St} {H : Hp} (Pv : Nat → St → Hp → Prop) (h0 : Pv 0 σ H) (hl : ∀ i σ H, i ≤ xs.length → Pv i σ H → SqL K H a xs)
    (hs : ∀ i x σ H, xs[i]? = some x → Pv i σ H → g x σ H fun σ2 H2 => tb { D with nx := Pv (i + 1), ct := Pv (i + 1), bk := D.nx } σ2 H2) (hd : ∀ σ H, Pv xs.length σ H → D.nx σ H) :
    ∃ W : Nat → Nat → St → Hp → Prop, (∃ m, W 0 m σ H) ∧ ∀ i m σ H, W i m σ H →
      ((Itl K a).stop i H ∧ D.nx σ H) ∨ ((Itl K a).go i H ∧ ∃ N : St → Hp → Prop, (∀ σ' H', N σ' H' → ∃ m', m' < m ∧ W (i + 1) m' σ' H') ∧ ∀ x H', (Itl K a).yld i H x H' → g x σ H' fun σ2 H2 => tb { D with nx := N, ct := N, bk := D.nx } σ2 H2) := by
  refine ⟨fun i m σ H => m = xs.length - i ∧ i ≤ xs.length ∧ Pv i σ H, ⟨xs.length, by simp, Nat.zero_le _, h0⟩, ?_⟩
  rintro i m σ H ⟨rfl, hi, p⟩
  have q := hl i σ H hi p
  by_cases hlt : i < xs.length
  · refine .inr ⟨⟨xs, xs[i], q, by simp [hlt]⟩, Pv (i + 1), fun σ' H' p' => ⟨xs.length - (i + 1), by omega, rfl, hlt, p'⟩, fun x H' y => ?_⟩
    obtain ⟨e, y⟩ := y
    subst e
    exact hs i x σ _ (y xs q) p
  · have e : i = xs.length := by omega
    subst e
    exact .inl ⟨⟨xs, q, Nat.le_refl _⟩, hd σ H p⟩
theorem for_range {lo : Int} {n : Nat} {g : TG} {tb : TS} {D : Ends} {σ : St} {H : Hp} (Pv : Nat → St → Hp → Prop) (h0 : Pv 0 σ H)
    (hs : ∀ i σ H, i < n → Pv i σ H → g (.int (lo + i)) σ H fun σ2 H2 => tb { D with nx := Pv (i + 1), ct := Pv (i + 1), bk := D.nx } σ2 H2) (hd : ∀ σ H, Pv n σ H → D.nx σ H) :
    ∃ W : Nat → Nat → St → Hp → Prop, (∃ m, W 0 m σ H) ∧ ∀ i m σ H, W i m σ H →
      ((Itr lo n).stop i H ∧ D.nx σ H) ∨ ((Itr lo n).go i H ∧ ∃ N : St → Hp → Prop, (∀ σ' H', N σ' H' → ∃ m', m' < m ∧ W (i + 1) m' σ' H') ∧ ∀ x H', (Itr lo n).yld i H x H' → g x σ H' fun σ2 H2 => tb { D with nx := N, ct := N, bk := D.nx } σ2 H2) := by
  refine ⟨fun i m σ H => m = n - i ∧ i ≤ n ∧ Pv i σ H, ⟨n, by simp, Nat.zero_le _, h0⟩, ?_⟩
  rintro i m σ H ⟨rfl, hi, p⟩
  by_cases hlt : i < n
  · refine .inr ⟨hlt, Pv (i + 1), fun σ' H' p' => ⟨n - (i + 1), by omega, rfl, hlt, p'⟩, fun x H' y => ?_⟩
    obtain ⟨e, y⟩ := y
    subst e y
    exact hs i σ _ hlt p
  · have e : i = n := by omega
    subst e
    exact .inl ⟨Nat.le_refl _, hd σ H p⟩
end L2
namespace L2
open PySem PySem.Spec PyProof.Rows
abbrev R2 := V → V → Hp → VK → Prop
/-- a two-place operation on values: f is binaryOp op, inplaceOp op or compareOp op -/
def OpR (X : Cx) (f : Value → Value → Sem Value) (r : R2) : Prop :=
  ∀ (pins : List (Addr × Obj)) (s : Shared) (σ : St) (H : Hp) (x y : V) (v u : Value) (Q : VK), Inv X pins σ H s → RelV x v → RelV y u → r x y H Q →
    wpAny (model X.prog X.w) X.A (f v u) (EP X pins σ Q) X.xe s
/-- a call of a value that is known (a builtin, a type) with values -/
def CallR (X : Cx) (f : Value) (r : List V → Hp → VK → Prop) : Prop :=
  ∀ (pins : List (Addr × Obj)) (s : Shared) (σ : St) (H : Hp) (xs : List V) (us : List Value) (Q : VK), Inv X pins σ H s → Vals xs us → r xs H Q →
    wpAny (model X.prog X.w) X.A (call f us) (EP X pins σ Q) X.xe s
def tOp (r : R2) (ta tb : TE) : TE := fun σ H Q => ta σ H fun x H1 => tb σ H1 fun y H2 => r x y H2 Q
/-- ints in, under C, and a value out -/
def rI (C : Int → Int → Prop) (g : Int → Int → V) : R2 := fun x y H Q => ∃ i j, x = .int i ∧ y = .int j ∧ C i j ∧ Q (g i j) H
def rI0 (g : Int → Int → V) : R2 := fun x y H Q => ∃ i j, x = .int i ∧ y = .int j ∧ Q (g i j) H
section
variable {X : Cx} {a b c : Expr} {ta tb tc : TE} {pos : Pos}
theorem binT (ha : PE X a ta) (hb : PE X b tb) {pins : List (Addr × Obj)} {s : Shared} {σ : St} {H : Hp} {R : V → V → Hp → Prop} (I : Inv X pins σ H s)
    (h : ta σ H fun x H1 => tb σ H1 fun y H2 => R x y H2) {Q : Value → Shared → Prop} {f : Value → Value → Sem Value}
    (hf : ∀ v u s2 x y H2, Inv X pins σ H2 s2 → RelV x v → RelV y u → R x y H2 → wpAny (model X.prog X.w) X.A (f v u) Q X.xe s2) :
    wpAny (model X.prog X.w) X.A (eval a X.env) (fun v s₁ => wpAny (model X.prog X.w) X.A (eval b X.env) (fun u s₂ => wpAny (model X.prog X.w) X.A (f v u) Q X.xe s₂) X.xe s₁) X.xe s := by
  refine thn (ha pins s σ H _ I h) fun v s1 ⟨x, H1, I1, r1, q1⟩ => ?_
  refine thn (hb pins s1 σ H1 _ I1 q1) fun u s2 ⟨y, H2, I2, r2, q2⟩ => ?_
  exact hf v u s2 x y H2 I2 r1 r2 q2
theorem pe_op {op : Operator} {r : R2} (ho : OpR X (binaryOp op) r) (ha : PE X a ta) (hb : PE X b tb) : PE X (.BinOp a op b pos) (tOp r ta tb) := by
  intro pins s σ H Q I h
  exact wpAny_BinOp (binT ha hb I h fun v u s2 x y H2 I2 rx ry q => ho pins s2 σ H2 x y v u Q I2 rx ry q)
theorem opI {f : Value → Value → Sem Value} {C : Int → Int → Prop} {g : Int → Int → Int}
    (rule : ∀ (i j : Int) (t u : Tok) (s : Shared) (Q : Value → Shared → Prop) (E : Value → Shared → Prop), C i j → Q (.int (g i j) s.toks) { s with toks := s.toks + 1 } → wpAny (model X.prog X.w) X.A (f (.int i t) (.int j u)) Q E s) :
    OpR X f (rI C fun i j => .int (g i j)) := by
  intro pins s σ H x y v u Q I rx ry h
  obtain ⟨i, j, rfl, rfl, hc, q⟩ := h
  obtain ⟨t, rfl⟩ := rx
  obtain ⟨t', rfl⟩ := ry
  exact rule i j t t' s _ _ hc ⟨.int (g i j), H, I.tok _, ⟨_, rfl⟩, q⟩
theorem opI0 {f : Value → Value → Sem Value} {g : Int → Int → Int}
    (rule : ∀ (i j : Int) (t u : Tok) (s : Shared) (Q : Value → Shared → Prop) (E : Value → Shared → Prop), Q (.int (g i j) s.toks) { s with toks := s.toks + 1 } → wpAny (model X.prog X.w) X.A (f (.int i t) (.int j u)) Q E s) :
    OpR X f (rI0 fun i j => .int (g i j)) := by
  intro pins s σ H x y v u Q I rx ry h
  obtain ⟨i, j, rfl, rfl, q⟩ := h
  obtain ⟨t, rfl⟩ := rx
  obtain ⟨t', rfl⟩ := ry
  exact rule i j t t' s _ _ ⟨.int (g i j), H, I.tok _, ⟨_, rfl⟩, q⟩
theorem opB0 {f : Value → Value → Sem Value} {g : Int → Int → Bool}
    (rule : ∀ (i j : Int) (t u : Tok) (s : Shared) (Q : Value → Shared → Prop) (E : Value → Shared → Prop), Q (.bool (g i j)) s → wpAny (model X.prog X.w) X.A (f (.int i t) (.int j u)) Q E s) :
    OpR X f (rI0 fun i j => .bl (g i j)) := by
  intro pins s σ H x y v u Q I rx ry h
  obtain ⟨i, j, rfl, rfl, q⟩ := h
  obtain ⟨t, rfl⟩ := rx
  obtain ⟨t', rfl⟩ := ry
  exact rule i j t t' s _ _ ⟨.bl (g i j), H, I, rfl, q⟩
def CPow (i j : Int) : Prop := 0 ≤ j ∧ j ≤ 1000000 ∧ i.natAbs < 2 ^ 64
def CMul (i j : Int) : Prop := (-(2 ^ 64) < i ∧ i < 2 ^ 64) ∨ (-(2 ^ 64) < j ∧ j < 2 ^ 64)
theorem CMul.ok {i j : Int} (h : CMul i j) : IntMulOk i j := by
  rcases h with ⟨h1, h2⟩ | ⟨h1, h2⟩
  · exact .of_left (intBits_le_64 h1 h2)
  · exact .of_right (intBits_le_64 h1 h2)
theorem op_add : OpR X (binaryOp .Add) (rI0 fun i j => .int (i + j)) := opI0 fun _ _ _ _ _ _ _ q => add_int q
theorem op_sub : OpR X (binaryOp .Sub) (rI0 fun i j => .int (i - j)) := opI0 fun _ _ _ _ _ _ _ q => sub_int q
theorem op_mul : OpR X (binaryOp .Mult) (rI CMul fun i j => .int (i * j)) := opI fun _ _ _ _ _ _ _ hc q => mul_int q hc.ok
/-- % by a positive divisor of any size -/
theorem op_mod : OpR X (binaryOp .Mod) (rI (fun _ j => 0 < j) fun i j => .int (i % j)) := opI fun i j _ _ _ _ _ hc q => by
  have h1 : (0 : Int) < j := hc
  exact mod_int' (by omega) (by rw [Int.fmod_eq_emod_of_nonneg i (by omega)]; exact q)
theorem op_pow : OpR X (binaryOp .Pow) (rI CPow fun i j => .int (i ^ j.toNat)) := opI fun _ _ _ _ _ _ _ hc q => pow_int_small hc.1 hc.2.1 hc.2.2 q
end
/-- the scalars that == tells apart as data does -/
def scal : V → V → Bool
  | .non, .non => true | .non, .int _ => true | .int _, .non => true | .non, .bl _ => true | .bl _, .non => true | .non, .str _ => true | .str _, .non => true
  | .int _, .int _ => true | .bl _, .bl _ => true | .str _, .str _ => true | .byt _, .byt _ => true
  | .int _, .str _ => true | .str _, .int _ => true | .bl _, .str _ => true | .str _, .bl _ => true
  | _, _ => false
def rEq : R2 := fun x y H Q => scal x y = true ∧ Q (.bl (decide (x = y))) H
def rNe : R2 := fun x y H Q => scal x y = true ∧ Q (.bl (!decide (x = y))) H
theorem dec_int {i j : Int} : decide (V.int i = V.int j) = (i == j) := by
  rw [Bool.eq_iff_iff]
  simp
theorem dec_bl {i j : Bool} : decide (V.bl i = V.bl j) = (i == j) := by
  rw [Bool.eq_iff_iff]
  simp
theorem dec_str {i j : Str} : decide (V.str i = V.str j) = (i == j) := by
  rw [Bool.eq_iff_iff]
  simp
theorem dec_byt {i j : Array UInt8} : decide (V.byt i = V.byt j) = (i.toList == j.toList) := by
  rw [Bool.eq_iff_iff]
  cases i
  cases j
  simp
section
variable {X : Cx} {a b c : Expr} {ta tb tc : TE} {pos : Pos}
theorem fin_bl {pins : List (Addr × Obj)} {σ : St} {H : Hp} {s : Shared} {Q : VK} {k k' : Bool} (I : Inv X pins σ H s) (q : Q (.bl k) H) (e : k = k') : EP X pins σ Q (.bool k') s := by
  subst e
  exact ⟨.bl k, H, I, rfl, q⟩
theorem op_eq : OpR X (compareOp .Eq) rEq := by
  intro pins s σ H x y v u Q I rx ry h
  obtain ⟨hs, q⟩ := h
  cases x with
  | non =>
    cases rx
    cases y with
    | non => cases ry; exact PySem.EqNone.eq_none_none (fin_bl I q (by simp))
    | bl j => cases ry; exact PySem.EqNone.eq_none_bool (fin_bl I q (by simp))
    | int j => obtain ⟨t', rfl⟩ := ry; exact PySem.EqNone.eq_none_int (fin_bl I q (by simp))
    | str j => obtain ⟨t', rfl⟩ := ry; exact PySem.EqNone.eq_none_str (fin_bl I q (by simp))
    | _ => exact absurd (show false = true from hs) Bool.false_ne_true
  | bl i =>
    cases rx
    cases y with
    | non => cases ry; exact PySem.EqNone.eq_bool_none (fin_bl I q (by simp))
    | bl j => cases ry; exact eq_bool (fin_bl I q dec_bl)
    | str j => obtain ⟨t', rfl⟩ := ry; exact PySem.EqMixed.eq_bool_str (fin_bl I q (by simp))
    | _ => exact absurd (show false = true from hs) Bool.false_ne_true
  | int i =>
    obtain ⟨t, rfl⟩ := rx
    cases y with
    | non => cases ry; exact PySem.EqNone.eq_int_none (fin_bl I q (by simp))
    | int j => obtain ⟨t', rfl⟩ := ry; exact eq_int (fin_bl I q dec_int)
    | str j => obtain ⟨t', rfl⟩ := ry; exact PySem.EqMixed.eq_int_str (fin_bl I q (by simp))
    | _ => exact absurd (show false = true from hs) Bool.false_ne_true
  | str i =>
    obtain ⟨t, rfl⟩ := rx
    cases y with
    | non => cases ry; exact PySem.EqNone.eq_str_none (fin_bl I q (by simp))
    | bl j => cases ry; exact PySem.EqMixed.eq_str_bool (fin_bl I q (by simp))
    | int j => obtain ⟨t', rfl⟩ := ry; exact PySem.EqMixed.eq_str_int (fin_bl I q (by simp))
    | str j => obtain ⟨t', rfl⟩ := ry; exact eq_str (fin_bl I q dec_str)
    | _ => exact absurd (show false = true from hs) Bool.false_ne_true
  | byt i =>
    obtain ⟨t, rfl⟩ := rx
    cases y with
    | byt j => obtain ⟨t', rfl⟩ := ry; exact PySem.W.eq_bytes (fin_bl I q dec_byt)
    | _ => exact absurd (show false = true from hs) Bool.false_ne_true
  | _ => cases y <;> exact absurd (show false = true from hs) Bool.false_ne_true
theorem op_ne : OpR X (compareOp .NotEq) rNe := by
  intro pins s σ H x y v u Q I rx ry h
  obtain ⟨hs, q⟩ := h
  cases x with
  | non =>
    cases rx
    cases y with
    | non => cases ry; exact PySem.EqNone.ne_none_none (fin_bl I q (by simp))
    | bl j => cases ry; exact PySem.EqNone.ne_none_bool (fin_bl I q (by simp))
    | int j => obtain ⟨t', rfl⟩ := ry; exact PySem.EqNone.ne_none_int (fin_bl I q (by simp))
    | str j => obtain ⟨t', rfl⟩ := ry; exact PySem.EqNone.ne_none_str (fin_bl I q (by simp))
    | _ => exact absurd (show false = true from hs) Bool.false_ne_true
  | bl i =>
    cases rx
    cases y with
    | non => cases ry; exact PySem.EqNone.ne_bool_none (fin_bl I q (by simp))
    | bl j => cases ry; exact ne_bool (fin_bl I q (congrArg not dec_bl))
    | str j => obtain ⟨t', rfl⟩ := ry; exact PySem.EqMixed.ne_bool_str (fin_bl I q (by simp))
    | _ => exact absurd (show false = true from hs) Bool.false_ne_true
  | int i =>
    obtain ⟨t, rfl⟩ := rx
    cases y with
    | non => cases ry; exact PySem.EqNone.ne_int_none (fin_bl I q (by simp))
    | int j => obtain ⟨t', rfl⟩ := ry; exact ne_int (fin_bl I q (congrArg not dec_int))
    | str j => obtain ⟨t', rfl⟩ := ry; exact PySem.EqMixed.ne_int_str (fin_bl I q (by simp))
    | _ => exact absurd (show false = true from hs) Bool.false_ne_true
  | str i =>
    obtain ⟨t, rfl⟩ := rx
    cases y with
    | non => cases ry; exact PySem.EqNone.ne_str_none (fin_bl I q (by simp))
    | bl j => cases ry; exact PySem.EqMixed.ne_str_bool (fin_bl I q (by simp))
    | int j => obtain ⟨t', rfl⟩ := ry; exact PySem.EqMixed.ne_str_int (fin_bl I q (by simp))
    | str j => obtain ⟨t', rfl⟩ := ry; exact ne_str (fin_bl I q (congrArg not dec_str))
    | _ => exact absurd (show false = true from hs) Bool.false_ne_true
  | byt i =>
    obtain ⟨t, rfl⟩ := rx
    cases y with
    | byt j => obtain ⟨t', rfl⟩ := ry; exact PySem.W.ne_bytes (fin_bl I q (congrArg not dec_byt))
    | _ => exact absurd (show false = true from hs) Bool.false_ne_true
  | _ => cases y <;> exact absurd (show false = true from hs) Bool.false_ne_true
theorem op_lt : OpR X (compareOp .Lt) (rI0 fun i j => .bl (decide (i < j))) := opB0 fun _ _ _ _ _ _ _ q => lt_int q
theorem op_le : OpR X (compareOp .LtE) (rI0 fun i j => .bl (decide (i ≤ j))) := opB0 fun _ _ _ _ _ _ _ q => le_int q
theorem op_gt : OpR X (compareOp .Gt) (rI0 fun i j => .bl (decide (j < i))) := opB0 fun _ _ _ _ _ _ _ q => gt_int q
theorem op_ge : OpR X (compareOp .GtE) (rI0 fun i j => .bl (decide (j ≤ i))) := opB0 fun _ _ _ _ _ _ _ q => ge_int q
/-- is None, is not None: the right side a value none -/
theorem op_isN : OpR X (compareOp .Is) (fun x y H Q => y = .non ∧ Q (.bl (decide (x = .non))) H) := by
  intro pins s σ H x y v u Q I rx ry h
  obtain ⟨rfl, q⟩ := h
  cases ry
  refine is_none_gen (fin_bl I q ?_)
  cases x <;> first
    | (cases rx; rfl)
    | (obtain ⟨t, rfl⟩ := rx; rfl)
theorem op_notN : OpR X (compareOp .IsNot) (fun x y H Q => y = .non ∧ Q (.bl (!decide (x = .non))) H) := by
  intro pins s σ H x y v u Q I rx ry h
  obtain ⟨rfl, q⟩ := h
  cases ry
  refine isnot_none_gen (fin_bl I q ?_)
  cases x <;> first
    | (cases rx; rfl)
    | (obtain ⟨t, rfl⟩ := rx; rfl)
/-- two rules for one operation: by cases -/
theorem OpR.or {f : Value → Value → Sem Value} {r r' : R2} (h : OpR X f r) (h' : OpR X f r') : OpR X f (fun x y H Q => r x y H Q ∨ r' x y H Q) := by
  intro pins s σ H x y v u Q I rx ry q
  rcases q with q | q
  · exact h pins s σ H x y v u Q I rx ry q
  · exact h' pins s σ H x y v u Q I rx ry q
theorem nomark (b : Expr) {op : CmpOp} (h : op ≠ .In := by decide) (h2 : op ≠ .NotIn := by decide) : behindInMarks op b = false := by
  have e1 : (op == CmpOp.In) = false := by cases op <;> first | rfl | exact absurd rfl h
  have e2 : (op == CmpOp.NotIn) = false := by cases op <;> first | rfl | exact absurd rfl h2
  cases b <;> simp [behindInMarks, e1, e2]
/-- a comparison as a value; hm: nomark b, or (for in, not in) by with_unfolding_all rfl -/
theorem pe_cmpR {op : CmpOp} {r : R2} (ho : OpR X (compareOp op) r) (ha : PE X a ta) (hb : PE X b tb) (hm : behindInMarks op b = false) : PE X (.Compare a [op] [b] pos) (tOp r ta tb) := by
  intro pins s σ H Q I h
  exact wpAny_Compare1 (binT ha hb I h fun v u s2 x y H2 I2 rx ry q => ho pins s2 σ H2 x y v u Q I2 rx ry q) hm
/-- a reading of a value as a test -/
def tTest (t : TE) : TT := fun σ H Q => t σ H fun x H' => ∃ k, x = .bl k ∧ Q k H'
theorem pt_cmpR {op : CmpOp} {r : R2} (ho : OpR X (compareOp op) r) (ha : PE X a ta) (hb : PE X b tb) (hm : behindInMarks op b = false) : PT X (.Compare a [op] [b] pos) (tTest (tOp r ta tb)) := by
  intro pins s σ H Q I h
  refine wpAny_isTrue_Compare1 (thn (ha pins s σ H _ I h) fun v s1 ⟨x, H1, I1, r1, q1⟩ => thn (hb pins s1 σ H1 _ I1 q1) fun u s2 ⟨y, H2, I2, r2, q2⟩ =>
    thn (ho pins s2 σ H2 x y v u _ I2 r1 r2 q2) fun c s3 ⟨z, H3, I3, r3, k, e, q3⟩ => ?_) hm
  subst e
  cases r3
  exact wpAny_truthy_bool ⟨H3, I3, q3⟩
/-- a op1 b op2 c -/
def tChain (r r' : R2) (ta tb tc : TE) : TE := fun σ H Q => ta σ H fun x H1 => tb σ H1 fun y H2 => r x y H2 fun z H3 => ∃ k, z = .bl k ∧
  (if k = true then tc σ H3 fun w' H4 => r' y w' H4 Q else Q (.bl false) H3)
theorem pe_chain {op op' : CmpOp} {r r' : R2} (ho : OpR X (compareOp op) r) (ho' : OpR X (compareOp op') r') (ha : PE X a ta) (hb : PE X b tb) (hc : PE X c tc)
    (hm : lastMarks [op, op'] [b, c] = false := by with_unfolding_all rfl) : PE X (.Compare a [op, op'] [b, c] pos) (tChain r r' ta tb tc) := by
  intro pins s σ H Q I h
  refine Compare_chain (thn (ha pins s σ H _ I h) fun v s1 ⟨x, H1, I1, r1, q1⟩ => chain_link (thn (hb pins s1 σ H1 _ I1 q1) fun u s2 ⟨y, H2, I2, r2, q2⟩ =>
    thn (ho pins s2 σ H2 x y v u _ I2 r1 r2 q2) fun d s3 ⟨z, H3, I3, r3, k, e, q3⟩ => ?_)) hm
  subst e
  cases r3
  refine wpAny_truthy_bool ?_
  cases k with
  | false => exact ite_ff ⟨.bl false, H3, I3, rfl, q3⟩
  | true => exact ite_tt (chain_last (thn (hc pins s3 σ H3 _ I3 q3) fun w' s4 ⟨z', H4, I4, r4, q4⟩ => ho' pins s4 σ H4 y z' u w' Q I4 r2 r4 q4))
theorem pt_chain {op op' : CmpOp} {r r' : R2} (ho : OpR X (compareOp op) r) (ho' : OpR X (compareOp op') r') (ha : PE X a ta) (hb : PE X b tb) (hc : PE X c tc)
    (hm : lastMarks [op, op'] [b, c] = false := by with_unfolding_all rfl) : PT X (.Compare a [op, op'] [b, c] pos) (tTest (tChain r r' ta tb tc)) := by
  intro pins s σ H Q I h
  refine isTrue_chain (thn (ha pins s σ H _ I h) fun v s1 ⟨x, H1, I1, r1, q1⟩ => test_link (thn (hb pins s1 σ H1 _ I1 q1) fun u s2 ⟨y, H2, I2, r2, q2⟩ =>
    thn (ho pins s2 σ H2 x y v u _ I2 r1 r2 q2) fun d s3 ⟨z, H3, I3, r3, k, e, q3⟩ => ?_)) hm
  subst e
  cases r3
  refine wpAny_truthy_bool ?_
  cases k with
  | false =>
    obtain ⟨k', e', q'⟩ := q3
    cases e'
    exact ite_ff ⟨H3, I3, q'⟩
  | true =>
    refine ite_tt (test_last (thn (hc pins s3 σ H3 _ I3 q3) fun w' s4 ⟨z', H4, I4, r4, q4⟩ => thn (ho' pins s4 σ H4 y z' u w' _ I4 r2 r4 q4) fun d' s5 ⟨z2, H5, I5, r5, k2, e2, q5⟩ => ?_))
    subst e2
    cases r5
    exact wpAny_truthy_bool ⟨H5, I5, q5⟩
theorem line63 : (sizeLine : Nat) < 2 ^ 63 := by rw [sizeLine_eq]; decide
theorem vals1 {x : V} {us : List Value} (r : Vals [x] us) : ∃ u, us = [u] ∧ RelV x u := by
  cases r with
  | cons r1 r2 => cases r2; exact ⟨_, rfl, r1⟩
theorem vals2 {x y : V} {us : List Value} (r : Vals [x, y] us) : ∃ u w', us = [u, w'] ∧ RelV x u ∧ RelV y w' := by
  cases r with
  | cons r1 r2 =>
    cases r2 with
    | cons r3 r4 => cases r4; exact ⟨_, _, rfl, r1, r3⟩
theorem call_min2 (hc : X.calm = true) : CallR X (.builtin "min") (fun xs H Q => ∃ i j, xs = [.int i, .int j] ∧ Q (.int (if j < i then j else i)) H) := by
  intro pins s σ H xs us Q I r h
  obtain ⟨i, j, rfl, q⟩ := h
  obtain ⟨u, w', rfl, ⟨t, rfl⟩, ⟨t', rfl⟩⟩ := vals2 r
  refine min_two_ints (I.ok.hd hc) fun h' tk k => ⟨_, H, I.kept k, ?_, q⟩
  by_cases hj : j < i
  · rw [if_pos hj, if_pos hj]; exact ⟨_, rfl⟩
  · rw [if_neg hj, if_neg hj]; exact ⟨_, rfl⟩
theorem call_int1 : CallR X (.type "int") (fun xs H Q => (∃ i, xs = [.int i] ∧ Q (.int i) H) ∨ ∃ k, xs = [.bl k] ∧ Q (.int (if k then 1 else 0)) H) := by
  intro pins s σ H xs us Q I r h
  rcases h with ⟨i, rfl, q⟩ | ⟨k, rfl, q⟩
  · obtain ⟨u, rfl, t, rfl⟩ := vals1 r
    exact call_int_int ⟨.int i, H, I, ⟨_, rfl⟩, q⟩
  · obtain ⟨u, rfl, r1⟩ := vals1 r
    cases r1
    exact call_int_bool ⟨.int (if k then 1 else 0), H, I.tok _, ⟨_, rfl⟩, q⟩
/-- len of a str, a bytes, a list, a tuple -/
def LenV (K : PySem.W.Frag) (x : V) (H : Hp) (n : Nat) : Prop :=
  match x with
  | .str y => y.length ≤ sizeLine ∧ n = y.length
  | .byt y => y.size ≤ sizeLine ∧ n = y.size
  | .ref p => (∃ xs, SqL K H p xs ∧ n = xs.length) ∨ ∃ xs, SqT K H p xs ∧ n = xs.length
  | _ => False
theorem call_len : CallR X (.builtin "len") (fun xs H Q => ∃ x n, xs = [x] ∧ LenV X.K x H n ∧ Q (.int n) H) := by
  intro pins s σ H xs us Q I r h
  obtain ⟨x, n, rfl, e, q⟩ := h
  obtain ⟨u, rfl, rx⟩ := vals1 r
  have hl := line63
  have hs : sizeLine = 16777216 := sizeLine_eq
  cases x with
  | str y =>
    obtain ⟨t, rfl⟩ := rx
    obtain ⟨hy, e'⟩ : y.length ≤ sizeLine ∧ n = y.length := e
    subst e'
    exact len_str (by omega) ⟨.int _, H, I.tok _, ⟨_, rfl⟩, q⟩
  | byt y =>
    obtain ⟨t, rfl⟩ := rx
    obtain ⟨hy, e'⟩ : y.size ≤ sizeLine ∧ n = y.size := e
    subst e'
    exact PySem.W.len_bytes (by omega) ⟨.int _, H, I.tok _, ⟨_, rfl⟩, q⟩
  | ref p =>
    cases rx
    have e' : (∃ xs, SqL X.K H p xs ∧ n = xs.length) ∨ ∃ xs, SqT X.K H p xs ∧ n = xs.length := e
    rcases e' with ⟨xs, hx, e'⟩ | ⟨xs, hx, e'⟩
    · subst e'
      obtain ⟨its, r', pl, hz⟩ := I.list hx
      have hlen := r'.length
      exact Calls.call_len_list pl.isList (by simp only [List.size_toArray]; omega) ⟨.int xs.length, H, I.tok _, ⟨_, by simp only [List.size_toArray]; rw [hlen]⟩, q⟩
    · subst e'
      obtain ⟨its, r', pl, hz⟩ := I.tuple hx
      have hlen := r'.length
      exact len_tuple pl (by simp only [List.size_toArray]; omega) ⟨.int xs.length, H, I.tok _, ⟨_, by simp only [List.size_toArray]; rw [hlen]⟩, q⟩
  | _ => exact (show False from e).elim
end
end L2
namespace L2
open PySem PySem.Spec PyProof.Rows
structure ObjM (h : Heap) (x dx C : Addr) (mA : Str → Option Value) : Prop where
  obj : h.get? x = some (PySem.W.instObj C dx)
  ns : h.Ns1 dx mA
  ne : dx ≠ x
theorem lookIn_ns {h : Heap} {dx : Addr} {mA : Str → Option Value} (n : h.Ns1 dx mA) : ∃ od, h.get? dx = some od ∧ ∀ name, PySem.W.lookIn name od = some (mA name) := by
  obtain ⟨o, es, ep, ho, hd, hk, _, hm⟩ := n
  refine ⟨o, ho, fun name => ?_⟩
  have e := hm name
  unfold nsFind findBy at e
  rw [← Array.find?_toList] at e
  unfold PySem.W.lookIn
  rw [hd]
  dsimp only
  split
  · rename_i y q
    rw [q] at e
    exact congrArg some e
  · rename_i q
    rw [q] at e
    have a : es.toList.any (·.refKey) = false := by
      rw [List.any_eq_false]
      intro y hy
      obtain ⟨z, t, hkey⟩ := hk y (Array.mem_toList_iff.mp hy)
      simp [DictEntry.refKey, hkey]
    have a' : ¬ es.toList.any (·.refKey) = true := by rw [a]; exact Bool.false_ne_true
    rw [if_neg a']
    exact congrArg some e
theorem ObjM.look {h : Heap} {x dx C : Addr} {mA : Str → Option Value} (I : ObjM h x dx C mA) : ∃ od, PySem.W.InstAt h x (PySem.W.instObj C dx) C (some od) ∧ ∀ name, PySem.W.lookIn name od = some (mA name) :=
  let ⟨od, ho, hl⟩ := lookIn_ns I.ns
  ⟨od, ⟨I.obj, rfl, rfl, ho⟩, hl⟩
section
variable {prog : Program} {w : World} {A : Around} {E : Value → Shared → Prop} {s : Shared} {K : PySem.W.Frag} {x dx C f : Addr} {mA : Str → Option Value} {name : Str} {v : Value}
end
theorem RelO.none_of {o : Option Value} (r : RelO none o) : o = none := by
  cases o with
  | none => rfl
  | some u => exact (show False from r).elim
section
variable {P : Program} {w : World} {H H' : Hp} {h h' : Heap} {a C dx : Addr} {fs fs' : List (Str × V)}
theorem ins_get (hok : HOk P w H h) (e : H a = some (.ins C dx fs)) : ∃ mA, ObjM h a dx C mA ∧ (∀ f, RelO (fs.lookup f) (mA f)) ∧ PySem.Within mA (fs.map (·.1)) ∧ fs.length ≤ 1000 ∧ H dx = some (.own a) := by
  obtain ⟨d, z, ne, ob, mA, n, r, q⟩ := (show ObjOk P w H h a (.ins C dx fs) from hok a _ e)
  exact ⟨mA, ⟨ob, n, ne⟩, r, q, z, d⟩
end
structure Cls (K : PySem.W.Frag) (C : Addr) : Prop where
  pg : PySem.W.plainGet K C Str.empty = true
  hd : PySem.W.hasDictIn K C = true
  po : PySem.W.plainOver K C = true
  sa : PySem.W.findIn K (.ref C) "__setattr__" = some (some (.builtin "object.__setattr__"))
theorem Cls.get {K : PySem.W.Frag} {C : Addr} (c : Cls K C) (f : Str) : PySem.W.plainGet K C f = true := c.pg
/-- a constant of the class -/
structure Con (K : PySem.W.Frag) (C : Addr) (f : Str) (v : V) (u : Value) : Prop where
  at_ : PySem.W.findIn K (.ref C) f = some (some u)
  rel : RelV v u
  get : PySem.W.specialIn K u "__get__" = some none
  cp : PySem.W.copiedNames.contains f = false
/-- a method: a plain def of the class or of one above it -/
structure Meth (K : PySem.W.Frag) (C : Addr) (m : Str) (f : Addr) : Prop where
  at_ : PySem.W.findIn K (.ref C) m = some (some (.ref f))
  fn : PySem.W.isFn K (.ref f) = true
  kp : PySem.W.keepIn K (.ref f) = true
section
variable {X : Cx} {pins : List (Addr × Obj)} {σ : St} {H : Hp} {s : Shared} {a C dx : Addr} {fs : List (Str × V)} {f : Str} {v : V} {A : Around} {E : Value → Shared → Prop}
/-- a new instance, tracked, without attributes -/
theorem Inv.made (I : Inv X pins σ H s) : Inv X pins σ (upd (upd H s.heap.objs.size (.own (s.heap.objs.size + 1))) (s.heap.objs.size + 1) (.ins C s.heap.objs.size []))
    { s with heap := (s.heap.push PySem.W.emptyDict).push (PySem.W.instObj C s.heap.objs.size) } := by
  have e1 : (s.heap.push PySem.W.emptyDict).get? s.heap.objs.size = some PySem.W.emptyDict := Heap.get?_push_size s.heap rfl
  have e2 : ((s.heap.push PySem.W.emptyDict).push (PySem.W.instObj C s.heap.objs.size)).get? (s.heap.objs.size + 1) = some (PySem.W.instObj C s.heap.objs.size) := by
    have := Heap.get?_push_size (s.heap.push PySem.W.emptyDict) (o := PySem.W.instObj C s.heap.objs.size) rfl
    rwa [Heap.size_push] at this
  have e3 : (s.heap.push PySem.W.emptyDict).Ns s.heap.objs.size (fun _ => none) := ⟨PySem.W.emptyDict, #[], _, e1, rfl, (fun e he => absurd he (by simp)), fun _ => rfl⟩
  have I1 := I.laid (a := s.heap.objs.size) (o := .own (s.heap.objs.size + 1)) (h' := s.heap.push PySem.W.emptyDict) (t' := s.toks) (fun b u q => Heap.get?_push_of_some _ q) (Nat.le_refl _) ⟨_, e1⟩
  refine I1.laid (a := s.heap.objs.size + 1) (o := .ins C s.heap.objs.size []) (t' := s.toks) (fun b u q => Heap.get?_push_of_some _ q) (Nat.le_of_eq (Heap.size_push _ _)) ?_
  have ne : s.heap.objs.size ≠ s.heap.objs.size + 1 := Nat.ne_of_lt (Nat.lt_succ_self _)
  refine ⟨by rw [upd_ne ne, upd_same], Nat.zero_le _, ne, e2, fun _ => none, (Heap.Ns1.of_empty e3).at fun o q => Heap.get?_push_of_some _ q, fun _ => True.intro, fun y hy => absurd rfl hy⟩
end
section
variable {X : Cx} {o e value : Expr} {f : Str} {pos pos' tpos : Pos} {ta tv : TE}
end
section
variable {X : Cx} {pins : List (Addr × Obj)} {σ : St} {H : Hp} {s : Shared} {A : Around} {E : Value → Shared → Prop} {Q : Value → Shared → Prop} {c : Value} {b : Bool}
/-- the type of a value, as the fragment's deciders take it; for an instance its class -/
inductive TyOf (K : PySem.W.Frag) (H : Hp) : V → Value → Prop where
  | non : TyOf K H .non (.type "NoneType")
  | bl (x : Bool) : TyOf K H (.bl x) (.type "bool")
  | int (i : Int) : TyOf K H (.int i) (.type "int")
  | str (x : Str) : TyOf K H (.str x) (.type "str")
  | flt (x : UInt64) : TyOf K H (.flt x) (.type "float")
  | lst {a : Addr} {xs : List V} (e : H a = some (.lst xs)) : TyOf K H (.ref a) (.type "list")
  | frz {a : Addr} {o : Obj} {xs : List V} (e : H a = some (.frz o (.lst xs))) : TyOf K H (.ref a) (.type "list")
  | tup {a : Addr} {xs : List V} (e : H a = some (.tup xs)) : TyOf K H (.ref a) (.type "tuple")
  | dK {a : Addr} {kvs : List (Key × V)} (e : H a = some (.dK kvs)) : TyOf K H (.ref a) (.type "dict")
  | dT {a : Addr} {kvs : List (List Key × V)} (e : H a = some (.dT kvs)) : TyOf K H (.ref a) (.type "dict")
  | ins {a C dx : Addr} {fs : List (Str × V)} (e : H a = some (.ins C dx fs)) (cl : Cls K C) (ha : PySem.W.findIn K (.ref C) "__class__" = some (some (.builtin "object.__class__")))
      (hn : PySem.W.specialIn K (.builtin "object.__class__") "__get__" = some (some (.builtin "getset_descriptor.__get__"))) (htk : PySem.W.takesIn K (.builtin "object.__class__") = some true)
      (hm : PySem.W.mroIn K C (.type "object") = some true) : TyOf K H (.ref a) (.ref C)
/-- isinstance(x, c) for one class c, a built-in or an own one: kitOne's answer -/
theorem isinst_ok {x : V} {u t : Value} (I : Inv X pins σ H s) (rx : RelV x u) (ty : TyOf X.K H x t) (e : PySem.W.kitOne X.K t c = some b) (h : ∀ tk, Q (.bool b) { s with toks := tk }) :
    wpAny (model X.prog X.w) A (call (.builtin "isinstance") [u, c]) Q E s := by
  cases ty with
  | non => cases (show u = Value.none from rx); exact PySem.W.kia_one PySem.W.kitx_none I.kIn True.intro e (fun z => nomatch z) h
  | bl y => cases (show u = Value.bool y from rx); exact PySem.W.kia_one PySem.W.kitx_bool I.kIn True.intro e (fun z => nomatch z) h
  | int i => obtain ⟨t, q⟩ := (show ∃ t, u = Value.int i t from rx); cases q; exact PySem.W.kia_one PySem.W.kitx_int I.kIn True.intro e (fun z => nomatch z) h
  | str y => obtain ⟨t, q⟩ := (show ∃ t, u = Value.str y t from rx); cases q; exact PySem.W.kia_one PySem.W.kitx_str I.kIn True.intro e (fun z => nomatch z) h
  | flt y => obtain ⟨t, q⟩ := (show ∃ t, u = Value.float y t from rx); cases q; exact PySem.W.kia_one PySem.W.kitx_float I.kIn True.intro e (fun z => nomatch z) h
  | @lst a xs ea =>
    cases (show u = Value.ref a from rx)
    obtain ⟨_, _, n, _, h1⟩ := (show ObjOk X.prog X.w H s.heap a (.lst xs) from I.hok a _ ea)
    exact PySem.W.kia_one PySem.W.kitx_list I.kIn ⟨_, h1, rfl⟩ e (fun z => nomatch z) h
  | @frz a ob xs ea =>
    cases (show u = Value.ref a from rx)
    obtain ⟨_, _, _, n, _, h1⟩ := (show ObjOk X.prog X.w H s.heap a (.frz ob (.lst xs)) from I.hok a _ ea)
    exact PySem.W.kia_one PySem.W.kitx_list I.kIn ⟨_, h1, rfl⟩ e (fun z => nomatch z) h
  | @tup a xs ea =>
    cases (show u = Value.ref a from rx)
    obtain ⟨_, _, _, p⟩ := (show ObjOk X.prog X.w H s.heap a (.tup xs) from I.hok a _ ea)
    obtain ⟨o, h1, h2, _⟩ := p
    exact PySem.W.kia_one PySem.W.kitx_tuple I.kIn ⟨o, h1, h2⟩ e (fun z => nomatch z) h
  | @dK a kvs ea =>
    cases (show u = Value.ref a from rx)
    obtain ⟨_, _, vs, _, p⟩ := (show ObjOk X.prog X.w H s.heap a (.dK kvs) from I.hok a _ ea)
    obtain ⟨o, es, ep, h1, h2, _⟩ := p
    exact PySem.W.kia_one PySem.W.kitx_dict I.kIn ⟨o, h1, h2.1⟩ e (fun z => nomatch z) h
  | @dT a kvs ea => exact False.elim (show ObjOk X.prog X.w H s.heap a (.dT kvs) from I.hok a _ ea)
  | @ins a C dx fs ea cl ha hn htk hm =>
    cases (show u = Value.ref a from rx)
    obtain ⟨mA, O, _⟩ := ins_get I.hok ea
    obtain ⟨od, J, _⟩ := O.look
    exact PySem.W.kia_one (PySem.W.kitx_own (cl.get _) cl.hd ha hn htk hm) I.kIn J e (fun z => nomatch z) h
end
end L2
namespace L2
open PySem PySem.Spec PyProof.Rows
structure Room (k : Nat) (A : Around) : Prop where
  hd : A.handled = none
  dp : A.depth + 3 * k + 5 < recursionLimit
  un : A.units + 16 * k + 200 < cLine
theorem Room.mono {j k : Nat} {A : Around} (r : Room k A) (h : j ≤ k) : Room j A := ⟨r.hd, by have := r.dp; omega, by have := r.un; omega⟩
theorem Room.deeper {k : Nat} {A : Around} (r : Room (k + 1) A) (env : Env) : Room k (A.deeper env) :=
  ⟨r.hd, by have := r.dp; show A.depth + 1 + 3 * k + 5 < _; omega, by have := r.un; show A.units + 3 + 16 * k + 200 < _; omega⟩
theorem Room.in1 {k : Nat} {A : Around} (r : Room (k + 1) A) : Room k A.in1 :=
  ⟨r.hd, by have := r.dp; show A.depth + 3 * k + 5 < _; omega, by have := r.un; show A.units + 1 + 16 * k + 200 < _; omega⟩
theorem Room.depth {k : Nat} {A : Around} (r : Room k A) : A.depth < recursionLimit := by have := r.dp; omega
theorem Room.units {k : Nat} {A : Around} (r : Room k A) : A.units + 64 < cLine := by have := r.un; omega
def tNil : TA := fun _ H Q => Q [] H
def tCons (ta : TE) (tr : TA) : TA := fun σ H Q => ta σ H fun x H1 => tr σ H1 fun xs H2 => Q (x :: xs) H2
section
variable {X : Cx} {e : Expr} {es : List Expr} {te : TE} {t : TA} {pos : Pos}
theorem pa_nil : PA X [] tNil := fun _ _ _ _ H Q I h => Calls.spliced_nil ⟨[], H, I, .nil, h⟩
theorem pa_cons (ha : PE X e te) (hr : PA X es t) (hs : starEach (e :: es) X.env = (false, eval e X.env) :: starEach es X.env := by rfl) : PA X (e :: es) (tCons te t) := by
  intro pos pins s σ H Q I h
  rw [hs]
  show wpAny _ _ (spliced ((false, eval e X.env) :: backTo pos (starEach es X.env))) _ _ s
  refine Calls.spliced_cons (thn (ha pins s σ H _ I h) fun u s1 ⟨x, H1, I1, r1, q1⟩ => ?_)
  exact thn (hr pos pins s1 σ H1 _ I1 q1) fun us s2 ⟨xs, H2, I2, r2, q2⟩ => ⟨x :: xs, H2, I2, .cons r1 r2, q2⟩
/-- a tuple, a list of written items -/
def tTup (t : TA) : TE := fun σ H Q => t σ H fun xs H1 => xs.length ≤ sizeLine ∧ ∀ p, H1 p = none → Q (.ref p) (upd H1 p (.tup xs))
def tLst (t : TA) : TE := fun σ H Q => t σ H fun xs H1 => xs.length ≤ sizeLine ∧ ∀ p, H1 p = none → Q (.ref p) (upd H1 p (.lst xs))
theorem pe_tup {x1} (h : PA X es t) : PE X (.Tuple es x1 pos) (tTup t) := by
  intro pins s σ H Q I hq
  refine wpAny_Tuple_spliced (thn (h pos pins s σ H _ I hq) fun us s1 ⟨xs, H1, I1, r, z, q⟩ => ⟨by rw [← r.length]; exact z, ?_⟩)
  have hf : H1 s1.heap.objs.size = none := I1.hok.fresh (Nat.le_refl _)
  refine ⟨.ref s1.heap.objs.size, upd H1 s1.heap.objs.size (.tup xs), I1.laid (t' := s1.toks) (fun b u e => Heap.get?_push_of_some _ e) (Nat.le_refl _) ?_, rfl, q _ hf⟩
  exact ⟨z, us, r, ⟨_, Heap.get?_push_size _ rfl, rfl, rfl, _, rfl⟩⟩
theorem pe_lst (h : PA X es t) : PE X (.List es pos) (tLst t) := by
  intro pins s σ H Q I hq
  refine wpAny_List_spliced (thn (h pos pins s σ H _ I hq) fun us s1 ⟨xs, H1, I1, r, z, q⟩ => ⟨by rw [← r.length]; exact z, ?_⟩)
  have hf : H1 s1.heap.objs.size = none := I1.hok.fresh (Nat.le_refl _)
  refine ⟨.ref s1.heap.objs.size, upd H1 s1.heap.objs.size (.lst xs), I1.laid (t' := s1.toks) (fun b u e => Heap.get?_push_of_some _ e) (Nat.le_refl _) ?_, rfl, q _ hf⟩
  exact ⟨z, us, 0, r, Heap.get?_push_size _ rfl⟩
end
/-- a def's promise: the bound arguments in the parameters' order, the heap, the wanted end, the wanted exception -/
abbrev Sp := List V → Hp → VK → XK → Prop
/-- how an exception lies behind a call (file 08 gives it): the callers' frames, abstract heap and state ahead of the call, the wish, the exception, the state -/
abbrev CXT := List Env → Hp → Shared → XK → Value → Shared → Prop
/-- the state at a call -/
structure Env0 (P : Program) (w : World) (K : PySem.W.Frag) (mg : Str → Option Value) (base : Heap) (A : Around) (outer : List Env) (s : Shared) (H : Hp) : Prop where
  frames : A.frames = some outer
  mod : Mod K mg base
  bs : ∀ b o, base.get? b = some o → s.heap.get? b = some o ∧ H b = none
  bsz : base.objs.size ≤ s.heap.objs.size
  funs : s.heap.FunFrames base outer
  frf : ∀ b ∈ frs outer, H b = none
  hok : HOk P w H s.heap
  bare : AllBare s.gens
/-- a call's end -/
def CE (outer : List Env) (P : Program) (w : World) (H : Hp) (s : Shared) (Q : VK) (u : Value) (s' : Shared) : Prop :=
  ∃ v H', s'.os = s.os ∧ AllBare s'.gens ∧ Un (frs outer) [] H H' s.heap s'.heap ∧ HOk P w H' s'.heap ∧ RelV v u ∧ Q v H'
def CR (CX : CXT) (outer : List Env) (P : Program) (w : World) (H : Hp) (s : Shared) (Q : VK) (E : XK) (r : Result) (s' : Shared) : Prop :=
  match r with
  | .ok (.ret u) => CE outer P w H s Q u s'
  | .ok _ => False
  | .error e => CX outer H s E e s'
structure FnOk (P : Program) (w : World) (K : PySem.W.Frag) (mg : Str → Option Value) (base : Heap) (CX : CXT) (k : Nat) (f : Addr) (fd : FuncData) (ps : List Str) (sp : Sp) : Prop where
  len : ∀ vs H Q E, sp vs H Q E → vs.length = ps.length
  run : ∀ (A : Around) (outer : List Env) (s : Shared) (H : Hp) (args : Args) (us : List Value) (vs : List V) (Q : VK) (E : XK), Room k A → Env0 P w K mg base A outer s H → BindsTo s fd args (ps.zip us) → Vals vs us → sp vs H Q E →
    codeAny (model P w) A (.call (.ref f) args) (CR CX outer P w H s Q E) s
theorem FnOk.mono {P : Program} {w : World} {K : PySem.W.Frag} {mg : Str → Option Value} {base : Heap} {CX : CXT} {j k : Nat} {f : Addr} {fd : FuncData} {ps : List Str} {sp : Sp} (F : FnOk P w K mg base CX j f fd ps sp) (h : j ≤ k) :
    FnOk P w K mg base CX k f fd ps sp := ⟨F.len, fun A outer s H args us vs Q E hr => F.run A outer s H args us vs Q E (hr.mono h)⟩
theorem Env0.in1 {P : Program} {w : World} {K : PySem.W.Frag} {mg : Str → Option Value} {base : Heap} {A : Around} {outer : List Env} {s : Shared} {H : Hp} (e : Env0 P w K mg base A outer s H) :
    Env0 P w K mg base A.in1 outer s H := ⟨e.frames, e.mod, e.bs, e.bsz, e.funs, e.frf, e.hok, e.bare⟩
section
variable {X : Cx} {pins : List (Addr × Obj)} {σ : St} {H : Hp} {s s' : Shared}
/-- from a body: what a callee wants -/
theorem Inv.env0 (I : Inv X pins σ H s) : Env0 X.prog X.w X.K X.mg X.base X.A X.stack s H :=
  ⟨I.ok.frames, I.ok.mod, I.bs, Nat.le_trans I.ok.bsz I.sz, I.stack, I.stkFree, I.hok, I.bare⟩
/-- behind a call -/
theorem Inv.after {Q : VK} {u : Value} (I : Inv X pins σ H s) (h : CE X.stack X.prog X.w H s Q u s') : EP X pins σ Q u s' := by
  obtain ⟨v, H', os, bare, un, hok, r, q⟩ := h
  obtain ⟨hh, g, d, t, os'⟩ := s'
  obtain rfl : os' = s.os := os
  exact ⟨v, H', I.call (h' := hh) (g' := g) (d' := d) (t' := t) (ch := []) un hok bare (fun b z => absurd z (by simp)), r, q⟩
end
/-- f(..): the written arguments, then the defaults dvs; E: what is wanted of an exception -/
def tCall (sp : Sp) (dvs : List V) (E : XK) (t : TA) : TE := fun σ H Q => t σ H fun vs H1 => sp (vs ++ dvs) H1 Q E
/-- how the parameters are bound: us the positional arguments, kw the keywords' values by name, ds the defaults that fill up -/
def Binds (K : PySem.W.Frag) (fd : FuncData) (ps : List Str) (ds : List Value) : Prop :=
  ∀ (s : Shared) (us : List Value), K.In s.heap → (us ++ ds).length = ps.length → BindsTo s fd ⟨us, []⟩ (ps.zip (us ++ ds))
/-- every parameter is given -/
theorem Binds.all {K : PySem.W.Frag} {fd : FuncData} {ps : List Str} (h : ∀ us : List Value, us.length = ps.length → bindArgs fd ⟨us, []⟩ = pure (ps.zip us)) : Binds K fd ps [] := fun s us _ hl => by
  rw [List.append_nil] at hl ⊢
  exact .of_eq (h us hl)
/-- an exception of a callee reaches what this body wants of exceptions -/
def Passes (CX : CXT) (X : Cx) (E : XK) : Prop := ∀ (pins : List (Addr × Obj)) (σ : St) (H : Hp) (s : Shared) (e : Value) (s' : Shared), Inv X pins σ H s → CX X.stack H s E e s' → X.xe e s'
section
variable {X : Cx} {CX : CXT} {k : Nat} {f C : Addr} {fd : FuncData} {ps : List Str} {sp : Sp} {dvs : List V} {ds : List Value} {E : XK} {x m : Str} {p pos apos : Pos} {e o : Expr} {es : List Expr} {ta : TE} {t : TA}
/-- the callee runs -/
theorem run_fn {pins : List (Addr × Obj)} {σ : St} {H : Hp} {s : Shared} {Q : VK} {us : List Value} {vs : List V} (F : FnOk X.prog X.w X.K X.mg X.base CX k f fd ps sp) (hr : Room k X.A) (hb : Binds X.K fd ps ds) (hd : Vals dvs ds) (hx : Passes CX X E)
    (I : Inv X pins σ H s) (r : Vals vs us) (h : sp (vs ++ dvs) H Q E) : wpAny (model X.prog X.w) X.A (call (.ref f) us) (EP X pins σ Q) X.xe s := by
  have r2 : Vals (vs ++ dvs) (us ++ ds) := r.append hd
  have hl : (us ++ ds).length = ps.length := by rw [← r2.length]; exact F.len _ _ _ _ h
  refine wpAny_call (codeAny_mono (F.run X.A X.stack s H ⟨us, []⟩ (us ++ ds) (vs ++ dvs) Q E hr I.env0 (hb s us I.kIn hl) r2 h) fun r s' hq => ?_)
  cases r with
  | error e => exact hx pins σ H s e s' I hq
  | ok fl =>
    cases fl with
    | ret u => exact I.after hq
    | next => exact False.elim hq
    | brk => exact False.elim hq
    | cont => exact False.elim hq
theorem pe_call (F : FnOk X.prog X.w X.K X.mg X.base CX k f fd ps sp) (hr : Room k X.A) (hg : Gl X x) (hm : X.mg x = some (.ref f)) (hk : PySem.W.keepIn X.K (.ref f) = true) (hb : Binds X.K fd ps ds) (hd : Vals dvs ds) (hx : Passes CX X E)
    (ha : PA X (e :: es) t) (hdb : (x == ("__debug__" : Str)) = false := by decide) (he : starEach (e :: es) X.env = (false, eval e X.env) :: starEach es X.env := by rfl) (hpl : (backTo pos (starEach es X.env)).any (·.1) = false := by rfl) :
    PE X (.Call (.Name x p) (e :: es) [] pos) (tCall sp dvs E t) := by
  intro pins s σ H Q I h
  refine wpAny_Call_Name_kw (ld_glob I hg hm ?_ hdb)
  refine PySem.W.callWith_K (h₀ := X.base) I.ok.mod.kin hk (thn (ha pos pins s σ H _ I h) fun us s1 ⟨vs, H1, I1, r, q⟩ => ⟨I1.kIn, ?_⟩) he hpl
  exact run_fn F hr hb hd hx I1 r q
/-- what a class must have to be made -/
structure Mk (K : PySem.W.Frag) (C f : Addr) : Prop where
  makes : PySem.W.makesIn K C = true
  init : PySem.W.findIn K (.ref C) "__init__" = some (some (.ref f))
  fn : PySem.W.isFn K (.ref f) = true
  kp : PySem.W.keepIn K (.ref C) = true
end
section
variable {X : Cx} {CX : CXT} {k : Nat} {f C : Addr} {fd : FuncData} {ps ks : List Str} {sp : Sp} {E : XK} {x m : Str} {p pos apos kpos : Pos} {e o : Expr} {es : List Expr} {kws : List Keyword} {te ta : TE} {t tk : TA} {nm : Option Str}
/-- how a call with keywords binds: g puts the positional values us and the keywords' values ws (names ks) in the parameters' order, defaults among them -/
structure KBinds (K : PySem.W.Frag) (fd : FuncData) (ps ks : List Str) (g : List Value → List Value → List Value) (gV : List V → List V → List V) : Prop where
  to : ∀ (s : Shared) (us ws : List Value), K.In s.heap → (g us ws).length = ps.length → BindsTo s fd ⟨us, ks.zip ws⟩ (ps.zip (g us ws))
  rel : ∀ {vs : List V} {us : List Value} {zs : List V} {ws : List Value}, Vals vs us → Vals zs ws → Vals (gV vs zs) (g us ws)
variable {g : List Value → List Value → List Value} {gV : List V → List V → List V}
end
/-- names: the parameters first -/
structure FnScope (N P : List Str) (sc : Scope) : Prop where
  kind : sc.kind = .function
  co : sc.isCoroutine = false
  gen : sc.isGenerator = false
  nd : N.Nodup
  pre : N.take P.length = P
  par : ∀ x ∈ P, sc.names.lookup x = some .local ∨ sc.names.lookup x = some .cell
  nofree : ∀ y ∈ sc.names, y.2 ≠ .free
theorem bindL_out {kindOf : Str → Option NameKind} {x : Str} : ∀ {binds : List (Str × Value)} {m : Str → Option Value}, (∀ v, (x, v) ∉ binds) → bindL kindOf binds m x = m x
  | [], _, _ => rfl
  | (n, v) :: r, m, h => by
    unfold bindL
    rw [bindL_out fun w hw => h w (List.mem_cons_of_mem _ hw)]
    split
    · have : x ≠ n := by rintro rfl; exact h v List.mem_cons_self
      simp [this]
    · rfl
theorem bindC_out {kindOf : Str → Option NameKind} {x : Str} : ∀ {binds : List (Str × Value)} {m : Str → Option Value}, (∀ v, (x, v) ∉ binds) → bindC kindOf binds m x = m x
  | [], _, _ => rfl
  | (n, v) :: r, m, h => by
    unfold bindC
    rw [bindC_out fun w hw => h w (List.mem_cons_of_mem _ hw)]
    split
    · rfl
    · have : x ≠ n := by rintro rfl; exact h v List.mem_cons_self
      simp [this]
theorem bindL_get {kindOf : Str → Option NameKind} {x : Str} {v : Value} : ∀ {P : List Str} {vs : List Value} {i : Nat} {m : Str → Option Value}, P.Nodup → P[i]? = some x → vs[i]? = some v → kindOf x = some .local →
    bindL kindOf (P.zip vs) m x = some v
  | [], _, _, _, _, h, _, _ => by simp at h
  | _ :: _, [], _, _, _, _, h, _ => by simp at h
  | p :: P, w :: vs, 0, m, nd, h1, h2, hk => by
    simp at h1 h2; subst h1; subst h2
    show bindL kindOf ((p, w) :: P.zip vs) m p = _
    unfold bindL
    rw [bindL_out fun v hv => (List.nodup_cons.mp nd).1 (List.of_mem_zip hv).1, if_pos hk]
    simp
  | p :: P, w :: vs, i + 1, m, nd, h1, h2, hk => by
    show bindL kindOf ((p, w) :: P.zip vs) m x = _
    unfold bindL
    exact bindL_get (i := i) (List.nodup_cons.mp nd).2 (by simpa using h1) (by simpa using h2) hk
theorem bindC_get {kindOf : Str → Option NameKind} {x : Str} {v : Value} : ∀ {P : List Str} {vs : List Value} {i : Nat} {m : Str → Option Value}, P.Nodup → P[i]? = some x → vs[i]? = some v → kindOf x ≠ some .local →
    bindC kindOf (P.zip vs) m x = some v
  | [], _, _, _, _, h, _, _ => by simp at h
  | _ :: _, [], _, _, _, _, h, _ => by simp at h
  | p :: P, w :: vs, 0, m, nd, h1, h2, hk => by
    simp at h1 h2; subst h1; subst h2
    show bindC kindOf ((p, w) :: P.zip vs) m p = _
    unfold bindC
    rw [bindC_out fun v hv => (List.nodup_cons.mp nd).1 (List.of_mem_zip hv).1, if_neg hk]
    simp
  | p :: P, w :: vs, i + 1, m, nd, h1, h2, hk => by
    show bindC kindOf ((p, w) :: P.zip vs) m x = _
    unfold bindC
    exact bindC_get (i := i) (List.nodup_cons.mp nd).2 (by simpa using h1) (by simpa using h2) hk
/-- the names' values at the entry -/
def start (N : List Str) (vs : List V) : St := vs.map some ++ List.replicate (N.length - vs.length) none
/-- the context of a def's body, at its entry; an exception leaves the frame, then lies as CX says -/
def cxOf (CX : CXT) (P : Program) (w : World) (K : PySem.W.Frag) (mg : Str → Option Value) (base : Heap) (N : List Str) (qual : Str) (scope : Scope) (f : Addr) (cd : Value) (A : Around) (outer : List Env) (s : Shared) (H : Hp) (E : XK) : Cx where
  prog := P
  w := w
  K := K
  mg := mg
  base := base
  A := A.deeper (envOfC qual scope s.heap.objs.size f cd)
  N := N
  s₀ := s
  H₀ := H
  env := envOfC qual scope s.heap.objs.size f cd
  outer := outer
  stack := envOfC qual scope s.heap.objs.size f cd :: outer
  ex := []
  calm := true
  fn := fun _ => true
  pn := []
  xe := fun e s' => wpAny (model P w) (A.deeper (envOfC qual scope s.heap.objs.size f cd)) (leaving (envOfC qual scope s.heap.objs.size f cd) e) (fun _ s'' => CX outer H s E e s'') (fun e' s'' => CX outer H s E e' s'') s'
theorem cell_has {sc : Scope} {n : Nat} {x : Str} (h : sc.names.lookup x = some .cell) : ∃ c, (cellsFrom n sc.names []).lookup x = some c := by
  have q := PySem.W.cellsFrom_some sc.names n [] (.inl h)
  exact Option.isSome_iff_exists.mp q
theorem inv_start {CX : CXT} {P : Program} {w : World} {K : PySem.W.Frag} {mg : Str → Option Value} {base : Heap} {N ps : List Str} {qual : Str} {scope : Scope} {f : Addr} {cd : Value} {A : Around} {outer : List Env} {s s1 : Shared} {H : Hp} {E : XK} {us : List Value} {vs : List V}
    (S : FnScope N ps scope) (hd : A.handled = none) (e0 : Env0 P w K mg base A outer s H) (hl : vs.length = ps.length) (r : Vals vs us)
    (x : InCallC s s.heap.objs.size (bindL (envOfC qual scope s.heap.objs.size f cd).kindOf (ps.zip us) fun _ => none) (cellsFrom (s.heap.objs.size + 1) scope.names []) (bindC (envOfC qual scope s.heap.objs.size f cd).kindOf (ps.zip us) fun _ => none) s1) :
    Inv (cxOf CX P w K mg base N qual scope f cd A outer s H E) [] (start N vs) H s1 := by
  have hpl : ps.length ≤ N.length := by have := congrArg List.length S.pre; rw [List.length_take] at this; omega
  obtain ⟨h1, tk, rfl, hk⟩ := x.done
  have noA : ∀ b : Addr, b ∉ (cxOf CX P w K mg base N qual scope f cd A outer s H E).ex := fun b z => absurd (show b ∈ ([] : List Addr) from z) (by simp)
  refine ⟨⟨e0.mod, S.kind, rfl, rfl, Nat.le_refl _, fun y z c h1 h2 => ?_, fun y hy => ?_, fun y c _ h => ?_, fun _ => hd, Around.frames_deeper e0.frames, .inr ⟨rfl, rfl⟩, fun b z => absurd z (noA b), e0.bs, e0.bsz, fun b _ _ => noA b, fun b z => absurd z (noA b), e0.funs, e0.frf⟩,
    rfl, e0.bare, Un.kept hk, ⟨_, x.toInCall.ns, fun i y v h1 h2 h3 => ?_⟩, fun y c h => ⟨_, x.cell y c h⟩, e0.hok.fresh (Nat.le_refl _), fun y c h => ?_, fun p hp => absurd (show p ∈ ([] : List (Addr × Obj)) from hp) (by simp), e0.hok.kept hk, ?_⟩
  · exact name_of_addr x.apart (PySem.mem_of_lookup h1) (PySem.mem_of_lookup h2)
  · have hy : scope.names.lookup y = some .cell ∨ scope.names.lookup y = some .free := hy
    rcases hy with hy | hy
    · exact cell_has hy
    · exact absurd rfl (S.nofree _ (PySem.mem_of_lookup hy))
  · exact Nat.le_of_lt (x.above y c (PySem.mem_of_lookup h))
  · have hi : i < vs.length := by
      unfold start at h2
      by_cases hi : i < vs.length
      · exact hi
      · rw [List.getElem?_append_right (by simpa using hi)] at h2
        rw [List.getElem?_replicate] at h2
        split at h2 <;> cases h2
    have ha : vs[i]? = some v := by
      unfold start at h2
      rw [List.getElem?_append_left (by simpa using hi), List.getElem?_map] at h2
      cases e : vs[i]? with
      | none => rw [e] at h2; cases h2
      | some a => rw [e] at h2; cases h2; rfl
    obtain ⟨u, hu, rv⟩ := r.get ha
    have hp : ps[i]? = some y := by
      rw [← S.pre, List.getElem?_take_of_lt (by omega)]; exact h1
    have ndP : ps.Nodup := by rw [← S.pre]; exact S.nd.sublist (List.take_sublist _ _)
    refine ⟨u, rv, ?_⟩
    rcases S.par y (List.mem_of_getElem? hp) with k | k
    · exact .inl ⟨k, bindL_get ndP hp hu k⟩
    · obtain ⟨c, e⟩ := cell_has (n := s.heap.objs.size + 1) k
      refine .inr ⟨.inl k, c, e, ?_⟩
      have q := x.cell y c e
      rw [bindC_get ndP hp hu (by show scope.names.lookup y ≠ _; rw [k]; decide)] at q
      exact q
  · exact e0.hok.fresh (Nat.le_of_lt (x.above y c (PySem.mem_of_lookup h)))
  · unfold start
    show _ = N.length
    rw [List.length_append, List.length_map, List.length_replicate]
    omega
/-- THE RULE: a def (or a method) of the text, by its body. The body's reading t is chosen for each entry; it is run at the parameters' values -/
theorem fn_of {CX : CXT} {P : Program} {w : World} {K : PySem.W.Frag} {mg : Str → Option Value} {base : Heap} {k : Nat} {f : Addr} {name qual : Str} {params : Arguments} {body : List Stmt} {scope : Scope} {dV kV doc pm cdv ct oc : Value} {an od : Option Addr}
    {osl : Array (Option Value)} {N ps : List Str} {sp : Sp} (lk : K.lookup f = some ⟨oc, od, .func (PySem.W.fnOf name qual params body scope dV kV doc pm an cdv ct), osl⟩) (hcd : PySem.W.codeIn K cdv qual = true) (S : FnScope N ps scope)
    (len : ∀ vs H Q E, sp vs H Q E → vs.length = ps.length)
    (hbody : ∀ (A : Around) (outer : List Env) (s : Shared) (H : Hp) (vs : List V) (Q : VK) (E : XK), Room k (A.deeper (envOfC qual scope s.heap.objs.size f cdv)) → sp vs H Q E →
      ∃ t, PSs (cxOf CX P w K mg base N qual scope f cdv A outer s H E) body t ∧ t { nx := fun _ H' => Q .non H', rt := Q } (start N vs) H) :
    FnOk P w K mg base CX (k + 1) f (PySem.W.fnOf name qual params body scope dV kV doc pm an cdv ct) ps sp := by
  refine ⟨len, fun A outer s H args us vs Q E hr e0 hb r hsp => ?_⟩
  have hl := len _ _ _ _ hsp
  have KX : K.In s.heap := e0.mod.kin.keeps fun b o e => (e0.bs b o e).1
  have lim : s.heap.NoLimit := e0.mod.nolimit.keeps fun b o e => (e0.bs b o e).1
  have hkind : ∀ y ∈ ps.zip us, scope.names.lookup y.1 = some .local ∨ (scope.names.lookup y.1 = some .cell ∧ ((cellsFrom (s.heap.objs.size + 1) scope.names []).lookup y.1).isSome = true) := fun ⟨n, v⟩ hy => by
    rcases S.par n (List.of_mem_zip hy).1 with q | q
    · exact .inl q
    · exact .inr ⟨q, PySem.W.cellsFrom_some _ _ _ (.inl q)⟩
  refine codeAny_call_function hr.depth (KX _ _ lk) rfl S.co S.gen rfl (PySem.W.codeRec_of KX hcd) (hb _ _ _ _ ?_)
  refine wpAny_newFunctionEnv_cells S.kind hkind fun env he s1 x => ?_
  subst he
  refine ⟨lim.keeps x.toInCall.keep, codeAny_func ?_⟩
  obtain ⟨t, ht, hq⟩ := hbody A outer s H vs Q E (hr.deeper _) hsp
  have I : Inv (cxOf CX P w K mg base N qual scope f cdv A outer s H E) [] (start N vs) H s1 := inv_start S hr.hd e0 hl r x
  refine wpAny_mono (ht [] s1 (start N vs) H _ I hq) (fun fl s' hs => ?_) fun e s' hs => hs
  have fin : ∀ {σ' : St} {H' : Hp} {v : V} {u : Value}, Inv (cxOf CX P w K mg base N qual scope f cdv A outer s H E) [] σ' H' s' → RelV v u → Q v H' → CE outer P w H s Q u s' :=
    fun {σ' H' v u} J rv q => ⟨v, H', J.os, J.bare, J.base, J.hok, rv, q⟩
  cases fl with
  | ret u =>
    obtain ⟨v, σ', H', J, rv, q⟩ := hs
    exact fin J rv q
  | next =>
    obtain ⟨σ', H', J, q⟩ := hs
    exact fin (v := V.non) (u := Value.none) J rfl q
  | brk =>
    obtain ⟨_, _, _, q⟩ := hs
    exact False.elim q
  | cont =>
    obtain ⟨_, _, _, q⟩ := hs
    exact False.elim q
end L2
namespace L2
open PySem PySem.Spec PyProof.Rows
section
variable {X : Cx} {x : Str} {p pos : Pos} {e : Expr} {es : List Expr} {t : TA} {id T : String} {r : List V → Hp → VK → Prop}
def tCB (r : List V → Hp → VK → Prop) (t : TA) : TE := fun σ H Q => t σ H fun vs H1 => r vs H1 Q
/-- f(e, ..), f a built-in function -/
theorem pe_callB (hc : CallR X (.builtin id) r) (hg : Gl X x) (hm : X.mg x = none) (hv : bootBuiltins x = some (.builtin id)) (ha : PA X (e :: es) t) (hn : x ≠ "__name__" := by decide) (hdb : (x == ("__debug__" : Str)) = false := by decide)
    (he : starEach (e :: es) X.env = (false, eval e X.env) :: starEach es X.env := by rfl) (hpl : (backTo pos (starEach es X.env)).any (·.1) = false := by rfl) : PE X (.Call (.Name x p) (e :: es) [] pos) (tCB r t) := by
  intro pins s σ H Q I h
  refine wpAny_Call_Name_kw (ld_blt I hg hm hv ?_ hn hdb)
  exact PyProof.Rows.callWith_builtin1 (thn (ha pos pins s σ H _ I h) fun us s1 ⟨vs, H1, I1, r1, q1⟩ => hc pins s1 σ H1 vs us Q I1 r1 q1) he hpl
/-- T(e, ..), T a built-in type -/
theorem pe_callTy (hc : CallR X (.type T) r) (hg : Gl X x) (hm : X.mg x = none) (hv : bootBuiltins x = some (.type T)) (ha : PA X (e :: es) t) (hn : x ≠ "__name__" := by decide) (hdb : (x == ("__debug__" : Str)) = false := by decide)
    (he : starEach (e :: es) X.env = (false, eval e X.env) :: starEach es X.env := by rfl) (hpl : (backTo pos (starEach es X.env)).any (·.1) = false := by rfl) : PE X (.Call (.Name x p) (e :: es) [] pos) (tCB r t) := by
  intro pins s σ H Q I h
  refine wpAny_Call_Name_kw (ld_blt I hg hm hv ?_ hn hdb)
  exact PyProof.Rows.callWith_type1 (thn (ha pos pins s σ H _ I h) fun us s1 ⟨vs, H1, I1, r1, q1⟩ => hc pins s1 σ H1 vs us Q I1 r1 q1) he hpl
end
end L2
namespace HT
open PySem PyProof.Rows
section
open PySem.SeqAt
open PySem.AutoSeq1 (wpAny_loadPart')
open PySem.MeetsSeq PySem.MeetsSeq2 PySem.MeetsSeq3
end
section
variable {prog : Program} {w : World} {A : Around} {E : Value → Shared → Prop} {s : Shared}
/-- t + u, t not empty -/
theorem cat_tup {t b : Addr} {vs ws : List Value} {Q : Value → Shared → Prop} (ht : IsTup s.heap t vs.toArray) (hb : IsTup s.heap b ws.toArray) (hv : vs ≠ [])
    (h1 : ws = [] → Q (.ref t) s) (h2 : ws ≠ [] → Q (.ref s.heap.objs.size) { s with heap := s.heap.push { cls := .type "tuple", data := .seq (vs ++ ws).toArray } })
    (hsz : vs.length + ws.length ≤ sizeLine) : wpAny (model prog w) A (binaryOp .Add (.ref t) (.ref b)) Q E s := by
  obtain ⟨⟨cls, dd, data, sl⟩, ho, hc, n, hd⟩ := id ht
  obtain ⟨⟨cls2, dd2, data2, sl2⟩, ho2, hc2, n2, hd2⟩ := id hb
  simp only at hc hd hc2 hd2
  subst hc hd hc2 hd2
  have e : vs.toArray ++ ws.toArray = (vs ++ ws).toArray := by simp
  by_cases hw : ws = []
  · exact concat_meets ⟨_, ho, rfl⟩ ⟨_, ho2, rfl⟩ noFill_tuple_add seq_tuple_add PySem.F.slot_tuple_add PySem.F.entry_tuple_add (PySem.F.args_tuple_add_2 _ _)
      (tuple_addW1 t b vs.toArray ws.toArray n n2 dd dd2 sl sl2 (by simpa using hv) (by simp [hw])) ⟨ho, ho2, h1 hw⟩
  · refine concat_meets ⟨_, ho, rfl⟩ ⟨_, ho2, rfl⟩ noFill_tuple_add seq_tuple_add PySem.F.slot_tuple_add PySem.F.entry_tuple_add (PySem.F.args_tuple_add_2 _ _)
      (tuple_addW2 t b vs.toArray ws.toArray n n2 dd dd2 sl sl2 (by simpa using hv) (by simpa using hw) (by rw [List.size_toArray, List.size_toArray]; exact hsz)) ⟨ho, ho2, ?_⟩
    rw [e]
    exact h2 hw
/-- a slice's bound as a place among n (d where it is left out) -/
def sIx (n d : Nat) : Option Int → Nat
  | none => d
  | some v => if v < 0 then (v + (n : Int)).toNat else min v.toNat n
theorem sIx_none (n d : Nat) : sIx n d none = d := rfl
theorem sIx_nat (n d k : Nat) : sIx n d (some (k : Int)) = min k n := by
  show (if (k : Int) < 0 then ((k : Int) + (n : Int)).toNat else min (k : Int).toNat n) = min k n
  rw [if_neg (by omega), Int.toNat_natCast]
theorem sIx_le (n d : Nat) (hd : d ≤ n) (o : Option Int) : sIx n d o ≤ n := by
  cases o with
  | none => exact hd
  | some v =>
    show (if v < 0 then (v + (n : Int)).toNat else min v.toNat n) ≤ n
    by_cases hv : v < 0
    · rw [if_pos hv]; omega
    · rw [if_neg hv]; exact Nat.min_le_right _ _
theorem clip_eq (v : Int) (n d : Nat) : (if v < 0 then max (v + (n : Int)) 0 else min v (n : Int)) = ((sIx n d (some v) : Nat) : Int) := by
  show (if v < 0 then max (v + (n : Int)) 0 else min v (n : Int)) = (((if v < 0 then (v + (n : Int)).toNat else min v.toNat n) : Nat) : Int)
  by_cases hv : v < 0
  · simp only [if_pos hv]; omega
  · simp only [if_neg hv]; omega
theorem adjust_gen (lo hi : Option Int) (n : Nat) : Builtin.Slice.sliceAdjust lo hi 1 (n : Int) = (((sIx n 0 lo : Nat) : Int), ((sIx n n hi : Nat) : Int)) := by
  have h1 : ¬ ((1 : Int) < 0) := by omega
  unfold Builtin.Slice.sliceAdjust
  simp only [h1, if_false]
  refine Prod.ext ?_ ?_
  · cases lo with
    | none => rfl
    | some v => exact clip_eq v n 0
  · cases hi with
    | none => rfl
    | some v => exact clip_eq v n n
theorem places_gen (i j : Nat) : Builtin.Slice.slicePlaces (i : Int) (j : Int) 1 = j - i := by
  unfold Builtin.Slice.slicePlaces
  have h1 : (1 : Int) > 0 := by omega
  simp only [h1, if_true, Int.ediv_one]
  split <;> omega
theorem slicePart_ {v : Value} {o : Option Int} {Q : Option Int → Shared → Prop} (p : IsPart v o) (h : Q o s) : wpAny (model prog w) A (Builtin.Slice.slicePartIndex v) Q E s := by
  cases p with
  | none => exact slicePart_none h
  | int i t => exact slicePart_int h
theorem sliceApplied_gen {sl : Addr} {vl vu : Value} {lo hi : Option Int} {n : Nat} {Q : Int × Int × Nat → Shared → Prop} (hs : s.heap.IsSliceOf sl vl vu .none) (pl : IsPart vl lo) (pu : IsPart vu hi)
    (h : Q (((sIx n 0 lo : Nat) : Int), 1, sIx n n hi - sIx n 0 lo) s) : wpAny (model prog w) A (Builtin.Slice.sliceApplied (.ref sl) (pure (n : Int))) Q E s := by
  obtain ⟨os, hos, hcs, hds⟩ := id hs
  unfold Builtin.Slice.sliceApplied Builtin.Slice.sliceFields
  refine wpAny_bind (wpAny_bind (wpAny_field hos hds (x := vl) rfl (wpAny_bind (wpAny_field hos hds (x := vu) rfl (wpAny_bind (wpAny_field hos hds (x := .none) rfl (wpAny_pure ?_)))))))
  refine wpAny_bind (slicePart_none ?_)
  show wpAny _ _ (if ((1 : Int) == 0) = true then _ else _) _ _ s
  rw [if_neg (by decide)]
  refine wpAny_bind (slicePart_ pl (wpAny_bind (slicePart_ pu (wpAny_bind (wpAny_pure ?_)))))
  show wpAny _ _ (match Builtin.Slice.sliceAdjust lo hi 1 (n : Int) with | (lo, hi) => pure (lo, (1 : Int), Builtin.Slice.slicePlaces lo hi 1)) _ _ s
  rw [adjust_gen lo hi n]
  show wpAny _ _ (pure (((sIx n 0 lo : Nat) : Int), (1 : Int), Builtin.Slice.slicePlaces ((sIx n 0 lo : Nat) : Int) ((sIx n n hi : Nat) : Int) 1)) _ _ s
  rw [places_gen]
  exact wpAny_pure h
theorem pick_gen (xs : Array Value) (i k : Nat) : ((List.range k).filterMap fun (m : Nat) => xs[((i : Int) + (m : Int) * 1).toNat]?).toArray = ((xs.toList.drop i).take k).toArray := by
  have e : (fun (m : Nat) => xs[((i : Int) + (m : Int) * 1).toNat]?) = fun m => xs[i + m]? := by
    funext m
    have : ((i : Int) + (m : Int) * 1).toNat = i + m := by omega
    rw [this]
  rw [e]
  have := pick_run xs i k
  rw [List.filterMap_map] at this
  have e2 : ((fun x => xs[x]?) ∘ fun x => i + x) = fun m => xs[i + m]? := rfl
  rw [e2] at this
  rw [this]
theorem getItem_tuple_cut {t sl : Addr} {items : Array Value} {vl vu : Value} {lo hi : Option Int} {Q : Value → Shared → Prop} (ht : IsTup s.heap t items) (hs : s.heap.IsSliceOf sl vl vu .none) (pl : IsPart vl lo) (pu : IsPart vu hi)
    (hw : ¬ (sIx items.size 0 lo = 0 ∧ sIx items.size items.size hi = items.size))
    (h : Q (.ref s.heap.objs.size) { s with heap := s.heap.push { cls := .type "tuple", data := .seq ((items.toList.drop (sIx items.size 0 lo)).take (sIx items.size items.size hi - sIx items.size 0 lo)).toArray } })
    (hsz : items.size ≤ sizeLine) : wpAny (model prog w) A (getItem (.ref t) (.ref sl)) Q E s := by
  have htake : sizeOk (.seq ((items.toList.drop (sIx items.size 0 lo)).take (sIx items.size items.size hi - sIx items.size 0 lo)).toArray) := by
    show ((items.toList.drop (sIx items.size 0 lo)).take (sIx items.size items.size hi - sIx items.size 0 lo)).toArray.size ≤ sizeLine
    rw [List.size_toArray, List.length_take, List.length_drop, Array.length_toList]
    omega
  have hj : sIx items.size items.size hi ≤ items.size := sIx_le _ _ (Nat.le_refl _) hi
  obtain ⟨os, hos, hcs, hds⟩ := id hs
  have hTs : s.TypeIs (.ref sl) "slice" := ⟨os, hos, hcs⟩
  unfold getItem
  try with_reducible refine wpAny_holding ?_
  first | refine wpAny_bind (wpAny_pure ?_) | skip
  refine wpAny_bind (wpAny_sequenceKey ht.typeIs (by decide) ?_)
  refine wpAny_bind (wpAny_callSpecial?_slot (name := Str.ofString "__getitem__") ht.typeIs PyProof.Rows.slot_tuple_getitem
    (wpAny_call_entry PyProof.Rows.slot_tuple_getitem ht.typeIs entry_tuple_getitem ?_ (args_tuple_getitem _ _)))
  show wpAny _ _ (Builtin.Tuple.tupleItemsOf (.ref t) >>= _) _ _ s
  refine wpAny_bind (tupleItemsOf_ ht ?_)
  refine wpAny_bind (wpAny_typeOf hTs ?_)
  rw [if_pos (by decide)]
  refine wpAny_bind (sliceApplied_gen hs pl pu ?_)
  have hno : ¬ ((((sIx items.size 0 lo : Nat) : Int) == 0 && (1 : Int) == 1 && (sIx items.size items.size hi - sIx items.size 0 lo) == items.size) = true) := by
    intro q
    rw [Bool.and_eq_true, Bool.and_eq_true] at q
    have q1 : ((sIx items.size 0 lo : Nat) : Int) = 0 := eq_of_beq q.1.1
    have q2 : sIx items.size items.size hi - sIx items.size 0 lo = items.size := eq_of_beq q.2
    exact hw ⟨by omega, by omega⟩
  show wpAny _ _ (if (((sIx items.size 0 lo : Nat) : Int) == 0 && (1 : Int) == 1 && (sIx items.size items.size hi - sIx items.size 0 lo) == items.size) = true then _ else _) _ _ s
  rw [if_neg hno, pick_gen]
  first
    | exact wpAny_bind (m := Builtin.Tuple.tupleExact _) (wpAny_newObj_type (wpAny_pure ⟨_, rfl, wpAny_pure h⟩) htake)
    | exact wpAny_bind (m := Builtin.Tuple.tupleExact _) (wpAny_newObj_type (wpAny_bind (wpAny_pure (wpAny_pure ⟨_, rfl, wpAny_pure h⟩))) htake)
    | exact wpAny_bind (wpAny_bind (m := Builtin.Tuple.tupleExact _) (wpAny_newObj_type (wpAny_pure (wpAny_pure ⟨_, rfl, wpAny_pure h⟩)) htake))
    | exact wpAny_bind (wpAny_bind (m := Builtin.Tuple.tupleExact _) (wpAny_newObj_type (wpAny_pure ⟨_, rfl, wpAny_pure h⟩) htake))
end
end HT
namespace L2
open PySem PySem.Spec PyProof.Rows
abbrev TO := St → Hp → (Option Int → Hp → Prop) → Prop
/-- a slice's part (left out, or an int) -/
def PO (X : Cx) (e : Option Expr) (t : TO) : Prop :=
  ∀ (pins : List (Addr × Obj)) (s : Shared) (σ : St) (H : Hp) (Q : Option Int → Hp → Prop), Inv X pins σ H s → t σ H Q →
    wpAny (model X.prog X.w) X.A (evalPart e X.env) (fun u s' => ∃ o H', Inv X pins σ H' s' ∧ IsPart u o ∧ Q o H') X.xe s
def tNoPart : TO := fun _ H Q => Q none H
def tPart (t : TE) : TO := fun σ H Q => t σ H fun x H1 => ∃ i, x = .int i ∧ Q (some i) H1
section
variable {X : Cx} {e : Expr} {te : TE} {lo hi : Option Expr} {tl th : TO} {pos p2 : Pos}
theorem po_none : PO X none tNoPart := by
  intro pins s σ H Q I h
  rw [evalPart_none]
  exact wpAny_pure ⟨none, H, I, .none, h⟩
theorem po_some (h : PE X e te) : PO X (some e) (tPart te) := by
  intro pins s σ H Q I hw
  rw [evalPart_some]
  refine thn (h pins s σ H _ I hw) fun u s1 ⟨x, H1, I1, r1, q1⟩ => ?_
  obtain ⟨i, rfl, q⟩ := q1
  obtain ⟨t, rfl⟩ := r1
  exact ⟨some i, H1, I1, .int i t, q⟩
/-- what a slice of a value is, by values: the slice object stands at sl -/
def SlR (X : Cx) (r : V → Option Int → Option Int → Hp → VK → Prop) : Prop :=
  ∀ (pins : List (Addr × Obj)) (s : Shared) (σ : St) (H : Hp) (x : V) (v vl vu : Value) (lo hi : Option Int) (sl : Addr) (Q : VK), Inv X pins σ H s → RelV x v → s.heap.IsSliceOf sl vl vu .none → IsPart vl lo → IsPart vu hi → r x lo hi H Q →
    ∃ T id, typeLookup (.type T) "__getitem__" = pure (some (.builtin id)) ∧ s.TypeIs v T ∧ wpAny (model X.prog X.w) X.A (getItem v (.ref sl)) (EP X pins σ Q) X.xe s
theorem SlR.or {r r' : V → Option Int → Option Int → Hp → VK → Prop} (h : SlR X r) (h' : SlR X r') : SlR X (fun x lo hi H Q => r x lo hi H Q ∨ r' x lo hi H Q) := by
  intro pins s σ H x v vl vu lo hi sl Q I rx hs pl pu q
  rcases q with q | q
  · exact h pins s σ H x v vl vu lo hi sl Q I rx hs pl pu q
  · exact h' pins s σ H x v vl vu lo hi sl Q I rx hs pl pu q
def tSl (r : V → Option Int → Option Int → Hp → VK → Prop) (te : TE) (tl th : TO) : TE := fun σ H Q => te σ H fun x H1 => tl σ H1 fun l H2 => th σ H2 fun u H3 => r x l u H3 Q
/-- a[lo:hi], any a -/
theorem pe_slice {r : V → Option Int → Option Int → Hp → VK → Prop} (hr : SlR X r) (he : PE X e te) (hl : PO X lo tl) (hu : PO X hi th) : PE X (.Subscript e (.Slice lo hi none p2) pos) (tSl r te tl th) := by
  intro pins s σ H Q I h
  refine Subscript_ (thn (he pins s σ H _ I h) fun v s1 ⟨x, H1, I1, r1, q1⟩ => ?_)
  refine wpAny_Slice (thn (hl pins s1 σ H1 _ I1 q1) fun vl s2 ⟨l, H2, I2, pl, q2⟩ => thn (hu pins s2 σ H2 _ I2 q2) fun vu s3 ⟨u, H3, I3, pu, q3⟩ => ?_)
  rw [evalPart_none]
  refine wpAny_pure ?_
  have I4 : Inv X pins σ H3 { s3 with heap := s3.heap.push { cls := .type "slice", data := .fields #[vl, vu, .none] } } := I3.kept (t' := s3.toks) fun b ob q => Heap.get?_push_of_some _ q
  obtain ⟨T, id, hT, ht, hg⟩ := hr pins { s3 with heap := s3.heap.push { cls := .type "slice", data := .fields #[vl, vu, .none] } } σ H3 x v vl vu l u s3.heap.objs.size Q I4 r1 (Heap.IsSliceOf.new ..) pl pu q3
  show wpAny (model X.prog X.w) X.A (subscriptTail e (.Slice lo hi none p2) v (.ref s3.heap.objs.size)) (EP X pins σ Q) X.xe { s3 with heap := s3.heap.push { cls := .type "slice", data := .fields #[vl, vu, .none] } }
  exact tail_any (ops := [.ref s3.heap.objs.size, v]) ht hT hg (by with_unfolding_all rfl)
/-- the items of xs[lo:hi] -/
def cutV (xs : List V) (lo hi : Option Int) : List V := (xs.drop (HT.sIx xs.length 0 lo)).take (HT.sIx xs.length xs.length hi - HT.sIx xs.length 0 lo)
theorem cutV_length (xs : List V) (lo hi : Option Int) : (cutV xs lo hi).length ≤ xs.length := by
  unfold cutV
  rw [List.length_take, List.length_drop]
  omega
/-- t[lo:hi], not the whole of it (the whole would be t itself) -/
def rSlT (K : PySem.W.Frag) : V → Option Int → Option Int → Hp → VK → Prop := fun x lo hi H Q => ∃ a xs, x = .ref a ∧ SqT K H a xs ∧
  ¬ (HT.sIx xs.length 0 lo = 0 ∧ HT.sIx xs.length xs.length hi = xs.length) ∧ ∀ p, H p = none → Q (.ref p) (upd H p (.tup (cutV xs lo hi)))
theorem sl_tup : SlR X (rSlT X.K) := by
  intro pins s σ H x v vl vu lo hi sl Q I rx hs pl pu h
  obtain ⟨a, xs, rfl, hx, hw, q⟩ := h
  cases rx
  obtain ⟨its, r, ht, hz⟩ := I.tuple hx
  have hlen : its.toArray.size = xs.length := by rw [List.size_toArray]; exact r.length.symm
  refine ⟨"tuple", _, PyProof.Rows.slot_tuple_getitem.lookup, ht.typeIs, ?_⟩
  refine HT.getItem_tuple_cut ht hs pl pu (by rw [hlen]; exact hw) ?_ (by rw [hlen]; exact hz)
  rw [hlen]
  refine ⟨.ref s.heap.objs.size, _, I.laid (t' := s.toks) (o := .tup (cutV xs lo hi)) (fun b ob q => Heap.get?_push_of_some _ q) (Nat.le_refl _) ?_, rfl, q _ (I.hok.fresh (Nat.le_refl _))⟩
  exact ⟨Nat.le_trans (cutV_length xs lo hi) hz, _, (r.drop (HT.sIx xs.length 0 lo)).take (HT.sIx xs.length xs.length hi - HT.sIx xs.length 0 lo), IsTupN.new _ _⟩
/-- t + u, t not empty: u empty gives t itself -/
def rCatT (K : PySem.W.Frag) : R2 := fun x y H Q => ∃ a b xs ys, x = .ref a ∧ y = .ref b ∧ SqT K H a xs ∧ SqT K H b ys ∧ xs ≠ [] ∧ xs.length + ys.length ≤ sizeLine ∧
  (ys = [] → Q (.ref a) H) ∧ (ys ≠ [] → ∀ p, H p = none → Q (.ref p) (upd H p (.tup (xs ++ ys))))
theorem Vals.nil_iff {xs : List V} {us : List Value} (r : Vals xs us) : us = [] ↔ xs = [] := by
  cases r with
  | nil => simp
  | cons _ _ => simp
theorem op_catT : OpR X (binaryOp .Add) (rCatT X.K) := by
  intro pins s σ H x y v u Q I rx ry h
  obtain ⟨a, b, xs, ys, rfl, rfl, ha, hb, hx, hz, q1, q2⟩ := h
  cases rx
  cases ry
  obtain ⟨its, r1, p1, _⟩ := I.tuple ha
  obtain ⟨its2, r2, p2, _⟩ := I.tuple hb
  refine HT.cat_tup p1 p2 (fun z => hx (r1.nil_iff.mp z)) (fun z => ⟨.ref a, H, I, rfl, q1 (r2.nil_iff.mp z)⟩) (fun z => ?_) (by rw [← r1.length, ← r2.length]; exact hz)
  refine ⟨.ref s.heap.objs.size, _, I.laid (t' := s.toks) (o := .tup (xs ++ ys)) (fun b ob q => Heap.get?_push_of_some _ q) (Nat.le_refl _) ?_, rfl, q2 (fun w => z (r2.nil_iff.mpr w)) _ (I.hok.fresh (Nat.le_refl _))⟩
  exact ⟨by rw [List.length_append]; exact hz, _, r1.append r2, IsTupN.new _ _⟩
end
end L2
namespace L2
open PySem PySem.Spec PyProof.Rows
/-- the place that an index of any sign means -/
def ixN (n : Nat) (i : Int) : Option Nat := if 0 ≤ i then (if i < n then some i.toNat else none) else if -(n : Int) ≤ i then some (i + n).toNat else none
def atI {α : Type} (xs : List α) (i : Int) : Option α := (ixN xs.length i).bind fun j => xs[j]?
theorem ixN_seq {n : Nat} {i : Int} {j : Nat} (h : ixN n i = some j) : seqIndex? i n = some j ∧ j < n ∧ -(n : Int) ≤ i ∧ i < n := by
  unfold ixN at h
  by_cases h0 : 0 ≤ i
  · rw [if_pos h0] at h
    by_cases h1 : i < n
    · rw [if_pos h1] at h
      have e : i.toNat = j := Option.some.inj h
      exact ⟨by rw [seqIndex_of h0 h1, e], by omega, by omega, h1⟩
    · rw [if_neg h1] at h; cases h
  · rw [if_neg h0] at h
    by_cases h1 : -(n : Int) ≤ i
    · rw [if_pos h1] at h
      have e : (i + n).toNat = j := Option.some.inj h
      exact ⟨by rw [seqIndex_neg (by omega) h1, e], by omega, h1, by omega⟩
    · rw [if_neg h1] at h; cases h
theorem atI_get {α : Type} {xs : List α} {i : Int} {v : α} (h : atI xs i = some v) : ∃ j, seqIndex? i xs.length = some j ∧ xs[j]? = some v ∧ j < xs.length ∧ -(xs.length : Int) ≤ i ∧ i < xs.length := by
  unfold atI at h
  cases e : ixN xs.length i with
  | none => rw [e] at h; cases h
  | some j =>
    rw [e] at h
    obtain ⟨h1, h2, h3, h4⟩ := ixN_seq e
    exact ⟨j, h1, h, h2, h3, h4⟩
theorem atI_nat {α : Type} {xs : List α} {j : Nat} {v : α} (h : xs[j]? = some v) : atI xs (j : Int) = some v := by
  have hj : j < xs.length := (List.getElem?_eq_some_iff.mp h).1
  have e : ixN xs.length (j : Int) = some j := by
    unfold ixN
    rw [if_pos (by omega), if_pos (by omega)]; simp
  unfold atI; rw [e]; exact h
/-- what stands as an index of a plain subscript -/
def PlainIx (b : Expr) : Prop := ∀ o i, subscripted b false o i = operate [o, i] (getItem o i)
/-- a subscript by values -/
def IxR (X : Cx) (r : R2) : Prop :=
  ∀ (value slice : Expr) (pins : List (Addr × Obj)) (s : Shared) (σ : St) (H : Hp) (x y : V) (v u : Value) (Q : VK), Inv X pins σ H s → RelV x v → RelV y u → r x y H Q →
    subscripted slice false v u = operate [v, u] (getItem v u) → wpAny (model X.prog X.w) X.A (subscriptTail value slice v u) (EP X pins σ Q) X.xe s
/-- a call of a builtin's method by values: the receiver, the arguments -/
def MtR (X : Cx) (id : String) (r : V → List V → Hp → VK → Prop) : Prop :=
  ∀ (pins : List (Addr × Obj)) (s : Shared) (σ : St) (H : Hp) (x : V) (xs : List V) (v : Value) (us : List Value) (Q : VK), Inv X pins σ H s → RelV x v → Vals xs us → r x xs H Q →
    wpAny (model X.prog X.w) X.A (call (.builtin id) (v :: us)) (EP X pins σ Q) X.xe s
section
variable {X : Cx} {a b : Expr} {ta tb : TE} {pos : Pos}
theorem IxR.or {r r' : R2} (h : IxR X r) (h' : IxR X r') : IxR X (fun x y H Q => r x y H Q ∨ r' x y H Q) := by
  intro value slice pins s σ H x y v u Q I rx ry q hs
  rcases q with q | q
  · exact h value slice pins s σ H x y v u Q I rx ry q hs
  · exact h' value slice pins s σ H x y v u Q I rx ry q hs
theorem MtR.or {id : String} {r r' : V → List V → Hp → VK → Prop} (h : MtR X id r) (h' : MtR X id r') : MtR X id (fun x xs H Q => r x xs H Q ∨ r' x xs H Q) := by
  intro pins s σ H x xs v us Q I rx rs q
  rcases q with q | q
  · exact h pins s σ H x xs v us Q I rx rs q
  · exact h' pins s σ H x xs v us Q I rx rs q
/-- a[b] -/
theorem pe_ix {r : R2} (hr : IxR X r) (ha : PE X a ta) (hb : PE X b tb) (hs : PlainIx b) : PE X (.Subscript a b pos) (tOp r ta tb) := by
  intro pins s σ H Q I h
  exact Subscript_ (binT ha hb I h fun v u s2 x y H2 I2 rx ry q => hr a b pins s2 σ H2 x y v u Q I2 rx ry q (hs _ _))
def rIxL (K : PySem.W.Frag) : R2 := fun x y H Q => ∃ p xs i v, x = .ref p ∧ y = .int i ∧ SqL K H p xs ∧ atI xs i = some v ∧ Q v H
def rIxT (K : PySem.W.Frag) : R2 := fun x y H Q => ∃ p xs i v, x = .ref p ∧ y = .int i ∧ SqT K H p xs ∧ atI xs i = some v ∧ Q v H
def rIxS : R2 := fun x y H Q => ∃ z i c, x = .str z ∧ y = .int i ∧ z.length ≤ sizeLine ∧ atI z.cps.toList i = some c ∧ Q (.str ⟨#[c]⟩) H
theorem ix_list : IxR X (rIxL X.K) := by
  intro value slice pins s σ H x y v u Q I rx ry h hs
  obtain ⟨p, xs, i, z, rfl, rfl, hq, he, q⟩ := h
  cases rx
  obtain ⟨t, rfl⟩ := ry
  obtain ⟨its, r, pl, hz⟩ := I.list hq
  obtain ⟨j, h1, h2, h3, h4, h5⟩ := atI_get he
  obtain ⟨w, ew, rw'⟩ := r.get h2
  have hl := r.length
  have hn := line63
  have fin : EP X pins σ Q w s := ⟨z, H, I, rw', q⟩
  by_cases h0 : 0 ≤ i
  · have hj : i.toNat = j := by
      rw [seqIndex_of h0 h5] at h1
      exact Option.some.inj h1
    exact item_listR pl.isList h0 (by omega) (by rw [hj]; simpa using ew) fin hs
  · have hj : (i + (its.toArray.size : Int)).toNat = j := by
      rw [seqIndex_neg (by omega) h4] at h1
      rw [List.size_toArray, ← hl]
      exact Option.some.inj h1
    exact subscriptTail_builtinR (x := w) pl.isList.typeIs slot_list_getitem.lookup
      (wpAny_getItem_list_neg (Q := fun r s' => r = w ∧ EP X pins σ Q r s') pl.isList (by omega) (by rw [List.size_toArray] <;> omega) (by omega) (by rw [hj]; simpa using ew) ⟨rfl, fin⟩) hs
theorem ix_tup : IxR X (rIxT X.K) := by
  intro value slice pins s σ H x y v u Q I rx ry h hs
  obtain ⟨p, xs, i, z, rfl, rfl, hq, he, q⟩ := h
  cases rx
  obtain ⟨t, rfl⟩ := ry
  obtain ⟨its, r, pl, hz⟩ := I.tuple hq
  obtain ⟨j, h1, h2, h3, h4, h5⟩ := atI_get he
  obtain ⟨w, ew, rw'⟩ := r.get h2
  have hl := r.length
  have hn := line63
  have fin : EP X pins σ Q w s := ⟨z, H, I, rw', q⟩
  exact subscriptTail_builtinR (x := w) pl.typeIs slot_tuple_getitem.lookup
    (getItem_tuple (j := j) (Q := fun r s' => r = w ∧ EP X pins σ Q r s') pl (by omega) (by omega) (by rw [List.size_toArray, ← hl]; exact h1) (by simpa using ew) ⟨rfl, fin⟩) hs
theorem ix_str : IxR X rIxS := by
  intro value slice pins s σ H x y v u Q I rx ry h hs
  obtain ⟨z, i, c, rfl, rfl, hz, he, q⟩ := h
  obtain ⟨t, rfl⟩ := rx
  obtain ⟨t', rfl⟩ := ry
  obtain ⟨j, h1, h2, h3, h4, h5⟩ := atI_get he
  have hl : z.cps.toList.length = z.length := by simp [Str.length]
  rw [hl] at h1 h4 h5
  have hn := line63
  exact tail_any (typeIs_str s z t) slot_str_getitem.lookup (getItem_str (c := c) (by
    have e1 : decide (i < -(2 ^ 63 : Int)) = false := decide_eq_false (by omega)
    have e2 : decide (i ≥ 2 ^ 63) = false := decide_eq_false (by omega)
    rw [e1, e2, Bool.or_false]) (by rw [h1]; simpa using h2) ⟨.str ⟨#[c]⟩, H, I.tok _, ⟨_, rfl⟩, q⟩) hs
/-- list, tuple or str -/
def rIx (K : PySem.W.Frag) : R2 := fun x y H Q => rIxL K x y H Q ∨ rIxT K x y H Q ∨ rIxS x y H Q
theorem ix_seq : IxR X (rIx X.K) := ix_list.or (ix_tup.or ix_str)
/-- the list's object behind a store -/
theorem mapSeq_set (its : List Value) (n j : Nat) (u : Value) : Obj.mapSeq (·.setIfInBounds j u) { cls := .type "list", data := .seq its.toArray n } = { cls := .type "list", data := .seq (its.set j u).toArray n } := by
  simp [Obj.mapSeq]
theorem Inv.lst {pins : List (Addr × Obj)} {σ : St} {H : Hp} {s : Shared} {p : Addr} {xs : List V} (I : Inv X pins σ H s) (h : H p = some (.lst xs)) :
    ∃ (its : List Value) (n : Nat), Vals xs its ∧ s.heap.get? p = some { cls := .type "list", data := .seq its.toArray n } ∧ xs.length ≤ sizeLine := by
  obtain ⟨z, its, n, r, e⟩ := I.hok p _ h
  exact ⟨its, n, r, e, z⟩
/-- the list at p is written by an update of its object -/
theorem Inv.lstUpd {pins : List (Addr × Obj)} {σ : St} {H : Hp} {s : Shared} {p : Addr} {xs ys : List V} {its its' : List Value} {n n' : Nat} {f : Obj → Obj} (I : Inv X pins σ H s) (h : H p = some (.lst xs))
    (ho : s.heap.get? p = some { cls := .type "list", data := .seq its.toArray n }) (hf : f { cls := .type "list", data := .seq its.toArray n } = { cls := .type "list", data := .seq its'.toArray n' }) (r : Vals ys its') (hz : ys.length ≤ sizeLine) (t : Nat) :
    Inv X pins σ (upd H p (.lst ys)) { s with heap := s.heap.update p f, toks := t } := by
  have e : (s.heap.update p f).get? p = some { cls := .type "list", data := .seq its'.toArray n' } := by
    rw [Heap.get?_update_self f ho (by rw [hf] <;> rfl), hf]
  refine I.write (x := p) (e := p) (by rw [h]; trivial) (.inl rfl) (fun b u hb q => (Heap.get?_update_other _ _ (Ne.symm hb)).trans q) ⟨_, e⟩ ?_
  exact ⟨hz, its', n', r, e⟩
def rSetL : V → V → V → Hp → (Hp → Prop) → Prop := fun o i v H Q => ∃ p xs k j, o = .ref p ∧ i = .int k ∧ H p = some (.lst xs) ∧ ixN xs.length k = some j ∧ Q (upd H p (.lst (xs.set j v)))
theorem set_list : PSet X rSetL := by
  intro pins s σ H o i v ov iv u Q I ro ri rv h
  obtain ⟨p, xs, k, j, rfl, rfl, hp, hj, q⟩ := h
  cases ro
  obtain ⟨t, rfl⟩ := ri
  obtain ⟨its, n, r, ho, hz⟩ := I.lst hp
  obtain ⟨h1, h2, h3, h4⟩ := ixN_seq hj
  have hl := r.length
  have hn := line63
  have I' : Inv X pins σ (upd H p (.lst (xs.set j v))) { s with heap := s.heap.update p (Obj.mapSeq (·.setIfInBounds j u)) } :=
    I.lstUpd hp ho (mapSeq_set its n j u) (r.set rv j) (by rw [List.length_set]; exact hz) s.toks
  by_cases h0 : 0 ≤ k
  · have hk : k.toNat = j := by
      rw [seqIndex_of h0 h4] at h1
      exact Option.some.inj h1
    exact PySem.W.ki_setAt ho h0 (by omega) (by rw [List.size_toArray, ← hl]; exact h4) (by rw [hk]; exact ⟨_, I', q⟩)
  · have hk : (k + (its.toArray.size : Int)).toNat = j := by
      rw [seqIndex_neg (by omega) h3] at h1
      rw [List.size_toArray, ← hl]
      exact Option.some.inj h1
    exact PySem.W.ki_setBack ho (by omega) (by rw [List.size_toArray, ← hl]; exact h3) (by omega) (by rw [hk]; exact ⟨_, I', q⟩)
theorem slice_bounds (lo hi : Option Int) (n : Nat) : (sliceBounds lo hi none n).1 = ((HT.sIx n 0 lo : Nat) : Int) ∧ (sliceBounds lo hi none n).2.1 = ((HT.sIx n n hi : Nat) : Int) ∧ (sliceBounds lo hi none n).2.2 = 1 := by
  refine ⟨?_, ?_, rfl⟩
  · cases lo with
    | none => simp [sliceBounds, HT.sIx]
    | some i =>
      simp only [sliceBounds, HT.sIx, Option.getD_none, show (1 : Int) > 0 by decide, if_true]
      by_cases h : i < 0
      · simp only [h, if_true] <;> omega
      · simp only [h, if_false] <;> omega
  · cases hi with
    | none => simp [sliceBounds, HT.sIx]
    | some i =>
      simp only [sliceBounds, HT.sIx, Option.getD_none, show (1 : Int) > 0 by decide, if_true]
      by_cases h : i < 0
      · simp only [h, if_true] <;> omega
      · simp only [h, if_false] <;> omega
theorem slicePick_cut (its : List Value) (lo hi : Option Int) : slicePick its.toArray lo hi none = ((its.drop (HT.sIx its.length 0 lo)).take (HT.sIx its.length its.length hi - HT.sIx its.length 0 lo)).toArray := by
  obtain ⟨h1, h2, h3⟩ := slice_bounds lo hi its.toArray.size
  unfold slicePick
  rw [h1, h2, h3]
  simp only [sliceRange_one, pick_run, List.size_toArray] <;> rfl
/-- xs[lo:hi] of a list: a new list -/
def rSlL (K : PySem.W.Frag) : V → Option Int → Option Int → Hp → VK → Prop := fun x lo hi H Q => ∃ a xs, x = .ref a ∧ SqL K H a xs ∧ ∀ p, H p = none → Q (.ref p) (upd H p (.lst (cutV xs lo hi)))
theorem sl_list : SlR X (rSlL X.K) := by
  intro pins s σ H x v vl vu lo hi sl Q I rx hs pl pu h
  obtain ⟨a, xs, rfl, hx, q⟩ := h
  cases rx
  obtain ⟨its, r, ht, hz⟩ := I.list hx
  have hlen := r.length
  refine ⟨"list", _, slot_list_getitem.lookup, ht.isList.typeIs, ?_⟩
  refine wpAny_getItem_list_slice ht.isList hs pl pu .none (by simp) ?_ (by rw [List.size_toArray] <;> omega)
  rw [slicePick_cut, ← hlen]
  refine ⟨.ref s.heap.objs.size, _, I.laid (t' := s.toks) (o := .lst (cutV xs lo hi)) (fun b ob q => Heap.get?_push_of_some _ q) (Nat.le_refl _) ?_, rfl, q _ (I.hok.fresh (Nat.le_refl _))⟩
  exact ⟨Nat.le_trans (cutV_length xs lo hi) hz, _, 0, (r.drop (HT.sIx xs.length 0 lo)).take (HT.sIx xs.length xs.length hi - HT.sIx xs.length 0 lo), Heap.get?_push_size _ rfl⟩
def flatV : V → Bool
  | .non => true
  | .bl _ => true
  | .int _ => true
  | .str _ => true
  | _ => false
/-- == of flat values -/
def eqV : V → V → Bool
  | .non, .non => true
  | .bl a, .bl b => a == b
  | .bl a, .int b => (if a then 1 else 0) == b
  | .int a, .bl b => a == (if b then 1 else 0)
  | .int a, .int b => a == b
  | .str a, .str b => a == b
  | _, _ => false
theorem eqAt_V {A : Around} {s : Shared} {y x : V} {u v : Value} (ry : RelV y u) (rx : RelV x v) (fy : flatV y = true) (fx : flatV x = true) : SeqAt.EqAt A s u v (eqV y x) := by
  cases y with
  | non =>
    cases ry
    cases x with
    | non => cases rx; exact SeqAt.EqAt.same _
    | bl b => cases rx; exact SeqAt.EqAt.none_bool b
    | int b => obtain ⟨t, rfl⟩ := rx; exact SeqAt.EqAt.none_int b t
    | str b => obtain ⟨t, rfl⟩ := rx; exact SeqAt.EqAt.none_str b t
    | _ => exact absurd (show false = true from fx) Bool.false_ne_true
  | bl a =>
    cases ry
    cases x with
    | non => cases rx; exact SeqAt.EqAt.bool_none a
    | bl b => cases rx; exact SeqAt.EqAt.bool_bool a b
    | int b => obtain ⟨t, rfl⟩ := rx; exact SeqAt.EqAt.bool_int a b t
    | str b => obtain ⟨t, rfl⟩ := rx; exact SeqAt.EqAt.bool_str a b t
    | _ => exact absurd (show false = true from fx) Bool.false_ne_true
  | int a =>
    obtain ⟨t', rfl⟩ := ry
    cases x with
    | non => cases rx; exact SeqAt.EqAt.int_none a t'
    | bl b => cases rx; exact SeqAt.EqAt.int_bool a t' b
    | int b => obtain ⟨t, rfl⟩ := rx; exact SeqAt.EqAt.int_int a t' b t
    | str b => obtain ⟨t, rfl⟩ := rx; exact SeqAt.EqAt.int_str a t' b t
    | _ => exact absurd (show false = true from fx) Bool.false_ne_true
  | str a =>
    obtain ⟨t', rfl⟩ := ry
    cases x with
    | non => cases rx; exact SeqAt.EqAt.str_none a t'
    | bl b => cases rx; exact SeqAt.EqAt.str_bool a t' b
    | int b => obtain ⟨t, rfl⟩ := rx; exact SeqAt.EqAt.str_int a t' b t
    | str b => obtain ⟨t, rfl⟩ := rx; exact SeqAt.EqAt.str_str a t' b t
    | _ => exact absurd (show false = true from fx) Bool.false_ne_true
  | _ => exact absurd (show false = true from fy) Bool.false_ne_true
/-- the items' answers, read off the values (a value's own answer does not lean on its token) -/
def eqU (x : V) (u : Value) : Bool := match u with
  | .none => eqV .non x
  | .bool b => eqV (.bl b) x
  | .int i _ => eqV (.int i) x
  | .str z _ => eqV (.str z) x
  | _ => false
theorem eqU_of {x y : V} {u : Value} (r : RelV y u) (f : flatV y = true) : eqU x u = eqV y x := by
  cases y with
  | non => cases r; rfl
  | bl b => cases r; rfl
  | int i => obtain ⟨t, rfl⟩ := r; rfl
  | str z => obtain ⟨t, rfl⟩ := r; rfl
  | _ => exact absurd (show false = true from f) Bool.false_ne_true
theorem any_eqU {x : V} : ∀ {xs : List V} {us : List Value}, Vals xs us → xs.all flatV = true → us.any (eqU x) = xs.any fun y => eqV y x
  | _, _, .nil, _ => rfl
  | y :: xs, u :: us, .cons r t, f => by
    rw [List.all_cons, Bool.and_eq_true] at f
    rw [List.any_cons, List.any_cons, eqU_of r f.1, any_eqU t f.2]
theorem mem_eqAt {A : Around} {s : Shared} {x : V} {v : Value} (rx : RelV x v) (fx : flatV x = true) : ∀ {xs : List V} {us : List Value}, Vals xs us → xs.all flatV = true → ∀ u ∈ us, SeqAt.EqAt A s u v (eqU x u)
  | _, _, .nil, _ => fun u hu => by cases hu
  | y :: xs, u :: us, .cons r t, f => fun u' hu => by
    rw [List.all_cons, Bool.and_eq_true] at f
    rcases List.mem_cons.mp hu with rfl | hu
    · rw [eqU_of r f.1]; exact eqAt_V r rx f.1 fx
    · exact mem_eqAt rx fx t f.2 u' hu
def inV (x : V) (xs : List V) : Bool := xs.any fun y => eqV y x
/-- x in a list or tuple of flat items -/
def rIn (K : PySem.W.Frag) (neg : Bool) : R2 := fun x y H Q => ∃ p xs, y = .ref p ∧ (SqL K H p xs ∨ SqT K H p xs) ∧ flatV x = true ∧ xs.all flatV = true ∧ Q (.bl (if neg then !inV x xs else inV x xs)) H
theorem op_in_seq : OpR X (compareOp .In) (rIn X.K false) := by
  intro pins s σ H x y v u Q I rx ry h
  obtain ⟨p, xs, rfl, hq, fx, fs, q⟩ := h
  cases ry
  rcases hq with hq | hq
  · obtain ⟨its, r, pl, hz⟩ := I.list hq
    refine SeqAt.in_listAt (eqU x) pl.isList (fun w hw => mem_eqAt rx fx r fs w (by simpa using hw)) ⟨.bl _, H, I, rfl, ?_⟩
    rw [show its.toArray.any (eqU x) = its.any (eqU x) by simp, any_eqU r fs]
    exact q
  · obtain ⟨its, r, pl, hz⟩ := I.tuple hq
    refine SeqAt.in_tupleAt (eqU x) pl (fun w hw => mem_eqAt rx fx r fs w (by simpa using hw)) ⟨.bl _, H, I, rfl, ?_⟩
    rw [show its.toArray.any (eqU x) = its.any (eqU x) by simp, any_eqU r fs]
    exact q
theorem op_notIn_seq : OpR X (compareOp .NotIn) (rIn X.K true) := by
  intro pins s σ H x y v u Q I rx ry h
  obtain ⟨p, xs, rfl, hq, fx, fs, q⟩ := h
  cases ry
  rcases hq with hq | hq
  · obtain ⟨its, r, pl, hz⟩ := I.list hq
    refine SeqAt.notIn_listAt (eqU x) pl.isList (fun w hw => mem_eqAt rx fx r fs w (by simpa using hw)) ⟨.bl _, H, I, rfl, ?_⟩
    rw [show its.toArray.any (eqU x) = its.any (eqU x) by simp, any_eqU r fs]
    exact q
  · obtain ⟨its, r, pl, hz⟩ := I.tuple hq
    refine SeqAt.notIn_tupleAt (eqU x) pl (fun w hw => mem_eqAt rx fx r fs w (by simpa using hw)) ⟨.bl _, H, I, rfl, ?_⟩
    rw [show its.toArray.any (eqU x) = its.any (eqU x) by simp, any_eqU r fs]
    exact q
theorem CallR.or {f : Value} {r r' : List V → Hp → VK → Prop} (h : CallR X f r) (h' : CallR X f r') : CallR X f (fun xs H Q => r xs H Q ∨ r' xs H Q) := by
  intro pins s σ H xs us Q I rs q
  rcases q with q | q
  · exact h pins s σ H xs us Q I rs q
  · exact h' pins s σ H xs us Q I rs q
theorem call_tuple_of : CallR X (.type "tuple") (fun xs H Q => ∃ p ys, xs = [.ref p] ∧ ((SqL X.K H p ys ∧ ∀ l, H l = none → Q (.ref l) (upd H l (.tup ys))) ∨ (SqT X.K H p ys ∧ Q (.ref p) H))) := by
  intro pins s σ H xs us Q I r h
  obtain ⟨p, ys, rfl, h⟩ := h
  obtain ⟨u, rfl, rx⟩ := vals1 r
  cases rx
  rcases h with ⟨hq, q⟩ | ⟨hq, q⟩
  · obtain ⟨its, r', pl, hz⟩ := I.list hq
    have hlen := r'.length
    refine call_tuple_list pl.isList (fun h' kp => ?_) (by simp only [List.size_toArray] <;> omega)
    have I1 : Inv X pins σ H { s with heap := h' } := I.kept (t' := s.toks) kp
    have I2 : Inv X pins σ (upd H h'.objs.size (.tup ys)) { s with heap := h'.push { cls := .type "tuple", data := .seq its.toArray } } :=
      I1.laid (t' := s.toks) (fun b o e => Heap.get?_push_of_some _ e) (Nat.le_refl _) (show ObjOk X.prog X.w _ _ _ (.tup ys) from ⟨hz, its, r', IsTupN.new _ _⟩)
    exact ⟨.ref h'.objs.size, _, I2, rfl, q _ (I1.hok.fresh (Nat.le_refl _))⟩
  · obtain ⟨its, r', pl, hz⟩ := I.tuple hq
    exact call_tuple_same pl ⟨.ref p, H, I, rfl, q⟩
/-- the value is of that builtin type -/
def tyV (K : PySem.W.Frag) (T : String) (x : V) (H : Hp) : Prop := match x with
  | .str _ => T = "str"
  | .int _ => T = "int"
  | .ref p => (T = "list" ∧ ∃ xs, SqL K H p xs) ∨ (T = "tuple" ∧ ∃ o, K.lookup p = some o ∧ o.cls = .type "tuple" ∧ o.dict = none) ∨
      (T = "dict" ∧ ((∃ kvs, H p = some (.dK kvs)) ∨ ∃ kvs, H p = some (.dT kvs))) ∨ (T = "set" ∧ ∃ S n, H p = some (.set S n))
  | _ => False
theorem tyV_is {pins : List (Addr × Obj)} {σ : St} {H : Hp} {s : Shared} {T : String} {x : V} {v : Value} (I : Inv X pins σ H s) (r : RelV x v) (ty : tyV X.K T x H) :
    s.TypeIs v T ∧ ∀ a, v = .ref a → ∃ ob, s.heap.get? a = some ob ∧ ob.dict = none := by
  cases x with
  | str z =>
    obtain ⟨t, rfl⟩ := r
    cases (show T = "str" from ty)
    exact ⟨typeIs_str s z t, fun _ e => nomatch e⟩
  | int i =>
    obtain ⟨t, rfl⟩ := r
    cases (show T = "int" from ty)
    exact ⟨typeIs_int s i t, fun _ e => nomatch e⟩
  | ref p =>
    cases r
    rcases ty with ⟨rfl, xs, hq⟩ | ⟨rfl, o, hk, hc, hd⟩ | ⟨rfl, hk⟩ | ⟨rfl, S, n, hk⟩
    · obtain ⟨its, _, pl, _⟩ := I.list hq
      refine ⟨pl.isList.typeIs, fun a e => ?_⟩
      cases e
      obtain ⟨o, n, e, c, hd, _⟩ := pl
      exact ⟨o, e, hd⟩
    · refine ⟨⟨o, I.kIn p o hk, hc⟩, fun a e => ?_⟩
      cases e
      exact ⟨o, I.kIn _ o hk, hd⟩
    · have z : ∃ o, s.heap.get? p = some o ∧ o.ExactDict := by
        rcases hk with ⟨kvs, hk⟩ | ⟨kvs, hk⟩
        · obtain ⟨_, _, _, _, o, _, _, e, ex, _⟩ := I.hok p _ hk
          exact ⟨o, e, ex⟩
        · exact False.elim (I.hok p _ hk)
      obtain ⟨o, e, ex⟩ := z
      refine ⟨⟨o, e, ex.1⟩, fun a e2 => ?_⟩
      cases e2
      exact ⟨o, e, ex.2.1⟩
    · obtain ⟨o, _, _, _, e, ex, _⟩ := I.hok p _ hk
      refine ⟨⟨o, e, ex.1⟩, fun a e2 => ?_⟩
      cases e2
      exact ⟨o, e, ex.2.1⟩
  | _ => exact False.elim ty
def tBM (K : PySem.W.Frag) (T : String) (r : V → List V → Hp → VK → Prop) (to : TE) (t : TA) : TE := fun σ H Q => to σ H fun x H1 => tyV K T x H1 ∧ t σ H1 fun xs H2 => r x xs H2 Q
variable {o e : Expr} {es : List Expr} {to : TE} {t : TA} {name : Str} {apos cpos : Pos} {T id : String} {r : V → List V → Hp → VK → Prop}
theorem pe_bm (pa : PlainAttrs T) (slot : Slot T name id) (hty : typeOf (.builtin id) = pure (.type "method_descriptor")) (hm : MtR X id r) (ho : PE X o to) (ha : PA X (e :: es) t)
    (hbase : attributeBase o name X.env (eval o X.env) = eval o X.env := by rfl)
    (hfew : ((backTo cpos (starEach (e :: es) X.env)).all (fun x => !x.1) && (backToKw cpos (keywordEach [] X.env)).all (fun x => x.1.isSome)
      && decide ((e :: es).length + ([] : List Keyword).length + (if ([] : List Keyword).isEmpty then 0 else 1) < 30)) = true := by rfl)
    (hline : (apos.endLine == cpos.line) = true := by rfl) (hs : starEach (e :: es) X.env = (false, eval e X.env) :: starEach es X.env := by rfl) (hplain : (backTo cpos (starEach es X.env)).any (·.1) = false := by rfl) :
    PE X (.Call (.Attribute o name apos) (e :: es) [] cpos) (tBM X.K T r to t) := by
  intro pins s σ H Q I h
  refine wpAny_Call_method_late hbase hfew hline rfl (thn (ho pins s σ H _ I h) fun v s1 ⟨x, H1, I1, r1, ty, q1⟩ => ?_)
  obtain ⟨h1, h2⟩ := tyV_is I1 r1 ty
  refine ⟨T, id, pa, slot, hty, h1, h2, ?_⟩
  have hA := ha cpos pins s1 σ H1 _ I1 q1
  rw [hs] at hA ⊢
  refine Calls.callWith_builtin (by show (false || (backTo cpos (starEach es X.env)).any (·.1)) = false; rw [hplain] <;> rfl) (Calls.evalArgs_plain ?_)
  exact thn hA fun us s2 ⟨vs, H2, I2, r2, q2⟩ => hm pins s2 σ H2 x vs v us Q I2 r1 r2 q2
end
end L2
namespace L2
open PySem PySem.Spec PyProof.Rows
def MtM (X : Cx) (id : String) (r : V → List V → Hp → VK → Prop) : Prop :=
  ∀ (pins : List (Addr × Obj)) (s : Shared) (σ : St) (H : Hp) (x : V) (xs : List V) (v : Value) (us : List Value) (Q : VK), Inv X pins σ H s → RelV x v → Vals xs us → r x xs H Q →
    wpAny (model X.prog X.w) X.A (call (.builtin id) (v :: us)) (EP X pins σ Q) X.xe s
theorem Vals.one : ∀ {x : V} {us : List Value}, Vals [x] us → ∃ u, us = [u] ∧ RelV x u
  | _, _, .cons r .nil => ⟨_, rfl, r⟩
theorem Vals.two : ∀ {x y : V} {us : List Value}, Vals [x, y] us → ∃ u v, us = [u, v] ∧ RelV x u ∧ RelV y v
  | _, _, _, .cons r (.cons q .nil) => ⟨_, _, rfl, r, q⟩
theorem Vals.zero : ∀ {us : List Value}, Vals [] us → us = []
  | _, .nil => rfl
theorem Vals.dropLast {xs : List V} {us : List Value} (h : Vals xs us) : Vals xs.dropLast us.dropLast := by
  induction h with
  | nil => exact .nil
  | cons r t ih =>
    cases t with
    | nil => exact .nil
    | cons q t' => exact .cons r ih
theorem Vals.eraseIdx : ∀ {xs : List V} {us : List Value} (i : Nat), Vals xs us → Vals (xs.eraseIdx i) (us.eraseIdx i)
  | _, _, _, .nil => .nil
  | _, _, 0, .cons _ t => t
  | _, _, i + 1, .cons r t => .cons r (Vals.eraseIdx i t)
theorem Vals.rep {xs : List V} {us : List Value} (h : Vals xs us) : ∀ k : Nat, Vals (List.replicate k xs).flatten (List.replicate k us).flatten
  | 0 => .nil
  | k + 1 => by
    rw [List.replicate_succ, List.replicate_succ, List.flatten_cons, List.flatten_cons]
    exact Vals.append h (Vals.rep h k)
theorem len_erase {α : Type} : ∀ (l : List α) (i : Nat), (l.eraseIdx i).length ≤ l.length
  | [], _ => Nat.le_refl _
  | _ :: _, 0 => Nat.le_succ _
  | _ :: r, i + 1 => Nat.succ_le_succ (len_erase r i)
section
variable {X : Cx} {pins : List (Addr × Obj)} {σ : St} {H : Hp} {s : Shared} {l b : Addr} {xs ys zs : List V}
theorem Inv.lset {its its' : List Value} {n : Nat} {f : Array Value → Array Value} {t' : Nat} (I : Inv X pins σ H s) (hH : H l = some (.lst xs))
    (e : s.heap.get? l = some { cls := .type "list", data := .seq its.toArray n }) (hf : f its.toArray = its'.toArray) (hv : Vals ys its') (hz : ys.length ≤ sizeLine) :
    Inv X pins σ (upd H l (.lst ys)) { s with heap := s.heap.update l (Obj.mapSeq f), toks := t' } := by
  have q := PySem.IsL.update e f
  rw [hf] at q
  refine I.write (x := l) (e := l) (by rw [hH]; exact trivial) (.inl rfl) (fun b' u hb hu => (Heap.get?_update_other s.heap (Obj.mapSeq f) (Ne.symm hb)).trans hu) ⟨_, q⟩ ?_
  exact ⟨hz, its', _, hv, q⟩
theorem Inv.lnew {its : List Value} {t' : Nat} (I : Inv X pins σ H s) (hv : Vals ys its) (hz : ys.length ≤ sizeLine) :
    Inv X pins σ (upd H s.heap.objs.size (.lst ys)) { s with heap := s.heap.push { cls := .type "list", data := .seq its.toArray }, toks := t' } :=
  I.laid (fun _ _ q => Heap.get?_push_of_some _ q) (Nat.le_refl _) ⟨hz, its, 0, hv, Heap.get?_push_size _ rfl⟩
theorem Inv.fresh (I : Inv X pins σ H s) : H s.heap.objs.size = none := I.hok.fresh (Nat.le_refl _)
theorem Inv.lstM (I : Inv X pins σ H s) (hH : H l = some (.lst xs)) : xs.length ≤ sizeLine ∧ ∃ (its : List Value) (n : Nat), Vals xs its ∧ xs.length = its.length ∧ s.heap.get? l = some { cls := .type "list", data := .seq its.toArray n } := by
  obtain ⟨z, its, n, r, e⟩ := I.hok l _ hH
  exact ⟨z, its, n, r, r.length, e⟩
theorem notLongL {n : Nat} (h : n ≤ sizeLine) : Builtin.List.listTooLong n = false := by
  unfold Builtin.List.listTooLong
  exact decide_eq_false (by omega)
end
section
variable {X : Cx}
def rAppend : V → List V → Hp → VK → Prop := fun x vs H Q => ∃ l xs y, x = .ref l ∧ vs = [y] ∧ H l = some (.lst xs) ∧ xs.length < sizeLine ∧ Q .non (upd H l (.lst (xs ++ [y])))
theorem mt_append : MtM X "list.append" rAppend := by
  intro pins s σ H x vs v us Q I rx rv h
  obtain ⟨l, xs, y, rfl, rfl, hH, hz, q⟩ := h
  cases rx
  obtain ⟨u, rfl, ru⟩ := rv.one
  obtain ⟨z, its, n, r, hl, e⟩ := I.lstM hH
  refine call_meets F.slot_list_append ⟨_, e, rfl⟩ F.entry_list_append (F.args_list_append_2 _ _) (PySem.list_append l its.toArray n u (by rw [List.size_toArray]; omega)) ⟨e, ?_⟩
  refine ⟨.non, _, I.lset (its' := its ++ [u]) hH e (by simp) (r.append (.cons ru .nil)) ?_, rfl, q⟩
  rw [List.length_append, List.length_singleton]
  omega
def rPopAt : V → List V → Hp → VK → Prop := fun x vs H Q => ∃ l xs i k y, x = .ref l ∧ vs = [.int i] ∧ H l = some (.lst xs) ∧ -(2 ^ 63) ≤ i ∧ i < 2 ^ 63 ∧ seqIndex? i xs.length = some k ∧ xs[k]? = some y ∧ Q y (upd H l (.lst (xs.eraseIdx k)))
theorem mt_popAt : MtM X "list.pop" rPopAt := by
  intro pins s σ H x vs v us Q I rx rv h
  obtain ⟨l, xs, i, k, y, rfl, rfl, hH, h1, h2, hk, hy, q⟩ := h
  cases rx
  obtain ⟨u, rfl, ru⟩ := rv.one
  obtain ⟨t, rfl⟩ := ru
  obtain ⟨z, its, n, r, hl, e⟩ := I.lstM hH
  obtain ⟨w, hw, rw'⟩ := r.get hy
  refine call_meets F.slot_list_pop ⟨_, e, rfl⟩ F.entry_list_pop (F.args_list_pop_2 _ _)
    (MeetsSeq.list_pop_at l its.toArray n i t k w (fitsIndex_both h1 h2) (by rw [List.size_toArray, ← hl]; exact hk) (by rw [← Array.getElem?_toList]; exact hw) (by rw [List.size_toArray]; omega)) ⟨e, ?_⟩
  refine ⟨y, _, I.lset (its' := its.eraseIdx k) hH e ?_ (r.eraseIdx k) ?_, rw', q⟩
  · show its.toArray.eraseIdxIfInBounds k = (its.eraseIdx k).toArray
    rw [List.eraseIdxIfInBounds_toArray]
  · have := len_erase xs k
    omega
def rCat : R2 := fun x y H Q => ∃ l b xs zs, x = .ref l ∧ y = .ref b ∧ H l = some (.lst xs) ∧ H b = some (.lst zs) ∧ xs.length + zs.length ≤ sizeLine ∧ ∀ p, H p = none → Q (.ref p) (upd H p (.lst (xs ++ zs)))
theorem op_cat : OpR X (binaryOp .Add) rCat := by
  intro pins s σ H x y v u Q I rx ry h
  obtain ⟨l, b, xs, zs, rfl, rfl, hH, hB, hz, q⟩ := h
  cases rx
  cases ry
  obtain ⟨z, its, n, r, hl, e⟩ := I.lstM hH
  obtain ⟨z2, its2, n2, r2, hl2, e2⟩ := I.lstM hB
  refine PySem.P.add_list e e2 ?_ (by rw [List.size_toArray, List.size_toArray]; omega)
  have ea : its.toArray ++ its2.toArray = (its ++ its2).toArray := by simp
  rw [ea]
  exact ⟨.ref _, _, I.lnew (t' := s.toks) (r.append r2) (by rw [List.length_append]; omega), rfl, q _ I.fresh⟩
end
section
variable {prog : Program} {w : World} {A : Around} {E : Value → Shared → Prop} {s : Shared}
end
section
variable {X : Cx}
end
end L2
namespace L2
open PySem PySem.Spec PyProof.Rows
section
variable {κ : Type} [DecidableEq κ]
def valV (kvs : List (κ × V)) (k : κ) : Option V := (kvs.find? fun kv => decide (kv.1 = k)).map (·.2)
/-- in its place, or at the end -/
def putK (kvs : List (κ × V)) (k : κ) (v : V) : List (κ × V) :=
  if (kvs.any fun kv => decide (kv.1 = k)) = true then kvs.map (fun kv => if kv.1 = k then (kv.1, v) else kv) else kvs ++ [(k, v)]
def dropK (kvs : List (κ × V)) (k : κ) : List (κ × V) := kvs.filter fun kv => decide (kv.1 ≠ k)
theorem valV_nil {k : κ} : valV ([] : List (κ × V)) k = none := rfl
theorem valV_pos {p : κ × V} {r : List (κ × V)} {k : κ} (e : p.1 = k) : valV (p :: r) k = some p.2 := by simp [valV, List.find?_cons, e]
theorem valV_neg {p : κ × V} {r : List (κ × V)} {k : κ} (e : ¬ p.1 = k) : valV (p :: r) k = valV r k := by simp [valV, List.find?_cons, e]
theorem valV_any (k : κ) : ∀ kvs : List (κ × V), (kvs.any fun kv => decide (kv.1 = k)) = (valV kvs k).isSome
  | [] => rfl
  | p :: r => by
    rw [List.any_cons]
    by_cases e : p.1 = k
    · simp only [valV_pos e, decide_eq_true e, Bool.true_or, Option.isSome_some]
    · rw [valV_neg e, decide_eq_false e, Bool.false_or]; exact valV_any k r
theorem valV_map (k j : κ) (y : V) : ∀ kvs : List (κ × V), valV (kvs.map fun kv => if kv.1 = k then (kv.1, y) else kv) j = (valV kvs j).map fun x => if j = k then y else x
  | [] => rfl
  | p :: r => by
    have ih := valV_map k j y r
    rw [List.map_cons]
    by_cases h : p.1 = k
    · rw [if_pos h]
      by_cases e : p.1 = j
      · rw [valV_pos (p := (p.1, y)) e, valV_pos e, Option.map_some, if_pos (e.symm.trans h)]
      · rw [valV_neg (p := (p.1, y)) e, valV_neg e, ih]
    · rw [if_neg h]
      by_cases e : p.1 = j
      · rw [valV_pos (p := p) e, valV_pos e, Option.map_some, if_neg (fun z => h (e.trans z))]
      · rw [valV_neg (p := p) e, valV_neg e, ih]
theorem valV_snoc (k j : κ) (y : V) : ∀ kvs : List (κ × V), valV kvs k = none → valV (kvs ++ [(k, y)]) j = if j = k then some y else valV kvs j
  | [], _ => by
    by_cases e : k = j
    · rw [if_pos e.symm]; exact valV_pos (p := (k, y)) e
    · rw [if_neg (fun z => e z.symm)]; exact valV_neg (p := (k, y)) e
  | p :: r, hn => by
    rw [List.cons_append]
    have hk : ¬ p.1 = k := fun z => by rw [valV_pos z] at hn; cases hn
    rw [valV_neg hk] at hn
    have ih := valV_snoc k j y r hn
    by_cases e : p.1 = j
    · rw [valV_pos e, valV_pos e, if_neg (fun z => hk (e.trans z))]
    · rw [valV_neg e, valV_neg e, ih]
theorem valV_put (kvs : List (κ × V)) (k j : κ) (y : V) : valV (putK kvs k y) j = if j = k then some y else valV kvs j := by
  unfold putK
  by_cases a : (kvs.any fun kv => decide (kv.1 = k)) = true
  · rw [if_pos a, valV_map]
    rw [valV_any] at a
    by_cases e : j = k
    · obtain ⟨x, hx⟩ := Option.isSome_iff_exists.mp a
      rw [if_pos e, e, hx, Option.map_some, if_pos rfl]
    · rw [if_neg e]
      cases valV kvs j with
      | none => rfl
      | some x => rw [Option.map_some, if_neg e]
  · rw [if_neg a]
    refine valV_snoc k j y kvs ?_
    rw [valV_any] at a
    cases q : valV kvs k with
    | none => rfl
    | some x => rw [q] at a; exact (a rfl).elim
theorem RelO.isSome_eq {o : Option V} {u : Option Value} (r : RelO o u) : o.isSome = u.isSome := by
  cases o with
  | none => cases u with
    | none => rfl
    | some _ => exact (show False from r).elim
  | some _ => cases u with
    | none => exact (show False from r).elim
    | some _ => rfl
theorem RelO.getD {o : Option V} {u : Option Value} {d : V} {d' : Value} (r : RelO o u) (rd : RelV d d') : RelV (o.getD d) (u.getD d') := by
  cases o with
  | none => cases u with
    | none => exact rd
    | some _ => exact (show False from r).elim
  | some _ => cases u with
    | none => exact (show False from r).elim
    | some _ => exact r
/-- raw tables of the same keys -/
theorem KV.val {kvs : List (κ × V)} {vs : List (κ × Value)} (r : KV kvs vs) (k : κ) : RelO (valV kvs k) (valueAt vs k) := by
  unfold KV at r
  induction r with
  | nil => exact True.intro
  | @cons p q ps qs h t ih =>
    obtain ⟨h1, h2⟩ := h
    by_cases e : p.1 = k
    · have e' : q.1 = k := h1.symm.trans e
      have b : valueAt (q :: qs) k = some q.2 := by simp [valueAt, List.find?_cons, e']
      rw [valV_pos e, b]; exact h2
    · have e' : ¬ q.1 = k := fun z => e (h1.trans z)
      have b : valueAt (q :: qs) k = valueAt qs k := by simp [valueAt, List.find?_cons, e']
      rw [valV_neg e, b]; exact ih
theorem KV.any {kvs : List (κ × V)} {vs : List (κ × Value)} (r : KV kvs vs) (k : κ) : (kvs.any fun kv => decide (kv.1 = k)) = vs.any fun kv => decide (kv.1 = k) := by
  unfold KV at r
  induction r with
  | nil => rfl
  | cons h t ih => rw [List.any_cons, List.any_cons, ih, h.1]
theorem KV.repl {kvs : List (κ × V)} {vs : List (κ × Value)} (r : KV kvs vs) (k : κ) {y : V} {u : Value} (ry : RelV y u) :
    KV (kvs.map fun kv => if kv.1 = k then (kv.1, y) else kv) (vs.map fun kv => if kv.1 = k then (kv.1, u) else kv) := by
  unfold KV at r ⊢
  induction r with
  | nil => exact .nil
  | @cons p q ps qs h t ih =>
    rw [List.map_cons, List.map_cons]
    refine .cons ?_ ih
    obtain ⟨h1, h2⟩ := h
    by_cases e : p.1 = k
    · rw [if_pos e, if_pos (h1.symm.trans e)]; exact ⟨h1, ry⟩
    · rw [if_neg e, if_neg (fun z => e (h1.trans z))]; exact ⟨h1, h2⟩
theorem KV.put {kvs : List (κ × V)} {vs : List (κ × Value)} (r : KV kvs vs) (k : κ) {y : V} {u : Value} (ry : RelV y u) : KV (putK kvs k y) (stored vs k u) := by
  unfold putK stored
  rw [r.any k]
  by_cases e : (vs.any fun kv => decide (kv.1 = k)) = true
  · rw [if_pos e, if_pos e]; exact r.repl k ry
  · rw [if_neg e, if_neg e]; exact Paired.snoc r ⟨rfl, ry⟩
theorem KV.drop {kvs : List (κ × V)} {vs : List (κ × Value)} (r : KV kvs vs) (k : κ) : KV (dropK kvs k) (without vs k) := by
  unfold KV at r ⊢
  unfold dropK without
  induction r with
  | nil => exact .nil
  | @cons p q ps qs h t ih =>
    obtain ⟨h1, h2⟩ := h
    rw [List.filter_cons, List.filter_cons]
    by_cases e : p.1 = k
    · have a : ¬ decide (p.1 ≠ k) = true := by simp [e]
      have b : ¬ decide (q.1 ≠ k) = true := by simp [h1.symm.trans e]
      rw [if_neg a, if_neg b]; exact ih
    · have e' : ¬ q.1 = k := fun z => e (h1.trans z)
      have a : decide (p.1 ≠ k) = true := by simp [e]
      have b : decide (q.1 ≠ k) = true := by simp [e']
      rw [if_pos a, if_pos b]; exact .cons ⟨h1, h2⟩ ih
theorem KV.keys {kvs : List (κ × V)} {vs : List (κ × Value)} (r : KV kvs vs) : kvs.map (·.1) = vs.map (·.1) := by
  unfold KV at r
  induction r with
  | nil => rfl
  | cons h t ih => rw [List.map_cons, List.map_cons, ih, h.1]
theorem KV.length {kvs : List (κ × V)} {vs : List (κ × Value)} (r : KV kvs vs) : kvs.length = vs.length := Paired.length r
end
theorem kV_is {P : Program} {w : World} {k : Key} {u : Value} (r : RelV (kV k) u) : (mixKind P w).is k u = true := by
  cases k with
  | inl i => obtain ⟨t, e⟩ := (show ∃ t, u = Value.int i t from r); subst e; exact mixKind_int P w i t
  | inr x => obtain ⟨t, e⟩ := (show ∃ t, u = Value.str x t from r); subst e; exact mixKind_str P w x t
theorem items_are {P : Program} {w : World} : ∀ {ks : List Key} {us : List Value}, Vals (ks.map kV) us → ItemsAre (mixKind P w) ks us
  | [], _, r => by rw [List.map_nil] at r; cases r; exact .nil
  | k :: ks, _, r => by
    rw [List.map_cons] at r
    cases r with
    | cons h t => exact .cons (kV_is h) (items_are t)
/-- raw entries of a dict with tuple keys -/
abbrev KT (H : Hp) : List (List Key × V) → List (List Key × Addr × Value) → Prop := Paired fun p q => p.1 = q.1 ∧ H q.2.1 = some (.tup (p.1.map kV)) ∧ RelV p.2 q.2.2
theorem KT.val {H : Hp} {kvs : List (List Key × V)} {xs : List (List Key × Addr × Value)} (r : KT H kvs xs) (k : List Key) : RelO (valV kvs k) ((atKey xs k).map (·.2)) := by
  induction r with
  | nil => exact True.intro
  | @cons p q ps qs h t ih =>
    obtain ⟨h1, _, h2⟩ := h
    by_cases e : p.1 = k
    · have e' : q.1 = k := h1.symm.trans e
      have b : atKey (q :: qs) k = some q.2 := by simp [atKey, List.find?_cons, e']
      rw [valV_pos e, b]; exact h2
    · have e' : ¬ q.1 = k := fun z => e (h1.trans z)
      have b : atKey (q :: qs) k = atKey qs k := by simp [atKey, List.find?_cons, e']
      rw [valV_neg e, b]; exact ih
theorem KT.repl {H : Hp} {kvs : List (List Key × V)} {xs : List (List Key × Addr × Value)} (r : KT H kvs xs) (k : List Key) {y : V} {u : Value} (ry : RelV y u) :
    KT H (kvs.map fun kv => if kv.1 = k then (kv.1, y) else kv) (xs.map (putAt k u)) := by
  induction r with
  | nil => exact .nil
  | @cons p q ps qs h t ih =>
    rw [List.map_cons, List.map_cons]
    refine .cons ?_ ih
    obtain ⟨h1, h2, h3⟩ := h
    unfold putAt
    by_cases e : p.1 = k
    · rw [if_pos e, if_pos (h1.symm.trans e)]; exact ⟨h1, h2, ry⟩
    · rw [if_neg e, if_neg (fun z => e (h1.trans z))]; exact ⟨h1, h2, h3⟩
theorem KT.put {H : Hp} {kvs : List (List Key × V)} {xs : List (List Key × Addr × Value)} (r : KT H kvs xs) (k : List Key) {b : Addr} {y : V} {u : Value} (hb : H b = some (.tup (k.map kV))) (ry : RelV y u) :
    KT H (putK kvs k y) (storedH xs k b u) := by
  have e : (kvs.any fun kv => decide (kv.1 = k)) = (atKey xs k).isSome := by
    rw [valV_any, (r.val k).isSome_eq, Option.isSome_map]
  unfold putK storedH
  rw [e]
  by_cases q : (atKey xs k).isSome = true
  · rw [if_pos q, if_pos q]; exact r.repl k ry
  · rw [if_neg q, if_neg q]; exact Paired.snoc r ⟨rfl, hb, ry⟩
theorem KT.keeps {H H' : Hp} {kvs : List (List Key × V)} {xs : List (List Key × Addr × Value)} (r : KT H kvs xs) (ht : ∀ b ys, H b = some (.tup ys) → H' b = some (.tup ys)) : KT H' kvs xs :=
  Paired.mapP r fun _ _ z => ⟨z.1, ht _ _ z.2.1, z.2.2⟩
section
variable {P : Program} {w : World} {H : Hp} {h : Heap} {a : Addr}
theorem rd_of {u : HO} (ok : HOk P w H h) (e : Rd H a u) : ObjOk P w H h a u := e.ok ok
theorem dk_rd {kvs : List (Key × V)} (ok : HOk P w H h) (e : Rd H a (.dK kvs)) : kvs.length ≤ sizeLine ∧ (a == sysModules) = false ∧ ∃ vs, KV kvs vs ∧ h.DictOf (mixKind P w) a vs :=
  show ObjOk P w H h a (.dK kvs) from rd_of ok e
/-- a tracked tuple of ints and texts is a key -/
theorem key_of {ks : List Key} (ok : HOk P w H h) (e : H a = some (.tup (ks.map kV))) : (tupleKind (mixKind P w)).is h ks a := by
  obtain ⟨_, its, r, o, h1, h2, _, n, h3⟩ := (show ObjOk P w H h a (.tup (ks.map kV)) from ok a _ e)
  exact ⟨o, its.toArray, n, h1, h2, h3, by simpa using items_are r⟩
theorem dt_rd {kvs : List (List Key × V)} (ok : HOk P w H h) (e : Rd H a (.dT kvs)) : kvs.length ≤ sizeLine ∧ (a == sysModules) = false ∧
    ∃ xs, KT H kvs xs ∧ h.DictOfH (tupleKind (mixKind P w)) a xs := by
  exact False.elim (show ObjOk P w H h a (.dT kvs) from rd_of ok e)
end
/-- what the dict at a holds at the key y -/
def DGet (H : Hp) (a : Addr) (y : V) (r : Option V) : Prop :=
  (∃ kvs k, Rd H a (.dK kvs) ∧ y = kV k ∧ r = valV kvs k) ∨ ∃ kvs k b, Rd H a (.dT kvs) ∧ y = .ref b ∧ H b = some (.tup (k.map kV)) ∧ r = valV kvs k
/-- the heap behind a[y] = v -/
def DPut (H : Hp) (a : Addr) (y v : V) (H' : Hp) : Prop :=
  (∃ kvs k, H a = some (.dK kvs) ∧ y = kV k ∧ kvs.length < sizeLine ∧ H' = upd H a (.dK (putK kvs k v))) ∨
  ∃ kvs k b, H a = some (.dT kvs) ∧ y = .ref b ∧ H b = some (.tup (k.map kV)) ∧ kvs.length < sizeLine ∧ H' = upd H a (.dT (putK kvs k v))
theorem DGet.k {H : Hp} {a : Addr} {kvs : List (Key × V)} {k : Key} (e : H a = some (.dK kvs)) : DGet H a (kV k) (valV kvs k) := .inl ⟨kvs, k, .inl e, rfl, rfl⟩
theorem DGet.t {H : Hp} {a b : Addr} {kvs : List (List Key × V)} {k : List Key} (e : H a = some (.dT kvs)) (eb : H b = some (.tup (k.map kV))) : DGet H a (.ref b) (valV kvs k) := .inr ⟨kvs, k, b, .inl e, rfl, eb, rfl⟩
theorem DPut.k {H : Hp} {a : Addr} {kvs : List (Key × V)} {k : Key} {v : V} (e : H a = some (.dK kvs)) (hl : kvs.length < sizeLine) : DPut H a (kV k) v (upd H a (.dK (putK kvs k v))) := .inl ⟨kvs, k, e, rfl, hl, rfl⟩
theorem DPut.t {H : Hp} {a b : Addr} {kvs : List (List Key × V)} {k : List Key} {v : V} (e : H a = some (.dT kvs)) (eb : H b = some (.tup (k.map kV))) (hl : kvs.length < sizeLine) :
    DPut H a (.ref b) v (upd H a (.dT (putK kvs k v))) := .inr ⟨kvs, k, b, e, rfl, eb, hl, rfl⟩
section
variable {X : Cx} {pins : List (Addr × Obj)} {σ : St} {H : Hp} {s : Shared} {a : Addr} {y v : V} {u r : Value} {o : Option V} {A : Around} {E : Value → Shared → Prop}
theorem Inv.big (I : Inv X pins σ H s) : sysModules < s.heap.objs.size := by
  have h : mainGlobals < s.heap.objs.size := (I.mod.glob.keeps I.bk).lt
  exact Nat.lt_trans (by decide) h
end
section
variable {X : Cx} {pins : List (Addr × Obj)} {σ : St} {H : Hp} {s : Shared} {a : Addr} {kvs : List (Key × V)} {k : Key} {u : Value} {A : Around} {E : Value → Shared → Prop}
end
section
variable {X : Cx} {o i e value : Expr} {pos pos' tpos : Pos} {td ty tv : TE}
end
section
variable {X : Cx} {pos : Pos}
end
/-- a method call o.m(e) of a built-in, with one argument: what must be seen of the text -/
structure M1 (X : Cx) (o : Expr) (m : Str) (apos : Pos) (e : Expr) (cpos : Pos) : Prop where
  base : attributeBase o m X.env (eval o X.env) = eval o X.env
  few : ((backTo cpos (starEach [e] X.env)).all (fun x => !x.1) && (backToKw cpos (keywordEach [] X.env)).all (fun x => x.1.isSome)
    && decide (([e] : List Expr).length + ([] : List Keyword).length + (if ([] : List Keyword).isEmpty then 0 else 1) < 30)) = true
  line : (apos.endLine == cpos.line) = true
  trees : backTo cpos (starEach [e] X.env) = [(false, eval e X.env)]
structure M2 (X : Cx) (o : Expr) (m : Str) (apos : Pos) (e f : Expr) (cpos : Pos) : Prop where
  base : attributeBase o m X.env (eval o X.env) = eval o X.env
  few : ((backTo cpos (starEach [e, f] X.env)).all (fun x => !x.1) && (backToKw cpos (keywordEach [] X.env)).all (fun x => x.1.isSome)
    && decide (([e, f] : List Expr).length + ([] : List Keyword).length + (if ([] : List Keyword).isEmpty then 0 else 1) < 30)) = true
  line : (apos.endLine == cpos.line) = true
  trees : backTo cpos (starEach [e, f] X.env) = [(false, eval e X.env), (false, eval f X.env)]
/-- a is a dict, whatever its keys -/
def IsD (H : Hp) (a : Addr) : Prop := (∃ kvs, Rd H a (.dK kvs)) ∨ ∃ kvs, Rd H a (.dT kvs)
theorem isD_at {X : Cx} {pins : List (Addr × Obj)} {σ : St} {H : Hp} {s : Shared} {a : Addr} (I : Inv X pins σ H s) (d : IsD H a) :
    s.TypeIs (.ref a) "dict" ∧ (∀ b, Value.ref a = .ref b → ∃ ob, s.heap.get? b = some ob ∧ ob.dict = none) ∧ (a == sysModules) = false := by
  rcases d with ⟨kvs, e⟩ | ⟨kvs, e⟩
  · obtain ⟨_, hd, vs, _, dd⟩ := dk_rd I.hok e
    refine ⟨dd.typeIs, fun b q => ?_, hd⟩
    cases q
    obtain ⟨ob, _, _, h1, h2, _⟩ := dd
    exact ⟨ob, h1, h2.2.1⟩
  · obtain ⟨_, hd, xs, _, dd⟩ := dt_rd I.hok e
    refine ⟨dd.typeIs, fun b q => ?_, hd⟩
    cases q
    obtain ⟨ob, _, _, h1, h2, _⟩ := dd
    exact ⟨ob, h1, h2.2.1⟩
section
variable {X : Cx} {pins : List (Addr × Obj)} {σ : St} {H : Hp} {s : Shared} {a : Addr} {y d : V} {u r : Value} {o : Option V} {A : Around} {E : Value → Shared → Prop}
/-- d.get(y) -/
theorem d_get1 {Q : Value → Shared → Prop} (hu : A.units + 1 < cLine) (I : Inv X pins σ H s) (g : DGet H a y o) (ry : RelV y u) (h : ∀ w' s', Inv X pins σ H s' → RelV (o.getD .non) w' → Q w' s') :
    wpAny (model X.prog X.w) A (call (.builtin "dict.get") [.ref a, u]) Q E s := by
  rcases g with ⟨kvs, k, e, ey, l⟩ | ⟨kvs, k, b, e, ey, eb, l⟩
  · subst ey
    obtain ⟨z, hd, vs, rel, dd⟩ := dk_rd I.hok e
    refine call_meetsIn PySem.F.slot_dict_get dd.typeIs PySem.F.entry_dict_get (PySem.F.args_dict_get_2 _ _) (meets_dict_get (mixKind X.prog X.w) a (kV_is ry) hd) ⟨_, dd.mapOf, h _ _ (I.tok _) ?_⟩
    rw [l]
    exact (rel.val k).getD rfl
  · subst ey
    cases (show u = Value.ref b from ry)
    obtain ⟨z, hd, xs, rel, dd⟩ := dt_rd I.hok e
    refine call_meetsIn PySem.F.slot_dict_get dd.typeIs PySem.F.entry_dict_get (PySem.F.args_dict_get_2 _ _) (meetsH_dict_get (tupleKind (mixKind X.prog X.w)) a b hd) ⟨tupleKind_room_in1 hu, k, xs, key_of I.hok eb, dd, h _ _ (I.tok _) ?_⟩
    rw [l]
    exact (rel.val k).getD rfl
end
def tDGet1 (td ty : TE) : TE := fun σ H Q => td σ H fun x H1 => ∃ a, x = .ref a ∧ IsD H1 a ∧ ty σ H1 fun y H2 => ∃ o, DGet H2 a y o ∧ Q (o.getD .non) H2
section
variable {X : Cx} {o e f : Expr} {apos cpos : Pos} {td ty tx : TE}
theorem pe_dget1 (hu : X.A.units + 1 < cLine) (ho : PE X o td) (he : PE X e ty) (m : M1 X o "get" apos e cpos) : PE X (.Call (.Attribute o "get" apos) [e] [] cpos) (tDGet1 td ty) := by
  intro pins s σ H Q I h
  refine wpAny_Call_method m.base m.few m.line PySem.F.plainAttrs_dict PySem.F.slot_dict_get PySem.F.type_dict_get (thn (ho pins s σ H _ I h) fun u s1 ⟨x, H1, I1, rx, a, ex, d, q1⟩ => ?_)
  subst ex
  obtain rfl : u = Value.ref a := rx
  obtain ⟨t1, t2, _⟩ := isD_at I1 d
  refine ⟨t1, t2, ?_⟩
  rw [m.trees]
  refine Calls.callWith_builtin rfl (Calls.evalArgs_plain (Calls.spliced_cons (thn (he pins s1 σ H1 _ I1 q1) fun iv s2 ⟨y, H2, I2, ry, ov, g, q2⟩ => Calls.spliced_nil ?_)))
  exact d_get1 hu I2 g ry fun w' s3 I3 rw' => ⟨_, H2, I3, rw', q2⟩
end
section
variable {X : Cx} {pins : List (Addr × Obj)} {σ : St} {H : Hp} {s : Shared} {a : Addr} {kvs : List (Key × V)} {A : Around} {E : Value → Shared → Prop}
end
section
variable {X : Cx} {pins : List (Addr × Obj)} {σ : St} {H : Hp} {s : Shared} {a : Addr} {y : V} {u : Value} {A : Around} {E : Value → Shared → Prop}
end
end L2
namespace Att
open PySem PySem.W PySem.Calls PyProof.Rows
theorem ints_of_wellAll {P : Params} {h : Heap} : ∀ (ns : List Int) (vs : List Value), WellAll P h vs (ns.map WData.int) → IntsAre vs ns := by
  intro ns
  induction ns with
  | nil =>
    intro vs w
    rw [List.map_nil] at w
    cases w
    exact .nil
  | cons n ns ih =>
    intro vs w
    rw [List.map_cons] at w
    cases w with
    | cons a b =>
      cases a
      exact .cons _ _ (ih _ b)
theorem script_of {l : OpenLaw} {n : Nat} (hn : l.most = some n) {P : Params} {h : Heap} {args : List WData} {vals : List Value}
    (hpre : l.row.toRowW.claim.pre args = true) (hwl : WellAll P h vals args) :
    ∃ a vs ns, vals = [Value.ref a] ∧ args = [WData.list (ns.map WData.int)] ∧ h.get? a = some { cls := .type "list", data := .seq vs.toArray } ∧ IntsAre vs ns ∧ ns.length ≤ n := by
  have hsh : WShape.hasAll [] args [.list .int] = true := (pre_splitW hpre).1
  have hc : l.pre.holds [] { args := args } = true := (pre_splitW hpre).2
  obtain ⟨d, r, rfl, h1, h2⟩ := hasAllW_cons hsh
  obtain rfl := hasAllW_nil h2
  obtain ⟨xs, rfl, h3⟩ := hasW_list h1
  obtain ⟨ns, rfl⟩ := items_int h3
  have hlen : ns.length ≤ n := by
    unfold OpenLaw.pre at hc
    have h4 : (WTm.not (.lt (.lit (.int (n : Int))) (.len (.arg 0)))).holds [] { args := [.list (ns.map .int)] } = true := by
      have h4 := (holds_andW hc).1
      rw [hn] at h4
      exact h4
    have h5 := condW_of h4 (w_not (w_lt w_lit (w_len_list (w_arg rfl))))
    rw [List.length_map] at h5
    refine Nat.le_of_not_lt fun q => ?_
    have q' : (n : Int) < ((ns.length : Nat) : Int) := by omega
    first
      | (rw [decide_eq_true q'] at h5; exact absurd h5 (by decide))
      | (simp at h5; omega)
  cases hwl with
  | cons w1 w2 =>
    cases w2
    cases w1 with
    | list ho hall => exact ⟨_, _, ns, rfl, rfl, ho, ints_of_wellAll ns _ hall, hlen⟩
theorem post_true (l : OpenLaw) (args : List WData) : l.row.toRowW.claim.post args (.bool true) args = true :=
  postW_of (r := l.row.toRowW) (X := (true == true))
    (show WShape.has [] (.bool true) .bool = true by first | rfl | decide | simp [WShape.has, WShape.arms, WShape.armsAll])
    (show (WTm.eq .res (.lit (.bool true))).value [] { args := args, res := some (.bool true), after := args } = some (.bool (true == true)) from w_eq_bool (w_res rfl) w_lit) rfl
/-- the same from a codeAny of the CALL (for a layer whose function contracts speak of calls) -/
theorem attach_call {l : OpenLaw} {n : Nat} {q : Program} {loose : List Str} {XP : (Str → Option Value) → Heap → Prop} {YP : World → Heap → Prop} {d : DefRec}
    (hn : l.most = some n) (hdf : d.params.defaults = [])
    (call : ∀ (w : World) (s₀ s₁ : Shared) (mg mb : Str → Option Value) (fa : Addr) (o : Obj) (pm cd doc : Value) (a : Addr) (vs : List Value) (ns : List Int),
      Ground q loose [] XP w s₀ mg mb s₁.heap → YP w s₁.heap →
      s₁.heap.get? fa = some o → o.data = .func (docDef d.name d.params d.body d.scope pm cd doc) → s₁.heap.CodeRec cd d.name → mg d.name = some (.ref fa) →
      s₁.heap.get? a = some { cls := .type "list", data := .seq vs.toArray } → IntsAre vs ns → ns.length ≤ n → s₁.gens = #[] →
      codeAny (model l.prog w) callerA (.call (.ref fa) ⟨[.ref a], []⟩) (fun r s' => r = .ok (.ret (.bool true)) ∧ OldK s₁.heap s'.heap ∧ s'.os = s₁.os ∧ AllBare s'.gens) s₁) :
    WalkO q loose XP YP l.row.toRowW d [] (fun f vs => PySem.call f vs) := by
  intro w s₀ s₁ mg mb G Y fa o pm cd doc dV kV ho hd hcd hD hmg hg args vals as hpre hlay hrd hwl hlo
  obtain rfl : dV = .none := Dflts.none hD hdf
  obtain rfl : kV = .none := Dflts.noKw hD
  obtain ⟨a, vs, ns, rfl, rfl, hobj, hints, hlen⟩ := script_of hn hpre hwl
  refine enter_call (codeAny_mono (call w s₀ s₁ mg mb fa o pm cd doc a vs ns G Y ho (fd_plain hd) hcd hmg hobj hints hlen hg) fun r s' hq => ?_)
  obtain ⟨rfl, h2, h3, h4⟩ := hq
  exact ⟨.inl ⟨.bool true, .bool true, [], rfl, fun _ => rfl, .bool true, post_true l _, fun _ => ⟨List.Pairwise.nil, fun _ hm => (nomatch hm)⟩⟩, h2, h3, h4⟩
section
variable {prog : Program} {w : World} {A : Around} {E : Value → Shared → Prop} {s : Shared} {K : Frag}
end
end Att
namespace L2
open PySem PySem.Spec PyProof.Rows
theorem vals_ints : ∀ {vs : List Value} {ns : List Int}, IntsAre vs ns → Vals (ns.map V.int) vs
  | _, _, .nil => .nil
  | _, _, .cons n t h => .cons ⟨t, rfl⟩ (vals_ints h)
/-- nothing is tracked but the script, known to the object (or it is an object of the module) -/
def Only (H : Hp) : Prop := ∀ b, H b = none ∨ ∃ o xs, H b = some (.frz o (.lst xs))
/-- THE HEAD: the law's promise, at the heap behind the top. F, the promise of the law's def, may use that base is part of the heap (so K.In base, base.Ns mainGlobals mg stand in Mod) -/
theorem law_call {P : Program} {w : World} {K : PySem.W.Frag} {mg mb : Str → Option Value} {CX : CXT} {k : Nat} {fa a : Addr} {fd : FuncData} {x : Str} {sp : Sp} {s₁ : Shared} {vs : List Value} {ns : List Int}
    (KX : K.In s₁.heap) (hns : s₁.heap.Ns mainGlobals mg) (hb : s₁.heap.Ns builtinsNs mb) (hbb : ∀ x : Str, x ≠ "__name__" → mb x = bootBuiltins x) (hlim : s₁.heap.NoLimit) (hg : s₁.gens = #[])
    (ha : s₁.heap.get? a = some { cls := .type "list", data := .seq vs.toArray }) (hi : IntsAre vs ns) (hl : ns.length ≤ sizeLine) (hr : Room k callerA)
    (F : ∀ base : Heap, K.In base → base.Ns mainGlobals mg → FnOk P w K mg base CX k fa fd [x] sp) (hbind : ∀ (s : Shared) (u : Value), BindsTo s fd ⟨[u], []⟩ [(x, u)])
    (hsp : ∀ H : Hp, Only H → SqL K H a (ns.map V.int) → sp [.ref a] H (fun v _ => v = .bl true) fun _ _ _ => False)
    (hCX : ∀ H e s', CX [] H s₁ (fun _ _ _ => False) e s' → False) :
    codeAny (model P w) callerA (.call (.ref fa) ⟨[.ref a], []⟩) (fun r s' => r = .ok (.ret (.bool true)) ∧ OldK s₁.heap s'.heap ∧ s'.os = s₁.os ∧ AllBare s'.gens) s₁ := by
  have rv := vals_ints hi
  have lenV := hi.length
  -- from an abstract heap in which nothing but the script may be tracked
  have core : ∀ H : Hp, Only H → SqL K H a (ns.map V.int) → HOk P w H s₁.heap → (∀ b, H b ≠ none → b = a) → (H a ≠ none → K.lookup a = none) →
      codeAny (model P w) callerA (.call (.ref fa) ⟨[.ref a], []⟩) (fun r s' => r = .ok (.ret (.bool true)) ∧ OldK s₁.heap s'.heap ∧ s'.os = s₁.os ∧ AllBare s'.gens) s₁ := by
    intro H hO hS hok hA hK
    have base_of : ∀ {b : Addr} {o : Obj}, s₁.heap.get? b = some o → H b = none → (hidT s₁.heap H).get? b = some o := fun e n => hidT_get e n
    have noA : ∀ {b : Addr} {o : Obj} {es : Array DictEntry} {ep : Nat}, s₁.heap.get? b = some o → o.data = .dict es ep → H b = none := fun {b o es ep} e d => by
      cases q : H b with
      | none => rfl
      | some u =>
        have e' : b = a := hA b (by rw [q]; simp)
        subst e'
        rw [ha] at e; cases e
        have d' : Data.seq vs.toArray _ = Data.dict es ep := d
        cases d'
    have nsK : ∀ {b : Addr} {m : Str → Option Value}, s₁.heap.Ns b m → (hidT s₁.heap H).Ns b m := fun {b m} ⟨o, es, ep, e, d, r⟩ => ⟨o, es, ep, base_of e (noA e d), d, r⟩
    have hKb : K.In (hidT s₁.heap H) := fun b o e => base_of (KX b o e) (by
      cases q : H b with
      | none => rfl
      | some u =>
        have e' : b = a := hA b (by rw [q]; simp)
        subst e'
        rw [hK (by rw [q]; simp)] at e; cases e)
    have hM : Mod K mg (hidT s₁.heap H) := ⟨hKb, nsK hns, ⟨mb, nsK hb, hbb⟩, let ⟨mc, h1, h2⟩ := hlim; ⟨mc, nsK h1, h2⟩⟩
    have e0 : Env0 P w K mg (hidT s₁.heap H) callerA [] s₁ H := ⟨rfl, hM, fun b o e => of_hidT e, Nat.le_of_eq (hidT_size _ _), trivial, fun b hb => absurd (show b ∈ ([] : List Addr) from hb) (by simp), hok, .of_eq hg⟩
    refine codeAny_mono ((F _ hKb (nsK hns)).run callerA [] s₁ H ⟨[.ref a], []⟩ [.ref a] [.ref a] _ _ hr e0 (hbind s₁ (.ref a)) (.cons rfl .nil) (hsp H hO hS)) fun r s' h => ?_
    cases r with
    | error e => exact (hCX H e s' h).elim
    | ok fl =>
      cases fl with
      | next => exact False.elim h
      | brk => exact False.elim h
      | cont => exact False.elim h
      | ret u =>
        obtain ⟨v, H', os, bare, un, hok', r', q⟩ := h
        have q' : v = .bl true := q
        subst q'
        obtain rfl : u = Value.bool true := r'
        refine ⟨rfl, OldK.of_keep fun b o e => ?_, os, bare⟩
        cases q : H b with
        | none => exact un.keep b o e q (by intro z; exact absurd (show b ∈ ([] : List Addr) from z) (by simp)) (by simp)
        | some u =>
          rcases hO b with z | ⟨ob, xs, z⟩
          · rw [q] at z; cases z
          · have z2 := un.frzs b ob _ z
            obtain ⟨e1, _⟩ := hok b _ z
            obtain ⟨e2, _⟩ := hok' b _ z2
            rw [e] at e1; cases e1
            exact e2
  cases hk : K.lookup a with
  | some o =>
    -- the script is one of the module's own objects
    have e := KX a o hk
    rw [ha] at e
    cases e
    refine core (fun _ => none) (fun _ => .inl rfl) (.inr ⟨_, vs.toArray, _, hk, rfl, rfl, rfl, by rw [List.size_toArray, lenV]; exact hl, by simpa using rv⟩) (fun b u z => by have z' : (none : Option HO) = some u := z; cases z') (fun b z => absurd rfl z) fun z => absurd rfl z
  | none =>
    refine core (fun b => if b = a then some (.frz { cls := .type "list", data := .seq vs.toArray } (.lst (ns.map V.int))) else none) (fun b => ?_) (.inl (.inr ⟨{ cls := .type "list", data := .seq vs.toArray }, if_pos rfl⟩)) (fun b u z => ?_) (fun b z => ?_) fun _ => hk
    · by_cases hb : b = a
      · exact .inr ⟨_, _, if_pos hb⟩
      · exact .inl (if_neg hb)
    · by_cases hb : b = a
      · have z' := (if_pos hb).symm.trans z
        cases z'
        subst hb
        exact ⟨ha, by rw [List.length_map]; exact hl, vs, _, rv, ha⟩
      · have z' := (if_neg hb).symm.trans z
        cases z'
    · by_cases hb : b = a
      · exact hb
      · exact absurd (if_neg hb) z
end L2
namespace L2
open PySem PySem.Spec PyProof.Rows
abbrev KOf {K : PySem.W.Frag} {h : Heap} (_ : K.In h) : PySem.W.Frag := K
/-- the goal that k_head leaves (case hc), from the law's promise. F gives the function object fd (K's own) once, then the promise over every base -/
theorem walk_of {l : PySem.W.OpenLaw} {n k : Nat} {q : Program} {loose : List Str} {XP : (Str → Option Value) → Heap → Prop} {YP : World → Heap → Prop} {d : DefRec} {K : Params → PySem.W.Frag} {CX : World → CXT} {sp : World → Sp} {x : Str}
    (hn : l.most = some n) (hn2 : n ≤ sizeLine) (hdf : d.params.defaults = []) (hr : Room k callerA)
    (hY : ∀ (w : World) (h : Heap), YP w h → (K w.params).In h)
    (F : ∀ (w : World) (mg : Str → Option Value) (fa : Addr) (h : Heap), (K w.params).In h → h.Ns mainGlobals mg → mg d.name = some (.ref fa) →
      ∃ fd : FuncData, (∀ (s : Shared) (u : Value), BindsTo s fd ⟨[u], []⟩ [(x, u)]) ∧
        ∀ base : Heap, (K w.params).In base → base.Ns mainGlobals mg → FnOk l.prog w (K w.params) mg base (CX w) k fa fd [x] (sp w))
    (hsp : ∀ (w : World) (H : Hp) (a : Addr) (ns : List Int), ns.length ≤ n → Only H → SqL (K w.params) H a (ns.map V.int) → sp w [.ref a] H (fun v _ => v = .bl true) fun _ _ _ => False)
    (hCX : ∀ (w : World) (H : Hp) (s : Shared) (e : Value) (s' : Shared), CX w [] H s (fun _ _ _ => False) e s' → False) :
    PySem.W.WalkO q loose XP YP l.row.toRowW d [] (fun f vs => PySem.call f vs) := by
  refine Att.attach_call hn hdf fun w s₀ s₁ mg mb fa o pm cd doc a vs ns G Y ho hd hcd hmg hobj hints hlen hg => ?_
  have KX := hY w _ Y
  obtain ⟨fd, hb, hF⟩ := F w mg fa _ KX G.T.g hmg
  exact law_call KX G.T.g G.T.b G.T.builtins G.T.nolimit hg hobj hints (Nat.le_trans hlen hn2) hr hF hb (fun H hO hS => hsp w H a ns hlen hO hS) fun H e s' => hCX w H s₁ e s'
/-- the same where the promise hangs on the written part alone: (sp := My.sp_law), no hole under a binder -/
theorem walk_ofK {l : PySem.W.OpenLaw} {n k : Nat} {q : Program} {loose : List Str} {XP : (Str → Option Value) → Heap → Prop} {YP : World → Heap → Prop} {d : DefRec} {K : Params → PySem.W.Frag} {CX : CXT} {sp : PySem.W.Frag → Sp} {x : Str}
    (hn : l.most = some n) (hn2 : n ≤ sizeLine) (hdf : d.params.defaults = []) (hr : Room k callerA)
    (hY : ∀ (w : World) (h : Heap), YP w h → (K w.params).In h)
    (F : ∀ (w : World) (mg : Str → Option Value) (fa : Addr) (h : Heap), (K w.params).In h → h.Ns mainGlobals mg → mg d.name = some (.ref fa) →
      ∃ fd : FuncData, (∀ (s : Shared) (u : Value), BindsTo s fd ⟨[u], []⟩ [(x, u)]) ∧
        ∀ base : Heap, (K w.params).In base → base.Ns mainGlobals mg → FnOk l.prog w (K w.params) mg base CX k fa fd [x] (sp (K w.params)))
    (hsp : ∀ (K : PySem.W.Frag) (H : Hp) (a : Addr) (ns : List Int), ns.length ≤ n → Only H → SqL K H a (ns.map V.int) → sp K [.ref a] H (fun v _ => v = .bl true) fun _ _ _ => False)
    (hCX : ∀ (H : Hp) (s : Shared) (e : Value) (s' : Shared), CX [] H s (fun _ _ _ => False) e s' → False) :
    PySem.W.WalkO q loose XP YP l.row.toRowW d [] (fun f vs => PySem.call f vs) :=
  walk_of (K := K) (CX := fun _ => CX) (sp := fun w => sp (K w.params)) hn hn2 hdf hr hY F (fun w H a ns h1 h2 h3 => hsp (K w.params) H a ns h1 h2 h3) fun _ H s e s' => hCX H s e s'
end L2
namespace L2
open PySem PySem.Spec PyProof.Rows
def defArgs (s : Stmt) : Arguments := match s with
  | .FunctionDef _ a _ _ _ _ _ _ _ _ => a
  | _ => { posonlyargs := [], args := [], vararg := none, kwonlyargs := [], kw_defaults := [], kwarg := none, defaults := [] }
def defBody (s : Stmt) : List Stmt := match s with
  | .FunctionDef _ _ b _ _ _ _ _ _ _ => b
  | _ => []
def defScope (s : Stmt) : Scope := match s with
  | .FunctionDef _ _ _ _ _ _ sc _ _ _ => sc
  | _ => { kind := .function, names := [], isGenerator := false, isCoroutine := false }
abbrev CX0 : CXT := fun _ _ _ _ _ _ => False
abbrev E0 : XK := fun _ _ _ => False
theorem pass0 {X : Cx} : Passes CX0 X E0 := fun _ _ _ _ _ _ _ h => h.elim
structure Fun (K : PySem.W.Frag) (x qual : Str) (st : Stmt) (f : Addr) (fd : FuncData) : Prop where
  ex : ∃ (oc : Value) (od : Option Addr) (kV doc pm : Value) (an : Option Addr) (cdv ct : Value) (osl : Array (Option Value)),
    fd = PySem.W.fnOf x qual (defArgs st) (defBody st) (defScope st) .none kV doc pm an cdv ct ∧ K.lookup f = some ⟨oc, od, .func fd, osl⟩ ∧ PySem.W.codeIn K cdv qual = true
  kp : PySem.W.keepIn K (.ref f) = true
section
variable {P : Program} {w : World} {K : PySem.W.Frag} {mg : Str → Option Value} {base : Heap}
/-- THE RULE for a def: its body as a term of rules, and the reading of that term -/
theorem Fun.ok {x qual : Str} {st : Stmt} {f : Addr} {fd : FuncData} {N ps : List Str} {k : Nat} {sp : Sp} (F : Fun K x qual st f fd) (S : FnScope N ps (defScope st)) (len : ∀ vs H Q E, sp vs H Q E → vs.length = ps.length)
    (hbody : ∀ (cdv : Value) (A : Around) (outer : List Env) (s : Shared) (H : Hp) (vs : List V) (Q : VK) (E : XK), Room k (A.deeper (envOfC qual (defScope st) s.heap.objs.size f cdv)) → sp vs H Q E →
      ∃ t, PSs (cxOf CX0 P w K mg base N qual (defScope st) f cdv A outer s H E).nox (defBody st) t ∧ t { nx := fun _ H' => Q .non H', rt := Q } (start N vs) H) : FnOk P w K mg base CX0 (k + 1) f fd ps sp := by
  obtain ⟨oc, od, kV, doc, pm, an, cdv, ct, osl, rfl, lk, hcd⟩ := F.ex
  refine fn_of lk hcd S len fun A outer s H vs Q E hr hsp => ?_
  obtain ⟨t, h, q⟩ := hbody cdv A outer s H vs Q E hr hsp
  exact ⟨t, h.nox, q⟩
/-- how its arguments bind (no defaults): h is «fun _ _ _ _ _ _ us hl => match us, hl with | [_, _], _ => rfl», one _ a parameter -/
theorem Fun.binds {x qual : Str} {st : Stmt} {f : Addr} {fd : FuncData} {ps : List Str} (F : Fun K x qual st f fd)
    (h : ∀ (kV doc pm : Value) (an : Option Addr) (cdv ct : Value) (us : List Value), us.length = ps.length → bindArgs (PySem.W.fnOf x qual (defArgs st) (defBody st) (defScope st) .none kV doc pm an cdv ct) ⟨us, []⟩ = pure (ps.zip us)) : Binds K fd ps [] := by
  obtain ⟨oc, od, kV, doc, pm, an, cdv, ct, osl, rfl, lk, hcd⟩ := F.ex
  exact .all (h kV doc pm an cdv ct)
theorem fun_mk {x qual : Str} {st : Stmt} {f : Addr} {oc : Value} {od an : Option Addr} {osl : Array (Option Value)} {kV doc pm cdv ct : Value} (l : K.lookup f = some ⟨oc, od, .func (PySem.W.fnOf x qual (defArgs st) (defBody st) (defScope st) .none kV doc pm an cdv ct), osl⟩)
    (c : PySem.W.codeIn K cdv qual = true) (k : PySem.W.keepIn K (.ref f) = true) : Fun K x qual st f (PySem.W.fnOf x qual (defArgs st) (defBody st) (defScope st) .none kV doc pm an cdv ct) := ⟨⟨oc, od, kV, doc, pm, an, cdv, ct, osl, rfl, l, c⟩, k⟩
end
theorem small1000 {n : Nat} (h : n ≤ 1000) : n < sizeLine := Nat.lt_of_le_of_lt h (by decide)
section
variable {X : Cx}
theorem pv (i : Nat) {x : Str} {pos : Pos} (hN : X.N[i]? = some x := by rfl) (hv : Vis X.env.scope x := by first | exact Or.inl rfl | exact Or.inr (Or.inl rfl) | exact Or.inr (Or.inr rfl)) (hd : (x == ("__debug__" : Str)) = false := by decide)
    (hcd : (x == ("__classdict__" : Str)) = false := by decide) : PE X (.Name x pos) (tVar i) := pe_var hN hv hd hcd
end
theorem iteF {A B : Prop} (h : B) : if false = true then A else B := by
  rw [if_neg Bool.false_ne_true]
  exact h
theorem iteT {A B : Prop} (h : A) : if true = true then A else B := by
  rw [if_pos rfl]
  exact h
/-- all that was tracked is as it was -/
def Same (H H' : Hp) : Prop := ∀ b o, H b = some o → H' b = some o
theorem Same.refl (H : Hp) : Same H H := fun _ _ h => h
theorem Same.trans {H H1 H2 : Hp} (a : Same H H1) (b : Same H1 H2) : Same H H2 := fun c o h => b c o (a c o h)
theorem Same.free {H H' : Hp} (e : Same H H') {l : Addr} (h : H' l = Option.none) : H l = Option.none := by
  cases q : H l with
  | none => rfl
  | some o =>
    rw [e l o q] at h
    cases h
theorem Same.seq {K : PySem.W.Frag} {H H' : Hp} {a : Addr} {xs : List V} (e : Same H H') (h : SqL K H a xs) : SqL K H' a xs := by
  rcases h with (h | ⟨o, h⟩) | h
  · exact .inl (.inl (e _ _ h))
  · exact .inl (.inr ⟨o, e _ _ h⟩)
  · exact .inr h
section
variable {κ : Type} [DecidableEq κ]
end
end L2
set_option Elab.async false
set_option linter.all false
set_option maxRecDepth 100000
set_option maxHeartbeats 4000000
namespace L2
open PySem PySem.Spec PyProof.Rows
section
variable {X : Cx}
def sLe (i j : Str) : Bool := !decide (j.cps.toList < i.cps.toList)
def rS2 (g : Str → Str → Bool) : R2 := fun x y H Q => ∃ i j, x = .str i ∧ y = .str j ∧ Q (.bl (g i j)) H
theorem op_le_str : OpR X (compareOp .LtE) (rS2 sLe) := by
  intro pins s σ H x y v u Q I rx ry h
  obtain ⟨i, j, rfl, rfl, q⟩ := h
  obtain ⟨t, rfl⟩ := rx
  obtain ⟨t', rfl⟩ := ry
  exact P.le_str (fin_bl I q rfl)
/-- // by a written number, however large -/
def CDivL (_ j : Int) : Prop := 0 < j ∧ j.natAbs.log2 < 9000
theorem op_fdivL : OpR X (binaryOp .FloorDiv) (rI CDivL fun i j => .int (i / j)) := opI fun i j _ _ _ _ _ hc q => by
  have hj : j ≠ 0 := by have := hc.1; omega
  exact floordiv_int hj (by rw [Int.fdiv_eq_ediv_of_nonneg _ (by have := hc.1; omega)]; exact q) (.inl (PyProof.noPylong_of_log2 hc.2))
end
def Its (x : Str) : It := ⟨fun i _ => i < x.cps.size, fun i H v H' => H' = H ∧ ∃ c, x.cps[i]? = some c ∧ v = .str ⟨#[c]⟩, fun i _ => x.cps.size ≤ i⟩
theorem turn_str {P : Program} {w : World} {K : PySem.W.Frag} {tg : Expr} {T : String} (hT : ["enumerate", "zip", "dict_itemiterator", "dict_reverseitemiterator", "odict_iterator", "itertools.zip_longest", "itertools.pairwise"].contains T = false) (it : Addr) (x : Str) (t : Tok)
    (W : ∀ A' : Around, A'.handled = none → Walks P w A' it [it] [it] x.cps.size (SignAt x) (fun i h => h.IsStrIter it T x t i))
    (hend : ∀ (A : Around) (s : Shared) (E : Value → Shared → Prop) (i : Nat) (Q : Option Value → Shared → Prop), A.handled = none → s.heap.IsStrIter it T x t i → x.cps[i]? = none → (∀ h', Heap.ExtBut it s.heap h' → Q none { s with heap := h' }) → wpAny (model P w) A (pyNext (.ref it)) Q E s)
    (hself : ∀ (A : Around) (s : Shared) (E : Value → Shared → Prop) (i : Nat) (Q : Value → Shared → Prop), s.heap.IsStrIter it T x t i → Q (.ref it) s → wpAny (model P w) A (pyIter (.ref it)) Q E s) :
    Turn P w K tg (Its x) [it] it (fun i h => h.IsStrIter it T x t i) where
  mem := by simp
  obj := fun i h st b hb => by
    have e : b = it := by simpa using hb
    subst e
    obtain ⟨o, e, c, d⟩ := st
    exact ⟨o, e, fun v z => by rw [d] at z; cases z⟩
  keep := fun i h h' st k => by
    obtain ⟨o, e, c, d⟩ := st
    exact ⟨o, k it (by simp) o e, c, d⟩
  item := by
    intro X hP hw hK hc i pins s σ H E I hf st hg
    subst hP hw hK
    obtain ⟨f0, f1, f2, f3, f4, f5⟩ := hf it (by simp)
    refine (W X.A (I.ok.hd hc)).item i s _ _ hg st fun v h' tk hv st' kk => ?_
    obtain ⟨c, u, hcx, rfl⟩ := hv
    have I1 : Inv X pins σ H { s with heap := h', toks := tk } := I.turned (fun b o hb e => kk b o (by simpa using hb) e) f0 f1 f3 f4 f5
    obtain ⟨o, e, c', d⟩ := id st'
    exact ⟨_, rfl, go_of (s := { s with heap := h', toks := tk }) e c' d hT ⟨.str ⟨#[c]⟩, H, I1, ⟨u, rfl⟩, ⟨rfl, c, hcx, rfl⟩, st', fun b hb => (hf b hb).1⟩⟩
  done := by
    intro X hP hw hK hc i pins s σ H E I hf st hg
    subst hP hw hK
    obtain ⟨f0, f1, f2, f3, f4, f5⟩ := hf it (by simp)
    have hg : x.cps.size ≤ i := hg
    exact hend X.A s E i _ (I.ok.hd hc) st (by simp; exact hg) fun h' eb => ⟨rfl, I.turned (t' := s.toks) (fun b o hb e => eb b o hb e) f0 f1 f3 f4 f5⟩
  self := fun A' i s Q E st h => hself A' s E i Q st h
section
variable {X : Cx} {tg : Expr}
def iStr (tl : TE) : TI := fun σ H R => tl σ H fun x H1 => ∃ z, x = .str z ∧ R (Its z) H1
theorem pi_str {l : Expr} {tl : TE} (hl : PE X l tl) : PI X tg l (iStr tl) := by
  intro pins s σ H R I h
  refine thn (hl pins s σ H _ I h) fun v s1 ⟨x, H1, I1, r1, q1⟩ => ?_
  obtain ⟨z, e, q⟩ := q1
  subst e
  obtain ⟨t, rfl⟩ := r1
  have fin : ∀ (T : String) (_ : Turn X.prog X.w X.K tg (Its z) [s1.heap.objs.size] s1.heap.objs.size (fun i h => h.IsStrIter s1.heap.objs.size T z t i)),
      PIE X pins σ tg R (.ref s1.heap.objs.size) { s1 with heap := s1.heap.push { cls := .type T, data := .fields #[.str z t, .int 0 0] } } := fun T tn => by
    refine ⟨s1.heap.objs.size, [s1.heap.objs.size], _, _, H1, rfl, I1.kept (t' := s1.toks) fun b o e => Heap.get?_push_of_some _ e, tn, ⟨_, Heap.get?_push_size _ rfl, rfl, rfl⟩, fun b hb => ?_, q⟩
    have e : b = s1.heap.objs.size := by simpa using hb
    subst e
    exact I1.fpOk (Nat.le_refl _) (I1.hok.fresh (Nat.le_refl _))
  cases ha : z.cps.all (· < 128)
  · exact wpAny_pyIter_wide ha (fin _ (turn_str (by decide) _ z t (fun A' hA => Walks.strWide hA _ z t) (fun A s E i Q hh st hx hQ => wpAny_pyNext_wide_end hh st hx hQ) (fun A s E i Q st hq => wpAny_pyIter_striter_wide st hq)))
  · exact wpAny_pyIter_ascii ha (fin _ (turn_str (by decide) _ z t (fun A' hA => Walks.strAscii hA _ z t) (fun A s E i Q hh st hx hQ => wpAny_pyNext_ascii_end hh st hx hQ) (fun A s E i Q st hq => wpAny_pyIter_striter_ascii st hq)))
end
end L2
set_option Elab.async false
set_option linter.all false
set_option maxRecDepth 100000
set_option maxHeartbeats 4000000
namespace L2
open PySem PySem.Spec PyProof.Rows
/-- the cells that a comprehension's block sees -/
def clOf (cells : List (Str × Addr)) (names : List (Str × NameKind)) : List (Str × Addr) :=
  names.foldl (fun cs p => if p.2 == .free then match cells.lookup p.1 with | some a => (p.1, a) :: cs | none => cs else cs) []
theorem clOf_sub (cells : List (Str × Addr)) : ∀ (names : List (Str × NameKind)) (cs : List (Str × Addr)), (∀ x c, cs.lookup x = some c → cells.lookup x = some c) →
    ∀ x c, (names.foldl (fun cs p => if p.2 == .free then match cells.lookup p.1 with | some a => (p.1, a) :: cs | none => cs else cs) cs).lookup x = some c → cells.lookup x = some c
  | [], cs, h => h
  | (n, k) :: r, cs, h => by
    rw [List.foldl_cons]
    refine clOf_sub cells r _ fun x c e => ?_
    dsimp only at e
    split at e
    · split at e
      · rename_i a ha
        rw [List.lookup_cons] at e
        split at e
        · rename_i hx
          have := LawfulBEq.eq_of_beq hx
          cases e
          rw [this]
          exact ha
        · exact h x c e
      · exact h x c e
    · exact h x c e
theorem clOf_keep (cells : List (Str × Addr)) : ∀ (names : List (Str × NameKind)) (cs : List (Str × Addr)) (x : Str) (c : Addr), (∀ y c, cs.lookup y = some c → cells.lookup y = some c) → cs.lookup x = some c →
    (names.foldl (fun cs p => if p.2 == .free then match cells.lookup p.1 with | some a => (p.1, a) :: cs | none => cs else cs) cs).lookup x = some c
  | [], cs, x, c, _, h => h
  | (n, k) :: r, cs, x, c, hs, h => by
    rw [List.foldl_cons]
    have hs' : ∀ y c, (if (k == NameKind.free) = true then match cells.lookup n with | some a => (n, a) :: cs | none => cs else cs).lookup y = some c → cells.lookup y = some c := by
      intro y c e
      split at e
      · split at e
        · rename_i a ha
          rw [List.lookup_cons] at e
          split at e
          · rename_i hx
            have := LawfulBEq.eq_of_beq hx
            cases e
            rw [this]
            exact ha
          · exact hs y c e
        · exact hs y c e
      · exact hs y c e
    refine clOf_keep cells r _ x c hs' ?_
    dsimp only
    split
    · split
      · rename_i a ha
        rw [List.lookup_cons]
        split
        · rename_i hx
          have := LawfulBEq.eq_of_beq hx
          rw [this] at h
          have := hs _ _ h
          rw [ha] at this
          exact this
        · exact h
      · exact h
    · exact h
theorem clOf_has (cells : List (Str × Addr)) : ∀ (names : List (Str × NameKind)) (cs : List (Str × Addr)) (x : Str) (c : Addr), (∀ y c, cs.lookup y = some c → cells.lookup y = some c) → (x, NameKind.free) ∈ names → cells.lookup x = some c →
    (names.foldl (fun cs p => if p.2 == .free then match cells.lookup p.1 with | some a => (p.1, a) :: cs | none => cs else cs) cs).lookup x = some c
  | [], cs, x, c, _, h, _ => nomatch h
  | (n, k) :: r, cs, x, c, hs, h, hc => by
    rw [List.foldl_cons]
    have hs' : ∀ y c, (if (k == NameKind.free) = true then match cells.lookup n with | some a => (n, a) :: cs | none => cs else cs).lookup y = some c → cells.lookup y = some c := by
      intro y c e
      split at e
      · split at e
        · rename_i a ha
          rw [List.lookup_cons] at e
          split at e
          · rename_i hx
            have := LawfulBEq.eq_of_beq hx
            cases e
            rw [this]
            exact ha
          · exact hs y c e
        · exact hs y c e
      · exact hs y c e
    rcases List.mem_cons.mp h with e | h
    · cases e
      refine clOf_keep cells r _ _ c hs' ?_
      dsimp only
      rw [if_pos (show (NameKind.free == NameKind.free) = true by decide), hc]
      simp [List.lookup_cons]
    · exact clOf_has cells r _ x c hs' h hc
theorem closureFor_cl {scope : Scope} {env : Env} (h : ∀ x ∈ scope.names, x.2 = .free → ∃ c, env.cells.lookup x.1 = some c) : closureFor scope env = pure (clOf env.cells scope.names) := by
  have go : ∀ (names : List (Str × NameKind)) (cs : List (Str × Addr)), (∀ x ∈ names, x.2 = .free → ∃ c, env.cells.lookup x.1 = some c) →
      (forIn names cs fun x r => match x with | (name, kind) => if (kind == NameKind.free) = true then do let a ← cellOf env name; pure (ForInStep.yield ((name, a) :: r)) else pure (ForInStep.yield r) : Sem (List (Str × Addr))) =
        pure (names.foldl (fun cs p => if p.2 == .free then match env.cells.lookup p.1 with | some a => (p.1, a) :: cs | none => cs else cs) cs) := by
    intro names
    induction names with
    | nil => intro cs _; rfl
    | cons p r ih =>
      intro cs hp
      obtain ⟨n, k⟩ := p
      rw [List.forIn_cons, List.foldl_cons]
      by_cases hk : k = .free
      · subst hk
        obtain ⟨c, hc⟩ := hp _ List.mem_cons_self rfl
        have hc : env.cells.lookup n = some c := hc
        have e1 : cellOf env n = pure c := by unfold cellOf; rw [hc]
        have ef : (NameKind.free == NameKind.free) = true := by decide
        dsimp only
        rw [if_pos ef, if_pos ef, e1, hc]
        exact ih _ fun x hx => hp x (List.mem_cons_of_mem _ hx)
      · have hk' : (k == NameKind.free) = false := by simpa using hk
        dsimp only
        rw [hk', if_neg Bool.false_ne_true, if_neg Bool.false_ne_true]
        exact ih _ fun x hx => hp x (List.mem_cons_of_mem _ hx)
  have e := go scope.names [] h
  have e2 : closureFor scope env = (forIn scope.names [] (fun x r => match x with | (name, kind) => if (kind == NameKind.free) = true then do let a ← cellOf env name; pure (ForInStep.yield ((name, a) :: r)) else pure (ForInStep.yield r)) : Sem (List (Str × Addr))) >>= fun cs => pure cs := rfl
  rw [e2, e]
  rfl
theorem lookup_relabel {env : Env} {names : List (Str × NameKind)} {x : Str} :
    (names.map fun (n, k) => if (k == NameKind.free && env.scope.kind == .function && env.kindOf n == some .cell) then (n, NameKind.cell) else (n, k)).lookup x =
      (names.lookup x).map fun k => if (k == NameKind.free && env.scope.kind == .function && env.kindOf x == some .cell) then NameKind.cell else k := by
  induction names with
  | nil => rfl
  | cons p r ih =>
    obtain ⟨n, k⟩ := p
    rw [List.map_cons, List.lookup_cons]
    by_cases hc : (k == NameKind.free && env.scope.kind == .function && env.kindOf n == some .cell) = true
    · dsimp only
      rw [if_pos hc, List.lookup_cons]
      cases hx : x == n with
      | true =>
        have := LawfulBEq.eq_of_beq hx
        subst this
        dsimp only [Option.map]
        rw [if_pos hc]
      | false => exact ih
    · dsimp only
      rw [if_neg hc, List.lookup_cons]
      cases hx : x == n with
      | true =>
        have := LawfulBEq.eq_of_beq hx
        subst this
        dsimp only [Option.map]
        rw [if_neg hc]
      | false => exact ih
/-- the context of a comprehension's block -/
def cxC (X : Cx) (N : List Str) (scope : Scope) (C : Addr) (s : Shared) (H : Hp) (ex : List Addr) (pn : List (Addr × Obj)) : Cx :=
  { X with N := N, s₀ := s, H₀ := H, env := compEnvC scope (clOf X.env.cells scope.names) C X.env, outer := X.stack, ex := ex, fn := fun _ => false, pn := pn, xe := fun _ _ => False }
/-- the block's names at its start: the free ones as they are outside -/
def pick (σ : St) (src : List (Option Nat)) : St := src.map fun o => match o with | some j => (σ[j]?).join | none => none
structure CompScope (X : Cx) (N : List Str) (src : List (Option Nat)) (scope : Scope) : Prop where
  kind : scope.kind = .function
  nocell : ∀ y ∈ scope.names, y.2 ≠ .cell
  loc : ∀ y ∈ scope.names, y.2 = .local → scope.names.lookup y.1 = some .local
  fre : ∀ y ∈ scope.names, y.2 = .free → X.env.kindOf y.1 = some .cell ∨ X.env.kindOf y.1 = some .free
  len : src.length = N.length
  src : ∀ (i j : Nat) (x : Str), src[i]? = some (some j) → N[i]? = some x → X.N[j]? = some x ∧ scope.names.lookup x = some .free ∧ Vis X.env.scope x
def Ext (σ σ' : St) : Prop := σ'.length = σ.length ∧ ∀ (j : Nat) v, σ[j]? = some (some v) → σ'[j]? = some (some v)
/-- a target that leaves the free names as they are -/
def GExt (g : TG) (src : List (Option Nat)) : Prop := ∀ x σ H Q, g x (pick σ src) H Q → g x (pick σ src) H fun σ' H' => Ext (pick σ src) σ' ∧ Q σ' H'
def tComp (wi : TI) (src : List (Option Nat)) (g : TG) (tc : TT) (te : TE) : TE := fun σ H Q => wi σ H fun J H1 =>
  ∃ W : Nat → Nat → List V → Hp → Prop, (∃ m, W 0 m [] H1) ∧ ∀ i m out H', W i m out H' →
    (J.stop i H' ∧ ∀ D, H' D = none → Q (.ref D) (upd H' D (.lst out))) ∨
    (J.go i H' ∧ out.length < sizeLine ∧ ∀ x H2, J.yld i H' x H2 → g x (pick σ src) H2 fun σ3 H3 => tc σ3 H3 fun b H4 =>
      if b = true then te σ3 H4 fun v H5 => ∃ m', m' < m ∧ W (i + 1) m' (out ++ [v]) H5 else ∃ m', m' < m ∧ W (i + 1) m' out H4)
section
variable {X : Cx} {N : List Str} {src : List (Option Nat)} {scope : Scope} {tg iter elt : Expr} {ifs : List Expr} {pos : Pos} {wi : TI} {g : TG} {tc : TT} {te : TE}
/-- the tests of a clause -/
def PIf (X : Cx) (ifs : List Expr) (t : TT) : Prop :=
  ∀ (pins : List (Addr × Obj)) (s : Shared) (σ : St) (H : Hp) (Q : Bool → Hp → Prop), Inv X pins σ H s → t σ H Q →
    wpAny (model X.prog X.w) X.A (forIn ifs true fun c r => if r = true then do let ok ← isTrue c X.env (eval c X.env); pure (ForInStep.yield ok) else pure (ForInStep.yield r)) (TP X pins σ Q) X.xe s
def tTrue : TT := fun _ H Q => Q true H
theorem pif_nil : PIf X [] tTrue := fun pins s σ H Q I h => wpAny_tests_nil ⟨H, I, h⟩
theorem pif_one {c : Expr} {t : TT} (h : PT X c t) : PIf X [c] t := fun pins s σ H Q I hw => wpAny_tests_one (h pins s σ H Q I hw)
theorem codeAny_compLoop_go {prog : Program} {w : World} {A : Around} {R : Result → Shared → Prop} {s : Shared} {elt target iter : Expr} {ifs : List Expr} {scope : Scope} {pos : Pos} {it acc : Value} {env : Env} {EE : Value → Shared → Prop} (hEE : ∀ x s', EE x s' → notedBy (model prog w) A env (fun e s' => R (.error e) s') x s') (I : Nat → Shared → Prop)
    (turn : ∀ n s, I n s → wpAny (model prog w) A (pyNext it) (fun r s₁ => match r with
      | none => R (.ok .next) s₁
      | some v => wpAny (model prog w) A (letOwnedTupleGo target it v) (fun _ s₁' => wpAny (model prog w) A (assign target env v) (fun _ s₂ =>
          wpAny (model prog w) A (forIn ifs true fun c r => if r = true then do let ok ← isTrue c env (eval c env); pure (ForInStep.yield ok) else pure (ForInStep.yield r)) (fun ok s₃ =>
            if ok = true then wpAny (model prog w) A (eval elt env) (fun x s₄ =>
              wpAny (model prog w) A (call (.builtin "list.append") [acc, x]) (fun _ s₅ => ∃ m, m < n ∧ I m s₅) EE s₄) EE s₃
            else ∃ m, m < n ∧ I m s₃) EE s₂) EE s₁') EE s₁) EE s)
    (n : Nat) (h : I n s) :
    codeAny (model prog w) A (.compLoop (.ListComp elt [⟨target, iter, ifs, 0⟩] scope pos) 0 it acc env) R s := by
  refine codeAny_loop rfl I (fun n s hI => ?_) n h
  show wpAny _ A ((compTurn (.ListComp elt [⟨target, iter, ifs, 0⟩] scope pos) 0 it acc env).onRaise (fun x => do noteFrame x env; theTreesLotGoes x)) _ _ s
  refine wpAny_noted ?_
  rw [compTurn_list]
  refine wpAny_bind (wpAny_standAt (wpAny_bind (wpAny_mono (turn n s hI) (fun r s₁ h₁ => ?_) hEE)))
  cases r with
  | none => exact wpAny_pure h₁
  | some v =>
    refine wpAny_bind (wpAny_mono h₁ (fun _ s₁' h₁' => ?_) hEE)
    refine wpAny_bind (wpAny_mono h₁' (fun _ s₂ h₂ => wpAny_bind (wpAny_mono h₂ (fun ok s₃ h₃ => ?_) hEE)) hEE)
    cases ok with
    | false => exact wpAny_pure ⟨rfl, h₃⟩
    | true =>
      exact wpAny_bind (wpAny_bind (wpAny_mono h₃ (fun x s₄ h₄ => wpAny_bind (wpAny_mono h₄ (fun _ s₅ h₅ => wpAny_pure (wpAny_pure ⟨rfl, h₅⟩)) hEE)) hEE))
/-- what stands when the block is through -/
def CompEnd (X : Cx) (pins : List (Addr × Obj)) (σ : St) (Q : VK) (D C : Addr) (s' : Shared) : Prop :=
  ∃ H' m, Inv X pins σ H' s' ∧ Q (.ref D) H' ∧ s'.heap.Ns C m ∧ H' C = none ∧ C ≠ X.env.locals ∧ X.s₀.heap.objs.size ≤ C ∧ (∀ x c, X.env.cells.lookup x = some c → c ≠ C) ∧ (∀ p ∈ X.pn ++ pins, p.1 ≠ C)
theorem comp_core {pins : List (Addr × Obj)} {s₂ : Shared} {σ : St} {H₂ : Hp} {Q : VK} {it : Addr} {fp : List Addr} {tn : Nat → Heap → Prop} {J : It} {E : Value → Shared → Prop} (S : CompScope X N src scope) (hc : X.calm = true)
    (hg : ∀ C s H ex pn, PG (cxC X N scope C s H ex pn) tg g) (hx : GExt g src) (hi : ∀ C s H ex pn, PIf (cxC X N scope C s H ex pn) ifs tc) (he : ∀ C s H ex pn, PE (cxC X N scope C s H ex pn) elt te)
    (I : Inv X pins σ H₂ s₂) (T : Turn X.prog X.w X.K tg J fp it tn) (st : tn 0 s₂.heap) (ff : ∀ b ∈ fp, FpOk X pins H₂ b)
    (W : Nat → Nat → List V → Hp → Prop) (w0 : ∃ m, W 0 m [] H₂)
    (turn : ∀ i m out H', W i m out H' → (J.stop i H' ∧ ∀ D, H' D = none → Q (.ref D) (upd H' D (.lst out))) ∨
      (J.go i H' ∧ out.length < sizeLine ∧ ∀ x H2, J.yld i H' x H2 → g x (pick σ src) H2 fun σ3 H3 => tc σ3 H3 fun b H4 =>
        if b = true then te σ3 H4 fun v H5 => ∃ m', m' < m ∧ W (i + 1) m' (out ++ [v]) H5 else ∃ m', m' < m ∧ W (i + 1) m' out H4))
    {RR : Value → Addr → Result → Shared → Prop} (hRR : ∀ D C s', CompEnd X pins σ Q D C s' → RR (.ref D) C (.ok .next) s') :
    wpAny (model X.prog X.w) X.A (newList []) (fun acc s₃ => wpAny (model X.prog X.w) X.A (newFunctionEnv scope X.env.globals (clOf X.env.cells scope.names) [] X.env.qual none .none (some X.env)) (fun cenv s₄ =>
      codeAny (model X.prog X.w) X.A (.compStart (.ListComp elt [⟨tg, iter, ifs, 0⟩] scope pos) 0 (.ref it) acc { cenv with scope := relabel scope X.env }) (RR acc cenv.locals) s₄) E s₃) E s₂ := by
  refine wpAny_newObj_type (wpAny_newFunctionEnv S.nocell (by intro y hy; simp at hy) (fun h₁ hns₁ hsb₁ => ?_) S.kind)
  dsimp only at hns₁ hsb₁ ⊢
  generalize hH2 : s₂.heap.push { cls := .type "list", dict := none, data := .seq ([] : List Value).toArray } = G2 at hns₁ hsb₁ ⊢
  have hC : G2.objs.size = s₂.heap.objs.size + 1 := by rw [← hH2, Heap.size_push]
  have hDC : s₂.heap.objs.size ≠ G2.objs.size := by rw [hC]; exact Nat.ne_of_lt (Nat.lt_succ_self _)
  have hCle : s₂.heap.objs.size ≤ G2.objs.size := by rw [hC]; exact Nat.le_succ _
  have old : ∀ b o, s₂.heap.get? b = some o → h₁.get? b = some o := fun b o e =>
    hsb₁.extBut b o (Nat.ne_of_lt (Nat.lt_of_lt_of_le (Heap.lt_size e) hCle)) (Heap.get?_push_of_some _ (hH2 ▸ Heap.get?_push_of_some _ e))
  have hacc : h₁.get? s₂.heap.objs.size = some { cls := .type "list", dict := none, data := .seq ([] : List Value).toArray } := hsb₁.extBut _ _ hDC (Heap.get?_push_of_some _ (hH2 ▸ Heap.get?_push_size _ rfl))
  generalize hCC : G2.objs.size = C at hC hDC hCle hns₁ hsb₁ ⊢
  have hCle' : s₂.heap.objs.size ≤ C := hCle
  generalize hD : s₂.heap.objs.size = D at hC hDC hCle hacc ⊢
  have clsub : ∀ x c, (clOf X.env.cells scope.names).lookup x = some c → X.env.cells.lookup x = some c := clOf_sub X.env.cells scope.names [] (by intro x c h; simp at h)
  have cellLt : ∀ x c, X.env.cells.lookup x = some c → c < s₂.heap.objs.size := fun x c e => by obtain ⟨v, q⟩ := I.cell x c e; exact q.lt
  have ffne : ∀ b ∈ fp, b < s₂.heap.objs.size := fun b hb => by
    obtain ⟨o, e, _⟩ := T.obj _ _ st b hb
    exact Heap.lt_size e
  -- the block's context
  have ok : (cxC X N scope C s₂ H₂ fp (X.pn ++ pins)).Ok := by
    refine ⟨I.ok.mod, S.kind, I.ok.glob, I.ok.blt, hCle', fun x y c h1 h2 => I.ok.inj x y c (clsub _ _ h1) (clsub _ _ h2), fun x hk => ?_, fun x c h => (nomatch h), I.ok.hd, I.ok.frames, .inl rfl, fun b hb => ⟨?_, fun x c h => ?_⟩,
      I.bs, Nat.le_trans I.ok.bsz I.sz, fun b o e hb => ?_, fun b hb hf => ?_, I.stack, I.stkFree⟩
    · -- cells for the names
      have hk : (relabel scope X.env).names.lookup x = some .cell ∨ (relabel scope X.env).names.lookup x = some .free := hk
      unfold relabel at hk
      dsimp only at hk
      rw [lookup_relabel] at hk
      cases hl : scope.names.lookup x with
      | none => rw [hl] at hk; rcases hk with z | z <;> cases z
      | some k =>
        rw [hl] at hk
        have hm := PySem.mem_of_lookup hl
        have hkf : k = .free := by
          by_cases hkf : k = .free
          · exact hkf
          · exfalso
            have e1 : (k == NameKind.free) = false := by simpa using hkf
            simp only [Option.map, e1, Bool.false_and, Bool.false_eq_true, if_false] at hk
            rcases hk with z | z
            · exact S.nocell _ hm (Option.some.inj z)
            · exact hkf (Option.some.inj z)
        subst hkf
        obtain ⟨c, hcx⟩ := I.ok.has x (S.fre _ hm rfl)
        exact ⟨c, clOf_has X.env.cells scope.names [] x c (by intro x c h; simp at h) hm hcx⟩
    · exact Nat.ne_of_lt (Nat.lt_of_lt_of_le (ffne b hb) hCle')
    · exact (ff b hb).2.2.2.2.1 x c (clsub _ _ h)
    · have q : b ∈ X.ex ∨ X.s₀.heap.objs.size ≤ b := (ff b hb).2.2.2.1
      rcases q with q | q
      · exact I.ok.noex b o e q
      · exact absurd (Nat.lt_of_lt_of_le (Heap.lt_size e) (Nat.le_trans I.ok.bsz q)) (Nat.lt_irrefl _)
    · rcases List.mem_cons.mp (I.stkSub b hf) with z | z
      · exact (ff b hb).2.1 z
      · exact (ff b hb).2.2.1 z
  have notin : ∀ p ∈ X.pn ++ pins, p.1 ∉ frs X.stack := fun p hp z => by
    obtain ⟨_, _, ne, nf, _⟩ := I.pin p hp
    rcases List.mem_cons.mp (I.stkSub _ z) with q | q
    · exact ne q
    · exact nf q
  have pinLt : ∀ p ∈ X.pn ++ pins, p.1 < s₂.heap.objs.size := fun p hp => Heap.lt_size (I.pin p hp).1
  have stkLt : ∀ b ∈ frs X.stack, b < s₂.heap.objs.size := fun b hb => by
    rcases List.mem_cons.mp (I.stkSub b hb) with z | z
    · rw [z]; exact I.lt
    · obtain ⟨_, o, ho, _⟩ := I.ok.funs.mem z
      exact Nat.lt_of_lt_of_le (Heap.lt_size ho) I.sz
  have loc0 : ∀ (i : Nat) (x : Str) (v : V), N[i]? = some x → (pick σ src)[i]? = some (some v) → ∃ u c, RelV v u ∧ (clOf X.env.cells scope.names).lookup x = some c ∧ s₂.heap.IsCell c (some u) ∧ scope.names.lookup x = some .free := fun i x v e1 e2 => by
    unfold pick at e2
    rw [List.getElem?_map] at e2
    cases es : src[i]? with
    | none => rw [es] at e2; cases e2
    | some o =>
      rw [es] at e2
      cases o with
      | none => cases e2
      | some j =>
        have e3 : (σ[j]?).join = some v := Option.some.inj e2
        have e4 : σ[j]? = some (some v) := by
          cases q : σ[j]? with
          | none => rw [q] at e3; cases e3
          | some z => rw [q] at e3; exact congrArg some e3
        obtain ⟨a1, a2, a3⟩ := S.src i j x es e1
        obtain ⟨m0, _, hl⟩ := I.loc
        obtain ⟨u, r, l⟩ := hl j x v a1 e4 a3
        have hm := PySem.mem_of_lookup a2
        have hk := S.fre _ hm rfl
        rcases l with ⟨k, _⟩ | ⟨_, c, hcx, z⟩
        · rcases hk with hk | hk <;> (rw [k] at hk; cases hk)
        · exact ⟨u, c, r, clOf_has X.env.cells scope.names [] x c (by intro x c h; simp at h) hm hcx, z, a2⟩
  have kinds : ∀ x, scope.names.lookup x = some .free → (compEnvC scope (clOf X.env.cells scope.names) C X.env).kindOf x = some .cell ∨ (compEnvC scope (clOf X.env.cells scope.names) C X.env).kindOf x = some .free := fun x hx => by
    show (relabel scope X.env).names.lookup x = some .cell ∨ (relabel scope X.env).names.lookup x = some .free
    unfold relabel
    dsimp only
    rw [lookup_relabel, hx]
    dsimp only [Option.map]
    split
    · exact .inl rfl
    · exact .inr rfl
  have Ic : Inv (cxC X N scope C s₂ H₂ fp (X.pn ++ pins)) [] (pick σ src) H₂ { s₂ with heap := h₁, toks := s₂.toks + ([] : List (Str × Value)).length } := by
    refine ⟨ok, rfl, I.bare, Un.kept old, ⟨_, hns₁, fun i x v e1 e2 e3 => ?_⟩, fun x c e => ?_, I.hok.fresh hCle', fun x c e => I.freeC x c (clsub x c e), fun p hp => ?_, I.hok.kept old, ?_⟩
    · obtain ⟨u, c, r, e5, ⟨o, ho, hd⟩, hf⟩ := loc0 i x v e1 e2
      exact ⟨u, r, .inr ⟨kinds x hf, c, e5, ⟨o, old _ _ ho, hd⟩⟩⟩
    · obtain ⟨v, o, ho, hd⟩ := I.cell x c (clsub x c e)
      exact ⟨v, o, old _ _ ho, hd⟩
    · have hp : p ∈ X.pn ++ pins := by simpa [cxC] using hp
      obtain ⟨e, n, _, _, d⟩ := I.pin p hp
      exact ⟨old _ _ e, n, Nat.ne_of_lt (Nat.lt_of_lt_of_le (pinLt p hp) hCle'), notin p hp, d⟩
    · show (pick σ src).length = N.length
      unfold pick
      rw [List.length_map, S.len]
  have hDle : s₂.heap.objs.size ≤ D := Nat.le_of_eq hD
  have DneStk : D ∉ frs X.stack := fun z => absurd (Nat.lt_of_lt_of_le (stkLt D z) hDle) (Nat.lt_irrefl _)
  have Dnefp : D ∉ fp := fun z => absurd (Nat.lt_of_lt_of_le (ffne D z) hDle) (Nat.lt_irrefl _)
  have fpOk : ∀ {pl : List (Addr × Obj)} {H' : Hp}, (∀ b ∈ fp, H' b = none) → (∀ p ∈ pl, p.1 ∉ fp) → ∀ b ∈ fp, FpOk (cxC X N scope C s₂ H₂ fp (X.pn ++ pins)) pl H' b := fun {pl H'} hn hpl b hb => by
    obtain ⟨f0, f1, f2, f3, f4, f5⟩ := ff b hb
    refine ⟨hn b hb, Nat.ne_of_lt (Nat.lt_of_lt_of_le (ffne b hb) hCle'), fun z => ?_, .inl hb, fun x c e => f4 x c (clsub x c e), fun p hp => ?_⟩
    · rcases List.mem_cons.mp (I.stkSub b z) with q | q
      · exact f1 q
      · exact f2 q
    · have hp : p ∈ (X.pn ++ pins) ++ pl := hp
      rcases List.mem_append.mp hp with hp | hp
      · exact f5 p hp
      · exact fun z => hpl p hp (z ▸ hb)
  -- back in the def's own frame
  have back : ∀ {s' : Shared} {H' : Hp} {out : List V} {its : List Value} {nn : Nat} {σ' : St}, Inv (cxC X N scope C s₂ H₂ fp (X.pn ++ pins)) [] σ' H' s' → H' D = none → out.length ≤ sizeLine → Vals out its →
      s'.heap.get? D = some { cls := .type "list", data := .seq its.toArray nn } → (∀ D, H' D = none → Q (.ref D) (upd H' D (.lst out))) → CompEnd X pins σ Q D C s' := fun {s' H' out its nn σ'} I' hn hl hv ho q => by
    obtain ⟨m, hm, _⟩ := I'.loc
    have un : Un (frs X.stack) fp H₂ H' s₂.heap s'.heap := I'.base
    have neD : ∀ b o, s₂.heap.get? b = some o → b ≠ D := fun b o e => Nat.ne_of_lt (Nat.lt_of_lt_of_le (Heap.lt_size e) hDle)
    have fD : H₂ D = none := I.hok.fresh hDle
    refine ⟨upd H' D (.lst out), m, ?_, q D hn, hm, by rw [upd_ne (Ne.symm hDC)]; exact I'.free, Nat.ne_of_gt (Nat.lt_of_lt_of_le I.lt hCle'), Nat.le_trans I.sz hCle', fun x c e => Nat.ne_of_lt (Nat.lt_of_lt_of_le (cellLt x c e) hCle'), fun p hp => Nat.ne_of_lt (Nat.lt_of_lt_of_le (pinLt p hp) hCle')⟩
    refine I.call' (ch := fp) I'.os ⟨un.keep, un.slot, fun b o e n hb => ?_, un.there, fun b xs e => ?_, fun b o u e => ?_, fun b ps e => ?_⟩ (fun b o e => ?_) I'.bare fun b hb => ?_
    · rw [upd_ne (neD b o e)]; exact un.free b o e n hb
    · rw [upd_ne (ne_of_none e fD)]; exact un.tups b xs e
    · rw [upd_ne (ne_of_none e fD)]; exact un.frzs b o u e
    · rw [upd_ne (ne_of_none e fD)]; exact un.tbls b ps e
    · by_cases hb : b = D
      · subst hb
        rw [upd_same] at e
        cases e
        exact ⟨hl, its, nn, hv, ho⟩
      · rw [upd_ne hb] at e
        refine (I'.hok b o e).stay (fun c v _ q => q) (fun c q => ?_) fun c xs q => ?_
        · rw [upd_ne (ne_of_none q hn)]; exact q
        · rw [upd_ne (ne_of_none q hn)]; exact q
    · obtain ⟨f0, f1, f2, f3, f4, f5⟩ := ff b hb
      exact ⟨f3, f1, f4, f5⟩
  obtain ⟨m0, w0⟩ := w0
  have loop : ∀ s₄ : Shared, s₄ = { s₂ with heap := h₁, toks := s₂.toks + ([] : List (Str × Value)).length } →
      codeAny (model X.prog X.w) X.A (.compLoop (.ListComp elt [⟨tg, iter, ifs, 0⟩] scope pos) 0 (.ref it) (.ref D) (compEnvC scope (clOf X.env.cells scope.names) C X.env)) (RR (.ref D) C) s₄ := by
    rintro s₄ rfl
    refine codeAny_compLoop_go (EE := fun _ _ => False) (fun _ _ f => f.elim) (fun n s' => ∃ i out its nn H', Inv (cxC X N scope C s₂ H₂ fp (X.pn ++ pins)) [] (pick σ src) H' s' ∧ H' D = none ∧ out.length ≤ sizeLine ∧ Vals out its ∧
      s'.heap.get? D = some { cls := .type "list", data := .seq its.toArray nn } ∧ tn i s'.heap ∧ (∀ b ∈ fp, H' b = none) ∧ W i n out H') ?_ m0
      ⟨0, [], [], 0, H₂, Ic, I.hok.fresh hDle, Nat.zero_le _, .nil, hacc, T.keep _ _ _ st fun b hb o e => old b o e, fun b hb => (ff b hb).1, w0⟩
    rintro n s3 ⟨i, out, its, nn, H3, I3, hD3, hl3, hv3, ho3, st3, fr3, w3⟩
    have dataNe : ∀ (its : List Value) (nn : Nat) (v : Option Value), ({ cls := .type "list", data := .seq its.toArray nn } : Obj).data ≠ .cell v := fun _ _ _ z => nomatch z
    have I3p : Inv (cxC X N scope C s₂ H₂ fp (X.pn ++ pins)) [(D, { cls := .type "list", data := .seq its.toArray nn })] (pick σ src) H3 s3 := I3.pins_of fun p hp => by
      have e : p = (D, { cls := .type "list", data := .seq its.toArray nn }) := by simpa using hp
      subst e
      exact ⟨ho3, hD3, hDC, DneStk, dataNe its nn⟩
    have nfp : ∀ p ∈ [((D, { cls := .type "list", data := .seq its.toArray nn }) : Addr × Obj)], p.1 ∉ fp := fun p hp => by
      have e : p = (D, { cls := .type "list", data := .seq its.toArray nn }) := by simpa using hp
      subst e
      exact Dnefp
    rcases turn i n out H3 w3 with ⟨stop, qn⟩ | ⟨go, hlt, step⟩
    · refine thn (T.done (cxC X N scope C s₂ H₂ fp (X.pn ++ pins)) rfl rfl rfl hc i _ s3 _ H3 _ I3p (fpOk fr3 nfp) st3 stop) fun r s4 ⟨hr, I4⟩ => ?_
      subst hr
      have p4 := (I4.pin (D, { cls := .type "list", data := .seq its.toArray nn }) (List.mem_append_right _ (by simp))).1
      exact hRR D C s4 (back (I4.pins_of (pins' := []) fun p hp => nomatch hp) hD3 hl3 hv3 p4 qn)
    · refine thn (T.item (cxC X N scope C s₂ H₂ fp (X.pn ++ pins)) rfl rfl rfl hc i _ s3 _ H3 _ I3p (fpOk fr3 nfp) st3 go) fun r s4 ⟨u, hr, h4⟩ => ?_
      subst hr
      refine thn h4 fun _ s5 ⟨x, H5, I5, r5, y5, st5, fr5⟩ => ?_
      have I5' := I5.pinned (fpOk fr5 nfp) (T.obj _ _ st5)
      refine thn (hg _ _ _ _ _ _ s5 _ H5 x u _ I5' r5 (hx x σ H5 _ (step x H5 y5))) fun _ s6 ⟨σ6, H6, I6, e6, q6⟩ => ?_
      have fin : ∀ {s7 : Shared} {H7 : Hp}, Inv (cxC X N scope C s₂ H₂ fp (X.pn ++ pins)) ([(D, { cls := .type "list", data := .seq its.toArray nn })] ++ pinsAt fp s5.heap) σ6 H7 s7 →
          Inv (cxC X N scope C s₂ H₂ fp (X.pn ++ pins)) [] (pick σ src) H7 s7 ∧ H7 D = none ∧ s7.heap.get? D = some { cls := .type "list", data := .seq its.toArray nn } ∧ tn (i + 1) s7.heap ∧ ∀ b ∈ fp, H7 b = none := fun {s7 H7} I7 => by
        have pD := I7.pin (D, { cls := .type "list", data := .seq its.toArray nn }) (List.mem_append_right _ (by simp))
        refine ⟨(I7.pins_of (pins' := []) fun p hp => nomatch hp).weak e6.1.symm e6.2, pD.2.1, pD.1, T.keep _ _ _ st5 fun b hb o e => (I7.pin (b, o) (List.mem_append_right _ (List.mem_append_right _ (mem_pinsAt hb e)))).1, fun b hb => ?_⟩
        obtain ⟨o, e, d⟩ := T.obj _ _ st5 b hb
        exact (I7.pin (b, o) (List.mem_append_right _ (List.mem_append_right _ (mem_pinsAt hb e)))).2.1
      refine thn (hi _ _ _ _ _ _ s6 σ6 H6 _ I6 q6) fun b s7 ⟨H7, I7, q7⟩ => ?_
      cases b with
      | false =>
        rw [if_neg Bool.false_ne_true] at q7 ⊢
        obtain ⟨m', hm, w7⟩ := q7
        obtain ⟨J7, d7, o7, t7, f7⟩ := fin I7
        exact ⟨m', hm, i + 1, out, its, nn, H7, J7, d7, hl3, hv3, o7, t7, f7, w7⟩
      | true =>
        rw [if_pos rfl] at q7 ⊢
        refine thn (he _ _ _ _ _ _ s7 σ6 H7 _ I7 q7) fun v s8 ⟨y, H8, I8, r8, m', hm, w8⟩ => ?_
        obtain ⟨J8, d8, o8, t8, f8⟩ := fin I8
        have hsz : its.toArray.size ≤ sizeLine := by rw [List.size_toArray, ← hv3.length]; exact hl3
        refine wpAny_list_append_plain (items := its.toArray) (hsz := hsz) ⟨nn, o8⟩ fun h9 ⟨n9, e9⟩ sb => ?_
        have J9 : Inv (cxC X N scope C s₂ H₂ fp (X.pn ++ pins)) [] (pick σ src) H8 { s8 with heap := h9 } := J8.turned (t' := s8.toks) (it := D) (fun b o hb e => (sb.2 b hb).trans e) d8 hDC (.inr hDle) (fun x c e => Nat.ne_of_lt (Nat.lt_of_lt_of_le (cellLt x c (clsub x c e)) hDle)) fun p hp => by
          have hp : p ∈ X.pn ++ pins := by simpa [cxC] using hp
          exact Nat.ne_of_lt (Nat.lt_of_lt_of_le (pinLt p hp) hDle)
        refine ⟨m', hm, i + 1, out ++ [y], its ++ [v], n9, H8, J9, d8, ?_, hv3.append (.cons r8 .nil), ?_, T.keep _ _ _ t8 fun b hb o e => (sb.2 b (fun z => Dnefp (z ▸ hb))).trans e, f8, w8⟩
        · rw [List.length_append]; exact hlt
        · rw [e9]; simp
  exact codeAny_compStart_list (loop _ rfl) (T.self _ _ _ _ _ (T.keep _ _ _ st fun b hb o e => old b o e) (loop _ rfl))
theorem pe_comp (S : CompScope X N src scope) (hc : X.calm = true) (hit : PI X tg iter wi)
    (hg : ∀ C s H ex pn, PG (cxC X N scope C s H ex pn) tg g) (hx : GExt g src) (hi : ∀ C s H ex pn, PIf (cxC X N scope C s H ex pn) ifs tc) (he : ∀ C s H ex pn, PE (cxC X N scope C s H ex pn) elt te)
    (hs : ∀ x, foldedSetIterable iter X.env x = pure x := by intro _; rfl) : PE X (.ListComp elt [⟨tg, iter, ifs, 0⟩] scope pos) (tComp wi src g tc te) := by
  intro pins s σ H Q I h
  rw [eval_ListComp]
  have hcl : closureFor scope X.env = pure (clOf X.env.cells scope.names) := closureFor_cl fun y hy hf => I.ok.has y.1 (S.fre y hy hf)
  refine wpAny_comprehension_free (use := none) rfl hs hcl S.kind S.loc (thn (hit pins s σ H _ I h) fun v s1 h1 => thn h1 fun itv s2 h2 => ?_)
  obtain ⟨it, fp, tn, J, H2, e, I2, T, st2, f2, W, w0, turn⟩ := h2
  subst e
  refine comp_core (RR := fun acc C => compPost (model X.prog X.w) X.A X.xe none (EP X pins σ Q) acc C) S hc hg hx hi he I2 T st2 f2 W w0 turn fun D C s' ⟨H', m, I', q, hm, hn, h1, h2, h3, h4⟩ => ?_
  exact ⟨m, hm, fun h' sb => ⟨.ref D, H', I'.turned (t' := s'.toks) (it := C) (fun b o hb e => (sb.2 b hb).trans e) hn h1 (.inr h2) h3 h4, rfl, q⟩⟩
/-- x = [..] -/
theorem ps_setcomp {i : Nat} {x : Str} {pos' spos : Pos} (hN : X.N.Nodup) (hix : X.N[i]? = some x) (hlx : X.env.scope.names.lookup x = some .local)
    (S : CompScope X N src scope) (hc : X.calm = true) (hit : PI X tg iter wi)
    (hg : ∀ C s H ex pn, PG (cxC X N scope C s H ex pn) tg g) (hx : GExt g src) (hi : ∀ C s H ex pn, PIf (cxC X N scope C s H ex pn) ifs tc) (he : ∀ C s H ex pn, PE (cxC X N scope C s H ex pn) elt te)
    (hsw : swapsWith (.ListComp elt [⟨tg, iter, ifs, 0⟩] scope pos) (some (.Name x pos')) spos.line X.env = pure true := by rfl)
    (hs : ∀ x, foldedSetIterable iter X.env x = pure x := by intro _; rfl) : PS X (.Assign [.Name x pos'] (.ListComp elt [⟨tg, iter, ifs, 0⟩] scope pos) spos) (tAsg (tComp wi src g tc te) (gName i)) := by
  intro pins s σ H D I h
  rw [exec_Assign_Name_used _ _ _ _ hsw]
  refine wpAny_bind (wpAny_standAt (wpAny_bind ?_))
  have hcl : closureFor scope X.env = pure (clOf X.env.cells scope.names) := closureFor_cl fun y hy hf => I.ok.has y.1 (S.fre y hy hf)
  show wpAny _ X.A (do let _ ← comprehension (.ListComp elt [⟨tg, iter, ifs, 0⟩] scope pos) scope X.env _ (newList []) false (eval iter X.env) (some (assign (.Name x pos') X.env))) _ _ s
  refine wpAny_bind (wpAny_mono (wpAny_comprehension_free (use := some (assign (.Name x pos') X.env)) (Q := fun _ s' => ∃ σ' H', Inv X pins σ' H' s' ∧ D.nx σ' H') rfl hs hcl S.kind S.loc (thn (hit pins s σ H _ I h) fun v s1 h1 => thn h1 fun itv s2 h2 => ?_))
    (fun _ s' hq => wpAny_pure (wpAny_pure hq)) fun _ _ e => e)
  obtain ⟨it, fp, tn, J, H2, e, I2, T, st2, f2, W, w0, turn⟩ := h2
  subst e
  refine comp_core (Q := fun v H1 => D.nx (σ.set i (some v)) H1) (RR := fun acc C => compPost (model X.prog X.w) X.A X.xe (some (assign (.Name x pos') X.env)) (fun _ s' => ∃ σ' H', Inv X pins σ' H' s' ∧ D.nx σ' H') acc C) S hc hg hx hi he I2 T st2 f2 W w0 turn fun D' C s' ⟨H', m, I', q, hm, hn, h1, h2, h3, h4⟩ => ?_
  show wpAny _ X.A (assign (.Name x pos') X.env (.ref D')) _ _ _
  refine wpAny_assign_Name (store_ok2 I' hN hix (.inl hlx) (v := .ref D') rfl (fun s'' I'' ⟨a, sb, ha⟩ => ?_) (.inr hlx))
  have hCa : C ≠ a := by
    rcases ha with ha | ha
    · rw [ha]; exact h1
    · exact Ne.symm (h3 _ _ ha)
  refine ⟨m, hm.sameBut sb hCa, fun h'' sb2 => ⟨_, H', I''.turned (t' := s''.toks) (it := C) (fun b o hb e => (sb2.2 b hb).trans e) hn h1 (.inr h2) h3 h4, q⟩⟩
end
theorem pick_none {σ : St} {src : List (Option Nat)} {i : Nat} (h : src[i]? = some none) : (pick σ src)[i]? = some none := by
  unfold pick
  rw [List.getElem?_map, h]
  rfl
theorem Ext.set {σ0 σ : St} {i : Nat} {v : V} (h : σ0[i]? = some none) (e : Ext σ0 σ) : Ext σ0 (σ.set i (some v)) := by
  refine ⟨by rw [List.length_set]; exact e.1, fun j w hj => ?_⟩
  have : i ≠ j := by
    rintro rfl
    rw [h] at hj
    cases hj
  rw [List.getElem?_set_ne this]
  exact e.2 j w hj
theorem Ext.refl (σ : St) : Ext σ σ := ⟨rfl, fun _ _ h => h⟩
theorem gx_name {src : List (Option Nat)} {i : Nat} (h : src[i]? = some none) : GExt (gName i) src := fun x σ H Q q => ⟨(Ext.refl _).set (pick_none h), q⟩
theorem gx_tup2 {K : PySem.W.Frag} {n : Nat} {src : List (Option Nat)} {i j : Nat} (h : src[i]? = some none) (h' : src[j]? = some none) : GExt (gTup K n (gCons (gName i) (gCons (gName j) gNil))) src := fun x σ H Q q => by
  obtain ⟨a, xs, e1, hs, hl, v, r, e2, v2, r2, e3, e4, q⟩ := q
  exact ⟨a, xs, e1, hs, hl, v, r, e2, v2, r2, e3, e4, ((Ext.refl _).set (pick_none h)).set (pick_none h'), q⟩
theorem all_bools {xs : List V} {its : List Value} {bs : List Bool} (hv : Vals xs its) (hb : xs = bs.map V.bl) : ∀ (i : Nat) (v : Value), its.toArray[i]? = some v → v = Value.bool ((bs[i]?).getD false) := by
  subst hb
  intro i v h
  have h' : its[i]? = some v := by simpa using h
  have hl := hv.length
  rw [List.length_map] at hl
  have hi : i < its.length := (List.getElem?_eq_some_iff.mp h').1
  have hb : bs[i]? = some (bs[i]'(by omega)) := by simp
  obtain ⟨u, hu, r⟩ := hv.get (i := i) (x := V.bl (bs[i]'(by omega))) (by rw [List.getElem?_map, hb]; rfl)
  rw [h'] at hu
  cases hu
  rw [hb]
  exact r
theorem range_all {bs : List Bool} : (List.range bs.length).all (fun i => (bs[i]?).getD false) = bs.all id := by
  rw [Bool.eq_iff_iff, List.all_eq_true, List.all_eq_true]
  constructor
  · intro h b hb
    obtain ⟨i, hi, rfl⟩ := List.mem_iff_getElem.mp hb
    have := h i (List.mem_range.mpr hi)
    simpa [hi] using this
  · intro h i hi
    have hi := List.mem_range.mp hi
    simpa [hi] using h _ (List.getElem_mem hi)
section
variable {X : Cx}
theorem call_all_list (hc : X.calm = true) : CallR X (.builtin "all") (fun xs H Q => ∃ (a : Addr) (bs : List Bool), xs = [.ref a] ∧ SqL X.K H a (bs.map V.bl) ∧ Q (.bl (bs.all id)) H) := by
  intro pins s σ H xs us Q I r h
  obtain ⟨a, bs, rfl, hq, q⟩ := h
  obtain ⟨u, rfl, ru⟩ := vals1 r
  cases ru
  obtain ⟨its, rv, p, hz⟩ := I.list hq
  have hl := rv.length
  rw [List.length_map] at hl
  refine call_all_walk (wpAny_pyIter_list p.isList ?_)
  refine ⟨s.heap.objs.size, _, _, _, _, _, fun i => (bs[i]?).getD false, rfl, Walks.list (A := X.A.in1) (I.ok.hd hc) s.heap.objs.size a (Nat.ne_of_lt p.lt) its.toArray, ⟨⟨_, Heap.get?_push_size _ rfl, rfl, rfl⟩, p.isList.at fun o e => Heap.get?_push_of_some _ e⟩, ?_, fun h' tk hk => ?_⟩
  · intro i v s' Q' E' hv hQ
    rw [all_bools rv rfl i v hv]
    exact wpAny_truthy_bool hQ
  · have e : its.toArray.size = bs.length := by rw [List.size_toArray, ← hl]
    rw [e, range_all]
    exact ⟨.bl (bs.all id), H, I.kept (h' := h') (t' := tk) (fun b o e => hk b o (by simpa using Nat.ne_of_lt (Heap.lt_size e)) (Heap.get?_push_of_some _ e)), rfl, q⟩
end
end L2
set_option Elab.async false
set_option linter.all false
set_option maxRecDepth 100000
set_option maxHeartbeats 4000000
namespace L2
open PySem PySem.Spec PyProof.Rows
def ownOf : HO → Option Addr
  | .ins _ dx _ => some dx
  | .frz _ u => ownOf u
  | _ => none
/-- G is H' without some of what was laid since H -/
structure Fg (H H' G : Hp) : Prop where
  sub : ∀ b o, G b = some o → H' b = some o
  dom : ∀ b o, H b = some o → ∃ o', G b = some o'
  own : ∀ a o dx, G a = some o → ownOf o = some dx → (∃ o', H a = some o' ∧ ownOf o' = some dx) ∨ ∃ o', G dx = some o'
theorem Fg.refl {H H' : Hp} (d : ∀ b o, H b = some o → ∃ o', H' b = some o') (c : ∀ a o dx, H' a = some o → ownOf o = some dx → ∃ o', H' dx = some o') : Fg H H' H' := ⟨fun _ _ e => e, d, fun a o dx e1 e2 => .inr (c a o dx e1 e2)⟩
theorem Fg.all {H H' : Hp} (s : Same H H') : Fg H H' H := ⟨s, fun _ o e => ⟨o, e⟩, fun _ o _ e1 e2 => .inl ⟨o, e1, e2⟩⟩
theorem Fg.upd {H H' G : Hp} {a : Addr} {o : HO} (f : Fg H H' G) (e : H' a = some o) (n : ownOf o = none) : Fg H H' (upd G a o) := by
  refine ⟨fun b u q => ?_, fun b u q => ?_, fun b u dx q r => ?_⟩
  · by_cases hb : b = a
    · subst hb; rw [upd_same] at q; cases q; exact e
    · rw [upd_ne hb] at q; exact f.sub b u q
  · by_cases hb : b = a
    · subst hb; exact ⟨o, upd_same⟩
    · rw [upd_ne hb]; exact f.dom b u q
  · by_cases hb : b = a
    · subst hb; rw [upd_same] at q; cases q; rw [n] at r; cases r
    · rw [upd_ne hb] at q
      rcases f.own b u dx q r with z | ⟨o', z⟩
      · exact .inl z
      · by_cases hd : dx = a
        · subst hd; exact .inr ⟨o, upd_same⟩
        · exact .inr ⟨o', by rw [upd_ne hd]; exact z⟩
theorem ObjOk.fg {P : Program} {w : World} {H' G : Hp} {h : Heap} {a : Addr} : ∀ {o : HO}, ObjOk P w H' h a o → (∀ dx, ownOf o = some dx → H' dx = some (.own a) → G dx = some (.own a)) → ObjOk P w G h a o
  | .lst _, x, _ => x
  | .tup _, x, _ => x
  | .dK _, x, _ => x
  | .dT _, x, _ => x
  | .set _ _, x, _ => x
  | .ins C dx fs, x, k => ⟨k dx rfl x.1, x.2⟩
  | .own _, x, _ => x
  | .xd _, x, _ => x
  | .rng _ _, x, _ => x
  | .frz _ u, x, k => ⟨x.1, ObjOk.fg x.2 k⟩
  | .tbl _, x, _ => x
  | .met _ _, x, _ => x
  | .ext _, x, _ => x
theorem ObjOk.owns {P : Program} {w : World} {H : Hp} {h : Heap} {a dx : Addr} : ∀ {o : HO}, ObjOk P w H h a o → ownOf o = some dx → H dx = some (.own a)
  | .ins C d fs, x, e => by cases e; exact x.1
  | .frz _ u, x, e => ObjOk.owns x.2 e
  | .lst _, _, e => nomatch e
  | .tup _, _, e => nomatch e
  | .dK _, _, e => nomatch e
  | .dT _, _, e => nomatch e
  | .set _ _, _, e => nomatch e
  | .own _, _, e => nomatch e
  | .xd _, _, e => nomatch e
  | .rng _ _, _, e => nomatch e
  | .tbl _, _, e => nomatch e
  | .met _ _, _, e => nomatch e
  | .ext _, _, e => nomatch e
theorem HOk.fg {P : Program} {w : World} {H H' G : Hp} {h h' : Heap} (k : HOk P w H h) (k' : HOk P w H' h') (f : Fg H H' G) : HOk P w G h' := fun a o e => by
  refine (k' a o (f.sub a o e)).fg fun dx hd ho => ?_
  have : ∃ o', G dx = some o' := by
    rcases f.own a o dx e hd with ⟨o', e', hd'⟩ | z
    · exact f.dom dx _ ((k a o' e').owns hd')
    · exact z
  obtain ⟨o', z⟩ := this
  have := f.sub dx o' z
  rw [ho] at this
  cases this
  exact z
theorem Un.fg {fs ex : List Addr} {H0 H H' G : Hp} {h0 h h' : Heap} (u : Un fs ex H0 H h0 h) (u' : Un fs ex H0 H' h0 h') (f : Fg H H' G) : Un fs ex H0 G h0 h' := by
  have back : ∀ b o o', H b = some o → H' b = some o' → G b = some o' := fun b o o' e e' => by
    obtain ⟨o2, z⟩ := f.dom b o e
    have := f.sub b o2 z
    rw [e'] at this
    cases this
    exact z
  refine ⟨u'.keep, u'.slot, fun b o e n hx => ?_, u'.there, fun b xs e => back b _ _ (u.tups b xs e) (u'.tups b xs e), fun b o x e => back b _ _ (u.frzs b o x e) (u'.frzs b o x e), fun b ps e => ?_⟩
  · have q := u'.free b o e n hx
    cases z : G b with
    | none => rfl
    | some o' => have := f.sub b o' z; rw [q] at this; cases this
  · obtain ⟨m1, e1⟩ := u.tbls b ps e
    obtain ⟨m2, e2⟩ := u'.tbls b ps e
    exact ⟨m2, back b _ _ e1 e2⟩
theorem Fg.none {H H' G : Hp} (f : Fg H H' G) {b : Addr} (e : H' b = none) : G b = none := by
  cases z : G b with
  | none => rfl
  | some o' => have := f.sub b o' z; rw [e] at this; cases this
section
variable {X : Cx} {pins : List (Addr × Obj)} {σ σ' : St} {H H' G : Hp} {s s' : Shared}
theorem Inv.fg (I : Inv X pins σ H s) (I' : Inv X pins σ' H' s') (f : Fg H H' G) : Inv X pins σ' G s' :=
  ⟨I'.ok, I'.os, I'.bare, I.base.fg I'.base f, I'.loc, I'.cell, f.none I'.free, fun x c e => f.none (I'.freeC x c e), fun p hp => let ⟨a, b, c⟩ := I'.pin p hp; ⟨a, f.none b, c⟩, I.hok.fg I'.hok f, I'.len⟩
end
/-- a def whose promise forgets -/
theorem FnOk.forget {P : Program} {w : World} {K : PySem.W.Frag} {mg : Str → Option Value} {base : Heap} {CX : CXT} {k : Nat} {f : Addr} {fd : FuncData} {ps : List Str} {sp sp' : Sp} (F : FnOk P w K mg base CX k f fd ps sp)
    (h : ∀ vs H Q E, sp' vs H Q E → sp vs H (fun v H' => ∃ G, Fg H H' G ∧ Q v G) E) : FnOk P w K mg base CX k f fd ps sp' :=
  ⟨fun vs H Q E q => F.len vs H _ E (h _ _ _ _ q), fun A outer s H args us vs Q E hr he hb hv hs => codeAny_mono (F.run A outer s H args us vs _ E hr he hb hv (h _ _ _ _ hs)) fun r s' q => by
    cases r with
    | error e => exact q
    | ok fl =>
      cases fl with
      | ret u =>
        obtain ⟨v, H', os, bare, un, hok, r, G, f, q⟩ := q
        exact ⟨v, G, os, bare, (Un.refl : Un _ _ H H s.heap s.heap).fg un f, he.hok.fg hok f, r, q⟩
      | next => exact q
      | brk => exact q
      | cont => exact q⟩
end L2
set_option Elab.async false
set_option linter.all false
set_option maxRecDepth 100000
set_option maxHeartbeats 4000000
namespace L2
open PySem PySem.Spec PyProof.Rows
theorem bt_len : bootBuiltins "len" = some (.builtin "len") := PySem.boot_len
theorem bt_all : bootBuiltins "all" = some (.builtin "all") := boot_all
theorem bt_isinstance : bootBuiltins "isinstance" = some (.builtin "isinstance") := boot_isinstance
theorem bt_int : bootBuiltins "int" = some (.type "int") := PyProof.Rows.boot_int
theorem bt_bool : bootBuiltins "bool" = some (.type "bool") := PyProof.Rows.boot_bool
theorem bt_str : bootBuiltins "str" = some (.type "str") := PyProof.Rows.boot_str
theorem bt_tuple : bootBuiltins "tuple" = some (.type "tuple") := PyProof.Rows.boot_tuple
theorem bt_dict : bootBuiltins "dict" = some (.type "dict") := PyProof.Rows.boot_dict
inductive Kd where
  | non | bl | int | str | lst | tup | dct
  deriving DecidableEq
def Kd.name : Kd → String
  | .non => "NoneType" | .bl => "bool" | .int => "int" | .str => "str" | .lst => "list" | .tup => "tuple" | .dct => "dict"
inductive KdOf (H : Hp) : V → Kd → Prop where
  | non : KdOf H .non .non
  | bl (b : Bool) : KdOf H (.bl b) .bl
  | int (i : Int) : KdOf H (.int i) .int
  | str (x : Str) : KdOf H (.str x) .str
  | lst {a : Addr} {xs : List V} (e : H a = some (.lst xs)) : KdOf H (.ref a) .lst
  | tup {a : Addr} {xs : List V} (e : H a = some (.tup xs)) : KdOf H (.ref a) .tup
  | dct {a : Addr} {kvs : List (Key × V)} (e : H a = some (.dK kvs)) : KdOf H (.ref a) .dct
theorem KdOf.ty {K : PySem.W.Frag} {H : Hp} {x : V} {k : Kd} (h : KdOf H x k) : TyOf K H x (.type k.name) := by
  cases h with
  | non => exact .non
  | bl b => exact .bl b
  | int i => exact .int i
  | str x => exact .str x
  | lst e => exact .lst e
  | tup e => exact .tup e
  | dct e => exact .dK e
theorem KdOf.same {H H' : Hp} (s : Same H H') {x : V} {k : Kd} (h : KdOf H x k) : KdOf H' x k := by
  cases h with
  | non => exact .non
  | bl b => exact .bl b
  | int i => exact .int i
  | str x => exact .str x
  | lst e => exact .lst (s _ _ e)
  | tup e => exact .tup (s _ _ e)
  | dct e => exact .dct (s _ _ e)
def isaT (T : String) : Option (Kd → Bool) :=
  if T = "int" then some fun k => match k with | .int => true | .bl => true | _ => false
  else if T = "bool" then some fun k => match k with | .bl => true | _ => false
  else if T = "str" then some fun k => match k with | .str => true | _ => false
  else if T = "tuple" then some fun k => match k with | .tup => true | _ => false
  else if T = "list" then some fun k => match k with | .lst => true | _ => false
  else if T = "dict" then some fun k => match k with | .dct => true | _ => false
  else none
theorem isaT_kit {K : PySem.W.Frag} {T : String} {g : Kd → Bool} (h : isaT T = some g) (k : Kd) : PySem.W.kitOne K (.type k.name) (.type T) = some (g k) := by
  unfold isaT at h
  split at h
  · rename_i e; subst e; cases h; cases k <;> rfl
  · split at h
    · rename_i e; subst e; cases h; cases k <;> rfl
    · split at h
      · rename_i e; subst e; cases h; cases k <;> rfl
      · split at h
        · rename_i e; subst e; cases h; cases k <;> rfl
        · split at h
          · rename_i e; subst e; cases h; cases k <;> rfl
          · split at h
            · rename_i e; subst e; cases h; cases k <;> rfl
            · cases h
section
variable {X : Cx}
theorem call_isi : CallR X (.builtin "isinstance") (fun xs H Q => ∃ x T k g, xs = [x, .ty T] ∧ isaT T = some g ∧ KdOf H x k ∧ Q (.bl (g k)) H) := by
  intro pins s σ H xs us Q I r h
  obtain ⟨x, T, k, g, rfl, hg, hk, q⟩ := h
  obtain ⟨v, w', rfl, rv, rw'⟩ := vals2 r
  cases rw'
  exact isinst_ok I rv hk.ty (isaT_kit hg k) fun tk => ⟨.bl (g k), H, I.tok tk, rfl, q⟩
end
mutual
def Dt (K : PySem.W.Frag) (H : Hp) : PyData → V → Prop
  | .none, v => v = .non
  | .bool b, v => v = .bl b
  | .int i, v => v = .int i
  | .str z, v => v = .str z
  | .list ds, v => ∃ a xs, v = .ref a ∧ SqL K H a xs ∧ DtAll K H ds xs
  | .tuple ds, v => ∃ a xs, v = .ref a ∧ SqT K H a xs ∧ DtAll K H ds xs
  | .dict _, _ => False
def DtAll (K : PySem.W.Frag) (H : Hp) : List PyData → List V → Prop
  | [], xs => xs = []
  | d :: ds, xs => ∃ y ys, xs = y :: ys ∧ Dt K H d y ∧ DtAll K H ds ys
end
section
variable {X : Cx} {pins : List (Addr × Obj)} {σ : St} {H : Hp} {s : Shared}
mutual
theorem Inv.reads (I : Inv X pins σ H s) : ∀ (d : PyData) {x : V} {u : Value}, Dt X.K H d x → RelV x u → ∃ as, Reads s.heap u d as
  | .none, x, u, h, r => by
    have h : x = .non := by simpa only [Dt] using h
    subst h; cases r; exact ⟨_, .none⟩
  | .bool b, x, u, h, r => by
    have h : x = .bl b := by simpa only [Dt] using h
    subst h; cases r; exact ⟨_, .bool b⟩
  | .int i, x, u, h, r => by
    have h : x = .int i := by simpa only [Dt] using h
    subst h; obtain ⟨t, rfl⟩ := r; exact ⟨_, .int i t⟩
  | .str z, x, u, h, r => by
    have h : x = .str z := by simpa only [Dt] using h
    subst h; obtain ⟨t, rfl⟩ := r; exact ⟨_, .str z t⟩
  | .list ds, x, u, h, r => by
    have h : ∃ a xs, x = .ref a ∧ SqL X.K H a xs ∧ DtAll X.K H ds xs := by simpa only [Dt] using h
    obtain ⟨a, xs, rfl, hq, hd⟩ := h
    cases r
    obtain ⟨its, rv, p, _⟩ := I.list hq
    obtain ⟨as, ra⟩ := Inv.readsAll I ds hd rv
    obtain ⟨o, e, c, n, d⟩ := p.isList
    exact ⟨_, .list e c d (by simpa using ra)⟩
  | .tuple ds, x, u, h, r => by
    have h : ∃ a xs, x = .ref a ∧ SqT X.K H a xs ∧ DtAll X.K H ds xs := by simpa only [Dt] using h
    obtain ⟨a, xs, rfl, hq, hd⟩ := h
    cases r
    obtain ⟨its, rv, p, _⟩ := I.tuple hq
    obtain ⟨as, ra⟩ := Inv.readsAll I ds hd rv
    obtain ⟨o, e, c, n, d⟩ := p
    exact ⟨_, .tuple e c d (by simpa using ra)⟩
  | .dict _, x, u, h, r => by
    have h : False := by simpa only [Dt] using h
    exact h.elim
theorem Inv.readsAll (I : Inv X pins σ H s) : ∀ (ds : List PyData) {xs : List V} {us : List Value}, DtAll X.K H ds xs → Vals xs us → ∃ as, ReadsAll s.heap us ds as
  | [], xs, us, h, r => by
    have h : xs = [] := by simpa only [DtAll] using h
    subst h; cases r; exact ⟨_, .nil⟩
  | d :: ds, xs, us, h, r => by
    have h : ∃ y ys, xs = y :: ys ∧ Dt X.K H d y ∧ DtAll X.K H ds ys := by simpa only [DtAll] using h
    obtain ⟨y, ys, rfl, h1, h2⟩ := h
    cases r with
    | cons r1 r2 =>
      obtain ⟨as, ra⟩ := Inv.reads I d h1 r1
      obtain ⟨bs, rb⟩ := Inv.readsAll I ds h2 r2
      exact ⟨_, .cons ra rb⟩
end
end
def rEqD (K : PySem.W.Frag) (neg : Bool) : R2 := fun x y H Q => ∃ d e, Dt K H d x ∧ Dt K H e y ∧ d.canLay0 = true ∧ e.canLay0 = true ∧ (d.depth ≤ 64 ∨ e.depth ≤ 64) ∧ Q (.bl (if neg then !PyData.eqv d e else PyData.eqv d e)) H
section
variable {X : Cx}
theorem op_eqD (hu : X.A.units + 64 < cLine) : OpR X (compareOp .Eq) (rEqD X.K false) := by
  intro pins s σ H x y v u Q I rx ry h
  obtain ⟨d, e, hd, he, cd, ce, dp, q⟩ := h
  obtain ⟨as, ra⟩ := I.reads d hd rx
  obtain ⟨bs, rb⟩ := I.reads e he ry
  exact SeqAt.compareEq_reads ra rb cd ce (by rcases dp with dp | dp <;> omega) (fin_bl I q rfl)
theorem op_neD (hu : X.A.units + 64 < cLine) : OpR X (compareOp .NotEq) (rEqD X.K true) := by
  intro pins s σ H x y v u Q I rx ry h
  obtain ⟨d, e, hd, he, cd, ce, dp, q⟩ := h
  obtain ⟨as, ra⟩ := I.reads d hd rx
  obtain ⟨bs, rb⟩ := I.reads e he ry
  exact SeqAt.compareNe_reads ra rb cd ce (by rcases dp with dp | dp <;> omega) (fin_bl I q rfl)
end
theorem sLe_one (a b : Nat) : sLe ⟨#[a]⟩ ⟨#[b]⟩ = decide (a ≤ b) := by
  unfold sLe
  have e : ([b] < [a]) ↔ b < a := by
    rw [List.cons_lt_cons_iff]
    constructor
    · rintro (h | ⟨_, h⟩)
      · exact h
      · exact absurd h (List.not_lt_nil _)
    · exact .inl
  rw [Bool.eq_iff_iff]
  show (!decide ([b] < [a])) = true ↔ _
  rw [Bool.not_eq_true', decide_eq_false_iff_not, e, decide_eq_true_iff]
  omega
end L2
set_option Elab.async false
set_option linter.all false
set_option maxRecDepth 100000
set_option maxHeartbeats 4000000
namespace L2
open PySem PySem.Spec PyProof.Rows
def chkC (sc : Scope) (N0 N : List Str) (src : List (Option Nat)) (scope : Scope) : Bool :=
  decide (scope.kind = .function) && (scope.names.all (fun y => decide (y.2 ≠ .cell) && (decide (y.2 ≠ .local) || decide (scope.names.lookup y.1 = some .local)) && (decide (y.2 ≠ .free) || (decide (sc.names.lookup y.1 = some .cell) || decide (sc.names.lookup y.1 = some .free)))) &&
    (decide (src.length = N.length) && (List.range src.length).all fun i => match src[i]?, N[i]? with
      | some (some j), some x => decide (N0[j]? = some x) && (decide (scope.names.lookup x = some .free) && (decide (sc.names.lookup x = some .cell) || decide (sc.names.lookup x = some .free)))
      | _, _ => true))
theorem csc {X : Cx} {N : List Str} {src : List (Option Nat)} {scope : Scope} (sc : Scope) (N0 : List Str) (hs : X.env.scope = sc) (hN : X.N = N0) (h : chkC sc N0 N src scope = true) : CompScope X N src scope := by
  unfold chkC at h
  simp only [Bool.and_eq_true, decide_eq_true_eq, List.all_eq_true, Bool.or_eq_true] at h
  obtain ⟨h1, h2, h3, h4⟩ := h
  refine ⟨h1, fun y hy => (h2 y hy).1.1, fun y hy e => ?_, fun y hy e => ?_, h3, fun i j x e1 e2 => ?_⟩
  · rcases (h2 y hy).1.2 with z | z
    · exact absurd e z
    · exact z
  · rcases (h2 y hy).2 with z | z
    · exact absurd e z
    · show X.env.scope.names.lookup y.1 = some .cell ∨ X.env.scope.names.lookup y.1 = some .free
      rw [hs]; exact z
  · have hi : i < src.length := (List.getElem?_eq_some_iff.mp e1).1
    have q := h4 i (List.mem_range.mpr hi)
    rw [e1, e2] at q
    simp only [Bool.and_eq_true, decide_eq_true_eq, Bool.or_eq_true] at q
    refine ⟨by rw [hN]; exact q.1, q.2.1, ?_⟩
    unfold Vis
    rw [hs]
    exact .inr q.2.2
/-- over a text, no test: the values are f of the signs; the heap is as it was -/
theorem comp_str {z : Str} {src : List (Option Nat)} {g : TG} {te : TE} {σ : St} {H : Hp} {Q : VK} (f : Nat → V) (hz : z.cps.size ≤ sizeLine)
    (hs : ∀ c, c ∈ z.cps.toList → ∀ R : VK, R (f c) H → g (.str ⟨#[c]⟩) (pick σ src) H fun σ3 H3 => te σ3 H3 R) (q : ∀ D, H D = none → Q (.ref D) (upd H D (.lst (z.cps.toList.map f)))) :
    ∃ W : Nat → Nat → List V → Hp → Prop, (∃ m, W 0 m [] H) ∧ ∀ i m out H', W i m out H' →
      ((Its z).stop i H' ∧ ∀ D, H' D = none → Q (.ref D) (upd H' D (.lst out))) ∨
      ((Its z).go i H' ∧ out.length < sizeLine ∧ ∀ x H2, (Its z).yld i H' x H2 → g x (pick σ src) H2 fun σ3 H3 => tTrue σ3 H3 fun b H4 =>
        if b = true then te σ3 H4 fun v H5 => ∃ m', m' < m ∧ W (i + 1) m' (out ++ [v]) H5 else ∃ m', m' < m ∧ W (i + 1) m' out H4) := by
  refine ⟨fun i m out H' => H' = H ∧ i ≤ z.cps.size ∧ m = z.cps.size - i ∧ out = (z.cps.toList.take i).map f, ⟨_, rfl, Nat.zero_le _, rfl, rfl⟩, ?_⟩
  rintro i m out H' ⟨rfl, hi, rfl, rfl⟩
  by_cases hlt : i < z.cps.size
  · refine .inr ⟨hlt, by rw [List.length_map, List.length_take]; omega, fun x H2 y => ?_⟩
    obtain ⟨e, c, hc, y⟩ := y
    subst e y
    have hm : c ∈ z.cps.toList := by
      rw [← Array.getElem?_toList] at hc
      exact List.mem_of_getElem? hc
    refine hs c hm (fun v H5 => ∃ m', m' < z.cps.size - i ∧ H5 = H2 ∧ i + 1 ≤ z.cps.size ∧ m' = z.cps.size - (i + 1) ∧ (z.cps.toList.take i).map f ++ [v] = (z.cps.toList.take (i + 1)).map f) ?_
    refine ⟨_, ?_, rfl, hlt, rfl, ?_⟩
    · omega
    · rw [← Array.getElem?_toList] at hc
      rw [List.take_add_one, hc, List.map_append]
      rfl
  · have e : i = z.cps.size := by omega
    refine .inl ⟨by show z.cps.size ≤ i; omega, fun D hD => ?_⟩
    have e2 : z.cps.toList.take i = z.cps.toList := List.take_of_length_le (by simp; omega)
    rw [e2]
    exact q D hD
end L2
set_option Elab.async false
set_option linter.all false
set_option maxRecDepth 100000
set_option maxHeartbeats 4000000
namespace L2
open PySem PySem.Spec PyProof.Rows
def tCut (t : TS) : TS := fun D σ H => ∃ P : St → Hp → Prop, t { D with nx := P } σ H ∧ ∀ σ' H', P σ' H' → D.nx σ' H'
section
variable {X : Cx}
theorem ps_cut {st : Stmt} {t : TS} (h : PS X st t) : PS X st (tCut t) := fun pins s σ H D I ⟨P, hw, hP⟩ =>
  thn (h pins s σ H _ I hw) fun f s' q => by
    cases f with
    | next => obtain ⟨σ', H', I', q⟩ := q; exact ⟨σ', H', I', hP _ _ q⟩
    | brk => exact q
    | cont => exact q
    | ret u => exact q
end
/-- a while, by a word and a measure in one -/
theorem rd_while {c : TT} {tb : TS} {D : Ends} {σ : St} {H : Hp} (W : Nat → St → Hp → Prop) (m : Nat) (h0 : W m σ H)
    (hs : ∀ m σ H, W m σ H → c σ H fun b H1 => if b = true then tb { D with nx := fun σ' H' => ∃ m', m' < m ∧ W m' σ' H', ct := fun σ' H' => ∃ m', m' < m ∧ W m' σ' H', bk := D.nx } σ H1 else D.nx σ H1)
    (mono : ∀ σ H Q Q', (∀ b H1, Q b H1 → Q' b H1) → c σ H Q → c σ H Q') : tWhile c tb D σ H := by
  refine ⟨W, ⟨m, h0⟩, fun m σ H w => ?_⟩
  refine mono σ H _ _ (fun b H1 q => ?_) (hs m σ H w)
  cases b with
  | true => exact ⟨_, fun σ' H' q => q, q⟩
  | false => exact q
theorem cutV_take (xs : List V) (m : Nat) : cutV xs none (some (m : Int)) = xs.take m := by
  unfold cutV
  rw [HT.sIx_none, HT.sIx_nat, List.drop_zero, Nat.sub_zero]
  by_cases h : m ≤ xs.length
  · rw [Nat.min_eq_left h]
  · rw [Nat.min_eq_right (by omega), List.take_of_length_le (Nat.le_refl _), List.take_of_length_le (by omega)]
theorem cutV_drop (xs : List V) (m : Nat) : cutV xs (some (m : Int)) none = xs.drop m := by
  unfold cutV
  rw [HT.sIx_none, HT.sIx_nat]
  by_cases h : m ≤ xs.length
  · rw [Nat.min_eq_left h]
    exact List.take_of_length_le (by rw [List.length_drop]; omega)
  · rw [Nat.min_eq_right (by omega)]
    rw [List.drop_of_length_le (Nat.le_refl _), List.drop_of_length_le (by omega), List.take_nil]
theorem atI_mod {α : Type} {l : List α} {i : Int} (h0 : 0 ≤ i) (h1 : i < l.length) : ∃ v, atI l i = some v ∧ l[i.toNat]? = some v := by
  obtain ⟨j, rfl⟩ := Int.eq_ofNat_of_zero_le h0
  have hj : j < l.length := by omega
  exact ⟨l[j], atI_nat (by simp [hj]), by simp [hj]⟩
theorem same_new {H : Hp} {D : Addr} {o : HO} (h : H D = none) : Same H (upd H D o) := fun b u e => by
  rw [upd_ne (ne_of_none e h)]; exact e
theorem ifb {c : Bool} {A B : Prop} (h : c = true → A) (h' : c = false → B) : if c = true then A else B := by
  cases c with
  | true => exact h rfl
  | false => exact h' rfl
theorem nt {b : Bool} (h : (!b) = true) : b = false := by cases b <;> simp_all
theorem nf {b : Bool} (h : (!b) = false) : b = true := by cases b <;> simp_all
def isaInt : Kd → Bool | .int => true | .bl => true | _ => false
def isaBool : Kd → Bool | .bl => true | _ => false
def isaStr : Kd → Bool | .str => true | _ => false
def isaTuple : Kd → Bool | .tup => true | _ => false
theorem isa_int : isaT "int" = some isaInt := if_pos rfl
theorem isa_bool : isaT "bool" = some isaBool := (if_neg (by decide)).trans (if_pos rfl)
theorem isa_str : isaT "str" = some isaStr := (if_neg (by decide)).trans ((if_neg (by decide)).trans (if_pos rfl))
theorem isa_tuple : isaT "tuple" = some isaTuple := (if_neg (by decide)).trans ((if_neg (by decide)).trans ((if_neg (by decide)).trans (if_pos rfl)))
theorem all_map_bl (l : List Nat) (f : Nat → Bool) : l.map (fun c => V.bl (f c)) = (l.map f).map V.bl := by
  rw [List.map_map]; rfl
theorem all_map_id (l : List Nat) (f : Nat → Bool) : (l.map f).all id = l.all f := by
  rw [List.all_map]; rfl
theorem rd_comp_str {z : Str} {src : List (Option Nat)} {g : TG} {te t0 : TE} {σ : St} {H : Hp} {Q : VK} (f : Nat → V) (hz : z.cps.size ≤ sizeLine) (h0 : ∀ R : VK, R (.str z) H → t0 σ H R)
    (hs : ∀ c, c ∈ z.cps.toList → ∀ R : VK, R (f c) H → g (.str ⟨#[c]⟩) (pick σ src) H fun σ3 H3 => te σ3 H3 R) (q : ∀ D, H D = none → Q (.ref D) (upd H D (.lst (z.cps.toList.map f)))) :
    tComp (iStr t0) src g tTrue te σ H Q := h0 _ ⟨z, rfl, comp_str (Q := Q) f hz hs q⟩
/-- all([f(sign) for sign in z]) -/
theorem all_str {K : PySem.W.Frag} {z : Str} {src : List (Option Nat)} {g : TG} {te t0 : TE} {σ : St} {H : Hp} {Q : VK} (f : Nat → Bool) (hz : z.cps.size ≤ sizeLine) (h0 : ∀ R : VK, R (.str z) H → t0 σ H R)
    (hs : ∀ c, c ∈ z.cps.toList → ∀ R : VK, R (.bl (f c)) H → g (.str ⟨#[c]⟩) (pick σ src) H fun σ3 H3 => te σ3 H3 R) (q : ∀ H', Same H H' → Q (.bl (z.cps.toList.all f)) H') :
    tCB (fun xs H Q => ∃ (a : Addr) (bs : List Bool), xs = [.ref a] ∧ SqL K H a (bs.map V.bl) ∧ Q (.bl (bs.all id)) H) (tCons (tComp (iStr t0) src g tTrue te) tNil) σ H Q := by
  dsimp only [tCB, tCons, tNil]
  refine rd_comp_str (fun c => .bl (f c)) hz h0 hs fun D hD => ?_
  refine ⟨D, z.cps.toList.map f, rfl, SqL.of ?_, ?_⟩
  · rw [upd_same, all_map_bl]
  · rw [all_map_id]
    exact q _ (same_new hD)
theorem len_pos {z : Str} (h : 1 ≤ z.cps.size) : ∃ c r, z.cps.toList = c :: r := by
  cases e : z.cps.toList with
  | nil =>
    have : z.cps.toList.length = 0 := by rw [e]; rfl
    rw [Array.length_toList] at this
    omega
  | cons c r => exact ⟨c, r, rfl⟩
theorem at0 {α : Type} {l : List α} {c : α} {r : List α} (e : l = c :: r) : atI l 0 = some c := by
  have : l[0]? = some c := by rw [e]; rfl
  exact atI_nat (j := 0) this
def isPlain : Expr → Bool
  | .Starred _ _ => false
  | _ => true
theorem star_plain {e : Expr} {es : List Expr} {env : Env} (h : isPlain e = true) : starEach (e :: es) env = (false, eval e env) :: starEach es env := by
  cases e <;> first
    | rfl
    | exact absurd h Bool.false_ne_true
theorem pa2 {X : Cx} {e : Expr} {es : List Expr} {te : TE} {t : TA} (ha : PE X e te) (hr : PA X es t) (hp : isPlain e = true := by rfl) : PA X (e :: es) (tCons te t) := pa_cons ha hr (star_plain hp)
end L2
set_option Elab.async false
set_option linter.all false
set_option maxRecDepth 100000
set_option maxHeartbeats 4000000
namespace HT
open PySem PyProof.Rows
open PySem.SeqAt
open PySem.AutoSeq1 (wpAny_loadPart')
open PySem.MeetsSeq PySem.MeetsSeq2 PySem.MeetsSeq3
end HT
set_option Elab.async false
set_option linter.all false
set_option maxRecDepth 100000
set_option maxHeartbeats 4000000
namespace L2
open PySem PySem.Spec PyProof.Rows
section
variable {X : Cx}
end
section
variable {X : Cx} {K : PySem.W.Frag}
theorem ix_tupK (h : X.K = K) : IxR X (rIxT K) := h ▸ ix_tup
theorem pg_tupK {pos : Pos} {es : List Expr} {k : Nat} {t : TGs} {n : Nat} (hK : X.K = K) (hc : X.calm = true) (h : PGs X es t)
    (hn : (assignEach es X.env).length = n) (hst : (assignEach es X.env).findIdx? (·.1) = none) : PG X (.Tuple es k pos) (gTup K n t) := hK ▸ pg_tup hc h hn hst
theorem pe_bmK {o e : Expr} {es : List Expr} {to : TE} {t : TA} {name : Str} {apos cpos : Pos} {T id : String} {r : V → List V → Hp → VK → Prop} (hK : X.K = K) (pa : PlainAttrs T) (slot : Slot T name id) (hty : typeOf (.builtin id) = pure (.type "method_descriptor")) (hm : MtR X id r) (ho : PE X o to) (ha : PA X (e :: es) t)
    (hbase : attributeBase o name X.env (eval o X.env) = eval o X.env)
    (hfew : ((backTo cpos (starEach (e :: es) X.env)).all (fun x => !x.1) && (backToKw cpos (keywordEach [] X.env)).all (fun x => x.1.isSome)
      && decide ((e :: es).length + ([] : List Keyword).length + (if ([] : List Keyword).isEmpty then 0 else 1) < 30)) = true)
    (hline : (apos.endLine == cpos.line) = true) (hs : starEach (e :: es) X.env = (false, eval e X.env) :: starEach es X.env) (hplain : (backTo cpos (starEach es X.env)).any (·.1) = false) :
    PE X (.Call (.Attribute o name apos) (e :: es) [] cpos) (tBM K T r to t) := hK ▸ pe_bm pa slot hty hm ho ha hbase hfew hline hs hplain
end
end L2
set_option Elab.async false
set_option linter.all false
set_option maxRecDepth 100000
set_option maxHeartbeats 4000000
namespace L2
open PySem PySem.Spec PyProof.Rows
theorem ObjOk.get {P : Program} {w : World} {H : Hp} {h : Heap} {a : Addr} {o : HO} (x : ObjOk P w H h a o) : ∃ u, h.get? a = some u := by
  cases o with
  | lst xs => obtain ⟨_, _, _, _, e⟩ := x; exact ⟨_, e⟩
  | tup xs => obtain ⟨_, _, _, ob, e, _⟩ := x; exact ⟨_, e⟩
  | dK kvs => obtain ⟨_, _, _, _, o, _, _, e, _⟩ := x; exact ⟨_, e⟩
  | dT kvs => exact False.elim x
  | set S n => obtain ⟨o, _, _, _, e, _⟩ := x; exact ⟨_, e⟩
  | ins C dx fs => obtain ⟨_, _, _, e, _⟩ := x; exact ⟨_, e⟩
  | own y => obtain ⟨_, e⟩ := x; exact ⟨_, e⟩
  | xd fs => obtain ⟨_, ⟨_, _, _, e, _⟩, _⟩ := x; exact ⟨_, e⟩
  | rng lo hi => obtain ⟨_, _, _, e⟩ := x; exact ⟨_, e⟩
  | frz ob u => obtain ⟨e, _⟩ := x; exact ⟨_, e⟩
  | tbl ps => exact ⟨_, show h.get? a = some _ from x⟩
  | met f y => exact ⟨_, show h.get? a = some _ from x⟩
  | ext φ => obtain ⟨_, e, _⟩ := x; exact e
/-- the exception at a, of the class cls, flies over B: B holds all objects but the frames of outer and what the exception brought -/
structure Fly (P : Program) (w : World) (outer : List Env) (H H' : Hp) (h0 : Heap) (a : Addr) (cls a0 : Value) (B h : Heap) : Prop where
  fl : Heap.FlyingW B outer a cls a0 h
  hok : HOk P w H' B
  keep : ∀ b o, h0.get? b = some o → H b = none → b ∉ frs outer → B.get? b = some o
  there : ∀ b o, h0.get? b = some o → b ∉ frs outer → ∃ o', B.get? b = some o'
  slot : ∀ b o, h0.get? b = some o → b ∈ frs outer → ∃ sl, h.get? b = some { o with slots := sl }
  free : ∀ b o, h0.get? b = some o → H b = none → H' b = none
  tups : ∀ b xs, H b = some (.tup xs) → H' b = some (.tup xs)
  frzs : ∀ b o u, H b = some (.frz o u) → H' b = some (.frz o u)
  tbls : ∀ b ps, H b = some (.tbl ps) → ∃ more, H' b = some (.tbl (ps ++ more))
section
variable {P : Program} {w : World} {outer : List Env} {H H' : Hp} {h0 : Heap} {a : Addr} {cls a0 : Value} {B h h2 : Heap}
theorem Fly.un (F : Fly P w outer H H' h0 a cls a0 B h) : Un (frs outer) [] H H' h0 h where
  keep := fun b o e n hf _ => F.fl.1 b o (F.keep b o e n hf)
  slot := fun b o e _ hf _ => F.slot b o e hf
  free := fun b o e n _ => F.free b o e n
  there := fun b o e _ => by
    by_cases hf : b ∈ frs outer
    · obtain ⟨sl, q⟩ := F.slot b o e hf; exact ⟨_, q⟩
    · obtain ⟨o', q⟩ := F.there b o e hf; exact ⟨o', F.fl.1 b o' q⟩
  tups := F.tups
  frzs := F.frzs
  tbls := F.tbls
theorem Fly.hokh (F : Fly P w outer H H' h0 a cls a0 B h) : HOk P w H' h := F.hok.kept F.fl.1
theorem Fly.hn (F : Fly P w outer H H' h0 a cls a0 B h) : H' a = none := by
  cases q : H' a with
  | none => rfl
  | some o =>
    obtain ⟨u, e⟩ := (F.hok a o q).get
    rw [F.fl.2.1] at e; cases e
theorem Fly.on (F : Fly P w outer H H' h0 a cls a0 B h) (f2 : Heap.FlyingW B outer a cls a0 h2) (u2 : h.UpToSlots h2) : Fly P w outer H H' h0 a cls a0 B h2 where
  fl := f2
  hok := F.hok
  keep := F.keep
  there := F.there
  slot := fun b o e hf => by
    obtain ⟨sl, q⟩ := F.slot b o e hf
    obtain ⟨_, o1, q1, hd⟩ := F.fl.2.2.1.mem hf
    obtain ⟨sl2, q2⟩ := u2 b o1 q1 hd
    rw [q] at q1; cases q1
    exact ⟨sl2, q2⟩
  free := F.free
  tups := F.tups
  frzs := F.frzs
  tbls := F.tbls
end
def CXR (P : Program) (w : World) : CXT := fun outer H s E e s' =>
  ∃ a cls a0 B H', e = .ref a ∧ s'.os = s.os ∧ AllBare s'.gens ∧ Fly P w outer H H' s.heap a cls a0 B s'.heap ∧ E cls none H'
/-- an exception that leaves the code leaves the def -/
structure Leaves (X : Cx) (E : XK) : Prop where
  ex : X.ex = []
  st : X.stack = X.env :: X.outer
  fr : X.env.frame = some X.env.locals
  xe : ∀ e s', wpAny (model X.prog X.w) X.A (leaving X.env e) (fun _ s'' => CXR X.prog X.w X.outer X.H₀ X.s₀ E e s'') (fun e' s'' => CXR X.prog X.w X.outer X.H₀ X.s₀ E e' s'') s' → X.xe e s'
theorem leaves_of {P : Program} {w : World} {K : PySem.W.Frag} {mg : Str → Option Value} {base : Heap} {N : List Str} {qual : Str} {scope : Scope} {f : Addr} {cd : Value} {A : Around} {outer : List Env} {s : Shared} {H : Hp} {E : XK} :
    Leaves (cxOf (CXR P w) P w K mg base N qual scope f cd A outer s H E) E := ⟨rfl, rfl, rfl, fun _ _ h => h⟩
section
variable {X : Cx} {pins : List (Addr × Obj)} {σ : St} {H H' : Hp} {s : Shared} {E E' : XK}
theorem Leaves.mem (L : Leaves X E) {b : Addr} : b ∈ frs X.stack ↔ b = X.env.locals ∨ b ∈ X.fs := by
  unfold Cx.fs frs
  rw [L.st, List.filterMap_cons, L.fr]
  exact List.mem_cons
theorem Leaves.nofr (L : Leaves X E) (I : Inv X pins σ H s) {b : Addr} {o : Obj} (e : X.s₀.heap.get? b = some o) (h : b ∉ X.fs) : b ∉ frs X.stack := fun z => by
  rcases L.mem.mp z with z | z
  · have := Heap.lt_size e
    have h2 := I.ok.above
    rw [z] at this
    exact absurd (Nat.lt_of_lt_of_le this h2) (Nat.lt_irrefl _)
  · exact h z
theorem hideOk (I : Inv X pins σ H s) : HOk X.prog X.w H (PySem.W.hideAll s.heap (frs X.stack)) := fun a o e =>
  (I.hok a o e).stay (fun b u hb q => PySem.W.hideAll_get _ q fun z => by
    have n := I.stkFree b z
    rcases hb with rfl | hb
    · rw [e] at n; cases n
    · rw [hb] at n; cases n) (fun _ q => q) fun _ _ q => q
/-- a new exception leaves the def -/
theorem made_leaves (L : Leaves X E) (I : Inv X pins σ H s) {h' : Heap} {a : Addr} {cls : Value} {args : List Value} (hx : Heap.MadeExcOf s.heap h' a cls args) (hE : E cls none H) : X.xe (.ref a) { s with heap := h' } := by
  refine L.xe _ _ ?_
  have hfr : X.A.frames = some (X.env :: X.outer) := by rw [I.ok.frames, L.st]
  have hin : ∀ env ∈ X.stack, ∀ b, env.frame = some b → b ∈ frs X.stack := fun env he b hb => List.mem_filterMap.mpr ⟨env, he, hb⟩
  have ff : s.heap.FunFrames (PySem.W.hideAll s.heap (frs X.stack)) (X.env :: X.outer) := by rw [← L.st]; exact PySem.W.funFrames_hide I.stack hin
  refine wpAny_leaves_madeW (base := PySem.W.hideAll s.heap (frs X.stack)) (h := s.heap) hfr L.fr (fun b o q => PySem.W.of_hideAll _ q) ff hx fun h2 t x1 x2 x3 x4 => ?_
  refine ⟨a, cls, .ref t, _, H, rfl, I.os, I.bare, ⟨x1, hideOk I, fun b o e n hf => ?_, fun b o e hf => ?_, fun b o e hf => ?_, fun b o e n => I.base.free b o e n (by rw [L.ex]; simp), I.base.tups, I.base.frzs, I.base.tbls⟩, hE⟩
  · exact PySem.W.hideAll_get _ (I.base.keep b o e n hf (by rw [L.ex]; simp)) (L.nofr I e hf)
  · obtain ⟨o', q⟩ := I.base.there b o e (by rw [L.ex]; simp)
    exact ⟨o', PySem.W.hideAll_get _ q (L.nofr I e hf)⟩
  · obtain ⟨sl, q⟩ := I.base.slot b o e (I.ok.frf b hf) hf (by rw [L.ex]; simp)
    obtain ⟨_, o2, q2, hd⟩ := I.funs.mem hf
    obtain ⟨sl2, q3⟩ := x4 b o2 (hx.keeps _ _ q2) hd
    rw [q] at q2; cases q2
    exact ⟨sl2, q3⟩
end
end L2
set_option Elab.async false
set_option linter.all false
set_option maxRecDepth 100000
set_option maxHeartbeats 4000000
namespace L2
open PySem PySem.Spec PyProof.Rows
abbrev vErr : List Value := [.type "ValueError", .type "Exception", .type "BaseException", .type "object"]
/-- C is an own class of exceptions below ValueError -/
structure XC (K : PySem.W.Frag) (C : Addr) : Prop where
  q : PySem.W.excIn K C vErr "ValueError.__new__" = true
def IsXC (h : Heap) (C : Addr) (bm : List Value) : Prop := ∃ N nm q bs hdct sn sub ab col dd k0 k1 k2 k3 k5 mN,
  h.get? C = some (excClassObj nm q C N bs bm hdct sn sub ab col dd k0 k1 k2 k3 k5 "ValueError.__new__") ∧ h.Ns N mN ∧ mN "__init__" = none ∧ OwnTail h vErr bm
theorem XC.at {K : PySem.W.Frag} {C : Addr} {h : Heap} (x : XC K C) (X : K.In h) : ∃ bm, IsXC h C bm := by
  have q := x.q
  unfold PySem.W.excIn at q
  split at q
  · rename_i dd cd sl ho
    split at q
    · rename_i C' bm' k0 k1 k2 k3 n k5 hm hs
      simp only [Bool.and_eq_true, beq_iff_eq, Bool.not_eq_true'] at q
      obtain ⟨⟨⟨⟨⟨q1, q2⟩, hdel⟩, ht⟩, hok⟩, hni⟩ := q
      subst q1; subst q2
      obtain ⟨nm, bs, mro, ns, qn, hd, sn, sub, ab, col, del⟩ := cd
      dsimp only at hm hdel hok hni
      subst hm; subst hdel
      obtain ⟨sl⟩ := sl
      dsimp only at hs
      subst hs
      exact ⟨bm', ns, nm, qn, bs, hd, sn, sub, ab, col, dd, k0, k1, k2, k3, k5, _, X _ _ ho, .of_isNs (PySem.W.isNs_of_in X hok), PySem.W.nsMap_none_of_in X hok hni, PySem.W.tail_of_in X ht⟩
    · cases q
  · cases q
theorem IsXC.base {h : Heap} {C : Addr} {bm : List Value} (x : IsXC h C bm) : bm.contains (.type "BaseException") = true := by
  obtain ⟨_, _, _, _, _, _, _, _, _, _, _, _, _, _, _, _, _, _, _, T⟩ := x
  exact T.hasType (by decide)
section
variable {X : Cx} {C D : Addr} {bmD : List Value} {x : Str} {np cpos pos : Pos} {e : Expr} {es : List Expr} {t : TA} {E : XK}
/-- raise C(e, ..) -/
def tRaise (C : Addr) (E : XK) (t : TA) : TS := fun _ σ H => t σ H fun vs H1 => vs.length ≤ sizeLine ∧ E (.ref C) none H1
theorem ps_raise (L : Leaves X E) (hc : X.calm = true) (c : XC X.K C) (hg : Gl X x) (hm : X.mg x = some (.ref C)) (ha : PA X (e :: es) t) (hdb : (x == ("__debug__" : Str)) = false := by decide)
    (he : starEach (e :: es) X.env = (false, eval e X.env) :: starEach es X.env := by rfl) (hpl : (backTo cpos (starEach es X.env)).any (·.1) = false := by rfl) :
    PS X (.Raise (some (.Call (.Name x np) (e :: es) [] cpos)) none pos) (tRaise C E t) := by
  intro pins s σ H D I h
  obtain ⟨bm, N, nm, q, bs, hdct, sn, sub, ab, col, dd, k0, k1, k2, k3, k5, mN, hC, hN, hni, T⟩ := c.at I.mod.kin
  have hbase : bm.contains (.type "BaseException") = true := T.hasType (by decide)
  refine wpAny_Raise_call_subT (C := C) (nm := nm) (q := q) (N := N) (bs := bs) (bm := bm) (hdct := hdct) (sn := sn) (sub := sub) (ab := ab) (col := col) (dd := dd) (k0 := k0) (k1 := k1) (k2 := k2) (k3 := k3) (k5 := k5) PySem.F.excBase_ValueError (mN := mN)
    hbase (I.ok.hd hc) (by rw [he]; show (false || (backTo cpos (starEach es X.env)).any (·.1)) = false; rw [hpl]; rfl) hni (ld_glob I hg hm ⟨rfl, ?_⟩ hdb)
  have h1 := ha cpos pins s σ H _ I h
  rw [he] at h1 ⊢
  exact Calls.evalArgs_plain (thn h1 fun us s2 ⟨vs, H2, I2, r, z, q2⟩ => ⟨rfl, by show us.length ≤ sizeLine; rw [← r.length]; exact z, I2.bk _ _ hC, hN.keeps I2.bk, T.keeps I2.bk, fun h' a hx => made_leaves L I2 hx q2⟩)
/-- which exceptions a class takes -/
theorem exc_matches {M : Model} {A : Around} {E : Value → Shared → Prop} {h : Heap} {g : Array GenState} {d : Drawn} {tk : Nat} {os : OsState} {a : Addr} {oe : Obj} {b : Bool} {Q : Bool → Shared → Prop} (L : PySem.W.Looks M h (isSubtype (.ref C) (.ref D)) b) (cD : IsXC h D bmD)
    (he : h.get? a = some oe) (hcls : oe.cls = .ref C) (hq : Q b ⟨h, g, d, tk, os⟩) : wpAny M A (excMatches (.ref a) (.ref D)) Q E ⟨h, g, d, tk, os⟩ := by
  have hbD := cD.base
  obtain ⟨N', nm', q', bs', hdct', sn', sub', ab', col', dd', k0', k1', k2', k3', k5', mN', hD, _, _, _⟩ := cD
  have hcB : (Value.ref D :: bmD).contains (.type "BaseException") = true := by rw [List.contains_cons, hbD, Bool.or_true]
  have f := tc_notTuple
  unfold excMatches
  repeat (first | (with_reducible refine wpAny_loadPart_at he ?_; rw [hcls]) | with_reducible refine wpAny_loadPart_at hD ?_ | with_reducible refine L.at ?_ | (with_reducible refine wpAny_isSubtype_exc hD ?_; rw [hcB]) | wp_step)
  cases b <;> (wp_walk; exact hq)
end
end L2
set_option Elab.async false
set_option linter.all false
set_option maxRecDepth 100000
set_option maxHeartbeats 4000000
namespace L2
open PySem PySem.Spec PyProof.Rows
/-- a caught exception -/
def excO (a : Addr) (cls : Value) : HO := .ext fun h => ∃ o vs, h.get? a = some o ∧ o.cls = cls ∧ o.data = .fields vs
section
variable {P : Program} {w : World} {outer : List Env} {H H' : Hp} {h0 : Heap} {a : Addr} {cls a0 : Value} {B h : Heap}
theorem Fly.fresh (F : Fly P w outer H H' h0 a cls a0 B h) {b : Addr} {o : Obj} (e : h0.get? b = some o) : b ≠ a := by
  rintro rfl
  by_cases hf : b ∈ frs outer
  · obtain ⟨_, o1, q1, hd⟩ := F.fl.2.2.1.mem hf
    obtain ⟨oe, vs, he, _, hdd, _⟩ := F.fl.first
    rw [q1] at he; cases he
    exact hd vs hdd
  · obtain ⟨o', q⟩ := F.there b o e hf
    rw [F.fl.2.1] at q; cases q
theorem Fly.unT (F : Fly P w outer H H' h0 a cls a0 B h) {u : HO} : Un (frs outer) [] H (upd H' a u) h0 h where
  keep := F.un.keep
  slot := F.un.slot
  free := fun b o e n x => by rw [upd_ne (F.fresh e)]; exact F.un.free b o e n x
  there := F.un.there
  tups := fun b xs e => by
    have q := F.tups b xs e
    rw [upd_ne (ne_of_none q F.hn)]; exact q
  frzs := fun b o xs e => by
    have q := F.frzs b o xs e
    rw [upd_ne (ne_of_none q F.hn)]; exact q
  tbls := fun b ps e => by
    obtain ⟨m, q⟩ := F.tbls b ps e
    exact ⟨m, by rw [upd_ne (ne_of_none q F.hn)]; exact q⟩
theorem Fly.hokT (F : Fly P w outer H H' h0 a cls a0 B h) : HOk P w (upd H' a (excO a cls)) h := fun b u e => by
  by_cases hb : b = a
  · subst hb
    rw [upd_same] at e; cases e
    obtain ⟨oe, vs, he, hc, hd, _⟩ := F.fl.first
    exact ⟨⟨oe, vs, he, hc, hd⟩, ⟨oe, he⟩, fun h1 h2 ⟨o, vs, q, r⟩ k => ⟨o, vs, k o q, r⟩⟩
  · rw [upd_ne hb] at e
    exact (F.hokh b u e).stay (fun _ _ _ q => q) (fun c q => by rw [upd_ne (ne_of_none q F.hn)]; exact q) fun c xs q => by rw [upd_ne (ne_of_none q F.hn)]; exact q
end
def XE (X : Cx) (pins : List (Addr × Obj)) (E : St → XK) (e : Value) (s' : Shared) : Prop := ∃ σ' H1 s1, Inv X pins σ' H1 s1 ∧ CXR X.prog X.w X.stack H1 s1 (E σ') e s'
def PX (X : Cx) (e : Expr) (t : XK → TE) : Prop :=
  ∀ (pins : List (Addr × Obj)) (s : Shared) (σ : St) (H : Hp) (Q : VK) (E : St → XK), Inv X pins σ H s → t (E σ) σ H Q → wpAny (model X.prog X.w) X.A (eval e X.env) (EP X pins σ Q) (XE X pins E) s
abbrev TX := (St → XK) → TS
def PSX (X : Cx) (st : Stmt) (t : TX) : Prop :=
  ∀ (pins : List (Addr × Obj)) (s : Shared) (σ : St) (H : Hp) (D : Ends) (E : St → XK), Inv X pins σ H s → t E D σ H → wpAny (model X.prog X.w) X.A (exec st X.env) (SP X pins D) (XE X pins E) s
def PSXs (X : Cx) (st : List Stmt) (t : TX) : Prop :=
  ∀ (pins : List (Addr × Obj)) (s : Shared) (σ : St) (H : Hp) (D : Ends) (E : St → XK), Inv X pins σ H s → t E D σ H → wpAny (model X.prog X.w) X.A (execs st X.env) (SP X pins D) (XE X pins E) s
section
variable {X : Cx} {CX : CXT} {k : Nat} {f C : Addr} {fd : FuncData} {ps : List Str} {sp : Sp} {dvs : List V} {ds : List Value} {E : XK} {x m : Str} {p pos apos : Pos} {e o : Expr} {es : List Expr} {ta : TE} {t : TA}
theorem run_fnX {pins : List (Addr × Obj)} {σ : St} {H : Hp} {s : Shared} {Q : VK} {us : List Value} {vs : List V} {E : St → XK} (F : FnOk X.prog X.w X.K X.mg X.base (CXR X.prog X.w) k f fd ps sp) (hr : Room k X.A) (hb : Binds X.K fd ps ds) (hd : Vals dvs ds)
    (I : Inv X pins σ H s) (r : Vals vs us) (h : sp (vs ++ dvs) H Q (E σ)) : wpAny (model X.prog X.w) X.A (call (.ref f) us) (EP X pins σ Q) (XE X pins E) s := by
  have r2 : Vals (vs ++ dvs) (us ++ ds) := r.append hd
  have hl : (us ++ ds).length = ps.length := by rw [← r2.length]; exact F.len _ _ _ _ h
  refine wpAny_call (codeAny_mono (F.run X.A X.stack s H ⟨us, []⟩ (us ++ ds) (vs ++ dvs) Q (E σ) hr I.env0 (hb s us I.kIn hl) r2 h) fun res s' hq => ?_)
  cases res with
  | error e => exact ⟨σ, H, s, I, hq⟩
  | ok fl =>
    cases fl with
    | ret u => exact I.after hq
    | _ => exact False.elim hq
/-- f(e, ..) of a def that may raise -/
theorem px_call (F : FnOk X.prog X.w X.K X.mg X.base (CXR X.prog X.w) k f fd ps sp) (hr : Room k X.A) (hg : Gl X x) (hm : X.mg x = some (.ref f)) (hk : PySem.W.keepIn X.K (.ref f) = true) (hb : Binds X.K fd ps ds) (hd : Vals dvs ds)
    (ha : PA X.nox (e :: es) t) (hdb : (x == ("__debug__" : Str)) = false := by decide) (he : starEach (e :: es) X.env = (false, eval e X.env) :: starEach es X.env := by rfl) (hpl : (backTo pos (starEach es X.env)).any (·.1) = false := by rfl) :
    PX X (.Call (.Name x p) (e :: es) [] pos) (fun E => tCall sp dvs E t) := by
  intro pins s σ H Q E I h
  refine wpAny_Call_Name_kw (ld_glob I hg hm ?_ hdb)
  refine PySem.W.callWith_K (h₀ := X.base) I.ok.mod.kin hk (wpAny_mono (ha pos pins s σ H _ (I.wish _) h) (fun us s1 ⟨vs, H1, I1, r, q⟩ => ⟨I1.kIn, ?_⟩) fun _ _ z => False.elim z) he hpl
  exact run_fnX F hr hb hd I1.unwish r q
end
section
variable {X : Cx} {e : Expr} {pos : Pos} {te : XK → TE}
def xSet (te : XK → TE) (i : Nat) : TX := fun E D σ H => te (E σ) σ H fun v H1 => D.nx (σ.set i (some v)) H1
theorem psx_set {i : Nat} {x : Str} {pos' : Pos} (hN : X.N.Nodup) (hi : X.N[i]? = some x) (hx : Loc X.env.scope x) (he : PX X e te) (hs : swapsWith e (some (.Name x pos')) pos.line X.env = pure false := by rfl) (hf : X.fn x = true ∨ X.env.scope.names.lookup x = some .local := by first | exact .inl rfl | exact .inr rfl | assumption) :
    PSX X (.Assign [.Name x pos'] e pos) (xSet te i) := by
  intro pins s σ H D E I h
  refine wpAny_Assign_Name (thn (he pins s σ H _ E I h) fun v s1 ⟨y, H1, I1, r1, q1⟩ => ?_) hs
  exact store_ok I1 hN hi hx r1 (fun s2 I2 => ⟨_, H1, I2, q1⟩) hf
theorem psxs_one {st : Stmt} {t : TX} (h : PSX X st t) : PSXs X [st] t := by
  intro pins s σ H D E I q
  refine wpAny_execs_cons (thn (h pins s σ H D E I q) fun f s1 q => ?_)
  cases f with
  | next => exact wpAny_pure q
  | ret v => exact q
  | brk => exact q
  | cont => exact q
end
end L2
set_option Elab.async false
set_option linter.all false
set_option maxRecDepth 100000
set_option maxHeartbeats 4000000
namespace L2
open PySem PySem.Spec PyProof.Rows
/-- the context of an except's suite -/
abbrev Cx.inExc (X : Cx) (a : Addr) : Cx := { X with A := X.A.mark (some (.ref a)), calm := false, xe := fun _ _ => False }
section
variable {X : Cx} {pins : List (Addr × Obj)} {σ : St} {H : Hp} {s : Shared}
theorem Cx.Ok.inExc (ok : X.Ok) (a : Addr) : (X.inExc a).Ok :=
  ⟨ok.mod, ok.kind, ok.glob, ok.blt, ok.above, ok.inj, ok.has, ok.cab, fun z => (nomatch (show false = true from z)), ok.frames, ok.stk, ok.exf, ok.bs, ok.bsz, ok.noex, ok.exfs, ok.funs, ok.frf⟩
theorem Inv.inExc (I : Inv X pins σ H s) (a : Addr) : Inv (X.inExc a) pins σ H s := ⟨I.ok.inExc a, I.os, I.bare, I.base, I.loc, I.cell, I.free, I.freeC, I.pin, I.hok, I.len⟩
theorem Inv.outExc {a : Addr} (I : Inv (X.inExc a) pins σ H s) (ok : X.Ok) : Inv X pins σ H s := ⟨ok, I.os, I.bare, I.base, I.loc, I.cell, I.free, I.freeC, I.pin, I.hok, I.len⟩
/-- the name of an except goes -/
theorem name_goes {M : Model} {A : Around} {E : Value → Shared → Prop} {Q : Unit → Shared → Prop} {i : Nat} {n : Str} {pos : Pos} (I : Inv X pins σ H s) (hN : X.N.Nodup) (hi : X.N[i]? = some n) (hx : X.env.scope.names.lookup n = some .local)
    (h : ∀ s', Inv X pins (σ.set i none) H s' → Q () s') : wpAny M A (do bindName X.env n .none; unbindBehindTheSuite X.env n pos) Q E s := by
  obtain ⟨m, hn, hl⟩ := id I.loc
  have hcls : (X.env.scope.kind == .class || (X.env.scope.kind == .module && X.env.locals != X.env.globals)) = false := by rw [I.ok.kind]; rfl
  have hiσ : i < σ.length := by rw [I.len]; exact (List.getElem?_eq_some_iff.mp hi).1
  have old : ∀ b o, X.s₀.heap.get? b = some o → b ≠ X.env.locals := fun b o e => Nat.ne_of_lt (Nat.lt_of_lt_of_le (Heap.lt_size e) I.ok.above)
  refine wpAny_nameGoes_keeps hx hn hcls fun h' v hn' hs => h _ ?_
  refine ⟨I.ok, I.os, I.bare, ⟨fun b o e n hb hx => (hs.2 b (old b o e)).trans (I.base.keep b o e n hb hx), fun b o e n hb hx => ?_, I.base.free, fun b o e hx => ?_, I.base.tups, I.base.frzs, I.base.tbls⟩, ⟨_, hn', fun j y v' e1 e2 e3 => ?_⟩, fun y c e => ?_, I.free, I.freeC, fun p hp => ?_, fun b ob e => ?_, by simpa using I.len⟩
  · obtain ⟨sl, e1⟩ := I.base.slot b o e n hb hx
    exact ⟨sl, (hs.2 b (old b o e)).trans e1⟩
  · obtain ⟨o', e1⟩ := I.base.there b o e hx
    exact ⟨o', (hs.2 b (old b o e)).trans e1⟩
  · have hj : j ≠ i := by
      rintro rfl
      rw [List.getElem?_set_self hiσ] at e2
      cases e2
    rw [List.getElem?_set_ne (Ne.symm hj)] at e2
    obtain ⟨u', r', q⟩ := hl j y v' e1 e2 e3
    refine ⟨u', r', ?_⟩
    have hy : y ≠ n := fun e => hj (nodup_ix hN e1 (e ▸ hi))
    rcases q with ⟨k, e⟩ | ⟨k, c, e, z⟩
    · exact .inl ⟨k, by show (if y = n then v else m y) = some u'; rw [if_neg hy]; exact e⟩
    · exact .inr ⟨k, c, e, z.sameBut hs (I.cne y c e)⟩
  · obtain ⟨w', z⟩ := I.cell y c e
    exact ⟨w', z.sameBut hs (I.cne y c e)⟩
  · obtain ⟨e, n, ne, nf, d⟩ := I.pin p hp
    exact ⟨(hs.2 p.1 ne).trans e, n, ne, nf, d⟩
  · refine (I.hok b ob e).stay (fun c w' hc q => (hs.2 c ?_).trans q) (fun _ q => q) fun _ _ q => q
    rintro rfl
    rcases hc with z | z
    · rw [← z, I.free] at e; cases e
    · rw [I.free] at z; cases z
end
def Ends.less (D : Ends) (i : Nat) : Ends := { nx := fun σ H => D.nx (σ.set i none) H, rt := D.rt, bk := fun σ H => D.bk (σ.set i none) H, ct := fun σ H => D.ct (σ.set i none) H }
def tTry (K : PySem.W.Frag) (i : Nat) (C0 : Addr) (tb : TX) (ts : TS) : TS := fun D σ H =>
  tb (fun σ' cls _ H' => ∃ C, cls = .ref C ∧ PySem.W.mroIn K C (.ref C0) = some true ∧ ∀ a, H' a = none → ts (D.less i) (σ'.set i (some (.ref a))) (upd H' a (excO a (.ref C)))) D σ H
section
variable {X : Cx} {i : Nat} {n x : Str} {C0 : Addr} {body suite : List Stmt} {b₀ : Stmt} {np hpos pos : Pos} {tb : TX} {ts : TS}
theorem ps_try (hst : X.stack = X.env :: X.outer) (fr : X.env.frame = some X.env.locals) (hN : X.N.Nodup) (hi : X.N[i]? = some n) (hx : X.env.scope.names.lookup n = some .local) (hgx : Gl X x) (hm : X.mg x = some (.ref C0)) (c0 : XC X.K C0)
    (hb : PSXs X body tb) (hs : ∀ a, PSs (X.inExc a) (b₀ :: suite) ts) (hdb : (x == ("__debug__" : Str)) = false := by decide) :
    PS X (.Try body [.ExceptHandler (some (.Name x np)) (some n) (b₀ :: suite) hpos] [] [] pos) (tTry X.K i C0 tb ts) := by
  intro pins s σ H D I h
  refine wpAny_Try_except (wpAny_mono (hb pins s σ H D _ I h) (fun f s1 q => ?_) fun e s1 q => ?_)
  · cases f with
    | next =>
      obtain ⟨σ', H', I', q⟩ := q
      exact pss_nil pins s1 σ' H' D I' q
    | ret v => exact q
    | brk => exact q
    | cont => exact q
  · obtain ⟨σ', H1, s2, I2, a, cls, a0, B, H', rfl, os, bare, F, C, rfl, hsub, hq⟩ := q
    have hfr : X.A.frames = some (X.env :: X.outer) := by rw [I.ok.frames, hst]
    have fl : Heap.FlyingW B (X.env :: X.outer) a (.ref C) a0 s1.heap := by rw [← hst]; exact F.fl
    refine wpAny_looks_onW hfr fr fl fun h4 held4 u4 => ?_
    refine wpAny_landsW held4 fun h5 f5 u5 => ?_
    have F5 : Fly X.prog X.w X.stack H1 H' s2.heap a (.ref C) a0 B h5 := F.on (by rw [hst]; exact f5) (u4.trans u5)
    have I5 : Inv X pins σ' (upd H' a (excO a (.ref C))) { s1 with heap := h5 } := I2.call' (ch := []) os F5.unT F5.hokT bare fun b z => absurd z (by simp)
    refine wpAny_handleBy_cons (codeAny_handlers_test (ld_glob (I5.inExc a) hgx hm ?_ hdb)) (by intro q; cases q)
    obtain ⟨oe, vs, he, hc, hd, _⟩ := F5.fl.first
    obtain ⟨bm0, c0'⟩ := c0.at I5.kIn
    refine exc_matches (PySem.W.looks_mroIn I5.kIn hsub) c0' he hc ?_
    refine codeAny_handlers_suite_as ?_
    refine lands_againW f5 fun h6 f6 u6 => ?_
    have F6 : Fly X.prog X.w X.stack H1 H' s2.heap a (.ref C) a0 B h6 := F5.on (by rw [hst]; exact f6) u6
    have I6 : Inv X pins σ' (upd H' a (excO a (.ref C))) { s1 with heap := h6 } := I2.call' (ch := []) os F6.unT F6.hokT bare fun b z => absurd z (by simp)
    refine store_ok (X := X.inExc a) (I6.inExc a) hN hi (.inl hx) (v := .ref a) rfl (fun s7 I7 => ?_) (.inr hx)
    refine wpAny_mono (hs a pins s7 _ _ _ I7 (hq a F.hn)) (fun f s8 q8 => ?_) fun _ _ z => False.elim z
    cases f with
    | next =>
      obtain ⟨σ8, H8, I8, q8⟩ := q8
      exact name_goes (I8.outExc I.ok) hN hi hx fun s9 I9 => ⟨_, H8, I9, q8⟩
    | brk =>
      obtain ⟨σ8, H8, I8, q8⟩ := q8
      exact name_goes (I8.outExc I.ok) hN hi hx fun s9 I9 => ⟨_, H8, I9, q8⟩
    | cont =>
      obtain ⟨σ8, H8, I8, q8⟩ := q8
      exact name_goes (I8.outExc I.ok) hN hi hx fun s9 I9 => ⟨_, H8, I9, q8⟩
    | ret u =>
      obtain ⟨v, σ8, H8, I8, r8, q8⟩ := q8
      exact name_goes (I8.outExc I.ok) hN hi hx fun s9 I9 => ⟨v, _, H8, I9, r8, q8⟩
end
section
variable {P : Program} {w : World} {K : PySem.W.Frag} {mg : Str → Option Value} {base : Heap}
theorem Fun.okR {x qual : Str} {st : Stmt} {f : Addr} {fd : FuncData} {N ps : List Str} {k : Nat} {sp : Sp} (F : Fun K x qual st f fd) (S : FnScope N ps (defScope st)) (len : ∀ vs H Q E, sp vs H Q E → vs.length = ps.length)
    (hbody : ∀ (cdv : Value) (A : Around) (outer : List Env) (s : Shared) (H : Hp) (vs : List V) (Q : VK) (E : XK), Room k (A.deeper (envOfC qual (defScope st) s.heap.objs.size f cdv)) → sp vs H Q E →
      ∃ t, PSs (cxOf (CXR P w) P w K mg base N qual (defScope st) f cdv A outer s H E) (defBody st) t ∧ t { nx := fun _ H' => Q .non H', rt := Q } (start N vs) H) : FnOk P w K mg base (CXR P w) (k + 1) f fd ps sp := by
  obtain ⟨oc, od, kV, doc, pm, an, cdv, ct, osl, rfl, lk, hcd⟩ := F.ex
  exact fn_of lk hcd S len fun A outer s H vs Q E hr hsp => hbody cdv A outer s H vs Q E hr hsp
end
end L2
set_option Elab.async false
set_option linter.all false
set_option maxRecDepth 100000
set_option maxHeartbeats 4000000
namespace L2
open PySem PySem.Spec PyProof.Rows
structure XA (K : PySem.W.Frag) (C : Addr) : Prop where
  ga : PySem.W.findIn K (.ref C) "__getattribute__" = some (some (.builtin "BaseException.__getattribute__"))
  gh : PySem.W.findIn K (.ref C) "__getattr__" = some none
  cl : PySem.W.findIn K (.ref C) "__class__" = some (some (.builtin "object.__class__"))
section
variable {prog : Program} {w : World} {A : Around} {E : Value → Shared → Prop} {h : Heap} {g : Array GenState} {d : Drawn} {t : Nat} {os : OsState} {a : Addr} {o : Obj} {C : Addr} {bm : List Value} {K : PySem.W.Frag}
theorem xc_get {R : Result → Shared → Prop} (c : IsXC h C bm) (hob : bm.contains (.type "object") = true) (hx : h.get? a = some o) (hc : o.cls = .ref C) (hq : R (.ok (.ret (.ref C))) ⟨h, g, d, t, os⟩) :
    codeAny (model prog w) A (.call (.builtin "getset_descriptor.__get__") ⟨[.builtin "object.__class__", .ref a, .ref C], []⟩) R ⟨h, g, d, t, os⟩ := by
  obtain ⟨N, nm, q, bs, hdct, sn, sub, ab, col, dd, k0, k1, k2, k3, k5, mN, hC, _, _, _⟩ := c
  have hT5 : (⟨h, g, d, t, os⟩ : Shared).TypeIs (.builtin "object.__class__") "getset_descriptor" := F.typeOf_object_class
  have ow : ".".intercalate ("object.__class__".cutAt '.').dropLast = "object" := by decide +kernel
  have hcB : (Value.ref C :: bm).contains (.type (".".intercalate ("object.__class__".cutAt '.').dropLast)) = true := by rw [ow, List.contains_cons, hob, Bool.or_true]
  refine codeAny_call_builtin F.slot_gs_get.plain F.entry_gs_get (F.slot_gs_get.check _ _ _ _ _ _ _ _ hT5 (F.args_gs_get _ _ _) ?_)
  repeat (any_goals (first | assumption | (with_reducible refine wpAny_loadPart_at hx ?_; rw [hc]) | (with_reducible refine wpAny_isSubtype_exc hC ?_; rw [hcB]) | wp_step))
  refine ⟨Code.quiet_builtin _ (by decide +kernel), codeAny_builtin F.entry_object_class ?_⟩
  repeat (any_goals (first | assumption | (with_reducible refine wpAny_loadPart_at hx ?_; rw [hc]) | wp_step))
theorem xc_check {M : Model} {nameV : Value} {Q : Unit → Shared → Prop} (c : IsXC h C bm) (hx : h.get? a = some o) (hc : o.cls = .ref C) (hq : Q () ⟨h, g, d, t, os⟩) : wpAny M A (checkBuiltinCall "BaseException.__getattribute__" ⟨[.ref a, nameV], []⟩) Q E ⟨h, g, d, t, os⟩ := by
  have hb := c.base
  obtain ⟨N, nm, q, bs, hdct, sn, sub, ab, col, dd, k0, k1, k2, k3, k5, mN, hC, _, _, _⟩ := c
  have k1 : builtinKind "BaseException.__getattribute__" = some .slot := by decide +kernel
  have k2 : splitId "BaseException.__getattribute__" = some ("BaseException", "__getattribute__") := by decide +kernel
  have hB : (Value.ref C :: bm).contains (.type "BaseException") = true := by rw [List.contains_cons, hb, Bool.or_true]
  have ha := F.args_bexc_ga (.ref a) nameV
  simp only [checkBuiltinCall, k1, k2]
  refine wpAny_bind ?_
  unfold isInstance
  repeat (first | (with_reducible refine wpAny_loadPart_at hx ?_; rw [hc]) | (with_reducible refine wpAny_isSubtype_exc hC ?_; rw [hB]) | wp_step)
  exact hq
theorem xc_entry {tk : Tok} {Q : Fin → Shared → Prop} (X : K.In h) (xa : XA K C) (c : IsXC h C bm) (hob : bm.contains (.type "object") = true) (hx : h.get? a = some o) (hc : o.cls = .ref C) (hq : Q (.done (.ret (.ref C))) ⟨h, g, d, t, os⟩) :
    wpAny (model prog w) A (Builtin.«object.__getattribute__» ⟨[.ref a, .str "__class__" tk], []⟩) Q E ⟨h, g, d, t, os⟩ := by
  have hT5 : (⟨h, g, d, t, os⟩ : Shared).TypeIs (.builtin "object.__class__") "getset_descriptor" := F.typeOf_object_class
  have L1 := PySem.W.looks_findIn (M := model prog w) X xa.cl
  have f5 := F.typeOf_object_class
  have f6 := F.slot_gs_get.lookup
  have f7 := F.slot_gs_set.lookup
  repeat (any_goals (first | assumption | (with_reducible refine wpAny_loadPart_at hx ?_; rw [hc]) | with_reducible refine L1.at ?_ | wp_step))
  refine xc_get c hob hx hc ?_
  repeat (any_goals (first | assumption | wp_step))
theorem xc_by {tk : Tok} {Q : Value → Shared → Prop} (X : K.In h) (xa : XA K C) (c : IsXC h C bm) (hob : bm.contains (.type "object") = true) (hx : h.get? a = some o) (hc : o.cls = .ref C) (hq : Q (.ref C) ⟨h, g, d, t, os⟩) :
    wpAny (model prog w) A (getAttrBy (.ref a) (.str "__class__" tk) false) Q E ⟨h, g, d, t, os⟩ := by
  have FB := F.attrBase_ValueError
  have f3 := FB.ga.bind (.ref a)
  have L1 := PySem.W.looks_findIn (M := model prog w) X xa.ga
  have L2 := PySem.W.looks_findIn (M := model prog w) X xa.gh
  have hx2 : (Value.builtin "BaseException.__getattribute__" == Value.builtin "object.__getattribute__") = false := by decide +kernel
  have hx0 : (false && onTheHeap (Value.builtin "BaseException.__getattribute__")) = false := rfl
  have hx1 : (onTheHeap (Value.ref C) && Value.builtin "BaseException.__getattribute__" == Value.builtin "object.__getattribute__") = false := by rw [hx2]; rfl
  repeat (any_goals (first | assumption | (with_reducible refine wpAny_loadPart_at hx ?_; rw [hc]) | with_reducible refine L1.at ?_ | with_reducible refine L2.at ?_ | wp_step))
  refine codeAny_call_builtin FB.ga.plain F.entry_bexc_ga (xc_check c hx hc (xc_entry X xa c hob hx hc ?_))
  repeat (any_goals (first | assumption | wp_step))
theorem xc_class {Q : Option Value → Shared → Prop} (X : K.In h) (xa : XA K C) (c : IsXC h C bm) (hob : bm.contains (.type "object") = true) (hx : h.get? a = some o) (hc : o.cls = .ref C) (hq : Q (some (.ref C)) ⟨h, g, d, t + 1, os⟩) :
    wpAny (model prog w) A (getAttr? (.ref a) "__class__") Q E ⟨h, g, d, t, os⟩ := by
  unfold getAttr? getAttrBy?
  repeat (any_goals (first | assumption | with_reducible apply xc_by X xa c hob hx hc | wp_step))
end
end L2
set_option Elab.async false
set_option linter.all false
set_option maxRecDepth 100000
set_option maxHeartbeats 4000000
namespace L2
open PySem PySem.Spec PyProof.Rows
theorem IsXC.obj {h : Heap} {C : Addr} {bm : List Value} (x : IsXC h C bm) : bm.contains (.type "object") = true := by
  obtain ⟨_, _, _, _, _, _, _, _, _, _, _, _, _, _, _, _, _, _, _, T⟩ := x
  exact T.hasType (by decide)
theorem kitx_exc {K : PySem.W.Frag} {a C : Addr} (c : XC K C) (xa : XA K C) : PySem.W.KitX K (.ref a) (.ref C) (fun h => ∃ o vs, h.get? a = some o ∧ o.cls = .ref C ∧ o.data = .fields vs) where
  ty := fun M h X ⟨o, vs, hx, hc, _⟩ => by
    exact hc ▸ (PySem.W.Looks.ld hx).andThen .now
  it := fun M h X _ => by
    obtain ⟨bm, N, nm, q, bs, hdct, sn, sub, ab, col, dd, k0, k1, k2, k3, k5, mN, hC, _, _, _⟩ := c.at X
    intro A Q E s k q
    unfold isType loadHead
    exact wpAny_bind (wpAny_loadPart (k _ _ hC) (wpAny_pure q))
  ne := fun h tp dd its n sl X htp => by
    obtain ⟨bm, N, nm, q, bs, hdct, sn, sub, ab, col, dd', k0, k1, k2, k3, k5, mN, hC, _, _, _⟩ := c.at X
    refine Bool.eq_false_iff.mpr fun z => ?_
    have e : C = tp := Value.ref.inj (beq_iff_eq.mp z)
    subst e
    have q := congrArg (fun x => x.map (·.cls)) (hC.symm.trans htp)
    have q : some (Value.type "type") = some (Value.type "tuple") := q
    exact absurd q (by decide)
  ca := fun {prog w A E Q s} X ⟨o, vs, hx, hc, _⟩ k => by
    obtain ⟨h, g, d, t, os⟩ := s
    obtain ⟨bm, c'⟩ := c.at X
    exact xc_class X xa c' c'.obj hx hc k
section
variable {X : Cx}
theorem call_isinstX : CallR X (.builtin "isinstance") (fun xs H Q => ∃ a C c u b, xs = [.ref a, c] ∧ H a = some (excO a (.ref C)) ∧ XC X.K C ∧ XA X.K C ∧ RelV c u ∧ (∀ u', RelV c u' → u' = u) ∧ PySem.W.kitOne X.K (.ref C) u = some b ∧ Q (.bl b) H) := by
  intro pins s σ H xs us Q I r h
  obtain ⟨a, C, c, u, b, rfl, ha, cC, xa, rc, uc, e, q⟩ := h
  obtain ⟨v, w', rfl, rv, rw'⟩ := vals2 r
  have := uc w' rw'
  subst this
  cases (show v = Value.ref a from rv)
  obtain ⟨p, _⟩ := I.hok a _ ha
  exact PySem.W.kia_one (kitx_exc cC xa) I.kIn p e (fun z => nomatch z) fun tk => ⟨.bl b, H, I.tok tk, rfl, q⟩
end
end L2
set_option Elab.async false
set_option linter.all false
set_option maxRecDepth 100000
set_option maxHeartbeats 4000000
namespace L2
open PySem PySem.Spec PyProof.Rows
section
variable {X : Cx}
/-- a statement that raises nothing, in a def that may raise -/
theorem PS.nox {st : Stmt} {t : TS} (h : PS X.nox st t) : PS X st t := fun pins s σ H D I hw =>
  wpAny_mono (h pins s σ H D (I.wish _) hw) (fun _ _ q => q.unwish) fun _ _ z => False.elim z
end
theorem call_isinstXK {X : Cx} {K : PySem.W.Frag} (hK : X.K = K) : CallR X (.builtin "isinstance") (fun xs H Q => ∃ a C c u b, xs = [.ref a, c] ∧ H a = some (excO a (.ref C)) ∧ XC K C ∧ XA K C ∧ RelV c u ∧ (∀ u', RelV c u' → u' = u) ∧ PySem.W.kitOne K (.ref C) u = some b ∧ Q (.bl b) H) := by
  subst hK
  exact call_isinstX
theorem bt_ValueError : bootBuiltins "ValueError" = some (.type "ValueError") := PyProof.Rows.Boot.«ValueError»
end L2
set_option Elab.async false
set_option linter.all false
set_option maxRecDepth 100000
set_option maxHeartbeats 4000000
namespace L2
open PySem PySem.Spec PyProof.Rows
section
variable {prog : Program} {w : World} {A : Around} {R : Result → Shared → Prop} {I : Addr} {fp wr : List Addr} {G : Array GenState → Array GenState → Prop} {n : Nat} {P : Nat → Value → Prop} {St : Nat → Shared → Prop}
end
end L2
set_option Elab.async false
set_option linter.all false
set_option maxRecDepth 100000
set_option maxHeartbeats 4000000
namespace L2
open PySem PySem.Spec PyProof.Rows
section
variable {X : Cx}
end
end L2
set_option Elab.async false
set_option linter.all false
set_option maxRecDepth 100000
set_option maxHeartbeats 4000000
namespace L2
open PySem PySem.Spec PyProof.Rows
theorem entry_dict_loop : entryFor table "dict.update.loop" = some Builtin.«dict.update.loop» := entryFor_of_tree (by kernel_rfl)
theorem plain_dict_loop : plainId "dict.update.loop" = true := by decide +kernel
theorem tuple_no_keys : typeLookup (.type "tuple") "keys" = pure none := by rw [typeLookup_type, builtinLookup_eq_fast]; kernel_rfl
section
variable {prog : Program} {w : World} {A : Around} {E : Value → Shared → Prop} {s : Shared}
theorem keys_of_tuple {Q : Option Value → Shared → Prop} {a : Addr} {o : Obj} {xs : Array Value} {k : Nat} (hx : s.heap.get? a = some o) (hc : o.cls = .type "tuple") (hdat : o.data = .seq xs k) (hd : o.dict = none) (hA : A.handled = none)
    (h : ∀ h' tk, (∀ b ob, s.heap.get? b = some ob → h'.get? b = some ob) → Q none { s with heap := h', toks := tk }) : wpAny (model prog w) A (getAttr? (.ref a) "keys") Q E s := by
  obtain ⟨c, dct, dat, sl⟩ := o
  simp only at hc hdat hd
  subst hc hdat hd
  obtain ⟨hp, g, d, tk, os⟩ := s
  have hT : ∀ tk', (⟨hp, g, d, tk', os⟩ : Shared).TypeIs (.ref a) "tuple" := fun _ => ⟨_, hx, rfl⟩
  have f1 := sub_AttributeError ; have f3 := F.slot_tuple_getattribute.lookup
  have f4 := F.slot_tuple_getattribute.bind (.ref a) ; have f5 := am_tuple_getattr_none
  unfold getAttr? getAttrBy? getAttrBy
  repeat (any_goals (first | assumption | exact hT _ | ((with_reducible show wpAny _ _ (call (Value.builtin "tuple.__getattribute__") _ _) _ _ _); refine call_meets F.slot_tuple_getattribute (hT _) am_entry_tuple_getattribute (F.args_tuple_getattribute_2 _ _) (meets_getattribute_miss_tuple a xs k sl "keys" _ tuple_no_keys (by decide +kernel) (by size_fits)) ⟨hx, hA, fun h' tk' e hx' => ?_⟩) | wp_step))
  obtain ⟨t', u', he⟩ := hx'.there
  show wpAny _ _ (getattributeRaised _ _ _ _ _ _ _) _ _ _ ; unfold getattributeRaised
  repeat (any_goals (first | assumption | wp_step))
  exact h _ _ hx'.keeps
end
section
variable {prog : Program} {w : World} {A : Around} {R : Result → Shared → Prop} {I : Addr} {fp wr : List Addr} {G : Array GenState → Array GenState → Prop} {n : Nat} {P : Nat → Value → Prop} {St : Nat → Shared → Prop}
theorem dict_loop (W : WalksS prog w A.in1 I fp wr G n P St) (D : Addr) (hDf : D ∉ fp) (kvs : List (Key × Value)) (hx : kvs.length = n) (base : Heap)
    (hval : ∀ i v, P i v → ∃ (b : Addr) (k : Key) (key val : Value) (o : Obj) (m : Nat), kvs[i]? = some (k, val) ∧ v = .ref b ∧ (mixKind prog w).is k key = true ∧ base.get? b = some o ∧ o.cls = .type "tuple" ∧ o.data = .seq #[key, val] m ∧ b ≠ D ∧ b ∉ wr) (hb : n ≤ sizeLine) :
    ∀ (k i : Nat) (s : Shared) (c : Int) (t : Tok), i + k = n → St i s → s.heap.DictOf (mixKind prog w) D (merged [] (kvs.take i)) → (∀ b o, base.get? b = some o → b ≠ D → b ∉ wr → s.heap.get? b = some o) →
      (∀ s', Moved (D :: wr) G s s' → s'.heap.DictOf (mixKind prog w) D (merged [] kvs) → R (.ok (.ret .none)) s') →
      codeAny (model prog w) A (.builtin "dict.update.loop" ⟨[.ref D, .ref I, .int c t, .none], []⟩) R s := by
  have nw : D ∉ wr := fun h => hDf (W.sub _ h)
  have up : ∀ b ∈ wr, b ∈ D :: wr := fun b hb => List.mem_cons_of_mem _ hb
  intro k
  induction k with
  | zero =>
    intro i s c t hk hst hS hB hR
    have e : i = n := by omega
    subst e
    refine codeAny_builtin entry_dict_loop ?_ ; rw [Around.under_plainId plain_dict_loop _]
    show wpAny _ A.in1 (pyNext (.ref I) >>= _) _ _ s ; refine wpAny_bind (W.done s _ _ hst fun s' hm => ?_)
    show wpAny _ A.in1 (Builtin.Dict.addKeywords D [] >>= _) _ _ s'
    have q : s'.heap.DictOf (mixKind prog w) D (merged [] (kvs.take i)) := by
      obtain ⟨o, es, ep, ho, rest⟩ := hS
      exact ⟨o, es, ep, hm.heap D _ nw ho, rest⟩
    rw [← hx, List.take_length] at q
    exact wpAny_bind (wpAny_pure (wpAny_pure (hR s' (hm.mono up) q)))
  | succ k ih =>
    intro i s c t hk hst hS hB hR
    have lt : i < n := by omega
    refine codeAny_builtin entry_dict_loop ?_ ; rw [Around.under_plainId plain_dict_loop _]
    show wpAny _ A.in1 (pyNext (.ref I) >>= _) _ _ s ; refine wpAny_bind (W.item i s _ _ lt hst fun v s' hP hst' hm => ?_)
    obtain ⟨b, ky, key, val, o, m, ek, rfl, hkey, ho, hc, hd, hbD, hbw⟩ := hval i v hP
    have q : s'.heap.DictOf (mixKind prog w) D (merged [] (kvs.take i)) := by
      obtain ⟨o, es, ep, ho, rest⟩ := hS
      exact ⟨o, es, ep, hm.heap D _ nw ho, rest⟩
    have hb' : s'.heap.get? b = some o := hm.heap b o hbw (hB b o ho hbD hbw)
    have room : (merged [] (kvs.take i)).length ≤ sizeLine := by have := merged_length_le ([] : List (Key × Value)) (kvs.take i); rw [List.length_take] at this; simp at this; omega
    have tk : merged [] (kvs.take (i + 1)) = stored (merged [] (kvs.take i)) ky val := merged_take_succ [] kvs i (ky, val) ek
    refine wpAny_bind (wpAny_holding (wpAny_bind (wpAny_tryCatch ?_)))
    unfold Builtin.Dict.pairItems
    refine wpAny_bind (wpAny_typeOf (T := "tuple") ⟨o, hb', hc⟩ ?_)
    show wpAny _ A.in1 (seqItems? (.ref b) >>= _) _ _ s'
    refine wpAny_bind (wpAny_seqItems hb' hd (wpAny_pure ?_))
    show wpAny _ A.in1 (holding [key, val] (dictSet D key val)) _ _ s'
    refine wpAny_holding (wpAny_dictSet_pairs hkey q (fun h' q2 hsb => ?_) room)
    rw [← tk] at q2
    refine wpAny_pure ⟨plainId_quiet plain_dict_loop _, ih (i + 1) _ _ _ (by omega) (W.frame _ s' _ _ hst' (Nat.le_succ _) fun b hb o e => ?_) q2 (fun b o e h1 h2 => ?_) fun s'' hm'' q'' => ?_⟩
    · rw [hsb.2 b (fun h : b = D => hDf (by rw [← h]; exact hb))] ; exact e
    · rw [hsb.2 b h1] ; exact hm.heap b o h2 (hB b o e h1 h2)
    · refine hR s'' (Moved.trans W.gtrans ((hm.mono up).then_heap (Nat.le_succ _) fun b o hb e => ?_) hm'') q''
      rw [hsb.2 b (fun h : b = D => hb (by rw [h]; exact List.mem_cons_self))] ; exact e
theorem dict_of_pairs {E : Value → Shared → Prop} {s : Shared} {l : Addr} {ol : Obj} {items : Array Value} {m : Nat} {kvs : List (Key × Value)} {Q : Value → Shared → Prop} (hh : A.handled = none) (gl : s.heap.get? l = some ol) (cl : ol.cls = .type "tuple") (dl : ol.data = .seq items m) (nl : ol.dict = none) (hx : kvs.length = items.size)
    (hi : ∀ (i : Nat) (v : Value), items[i]? = some v → ∃ (b : Addr) (k : Key) (key val : Value) (o : Obj) (m : Nat), kvs[i]? = some (k, val) ∧ v = .ref b ∧ (mixKind prog w).is k key = true ∧ s.heap.get? b = some o ∧ o.cls = .type "tuple" ∧ o.data = .seq #[key, val] m) (hb : items.size ≤ sizeLine)
    (h : ∀ (h' : Heap) (tk : Nat), h'.DictOf (mixKind prog w) s.heap.objs.size (merged [] kvs) → (∀ b o, s.heap.get? b = some o → h'.get? b = some o) → Q (.ref s.heap.objs.size) { s with heap := h', toks := tk }) :
    wpAny (model prog w) A (call (.type "dict") [.ref l]) Q E s := by
  refine callType_codes (Q₁ := fun obj s₁ => obj = .ref s.heap.objs.size ∧ s₁ = { s with heap := s.heap.push { cls := .type "dict", data := .dict #[] } }) F.kt_called_dict (F.kt_typeCall_dict_1 _) F.entry_dict_init (kt_code_dict_new _ ⟨rfl, rfl⟩) ?_
  rintro obj s₁ ⟨rfl, rfl⟩
  have hnew : (s.heap.push { cls := .type "dict", data := .dict #[] }).DictOf (mixKind prog w) s.heap.objs.size [] := Heap.DictOf.new s.heap
  have gl' : (s.heap.push { cls := .type "dict", data := .dict #[] }).get? l = some ol := Heap.get?_push_of_some _ gl
  refine ⟨hnew.typeIs, F.args_dict_init_2 _ _, ?_⟩
  unfold Builtin.«dict.__init__»
  refine wpAny_bind ?_
  unfold Builtin.Dict.selfAndRest
  refine wpAny_bind (wpAny_notOrdered_dict hnew.typeIs ?_) ; show wpAny _ _ (pure (s.heap.objs.size, [Value.ref l])) _ _ _
  refine wpAny_pure ?_ ; show wpAny _ _ (Builtin.Dict.updateFrom "dict.__init__" s.heap.objs.size (.ref l) [] .none) _ _ _
  unfold Builtin.Dict.updateFrom
  refine wpAny_bind (wpAny_typeOf (T := "tuple") ⟨ol, gl', cl⟩ ?_) ; rw [if_pos (by decide)]
  have h3 : A.in1.in1.handled = none := by simp [hh]
  refine wpAny_bind (keys_of_tuple gl' cl dl nl h3 fun h1 tk1 kp1 => ?_)
  have g1 : h1.get? l = some ol := kp1 _ _ gl'
  have d1 : h1.DictOf (mixKind prog w) s.heap.objs.size [] := by
    obtain ⟨o, es, ep, ho, rest⟩ := hnew
    exact ⟨o, es, ep, kp1 _ _ ho, rest⟩
  have lD : s.heap.objs.size < h1.objs.size := by obtain ⟨o, es, ep, ho, rest⟩ := d1; exact Heap.lt_size ho
  have ll : l < s.heap.objs.size := Heap.lt_size gl
  show wpAny _ _ (rule _ >>= _) _ _ _ ; refine wpAny_bind (wpAny_rule ?_)
  have it1 : h1.IsTuple l items := ⟨ol, g1, cl, m, dl⟩
  refine wpAny_bind (wpAny_pyIter_tuple (s := ⟨h1, s.gens, s.drawn, tk1, s.os⟩) it1 ?_)
  have ne : l ≠ h1.objs.size := Nat.ne_of_lt (Nat.lt_trans ll lD)
  have nf : s.heap.objs.size ∉ [h1.objs.size, l] := by
    simp only [List.mem_cons, List.mem_singleton, List.not_mem_nil, or_false, not_or] ; exact ⟨Nat.ne_of_lt lD, Nat.ne_of_gt ll⟩
  refine wpAny_pure ⟨plainId_quiet plain_dict_loop _, ?_⟩
  refine dict_loop ((Walks.tuple h3 _ l ne items).toS) s.heap.objs.size nf kvs hx s.heap (fun i v e => ?_) hb (items.size - 0) 0 _ _ _ (by omega) ⟨⟨_, Heap.get?_push_size _ rfl, rfl, rfl⟩, it1.push _⟩ ?hS0 ?hB ?hR
  · obtain ⟨b, k, key, val, o, m', e1, e2, e3, e4, e5, e6⟩ := hi i v e
    have lb := Heap.lt_size e4
    exact ⟨b, k, key, val, o, m', e1, e2, e3, e4, e5, e6, Nat.ne_of_lt lb, by simp; exact Nat.ne_of_lt (Nat.lt_trans lb lD)⟩
  case hS0 => exact d1.push _
  case hB => exact fun b o e h1' h2' => Heap.get?_push_of_some _ (kp1 _ _ (Heap.get?_push_of_some _ e))
  case hR =>
    intro s' hm q
    obtain ⟨h', g', d', tk', os'⟩ := s'
    have eg : g' = s.gens := hm.gens ; have ed : d' = s.drawn := hm.drawn ; have eo : os' = s.os := hm.os
    subst eg ; subst ed ; subst eo
    refine ⟨rfl, h h' tk' q fun b o e => ?_⟩
    have lb := Heap.lt_size e
    refine hm.heap b o ?_ (Heap.get?_push_of_some _ (kp1 _ _ (Heap.get?_push_of_some _ e)))
    simp only [List.mem_cons, List.mem_singleton, List.not_mem_nil, or_false, not_or] ; exact ⟨Nat.ne_of_lt lb, Nat.ne_of_lt (Nat.lt_trans lb lD)⟩
end
/-- the dict of pairs, each put behind those ahead -/
def dictV (l : List (Str × V)) : List (Key × V) := l.foldl (fun c p => putK c (.inr p.1) p.2) []
theorem valV_dictV (l : List (Str × V)) (hn : (l.map Prod.fst).Nodup) (x : Str) : valV (dictV l) (.inr x) = l.lookup x := by
  have all : ∀ (l : List (Str × V)) (c : List (Key × V)), (l.map Prod.fst).Nodup → valV (l.foldl (fun c p => putK c (.inr p.1) p.2) c) (.inr x) = if x ∈ l.map Prod.fst then l.lookup x else valV c (.inr x) := by
    intro l
    induction l with
    | nil => intro c _; simp
    | cons p r ih =>
      intro c hn
      obtain ⟨y, v⟩ := p
      rw [List.map_cons, List.nodup_cons] at hn
      rw [List.foldl_cons, ih _ hn.2, valV_put, List.map_cons, List.lookup_cons]
      by_cases e : x = y
      · subst e
        rw [if_neg hn.1, if_pos rfl, if_pos (by simp)]
        simp
      · have e1 : (x == y) = false := by simpa using e
        have e2 : ¬ ((Sum.inr x : Key) = Sum.inr y) := fun z => e (Sum.inr.inj z)
        rw [e1, if_neg e2]
        simp only [List.mem_cons, e, false_or]
  have := all l [] hn
  unfold dictV
  rw [this]
  by_cases h : x ∈ l.map Prod.fst
  · rw [if_pos h]
  · rw [if_neg h, valV_nil]
    symm
    rw [List.lookup_eq_none_iff]
    intro p hp
    simp only [bne_iff_ne, ne_eq]
    exact fun e => h (List.mem_map.mpr ⟨p, hp, e.symm⟩)
/-- the pairs of texts and things that stand in a tuple -/
def Prs (H : Hp) (ps : List V) (kvs : List (Str × V)) : Prop := kvs.length = ps.length ∧ ∀ (i : Nat) (x : V) (p : Str × V), ps[i]? = some x → kvs[i]? = some p → ∃ b, x = .ref b ∧ H b = some (.tup [.str p.1, p.2])
section
variable {X : Cx}
theorem call_dictT (hc : X.calm = true) : CallR X (.type "dict") (fun vs H Q => ∃ p ps kvs, vs = [.ref p] ∧ H p = some (.tup ps) ∧ Prs H ps kvs ∧ ∀ l, H l = none → Q (.ref l) (upd H l (.dK (dictV kvs)))) := by
  intro pins s σ H vs us Q I r h
  obtain ⟨p, ps, kvs, rfl, hp, ⟨hl, hq⟩, q⟩ := h
  obtain ⟨u, rfl, rx⟩ := vals1 r
  cases rx
  obtain ⟨hz, its, rv, ol, gl, cl, nl, m, dl⟩ := (show ObjOk X.prog X.w H s.heap p (.tup ps) from I.hok p _ hp)
  have hlen := rv.length
  -- the pairs as values
  have each : ∀ (i : Nat) (x : V) (pr : Str × V), ps[i]? = some x → kvs[i]? = some pr → ∃ (b : Addr) (key val : Value) (o : Obj) (m : Nat), its[i]? = some (.ref b) ∧ (mixKind X.prog X.w).is (.inr pr.1) key = true ∧ RelV pr.2 val ∧ s.heap.get? b = some o ∧ o.cls = .type "tuple" ∧ o.data = .seq #[key, val] m := by
    intro i x pr e1 e2
    obtain ⟨b, rfl, hb⟩ := hq i x pr e1 e2
    obtain ⟨u, e3, ru⟩ := rv.get e1
    cases ru
    obtain ⟨_, it2, r2, o, go, co, no, m2, do2⟩ := (show ObjOk X.prog X.w H s.heap b (.tup [.str pr.1, pr.2]) from I.hok b _ hb)
    obtain ⟨k', v', rfl, ⟨tk, rfl⟩, rv'⟩ := r2.two
    exact ⟨b, _, v', o, m2, e3, mixKind_str _ _ _ _, rv', go, co, by simpa using do2⟩
  have kv : ∃ vals : List (Key × Value), KV (kvs.map fun p => ((.inr p.1 : Key), p.2)) vals ∧ ∀ (i : Nat) (x : V), ps[i]? = some x → ∃ (b : Addr) (k : Key) (key val : Value) (o : Obj) (m : Nat), vals[i]? = some (k, val) ∧ its[i]? = some (.ref b) ∧ (mixKind X.prog X.w).is k key = true ∧ s.heap.get? b = some o ∧ o.cls = .type "tuple" ∧ o.data = .seq #[key, val] m := by
    clear hp q rv dl hz
    induction kvs generalizing ps its with
    | nil =>
      refine ⟨[], .nil, fun i x e => ?_⟩
      have : ps = [] := List.eq_nil_of_length_eq_zero (by simpa using hl.symm)
      subst this
      simp at e
    | cons pr r ih =>
      cases ps with
      | nil => simp at hl
      | cons y ys =>
        cases its with
        | nil => simp at hlen
        | cons w0 ws =>
          obtain ⟨b, key, val, o, m, e1, e2, e3, e4, e5, e6⟩ := each 0 y pr rfl rfl
          obtain ⟨vals, k1, k2⟩ := ih ys (by simpa using hl) (fun i x p a b => hq (i + 1) x p (by simpa using a) (by simpa using b)) ws (by simpa using hlen) (fun i x p a b => by simpa using each (i + 1) x p (by simpa using a) (by simpa using b))
          refine ⟨(.inr pr.1, val) :: vals, .cons ⟨rfl, e3⟩ k1, fun i x e => ?_⟩
          cases i with
          | zero => exact ⟨b, .inr pr.1, key, val, o, m, rfl, e1, e2, e4, e5, e6⟩
          | succ i => simpa using k2 i x (by simpa using e)
  obtain ⟨vals, kv1, kv2⟩ := kv
  have lv : vals.length = its.length := by have := kv1.length; rw [List.length_map] at this; omega
  refine dict_of_pairs (kvs := vals) (I.ok.hd hc) gl cl dl nl (by simpa using lv) (fun i v e => ?_) (by simp; omega) fun h' tk qs kp => ?_
  · have e' : its[i]? = some v := by simpa using e
    have hi : i < its.length := (List.getElem?_eq_some_iff.mp e').1
    obtain ⟨b, k, key, val, o, m', e1, e2, e3, e4, e5, e6⟩ := kv2 i (ps[i]'(by omega)) (List.getElem?_eq_getElem _)
    rw [e'] at e2
    exact ⟨b, k, key, val, o, m', e1, Option.some.inj e2, e3, e4, e5, e6⟩
  · have rel : KV (dictV kvs) (merged [] vals) := by
      have all : ∀ (l : List (Str × V)) (vl : List (Key × Value)) (c : List (Key × V)) (cv : List (Key × Value)), KV (l.map fun p => ((.inr p.1 : Key), p.2)) vl → KV c cv → KV (l.foldl (fun c p => putK c (.inr p.1) p.2) c) (merged cv vl) := by
        intro l
        induction l with
        | nil => intro vl c cv h1 h2; cases h1; exact h2
        | cons p r ih =>
          intro vl c cv h1 h2
          cases h1 with
          | @cons _ q _ qs r1 r2 =>
            obtain ⟨k, v⟩ := q
            obtain ⟨rfl, rv⟩ := r1
            exact ih qs _ _ r2 (h2.put _ rv)
      exact all kvs vals [] [] kv1 .nil
    have big := I.big
    refine ⟨.ref s.heap.objs.size, _, I.laid (t' := tk) (fun b o e => kp b o e) (Nat.le_refl _) (o := .dK (dictV kvs)) ⟨?_, ?_, _, rel, qs⟩, rfl, q _ (I.hok.fresh (Nat.le_refl _))⟩
    · have e1 := rel.length
      have e2 := merged_length_le ([] : List (Key × Value)) vals
      simp at e2
      omega
    · simp; exact Nat.ne_of_gt big
end
end L2
set_option Elab.async false
set_option linter.all false
set_option maxRecDepth 100000
set_option maxHeartbeats 4000000
namespace L2
open PySem PySem.Spec PyProof.Rows
theorem comp_tupF {α : Type} {K : PySem.W.Frag} {a : Addr} {xs : List V} {src : List (Option Nat)} {g : TG} {tc : TT} {te : TE} {σ : St} {H : Hp} {Q : VK} (ds : List α) (p : α → Bool) (f : α → V) (hq : SqT K H a xs) (hl : ds.length = xs.length) (hz : xs.length ≤ sizeLine)
    (hs : ∀ (i : Nat) (x : V) (d : α), xs[i]? = some x → ds[i]? = some d → ∀ (R : VK) (N : Hp → Prop), (p d = true → R (f d) H) → (p d = false → N H) → g x (pick σ src) H fun σ3 H3 => tc σ3 H3 fun b H4 => if b = true then te σ3 H4 R else N H4)
    (q : ∀ D, H D = none → Q (.ref D) (upd H D (.lst ((ds.filter p).map f)))) :
    ∃ W : Nat → Nat → List V → Hp → Prop, (∃ m, W 0 m [] H) ∧ ∀ i m out H', W i m out H' →
      ((Itt K a).stop i H' ∧ ∀ D, H' D = none → Q (.ref D) (upd H' D (.lst out))) ∨
      ((Itt K a).go i H' ∧ out.length < sizeLine ∧ ∀ x H2, (Itt K a).yld i H' x H2 → g x (pick σ src) H2 fun σ3 H3 => tc σ3 H3 fun b H4 =>
        if b = true then te σ3 H4 fun v H5 => ∃ m', m' < m ∧ W (i + 1) m' (out ++ [v]) H5 else ∃ m', m' < m ∧ W (i + 1) m' out H4) := by
  refine ⟨fun i m out H' => H' = H ∧ i ≤ xs.length ∧ m = xs.length - i ∧ out = ((ds.take i).filter p).map f, ⟨_, rfl, Nat.zero_le _, rfl, rfl⟩, ?_⟩
  rintro i m out H' ⟨rfl, hi', rfl, rfl⟩
  by_cases hlt : i < xs.length
  · have hld : (((ds.take i).filter p).map f).length ≤ i := by
      rw [List.length_map]
      refine Nat.le_trans (List.length_filter_le _ _) ?_
      rw [List.length_take]; omega
    refine .inr ⟨⟨xs, xs[i], hq, by simp [hlt]⟩, by omega, fun x H2 y => ?_⟩
    obtain ⟨e, y⟩ := y
    subst e
    have hx := y xs hq
    have hd : ds[i]? = some ds[i] := List.getElem?_eq_getElem _
    refine hs i x _ hx hd (fun v H5 => ∃ m', m' < xs.length - i ∧ H5 = H2 ∧ i + 1 ≤ xs.length ∧ m' = xs.length - (i + 1) ∧ ((ds.take i).filter p).map f ++ [v] = ((ds.take (i + 1)).filter p).map f) (fun H5 => ∃ m', m' < xs.length - i ∧ H5 = H2 ∧ i + 1 ≤ xs.length ∧ m' = xs.length - (i + 1) ∧ ((ds.take i).filter p).map f = ((ds.take (i + 1)).filter p).map f) (fun hp => ?_) (fun hp => ?_)
    · refine ⟨_, ?_, rfl, hlt, rfl, ?_⟩
      · omega
      · rw [List.take_add_one, hd, List.filter_append, List.map_append]
        simp [hp]
    · refine ⟨_, ?_, rfl, hlt, rfl, ?_⟩
      · omega
      · rw [List.take_add_one, hd, List.filter_append, List.map_append]
        simp [hp]
  · have e : i = xs.length := by omega
    refine .inl ⟨⟨xs, hq, by omega⟩, fun D hD => ?_⟩
    have e2 : ds.take i = ds := List.take_of_length_le (by omega)
    rw [e2]
    exact q D hD
theorem rd_comp_tup {α : Type} {K : PySem.W.Frag} {a : Addr} {xs : List V} {src : List (Option Nat)} {g : TG} {te t0 : TE} {σ : St} {H : Hp} {Q : VK} (ds : List α) (f : α → V) (hq : SqT K H a xs) (hl : ds.length = xs.length) (hz : xs.length ≤ sizeLine) (h0 : ∀ R : VK, R (.ref a) H → t0 σ H R)
    (hs : ∀ (i : Nat) (x : V) (d : α), xs[i]? = some x → ds[i]? = some d → ∀ R : VK, R (f d) H → g x (pick σ src) H fun σ3 H3 => te σ3 H3 R) (q : ∀ D, H D = none → Q (.ref D) (upd H D (.lst (ds.map f)))) :
    tComp (iTup K t0) src g tTrue te σ H Q := h0 _ ⟨a, rfl, ⟨_, hq⟩, comp_tupF (Q := Q) ds (fun _ => true) f hq hl hz (fun i x d h1 h2 R N hR _ => hs i x d h1 h2 R (hR rfl)) (by rw [List.filter_eq_self.mpr (fun _ _ => rfl)]; exact q)⟩
theorem rd_comp_tupF {α : Type} {K : PySem.W.Frag} {a : Addr} {xs : List V} {src : List (Option Nat)} {g : TG} {tc : TT} {te t0 : TE} {σ : St} {H : Hp} {Q : VK} (ds : List α) (p : α → Bool) (f : α → V) (hq : SqT K H a xs) (hl : ds.length = xs.length) (hz : xs.length ≤ sizeLine) (h0 : ∀ R : VK, R (.ref a) H → t0 σ H R)
    (hs : ∀ (i : Nat) (x : V) (d : α), xs[i]? = some x → ds[i]? = some d → ∀ (R : VK) (N : Hp → Prop), (p d = true → R (f d) H) → (p d = false → N H) → g x (pick σ src) H fun σ3 H3 => tc σ3 H3 fun b H4 => if b = true then te σ3 H4 R else N H4)
    (q : ∀ D, H D = none → Q (.ref D) (upd H D (.lst ((ds.filter p).map f)))) :
    tComp (iTup K t0) src g tc te σ H Q := h0 _ ⟨a, rfl, ⟨_, hq⟩, comp_tupF (Q := Q) ds p f hq hl hz hs q⟩
theorem all_tup {α : Type} {K : PySem.W.Frag} {a : Addr} {xs : List V} {src : List (Option Nat)} {g : TG} {te t0 : TE} {σ : St} {H : Hp} {Q : VK} (ds : List α) (f : α → Bool) (hq : SqT K H a xs) (hl : ds.length = xs.length) (hz : xs.length ≤ sizeLine) (h0 : ∀ R : VK, R (.ref a) H → t0 σ H R)
    (hs : ∀ (i : Nat) (x : V) (d : α), xs[i]? = some x → ds[i]? = some d → ∀ R : VK, R (.bl (f d)) H → g x (pick σ src) H fun σ3 H3 => te σ3 H3 R) (q : ∀ H', Same H H' → Q (.bl (ds.all f)) H') :
    tCB (fun xs H Q => ∃ (a : Addr) (bs : List Bool), xs = [.ref a] ∧ SqL K H a (bs.map V.bl) ∧ Q (.bl (bs.all id)) H) (tCons (tComp (iTup K t0) src g tTrue te) tNil) σ H Q := by
  dsimp only [tCB, tCons, tNil]
  refine rd_comp_tup ds (fun d => .bl (f d)) hq hl hz h0 hs fun D hD => ?_
  refine ⟨D, ds.map f, rfl, SqL.of ?_, ?_⟩
  · rw [upd_same, List.map_map]; rfl
  · rw [List.all_map]
    exact q _ (same_new hD)
section
variable {X : Cx}
def rCatU (K : PySem.W.Frag) : R2 := fun x y H Q => ∃ a b xs ys, x = .ref a ∧ y = .ref b ∧ SqT K H a xs ∧ SqT K H b ys ∧ xs.length + ys.length ≤ sizeLine ∧
  (xs = [] → Q (.ref b) H) ∧ (xs ≠ [] → ys = [] → Q (.ref a) H) ∧ (xs ≠ [] → ys ≠ [] → ∀ p, H p = none → Q (.ref p) (upd H p (.tup (xs ++ ys))))
theorem op_catU : OpR X (binaryOp .Add) (rCatU X.K) := by
  intro pins s σ H x y v u Q I rx ry h
  obtain ⟨a, b, xs, ys, rfl, rfl, ha, hb, hz, q0, q1, q2⟩ := h
  by_cases hx : xs = []
  · cases rx
    cases ry
    obtain ⟨its, r1, p1, _⟩ := I.tuple ha
    obtain ⟨its2, r2, p2, _⟩ := I.tuple hb
    obtain ⟨⟨cls, dd, data, sl⟩, ho, hc, n, hd⟩ := id p1
    obtain ⟨⟨cls2, dd2, data2, sl2⟩, ho2, hc2, n2, hd2⟩ := id p2
    simp only at hc hd hc2 hd2
    subst hc hd hc2 hd2
    have e : its = [] := r1.nil_iff.mpr hx
    exact concat_meets ⟨_, ho, rfl⟩ ⟨_, ho2, rfl⟩ noFill_tuple_add seq_tuple_add PySem.F.slot_tuple_add PySem.F.entry_tuple_add (PySem.F.args_tuple_add_2 _ _)
      (tuple_addW0 a b its.toArray its2.toArray n n2 dd dd2 sl sl2 (by simp [e])) ⟨ho, ho2, .ref b, H, I, rfl, q0 hx⟩
  · exact op_catT pins s σ H _ _ v u Q I rx ry ⟨a, b, xs, ys, rfl, rfl, ha, hb, hx, hz, q1 hx, q2 hx⟩
end
end L2
set_option Elab.async false
set_option linter.all false
set_option maxRecDepth 100000
set_option maxHeartbeats 4000000
namespace L2
open PySem PySem.Spec PyProof.Rows
theorem hu1 {n : Nat} (h : n + 64 < cLine) : n + 1 < cLine := by omega
mutual
def Sx (H : Hp) : PyData → V → Prop
  | .none, v => v = .non
  | .bool b, v => v = .bl b
  | .int i, v => v = .int i
  | .str z, v => v = .str z ∧ z.cps.size ≤ sizeLine
  | .list ds, v => ∃ a xs, v = .ref a ∧ H a = some (.lst xs) ∧ SxAll H ds xs
  | .tuple ds, v => ∃ a xs, v = .ref a ∧ H a = some (.tup xs) ∧ SxAll H ds xs
  | .dict _, v => ∃ a kvs, v = .ref a ∧ H a = some (.dK kvs)
def SxAll (H : Hp) : List PyData → List V → Prop
  | [], xs => xs = []
  | d :: ds, xs => ∃ y ys, xs = y :: ys ∧ Sx H d y ∧ SxAll H ds ys
end
def kdD : PyData → Kd
  | .none => .non | .bool _ => .bl | .int _ => .int | .str _ => .str | .list _ => .lst | .tuple _ => .tup | .dict _ => .dct
section
variable {H H' : Hp} {K : PySem.W.Frag}
theorem sx_non : Sx H .none .non := by simp only [Sx]
theorem sx_bl (b : Bool) : Sx H (.bool b) (.bl b) := by simp only [Sx]
theorem sx_int (i : Int) : Sx H (.int i) (.int i) := by simp only [Sx]
theorem sx_str {z : Str} (h : z.cps.size ≤ sizeLine) : Sx H (.str z) (.str z) := by simp only [Sx]; exact ⟨trivial, h⟩
theorem sx_lst {a : Addr} {xs : List V} {ds : List PyData} (e : H a = some (.lst xs)) (h : SxAll H ds xs) : Sx H (.list ds) (.ref a) := by simp only [Sx]; exact ⟨a, xs, rfl, e, h⟩
theorem sx_tup {a : Addr} {xs : List V} {ds : List PyData} (e : H a = some (.tup xs)) (h : SxAll H ds xs) : Sx H (.tuple ds) (.ref a) := by simp only [Sx]; exact ⟨a, xs, rfl, e, h⟩
theorem sx_dct {a : Addr} {kvs : List (Key × V)} {l : List (PyData × PyData)} (e : H a = some (.dK kvs)) : Sx H (.dict l) (.ref a) := by simp only [Sx]; exact ⟨a, kvs, rfl, e⟩
theorem sx_nil : SxAll H [] [] := by simp only [SxAll]
theorem sx_cons {d : PyData} {ds : List PyData} {x : V} {xs : List V} (h : Sx H d x) (t : SxAll H ds xs) : SxAll H (d :: ds) (x :: xs) := by simp only [SxAll]; exact ⟨x, xs, rfl, h, t⟩
theorem Sx.tup {ds : List PyData} {v : V} (h : Sx H (.tuple ds) v) : ∃ a xs, v = .ref a ∧ H a = some (.tup xs) ∧ SxAll H ds xs := by simpa only [Sx] using h
theorem Sx.str {z : Str} {v : V} (h : Sx H (.str z) v) : v = .str z ∧ z.cps.size ≤ sizeLine := by simpa only [Sx] using h
theorem SxAll.nil {xs : List V} (h : SxAll H [] xs) : xs = [] := by simpa only [SxAll] using h
theorem SxAll.cons {d : PyData} {ds : List PyData} {xs : List V} (h : SxAll H (d :: ds) xs) : ∃ y ys, xs = y :: ys ∧ Sx H d y ∧ SxAll H ds ys := by simpa only [SxAll] using h
mutual
theorem Sx.same (s : Same H H') : ∀ (d : PyData) {v : V}, Sx H d v → Sx H' d v
  | .none, v, h => by simpa only [Sx] using h
  | .bool b, v, h => by simpa only [Sx] using h
  | .int i, v, h => by simpa only [Sx] using h
  | .str z, v, h => by simpa only [Sx] using h
  | .list ds, v, h => by
    have h : ∃ a xs, v = .ref a ∧ H a = some (.lst xs) ∧ SxAll H ds xs := by simpa only [Sx] using h
    obtain ⟨a, xs, rfl, e, t⟩ := h
    exact sx_lst (s _ _ e) (SxAll.same s ds t)
  | .tuple ds, v, h => by
    obtain ⟨a, xs, rfl, e, t⟩ := h.tup
    exact sx_tup (s _ _ e) (SxAll.same s ds t)
  | .dict l, v, h => by
    have h : ∃ a kvs, v = .ref a ∧ H a = some (.dK kvs) := by simpa only [Sx] using h
    obtain ⟨a, kvs, rfl, e⟩ := h
    exact sx_dct (s _ _ e)
theorem SxAll.same (s : Same H H') : ∀ (ds : List PyData) {xs : List V}, SxAll H ds xs → SxAll H' ds xs
  | [], xs, h => by rw [h.nil]; exact sx_nil
  | d :: ds, xs, h => by
    obtain ⟨y, ys, rfl, h1, h2⟩ := h.cons
    exact sx_cons (Sx.same s d h1) (SxAll.same s ds h2)
end
mutual
theorem Sx.dt : ∀ (d : PyData) {v : V}, d.canLay0 = true → Sx H d v → Dt K H d v
  | .none, v, _, h => by simp only [Sx] at h; simp only [Dt]; exact h
  | .bool b, v, _, h => by simp only [Sx] at h; simp only [Dt]; exact h
  | .int i, v, _, h => by simp only [Sx] at h; simp only [Dt]; exact h
  | .str z, v, _, h => by simp only [Sx] at h; simp only [Dt]; exact h.1
  | .list ds, v, c, h => by
    have h : ∃ a xs, v = .ref a ∧ H a = some (.lst xs) ∧ SxAll H ds xs := by simpa only [Sx] using h
    obtain ⟨a, xs, rfl, e, t⟩ := h
    simp only [Dt]
    exact ⟨a, xs, rfl, SqL.of e, SxAll.dt ds (by simpa only [PyData.canLay0] using c) t⟩
  | .tuple ds, v, c, h => by
    obtain ⟨a, xs, rfl, e, t⟩ := h.tup
    simp only [Dt]
    exact ⟨a, xs, rfl, SqT.of e, SxAll.dt ds (by simpa only [PyData.canLay0] using c) t⟩
  | .dict l, v, c, h => by simp only [PyData.canLay0] at c; exact absurd c Bool.false_ne_true
theorem SxAll.dt : ∀ (ds : List PyData) {xs : List V}, PyData.canLayAll0 ds = true → SxAll H ds xs → DtAll K H ds xs
  | [], xs, _, h => by simp only [DtAll]; exact h.nil
  | d :: ds, xs, c, h => by
    obtain ⟨y, ys, rfl, h1, h2⟩ := h.cons
    simp only [PyData.canLayAll0, Bool.and_eq_true] at c
    simp only [DtAll]
    exact ⟨y, ys, rfl, Sx.dt d c.1 h1, SxAll.dt ds c.2 h2⟩
end
theorem Sx.kd : ∀ {d : PyData} {v : V}, Sx H d v → KdOf H v (kdD d)
  | .none, v, h => by simp only [Sx] at h; subst h; exact .non
  | .bool b, v, h => by simp only [Sx] at h; subst h; exact .bl b
  | .int i, v, h => by simp only [Sx] at h; subst h; exact .int i
  | .str z, v, h => by simp only [Sx] at h; obtain ⟨rfl, _⟩ := h; exact .str z
  | .list ds, v, h => by simp only [Sx] at h; obtain ⟨a, xs, rfl, e, _⟩ := h; exact .lst e
  | .tuple ds, v, h => by simp only [Sx] at h; obtain ⟨a, xs, rfl, e, _⟩ := h; exact .tup e
  | .dict l, v, h => by simp only [Sx] at h; obtain ⟨a, kvs, rfl, e⟩ := h; exact .dct e
theorem SxAll.len : ∀ {ds : List PyData} {xs : List V}, SxAll H ds xs → ds.length = xs.length
  | [], xs, h => by rw [h.nil]; rfl
  | d :: ds, xs, h => by
    obtain ⟨y, ys, rfl, _, h2⟩ := h.cons
    rw [List.length_cons, List.length_cons, SxAll.len h2]
theorem SxAll.get : ∀ {ds : List PyData} {xs : List V} (i : Nat) {x : V} {d : PyData}, SxAll H ds xs → xs[i]? = some x → ds[i]? = some d → Sx H d x
  | [], xs, i, x, d, h, e1, e2 => by simp at e2
  | d0 :: ds, xs, i, x, d, h, e1, e2 => by
    obtain ⟨y, ys, rfl, h1, h2⟩ := h.cons
    cases i with
    | zero => simp at e1 e2; subst e1 e2; exact h1
    | succ i => exact SxAll.get i h2 (by simpa using e1) (by simpa using e2)
theorem SxAll.app : ∀ {ds es : List PyData} {xs ys : List V}, SxAll H ds xs → SxAll H es ys → SxAll H (ds ++ es) (xs ++ ys)
  | [], es, xs, ys, h, k => by rw [h.nil]; exact k
  | d :: ds, es, xs, ys, h, k => by
    obtain ⟨y, zs, rfl, h1, h2⟩ := h.cons
    exact sx_cons h1 (SxAll.app h2 k)
theorem SxAll.take : ∀ {ds : List PyData} {xs : List V} (n : Nat), SxAll H ds xs → SxAll H (ds.take n) (xs.take n)
  | [], xs, n, h => by rw [h.nil]; simp only [List.take_nil]; exact sx_nil
  | d :: ds, xs, 0, h => by simp only [List.take_zero]; exact sx_nil
  | d :: ds, xs, n + 1, h => by
    obtain ⟨y, zs, rfl, h1, h2⟩ := h.cons
    exact sx_cons h1 (SxAll.take n h2)
theorem SxAll.drop : ∀ {ds : List PyData} {xs : List V} (n : Nat), SxAll H ds xs → SxAll H (ds.drop n) (xs.drop n)
  | [], xs, n, h => by rw [h.nil]; simp only [List.drop_nil]; exact sx_nil
  | d :: ds, xs, 0, h => h
  | d :: ds, xs, n + 1, h => by
    obtain ⟨y, zs, rfl, h1, h2⟩ := h.cons
    exact SxAll.drop n h2
theorem SxAll.snoc {ds : List PyData} {xs : List V} {d : PyData} {x : V} (h : SxAll H ds xs) (k : Sx H d x) : SxAll H (ds ++ [d]) (xs ++ [x]) := h.app (sx_cons k sx_nil)
end
end L2
set_option Elab.async false
set_option linter.all false
set_option maxRecDepth 100000
set_option maxHeartbeats 4000000
namespace L2
open PySem PySem.Spec PyProof.Rows
def Md (te : TE) (σ : St) (H : Hp) (d : PyData) : Prop := ∀ H1, Same H H1 → ∀ R : VK, (∀ v H2, Same H1 H2 → Sx H2 d v → R v H2) → te σ H1 R
def MdA (ta : TA) (σ : St) (H : Hp) (ds : List PyData) : Prop := ∀ H1, Same H H1 → ∀ R : List V → Hp → Prop, (∀ vs H2, Same H1 H2 → SxAll H2 ds vs → R vs H2) → ta σ H1 R
section
variable {σ : St} {H : Hp} {te tb : TE} {ta : TA} {d : PyData} {ds : List PyData}
theorem smz {n : Nat} (h : n ≤ 1000) : n ≤ sizeLine := Nat.le_of_lt (small1000 h)
theorem mk_non : Md (tC .non) σ H .none := fun H1 _ R q => q _ H1 (Same.refl _) sx_non
theorem mk_bl {b : Bool} : Md (tC (.bl b)) σ H (.bool b) := fun H1 _ R q => q _ H1 (Same.refl _) (sx_bl b)
theorem mk_int {i : Int} : Md (tC (.int i)) σ H (.int i) := fun H1 _ R q => q _ H1 (Same.refl _) (sx_int i)
theorem mk_str {z : Str} (h : z.cps.size ≤ 1000) : Md (tC (.str z)) σ H (.str z) := fun H1 _ R q => q _ H1 (Same.refl _) (sx_str (smz h))
theorem mk_var {i : Nat} {v : V} (e : σ[i]? = some (some v)) (h : Sx H d v) : Md (tVar i) σ H d := fun H1 s R q => ⟨v, e, q v H1 (Same.refl _) (Sx.same s d h)⟩
theorem mkA_nil : MdA tNil σ H [] := fun H1 _ R q => q _ H1 (Same.refl _) sx_nil
theorem mkA_cons (h : Md te σ H d) (k : MdA ta σ H ds) : MdA (tCons te ta) σ H (d :: ds) := fun H1 s1 R q =>
  h H1 s1 _ fun v H2 s2 hv => k H2 (s1.trans s2) _ fun vs H3 s3 hvs => q (v :: vs) H3 (s2.trans s3) (sx_cons (Sx.same s3 d hv) hvs)
theorem mk_tup (k : MdA ta σ H ds) (hz : ds.length ≤ 1000) : Md (tTup ta) σ H (.tuple ds) := fun H1 s1 R q =>
  k H1 s1 _ fun vs H2 s2 hvs => ⟨by rw [← hvs.len]; exact smz hz, fun p hp => q _ _ (s2.trans (same_new hp)) (sx_tup upd_same (SxAll.same (same_new hp) _ hvs))⟩
theorem mk_lst (k : MdA ta σ H ds) (hz : ds.length ≤ 1000) : Md (tLst ta) σ H (.list ds) := fun H1 s1 R q =>
  k H1 s1 _ fun vs H2 s2 hvs => ⟨by rw [← hvs.len]; exact smz hz, fun p hp => q _ _ (s2.trans (same_new hp)) (sx_lst upd_same (SxAll.same (same_new hp) _ hvs))⟩
/-- a display of data, item by item -/
theorem Sx.lst {v : V} (h : Sx H (.list ds) v) : ∃ a xs, v = .ref a ∧ H a = some (.lst xs) ∧ SxAll H ds xs := by simpa only [Sx] using h
/-- tuples stay where only lists change -/
def TSame (H H' : Hp) : Prop := ∀ b xs, H b = some (.tup xs) → H' b = some (.tup xs)
theorem Same.t {H H' : Hp} (s : Same H H') : TSame H H' := fun b xs e => s _ _ e
theorem tsame_lst {H : Hp} {a : Addr} {xs ys : List V} (e : H a = some (.lst xs)) : TSame H (upd H a (.lst ys)) := fun b zs eb => by
  rw [upd_ne (ne_of eb e (by simp))]; exact eb
theorem TSame.trans {H H1 H2 : Hp} (a : TSame H H1) (b : TSame H1 H2) : TSame H H2 := fun c xs e => b _ _ (a _ _ e)
end
mutual
/-- data of texts and tuples alone -/
def flatT : PyData → Bool
  | .list _ => false
  | .dict _ => false
  | .tuple ds => flatTs ds
  | .none | .bool _ | .int _ | .str _ => true
def flatTs : List PyData → Bool
  | [] => true
  | d :: ds => flatT d && flatTs ds
end
mutual
theorem Sx.tsame {H H' : Hp} (s : TSame H H') : ∀ (d : PyData) {v : V}, flatT d = true → Sx H d v → Sx H' d v
  | .none, v, _, h => by simpa only [Sx] using h
  | .bool b, v, _, h => by simpa only [Sx] using h
  | .int i, v, _, h => by simpa only [Sx] using h
  | .str z, v, _, h => by simpa only [Sx] using h
  | .list ds, v, f, h => by simp only [flatT] at f; exact absurd f Bool.false_ne_true
  | .tuple ds, v, f, h => by
    obtain ⟨a, xs, rfl, e, t⟩ := h.tup
    exact sx_tup (s _ _ e) (SxAll.tsame s ds (by simpa only [flatT] using f) t)
  | .dict l, v, f, h => by simp only [flatT] at f; exact absurd f Bool.false_ne_true
theorem SxAll.tsame {H H' : Hp} (s : TSame H H') : ∀ (ds : List PyData) {xs : List V}, flatTs ds = true → SxAll H ds xs → SxAll H' ds xs
  | [], xs, _, h => by rw [h.nil]; exact sx_nil
  | d :: ds, xs, f, h => by
    obtain ⟨y, ys, rfl, h1, h2⟩ := h.cons
    simp only [flatTs, Bool.and_eq_true] at f
    exact sx_cons (Sx.tsame s d f.1 h1) (SxAll.tsame s ds f.2 h2)
end
theorem catU_of {K : PySem.W.Frag} {a b : Addr} {xs ys : List V} {H : Hp} {Q : VK} (ea : H a = some (.tup xs)) (eb : H b = some (.tup ys)) (hz : xs.length + ys.length ≤ 1000) (q : ∀ p H', Same H H' → H' p = some (.tup (xs ++ ys)) → Q (.ref p) H') : rCatU K (.ref a) (.ref b) H Q := by
  refine ⟨a, b, xs, ys, rfl, rfl, SqT.of ea, SqT.of eb, smz hz, fun h => ?_, fun _ h => ?_, fun _ _ p hp => ?_⟩
  · subst h; exact q b H (Same.refl H) eb
  · subst h; exact q a H (Same.refl H) (by rw [List.append_nil]; exact ea)
  · exact q p _ (same_new hp) upd_same
end L2
set_option Elab.async false
set_option linter.all false
set_option maxRecDepth 100000
set_option maxHeartbeats 4000000
namespace L2
open PySem PySem.Spec PyProof.Rows
section
variable {prog : Program} {w : World} {A : Around} {E : Value → Shared → Prop} {s : Shared}
end
section
variable {prog : Program} {w : World} {A : Around} {E : Value → Shared → Prop} {s : Shared} {n l0 l1 : Nat} {i : Nat} {xs0 xs1 : Array Value}
end
end L2
set_option Elab.async false
set_option linter.all false
set_option maxRecDepth 100000
set_option maxHeartbeats 4000000
namespace L2
open PySem PySem.Spec PyProof.Rows
section
variable {X : Cx} {pins : List (Addr × Obj)} {σ : St} {H : Hp} {s : Shared} {h' : Heap}
end
end L2
set_option Elab.async false
set_option linter.all false
set_option maxRecDepth 100000
set_option maxHeartbeats 4000000
namespace L2
open PySem PySem.Spec PyProof.Rows
theorem SqT.same {K : PySem.W.Frag} {H H' : Hp} {a : Addr} {xs : List V} (s : Same H H') (h : SqT K H a xs) : SqT K H' a xs := by
  rcases h with (h | ⟨o, h⟩) | h
  · exact .inl (.inl (s _ _ h))
  · exact .inl (.inr ⟨o, s _ _ h⟩)
  · exact .inr h
theorem SqL.same {K : PySem.W.Frag} {H H' : Hp} {a : Addr} {xs : List V} (s : Same H H') (h : SqL K H a xs) : SqL K H' a xs := by
  rcases h with (h | ⟨o, h⟩) | h
  · exact .inl (.inl (s _ _ h))
  · exact .inl (.inr ⟨o, s _ _ h⟩)
  · exact .inr h
end L2
set_option Elab.async false
set_option linter.all false
set_option maxRecDepth 100000
set_option maxHeartbeats 4000000
namespace L2
open PySem PySem.Spec PyProof.Rows
def rMulS : R2 := fun x y H Q => ∃ z n, x = .str z ∧ y = .int n ∧ MulOk z n ∧ Q (.str (PySem.Txt.mul z n)) H
theorem op_mul_str {X : Cx} : OpR X (binaryOp .Mult) rMulS := by
  intro pins s σ H x y v u Q I rx ry h
  obtain ⟨z, n, rfl, rfl, hm, q⟩ := h
  obtain ⟨t, rfl⟩ := rx
  obtain ⟨t', rfl⟩ := ry
  exact SB.mul hm fun t'' k => ⟨.str _, H, I.tok k, ⟨_, rfl⟩, q⟩
section
variable {σ : St} {H : Hp} {te tb : TE} {K : PySem.W.Frag}
theorem mk_mulS {z y : Str} {n : Int} (h : Md te σ H (.str z)) (k : Md tb σ H (.int n)) (hm : MulOk z n) (e : PySem.Txt.mul z n = y) (hc : y.cps.size ≤ 1000) : Md (tOp rMulS te tb) σ H (.str y) := fun H1 s1 R q =>
  h H1 s1 _ fun v H2 s2 hv => k H2 (s1.trans s2) _ fun u H3 s3 hu => ⟨z, n, hv.str.1, (by simpa only [Sx] using hu), hm, e ▸ q _ H3 (s2.trans s3) (sx_str (smz (e ▸ hc)))⟩
theorem mk_cat {ds es : List PyData} (h : Md te σ H (.list ds)) (k : Md tb σ H (.list es)) (hz : ds.length + es.length ≤ 1000) : Md (tOp rCat te tb) σ H (.list (ds ++ es)) := fun H1 s1 R q =>
  h H1 s1 _ fun v H2 s2 hv => k H2 (s1.trans s2) _ fun u H3 s3 hu => by
    obtain ⟨a, xs, rfl, ea, ha⟩ := Sx.lst hv
    obtain ⟨b, ys, rfl, eb, hb⟩ := Sx.lst hu
    refine ⟨a, b, xs, ys, rfl, rfl, s3 _ _ ea, eb, smz (by rw [← ha.len, ← hb.len]; exact hz), fun p hp => ?_⟩
    have s4 := same_new (o := .lst (xs ++ ys)) hp
    exact q _ _ ((s2.trans s3).trans s4) (sx_lst upd_same (SxAll.app (SxAll.same (s3.trans s4) _ ha) (SxAll.same s4 _ hb)))
end
end L2
set_option Elab.async false
set_option linter.all false
set_option maxRecDepth 100000
set_option maxHeartbeats 4000000
namespace L2
open PySem PySem.Spec PyProof.Rows
def DkK (w : World) (K : PySem.W.Frag) (a : Addr) (kvs : List (Str × V)) : Prop := (a == sysModules) = false ∧ ∃ (o : Obj) (es : Array DictEntry) (ep : Nat), K.lookup a = some o ∧ o.ExactDict ∧ o.data = .dict es ep ∧
  Paired (fun (e : DictEntry) (kv : Str × V) => e.hash = hashStr w kv.1 ∧ (∃ t, e.key = .str kv.1 t) ∧ RelV kv.2 e.val) es.toList kvs ∧ (kvs.map Prod.fst).Nodup
theorem valV_txt (z : Str) : ∀ kvs : List (Str × V), valV (kvs.map fun p => ((.inr p.1 : Key), p.2)) (.inr z) = kvs.lookup z
  | [] => rfl
  | (x, v) :: r => by
    rw [List.map_cons, List.lookup_cons]
    by_cases e : z = x
    · subst e
      rw [valV_pos rfl]
      simp
    · have e1 : (z == x) = false := by simpa using e
      rw [valV_neg (fun q => e (Sum.inr.inj q).symm), e1]
      exact valV_txt z r
section
variable {X : Cx} {pins : List (Addr × Obj)} {σ : St} {H : Hp} {s : Shared} {a : Addr} {kvs : List (Str × V)}
theorem dkK_at (I : Inv X pins σ H s) (d : DkK X.w X.K a kvs) : (a == sysModules) = false ∧ ∃ vs, KV (kvs.map fun p => ((.inr p.1 : Key), p.2)) vs ∧ s.heap.DictOf (mixKind X.prog X.w) a vs := by
  obtain ⟨ns, o, es, ep, hk, hx, hd, hp, hn⟩ := d
  have all : ∀ (es : List DictEntry) (kvs : List (Str × V)), Paired (fun (e : DictEntry) (kv : Str × V) => e.hash = hashStr X.w kv.1 ∧ (∃ t, e.key = .str kv.1 t) ∧ RelV kv.2 e.val) es kvs →
      ∃ vs : List (Key × Value), KV (kvs.map fun p => ((.inr p.1 : Key), p.2)) vs ∧ Pairs (mixKind X.prog X.w) es vs ∧ vs.map (·.1) = kvs.map (fun p => (.inr p.1 : Key)) ∧ ∀ e ∈ es, ∃ k, (mixKind X.prog X.w).is k e.key = true ∧ e.hash = (mixKind X.prog X.w).hash k := by
    intro es kvs hp
    induction hp with
    | nil => exact ⟨[], .nil, .nil, rfl, by simp⟩
    | @cons e kv es' kvs' h t ih =>
      obtain ⟨vs, k1, k2, k3, k4⟩ := ih
      obtain ⟨h1, ⟨tk, h2⟩, h3⟩ := h
      have hi : (mixKind X.prog X.w).is (.inr kv.1) e.key = true := by rw [h2]; exact mixKind_str _ _ _ _
      refine ⟨(.inr kv.1, e.val) :: vs, .cons ⟨rfl, h3⟩ k1, .cons hi rfl k2, by rw [List.map_cons, List.map_cons, k3], fun e' he => ?_⟩
      rcases List.mem_cons.mp he with rfl | he
      · exact ⟨.inr kv.1, hi, h1⟩
      · exact k4 e' he
  obtain ⟨vs, k1, k2, k3, k4⟩ := all _ _ hp
  refine ⟨ns, vs, k1, o, es, ep, I.kIn a o hk, hx, hd, fun e he => k4 e (by simpa using he), k2, ?_⟩
  rw [k3]
  have : (kvs.map fun p => (.inr p.1 : Key)) = (kvs.map Prod.fst).map Sum.inr := by rw [List.map_map]; rfl
  rw [this]
  exact List.Pairwise.map _ (fun x y h q => h (Sum.inr.inj q)) hn
def rGetD (w : World) (K : PySem.W.Frag) : V → List V → Hp → VK → Prop := fun x vs H Q => ∃ a z kvs, x = .ref a ∧ vs = [.str z] ∧ DkK w K a kvs ∧ Q ((kvs.lookup z).getD .non) H
theorem mt_getD {w : World} {K : PySem.W.Frag} (hw : X.w = w) (hK : X.K = K) : MtR X "dict.get" (rGetD w K) := by
  subst hw hK
  intro pins s σ H x vs v us Q I rx rv h
  obtain ⟨a, z, kvs, rfl, rfl, d, q⟩ := h
  cases rx
  obtain ⟨u, rfl, ru⟩ := rv.one
  obtain ⟨ns, vs, rel, dd⟩ := dkK_at I d
  refine call_meetsIn PySem.F.slot_dict_get dd.typeIs PySem.F.entry_dict_get (PySem.F.args_dict_get_2 _ _) (meets_dict_get (mixKind X.prog X.w) a (kV_is (k := .inr z) ru) ns) ⟨_, dd.mapOf, _, H, I.tok _, ?_, q⟩
  rw [← valV_txt]
  exact (rel.val (.inr z)).getD rfl
theorem pe_dgetN {w : World} {K : PySem.W.Frag} {o e : Expr} {apos cpos : Pos} {td ty : TE} (hw : X.w = w) (hK : X.K = K) (ho : PE X o td) (he : PE X e ty) (m : M1 X o "get" apos e cpos) : PE X (.Call (.Attribute o "get" apos) [e] [] cpos)
    (fun σ H Q => td σ H fun x H1 => ∃ a kvs, x = .ref a ∧ DkK w K a kvs ∧ ty σ H1 fun y H2 => ∃ z, y = .str z ∧ Q ((kvs.lookup z).getD .non) H2) := by
  subst hw hK
  intro pins s σ H Q I h
  refine wpAny_Call_method m.base m.few m.line PySem.F.plainAttrs_dict PySem.F.slot_dict_get PySem.F.type_dict_get (thn (ho pins s σ H _ I h) fun u s1 ⟨x, H1, I1, rx, a, kvs, ex, d, q1⟩ => ?_)
  subst ex
  obtain rfl : u = Value.ref a := rx
  obtain ⟨ns, vs, rel, dd⟩ := dkK_at I1 d
  obtain ⟨ob, _, _, h1, h2, _⟩ := id dd
  refine ⟨dd.typeIs, fun b q => by cases q; exact ⟨ob, h1, h2.2.1⟩, ?_⟩
  rw [m.trees]
  refine Calls.callWith_builtin rfl (Calls.evalArgs_plain (Calls.spliced_cons (thn (he pins s1 σ H1 _ I1 q1) fun iv s2 ⟨y, H2, I2, ry, z, ey, q2⟩ => Calls.spliced_nil ?_)))
  subst ey
  exact mt_getD rfl rfl pins s2 σ H2 (.ref a) [.str z] _ [iv] Q I2 rfl (.cons ry .nil) ⟨a, z, kvs, rfl, rfl, d, q2⟩
end
end L2
set_option Elab.async false
set_option linter.all false
set_option maxRecDepth 100000
set_option maxHeartbeats 4000000
namespace L2
open PySem PySem.Spec PyProof.Rows
theorem bt_min : bootBuiltins "min" = some (.builtin "min") := by decide +kernel
section
variable {K : PySem.W.Frag} {σ : St} {H : Hp}
end
end L2
set_option Elab.async false
set_option linter.all false
set_option maxRecDepth 100000
set_option maxHeartbeats 4000000
namespace L2
open PySem PySem.Spec PyProof.Rows
section
variable {prog : Program} {w : World} {A : Around} {E : Value → Shared → Prop} {s : Shared} {n l0 l1 l2 : Nat} {i : Nat} {xs0 xs1 xs2 : Array Value}
end
end L2
set_option Elab.async false
set_option linter.all false
set_option maxRecDepth 100000
set_option maxHeartbeats 4000000
namespace L2
open PySem PySem.Spec PyProof.Rows
theorem Vals.three : ∀ {x y z : V} {us : List Value}, Vals [x, y, z] us → ∃ u v w, us = [u, v, w] ∧ RelV x u ∧ RelV y v ∧ RelV z w
  | _, _, _, _, .cons r (.cons q (.cons p .nil)) => ⟨_, _, _, rfl, r, q, p⟩
end L2
set_option Elab.async false
set_option linter.all false
set_option maxRecDepth 100000
set_option maxHeartbeats 4000000
namespace L2
open PySem PySem.Spec PyProof.Rows
section
variable {K : PySem.W.Frag} {σ : St} {H : Hp}
theorem Md.run {te : TE} {d : PyData} {R : VK} (h : Md te σ H d) (hR : ∀ v H2, Same H H2 → Sx H2 d v → R v H2) : te σ H R := h H (Same.refl H) R hR
end
end L2
set_option Elab.async false
set_option linter.all false
set_option maxRecDepth 100000
set_option maxHeartbeats 4000000
namespace L2
open PySem PySem.Spec PyProof.Rows
section
variable {X : Cx}
theorem vals_strs : ∀ {texts : List Str} {us : List Value}, Vals (texts.map V.str) us → ∃ l, us = strValues l ∧ l.map (·.1) = texts
  | [], _, .nil => ⟨[], rfl, rfl⟩
  | z :: zs, _, .cons r q => by
    obtain ⟨t, rfl⟩ := r
    obtain ⟨l, rfl, e⟩ := vals_strs q
    exact ⟨(z, t) :: l, rfl, by rw [List.map_cons, e]⟩
def rJoin (K : PySem.W.Frag) : V → List V → Hp → VK → Prop := fun x vs H Q => ∃ z l texts, x = .str z ∧ vs = [.ref l] ∧ SqL K H l (texts.map V.str) ∧ JoinOk z texts = true ∧ Q (.str (PySem.Txt.join z texts)) H
theorem mt_join : MtR X "str.join" (rJoin X.K) := by
  intro pins s σ H x vs v us Q I rx rv h
  obtain ⟨z, l, texts, rfl, rfl, hl, hok, q⟩ := h
  obtain ⟨t, rfl⟩ := rx
  obtain ⟨u, rfl, ru⟩ := rv.one
  cases ru
  obtain ⟨its, r1, p1, _⟩ := I.list hl
  obtain ⟨ll, rfl, e⟩ := vals_strs r1
  exact PySem.SC.join p1.isList e hok fun t' k => ⟨.str _, H, I.tok k, ⟨_, rfl⟩, q⟩
end
/-- all but what stands at ls is as it was -/
def But (ls : List Addr) (H H' : Hp) : Prop := ∀ b o, H b = some o → b ∉ ls → H' b = some o
theorem But.refl {ls : List Addr} {H : Hp} : But ls H H := fun _ _ e _ => e
theorem But.trans {ls : List Addr} {H H1 H2 : Hp} (a : But ls H H1) (b : But ls H1 H2) : But ls H H2 := fun c o e n => b c o (a c o e n) n
theorem Same.but {ls : List Addr} {H H' : Hp} (s : Same H H') : But ls H H' := fun b o e _ => s b o e
theorem But.more {ls ms : List Addr} {H H' : Hp} (a : But ls H H') (h : ∀ l ∈ ls, l ∈ ms) : But ms H H' := fun b o e n => a b o e fun z => n (h b z)
theorem but_upd {ls : List Addr} {H : Hp} {l : Addr} {o : HO} (h : l ∈ ls) : But ls H (upd H l o) := fun b u e n => by
  have hb : b ≠ l := fun z => n (by rw [z]; exact h)
  rw [upd_ne hb]; exact e
/-- where only lists change tuples stay -/
theorem But.t {ls : List Addr} {H H' : Hp} (a : But ls H H') (h : ∀ l ∈ ls, ∃ xs, H l = some (.lst xs)) : TSame H H' := fun b xs e => a b _ e fun z => by
  obtain ⟨ys, e'⟩ := h b z
  rw [e] at e'
  cases e'
/-- what was new ahead may change -/
theorem But.less {ls : List Addr} {l : Addr} {H H' : Hp} (a : But (l :: ls) H H') (n : H l = none) : But ls H H' := fun b o e m => a b o e fun z => by
  rcases List.mem_cons.mp z with z | z
  · subst z; rw [n] at e; cases e
  · exact m z
end L2
set_option Elab.async false
set_option linter.all false
set_option maxRecDepth 100000
set_option maxHeartbeats 4000000
namespace L2
open PySem PySem.Spec PyProof.Rows
theorem mt_joinK {X : Cx} {K : PySem.W.Frag} (h : X.K = K) : MtR X "str.join" (rJoin K) := h ▸ mt_join
/-- over a range, whatever changes meanwhile -/
theorem comp_rngW {src : List (Option Nat)} {g : TG} {te : TE} {σ : St} {H : Hp} {Q : VK} {n : Nat} (Iv : Nat → List V → Hp → Prop) (hz : n ≤ 1000) (h0 : Iv 0 [] H)
    (hs : ∀ i out H1, i < n → out.length = i → Iv i out H1 → ∀ R : VK, (∀ v H5, Iv (i + 1) (out ++ [v]) H5 → R v H5) → g (.int i) (pick σ src) H1 fun σ3 H3 => te σ3 H3 R)
    (q : ∀ D out H', out.length = n → Iv n out H' → H' D = none → Q (.ref D) (upd H' D (.lst out))) :
    ∃ W : Nat → Nat → List V → Hp → Prop, (∃ m, W 0 m [] H) ∧ ∀ i m out H', W i m out H' →
      ((Itr 0 n).stop i H' ∧ ∀ D, H' D = none → Q (.ref D) (upd H' D (.lst out))) ∨
      ((Itr 0 n).go i H' ∧ out.length < sizeLine ∧ ∀ x H2, (Itr 0 n).yld i H' x H2 → g x (pick σ src) H2 fun σ3 H3 => tTrue σ3 H3 fun b H4 =>
        if b = true then te σ3 H4 fun v H5 => ∃ m', m' < m ∧ W (i + 1) m' (out ++ [v]) H5 else ∃ m', m' < m ∧ W (i + 1) m' out H4) := by
  refine ⟨fun i m out H' => m = n - i ∧ i ≤ n ∧ out.length = i ∧ Iv i out H', ⟨_, rfl, Nat.zero_le _, rfl, h0⟩, ?_⟩
  rintro i m out H' ⟨rfl, hi, hl, p⟩
  by_cases hlt : i < n
  · refine .inr ⟨hlt, Nat.lt_of_lt_of_le (by omega) (smz hz), fun x H2 y => ?_⟩
    obtain ⟨e, y⟩ := y
    subst e y
    rw [Int.zero_add]
    exact hs i out _ hlt hl p (fun v H5 => ∃ m', m' < n - i ∧ m' = n - (i + 1) ∧ i + 1 ≤ n ∧ (out ++ [v]).length = i + 1 ∧ Iv (i + 1) (out ++ [v]) H5) fun v H5 h5 => ⟨n - (i + 1), by omega, rfl, hlt, by rw [List.length_append, hl]; rfl, h5⟩
  · have e : i = n := by omega
    subst e
    exact .inl ⟨Nat.le_refl _, fun D hD => q D out H' hl p hD⟩
theorem rd_comp_rngW {src : List (Option Nat)} {g : TG} {te : TE} {ta : TA} {σ : St} {H : Hp} {Q : VK} (Iv : Nat → List V → Hp → Prop) (N : Nat) (hN : N ≤ 1000) (h0 : ∀ R : List V → Hp → Prop, (∀ (n : Nat) H1, n ≤ N → Iv 0 [] H1 → R [.int n] H1) → ta σ H R)
    (hs : ∀ i out H1, i < N → out.length = i → Iv i out H1 → ∀ R : VK, (∀ v H5, Iv (i + 1) (out ++ [v]) H5 → R v H5) → g (.int i) (pick σ src) H1 fun σ3 H3 => te σ3 H3 R)
    (q : ∀ D out H', out.length ≤ N → Iv out.length out H' → H' D = none → Q (.ref D) (upd H' D (.lst out))) : tComp (iRng1 ta) src g tTrue te σ H Q :=
  h0 _ fun n H1 hn hI => ⟨(n : Int), rfl, by omega, by omega, by
    rw [Int.toNat_natCast]
    exact comp_rngW (Q := Q) Iv (by omega) hI (fun i out H1 hi => hs i out H1 (by omega)) fun D out H' hl hI' hD => q D out H' (by omega) (hl ▸ hI') hD⟩
theorem rd_andB {ta tb : TT} {σ : St} {H : Hp} {Q : Bool → Hp → Prop} {b : Bool} {Pc : Bool → Prop} (ha : ∀ R : Bool → Hp → Prop, R b H → ta σ H R) (hb : b = true → ∀ R : Bool → Hp → Prop, (∀ c H1, Same H H1 → Pc c → R c H1) → tb σ H R) (ht : b = false → Pc false) (q : ∀ c H1, Same H H1 → Pc c → Q c H1) : tAnd ta tb σ H Q := by
  refine ha _ ?_
  cases b with
  | false => exact q false H (Same.refl H) (ht rfl)
  | true => exact hb rfl Q q
theorem rd_orB {ta tb : TT} {σ : St} {H : Hp} {Q : Bool → Hp → Prop} {b : Bool} {Pc : Bool → Prop} (ha : ∀ R : Bool → Hp → Prop, R b H → ta σ H R) (hb : b = false → ∀ R : Bool → Hp → Prop, (∀ c H1, Same H H1 → Pc c → R c H1) → tb σ H R) (ht : b = true → Pc true) (q : ∀ c H1, Same H H1 → Pc c → Q c H1) : tOr ta tb σ H Q := by
  refine ha _ ?_
  cases b with
  | true => exact q true H (Same.refl H) (ht rfl)
  | false => exact hb rfl Q q
end L2
set_option Elab.async false
set_option linter.all false
set_option maxRecDepth 100000
set_option maxHeartbeats 4000000
namespace L2
open PySem PySem.Spec PyProof.Rows
end L2
set_option Elab.async false
set_option linter.all false
set_option maxRecDepth 100000
set_option maxHeartbeats 4000000
namespace L2
open PySem PySem.Spec PyProof.Rows PySem.SeqAt
end L2
set_option Elab.async false
set_option linter.all false
set_option maxRecDepth 100000
set_option maxHeartbeats 4000000
namespace L2
open PySem PySem.Spec PyProof.Rows
theorem list_extendW (l : Addr) (items : Array Value) (n : Nat) (b : Addr) (items2 : Array Value) (n2 : Nat) (sl : Array (Option Value)) (hs0 : ¬(!items.isEmpty && Builtin.List.listTooLong (items.size + items2.size)) = true) (hs1 : items.size ≤ sizeLine) (hs2 : items.size + items2.size ≤ sizeLine + 1) :
    Meets (Builtin.«list.extend» ⟨[.ref l, .ref b], []⟩) (fun _ R s => s.heap.get? l = some { cls := .type "list", dict := none, data := .seq items n, slots := #[] } ∧ s.heap.get? b = some { cls := .type "tuple", dict := none, data := .seq items2 n2, slots := sl } ∧ R (.ok (.ret Value.none)) { s with heap := s.heap.update l (Obj.mapSeq fun x => x ++ items2), toks := s.toks }) :=
  .of_wp fun prog w A R s h => by
    obtain ⟨hp, g, d, tk, os⟩ := s; obtain ⟨hl, hb, h⟩ := h; have f1 := AutoSeq1.idx_int; have f2 := AutoSeq1.sub_tuple_tuple; have f3 := AutoSeq1.sub_list_list; have f4 := AutoSeq1.sub_tuple_list; have f5 := AutoSeq1.sub_list_tuple;
    have hz' : (items ++ items2).size ≤ sizeLine + 1 := by rw [Array.size_append]; exact hs2
    wp_walk using (wpAny_updateSeq hl rfl (hz := hs1) (_hz' := hz')), AutoSeq1.wpAny_loadPart' hl, AutoSeq1.wpAny_loadPart' hb; exact ⟨_, rfl, h⟩
theorem noFill_tuple_mul : fillsNumberSlot (.type "tuple") "mul" = pure false :=
  PySem.fillsNumberSlot_seq (id := "tuple.__mul__") (r := some (.builtin "tuple.__rmul__")) F.slot_tuple_mul.lookup (by decide +kernel) F.slot_tuple_rmul.lookup (by decide +kernel)
theorem repeat_tuple : seqRepeat? (.type "tuple") = pure (some (.builtin "tuple.__mul__")) := by
  unfold seqRepeat?
  rw [PySem.seqSlot_of (T := "tuple") (name := "__mul__") (id := "tuple.__mul__") F.slot_tuple_mul.lookup (by decide +kernel), PySem.seqSlot_of (T := "tuple") (name := "__rmul__") (id := "tuple.__rmul__") F.slot_tuple_rmul.lookup (by decide +kernel)]
  rfl
theorem int_rmul_tuple (a : Int) (t : Tok) (l : Addr) (items : Array Value) (n : Nat) (dd : Option Addr) (sl : Array (Option Value)) :
    Meets (Builtin.«int.__rmul__» ⟨[.int a t, .ref l], []⟩) (fun _ R s => s.heap.get? l = some { cls := .type "tuple", dict := dd, data := .seq items n, slots := sl } ∧ R (.ok (.ret Value.notImplemented)) s) :=
  .of_wp fun prog w A R s h => by obtain ⟨hp, g, d, tk, os⟩ := s; obtain ⟨hl, h⟩ := h; wp_walk; exact ⟨_, rfl, h⟩
theorem tuple_mul1W (l : Addr) (v : Value) (n : Nat) (dd : Option Addr) (sl : Array (Option Value)) (u : Tok) :
    Meets (Builtin.«tuple.__mul__» ⟨[.ref l, .int 1 u], []⟩) (fun _ R s => s.heap.get? l = some { cls := .type "tuple", dict := dd, data := .seq #[v] n, slots := sl } ∧ R (.ok (.ret (.ref l))) { s with heap := s.heap, toks := s.toks }) :=
  .of_wp fun prog w A R s h => by
    obtain ⟨hp, g, d, tk, os⟩ := s; obtain ⟨hl, h⟩ := h; have f1 := AutoSeq1.idx_int; have f2 := AutoSeq1.sub_tuple_tuple
    wp_walk using AutoSeq1.wpAny_loadPart' hl; exact ⟨_, rfl, h⟩
theorem tuple_mulW (l : Addr) (v : Value) (n : Nat) (dd : Option Addr) (sl : Array (Option Value)) (x : Int) (u : Tok) (h1 : 2 ≤ x) (h2 : x ≤ 1000) :
    Meets (Builtin.«tuple.__mul__» ⟨[.ref l, .int x u], []⟩) (fun _ R s => s.heap.get? l = some { cls := .type "tuple", dict := dd, data := .seq #[v] n, slots := sl } ∧ R (.ok (.ret (Value.ref s.heap.objs.size))) { s with heap := s.heap.push { cls := Value.type "tuple", data := Data.seq (List.foldl (fun x1 x2 => x1 ++ x2) #[] (List.replicate x.toNat #[v])) }, toks := s.toks }) :=
  .of_wp fun prog w A R s h => by
    obtain ⟨hp, g, d, tk, os⟩ := s; obtain ⟨hl, h⟩ := h; have f1 := AutoSeq1.idx_int; have f2 := AutoSeq1.sub_tuple_tuple
    have c0 : -9223372036854775808 ≤ x := by omega
    have c1 : x < 9223372036854775808 := by omega
    have c2 : ¬ x = 1 := by omega
    have c3 : 0 < x := by omega
    have c4 : x ≤ 1152921504606846975 := by omega
    have c5 : Builtin.Tuple.tupleTooMany x = false := by simp [Builtin.Tuple.tupleTooMany, sizeLine]; omega
    have hsz : (List.foldl (fun x1 x2 => x1 ++ x2) #[] (List.replicate x.toNat #[v])).size ≤ sizeLine := by
      rw [AutoSeq1.size_joined]
      show 0 + x.toNat * 1 ≤ 16777216
      omega
    wp_walk using AutoSeq1.wpAny_loadPart' hl; exact ⟨_, rfl, h⟩
section
variable {X : Cx} {K : PySem.W.Frag}
def rExtendT : V → List V → Hp → VK → Prop := fun x vs H Q => ∃ l b xs zs, x = .ref l ∧ vs = [.ref b] ∧ H l = some (.lst xs) ∧ H b = some (.tup zs) ∧ xs.length + zs.length ≤ sizeLine ∧ Q .non (upd H l (.lst (xs ++ zs)))
theorem mt_extendT : MtM X "list.extend" rExtendT := by
  intro pins s σ H x vs v us Q I rx rv h
  obtain ⟨l, b, xs, zs, rfl, rfl, hH, hB, hz, q⟩ := h
  cases rx
  obtain ⟨u, rfl, ru⟩ := rv.one
  cases ru
  obtain ⟨z, its, n, r, hl, e⟩ := I.lstM hH
  obtain ⟨z2, its2, r2, ⟨c2, d2, dt2, sl2⟩, e2, ec, ed, n2, en⟩ := (show ObjOk X.prog X.w H s.heap b (.tup zs) from I.hok b _ hB)
  dsimp only at ec ed en
  subst ec ed en
  have hl2 := r2.length
  have hsz : its.toArray.size + its2.toArray.size ≤ sizeLine := by rw [List.size_toArray, List.size_toArray]; omega
  have hlong : ¬ (!its.toArray.isEmpty && Builtin.List.listTooLong (its.toArray.size + its2.toArray.size)) = true := by
    rw [notLongL hsz, Bool.and_false]
    exact Bool.false_ne_true
  refine call_meets F.slot_list_extend ⟨_, e, rfl⟩ F.entry_list_extend (F.args_list_extend_2 _ _)
    (list_extendW l its.toArray n b its2.toArray n2 sl2 hlong (by rw [List.size_toArray]; omega) (by omega)) ⟨e, e2, ?_⟩
  refine ⟨.non, _, I.lset (its' := its ++ its2) hH e (by simp) (r.append r2) ?_, rfl, q⟩
  rw [List.length_append]
  omega
theorem call_isinstXT (hK : X.K = K) : CallR X (.builtin "isinstance") (fun xs H Q => ∃ a C b cs r, xs = [.ref a, .ref b] ∧ H a = some (excO a (.ref C)) ∧ XC K C ∧ XA K C ∧ H b = some (.tup cs) ∧ (∀ its, Vals cs its → PySem.W.kitAny K (.ref C) its = some r) ∧ Q (.bl r) H) := by
  subst hK
  intro pins s σ H xs us Q I r h
  obtain ⟨a, C, b, cs, r', rfl, ha, cC, xa, hb, e, q⟩ := h
  obtain ⟨v, w', rfl, rv, rw'⟩ := vals2 r
  cases (show v = Value.ref a from rv)
  cases (show w' = Value.ref b from rw')
  obtain ⟨p, _⟩ := I.hok a _ ha
  obtain ⟨z2, its2, r2, ⟨c2, d2, dt2, sl2⟩, e2, ec, ed, n2, en⟩ := (show ObjOk X.prog X.w H s.heap b (.tup cs) from I.hok b _ hb)
  dsimp only at ec ed en
  subst ec ed en
  exact PySem.W.kia_tup (kitx_exc cC xa) I.kIn p e2 (e _ r2) (fun z => nomatch z) fun tk => ⟨.bl r', H, I.tok tk, rfl, q⟩
theorem sum_take (ns : List Int) : ∀ n, preSum (fun i => (ns[i]?).getD 0) n = (ns.take n).sum
  | 0 => rfl
  | n + 1 => by
    show preSum _ n + _ = _
    rw [sum_take ns n, List.take_add_one, List.sum_append]
    cases h : ns[n]? <;> simp [h]
theorem bt_sum : bootBuiltins "sum" = some (.builtin "sum") := PyProof.Rows.Boot.«sum»
theorem call_sumL (hK : X.K = K) (hc : X.calm = true) : CallR X (.builtin "sum") (fun xs H Q => ∃ (a : Addr) (ns : List Int), xs = [.ref a] ∧ SqL K H a (ns.map V.int) ∧ Q (.int ns.sum) H) := by
  subst hK
  intro pins s σ H xs us Q I r h
  obtain ⟨a, ns, rfl, hq, q⟩ := h
  obtain ⟨u, rfl, ru⟩ := vals1 r
  cases ru
  obtain ⟨its, rv, p, hz⟩ := I.list hq
  have hl := rv.length
  rw [List.length_map] at hl
  refine call_sum_walkG (wpAny_pyIter_list p.isList ?_)
  refine ⟨s.heap.objs.size, _, _, _, _, _, fun i => (ns[i]?).getD 0, rfl, Walks.list (A := X.A.in1) (I.ok.hd hc) s.heap.objs.size a (Nat.ne_of_lt p.lt) its.toArray, ⟨⟨_, Heap.get?_push_size _ rfl, rfl, rfl⟩, p.isList.at fun o e => Heap.get?_push_of_some _ e⟩, ?_, ?_, fun h' tk t' hk => ?_⟩
  · intro b hb
    simp only [List.mem_cons, List.not_mem_nil, or_false] at hb
    rcases hb with rfl | rfl
    · simp [Heap.push]
    · exact Nat.lt_of_lt_of_le p.lt (by simp [Heap.push])
  · intro i v hv
    have hv' : its[i]? = some v := by simpa using hv
    cases hn : ns[i]? with
    | none => 
      have h1 := (List.getElem?_eq_none_iff.mp hn)
      rw [List.getElem?_eq_none (by omega)] at hv'
      cases hv'
    | some k =>
      obtain ⟨u', hu', ru'⟩ := rv.get (i := i) (x := .int k) (by rw [List.getElem?_map, hn]; rfl)
      rw [hv'] at hu'
      cases hu'
      obtain ⟨t0, rfl⟩ := ru'
      exact ⟨t0, by simp [hn]⟩
  · have e : its.toArray.size = ns.length := by rw [List.size_toArray, ← hl]
    rw [e, sum_take, List.take_length]
    exact ⟨.int ns.sum, H, I.kept (h' := h') (t' := tk) (fun b o e => hk b o (by simpa using Nat.ne_of_lt (Heap.lt_size e)) (Heap.get?_push_of_some _ e)), ⟨_, rfl⟩, q⟩
theorem mul_rep (v : Value) : ∀ (n : Nat) (acc : List Value), List.foldl (fun x1 x2 => x1 ++ x2) acc.toArray (List.replicate n #[v]) = (acc ++ List.replicate n v).toArray
  | 0, acc => by simp
  | n + 1, acc => by
    rw [List.replicate_succ, List.foldl_cons, show acc.toArray ++ #[v] = (acc ++ [v]).toArray by simp, mul_rep v n, List.append_assoc]
    rfl
theorem vals_rep {x : V} {v : Value} (r : RelV x v) : ∀ n, Vals (List.replicate n x) (List.replicate n v)
  | 0 => .nil
  | n + 1 => .cons r (vals_rep r n)
def rMulU : R2 := fun x y H Q => ∃ a z n, x = .ref a ∧ y = .int n ∧ H a = some (.tup [z]) ∧ 1 ≤ n ∧ n ≤ 1000 ∧ (n = 1 → Q (.ref a) H) ∧ (2 ≤ n → ∀ p, H p = none → Q (.ref p) (upd H p (.tup (List.replicate n.toNat z))))
theorem op_mulU : OpR X (binaryOp .Mult) rMulU := by
  intro pins s σ H x y v u Q I rx ry h
  obtain ⟨a, z, n, rfl, rfl, ha, h1, h2, q1, q2⟩ := h
  cases rx
  obtain ⟨t', rfl⟩ := ry
  obtain ⟨z2, its2, r2, ⟨c2, d2, dt2, sl2⟩, ho, ec, ed, n2, en⟩ := (show ObjOk X.prog X.w H s.heap a (.tup [z]) from I.hok a _ ha)
  dsimp only at ec ed en
  subst ec ed en
  obtain ⟨w, rfl, rw'⟩ := r2.one
  refine wpAny_binaryOp_repeat_ref (T := "tuple") (U := "int") (by decide) ⟨_, ho, rfl⟩ (fun s' => typeIs_int s' n t') noFill_tuple_mul F.fills_int_mul F.slot_int_rmul repeat_tuple F.slot_int_index.lookup
    (call_meets F.slot_int_rmul (typeIs_int s n t') F.entry_int_rmul (F.args_int_rmul_2 _ _) (int_rmul_tuple n t' a #[w] n2 none sl2) ⟨ho, rfl, ⟨_, ho, rfl⟩, ?_⟩)
  by_cases e : n = 1
  · subst e
    exact call_meets F.slot_tuple_mul ⟨_, ho, rfl⟩ F.entry_tuple_mul (F.args_tuple_mul_2 _ _) (tuple_mul1W a w n2 none sl2 t') ⟨ho, .ref a, H, I.tok _, rfl, q1 rfl⟩
  · have h3 : 2 ≤ n := by omega
    refine call_meets F.slot_tuple_mul ⟨_, ho, rfl⟩ F.entry_tuple_mul (F.args_tuple_mul_2 _ _) (tuple_mulW a w n2 none sl2 n t' h3 h2) ⟨ho, ?_⟩
    rw [show (#[] : Array Value) = ([] : List Value).toArray from rfl, mul_rep, List.nil_append]
    refine ⟨.ref s.heap.objs.size, _, I.laid (t' := s.toks) (fun _ _ q => Heap.get?_push_of_some _ q) (Nat.le_refl _) ?_, rfl, q2 h3 _ I.fresh⟩
    exact (show ObjOk X.prog X.w _ _ _ (.tup (List.replicate n.toNat z)) from ⟨by rw [List.length_replicate]; exact smz (by omega), _, vals_rep rw' _, IsTupN.new _ _⟩)
def Itrs (lo c : Int) (n : Nat) : It := ⟨fun i _ => i < n, fun i H x H' => H' = H ∧ x = .int (lo + i * c), fun i _ => n ≤ i⟩
theorem turn_rangeS {P : Program} {w : World} {K : PySem.W.Frag} {tg : Expr} (it : Addr) (lo c : Int) (n : Nat) : Turn P w K tg (Itrs lo c n) [it] it (fun i h => IsRangeIter h it (lo + (i : Nat) * c) ((n : Int) - (i : Nat)) c) where
  mem := by simp
  obj := fun i h st b hb => by
    have e : b = it := by simpa using hb
    subst e
    exact ⟨_, st, fun v z => by
      have z' : Data.fields _ = Data.cell v := z
      cases z'⟩
  keep := fun i h h' st k => k it (by simp) _ st
  item := by
    intro X hP hw hK hc i pins s σ H E I hf st hg
    subst hP hw hK
    obtain ⟨f0, f1, f2, f3, f4, f5⟩ := hf it (by simp)
    have W := Walks.range (prog := X.prog) (w := X.w) (I.ok.hd hc) it lo c n
    refine W.item i s _ _ hg st fun v h' tk hv st' kk => ?_
    obtain ⟨t, rfl⟩ := hv
    have I1 : Inv X pins σ H { s with heap := h', toks := tk } := I.turned (fun b o hb e => kk b o (by simpa using hb) e) f0 f1 f3 f4 f5
    exact ⟨_, rfl, go_of (s := { s with heap := h', toks := tk }) (n := "range_iterator") st' rfl rfl (by decide) ⟨.int (lo + i * c), H, I1, ⟨t, rfl⟩, ⟨rfl, rfl⟩, st', fun b hb => (hf b hb).1⟩⟩
  done := by
    intro X hP hw hK hc i pins s σ H E I hf st hg
    subst hP hw hK
    obtain ⟨f0, f1, f2, f3, f4, f5⟩ := hf it (by simp)
    exact wpAny_pyNext_range_end (I.ok.hd hc) st (by have : n ≤ i := hg; omega) fun h' eb => ⟨rfl, I.turned (t' := s.toks) (fun b o hb e => eb b o hb e) f0 f1 f3 f4 f5⟩
  self := fun _ _ _ _ _ st h => wpAny_pyIter_rangeiter st h
theorem range_itS {tg : Expr} {pins : List (Addr × Obj)} {σ : St} {H : Hp} {s : Shared} {R : It → Hp → Prop} {E : Value → Shared → Prop} {hi c : Int} {t u v : Tok} {tk : Nat} (I : Inv X pins σ H s) (h3 : 0 ≤ hi) (h4 : hi ≤ 100000) (h5 : 1 ≤ c) (h6 : c ≤ 1000)
    (q : R (Itrs 0 c ((hi + c - 1) / c).toNat) H) : wpAny (model X.prog X.w) X.A (pyIter (.ref s.heap.objs.size)) (PIE X pins σ tg R) E { s with heap := s.heap.push { cls := .type "range", data := .fields #[.int 0 t, .int hi u, .int c v] }, toks := tk } := by
  have hsz : Builtin.Range.rangeSize 0 hi c = (((hi + c - 1) / c).toNat : Int) := by
    have h7 : 0 ≤ (hi + c - 1) / c := Int.ediv_nonneg (by omega) (by omega)
    rw [Int.toNat_of_nonneg h7]
    unfold Builtin.Range.rangeSize
    rw [if_pos (by omega)]
    by_cases h : 0 < hi
    · rw [if_pos h, show hi + c - 1 = (hi - 0 - 1) + c * 1 by omega, Int.add_mul_ediv_left _ _ (by omega)]
    · have : hi = 0 := by omega
      subst this
      rw [if_neg (by omega), Int.ediv_eq_zero_of_lt (by omega) (by omega)]
  have hsm : Builtin.Range.small 0 hi c = true := by
    have h8 : ((hi + c - 1) / c).toNat ≤ 200000 := by
      have := Int.ediv_le_self c (show 0 ≤ hi + c - 1 by omega)
      omega
    unfold Builtin.Range.small
    rw [hsz]
    simp only [Builtin.Range.rangeFitsLong, Bool.and_eq_true, Bool.or_eq_true, decide_eq_true_eq, beq_iff_eq, show c > 0 by omega, if_true]
    omega
  refine wpAny_pyIter_range (IsRange.new ..) hsm ?_
  have I1 : Inv X pins σ H { s with heap := s.heap.push { cls := .type "range", data := .fields #[.int 0 t, .int hi u, .int c v] }, toks := tk } := I.kept fun b o e => Heap.get?_push_of_some _ e
  refine ⟨(s.heap.push { cls := .type "range", data := .fields #[.int 0 t, .int hi u, .int c v] }).objs.size, [(s.heap.push { cls := .type "range", data := .fields #[.int 0 t, .int hi u, .int c v] }).objs.size], _, _, H, rfl,
    I1.kept (t' := tk) fun b o e => Heap.get?_push_of_some _ e, turn_rangeS _ 0 c ((hi + c - 1) / c).toNat, ?_, fun b hb => ?_, q⟩
  · have e1 : (0 : Int) + ((0 : Nat) : Int) * c = 0 := by simp
    have e2 : (((hi + c - 1) / c).toNat : Int) - ((0 : Nat) : Int) = Builtin.Range.rangeSize 0 hi c := by rw [hsz]; simp
    show IsRangeIter _ _ ((0 : Int) + ((0 : Nat) : Int) * c) ((((hi + c - 1) / c).toNat : Int) - ((0 : Nat) : Int)) c
    rw [e1, e2]
    exact Heap.get?_push_size _ rfl
  · have e : b = (s.heap.push { cls := .type "range", data := .fields #[.int 0 t, .int hi u, .int c v] }).objs.size := by simpa using hb
    subst e
    exact I1.fpOk (Nat.le_refl _) (I1.hok.fresh (Nat.le_refl _))
def iRng3 (ta : TA) : TI := fun σ H R => ta σ H fun vs H1 => ∃ j c : Int, vs = [.int 0, .int j, .int c] ∧ 0 ≤ j ∧ j ≤ 100000 ∧ 1 ≤ c ∧ c ≤ 1000 ∧ R (Itrs 0 c ((j + c - 1) / c).toNat) H1
theorem pi_range3 {tg : Expr} {a b c : Expr} {ta : TA} {p pos : Pos} (hg : Gl X "range") (hm : X.mg "range" = none) (ha : PA X [a, b, c] ta) (hs : starEach [a, b, c] X.env = [(false, eval a X.env), (false, eval b X.env), (false, eval c X.env)] := by rfl) (hs2 : starEach [b, c] X.env = [(false, eval b X.env), (false, eval c X.env)] := by rfl) :
    PI X tg (.Call (.Name "range" p) [a, b, c] [] pos) (iRng3 ta) := by
  intro pins s σ H R I h
  refine Call_ (ld_blt I hg hm boot_range (PyProof.Rows.callWith_type1 (thn (ha pos pins s σ H _ I h) fun us s1 ⟨vs, H1, I1, r1, q1⟩ => ?_) (by rw [hs, hs2]) (by rw [hs2]; rfl)))
  obtain ⟨j, c, e, q1, q2, q3, q4, q⟩ := q1
  subst e
  cases r1 with
  | cons r rr =>
    cases rr with
    | cons r' rr =>
      cases rr with
      | cons r'' rr =>
        cases rr
        obtain ⟨t, rfl⟩ := r
        obtain ⟨t', rfl⟩ := r'
        obtain ⟨t'', rfl⟩ := r''
        exact call_range_3 (by omega) (range_itS I1 q1 q2 q3 q4 q) (.inl (PyProof.noPylong_small (by omega)))
theorem for_rangeS {lo c : Int} {n : Nat} {g : TG} {tb : TS} {D : Ends} {σ : St} {H : Hp} (Pv : Nat → St → Hp → Prop) (h0 : Pv 0 σ H)
    (hs : ∀ i σ H, i < n → Pv i σ H → g (.int (lo + i * c)) σ H fun σ2 H2 => tb { D with nx := Pv (i + 1), ct := Pv (i + 1), bk := D.nx } σ2 H2) (hd : ∀ σ H, Pv n σ H → D.nx σ H) :
    ∃ W : Nat → Nat → St → Hp → Prop, (∃ m, W 0 m σ H) ∧ ∀ i m σ H, W i m σ H →
      ((Itrs lo c n).stop i H ∧ D.nx σ H) ∨ ((Itrs lo c n).go i H ∧ ∃ N : St → Hp → Prop, (∀ σ' H', N σ' H' → ∃ m', m' < m ∧ W (i + 1) m' σ' H') ∧ ∀ x H', (Itrs lo c n).yld i H x H' → g x σ H' fun σ2 H2 => tb { D with nx := N, ct := N, bk := D.nx } σ2 H2) := by
  refine ⟨fun i m σ H => m = n - i ∧ i ≤ n ∧ Pv i σ H, ⟨n, by simp, Nat.zero_le _, h0⟩, ?_⟩
  rintro i m σ H ⟨rfl, hi, p⟩
  by_cases hlt : i < n
  · refine .inr ⟨hlt, Pv (i + 1), fun σ' H' p' => ⟨n - (i + 1), by omega, rfl, hlt, p'⟩, fun x H' y => ?_⟩
    obtain ⟨e, y⟩ := y
    subst e y
    exact hs i σ _ hlt p
  · have e : i = n := by omega
    subst e
    exact .inl ⟨Nat.le_refl _, hd σ H p⟩
end
end L2
set_option Elab.async false
set_option linter.all false
set_option maxRecDepth 100000
set_option maxHeartbeats 4000000
namespace My
open PySem L2
def top (i : Nat) : Stmt := PySem.Challenge.pw_pageturns_k11_what_is_a_sieve.main.body.getD i (.Pass ⟨0, 0, 0, 0⟩)
abbrev s_is_whole : Stmt := top 10
abbrev s_is_letter : Stmt := top 11
abbrev s_is_figure : Stmt := top 12
abbrev s_is_name : Stmt := top 13
abbrev s_is_key : Stmt := top 14
abbrev s_is_word : Stmt := top 15
abbrev s_is_value : Stmt := top 16
abbrev s_kind_named : Stmt := top 18
abbrev s_check_sieve : Stmt := top 24
abbrev s_is_formed : Stmt := top 25
abbrev s_is_short_tuple : Stmt := top 26
abbrev s_fits_column : Stmt := top 27
abbrev s_sieves_within : Stmt := top 28
abbrev s_l_well : Stmt := top 30
abbrev s_l_draw : Stmt := top 31
abbrev s_l_columns : Stmt := top 32
abbrev s_l_number : Stmt := top 33
abbrev s_l_word : Stmt := top 34
abbrev s_l_value : Stmt := top 35
abbrev s_l_key : Stmt := top 36
abbrev s_l_leaf : Stmt := top 37
abbrev s_l_sieve : Stmt := top 38
abbrev s_l_bad : Stmt := top 39
abbrev s_l_put : Stmt := top 40
abbrev s_l_is_text : Stmt := top 41
abbrev s_l_is_key : Stmt := top 42
abbrev s_l_fits : Stmt := top 43
abbrev s_l_size : Stmt := top 44
abbrev s_l_found : Stmt := top 45
abbrev s_l_tower : Stmt := top 46
abbrev s_l_wide : Stmt := top 47
abbrev s_law : Stmt := top 48
structure Adr where
  f_is_whole : Addr
  d_is_whole : FuncData
  f_is_letter : Addr
  d_is_letter : FuncData
  f_is_figure : Addr
  d_is_figure : FuncData
  f_is_name : Addr
  d_is_name : FuncData
  f_is_key : Addr
  d_is_key : FuncData
  f_is_word : Addr
  d_is_word : FuncData
  f_is_value : Addr
  d_is_value : FuncData
  f_kind_named : Addr
  d_kind_named : FuncData
  f_check_sieve : Addr
  d_check_sieve : FuncData
  f_is_formed : Addr
  d_is_formed : FuncData
  f_is_short_tuple : Addr
  d_is_short_tuple : FuncData
  f_fits_column : Addr
  d_fits_column : FuncData
  f_sieves_within : Addr
  d_sieves_within : FuncData
  f_l_well : Addr
  d_l_well : FuncData
  f_l_draw : Addr
  d_l_draw : FuncData
  f_l_columns : Addr
  d_l_columns : FuncData
  f_l_number : Addr
  d_l_number : FuncData
  f_l_word : Addr
  d_l_word : FuncData
  f_l_value : Addr
  d_l_value : FuncData
  f_l_key : Addr
  d_l_key : FuncData
  f_l_leaf : Addr
  d_l_leaf : FuncData
  f_l_sieve : Addr
  d_l_sieve : FuncData
  f_l_bad : Addr
  d_l_bad : FuncData
  f_l_put : Addr
  d_l_put : FuncData
  f_l_is_text : Addr
  d_l_is_text : FuncData
  f_l_is_key : Addr
  d_l_is_key : FuncData
  f_l_fits : Addr
  d_l_fits : FuncData
  f_l_size : Addr
  d_l_size : FuncData
  f_l_found : Addr
  d_l_found : FuncData
  f_l_tower : Addr
  d_l_tower : FuncData
  f_l_wide : Addr
  d_l_wide : FuncData
  f_law : Addr
  d_law : FuncData
  t_MOST_NAME_SIGNS : Tok
  t_MOST_KEY_SIGNS : Tok
  t_MOST_WORD_SIGNS : Tok
  t_MOST_DEEP : Tok
  t_MOST_PARTS : Tok
  t_MOST_IN_A_TUPLE : Tok
  a_LENGTHS : Addr
  c_PageError : Addr
  c_BadColumns : Addr
  c_BadRow : Addr
  c_BadSieve : Addr
  c_NoText : Addr
structure Txt (w : World) (K : PySem.W.Frag) (mg : Str → Option Value) (t : Adr) : Prop where
  F_is_whole : Fun K "is_whole" "is_whole" s_is_whole t.f_is_whole t.d_is_whole
  b_is_whole : Binds K t.d_is_whole ["thing"] []
  mg_is_whole : mg "is_whole" = some (.ref t.f_is_whole)
  F_is_letter : Fun K "is_letter" "is_letter" s_is_letter t.f_is_letter t.d_is_letter
  b_is_letter : Binds K t.d_is_letter ["sign"] []
  mg_is_letter : mg "is_letter" = some (.ref t.f_is_letter)
  F_is_figure : Fun K "is_figure" "is_figure" s_is_figure t.f_is_figure t.d_is_figure
  b_is_figure : Binds K t.d_is_figure ["sign"] []
  mg_is_figure : mg "is_figure" = some (.ref t.f_is_figure)
  F_is_name : Fun K "is_name" "is_name" s_is_name t.f_is_name t.d_is_name
  b_is_name : Binds K t.d_is_name ["thing"] []
  mg_is_name : mg "is_name" = some (.ref t.f_is_name)
  F_is_key : Fun K "is_key" "is_key" s_is_key t.f_is_key t.d_is_key
  b_is_key : Binds K t.d_is_key ["thing"] []
  mg_is_key : mg "is_key" = some (.ref t.f_is_key)
  F_is_word : Fun K "is_word" "is_word" s_is_word t.f_is_word t.d_is_word
  b_is_word : Binds K t.d_is_word ["thing"] []
  mg_is_word : mg "is_word" = some (.ref t.f_is_word)
  F_is_value : Fun K "is_value" "is_value" s_is_value t.f_is_value t.d_is_value
  b_is_value : Binds K t.d_is_value ["kind", "thing"] []
  mg_is_value : mg "is_value" = some (.ref t.f_is_value)
  F_kind_named : Fun K "kind_named" "kind_named" s_kind_named t.f_kind_named t.d_kind_named
  b_kind_named : Binds K t.d_kind_named ["columns", "name"] []
  mg_kind_named : mg "kind_named" = some (.ref t.f_kind_named)
  F_check_sieve : Fun K "check_sieve" "check_sieve" s_check_sieve t.f_check_sieve t.d_check_sieve
  b_check_sieve : Binds K t.d_check_sieve ["columns", "sieve"] []
  mg_check_sieve : mg "check_sieve" = some (.ref t.f_check_sieve)
  F_is_formed : Fun K "is_formed" "is_formed" s_is_formed t.f_is_formed t.d_is_formed
  b_is_formed : Binds K t.d_is_formed ["columns", "thing"] []
  mg_is_formed : mg "is_formed" = some (.ref t.f_is_formed)
  F_is_short_tuple : Fun K "is_short_tuple" "is_short_tuple" s_is_short_tuple t.f_is_short_tuple t.d_is_short_tuple
  b_is_short_tuple : Binds K t.d_is_short_tuple ["thing"] []
  mg_is_short_tuple : mg "is_short_tuple" = some (.ref t.f_is_short_tuple)
  F_fits_column : Fun K "fits_column" "fits_column" s_fits_column t.f_fits_column t.d_fits_column
  b_fits_column : Binds K t.d_fits_column ["columns", "sieve"] []
  mg_fits_column : mg "fits_column" = some (.ref t.f_fits_column)
  F_sieves_within : Fun K "sieves_within" "sieves_within" s_sieves_within t.f_sieves_within t.d_sieves_within
  b_sieves_within : Binds K t.d_sieves_within ["sieves"] []
  mg_sieves_within : mg "sieves_within" = some (.ref t.f_sieves_within)
  F_l_well : Fun K "_law_well" "_law_well" s_l_well t.f_l_well t.d_l_well
  b_l_well : Binds K t.d_l_well ["_law_script", "_law_k"] []
  mg_l_well : mg "_law_well" = some (.ref t.f_l_well)
  F_l_draw : Fun K "_law_draw" "_law_draw" s_l_draw t.f_l_draw t.d_l_draw
  b_l_draw : Binds K t.d_l_draw ["_law_well_here", "_law_most"] []
  mg_l_draw : mg "_law_draw" = some (.ref t.f_l_draw)
  F_l_columns : Fun K "_law_columns" "_law_columns" s_l_columns t.f_l_columns t.d_l_columns
  b_l_columns : Binds K t.d_l_columns ["_law_well_here"] []
  mg_l_columns : mg "_law_columns" = some (.ref t.f_l_columns)
  F_l_number : Fun K "_law_number" "_law_number" s_l_number t.f_l_number t.d_l_number
  b_l_number : Binds K t.d_l_number ["_law_well_here"] []
  mg_l_number : mg "_law_number" = some (.ref t.f_l_number)
  F_l_word : Fun K "_law_word" "_law_word" s_l_word t.f_l_word t.d_l_word
  b_l_word : Binds K t.d_l_word ["_law_well_here"] []
  mg_l_word : mg "_law_word" = some (.ref t.f_l_word)
  F_l_value : Fun K "_law_value" "_law_value" s_l_value t.f_l_value t.d_l_value
  b_l_value : Binds K t.d_l_value ["_law_well_here", "_law_kind"] []
  mg_l_value : mg "_law_value" = some (.ref t.f_l_value)
  F_l_key : Fun K "_law_key" "_law_key" s_l_key t.f_l_key t.d_l_key
  b_l_key : Binds K t.d_l_key ["_law_well_here"] []
  mg_l_key : mg "_law_key" = some (.ref t.f_l_key)
  F_l_leaf : Fun K "_law_leaf" "_law_leaf" s_l_leaf t.f_l_leaf t.d_l_leaf
  b_l_leaf : Binds K t.d_l_leaf ["_law_well_here", "_law_columns_here"] []
  mg_l_leaf : mg "_law_leaf" = some (.ref t.f_l_leaf)
  F_l_sieve : Fun K "_law_sieve" "_law_sieve" s_l_sieve t.f_l_sieve t.d_l_sieve
  b_l_sieve : Binds K t.d_l_sieve ["_law_well_here", "_law_columns_here", "_law_deep", "_law_room"] []
  mg_l_sieve : mg "_law_sieve" = some (.ref t.f_l_sieve)
  F_l_bad : Fun K "_law_bad" "_law_bad" s_l_bad t.f_l_bad t.d_l_bad
  b_l_bad : Binds K t.d_l_bad ["_law_well_here", "_law_columns_here"] []
  mg_l_bad : mg "_law_bad" = some (.ref t.f_l_bad)
  F_l_put : Fun K "_law_put" "_law_put" s_l_put t.f_l_put t.d_l_put
  b_l_put : Binds K t.d_l_put ["_law_well_here", "_law_sieve_here", "_law_other"] []
  mg_l_put : mg "_law_put" = some (.ref t.f_l_put)
  F_l_is_text : Fun K "_law_is_text" "_law_is_text" s_l_is_text t.f_l_is_text t.d_l_is_text
  b_l_is_text : Binds K t.d_l_is_text ["_law_thing", "_law_least", "_law_most"] []
  mg_l_is_text : mg "_law_is_text" = some (.ref t.f_l_is_text)
  F_l_is_key : Fun K "_law_is_key" "_law_is_key" s_l_is_key t.f_l_is_key t.d_l_is_key
  b_l_is_key : Binds K t.d_l_is_key ["_law_thing"] []
  mg_l_is_key : mg "_law_is_key" = some (.ref t.f_l_is_key)
  F_l_fits : Fun K "_law_fits" "_law_fits" s_l_fits t.f_l_fits t.d_l_fits
  b_l_fits : Binds K t.d_l_fits ["_law_columns_here", "_law_sieve_here"] []
  mg_l_fits : mg "_law_fits" = some (.ref t.f_l_fits)
  F_l_size : Fun K "_law_size" "_law_size" s_l_size t.f_l_size t.d_l_size
  b_l_size : Binds K t.d_l_size ["_law_columns_here", "_law_sieve_here", "_law_deep"] []
  mg_l_size : mg "_law_size" = some (.ref t.f_l_size)
  F_l_found : Fun K "_law_found" "_law_found" s_l_found t.f_l_found t.d_l_found
  b_l_found : Binds K t.d_l_found ["_law_columns_here", "_law_sieve_here"] []
  mg_l_found : mg "_law_found" = some (.ref t.f_l_found)
  F_l_tower : Fun K "_law_tower" "_law_tower" s_l_tower t.f_l_tower t.d_l_tower
  b_l_tower : Binds K t.d_l_tower ["_law_well_here"] []
  mg_l_tower : mg "_law_tower" = some (.ref t.f_l_tower)
  F_l_wide : Fun K "_law_wide" "_law_wide" s_l_wide t.f_l_wide t.d_l_wide
  b_l_wide : Binds K t.d_l_wide ["_law_many"] []
  mg_l_wide : mg "_law_wide" = some (.ref t.f_l_wide)
  F_law : Fun K "law" "law" s_law t.f_law t.d_law
  b_law : Binds K t.d_law ["_law_script"] []
  mg_law : mg "law" = some (.ref t.f_law)
  mg_MOST_NAME_SIGNS : mg "MOST_NAME_SIGNS" = some (.int 8 t.t_MOST_NAME_SIGNS)
  mg_MOST_KEY_SIGNS : mg "MOST_KEY_SIGNS" = some (.int 12 t.t_MOST_KEY_SIGNS)
  mg_MOST_WORD_SIGNS : mg "MOST_WORD_SIGNS" = some (.int 40 t.t_MOST_WORD_SIGNS)
  mg_MOST_DEEP : mg "MOST_DEEP" = some (.int 8 t.t_MOST_DEEP)
  mg_MOST_PARTS : mg "MOST_PARTS" = some (.int 200 t.t_MOST_PARTS)
  mg_MOST_IN_A_TUPLE : mg "MOST_IN_A_TUPLE" = some (.int 8 t.t_MOST_IN_A_TUPLE)
  mg_LENGTHS : mg "LENGTHS" = some (.ref t.a_LENGTHS)
  q_LENGTHS : DkK w K t.a_LENGTHS [("every", .int 1), ("is", .int 3), ("below", .int 3), ("above", .int 3), ("begins", .int 3), ("key", .int 2), ("not", .int 2), ("and", .int 2), ("or", .int 2)]
  n_ValueError : mg "ValueError" = none
  n_isinstance : mg "isinstance" = none
  n_int : mg "int" = none
  n_bool : mg "bool" = none
  n_all : mg "all" = none
  n_str : mg "str" = none
  n_len : mg "len" = none
  n_dict : mg "dict" = none
  n_tuple : mg "tuple" = none
  n_range : mg "range" = none
  n_sum : mg "sum" = none
  n_min : mg "min" = none
  mg_PageError : mg "PageError" = some (.ref t.c_PageError)
  mg_BadColumns : mg "BadColumns" = some (.ref t.c_BadColumns)
  mg_BadRow : mg "BadRow" = some (.ref t.c_BadRow)
  mg_BadSieve : mg "BadSieve" = some (.ref t.c_BadSieve)
  mg_NoText : mg "NoText" = some (.ref t.c_NoText)
  x_PageError : PySem.W.excIn K t.c_PageError L2.vErr "ValueError.__new__" = true
  x_BadColumns : PySem.W.excIn K t.c_BadColumns L2.vErr "ValueError.__new__" = true
  x_BadRow : PySem.W.excIn K t.c_BadRow L2.vErr "ValueError.__new__" = true
  x_BadSieve : PySem.W.excIn K t.c_BadSieve L2.vErr "ValueError.__new__" = true
  x_NoText : PySem.W.excIn K t.c_NoText L2.vErr "ValueError.__new__" = true
  ga_BadSieve : PySem.W.findIn K (.ref t.c_BadSieve) "__getattribute__" = some (some (.builtin "BaseException.__getattribute__"))
  gh_BadSieve : PySem.W.findIn K (.ref t.c_BadSieve) "__getattr__" = some none
  gc_BadSieve : PySem.W.findIn K (.ref t.c_BadSieve) "__class__" = some (some (.builtin "object.__class__"))
  m_BadSieve_PageError : PySem.W.mroIn K t.c_BadSieve (.ref t.c_PageError) = some true
  k_BadSieve_BadSieve : PySem.W.kitOne K (.ref t.c_BadSieve) (.ref t.c_BadSieve) = some true
  k_BadSieve_ValueError : PySem.W.kitOne K (.ref t.c_BadSieve) (.type "ValueError") = some true
  k_BadSieve_BadColumns : PySem.W.kitOne K (.ref t.c_BadSieve) (.ref t.c_BadColumns) = some false
  k_BadSieve_BadRow : PySem.W.kitOne K (.ref t.c_BadSieve) (.ref t.c_BadRow) = some false
  k_BadSieve_NoText : PySem.W.kitOne K (.ref t.c_BadSieve) (.ref t.c_NoText) = some false
  bl : ∀ (s : Shared) (u : Value), BindsTo s t.d_law ⟨[u], []⟩ [("_law_script", u)]
theorem sc_is_whole : FnScope ["thing"] ["thing"] (defScope s_is_whole) := ⟨rfl, rfl, rfl, by decide +kernel, rfl, by decide +kernel, by decide +kernel⟩
theorem sc_is_letter : FnScope ["sign"] ["sign"] (defScope s_is_letter) := ⟨rfl, rfl, rfl, by decide +kernel, rfl, by decide +kernel, by decide +kernel⟩
theorem sc_is_figure : FnScope ["sign"] ["sign"] (defScope s_is_figure) := ⟨rfl, rfl, rfl, by decide +kernel, rfl, by decide +kernel, by decide +kernel⟩
theorem sc_is_name : FnScope ["thing"] ["thing"] (defScope s_is_name) := ⟨rfl, rfl, rfl, by decide +kernel, rfl, by decide +kernel, by decide +kernel⟩
theorem sc_is_key : FnScope ["thing"] ["thing"] (defScope s_is_key) := ⟨rfl, rfl, rfl, by decide +kernel, rfl, by decide +kernel, by decide +kernel⟩
theorem sc_is_word : FnScope ["thing"] ["thing"] (defScope s_is_word) := ⟨rfl, rfl, rfl, by decide +kernel, rfl, by decide +kernel, by decide +kernel⟩
theorem sc_is_value : FnScope ["kind", "thing"] ["kind", "thing"] (defScope s_is_value) := ⟨rfl, rfl, rfl, by decide +kernel, rfl, by decide +kernel, by decide +kernel⟩
theorem sc_kind_named : FnScope ["columns", "name"] ["columns", "name"] (defScope s_kind_named) := ⟨rfl, rfl, rfl, by decide +kernel, rfl, by decide +kernel, by decide +kernel⟩
theorem sc_check_sieve : FnScope ["columns", "sieve", "level", "deep", "parts"] ["columns", "sieve"] (defScope s_check_sieve) := ⟨rfl, rfl, rfl, by decide +kernel, rfl, by decide +kernel, by decide +kernel⟩
theorem sc_is_formed : FnScope ["columns", "thing"] ["columns", "thing"] (defScope s_is_formed) := ⟨rfl, rfl, rfl, by decide +kernel, rfl, by decide +kernel, by decide +kernel⟩
theorem sc_is_short_tuple : FnScope ["thing"] ["thing"] (defScope s_is_short_tuple) := ⟨rfl, rfl, rfl, by decide +kernel, rfl, by decide +kernel, by decide +kernel⟩
theorem sc_fits_column : FnScope ["columns", "sieve", "kind"] ["columns", "sieve"] (defScope s_fits_column) := ⟨rfl, rfl, rfl, by decide +kernel, rfl, by decide +kernel, by decide +kernel⟩
theorem sc_sieves_within : FnScope ["sieves", "found", "sieve"] ["sieves"] (defScope s_sieves_within) := ⟨rfl, rfl, rfl, by decide +kernel, rfl, by decide +kernel, by decide +kernel⟩
theorem sc_l_well : FnScope ["_law_script", "_law_k", "_law_cell"] ["_law_script", "_law_k"] (defScope s_l_well) := ⟨rfl, rfl, rfl, by decide +kernel, rfl, by decide +kernel, by decide +kernel⟩
theorem sc_l_draw : FnScope ["_law_well_here", "_law_most", "_law_number_here"] ["_law_well_here", "_law_most"] (defScope s_l_draw) := ⟨rfl, rfl, rfl, by decide +kernel, rfl, by decide +kernel, by decide +kernel⟩
theorem sc_l_columns : FnScope ["_law_well_here", "_law_names", "_law_found_here", "_law_k", "_law_name"] ["_law_well_here"] (defScope s_l_columns) := ⟨rfl, rfl, rfl, by decide +kernel, rfl, by decide +kernel, by decide +kernel⟩
theorem sc_l_number : FnScope ["_law_well_here", "_law_way"] ["_law_well_here"] (defScope s_l_number) := ⟨rfl, rfl, rfl, by decide +kernel, rfl, by decide +kernel, by decide +kernel⟩
theorem sc_l_word : FnScope ["_law_well_here", "_law_way", "_law_signs"] ["_law_well_here"] (defScope s_l_word) := ⟨rfl, rfl, rfl, by decide +kernel, rfl, by decide +kernel, by decide +kernel⟩
theorem sc_l_value : FnScope ["_law_well_here", "_law_kind"] ["_law_well_here", "_law_kind"] (defScope s_l_value) := ⟨rfl, rfl, rfl, by decide +kernel, rfl, by decide +kernel, by decide +kernel⟩
theorem sc_l_key : FnScope ["_law_well_here", "_law_some"] ["_law_well_here"] (defScope s_l_key) := ⟨rfl, rfl, rfl, by decide +kernel, rfl, by decide +kernel, by decide +kernel⟩
theorem sc_l_leaf : FnScope ["_law_well_here", "_law_columns_here", "_law_way", "_law_name", "_law_kind", "_law_value_here"] ["_law_well_here", "_law_columns_here"] (defScope s_l_leaf) := ⟨rfl, rfl, rfl, by decide +kernel, rfl, by decide +kernel, by decide +kernel⟩
theorem sc_l_sieve : FnScope ["_law_well_here", "_law_columns_here", "_law_deep", "_law_room", "_law_way", "_law_inner", "_law_k"] ["_law_well_here", "_law_columns_here", "_law_deep", "_law_room"] (defScope s_l_sieve) := ⟨rfl, rfl, rfl, by decide +kernel, rfl, by decide +kernel, by decide +kernel⟩
theorem sc_l_bad : FnScope ["_law_well_here", "_law_columns_here", "_law_name", "_law_some"] ["_law_well_here", "_law_columns_here"] (defScope s_l_bad) := ⟨rfl, rfl, rfl, by decide +kernel, rfl, by decide +kernel, by decide +kernel⟩
theorem sc_l_put : FnScope ["_law_well_here", "_law_sieve_here", "_law_other", "_law_at"] ["_law_well_here", "_law_sieve_here", "_law_other"] (defScope s_l_put) := ⟨rfl, rfl, rfl, by decide +kernel, rfl, by decide +kernel, by decide +kernel⟩
theorem sc_l_is_text : FnScope ["_law_thing", "_law_least", "_law_most"] ["_law_thing", "_law_least", "_law_most"] (defScope s_l_is_text) := ⟨rfl, rfl, rfl, by decide +kernel, rfl, by decide +kernel, by decide +kernel⟩
theorem sc_l_is_key : FnScope ["_law_thing"] ["_law_thing"] (defScope s_l_is_key) := ⟨rfl, rfl, rfl, by decide +kernel, rfl, by decide +kernel, by decide +kernel⟩
theorem sc_l_fits : FnScope ["_law_columns_here", "_law_sieve_here", "_law_kinds"] ["_law_columns_here", "_law_sieve_here"] (defScope s_l_fits) := ⟨rfl, rfl, rfl, by decide +kernel, rfl, by decide +kernel, by decide +kernel⟩
theorem sc_l_size : FnScope ["_law_columns_here", "_law_sieve_here", "_law_deep", "_law_inner", "_law_sizes"] ["_law_columns_here", "_law_sieve_here", "_law_deep"] (defScope s_l_size) := ⟨rfl, rfl, rfl, by decide +kernel, rfl, by decide +kernel, by decide +kernel⟩
theorem sc_l_found : FnScope ["_law_columns_here", "_law_sieve_here", "e", "_law_told"] ["_law_columns_here", "_law_sieve_here"] (defScope s_l_found) := ⟨rfl, rfl, rfl, by decide +kernel, rfl, by decide +kernel, by decide +kernel⟩
theorem sc_l_tower : FnScope ["_law_well_here", "_law_many", "_law_sieve_here", "_law_word_here", "_law_k"] ["_law_well_here"] (defScope s_l_tower) := ⟨rfl, rfl, rfl, by decide +kernel, rfl, by decide +kernel, by decide +kernel⟩
theorem sc_l_wide : FnScope ["_law_many", "_law_sieves", "_law_few", "_law_outer", "_law_k"] ["_law_many"] (defScope s_l_wide) := ⟨rfl, rfl, rfl, by decide +kernel, rfl, by decide +kernel, by decide +kernel⟩
theorem sc_law : FnScope ["_law_script", "_law_well_here", "_law_columns_here", "_law_k", "_law_sieve_here", "_law_turn", "_law_due", "_law_tower_here", "_law_deep", "_law_many", "_law_wide_here"] ["_law_script"] (defScope s_law) := ⟨rfl, rfl, rfl, by decide +kernel, rfl, by decide +kernel, by decide +kernel⟩
end My
set_option Elab.async false
set_option linter.all false
set_option maxRecDepth 100000
set_option maxHeartbeats 4000000
namespace My
open PySem L2
theorem sm {n : Nat} (h : n ≤ 1000) : n ≤ sizeLine := Nat.le_of_lt (small1000 h)
def isLetC (c : Nat) : Bool := decide (97 ≤ c) && decide (c ≤ 122)
def isFigC (c : Nat) : Bool := decide (48 ≤ c) && decide (c ≤ 57)
def isWrdC (c : Nat) : Bool := decide (32 ≤ c) && decide (c ≤ 126)
def wholeV : V → Bool
  | .int _ => true
  | _ => false
def nameV : V → Bool
  | .str z => decide (1 ≤ z.cps.size) && (decide (z.cps.size ≤ 8) && z.cps.toList.all isLetC)
  | _ => false
def keyV : V → Bool
  | .str z => decide (1 ≤ z.cps.size) && (decide (z.cps.size ≤ 12) && (isLetC (z.cps.toList.headD 0) && z.cps.toList.all fun c => isLetC c || isFigC c))
  | _ => false
def wordV : V → Bool
  | .str z => decide (z.cps.size ≤ 40) && z.cps.toList.all isWrdC
  | _ => false
/-- anything that a law hands in -/
def Ay (H : Hp) (x : V) : Prop := (∃ k, KdOf H x k) ∧ ∀ z, x = .str z → z.cps.size ≤ sizeLine
def spOf (g : V → Bool) : Sp := fun vs H Q _ => ∃ x, vs = [x] ∧ Ay H x ∧ Q (.bl (g x)) H
def spSign (g : Nat → Bool) : Sp := fun vs H Q _ => ∃ c, vs = [.str ⟨#[c]⟩] ∧ Q (.bl (g c)) H
def valueV (kind : Str) (x : V) : Bool := match x with
  | .non => true
  | x => if kind = "number" then wholeV x else wordV x
def spValue : Sp := fun vs H Q _ => ∃ k x, vs = [.str k, x] ∧ Ay H x ∧ Q (.bl (valueV k x)) H
theorem _root_.L2.Sx.ay {H : Hp} {d : PyData} {x : V} (h : Sx H d x) : Ay H x := ⟨⟨_, h.kd⟩, fun z e => by
  subst e
  cases d with
  | str y => obtain ⟨e, hz⟩ := h.str; cases e; exact hz
  | none => simp only [Sx] at h; cases h
  | bool b => simp only [Sx] at h; cases h
  | int i => simp only [Sx] at h; cases h
  | list ds => simp only [Sx] at h; obtain ⟨_, _, e, _⟩ := h; cases e
  | tuple ds => simp only [Sx] at h; obtain ⟨_, _, e, _⟩ := h; cases e
  | dict l => simp only [Sx] at h; obtain ⟨_, _, e, _⟩ := h; cases e⟩
def cD (c : Str × Str) : PyData := .tuple [.str c.1, .str c.2]
/-- good columns, as they stand -/
theorem cols_at {H : Hp} {cs : List (Str × Str)} {v : V} (h : Sx H (.tuple (cs.map cD)) v) : ∃ a xs, v = .ref a ∧ H a = some (.tup xs) ∧ xs.length = cs.length ∧ SxAll H (cs.map cD) xs ∧ Prs H xs (cs.map fun c => (c.1, .str c.2)) := by
  obtain ⟨a, xs, rfl, e, hall⟩ := h.tup
  have hl := hall.len
  rw [List.length_map] at hl
  refine ⟨a, xs, rfl, e, hl.symm, hall, by rw [List.length_map]; exact hl, fun i x p e1 e2 => ?_⟩
  rw [List.getElem?_map] at e2
  cases ec : cs[i]? with
  | none => rw [ec] at e2; cases e2
  | some c =>
    rw [ec] at e2
    cases e2
    have := SxAll.get i hall e1 (d := cD c) (by rw [List.getElem?_map, ec]; rfl)
    obtain ⟨b, ys, rfl, eb, hb⟩ := Sx.tup this
    obtain ⟨y, r, rfl, h1, h2⟩ := hb.cons
    obtain ⟨y2, r2, rfl, h3, h4⟩ := h2.cons
    have := h4.nil
    subst this
    obtain ⟨rfl, _⟩ := h1.str
    obtain ⟨rfl, _⟩ := h3.str
    exact ⟨b, rfl, eb⟩
def spD (g : PyData → Bool) : Sp := fun vs H Q _ => ∃ x d, vs = [x] ∧ Sx H d x ∧ Q (.bl (g d)) H
def keyD : PyData → Bool
  | .str z => keyV (.str z)
  | _ => false
theorem keyD_eq {H : Hp} {d : PyData} {x : V} (h : Sx H d x) : keyV x = keyD d := by
  cases d with
  | str y => obtain ⟨rfl, hz⟩ := h.str; rfl
  | none => simp only [Sx] at h; subst h; rfl
  | bool b => simp only [Sx] at h; subst h; rfl
  | int i => simp only [Sx] at h; subst h; rfl
  | list ds => simp only [Sx] at h; obtain ⟨_, _, rfl, _⟩ := h; rfl
  | tuple ds => simp only [Sx] at h; obtain ⟨_, _, rfl, _⟩ := h; rfl
  | dict l => simp only [Sx] at h; obtain ⟨_, _, rfl, _⟩ := h; rfl
/-- a value of a kind -/
def valD (k : Str) : PyData → Bool
  | .none => true
  | .int _ => decide (k = "number")
  | .str z => if k = "number" then false else wordV (.str z)
  | _ => false
theorem valD_eq {H : Hp} {d : PyData} {x : V} (k : Str) (h : Sx H d x) : valueV k x = valD k d := by
  cases d with
  | str y => obtain ⟨rfl, hz⟩ := h.str; unfold valueV valD; dsimp only; split <;> rfl
  | none => simp only [Sx] at h; subst h; rfl
  | bool b => simp only [Sx] at h; subst h; unfold valueV valD; dsimp only; split <;> rfl
  | int i =>
    simp only [Sx] at h; subst h; unfold valueV valD; dsimp only
    by_cases e : k = "number"
    · rw [if_pos e, decide_eq_true e]; rfl
    · rw [if_neg e, decide_eq_false e]; rfl
  | list ds => simp only [Sx] at h; obtain ⟨_, _, rfl, _⟩ := h; unfold valueV valD; dsimp only; split <;> rfl
  | tuple ds => simp only [Sx] at h; obtain ⟨_, _, rfl, _⟩ := h; unfold valueV valD; dsimp only; split <;> rfl
  | dict l => simp only [Sx] at h; obtain ⟨_, _, rfl, _⟩ := h; unfold valueV valD; dsimp only; split <;> rfl
def nameD : PyData → Bool
  | .str z => nameV (.str z)
  | _ => false
theorem nameD_eq {H : Hp} {d : PyData} {x : V} (h : Sx H d x) : nameV x = nameD d := by
  cases d with
  | str y => obtain ⟨rfl, hz⟩ := h.str; rfl
  | none => simp only [Sx] at h; subst h; rfl
  | bool b => simp only [Sx] at h; subst h; rfl
  | int i => simp only [Sx] at h; subst h; rfl
  | list ds => simp only [Sx] at h; obtain ⟨_, _, rfl, _⟩ := h; rfl
  | tuple ds => simp only [Sx] at h; obtain ⟨_, _, rfl, _⟩ := h; rfl
  | dict l => simp only [Sx] at h; obtain ⟨_, _, rfl, _⟩ := h; rfl
def kindOf (cs : List (Str × Str)) (d : PyData) : V := match d with
  | .str z => if nameV (.str z) then (match cs.lookup z with | some k => .str k | none => .non) else .non
  | _ => .non
def spKind : Sp := fun vs H Q _ => ∃ x cs y d, vs = [x, y] ∧ Sx H (.tuple (cs.map cD)) x ∧ (cs.map Prod.fst).Nodup ∧ Sx H d y ∧ Q (kindOf cs d) H
/-- a good order, as data -/
def pD (p : Str × Str × Str) : PyData := .tuple [.str p.1, .str p.2.1, .str p.2.2]
section
variable {P : Program} {w : World} {K : PySem.W.Frag} {mg : Str → Option Value} {base : Heap} {t : Adr}
theorem ok_is_whole (T : Txt w K mg t) : FnOk P w K mg base CX0 1 t.f_is_whole t.d_is_whole ["thing"] (spOf wholeV) := by
  refine T.F_is_whole.ok sc_is_whole (fun vs H Q E h => ?_) (fun cdv A outer s H vs Q E hr h => ?_)
  · obtain ⟨x, rfl, _⟩ := h
    rfl
  · obtain ⟨x, rfl, ⟨⟨k, hk⟩, _⟩, q⟩ := h
    refine ⟨_, (@pss_one _ _ _ (@ps_ret _ _ _ _ (@pe_and _ _ _ _ _ _ _ (@pe_callB _ _ _ _ _ _ _ _ _ call_isi (by rfl) T.n_isinstance bt_isinstance (@pa2 _ _ _ _ _ (@pv _ 0 _ _ (by rfl) (by first | exact Or.inl rfl | exact Or.inr (Or.inl rfl) | exact Or.inr (Or.inr rfl)) (by decide) (by decide)) (@pa2 _ _ _ _ _ (@pe_bltn _ _ (.ty "int") _ _ (by rfl) T.n_int bt_int rfl (by decide) (by decide)) pa_nil (by rfl)) (by rfl)) (by decide) (by decide) (by rfl) (by rfl)) (@pe_one _ _ _ _ _ (@pe_not _ _ _ _ (@pe_callB _ _ _ _ _ _ _ _ _ call_isi (by rfl) T.n_isinstance bt_isinstance (@pa2 _ _ _ _ _ (@pv _ 0 _ _ (by rfl) (by first | exact Or.inl rfl | exact Or.inr (Or.inl rfl) | exact Or.inr (Or.inr rfl)) (by decide) (by decide)) (@pa2 _ _ _ _ _ (@pe_bltn _ _ (.ty "bool") _ _ (by rfl) T.n_bool bt_bool rfl (by decide) (by decide)) pa_nil (by rfl)) (by rfl)) (by decide) (by decide) (by rfl) (by rfl))))))), ?_⟩
    refine ⟨_, rfl, _, _, _, _, rfl, isa_int, hk, _, rfl, ?_⟩
    cases hk with
    | int i => exact ⟨_, rfl, _, _, _, _, rfl, isa_bool, .int i, _, rfl, q⟩
    | bl b => exact ⟨_, rfl, _, _, _, _, rfl, isa_bool, .bl b, _, rfl, q⟩
    | _ => exact q
theorem ok_is_letter (T : Txt w K mg t) : FnOk P w K mg base CX0 1 t.f_is_letter t.d_is_letter ["sign"] (spSign isLetC) := by
  refine T.F_is_letter.ok sc_is_letter (fun vs H Q E h => ?_) (fun cdv A outer s H vs Q E hr h => ?_)
  · obtain ⟨x, rfl, _⟩ := h
    rfl
  · obtain ⟨c, rfl, q⟩ := h
    refine ⟨_, (@pss_one _ _ _ (@ps_ret _ _ _ _ (@pe_chain _ _ _ _ _ _ _ _ _ _ _ _ op_le_str op_le_str pe_str (@pv _ 0 _ _ (by rfl) (by first | exact Or.inl rfl | exact Or.inr (Or.inl rfl) | exact Or.inr (Or.inr rfl)) (by decide) (by decide)) pe_str (by with_unfolding_all rfl)))), ?_⟩
    refine ⟨_, rfl, _, _, rfl, rfl, _, rfl, ?_⟩
    have e1 : sLe "a" ⟨#[c]⟩ = decide (97 ≤ c) := sLe_one 97 c
    have e2 : sLe ⟨#[c]⟩ "z" = decide (c ≤ 122) := sLe_one c 122
    rw [e1]
    unfold isLetC at q
    cases e : decide (97 ≤ c) with
    | true =>
      rw [e] at q
      refine ⟨_, _, rfl, rfl, ?_⟩
      rw [e2]
      exact q
    | false =>
      rw [e] at q
      exact q
theorem ok_is_figure (T : Txt w K mg t) : FnOk P w K mg base CX0 1 t.f_is_figure t.d_is_figure ["sign"] (spSign isFigC) := by
  refine T.F_is_figure.ok sc_is_figure (fun vs H Q E h => ?_) (fun cdv A outer s H vs Q E hr h => ?_)
  · obtain ⟨x, rfl, _⟩ := h
    rfl
  · obtain ⟨c, rfl, q⟩ := h
    refine ⟨_, (@pss_one _ _ _ (@ps_ret _ _ _ _ (@pe_chain _ _ _ _ _ _ _ _ _ _ _ _ op_le_str op_le_str pe_str (@pv _ 0 _ _ (by rfl) (by first | exact Or.inl rfl | exact Or.inr (Or.inl rfl) | exact Or.inr (Or.inr rfl)) (by decide) (by decide)) pe_str (by with_unfolding_all rfl)))), ?_⟩
    refine ⟨_, rfl, _, _, rfl, rfl, _, rfl, ?_⟩
    have e1 : sLe "0" ⟨#[c]⟩ = decide (48 ≤ c) := sLe_one 48 c
    have e2 : sLe ⟨#[c]⟩ "9" = decide (c ≤ 57) := sLe_one c 57
    rw [e1]
    unfold isFigC at q
    cases e : decide (48 ≤ c) with
    | true =>
      rw [e] at q
      refine ⟨_, _, rfl, rfl, ?_⟩
      rw [e2]
      exact q
    | false =>
      rw [e] at q
      exact q
theorem ok_is_name (T : Txt w K mg t) : FnOk P w K mg base CX0 2 t.f_is_name t.d_is_name ["thing"] (spOf nameV) := by
  have G_is_letter : FnOk P w K mg base CX0 1 t.f_is_letter t.d_is_letter ["sign"] (spSign isLetC) := ok_is_letter T
  refine FnOk.forget (sp := fun vs H Q _ => ∃ x, vs = [x] ∧ Ay H x ∧ ∀ H', Same H H' → Q (.bl (nameV x)) H') ?_ (fun vs H Q E ⟨x, e, a, q⟩ => ⟨x, e, a, fun H' s => ⟨H, Fg.all s, q⟩⟩)
  refine T.F_is_name.ok sc_is_name (fun vs H Q E h => ?_) (fun cdv A outer s H vs Q E hr h => ?_)
  · obtain ⟨x, rfl, _⟩ := h
    rfl
  · obtain ⟨x, rfl, ⟨⟨k, hk⟩, hz⟩, q⟩ := h
    refine ⟨_, (@pss_cons _ _ _ _ _ (@ps_if _ _ _ _ _ _ _ _ (@PW.pt _ _ _ (@pw_or _ _ _ _ _ _ _ (@pt_not _ _ _ _ (@pt_val _ _ _ (@pe_callB _ _ _ _ _ _ _ _ _ call_isi (by rfl) T.n_isinstance bt_isinstance (@pa2 _ _ _ _ _ (@pv _ 0 _ _ (by rfl) (by first | exact Or.inl rfl | exact Or.inr (Or.inl rfl) | exact Or.inr (Or.inr rfl)) (by decide) (by decide)) (@pa2 _ _ _ _ _ (@pe_bltn _ _ (.ty "str") _ _ (by rfl) T.n_str bt_str rfl (by decide) (by decide)) pa_nil (by rfl)) (by rfl)) (by decide) (by decide) (by rfl) (by rfl)) (by intro _; rfl))) (@pw_or1 _ _ _ _ (@pt_not _ _ _ _ (@pt_chain _ _ _ _ _ _ _ _ _ _ _ _ op_le op_le pe_int (@pe_callB _ _ _ _ _ _ _ _ _ call_len (by rfl) T.n_len bt_len (@pa2 _ _ _ _ _ (@pv _ 0 _ _ (by rfl) (by first | exact Or.inl rfl | exact Or.inr (Or.inl rfl) | exact Or.inr (Or.inr rfl)) (by decide) (by decide)) pa_nil (by rfl)) (by decide) (by decide) (by rfl) (by rfl)) (@pe_glob _ _ (.int 8) _ _ (by rfl) T.mg_MOST_NAME_SIGNS ⟨_, rfl⟩ (by decide)) (by with_unfolding_all rfl)))))) (@pss_one _ _ _ (@ps_ret _ _ _ _ pe_bl)) pss_nil) (@pss_one _ _ _ (@ps_ret _ _ _ _ (@pe_callB _ _ _ _ _ _ _ _ _ (call_all_list rfl) (by rfl) T.n_all bt_all (@pa2 _ _ _ _ _ (@pe_comp _ (["sign"]) ([none]) _ _ _ _ _ _ _ _ _ _ (csc (defScope s_is_name) ["thing"] rfl rfl (by decide +kernel)) rfl (@pi_str _ _ _ _ (@pv _ 0 _ _ (by rfl) (by first | exact Or.inl rfl | exact Or.inr (Or.inl rfl) | exact Or.inr (Or.inr rfl)) (by decide) (by decide))) (fun _ _ _ _ _ => (@pg_name _ _ (0) _ (show (["sign"] : List Str).Nodup by decide +kernel) (by rfl) (by first | exact Or.inl rfl | exact Or.inr rfl) (by first | exact .inl rfl | exact .inr rfl | assumption))) (gx_name rfl) (fun _ _ _ _ _ => pif_nil) (fun _ _ _ _ _ => (@pe_call _ _ _ _ _ _ _ _ _ _ _ _ _ _ _ _ (G_is_letter.mono (by decide)) hr (by rfl) T.mg_is_letter T.F_is_letter.kp T.b_is_letter .nil pass0 (@pa2 _ _ _ _ _ (@pv _ 0 _ _ (by rfl) (by first | exact Or.inl rfl | exact Or.inr (Or.inl rfl) | exact Or.inr (Or.inr rfl)) (by decide) (by decide)) pa_nil (by rfl)) (by decide) (by rfl) (by rfl))) (by intro _; rfl)) pa_nil (by rfl)) (by decide) (by decide) (by rfl) (by rfl))))), ?_⟩
    refine ⟨_, rfl, _, _, _, _, rfl, isa_str, hk, _, rfl, ?_⟩
    cases hk with
    | str z =>
      have hz := hz z rfl
      refine ⟨_, rfl, _, _, rfl, ⟨hz, rfl⟩, _, _, rfl, rfl, _, rfl, ?_⟩
      refine ifb (fun h1 => ?_) (fun h1 => ?_)
      · have h1 : 1 ≤ ((z.cps.size : Nat) : Int) := of_decide_eq_true h1
        refine ⟨_, _, rfl, rfl, _, rfl, ?_⟩
        refine ifb (fun h2 => ?_) (fun h2 => ?_)
        · have h2 : ¬ ((z.cps.size : Nat) : Int) ≤ 8 := of_decide_eq_false (nt h2)
          have e : nameV (.str z) = false := by
            simp only [nameV, Bool.and_eq_false_iff, decide_eq_false_iff_not]
            exact .inr (.inl (by omega))
          rw [e] at q
          exact q H (Same.refl H)
        · have h2 : ((z.cps.size : Nat) : Int) ≤ 8 := of_decide_eq_true (nf h2)
          have e : nameV (.str z) = z.cps.toList.all isLetC := by
            simp only [nameV]
            rw [decide_eq_true (by omega : 1 ≤ z.cps.size), decide_eq_true (by omega : z.cps.size ≤ 8)]
            rfl
          rw [e] at q
          dsimp only [tNext, tRet]
          refine all_str isLetC hz (fun R hR => ?_) (fun c hc R hR => ?_) q
          · exact ⟨_, rfl, hR⟩
          · exact ⟨_, rfl, c, rfl, hR⟩
      · have h1 : ¬ 1 ≤ ((z.cps.size : Nat) : Int) := of_decide_eq_false h1
        have e : nameV (.str z) = false := by
          simp only [nameV, Bool.and_eq_false_iff, decide_eq_false_iff_not]
          exact .inl (by omega)
        rw [e] at q
        exact ⟨_, rfl, q H (Same.refl H)⟩
    | _ => exact q H (Same.refl H)
theorem ok_is_key (T : Txt w K mg t) : FnOk P w K mg base CX0 2 t.f_is_key t.d_is_key ["thing"] (spOf keyV) := by
  have G_is_letter : FnOk P w K mg base CX0 1 t.f_is_letter t.d_is_letter ["sign"] (spSign isLetC) := ok_is_letter T
  have G_is_figure : FnOk P w K mg base CX0 1 t.f_is_figure t.d_is_figure ["sign"] (spSign isFigC) := ok_is_figure T
  refine FnOk.forget (sp := fun vs H Q _ => ∃ x, vs = [x] ∧ Ay H x ∧ ∀ H', Same H H' → Q (.bl (keyV x)) H') ?_ (fun vs H Q E ⟨x, e, a, q⟩ => ⟨x, e, a, fun H' s => ⟨H, Fg.all s, q⟩⟩)
  refine T.F_is_key.ok sc_is_key (fun vs H Q E h => ?_) (fun cdv A outer s H vs Q E hr h => ?_)
  · obtain ⟨x, rfl, _⟩ := h
    rfl
  · obtain ⟨x, rfl, ⟨⟨k, hk⟩, hz⟩, q⟩ := h
    refine ⟨_, (@pss_cons _ _ _ _ _ (@ps_if _ _ _ _ _ _ _ _ (@PW.pt _ _ _ (@pw_or _ _ _ _ _ _ _ (@pt_not _ _ _ _ (@pt_val _ _ _ (@pe_callB _ _ _ _ _ _ _ _ _ call_isi (by rfl) T.n_isinstance bt_isinstance (@pa2 _ _ _ _ _ (@pv _ 0 _ _ (by rfl) (by first | exact Or.inl rfl | exact Or.inr (Or.inl rfl) | exact Or.inr (Or.inr rfl)) (by decide) (by decide)) (@pa2 _ _ _ _ _ (@pe_bltn _ _ (.ty "str") _ _ (by rfl) T.n_str bt_str rfl (by decide) (by decide)) pa_nil (by rfl)) (by rfl)) (by decide) (by decide) (by rfl) (by rfl)) (by intro _; rfl))) (@pw_or1 _ _ _ _ (@pt_not _ _ _ _ (@pt_chain _ _ _ _ _ _ _ _ _ _ _ _ op_le op_le pe_int (@pe_callB _ _ _ _ _ _ _ _ _ call_len (by rfl) T.n_len bt_len (@pa2 _ _ _ _ _ (@pv _ 0 _ _ (by rfl) (by first | exact Or.inl rfl | exact Or.inr (Or.inl rfl) | exact Or.inr (Or.inr rfl)) (by decide) (by decide)) pa_nil (by rfl)) (by decide) (by decide) (by rfl) (by rfl)) (@pe_glob _ _ (.int 12) _ _ (by rfl) T.mg_MOST_KEY_SIGNS ⟨_, rfl⟩ (by decide)) (by with_unfolding_all rfl)))))) (@pss_one _ _ _ (@ps_ret _ _ _ _ pe_bl)) pss_nil) (@pss_cons _ _ _ _ _ (@ps_if _ _ _ _ _ _ _ _ (@pt_not _ _ _ _ (@pt_val _ _ _ (@pe_call _ _ _ _ _ _ _ _ _ _ _ _ _ _ _ _ (G_is_letter.mono (by decide)) hr (by rfl) T.mg_is_letter T.F_is_letter.kp T.b_is_letter .nil pass0 (@pa2 _ _ _ _ _ (@pe_ix _ _ _ _ _ _ _ ix_str (@pv _ 0 _ _ (by rfl) (by first | exact Or.inl rfl | exact Or.inr (Or.inl rfl) | exact Or.inr (Or.inr rfl)) (by decide) (by decide)) pe_int (fun _ _ => rfl)) pa_nil (by rfl)) (by decide) (by rfl) (by rfl)) (by intro _; rfl))) (@pss_one _ _ _ (@ps_ret _ _ _ _ pe_bl)) pss_nil) (@pss_one _ _ _ (@ps_ret _ _ _ _ (@pe_callB _ _ _ _ _ _ _ _ _ (call_all_list rfl) (by rfl) T.n_all bt_all (@pa2 _ _ _ _ _ (@pe_comp _ (["sign"]) ([none]) _ _ _ _ _ _ _ _ _ _ (csc (defScope s_is_key) ["thing"] rfl rfl (by decide +kernel)) rfl (@pi_str _ _ _ _ (@pv _ 0 _ _ (by rfl) (by first | exact Or.inl rfl | exact Or.inr (Or.inl rfl) | exact Or.inr (Or.inr rfl)) (by decide) (by decide))) (fun _ _ _ _ _ => (@pg_name _ _ (0) _ (show (["sign"] : List Str).Nodup by decide +kernel) (by rfl) (by first | exact Or.inl rfl | exact Or.inr rfl) (by first | exact .inl rfl | exact .inr rfl | assumption))) (gx_name rfl) (fun _ _ _ _ _ => pif_nil) (fun _ _ _ _ _ => (@pe_or _ _ _ _ _ _ _ (@pe_call _ _ _ _ _ _ _ _ _ _ _ _ _ _ _ _ (G_is_letter.mono (by decide)) hr (by rfl) T.mg_is_letter T.F_is_letter.kp T.b_is_letter .nil pass0 (@pa2 _ _ _ _ _ (@pv _ 0 _ _ (by rfl) (by first | exact Or.inl rfl | exact Or.inr (Or.inl rfl) | exact Or.inr (Or.inr rfl)) (by decide) (by decide)) pa_nil (by rfl)) (by decide) (by rfl) (by rfl)) (@pe_one _ _ _ _ _ (@pe_call _ _ _ _ _ _ _ _ _ _ _ _ _ _ _ _ (G_is_figure.mono (by decide)) hr (by rfl) T.mg_is_figure T.F_is_figure.kp T.b_is_figure .nil pass0 (@pa2 _ _ _ _ _ (@pv _ 0 _ _ (by rfl) (by first | exact Or.inl rfl | exact Or.inr (Or.inl rfl) | exact Or.inr (Or.inr rfl)) (by decide) (by decide)) pa_nil (by rfl)) (by decide) (by rfl) (by rfl))))) (by intro _; rfl)) pa_nil (by rfl)) (by decide) (by decide) (by rfl) (by rfl)))))), ?_⟩
    refine ⟨_, rfl, _, _, _, _, rfl, isa_str, hk, _, rfl, ?_⟩
    cases hk with
    | str z =>
      have hz := hz z rfl
      refine ⟨_, rfl, _, _, rfl, ⟨hz, rfl⟩, _, _, rfl, rfl, _, rfl, ?_⟩
      refine ifb (fun h1 => ?_) (fun h1 => ?_)
      · have h1 : 1 ≤ ((z.cps.size : Nat) : Int) := of_decide_eq_true h1
        refine ⟨_, _, rfl, rfl, _, rfl, ?_⟩
        refine ifb (fun h2 => ?_) (fun h2 => ?_)
        · have h2 : ¬ ((z.cps.size : Nat) : Int) ≤ 12 := of_decide_eq_false (nt h2)
          have e : keyV (.str z) = false := by
            simp only [keyV, Bool.and_eq_false_iff, decide_eq_false_iff_not]
            exact .inr (.inl (by omega))
          rw [e] at q
          exact q H (Same.refl H)
        · have h2 : ((z.cps.size : Nat) : Int) ≤ 12 := of_decide_eq_true (nf h2)
          obtain ⟨c, r, ec⟩ := len_pos (z := z) (by omega)
          have e : keyV (.str z) = (isLetC c && z.cps.toList.all fun c => isLetC c || isFigC c) := by
            simp only [keyV]
            rw [decide_eq_true (by omega : 1 ≤ z.cps.size), decide_eq_true (by omega : z.cps.size ≤ 12), ec]
            rfl
          rw [e] at q
          refine ⟨_, rfl, z, _, c, rfl, rfl, hz, at0 ec, c, rfl, _, rfl, ?_⟩
          refine ifb (fun h3 => ?_) (fun h3 => ?_)
          · rw [nt h3] at q
            exact q H (Same.refl H)
          · rw [nf h3, Bool.true_and] at q
            dsimp only [tNext, tRet]
            refine all_str (fun c => isLetC c || isFigC c) hz (fun R hR => ?_) (fun c hc R hR => ?_) q
            · exact ⟨_, rfl, hR⟩
            · refine ⟨_, rfl, c, rfl, _, rfl, ?_⟩
              refine ifb (fun h4 => ?_) (fun h4 => ?_)
              · rw [h4] at hR
                exact hR
              · rw [h4, Bool.false_or] at hR
                exact ⟨_, rfl, c, rfl, hR⟩
      · have h1 : ¬ 1 ≤ ((z.cps.size : Nat) : Int) := of_decide_eq_false h1
        have e : keyV (.str z) = false := by
          simp only [keyV, Bool.and_eq_false_iff, decide_eq_false_iff_not]
          exact .inl (by omega)
        rw [e] at q
        exact ⟨_, rfl, q H (Same.refl H)⟩
    | _ => exact q H (Same.refl H)
theorem ok_is_word (T : Txt w K mg t) : FnOk P w K mg base CX0 1 t.f_is_word t.d_is_word ["thing"] (spOf wordV) := by
  refine FnOk.forget (sp := fun vs H Q _ => ∃ x, vs = [x] ∧ Ay H x ∧ ∀ H', Same H H' → Q (.bl (wordV x)) H') ?_ (fun vs H Q E ⟨x, e, a, q⟩ => ⟨x, e, a, fun H' s => ⟨H, Fg.all s, q⟩⟩)
  refine T.F_is_word.ok sc_is_word (fun vs H Q E h => ?_) (fun cdv A outer s H vs Q E hr h => ?_)
  · obtain ⟨x, rfl, _⟩ := h
    rfl
  · obtain ⟨x, rfl, ⟨⟨k, hk⟩, hz⟩, q⟩ := h
    refine ⟨_, (@pss_cons _ _ _ _ _ (@ps_if _ _ _ _ _ _ _ _ (@PW.pt _ _ _ (@pw_or _ _ _ _ _ _ _ (@pt_not _ _ _ _ (@pt_val _ _ _ (@pe_callB _ _ _ _ _ _ _ _ _ call_isi (by rfl) T.n_isinstance bt_isinstance (@pa2 _ _ _ _ _ (@pv _ 0 _ _ (by rfl) (by first | exact Or.inl rfl | exact Or.inr (Or.inl rfl) | exact Or.inr (Or.inr rfl)) (by decide) (by decide)) (@pa2 _ _ _ _ _ (@pe_bltn _ _ (.ty "str") _ _ (by rfl) T.n_str bt_str rfl (by decide) (by decide)) pa_nil (by rfl)) (by rfl)) (by decide) (by decide) (by rfl) (by rfl)) (by intro _; rfl))) (@pw_or1 _ _ _ _ (@pt_cmpR _ _ _ _ _ _ _ _ op_gt (@pe_callB _ _ _ _ _ _ _ _ _ call_len (by rfl) T.n_len bt_len (@pa2 _ _ _ _ _ (@pv _ 0 _ _ (by rfl) (by first | exact Or.inl rfl | exact Or.inr (Or.inl rfl) | exact Or.inr (Or.inr rfl)) (by decide) (by decide)) pa_nil (by rfl)) (by decide) (by decide) (by rfl) (by rfl)) (@pe_glob _ _ (.int 40) _ _ (by rfl) T.mg_MOST_WORD_SIGNS ⟨_, rfl⟩ (by decide)) (nomark _))))) (@pss_one _ _ _ (@ps_ret _ _ _ _ pe_bl)) pss_nil) (@pss_one _ _ _ (@ps_ret _ _ _ _ (@pe_callB _ _ _ _ _ _ _ _ _ (call_all_list rfl) (by rfl) T.n_all bt_all (@pa2 _ _ _ _ _ (@pe_comp _ (["sign"]) ([none]) _ _ _ _ _ _ _ _ _ _ (csc (defScope s_is_word) ["thing"] rfl rfl (by decide +kernel)) rfl (@pi_str _ _ _ _ (@pv _ 0 _ _ (by rfl) (by first | exact Or.inl rfl | exact Or.inr (Or.inl rfl) | exact Or.inr (Or.inr rfl)) (by decide) (by decide))) (fun _ _ _ _ _ => (@pg_name _ _ (0) _ (show (["sign"] : List Str).Nodup by decide +kernel) (by rfl) (by first | exact Or.inl rfl | exact Or.inr rfl) (by first | exact .inl rfl | exact .inr rfl | assumption))) (gx_name rfl) (fun _ _ _ _ _ => pif_nil) (fun _ _ _ _ _ => (@pe_chain _ _ _ _ _ _ _ _ _ _ _ _ op_le_str op_le_str pe_str (@pv _ 0 _ _ (by rfl) (by first | exact Or.inl rfl | exact Or.inr (Or.inl rfl) | exact Or.inr (Or.inr rfl)) (by decide) (by decide)) pe_str (by with_unfolding_all rfl))) (by intro _; rfl)) pa_nil (by rfl)) (by decide) (by decide) (by rfl) (by rfl))))), ?_⟩
    refine ⟨_, rfl, _, _, _, _, rfl, isa_str, hk, _, rfl, ?_⟩
    cases hk with
    | str z =>
      have hz := hz z rfl
      refine ⟨_, rfl, _, _, rfl, ⟨hz, rfl⟩, _, _, rfl, rfl, _, rfl, ?_⟩
      refine ifb (fun h2 => ?_) (fun h2 => ?_)
      · have h2 : (40 : Int) < ((z.cps.size : Nat) : Int) := of_decide_eq_true h2
        have e : wordV (.str z) = false := by
          simp only [wordV, Bool.and_eq_false_iff, decide_eq_false_iff_not]
          exact .inl (by omega)
        rw [e] at q
        exact q H (Same.refl H)
      · have h2 : ¬ (40 : Int) < ((z.cps.size : Nat) : Int) := of_decide_eq_false h2
        have e : wordV (.str z) = z.cps.toList.all isWrdC := by
          simp only [wordV]
          rw [decide_eq_true (by omega : z.cps.size ≤ 40)]
          rfl
        rw [e] at q
        dsimp only [tNext, tRet]
        refine all_str isWrdC hz (fun R hR => ?_) (fun c hc R hR => ?_) q
        · exact ⟨_, rfl, hR⟩
        · refine ⟨_, rfl, _, _, rfl, rfl, _, rfl, ?_⟩
          have e1 : sLe " " ⟨#[c]⟩ = decide (32 ≤ c) := sLe_one 32 c
          have e2 : sLe ⟨#[c]⟩ "~" = decide (c ≤ 126) := sLe_one c 126
          rw [e1]
          unfold isWrdC at hR
          cases e : decide (32 ≤ c) with
          | true =>
            rw [e] at hR
            refine ⟨_, _, rfl, rfl, ?_⟩
            rw [e2]
            exact hR
          | false =>
            rw [e] at hR
            exact hR
    | _ => exact q H (Same.refl H)
theorem ok_is_value (T : Txt w K mg t) : FnOk P w K mg base CX0 2 t.f_is_value t.d_is_value ["kind", "thing"] spValue := by
  have G_is_whole : FnOk P w K mg base CX0 1 t.f_is_whole t.d_is_whole ["thing"] (spOf wholeV) := ok_is_whole T
  have G_is_word : FnOk P w K mg base CX0 1 t.f_is_word t.d_is_word ["thing"] (spOf wordV) := ok_is_word T
  refine T.F_is_value.ok sc_is_value (fun vs H Q E h => ?_) (fun cdv A outer s H vs Q E hr h => ?_)
  · obtain ⟨k, x, rfl, _⟩ := h
    rfl
  · obtain ⟨k, x, rfl, a, q⟩ := h
    refine ⟨_, (@pss_cons _ _ _ _ _ (@ps_if _ _ _ _ _ _ _ _ (@pt_cmpR _ _ _ _ _ _ _ _ op_isN (@pv _ 1 _ _ (by rfl) (by first | exact Or.inl rfl | exact Or.inr (Or.inl rfl) | exact Or.inr (Or.inr rfl)) (by decide) (by decide)) pe_non (nomark _)) (@pss_one _ _ _ (@ps_ret _ _ _ _ pe_bl)) pss_nil) (@pss_cons _ _ _ _ _ (@ps_if _ _ _ _ _ _ _ _ (@pt_cmpR _ _ _ _ _ _ _ _ op_eq (@pv _ 0 _ _ (by rfl) (by first | exact Or.inl rfl | exact Or.inr (Or.inl rfl) | exact Or.inr (Or.inr rfl)) (by decide) (by decide)) pe_str (nomark _)) (@pss_one _ _ _ (@ps_ret _ _ _ _ (@pe_call _ _ _ _ _ _ _ _ _ _ _ _ _ _ _ _ (G_is_whole.mono (by decide)) hr (by rfl) T.mg_is_whole T.F_is_whole.kp T.b_is_whole .nil pass0 (@pa2 _ _ _ _ _ (@pv _ 1 _ _ (by rfl) (by first | exact Or.inl rfl | exact Or.inr (Or.inl rfl) | exact Or.inr (Or.inr rfl)) (by decide) (by decide)) pa_nil (by rfl)) (by decide) (by rfl) (by rfl)))) pss_nil) (@pss_one _ _ _ (@ps_ret _ _ _ _ (@pe_call _ _ _ _ _ _ _ _ _ _ _ _ _ _ _ _ (G_is_word.mono (by decide)) hr (by rfl) T.mg_is_word T.F_is_word.kp T.b_is_word .nil pass0 (@pa2 _ _ _ _ _ (@pv _ 1 _ _ (by rfl) (by first | exact Or.inl rfl | exact Or.inr (Or.inl rfl) | exact Or.inr (Or.inr rfl)) (by decide) (by decide)) pa_nil (by rfl)) (by decide) (by rfl) (by rfl)))))), ?_⟩
    refine ⟨_, rfl, rfl, _, rfl, ?_⟩
    refine ifb (fun h1 => ?_) (fun h1 => ?_)
    · have h1 : x = .non := of_decide_eq_true h1
      subst h1
      exact q
    · have h1 : ¬ x = .non := of_decide_eq_false h1
      refine ⟨_, rfl, rfl, _, rfl, ?_⟩
      have e : valueV k x = if k = "number" then wholeV x else wordV x := by
        cases x <;> first
          | exact absurd rfl h1
          | rfl
      rw [e] at q
      refine ifb (fun h2 => ?_) (fun h2 => ?_)
      · have h2 : k = "number" := V.str.inj (of_decide_eq_true h2)
        rw [if_pos h2] at q
        exact ⟨_, rfl, x, rfl, a, q⟩
      · have h2 : ¬ k = "number" := fun z => of_decide_eq_false h2 (congrArg V.str z)
        rw [if_neg h2] at q
        exact ⟨_, rfl, x, rfl, a, q⟩
theorem ok_kind_named (T : Txt w K mg t) : FnOk P w K mg base CX0 3 t.f_kind_named t.d_kind_named ["columns", "name"] spKind := by
  have G_is_name : FnOk P w K mg base CX0 2 t.f_is_name t.d_is_name ["thing"] (spOf nameV) := ok_is_name T
  refine FnOk.forget (sp := fun vs H Q _ => ∃ x cs y d, vs = [x, y] ∧ Sx H (.tuple (cs.map cD)) x ∧ (cs.map Prod.fst).Nodup ∧ Sx H d y ∧ ∀ H', Same H H' → Q (kindOf cs d) H') ?_ (fun vs H Q E ⟨x, cs, y, d, e, h1, h2, h3, q⟩ => ⟨x, cs, y, d, e, h1, h2, h3, fun H' s => ⟨H, Fg.all s, q⟩⟩)
  refine T.F_kind_named.ok sc_kind_named (fun vs H Q E h => ?_) (fun cdv A outer s H vs Q E hr h => ?_)
  · obtain ⟨x, cs, y, d, rfl, _⟩ := h
    rfl
  · obtain ⟨x, cs, y, d, rfl, hx, hn, hy, q⟩ := h
    refine ⟨_, (@pss_cons _ _ _ _ _ (@ps_if _ _ _ _ _ _ _ _ (@pt_not _ _ _ _ (@pt_val _ _ _ (@pe_call _ _ _ _ _ _ _ _ _ _ _ _ _ _ _ _ (G_is_name.mono (by decide)) hr (by rfl) T.mg_is_name T.F_is_name.kp T.b_is_name .nil pass0 (@pa2 _ _ _ _ _ (@pv _ 1 _ _ (by rfl) (by first | exact Or.inl rfl | exact Or.inr (Or.inl rfl) | exact Or.inr (Or.inr rfl)) (by decide) (by decide)) pa_nil (by rfl)) (by decide) (by rfl) (by rfl)) (by intro _; rfl))) (@pss_one _ _ _ (@ps_ret _ _ _ _ pe_non)) pss_nil) (@pss_one _ _ _ (@ps_ret _ _ _ _ (@pe_dget1 _ _ _ _ _ _ _ (hu1 hr.units) (@pe_callTy _ _ _ _ _ _ _ _ _ (call_dictT rfl) (by rfl) T.n_dict bt_dict (@pa2 _ _ _ _ _ (@pv _ 0 _ _ (by rfl) (by first | exact Or.inl rfl | exact Or.inr (Or.inl rfl) | exact Or.inr (Or.inr rfl)) (by decide) (by decide)) pa_nil (by rfl)) (by decide) (by decide) (by rfl) (by rfl)) (@pv _ 1 _ _ (by rfl) (by first | exact Or.inl rfl | exact Or.inr (Or.inl rfl) | exact Or.inr (Or.inr rfl)) (by decide) (by decide)) ⟨by rfl, by rfl, by rfl, by rfl⟩)))), ?_⟩
    refine ⟨_, rfl, y, rfl, hy.ay, _, rfl, ?_⟩
    refine ifb (fun h1 => ?_) (fun h1 => ?_)
    · have h1 := nt h1
      rw [nameD_eq hy] at h1
      have e : kindOf cs d = .non := by
        cases d with
        | str z =>
          have h1 : nameV (.str z) = false := h1
          unfold kindOf
          dsimp only
          rw [h1]
          rfl
        | _ => rfl
      rw [e] at q
      exact q H (Same.refl H)
    · have h1 := nf h1
      rw [nameD_eq hy] at h1
      cases d with
      | str z =>
        have hnm : nameV (.str z) = true := h1
        obtain ⟨rfl, hz⟩ := hy.str
        obtain ⟨a, xs, rfl, e, hl, hall, hp⟩ := cols_at hx
        dsimp only [tNext, tRet]
        refine ⟨_, rfl, a, xs, _, rfl, e, hp, fun l hln => ?_⟩
        generalize hH : upd H l _ = H1
        have s1 : Same H H1 := hH ▸ same_new hln
        have e1 : H1 l = some (.dK (dictV (cs.map fun c => (c.1, V.str c.2)))) := hH ▸ upd_same
        refine ⟨l, rfl, .inl ⟨_, .inl e1⟩, _, rfl, _, DGet.k (k := .inr z) e1, ?_⟩
        have hn' : ((cs.map fun c => (c.1, V.str c.2)).map Prod.fst).Nodup := by rw [List.map_map]; exact hn
        rw [valV_dictV _ hn' z]
        have e2 : ((cs.map fun c => (c.1, V.str c.2)).lookup z).getD .non = kindOf cs (.str z) := by
          unfold kindOf
          dsimp only
          rw [hnm, if_pos rfl]
          clear hx hn hp hn' e1 hH q hall hl
          induction cs with
          | nil => rfl
          | cons c r ih =>
            rw [List.map_cons, List.lookup_cons, List.lookup_cons]
            cases hzc : z == c.1 with
            | true => rfl
            | false => exact ih
        rw [e2]
        exact q H1 s1
      | _ => exact absurd h1 Bool.false_ne_true
end
end My
set_option Elab.async false
set_option linter.all false
set_option maxRecDepth 100000
set_option maxHeartbeats 4000000
namespace My
open PySem L2
theorem same_none {H H1 : Hp} {l : Addr} (s : Same H H1) (h : H1 l = none) : H l = none := by
  cases e : H l with
  | none => rfl
  | some o => rw [s _ _ e] at h; cases h
def WellAt (H : Hp) (l : Addr) : Prop := ∃ a b c : Int, H l = some (.lst [.int a, .int b, .int c])
def spWell (K : PySem.W.Frag) : Sp := fun vs H Q _ => ∃ (a : Addr) (ns : List Int) (k : Nat), vs = [.ref a, .int k] ∧ SqL K H a (ns.map V.int) ∧ ns.length ≤ 63 ∧ ∀ l H', Same H H' → H l = none → WellAt H' l → Q (.ref l) H'
def spDraw : Sp := fun vs H Q _ => ∃ (l : Addr) (m : Int), vs = [.ref l, .int m] ∧ 0 < m ∧ m ≤ 3000 ∧ WellAt H l ∧ ∀ (n : Int) (H' : Hp), 0 ≤ n → n < m → But [l] H H' → WellAt H' l → Q (.int n) H'
theorem log_small {m : Int} (h0 : 0 < m) (h1 : m ≤ 3000) : m.natAbs.log2 < 9000 := by
  have h2 : m.natAbs ≤ 3000 := by omega
  have h3 : m.natAbs.log2 ≤ m.natAbs := Nat.log2_le_self _
  omega
section
variable {P : Program} {w : World} {K : PySem.W.Frag} {mg : Str → Option Value} {base : Heap} {t : Adr}
theorem ok_well (T : Txt w K mg t) : FnOk P w K mg base CX0 1 t.f_l_well t.d_l_well ["_law_script", "_law_k"] (spWell K) := by
  refine T.F_l_well.ok sc_l_well (fun vs H Q E h => ?_) (fun cdv A outer s H vs Q E hr h => ?_)
  · obtain ⟨a, ns, k, rfl, _⟩ := h
    rfl
  · obtain ⟨a, ns, k, rfl, hS, hlen, q⟩ := h
    refine ⟨_, (@pss_cons _ _ _ _ _ (@ps_set _ _ (2) _ _ _ _ sc_l_well.nd (by rfl) (by first | exact Or.inl rfl | exact Or.inr rfl) pe_int (by rfl) (by first | exact .inl rfl | exact .inr rfl | assumption)) (@pss_cons _ _ _ _ _ (@ps_cut _ _ _ (@ps_if _ _ _ _ _ _ _ _ (@pt_cmpR _ _ _ _ _ _ _ _ op_lt (@pv _ 1 _ _ (by rfl) (by first | exact Or.inl rfl | exact Or.inr (Or.inl rfl) | exact Or.inr (Or.inr rfl)) (by decide) (by decide)) (@pe_callB _ _ _ _ _ _ _ _ _ call_len (by rfl) T.n_len bt_len (@pa2 _ _ _ _ _ (@pv _ 0 _ _ (by rfl) (by first | exact Or.inl rfl | exact Or.inr (Or.inl rfl) | exact Or.inr (Or.inr rfl)) (by decide) (by decide)) pa_nil (by rfl)) (by decide) (by decide) (by rfl) (by rfl)) (nomark _)) (@pss_one _ _ _ (@ps_set _ _ (2) _ _ _ _ sc_l_well.nd (by rfl) (by first | exact Or.inl rfl | exact Or.inr rfl) (@pe_ix _ _ _ _ _ _ _ ix_list (@pv _ 0 _ _ (by rfl) (by first | exact Or.inl rfl | exact Or.inr (Or.inl rfl) | exact Or.inr (Or.inr rfl)) (by decide) (by decide)) (@pv _ 1 _ _ (by rfl) (by first | exact Or.inl rfl | exact Or.inr (Or.inl rfl) | exact Or.inr (Or.inr rfl)) (by decide) (by decide)) (fun _ _ => rfl)) (by rfl) (by first | exact .inl rfl | exact .inr rfl | assumption))) pss_nil)) (@pss_one _ _ _ (@ps_ret _ _ _ _ (@pe_lst _ _ _ _ (@pa2 _ _ _ _ _ (@pe_op _ _ _ _ _ _ _ _ op_add (@pe_op _ _ _ _ _ _ _ _ op_mod (@pv _ 2 _ _ (by rfl) (by first | exact Or.inl rfl | exact Or.inr (Or.inl rfl) | exact Or.inr (Or.inr rfl)) (by decide) (by decide)) pe_int) (@pe_op _ _ _ _ _ _ _ _ op_mul pe_int (@pv _ 1 _ _ (by rfl) (by first | exact Or.inl rfl | exact Or.inr (Or.inl rfl) | exact Or.inr (Or.inr rfl)) (by decide) (by decide)))) (@pa2 _ _ _ _ _ (@pe_ix _ _ _ _ _ _ _ ix_list (@pe_lst _ _ _ _ (@pa2 _ _ _ _ _ pe_int (@pa2 _ _ _ _ _ (@pv _ 2 _ _ (by rfl) (by first | exact Or.inl rfl | exact Or.inr (Or.inl rfl) | exact Or.inr (Or.inr rfl)) (by decide) (by decide)) pa_nil (by rfl)) (by rfl))) (@pe_callTy _ _ _ _ _ _ _ _ _ call_int1 (by rfl) T.n_int bt_int (@pa2 _ _ _ _ _ (@pe_cmpR _ _ _ _ _ _ _ _ op_ge (@pv _ 2 _ _ (by rfl) (by first | exact Or.inl rfl | exact Or.inr (Or.inl rfl) | exact Or.inr (Or.inr rfl)) (by decide) (by decide)) (@pe_op _ _ _ _ _ _ _ _ op_pow pe_int pe_int) (nomark _)) pa_nil (by rfl)) (by decide) (by decide) (by rfl) (by rfl)) (fun _ _ => rfl)) (@pa2 _ _ _ _ _ pe_int pa_nil (by rfl)) (by rfl)) (by rfl))))))), ?_⟩
    refine ⟨fun σ' H' => ∃ c : Int, σ' = [some (.ref a), some (.int k), some (.int c)] ∧ H' = H, ?_, ?_⟩
    · have lenF : LenV K (.ref a) H ns.length := .inl ⟨_, hS, (List.length_map _).symm⟩
      refine ⟨_, rfl, _, rfl, _, _, rfl, lenF, _, _, rfl, rfl, _, rfl, ?_⟩
      refine ifb (fun h1 => ?_) (fun h1 => ?_)
      · have h1 : (k : Int) < ((ns.length : Nat) : Int) := of_decide_eq_true h1
        have hk : k < ns.length := by omega
        exact ⟨_, rfl, _, rfl, a, _, _, .int ns[k], rfl, rfl, hS, atI_nat (by rw [List.getElem?_map]; simp [hk]), _, rfl, rfl⟩
      · exact ⟨_, rfl, rfl⟩
    · rintro σ' H' ⟨c, rfl, rfl⟩
      refine ⟨_, rfl, _, _, rfl, rfl, (show (0 : Int) < 2147483647 by decide), _, rfl, _, _, rfl, rfl, .inl ⟨by decide, by decide⟩, _, _, rfl, rfl, ?_⟩
      refine ⟨_, rfl, sm (show 2 ≤ 1000 by decide), fun l0 hl0 => ?_⟩
      generalize hH1 : upd H' l0 _ = H1
      have s1 : Same H' H1 := hH1 ▸ same_new hl0
      have e0 : H1 l0 = some (.lst [.int 0, .int c]) := hH1 ▸ upd_same
      have pickc : ∀ b : Bool, ∃ x : Int, atI [V.int 0, .int c] (if b = true then 1 else 0) = some (.int x) := fun b => by cases b; exact ⟨0, rfl⟩; exact ⟨c, rfl⟩
      obtain ⟨x, ax⟩ := pickc (decide (10 ^ (18 : Int).toNat ≤ c))
      refine ⟨_, rfl, _, _, rfl, rfl, ⟨by decide, by decide, by decide⟩, _, _, rfl, rfl, .inr ⟨_, rfl, l0, _, _, .int x, rfl, rfl, SqL.of e0, ax, sm (show 3 ≤ 1000 by decide), fun l hl => ?_⟩⟩
      have s2 : Same H1 (upd H1 l (.lst [.int (c % 2147483647 + 48271 * k), .int x, .int 0])) := same_new hl
      exact q l _ (s1.trans s2) (same_none s1 hl) ⟨_, _, _, upd_same⟩
theorem ok_draw (T : Txt w K mg t) : FnOk P w K mg base CX0 1 t.f_l_draw t.d_l_draw ["_law_well_here", "_law_most"] spDraw := by
  refine T.F_l_draw.ok sc_l_draw (fun vs H Q E h => ?_) (fun cdv A outer s H vs Q E hr h => ?_)
  · obtain ⟨l, m, rfl, _⟩ := h
    rfl
  · obtain ⟨l, m, rfl, h0, h1, ⟨a, b, c, e⟩, q⟩ := h
    refine ⟨_, (@pss_cons _ _ _ _ _ (@ps_if _ _ _ _ _ _ _ _ (@pt_cmpR _ _ _ _ _ _ _ _ op_gt (@pe_ix _ _ _ _ _ _ _ ix_list (@pv _ 0 _ _ (by rfl) (by first | exact Or.inl rfl | exact Or.inr (Or.inl rfl) | exact Or.inr (Or.inr rfl)) (by decide) (by decide)) pe_int (fun _ _ => rfl)) pe_int (nomark _)) (@pss_cons _ _ _ _ _ (@ps_set _ _ (2) _ _ _ _ sc_l_draw.nd (by rfl) (by first | exact Or.inl rfl | exact Or.inr rfl) (@pe_op _ _ _ _ _ _ _ _ op_mod (@pe_ix _ _ _ _ _ _ _ ix_list (@pv _ 0 _ _ (by rfl) (by first | exact Or.inl rfl | exact Or.inr (Or.inl rfl) | exact Or.inr (Or.inr rfl)) (by decide) (by decide)) pe_int (fun _ _ => rfl)) (@pv _ 1 _ _ (by rfl) (by first | exact Or.inl rfl | exact Or.inr (Or.inl rfl) | exact Or.inr (Or.inr rfl)) (by decide) (by decide))) (by rfl) (by first | exact .inl rfl | exact .inr rfl | assumption)) (@pss_cons _ _ _ _ _ (@ps_asg _ _ _ _ _ _ (@pe_op _ _ _ _ _ _ _ _ op_fdivL (@pe_ix _ _ _ _ _ _ _ ix_list (@pv _ 0 _ _ (by rfl) (by first | exact Or.inl rfl | exact Or.inr (Or.inl rfl) | exact Or.inr (Or.inr rfl)) (by decide) (by decide)) pe_int (fun _ _ => rfl)) (@pv _ 1 _ _ (by rfl) (by first | exact Or.inl rfl | exact Or.inr (Or.inl rfl) | exact Or.inr (Or.inr rfl)) (by decide) (by decide))) (@pg_sub _ _ _ _ _ _ _ (@pv _ 0 _ _ (by rfl) (by first | exact Or.inl rfl | exact Or.inr (Or.inl rfl) | exact Or.inr (Or.inr rfl)) (by decide) (by decide)) pe_int set_list (by intro _; rfl)) (by rfl) (by rfl) (by rfl)) (@pss_one _ _ _ (@ps_ret _ _ _ _ (@pv _ 2 _ _ (by rfl) (by first | exact Or.inl rfl | exact Or.inr (Or.inl rfl) | exact Or.inr (Or.inr rfl)) (by decide) (by decide)))))) pss_nil) (@pss_cons _ _ _ _ _ (@ps_asg _ _ _ _ _ _ (@pe_op _ _ _ _ _ _ _ _ op_add (@pe_ix _ _ _ _ _ _ _ ix_list (@pv _ 0 _ _ (by rfl) (by first | exact Or.inl rfl | exact Or.inr (Or.inl rfl) | exact Or.inr (Or.inr rfl)) (by decide) (by decide)) pe_int (fun _ _ => rfl)) pe_int) (@pg_sub _ _ _ _ _ _ _ (@pv _ 0 _ _ (by rfl) (by first | exact Or.inl rfl | exact Or.inr (Or.inl rfl) | exact Or.inr (Or.inr rfl)) (by decide) (by decide)) pe_int set_list (by intro _; rfl)) (by rfl) (by rfl) (by rfl)) (@pss_cons _ _ _ _ _ (@ps_set _ _ (2) _ _ _ _ sc_l_draw.nd (by rfl) (by first | exact Or.inl rfl | exact Or.inr rfl) (@pe_op _ _ _ _ _ _ _ _ op_mod (@pe_op _ _ _ _ _ _ _ _ op_mul (@pe_op _ _ _ _ _ _ _ _ op_add (@pe_op _ _ _ _ _ _ _ _ op_add (@pe_ix _ _ _ _ _ _ _ ix_list (@pv _ 0 _ _ (by rfl) (by first | exact Or.inl rfl | exact Or.inr (Or.inl rfl) | exact Or.inr (Or.inr rfl)) (by decide) (by decide)) pe_int (fun _ _ => rfl)) (@pe_op _ _ _ _ _ _ _ _ op_mul pe_int (@pe_ix _ _ _ _ _ _ _ ix_list (@pv _ 0 _ _ (by rfl) (by first | exact Or.inl rfl | exact Or.inr (Or.inl rfl) | exact Or.inr (Or.inr rfl)) (by decide) (by decide)) pe_int (fun _ _ => rfl)))) pe_int) pe_int) pe_int) (by rfl) (by first | exact .inl rfl | exact .inr rfl | assumption)) (@pss_cons _ _ _ _ _ (@ps_set _ _ (2) _ _ _ _ sc_l_draw.nd (by rfl) (by first | exact Or.inl rfl | exact Or.inr rfl) (@pe_op _ _ _ _ _ _ _ _ op_mod (@pe_op _ _ _ _ _ _ _ _ op_mul (@pv _ 2 _ _ (by rfl) (by first | exact Or.inl rfl | exact Or.inr (Or.inl rfl) | exact Or.inr (Or.inr rfl)) (by decide) (by decide)) (@pe_op _ _ _ _ _ _ _ _ op_add (@pe_op _ _ _ _ _ _ _ _ op_fdivL (@pv _ 2 _ _ (by rfl) (by first | exact Or.inl rfl | exact Or.inr (Or.inl rfl) | exact Or.inr (Or.inr rfl)) (by decide) (by decide)) pe_int) pe_int)) pe_int) (by rfl) (by first | exact .inl rfl | exact .inr rfl | assumption)) (@pss_one _ _ _ (@ps_ret _ _ _ _ (@pe_op _ _ _ _ _ _ _ _ op_mod (@pe_op _ _ _ _ _ _ _ _ op_mod (@pe_op _ _ _ _ _ _ _ _ op_mul (@pv _ 2 _ _ (by rfl) (by first | exact Or.inl rfl | exact Or.inr (Or.inl rfl) | exact Or.inr (Or.inr rfl)) (by decide) (by decide)) (@pe_op _ _ _ _ _ _ _ _ op_add (@pe_op _ _ _ _ _ _ _ _ op_fdivL (@pv _ 2 _ _ (by rfl) (by first | exact Or.inl rfl | exact Or.inr (Or.inl rfl) | exact Or.inr (Or.inr rfl)) (by decide) (by decide)) pe_int) pe_int)) pe_int) (@pv _ 1 _ _ (by rfl) (by first | exact Or.inl rfl | exact Or.inr (Or.inl rfl) | exact Or.inr (Or.inr rfl)) (by decide) (by decide))))))))), ?_⟩
    refine ⟨_, rfl, l, _, _, .int b, rfl, rfl, SqL.of e, rfl, _, _, rfl, rfl, _, rfl, ?_⟩
    refine ifb (fun _ => ?_) (fun _ => ?_)
    · refine ⟨_, rfl, l, _, _, .int b, rfl, rfl, SqL.of e, rfl, _, rfl, _, _, rfl, rfl, h0, ?_⟩
      refine ⟨_, rfl, l, _, _, .int b, rfl, rfl, SqL.of e, rfl, _, rfl, _, _, rfl, rfl, ⟨h0, log_small h0 h1⟩, _, rfl, l, _, _, 1, rfl, rfl, e, rfl, ?_⟩
      exact ⟨_, rfl, q _ _ (Int.emod_nonneg _ (by omega)) (Int.emod_lt_of_pos _ h0) (but_upd (by simp)) ⟨_, _, _, upd_same⟩⟩
    · refine ⟨_, rfl, l, _, _, .int c, rfl, rfl, SqL.of e, rfl, _, _, rfl, rfl, _, rfl, l, _, _, 2, rfl, rfl, e, rfl, ?_⟩
      generalize hH1 : upd H l _ = H1
      have e1 : H1 l = some (.lst [.int a, .int b, .int (c + 1)]) := by rw [← hH1, upd_same]; rfl
      have b1 : But [l] H H1 := hH1 ▸ but_upd (by simp)
      refine ⟨_, rfl, l, _, _, .int a, rfl, rfl, SqL.of e1, rfl, _, rfl, l, _, _, .int (c + 1), rfl, rfl, SqL.of e1, rfl, _, _, rfl, rfl, .inl ⟨by decide, by decide⟩, _, _, rfl, rfl, _, _, rfl, rfl, _, _, rfl, rfl, .inr ⟨by decide, by decide⟩, _, _, rfl, rfl, (show (0 : Int) < 2147483647 by decide), ?_⟩
      dsimp only
      have nb : ∀ z : Int, 0 ≤ z % 2147483647 ∧ z % 2147483647 < 2147483647 := fun z => ⟨Int.emod_nonneg z (by decide), Int.emod_lt_of_pos z (by decide)⟩
      have n1 := nb ((a + 7919 * (c + 1) + 1) * 48271)
      generalize (a + 7919 * (c + 1) + 1) * 48271 % 2147483647 = x at *
      refine ⟨_, rfl, _, rfl, _, _, rfl, rfl, ⟨by decide, by decide +kernel⟩, _, _, rfl, rfl, _, _, rfl, rfl, .inl ⟨by omega, by omega⟩, _, _, rfl, rfl, (show (0 : Int) < 2147483647 by decide), ?_⟩
      dsimp only
      have n2 := nb (x * (x / 1009 + 69621))
      generalize x * (x / 1009 + 69621) % 2147483647 = y at *
      exact ⟨_, rfl, _, rfl, _, _, rfl, rfl, ⟨by decide, by decide +kernel⟩, _, _, rfl, rfl, _, _, rfl, rfl, .inl ⟨by omega, by omega⟩, _, _, rfl, rfl, (show (0 : Int) < 2147483399 by decide), _, rfl, _, _, rfl, rfl, h0, q _ _ (Int.emod_nonneg _ (by omega)) (Int.emod_lt_of_pos _ h0) b1 ⟨_, _, _, e1⟩⟩
end
end My
set_option Elab.async false
set_option linter.all false
set_option maxRecDepth 100000
set_option maxHeartbeats 4000000
namespace My
open PySem L2
abbrev NM : List Str := ["a", "ab", "b", "abc", "key", "up", "at", "mark", "every", "is", "zzzzzzzz", "price"]
theorem NM_facts : ∀ z ∈ NM, z.cps.size ≤ 8 ∧ PySem.PyData.strOk z = true := by decide +kernel
theorem NM_nodup : NM.Nodup := by decide +kernel
/-- columns that the law draws -/
def Gd (cs : List (Str × Str)) : Prop := cs.length ≤ 8 ∧ (cs.map Prod.fst).Nodup ∧ ∀ c ∈ cs, c.1 ∈ NM ∧ (c.2 = "number" ∨ c.2 = "word")
def spCols : Sp := fun vs H Q _ => ∃ l : Addr, vs = [.ref l] ∧ WellAt H l ∧ ∀ v cs H', But [l] H H' → WellAt H' l → Gd cs → Sx H' (.tuple (cs.map cD)) v → Q v H'
theorem flat_cs : ∀ cs : List (Str × Str), flatTs (cs.map cD) = true
  | [] => rfl
  | c :: cs => by
    rw [List.map_cons]
    unfold flatTs
    rw [flat_cs cs]
    rfl
theorem two {a b : Str} (n : Int) (h0 : 0 ≤ n) (h1 : n < 2) : ∃ z : Str, (z = a ∨ z = b) ∧ atI [V.str a, .str b] n = some (.str z) := by
  have : n = 0 ∨ n = 1 := by omega
  rcases this with rfl | rfl
  · exact ⟨a, .inl rfl, rfl⟩
  · exact ⟨b, .inr rfl, rfl⟩
theorem at_of {α : Type} {l : List α} {n : Int} (h0 : 0 ≤ n) (h1 : n < (l.length : Int)) : ∃ v, v ∈ l ∧ atI l n = some v ∧ ∃ k : Nat, n = (k : Int) ∧ l[k]? = some v := by
  obtain ⟨v, e1, e2⟩ := atI_mod (l := l) h0 h1
  exact ⟨v, List.mem_of_getElem? e2, e1, n.toNat, by omega, e2⟩
theorem seqIx {n : Int} {k m : Nat} (h : n = (k : Int)) (hk : k < m) : PySem.seqIndex? n m = some k := by
  subst h
  unfold PySem.seqIndex?
  simp only
  split
  · omega
  · simp
    omega
theorem erase_map {α β : Type} {f : α → β} : ∀ {l : List α} {j : Nat}, (l.map f).eraseIdx j = (l.eraseIdx j).map f
  | [], _ => rfl
  | a :: l, 0 => rfl
  | a :: l, j + 1 => by
    rw [List.map_cons, List.eraseIdx_cons_succ, List.eraseIdx_cons_succ, List.map_cons, erase_map]
theorem erase_perm {α : Type} : ∀ {l : List α} {j : Nat} {x : α}, l[j]? = some x → (x :: l.eraseIdx j).Perm l
  | a :: l, 0, x, h => by simp at h; subst h; exact List.Perm.refl _
  | a :: l, j + 1, x, h => by
    have h1 := erase_perm (l := l) (j := j) (by simpa using h)
    rw [List.eraseIdx_cons_succ]
    exact (List.Perm.swap a x _).trans (h1.cons a)
section
variable {P : Program} {w : World} {K : PySem.W.Frag} {mg : Str → Option Value} {base : Heap} {t : Adr}
theorem ok_columns (T : Txt w K mg t) : FnOk P w K mg base CX0 2 t.f_l_columns t.d_l_columns ["_law_well_here"] spCols := by
  have G_l_draw : FnOk P w K mg base CX0 1 t.f_l_draw t.d_l_draw ["_law_well_here", "_law_most"] spDraw := ok_draw T
  refine T.F_l_columns.ok sc_l_columns (fun vs H Q E h => ?_) (fun cdv A outer s H vs Q E hr h => ?_)
  · obtain ⟨l, rfl, _⟩ := h
    rfl
  · obtain ⟨l, rfl, hw, q⟩ := h
    refine ⟨_, (@pss_cons _ _ _ _ _ (@ps_set _ _ (1) _ _ _ _ sc_l_columns.nd (by rfl) (by first | exact Or.inl rfl | exact Or.inr rfl) (@pe_lst _ _ _ _ (@pa2 _ _ _ _ _ pe_str (@pa2 _ _ _ _ _ pe_str (@pa2 _ _ _ _ _ pe_str (@pa2 _ _ _ _ _ pe_str (@pa2 _ _ _ _ _ pe_str (@pa2 _ _ _ _ _ pe_str (@pa2 _ _ _ _ _ pe_str (@pa2 _ _ _ _ _ pe_str (@pa2 _ _ _ _ _ pe_str (@pa2 _ _ _ _ _ pe_str (@pa2 _ _ _ _ _ pe_str (@pa2 _ _ _ _ _ pe_str pa_nil (by rfl)) (by rfl)) (by rfl)) (by rfl)) (by rfl)) (by rfl)) (by rfl)) (by rfl)) (by rfl)) (by rfl)) (by rfl)) (by rfl))) (by rfl) (by first | exact .inl rfl | exact .inr rfl | assumption)) (@pss_cons _ _ _ _ _ (@ps_set _ _ (2) _ _ _ _ sc_l_columns.nd (by rfl) (by first | exact Or.inl rfl | exact Or.inr rfl) (@pe_lst _ _ _ _ pa_nil) (by rfl) (by first | exact .inl rfl | exact .inr rfl | assumption)) (@pss_cons _ _ _ _ _ (@ps_cut _ _ _ (@ps_for _ _ _ _ _ _ _ _ PassesOwn.never rfl (@pi_range1 _ _ _ _ _ _ (by rfl) T.n_range (@pa2 _ _ _ _ _ (@pe_call _ _ _ _ _ _ _ _ _ _ _ _ _ _ _ _ (G_l_draw.mono (by decide)) hr (by rfl) T.mg_l_draw T.F_l_draw.kp T.b_l_draw .nil pass0 (@pa2 _ _ _ _ _ (@pv _ 0 _ _ (by rfl) (by first | exact Or.inl rfl | exact Or.inr (Or.inl rfl) | exact Or.inr (Or.inr rfl)) (by decide) (by decide)) (@pa2 _ _ _ _ _ (@pe_ix _ _ _ _ _ _ _ ix_list (@pe_lst _ _ _ _ (@pa2 _ _ _ _ _ pe_int (@pa2 _ _ _ _ _ pe_int (@pa2 _ _ _ _ _ pe_int (@pa2 _ _ _ _ _ pe_int pa_nil (by rfl)) (by rfl)) (by rfl)) (by rfl))) (@pe_call _ _ _ _ _ _ _ _ _ _ _ _ _ _ _ _ (G_l_draw.mono (by decide)) hr (by rfl) T.mg_l_draw T.F_l_draw.kp T.b_l_draw .nil pass0 (@pa2 _ _ _ _ _ (@pv _ 0 _ _ (by rfl) (by first | exact Or.inl rfl | exact Or.inr (Or.inl rfl) | exact Or.inr (Or.inr rfl)) (by decide) (by decide)) (@pa2 _ _ _ _ _ pe_int pa_nil (by rfl)) (by rfl)) (by decide) (by rfl) (by rfl)) (fun _ _ => rfl)) pa_nil (by rfl)) (by rfl)) (by decide) (by rfl) (by rfl)) pa_nil (by rfl)) (by rfl)) (@pg_name _ _ (3) _ sc_l_columns.nd (by rfl) (by first | exact Or.inl rfl | exact Or.inr rfl) (by first | exact .inl rfl | exact .inr rfl | assumption)) (@pss_cons _ _ _ _ _ (@ps_set _ _ (4) _ _ _ _ sc_l_columns.nd (by rfl) (by first | exact Or.inl rfl | exact Or.inr rfl) (@pe_bm _ _ _ _ _ _ _ _ _ _ _ _ PySem.F.plainAttrs_list PySem.F.slot_list_pop PySem.F.type_list_pop mt_popAt (@pv _ 1 _ _ (by rfl) (by first | exact Or.inl rfl | exact Or.inr (Or.inl rfl) | exact Or.inr (Or.inr rfl)) (by decide) (by decide)) (@pa2 _ _ _ _ _ (@pe_call _ _ _ _ _ _ _ _ _ _ _ _ _ _ _ _ (G_l_draw.mono (by decide)) hr (by rfl) T.mg_l_draw T.F_l_draw.kp T.b_l_draw .nil pass0 (@pa2 _ _ _ _ _ (@pv _ 0 _ _ (by rfl) (by first | exact Or.inl rfl | exact Or.inr (Or.inl rfl) | exact Or.inr (Or.inr rfl)) (by decide) (by decide)) (@pa2 _ _ _ _ _ (@pe_callB _ _ _ _ _ _ _ _ _ call_len (by rfl) T.n_len bt_len (@pa2 _ _ _ _ _ (@pv _ 1 _ _ (by rfl) (by first | exact Or.inl rfl | exact Or.inr (Or.inl rfl) | exact Or.inr (Or.inr rfl)) (by decide) (by decide)) pa_nil (by rfl)) (by decide) (by decide) (by rfl) (by rfl)) pa_nil (by rfl)) (by rfl)) (by decide) (by rfl) (by rfl)) pa_nil (by rfl)) (by rfl) (by rfl) (by rfl) (by rfl) (by rfl)) (by rfl) (by first | exact .inl rfl | exact .inr rfl | assumption)) (@pss_one _ _ _ (@ps_expr _ _ _ _ (@pe_bm _ _ _ _ _ _ _ _ _ _ _ _ PySem.F.plainAttrs_list PySem.F.slot_list_append PySem.F.type_list_append mt_append (@pv _ 2 _ _ (by rfl) (by first | exact Or.inl rfl | exact Or.inr (Or.inl rfl) | exact Or.inr (Or.inr rfl)) (by decide) (by decide)) (@pa2 _ _ _ _ _ (@pe_tup _ _ _ _ _ (@pa2 _ _ _ _ _ (@pv _ 4 _ _ (by rfl) (by first | exact Or.inl rfl | exact Or.inr (Or.inl rfl) | exact Or.inr (Or.inr rfl)) (by decide) (by decide)) (@pa2 _ _ _ _ _ (@pe_ix _ _ _ _ _ _ _ ix_list (@pe_lst _ _ _ _ (@pa2 _ _ _ _ _ pe_str (@pa2 _ _ _ _ _ pe_str pa_nil (by rfl)) (by rfl))) (@pe_call _ _ _ _ _ _ _ _ _ _ _ _ _ _ _ _ (G_l_draw.mono (by decide)) hr (by rfl) T.mg_l_draw T.F_l_draw.kp T.b_l_draw .nil pass0 (@pa2 _ _ _ _ _ (@pv _ 0 _ _ (by rfl) (by first | exact Or.inl rfl | exact Or.inr (Or.inl rfl) | exact Or.inr (Or.inr rfl)) (by decide) (by decide)) (@pa2 _ _ _ _ _ pe_int pa_nil (by rfl)) (by rfl)) (by decide) (by rfl) (by rfl)) (fun _ _ => rfl)) pa_nil (by rfl)) (by rfl))) pa_nil (by rfl)) (by rfl) (by rfl) (by rfl) (by rfl) (by rfl)) (by rfl)))) (by intro _; rfl))) (@pss_one _ _ _ (@ps_ret _ _ _ _ (@pe_callTy _ _ _ _ _ _ _ _ _ call_tuple_of (by rfl) T.n_tuple bt_tuple (@pa2 _ _ _ _ _ (@pv _ 2 _ _ (by rfl) (by first | exact Or.inl rfl | exact Or.inr (Or.inl rfl) | exact Or.inr (Or.inr rfl)) (by decide) (by decide)) pa_nil (by rfl)) (by decide) (by decide) (by rfl) (by rfl))))))), ?_⟩
    refine ⟨sm (show 12 ≤ 1000 by decide), fun ln hln => ?_⟩
    generalize hH1 : upd H ln _ = H1
    have s1 : Same H H1 := hH1 ▸ same_new hln
    have en : H1 ln = some (.lst (NM.map V.str)) := hH1 ▸ upd_same
    refine ⟨sm (show 0 ≤ 1000 by decide), fun lf hlf => ?_⟩
    generalize hH2 : upd H1 lf _ = H2
    have s2 : Same H1 H2 := hH2 ▸ same_new hlf
    have ef : H2 lf = some (.lst []) := hH2 ▸ upd_same
    have hlf0 : H lf = none := same_none s1 hlf
    have nfn : lf ≠ ln := (ne_of_none en hlf).symm
    obtain ⟨wa, wb, wc, ew⟩ := id hw
    have nln : ln ≠ l := (ne_of_none ew hln).symm
    have nlf : lf ≠ l := (ne_of_none ew hlf0).symm
    have w2 : WellAt H2 l := ⟨wa, wb, wc, s2 _ _ (s1 _ _ ew)⟩
    -- how many
    dsimp only [tSeq]
    refine ⟨fun σ' H' => ∃ (v3 v4 : Option V) (cs : List (Str × Str)) (fv : List V), σ' = [some (.ref l), some (.ref ln), some (.ref lf), v3, v4] ∧ But [l] H H' ∧ WellAt H' l ∧ H' lf = some (.lst fv) ∧ SxAll H' (cs.map cD) fv ∧ Gd cs, ?_, ?_⟩
    · refine ⟨_, rfl, sm (show 4 ≤ 1000 by decide), fun l4 hl4 => ?_⟩
      generalize hH3 : upd H2 l4 _ = H3
      have s3 : Same H2 H3 := hH3 ▸ same_new hl4
      have e4 : H3 l4 = some (.lst [.int 5, .int 5, .int 5, .int 9]) := hH3 ▸ upd_same
      obtain ⟨wa2, wb2, wc2, ew2⟩ := id w2
      have nl4 : l4 ≠ l := (ne_of_none ew2 hl4).symm
      refine ⟨_, rfl, l, 4, rfl, by decide, by decide, ⟨_, _, _, s3 _ _ ew2⟩, fun n1 H4 n10 n11 b4 w4 => ?_⟩
      obtain ⟨mv, hmv, am, _⟩ := at_of (l := [V.int 5, .int 5, .int 5, .int 9]) n10 n11
      obtain ⟨m, rfl, hm⟩ : ∃ m : Int, mv = .int m ∧ (m = 5 ∨ m = 9) := by
        simp only [List.mem_cons, List.not_mem_nil, or_false] at hmv
        rcases hmv with rfl | rfl | rfl | rfl
        · exact ⟨5, rfl, .inl rfl⟩
        · exact ⟨5, rfl, .inl rfl⟩
        · exact ⟨5, rfl, .inl rfl⟩
        · exact ⟨9, rfl, .inr rfl⟩
      refine ⟨l4, _, _, .int m, rfl, rfl, SqL.of (b4 _ _ e4 (by simp [nl4])), am, l, m, rfl, by omega, by omega, w4, fun n2 H5 n20 n21 b5 w5 => ?_⟩
      have b25 : But [l] H2 H5 := (s3.but.trans b4).trans b5
      obtain ⟨k, rfl⟩ : ∃ k : Nat, n2 = (k : Int) := ⟨n2.toNat, by omega⟩
      have hk8 : k ≤ 8 := by omega
      refine ⟨(k : Int), rfl, by omega, by omega, ?_⟩
      rw [Int.toNat_natCast]
      refine for_range (fun i σ' H' => ∃ (v3 v4 : Option V) (cs : List (Str × Str)) (fv : List V) (rest : List Str), σ' = [some (.ref l), some (.ref ln), some (.ref lf), v3, v4] ∧ But [l] H H' ∧ WellAt H' l ∧ H' lf = some (.lst fv) ∧ H' ln = some (.lst (rest.map V.str)) ∧ SxAll H' (cs.map cD) fv ∧ cs.length = i ∧ rest.length = 12 - i ∧ (cs.map Prod.fst ++ rest).Nodup ∧ (∀ z ∈ rest, z ∈ NM) ∧ ∀ c ∈ cs, c.1 ∈ NM ∧ (c.2 = "number" ∨ c.2 = "word"))
        ⟨none, none, [], [], NM, rfl, (s1.but.trans s2.but).trans b25, w5, b25 _ _ ef (by simp [nlf]), b25 _ _ (s2 _ _ en) (by simp [nln]), sx_nil, rfl, rfl, NM_nodup, fun z hz => hz, by simp⟩ ?_ ?_
      · rintro i σ' H' hi ⟨v3, v4, cs, fv, rest, rfl, bA, wA, ef', en', hS, hci, hri, hnd, hrm, hcm⟩
        have hfl : fv.length = i := by rw [← hS.len, List.length_map]; exact hci
        have hr0 : 0 < rest.length := by omega
        -- name = names.pop(draw(well, len(names)))
        refine ⟨_, rfl, .inl ⟨rfl, _, SqL.of en'⟩, _, rfl, _, rfl, _, rest.length, rfl, .inl ⟨_, SqL.of en', by rw [List.length_map]⟩, l, (rest.length : Int), rfl, by omega, by omega, wA, fun n3 H6 n30 n31 b6 w6 => ?_⟩
        obtain ⟨nm, hnm, _, j, ej, ejr⟩ := at_of (l := rest) n30 n31
        have hj : j < rest.length := (List.getElem?_eq_some_iff.mp ejr).1
        have en6 := b6 _ _ en' (by simp [nln])
        refine ⟨ln, _, n3, j, .str nm, rfl, rfl, en6, by omega, by omega, seqIx ej (by rw [List.length_map]; exact hj), by rw [List.getElem?_map, ejr]; rfl, ?_⟩
        generalize hH7 : upd H6 ln _ = H7
        have en7 : H7 ln = some (.lst ((rest.eraseIdx j).map V.str)) := by rw [← hH7, upd_same, erase_map]
        have t7 : TSame H6 H7 := hH7 ▸ tsame_lst en6
        obtain ⟨wa6, wb6, wc6, ew6⟩ := id w6
        have ew7 : H7 l = some (.lst [.int wa6, .int wb6, .int wc6]) := by rw [← hH7, upd_ne nln.symm]; exact ew6
        have ef7 : H7 lf = some (.lst fv) := by rw [← hH7, upd_ne nfn]; exact b6 _ _ ef' (by simp [nlf])
        -- found.append((name, kind))
        refine ⟨_, rfl, .inl ⟨rfl, _, SqL.of ef7⟩, _, rfl, sm (show 2 ≤ 1000 by decide), fun l2 hl2 => ?_⟩
        generalize hH8 : upd H7 l2 _ = H8
        have s8 : Same H7 H8 := hH8 ▸ same_new hl2
        have e2 : H8 l2 = some (.lst [.str "number", .str "word"]) := hH8 ▸ upd_same
        have nl2 : l2 ≠ l := (ne_of_none ew7 hl2).symm
        refine ⟨_, rfl, l, 2, rfl, by decide, by decide, ⟨_, _, _, s8 _ _ ew7⟩, fun n4 H9 n40 n41 b9 w9 => ?_⟩
        obtain ⟨kd, hkd, akd⟩ := two (a := "number") (b := "word") n4 n40 n41
        refine ⟨l2, _, _, .str kd, rfl, rfl, SqL.of (b9 _ _ e2 (by simp [nl2])), akd, sm (show 2 ≤ 1000 by decide), fun p hp => ?_⟩
        generalize hH10 : upd H9 p _ = H10
        have s10 : Same H9 H10 := hH10 ▸ same_new hp
        have ep : H10 p = some (.tup [.str nm, .str kd]) := hH10 ▸ upd_same
        have ef10 : H10 lf = some (.lst fv) := s10 _ _ (b9 _ _ (s8 _ _ ef7) (by simp [nlf]))
        refine ⟨lf, fv, .ref p, rfl, rfl, ef10, small1000 (by omega), ?_⟩
        generalize hH11 : upd H10 lf _ = H11
        have t11 : TSame H10 H11 := hH11 ▸ tsame_lst ef10
        have tw : TSame H' H6 := b6.t (by
          intro x hx
          rw [List.mem_singleton.mp hx]
          obtain ⟨a, b, c, e⟩ := wA
          exact ⟨_, e⟩)
        have t9 : TSame H8 H9 := b9.t (by
          intro x hx
          rw [List.mem_singleton.mp hx]
          exact ⟨_, s8 _ _ ew7⟩)
        have tA : TSame H' H11 := (((tw.trans t7).trans s8.t).trans t9).trans (s10.t.trans t11)
        have ew10 : WellAt H11 l := by
          obtain ⟨a, b, c, e⟩ := w9
          exact ⟨a, b, c, by rw [← hH11, upd_ne nlf.symm]; exact s10 _ _ e⟩
        have bF : But [l] H H11 := by
          intro b o e nb
          have nb' : b ≠ l := by simpa using nb
          have n1 : b ≠ ln := ne_of_none e hln
          have n2 : b ≠ lf := ne_of_none e hlf0
          rw [← hH11, upd_ne n2]
          refine s10 _ _ (b9 _ _ (s8 _ _ ?_) nb)
          rw [← hH7, upd_ne n1]
          exact b6 _ _ (bA _ _ e nb) nb
        have hnmN : nm ∈ NM := hrm nm (List.mem_of_getElem? ejr)
        have zn := (NM_facts nm hnmN).1
        have zk : kd.cps.size ≤ sizeLine := by rcases hkd with h | h <;> (rw [h]; exact sm (by decide))
        have en11 : H11 ln = some (.lst ((rest.eraseIdx j).map V.str)) := by
          rw [← hH11, upd_ne nfn.symm]
          exact s10 _ _ (b9 _ _ (s8 _ _ en7) (by simp [nln]))
        refine ⟨_, _, cs ++ [(nm, kd)], fv ++ [.ref p], rest.eraseIdx j, rfl, bF, ew10, ?_, en11, ?_, ?_, ?_, ?_, ?_, ?_⟩
        · rw [← hH11, upd_same]
        · rw [List.map_append]
          refine SxAll.snoc (SxAll.tsame tA _ (flat_cs cs) hS) ?_
          exact sx_tup (t11 _ _ ep) (sx_cons (sx_str (sm (Nat.le_trans zn (by decide)))) (sx_cons (sx_str zk) sx_nil))
        · rw [List.length_append, hci]; rfl
        · rw [List.length_eraseIdx_of_lt hj]; omega
        · have hp1 : (nm :: rest.eraseIdx j).Perm rest := by
            exact erase_perm ejr
          rw [List.map_append, List.append_assoc]
          exact ((hp1.append_left _).nodup_iff).mpr hnd
        · exact fun z hz => hrm z (List.mem_of_mem_eraseIdx hz)
        · intro c hc
          rcases List.mem_append.mp hc with h | h
          · exact hcm c h
          · rw [List.mem_singleton.mp h]; exact ⟨hnmN, hkd⟩
      · rintro σ' H' ⟨v3, v4, cs, fv, rest, rfl, bA, wA, ef', en', hS, hci, hri, hnd, hrm, hcm⟩
        exact ⟨v3, v4, cs, fv, rfl, bA, wA, ef', hS, by omega, (List.nodup_append.mp hnd).1, hcm⟩
    · rintro σ' H' ⟨v3, v4, cs, fv, rfl, bA, wA, ef', hS, hg⟩
      refine ⟨_, rfl, lf, fv, rfl, .inl ⟨SqL.of ef', fun p hp => ?_⟩⟩
      have s5 : Same H' (upd H' p (.tup fv)) := same_new hp
      obtain ⟨a, b, c, e⟩ := wA
      exact q _ cs _ (bA.trans s5.but) ⟨a, b, c, s5 _ _ e⟩ hg (sx_tup upd_same (SxAll.same s5 _ hS))
end
end My
set_option Elab.async false
set_option linter.all false
set_option maxRecDepth 100000
set_option maxHeartbeats 4000000
namespace My
open PySem L2
def plainD : PyData → Bool
  | .none => true | .int _ => true | .str _ => true | _ => false
def spNum : Sp := fun vs H Q _ => ∃ l : Addr, vs = [.ref l] ∧ WellAt H l ∧ ∀ (i : Int) H', But [l] H H' → WellAt H' l → Q (.int i) H'
def spWord : Sp := fun vs H Q _ => ∃ l : Addr, vs = [.ref l] ∧ WellAt H l ∧ ∀ (z : Str) H', But [l] H H' → WellAt H' l → wordV (.str z) = true → Q (.str z) H'
def spVal : Sp := fun vs H Q _ => ∃ (l : Addr) (k : Str), vs = [.ref l, .str k] ∧ WellAt H l ∧ ∀ v d H', But [l] H H' → WellAt H' l → valD k d = true → plainD d = true → Sx H' d v → Q v H'
abbrev KEYS : List Str := ["a", "ab", "b", "abc", "a1", "a10", "a2", "key", "z", "zzzzzzzzzzzz", "m", "c"]
def spKey : Sp := fun vs H Q _ => ∃ l : Addr, vs = [.ref l] ∧ WellAt H l ∧ ∀ (z : Str) H', But [l] H H' → WellAt H' l → z ∈ KEYS → Q (.str z) H'
abbrev FOUR : Str := "ab~ "
abbrev SIGNS : Str := "ab= ~#-\"()|Z9_&"
abbrev WORDS : List Str := ["", "a", "ab", "abc", "b", "B", " ", "a b"]
theorem WORDS_facts : ∀ z ∈ WORDS, wordV (.str z) = true := by decide +kernel
theorem KEYS_facts : ∀ z ∈ KEYS, z.cps.size ≤ 12 ∧ PySem.PyData.strOk z = true := by decide +kernel
theorem four_mul : ∀ c ∈ FOUR.cps.toList, ∀ n < 41, wordV (.str (PySem.Txt.mul ⟨#[c]⟩ ((n : Nat) : Int))) = true := by decide +kernel
theorem mul_ok (c : Nat) (n : Nat) (h : n < 41) : MulOk ⟨#[c]⟩ (n : Int) := by
  have e : (⟨#[c]⟩ : Str).length = 1 := rfl
  refine ⟨by simp; omega, fun h1 _ => ?_, fun h1 _ => ?_⟩
  · rw [e]
    have h2 : (1 : Int) ≤ (2 ^ 63 - 1) / (n : Int) := by
      rw [Int.le_ediv_iff_mul_le (by omega)]
      omega
    show ¬ ((1 : Nat) : Int) > _
    omega
  · rw [e, Nat.one_mul, Int.toNat_natCast]
    have := sm (n := n) (by omega)
    unfold PySem.Builtin.Str.tooLong
    exact decide_eq_false (by omega)
/-- single signs, glued -/
theorem join_signs : ∀ cs : List Nat, (Str.join "" (cs.map fun c => (⟨#[c]⟩ : Str))).cps.toList = cs
  | [] => rfl
  | [c] => rfl
  | c :: d :: r => by
    have ih := join_signs (d :: r)
    rw [List.map_cons, List.map_cons]
    show ((⟨#[c]⟩ : Str) ++ ("" : Str) ++ Str.join "" ((⟨#[d]⟩ : Str) :: r.map fun c => (⟨#[c]⟩ : Str))).cps.toList = c :: d :: r
    rw [List.map_cons] at ih
    show ((#[c] ++ (("" : Str)).cps) ++ (Str.join "" ((⟨#[d]⟩ : Str) :: r.map fun c => (⟨#[c]⟩ : Str))).cps).toList = c :: d :: r
    rw [Array.toList_append, ih]
    rfl
theorem signs_wrd : ∀ c ∈ SIGNS.cps.toList, isWrdC c = true := by decide +kernel
theorem join_ok (cs : List Nat) (h : cs.length ≤ 5) : JoinOk "" (cs.map fun c => (⟨#[c]⟩ : Str)) = true := by
  refine PyProof.Rows.joinOk_of ?_
  have e : ((cs.map fun c => (⟨#[c]⟩ : Str)).map (·.length)).sum = cs.length := by
    rw [List.map_map]
    clear h
    induction cs with
    | nil => rfl
    | cons c r ih => rw [List.map_cons, List.sum_cons, ih, List.length_cons]; show 1 + _ = _; omega
  rw [e, List.length_map]
  have : ("" : Str).length = 0 := rfl
  rw [this]
  omega
section
variable {P : Program} {w : World} {K : PySem.W.Frag} {mg : Str → Option Value} {base : Heap} {t : Adr}
theorem ok_number (T : Txt w K mg t) : FnOk P w K mg base CX0 2 t.f_l_number t.d_l_number ["_law_well_here"] spNum := by
  have G_l_draw : FnOk P w K mg base CX0 1 t.f_l_draw t.d_l_draw ["_law_well_here", "_law_most"] spDraw := ok_draw T
  refine T.F_l_number.ok sc_l_number (fun vs H Q E h => ?_) (fun cdv A outer s H vs Q E hr h => ?_)
  · obtain ⟨l, rfl, _⟩ := h
    rfl
  · obtain ⟨l, rfl, hw, q⟩ := h
    refine ⟨_, (@pss_cons _ _ _ _ _ (@ps_set _ _ (1) _ _ _ _ sc_l_number.nd (by rfl) (by first | exact Or.inl rfl | exact Or.inr rfl) (@pe_call _ _ _ _ _ _ _ _ _ _ _ _ _ _ _ _ (G_l_draw.mono (by decide)) hr (by rfl) T.mg_l_draw T.F_l_draw.kp T.b_l_draw .nil pass0 (@pa2 _ _ _ _ _ (@pv _ 0 _ _ (by rfl) (by first | exact Or.inl rfl | exact Or.inr (Or.inl rfl) | exact Or.inr (Or.inr rfl)) (by decide) (by decide)) (@pa2 _ _ _ _ _ pe_int pa_nil (by rfl)) (by rfl)) (by decide) (by rfl) (by rfl)) (by rfl) (by first | exact .inl rfl | exact .inr rfl | assumption)) (@pss_cons _ _ _ _ _ (@ps_if _ _ _ _ _ _ _ _ (@pt_cmpR _ _ _ _ _ _ _ _ op_eq (@pv _ 1 _ _ (by rfl) (by first | exact Or.inl rfl | exact Or.inr (Or.inl rfl) | exact Or.inr (Or.inr rfl)) (by decide) (by decide)) pe_int (nomark _)) (@pss_one _ _ _ (@ps_ret _ _ _ _ (@pe_op _ _ _ _ _ _ _ _ op_mul (@pe_op _ _ _ _ _ _ _ _ op_sub pe_int (@pe_op _ _ _ _ _ _ _ _ op_mul pe_int (@pe_call _ _ _ _ _ _ _ _ _ _ _ _ _ _ _ _ (G_l_draw.mono (by decide)) hr (by rfl) T.mg_l_draw T.F_l_draw.kp T.b_l_draw .nil pass0 (@pa2 _ _ _ _ _ (@pv _ 0 _ _ (by rfl) (by first | exact Or.inl rfl | exact Or.inr (Or.inl rfl) | exact Or.inr (Or.inr rfl)) (by decide) (by decide)) (@pa2 _ _ _ _ _ pe_int pa_nil (by rfl)) (by rfl)) (by decide) (by rfl) (by rfl)))) (@pe_op _ _ _ _ _ _ _ _ op_sub (@pe_op _ _ _ _ _ _ _ _ op_sub (@pe_op _ _ _ _ _ _ _ _ op_pow pe_int pe_int) pe_int) (@pe_call _ _ _ _ _ _ _ _ _ _ _ _ _ _ _ _ (G_l_draw.mono (by decide)) hr (by rfl) T.mg_l_draw T.F_l_draw.kp T.b_l_draw .nil pass0 (@pa2 _ _ _ _ _ (@pv _ 0 _ _ (by rfl) (by first | exact Or.inl rfl | exact Or.inr (Or.inl rfl) | exact Or.inr (Or.inr rfl)) (by decide) (by decide)) (@pa2 _ _ _ _ _ pe_int pa_nil (by rfl)) (by rfl)) (by decide) (by rfl) (by rfl)))))) pss_nil) (@pss_cons _ _ _ _ _ (@ps_if _ _ _ _ _ _ _ _ (@pt_cmpR _ _ _ _ _ _ _ _ op_eq (@pv _ 1 _ _ (by rfl) (by first | exact Or.inl rfl | exact Or.inr (Or.inl rfl) | exact Or.inr (Or.inr rfl)) (by decide) (by decide)) pe_int (nomark _)) (@pss_one _ _ _ (@ps_ret _ _ _ _ (@pe_op _ _ _ _ _ _ _ _ op_sub (@pe_call _ _ _ _ _ _ _ _ _ _ _ _ _ _ _ _ (G_l_draw.mono (by decide)) hr (by rfl) T.mg_l_draw T.F_l_draw.kp T.b_l_draw .nil pass0 (@pa2 _ _ _ _ _ (@pv _ 0 _ _ (by rfl) (by first | exact Or.inl rfl | exact Or.inr (Or.inl rfl) | exact Or.inr (Or.inr rfl)) (by decide) (by decide)) (@pa2 _ _ _ _ _ pe_int pa_nil (by rfl)) (by rfl)) (by decide) (by rfl) (by rfl)) pe_int))) pss_nil) (@pss_one _ _ _ (@ps_ret _ _ _ _ (@pe_op _ _ _ _ _ _ _ _ op_sub (@pe_call _ _ _ _ _ _ _ _ _ _ _ _ _ _ _ _ (G_l_draw.mono (by decide)) hr (by rfl) T.mg_l_draw T.F_l_draw.kp T.b_l_draw .nil pass0 (@pa2 _ _ _ _ _ (@pv _ 0 _ _ (by rfl) (by first | exact Or.inl rfl | exact Or.inr (Or.inl rfl) | exact Or.inr (Or.inr rfl)) (by decide) (by decide)) (@pa2 _ _ _ _ _ pe_int pa_nil (by rfl)) (by rfl)) (by decide) (by rfl) (by rfl)) pe_int)))))), ?_⟩
    refine ⟨_, rfl, l, 6, rfl, by decide, by decide, hw, fun n H1 n0 n1 b1 w1 => ?_⟩
    refine ⟨_, rfl, rfl, _, rfl, ?_⟩
    refine ifb (fun _ => ?_) (fun _ => ?_)
    · refine ⟨_, rfl, l, 2, rfl, by decide, by decide, w1, fun m H2 m0 m1 b2 w2 => ?_⟩
      refine ⟨_, _, rfl, rfl, .inl ⟨by decide, by decide⟩, _, _, rfl, rfl, _, _, rfl, rfl, ⟨by decide, by decide, by decide⟩, _, _, rfl, rfl, ?_⟩
      refine ⟨_, rfl, l, 9, rfl, by decide, by decide, w2, fun k H3 k0 k1 b3 w3 => ?_⟩
      exact ⟨_, _, rfl, rfl, _, _, rfl, rfl, .inl ⟨by omega, by omega⟩, q _ H3 ((b1.trans b2).trans b3) w3⟩
    · refine ⟨_, rfl, rfl, _, rfl, ?_⟩
      refine ifb (fun _ => ?_) (fun _ => ?_)
      · exact ⟨_, rfl, l, 2001, rfl, by decide, by decide, w1, fun m H2 m0 m1 b2 w2 => ⟨_, _, rfl, rfl, q _ H2 (b1.trans b2) w2⟩⟩
      · exact ⟨_, rfl, l, 5, rfl, by decide, by decide, w1, fun m H2 m0 m1 b2 w2 => ⟨_, _, rfl, rfl, q _ H2 (b1.trans b2) w2⟩⟩
theorem ok_word (T : Txt w K mg t) : FnOk P w K mg base CX0 2 t.f_l_word t.d_l_word ["_law_well_here"] spWord := by
  have G_l_draw : FnOk P w K mg base CX0 1 t.f_l_draw t.d_l_draw ["_law_well_here", "_law_most"] spDraw := ok_draw T
  refine T.F_l_word.ok sc_l_word (fun vs H Q E h => ?_) (fun cdv A outer s H vs Q E hr h => ?_)
  · obtain ⟨l, rfl, _⟩ := h
    rfl
  · obtain ⟨l, rfl, hw, q⟩ := h
    refine ⟨_, (@pss_cons _ _ _ _ _ (@ps_set _ _ (1) _ _ _ _ sc_l_word.nd (by rfl) (by first | exact Or.inl rfl | exact Or.inr rfl) (@pe_call _ _ _ _ _ _ _ _ _ _ _ _ _ _ _ _ (G_l_draw.mono (by decide)) hr (by rfl) T.mg_l_draw T.F_l_draw.kp T.b_l_draw .nil pass0 (@pa2 _ _ _ _ _ (@pv _ 0 _ _ (by rfl) (by first | exact Or.inl rfl | exact Or.inr (Or.inl rfl) | exact Or.inr (Or.inr rfl)) (by decide) (by decide)) (@pa2 _ _ _ _ _ pe_int pa_nil (by rfl)) (by rfl)) (by decide) (by rfl) (by rfl)) (by rfl) (by first | exact .inl rfl | exact .inr rfl | assumption)) (@pss_cons _ _ _ _ _ (@ps_if _ _ _ _ _ _ _ _ (@pt_cmpR _ _ _ _ _ _ _ _ op_eq (@pv _ 1 _ _ (by rfl) (by first | exact Or.inl rfl | exact Or.inr (Or.inl rfl) | exact Or.inr (Or.inr rfl)) (by decide) (by decide)) pe_int (nomark _)) (@pss_one _ _ _ (@ps_ret _ _ _ _ (@pe_op _ _ _ _ _ _ _ _ op_mul_str (@pe_ix _ _ _ _ _ _ _ ix_str pe_str (@pe_call _ _ _ _ _ _ _ _ _ _ _ _ _ _ _ _ (G_l_draw.mono (by decide)) hr (by rfl) T.mg_l_draw T.F_l_draw.kp T.b_l_draw .nil pass0 (@pa2 _ _ _ _ _ (@pv _ 0 _ _ (by rfl) (by first | exact Or.inl rfl | exact Or.inr (Or.inl rfl) | exact Or.inr (Or.inr rfl)) (by decide) (by decide)) (@pa2 _ _ _ _ _ pe_int pa_nil (by rfl)) (by rfl)) (by decide) (by rfl) (by rfl)) (fun _ _ => rfl)) (@pe_call _ _ _ _ _ _ _ _ _ _ _ _ _ _ _ _ (G_l_draw.mono (by decide)) hr (by rfl) T.mg_l_draw T.F_l_draw.kp T.b_l_draw .nil pass0 (@pa2 _ _ _ _ _ (@pv _ 0 _ _ (by rfl) (by first | exact Or.inl rfl | exact Or.inr (Or.inl rfl) | exact Or.inr (Or.inr rfl)) (by decide) (by decide)) (@pa2 _ _ _ _ _ pe_int pa_nil (by rfl)) (by rfl)) (by decide) (by rfl) (by rfl))))) pss_nil) (@pss_cons _ _ _ _ _ (@ps_if _ _ _ _ _ _ _ _ (@pt_cmpR _ _ _ _ _ _ _ _ op_eq (@pv _ 1 _ _ (by rfl) (by first | exact Or.inl rfl | exact Or.inr (Or.inl rfl) | exact Or.inr (Or.inr rfl)) (by decide) (by decide)) pe_int (nomark _)) (@pss_cons _ _ _ _ _ (@ps_set _ _ (2) _ _ _ _ sc_l_word.nd (by rfl) (by first | exact Or.inl rfl | exact Or.inr rfl) pe_str (by rfl) (by first | exact .inl rfl | exact .inr rfl | assumption)) (@pss_one _ _ _ (@ps_ret _ _ _ _ (@pe_bmK _ (K) _ _ _ _ _ _ _ _ _ _ _ rfl PySem.F.plainAttrs_str PySem.F.slot_str_join PySem.F.type_str_join (mt_joinK (K := K) rfl) pe_str (@pa2 _ _ _ _ _ (@pe_comp _ (["_law_k", "_law_signs", "_law_well_here"]) ([none, some 2, some 0]) _ _ _ _ _ _ _ _ _ _ (csc (defScope s_l_word) ["_law_well_here", "_law_way", "_law_signs"] rfl rfl (by decide +kernel)) rfl (@pi_range1 _ _ _ _ _ _ (by rfl) T.n_range (@pa2 _ _ _ _ _ (@pe_call _ _ _ _ _ _ _ _ _ _ _ _ _ _ _ _ (G_l_draw.mono (by decide)) hr (by rfl) T.mg_l_draw T.F_l_draw.kp T.b_l_draw .nil pass0 (@pa2 _ _ _ _ _ (@pv _ 0 _ _ (by rfl) (by first | exact Or.inl rfl | exact Or.inr (Or.inl rfl) | exact Or.inr (Or.inr rfl)) (by decide) (by decide)) (@pa2 _ _ _ _ _ pe_int pa_nil (by rfl)) (by rfl)) (by decide) (by rfl) (by rfl)) pa_nil (by rfl)) (by rfl)) (fun _ _ _ _ _ => (@pg_name _ _ (0) _ (show (["_law_k", "_law_signs", "_law_well_here"] : List Str).Nodup by decide +kernel) (by rfl) (by first | exact Or.inl rfl | exact Or.inr rfl) (by first | exact .inl rfl | exact .inr rfl | assumption))) (gx_name rfl) (fun _ _ _ _ _ => pif_nil) (fun _ _ _ _ _ => (@pe_ix _ _ _ _ _ _ _ ix_str (@pv _ 1 _ _ (by rfl) (by first | exact Or.inl rfl | exact Or.inr (Or.inl rfl) | exact Or.inr (Or.inr rfl)) (by decide) (by decide)) (@pe_call _ _ _ _ _ _ _ _ _ _ _ _ _ _ _ _ (G_l_draw.mono (by decide)) hr (by rfl) T.mg_l_draw T.F_l_draw.kp T.b_l_draw .nil pass0 (@pa2 _ _ _ _ _ (@pv _ 2 _ _ (by rfl) (by first | exact Or.inl rfl | exact Or.inr (Or.inl rfl) | exact Or.inr (Or.inr rfl)) (by decide) (by decide)) (@pa2 _ _ _ _ _ pe_int pa_nil (by rfl)) (by rfl)) (by decide) (by rfl) (by rfl)) (fun _ _ => rfl))) (by intro _; rfl)) pa_nil (by rfl)) (by rfl) (by rfl) (by rfl) (by rfl) (by rfl))))) pss_nil) (@pss_one _ _ _ (@ps_ret _ _ _ _ (@pe_ix _ _ _ _ _ _ _ ix_list (@pe_lst _ _ _ _ (@pa2 _ _ _ _ _ pe_str (@pa2 _ _ _ _ _ pe_str (@pa2 _ _ _ _ _ pe_str (@pa2 _ _ _ _ _ pe_str (@pa2 _ _ _ _ _ pe_str (@pa2 _ _ _ _ _ pe_str (@pa2 _ _ _ _ _ pe_str (@pa2 _ _ _ _ _ pe_str pa_nil (by rfl)) (by rfl)) (by rfl)) (by rfl)) (by rfl)) (by rfl)) (by rfl)) (by rfl))) (@pe_call _ _ _ _ _ _ _ _ _ _ _ _ _ _ _ _ (G_l_draw.mono (by decide)) hr (by rfl) T.mg_l_draw T.F_l_draw.kp T.b_l_draw .nil pass0 (@pa2 _ _ _ _ _ (@pv _ 0 _ _ (by rfl) (by first | exact Or.inl rfl | exact Or.inr (Or.inl rfl) | exact Or.inr (Or.inr rfl)) (by decide) (by decide)) (@pa2 _ _ _ _ _ pe_int pa_nil (by rfl)) (by rfl)) (by decide) (by rfl) (by rfl)) (fun _ _ => rfl))))))), ?_⟩
    refine ⟨_, rfl, l, 6, rfl, by decide, by decide, hw, fun n H1 n0 n1 b1 w1 => ?_⟩
    refine ⟨_, rfl, rfl, _, rfl, ?_⟩
    refine ifb (fun _ => ?_) (fun _ => ?_)
    · refine ⟨_, rfl, l, 4, rfl, by decide, by decide, w1, fun m H2 m0 m1 b2 w2 => ?_⟩
      obtain ⟨c, hc, ac, _⟩ := at_of (l := FOUR.cps.toList) m0 (show m < 4 from m1)
      refine ⟨FOUR, m, c, rfl, rfl, sm (show 4 ≤ 1000 by decide), ac, ?_⟩
      refine ⟨_, rfl, l, 41, rfl, by decide, by decide, w2, fun k H3 k0 k1 b3 w3 => ?_⟩
      obtain ⟨k', rfl⟩ : ∃ k' : Nat, k = (k' : Int) := ⟨k.toNat, by omega⟩
      exact ⟨_, _, rfl, rfl, mul_ok c k' (by omega), q _ H3 ((b1.trans b2).trans b3) w3 (four_mul c hc k' (by omega))⟩
    · refine ⟨_, rfl, rfl, _, rfl, ?_⟩
      refine ifb (fun _ => ?_) (fun _ => ?_)
      · dsimp only [tSeq, tAsg, gName, tRet, tBM, tC]
        refine ⟨rfl, ?_⟩
        refine ⟨_, rfl, l, 6, rfl, by decide, by decide, w1, fun m H2 m0 m1 b2 w2 => ?_⟩
        obtain ⟨k, rfl⟩ : ∃ k : Nat, m = (k : Int) := ⟨m.toNat, by omega⟩
        refine ⟨(k : Int), rfl, by omega, by omega, ?_⟩
        rw [Int.toNat_natCast]
        refine comp_rngW (Q := fun v H' => rJoin K (.str "") [v] H' Q) (n := k) (fun i out H' => But [l] H H' ∧ WellAt H' l ∧ ∃ cs : List Nat, out = cs.map (fun c => V.str ⟨#[c]⟩) ∧ ∀ c ∈ cs, c ∈ SIGNS.cps.toList) (by omega) ⟨b1.trans b2, w2, [], rfl, by simp⟩ (fun i out H3 hi hl hI R hR => ?_) (fun D out H3 hl hI hD => ?_)
        · obtain ⟨b3, w3, cs, rfl, hcs⟩ := hI
          refine ⟨_, rfl, _, rfl, l, 15, rfl, by decide, by decide, w3, fun j H4 j0 j1 b4 w4 => ?_⟩
          obtain ⟨c, hc, ac, _⟩ := at_of (l := SIGNS.cps.toList) j0 (show j < 15 from j1)
          refine ⟨SIGNS, j, c, rfl, rfl, sm (show 15 ≤ 1000 by decide), ac, hR _ H4 ⟨b3.trans b4, w4, cs ++ [c], by rw [List.map_append]; rfl, fun c' hc' => ?_⟩⟩
          rcases List.mem_append.mp hc' with h | h
          · exact hcs c' h
          · rw [List.mem_singleton.mp h]; exact hc
        · obtain ⟨b3, w3, cs, rfl, hcs⟩ := hI
          have hcl : cs.length = k := by rw [List.length_map] at hl; exact hl
          have s4 : Same H3 (upd H3 D (.lst (cs.map fun c => V.str ⟨#[c]⟩))) := same_new hD
          refine ⟨"", D, cs.map fun c => (⟨#[c]⟩ : Str), rfl, rfl, SqL.of (by rw [upd_same, List.map_map]; rfl), join_ok cs (by omega), ?_⟩
          obtain ⟨a, b, c, e⟩ := w3
          refine q _ _ (b3.trans s4.but) ⟨a, b, c, s4 _ _ e⟩ ?_
          have hj : (PySem.Txt.join "" (cs.map fun c => (⟨#[c]⟩ : Str))).cps.toList = cs := by
            unfold PySem.Txt.join
            rw [StrLaws.glued_eq_join]
            exact join_signs cs
          unfold wordV
          dsimp only
          have hsz : (PySem.Txt.join "" (cs.map fun c => (⟨#[c]⟩ : Str))).cps.size ≤ 40 := by
            rw [← Array.length_toList, hj]; omega
          rw [hj, decide_eq_true hsz, Bool.true_and, List.all_eq_true]
          exact fun c hc => signs_wrd c (hcs c hc)
      · refine ⟨sm (show 8 ≤ 1000 by decide), fun lw hlw => ?_⟩
        generalize hH2 : upd H1 lw _ = H2
        have s2 : Same H1 H2 := hH2 ▸ same_new hlw
        have e2 : H2 lw = some (.lst (WORDS.map V.str)) := hH2 ▸ upd_same
        obtain ⟨a, b, c, e⟩ := id w1
        have nlw : lw ≠ l := (ne_of_none e hlw).symm
        refine ⟨_, rfl, l, 8, rfl, by decide, by decide, ⟨a, b, c, s2 _ _ e⟩, fun m H3 m0 m1 b3 w3 => ?_⟩
        obtain ⟨v, hv, av, _⟩ := at_of (l := WORDS.map V.str) m0 (show m < 8 from m1)
        obtain ⟨z, hz, rfl⟩ := List.mem_map.mp hv
        exact ⟨lw, _, _, .str z, rfl, rfl, SqL.of (b3 _ _ e2 (by simp [nlw])), av, q z H3 ((b1.trans s2.but).trans b3) w3 (WORDS_facts z hz)⟩
theorem ok_value (T : Txt w K mg t) : FnOk P w K mg base CX0 3 t.f_l_value t.d_l_value ["_law_well_here", "_law_kind"] spVal := by
  have G_l_draw : FnOk P w K mg base CX0 1 t.f_l_draw t.d_l_draw ["_law_well_here", "_law_most"] spDraw := ok_draw T
  have G_l_number : FnOk P w K mg base CX0 2 t.f_l_number t.d_l_number ["_law_well_here"] spNum := ok_number T
  have G_l_word : FnOk P w K mg base CX0 2 t.f_l_word t.d_l_word ["_law_well_here"] spWord := ok_word T
  refine T.F_l_value.ok sc_l_value (fun vs H Q E h => ?_) (fun cdv A outer s H vs Q E hr h => ?_)
  · obtain ⟨l, k, rfl, _⟩ := h
    rfl
  · obtain ⟨l, k, rfl, hw, q⟩ := h
    refine ⟨_, (@pss_cons _ _ _ _ _ (@ps_if _ _ _ _ _ _ _ _ (@pt_cmpR _ _ _ _ _ _ _ _ op_eq (@pe_call _ _ _ _ _ _ _ _ _ _ _ _ _ _ _ _ (G_l_draw.mono (by decide)) hr (by rfl) T.mg_l_draw T.F_l_draw.kp T.b_l_draw .nil pass0 (@pa2 _ _ _ _ _ (@pv _ 0 _ _ (by rfl) (by first | exact Or.inl rfl | exact Or.inr (Or.inl rfl) | exact Or.inr (Or.inr rfl)) (by decide) (by decide)) (@pa2 _ _ _ _ _ pe_int pa_nil (by rfl)) (by rfl)) (by decide) (by rfl) (by rfl)) pe_int (nomark _)) (@pss_one _ _ _ (@ps_ret _ _ _ _ pe_non)) pss_nil) (@pss_cons _ _ _ _ _ (@ps_if _ _ _ _ _ _ _ _ (@pt_cmpR _ _ _ _ _ _ _ _ op_eq (@pv _ 1 _ _ (by rfl) (by first | exact Or.inl rfl | exact Or.inr (Or.inl rfl) | exact Or.inr (Or.inr rfl)) (by decide) (by decide)) pe_str (nomark _)) (@pss_one _ _ _ (@ps_ret _ _ _ _ (@pe_call _ _ _ _ _ _ _ _ _ _ _ _ _ _ _ _ (G_l_number.mono (by decide)) hr (by rfl) T.mg_l_number T.F_l_number.kp T.b_l_number .nil pass0 (@pa2 _ _ _ _ _ (@pv _ 0 _ _ (by rfl) (by first | exact Or.inl rfl | exact Or.inr (Or.inl rfl) | exact Or.inr (Or.inr rfl)) (by decide) (by decide)) pa_nil (by rfl)) (by decide) (by rfl) (by rfl)))) pss_nil) (@pss_one _ _ _ (@ps_ret _ _ _ _ (@pe_call _ _ _ _ _ _ _ _ _ _ _ _ _ _ _ _ (G_l_word.mono (by decide)) hr (by rfl) T.mg_l_word T.F_l_word.kp T.b_l_word .nil pass0 (@pa2 _ _ _ _ _ (@pv _ 0 _ _ (by rfl) (by first | exact Or.inl rfl | exact Or.inr (Or.inl rfl) | exact Or.inr (Or.inr rfl)) (by decide) (by decide)) pa_nil (by rfl)) (by decide) (by rfl) (by rfl)))))), ?_⟩
    refine ⟨_, rfl, l, 6, rfl, by decide, by decide, hw, fun n H1 n0 n1 b1 w1 => ?_⟩
    refine ⟨rfl, _, rfl, ?_⟩
    refine ifb (fun _ => ?_) (fun _ => ?_)
    · exact q _ .none H1 b1 w1 rfl rfl sx_non
    · refine ⟨_, rfl, rfl, _, rfl, ?_⟩
      refine ifb (fun h => ?_) (fun h => ?_)
      · have h : k = "number" := V.str.inj (of_decide_eq_true h)
        exact ⟨_, rfl, l, rfl, w1, fun i H2 b2 w2 => q _ (.int i) H2 (b1.trans b2) w2 (decide_eq_true h) rfl (sx_int i)⟩
      · have h : ¬ k = "number" := fun z => (of_decide_eq_false h) (congrArg V.str z)
        refine ⟨_, rfl, l, rfl, w1, fun z H2 b2 w2 hz => q _ (.str z) H2 (b1.trans b2) w2 ?_ rfl (sx_str ?_)⟩
        · unfold valD
          dsimp only
          rw [if_neg h]
          exact hz
        · unfold wordV at hz
          dsimp only at hz
          rw [Bool.and_eq_true] at hz
          exact sm (Nat.le_trans (of_decide_eq_true hz.1) (by decide))
theorem ok_key (T : Txt w K mg t) : FnOk P w K mg base CX0 2 t.f_l_key t.d_l_key ["_law_well_here"] spKey := by
  have G_l_draw : FnOk P w K mg base CX0 1 t.f_l_draw t.d_l_draw ["_law_well_here", "_law_most"] spDraw := ok_draw T
  refine T.F_l_key.ok sc_l_key (fun vs H Q E h => ?_) (fun cdv A outer s H vs Q E hr h => ?_)
  · obtain ⟨l, rfl, _⟩ := h
    rfl
  · obtain ⟨l, rfl, hw, q⟩ := h
    refine ⟨_, (@pss_cons _ _ _ _ _ (@ps_set _ _ (1) _ _ _ _ sc_l_key.nd (by rfl) (by first | exact Or.inl rfl | exact Or.inr rfl) (@pe_lst _ _ _ _ (@pa2 _ _ _ _ _ pe_str (@pa2 _ _ _ _ _ pe_str (@pa2 _ _ _ _ _ pe_str (@pa2 _ _ _ _ _ pe_str (@pa2 _ _ _ _ _ pe_str (@pa2 _ _ _ _ _ pe_str (@pa2 _ _ _ _ _ pe_str (@pa2 _ _ _ _ _ pe_str (@pa2 _ _ _ _ _ pe_str (@pa2 _ _ _ _ _ pe_str (@pa2 _ _ _ _ _ pe_str (@pa2 _ _ _ _ _ pe_str pa_nil (by rfl)) (by rfl)) (by rfl)) (by rfl)) (by rfl)) (by rfl)) (by rfl)) (by rfl)) (by rfl)) (by rfl)) (by rfl)) (by rfl))) (by rfl) (by first | exact .inl rfl | exact .inr rfl | assumption)) (@pss_one _ _ _ (@ps_ret _ _ _ _ (@pe_ix _ _ _ _ _ _ _ ix_list (@pv _ 1 _ _ (by rfl) (by first | exact Or.inl rfl | exact Or.inr (Or.inl rfl) | exact Or.inr (Or.inr rfl)) (by decide) (by decide)) (@pe_call _ _ _ _ _ _ _ _ _ _ _ _ _ _ _ _ (G_l_draw.mono (by decide)) hr (by rfl) T.mg_l_draw T.F_l_draw.kp T.b_l_draw .nil pass0 (@pa2 _ _ _ _ _ (@pv _ 0 _ _ (by rfl) (by first | exact Or.inl rfl | exact Or.inr (Or.inl rfl) | exact Or.inr (Or.inr rfl)) (by decide) (by decide)) (@pa2 _ _ _ _ _ pe_int pa_nil (by rfl)) (by rfl)) (by decide) (by rfl) (by rfl)) (fun _ _ => rfl))))), ?_⟩
    refine ⟨sm (show 12 ≤ 1000 by decide), fun lw hlw => ?_⟩
    generalize hH2 : upd H lw _ = H2
    have s2 : Same H H2 := hH2 ▸ same_new hlw
    have e2 : H2 lw = some (.lst (KEYS.map V.str)) := hH2 ▸ upd_same
    obtain ⟨a, b, c, e⟩ := id hw
    have nlw : lw ≠ l := (ne_of_none e hlw).symm
    refine ⟨_, rfl, _, rfl, l, 12, rfl, by decide, by decide, ⟨a, b, c, s2 _ _ e⟩, fun m H3 m0 m1 b3 w3 => ?_⟩
    obtain ⟨v, hv, av, _⟩ := at_of (l := KEYS.map V.str) m0 (show m < 12 from m1)
    obtain ⟨z, hz, rfl⟩ := List.mem_map.mp hv
    exact ⟨lw, _, _, .str z, rfl, rfl, SqL.of (b3 _ _ e2 (by simp [nlw])), av, q z H3 (s2.but.trans b3) w3 hz⟩
end
end My
set_option Elab.async false
set_option linter.all false
set_option maxRecDepth 100000
set_option maxHeartbeats 4000000
namespace My
open PySem L2
def LeafD (cs : List (Str × Str)) (d : PyData) : Prop :=
  d = .tuple [.str "every"] ∨ (∃ ks : List Str, d = .tuple [.str "key", .tuple (ks.map .str)] ∧ ks.length ≤ 8 ∧ ∀ k ∈ ks, k ∈ KEYS) ∨
  ∃ c v, c ∈ cs ∧ plainD v = true ∧ valD c.2 v = true ∧ (d = .tuple [.str "is", .str c.1, v] ∨ (v ≠ .none ∧ (d = .tuple [.str "below", .str c.1, v] ∨ d = .tuple [.str "above", .str c.1, v] ∨ (c.2 = "word" ∧ d = .tuple [.str "begins", .str c.1, v]))))
def GsD (cs : List (Str × Str)) : Nat → PyData → Prop
  | 0, _ => False
  | n + 1, d => LeafD cs d ∨ (∃ e, d = .tuple [.str "not", e] ∧ GsD cs n e) ∨ ∃ (o : Str) (ds : List PyData), (o = "and" ∨ o = "or") ∧ d = .tuple [.str o, .tuple ds] ∧ ds.length ≤ 8 ∧ ∀ e ∈ ds, GsD cs n e
theorem flat_plain {d : PyData} (h : plainD d = true) : flatT d = true := by
  cases d with
  | none => simp only [flatT]
  | int i => simp only [flatT]
  | str z => simp only [flatT]
  | _ => exact absurd h Bool.false_ne_true
theorem flat_all {ds : List PyData} (h : ∀ d ∈ ds, flatT d = true) : flatTs ds = true := by
  induction ds with
  | nil => simp only [flatTs]
  | cons d ds ih =>
    simp only [flatTs, Bool.and_eq_true]
    exact ⟨h d List.mem_cons_self, ih fun e he => h e (List.mem_cons_of_mem _ he)⟩
theorem flat_leaf {cs : List (Str × Str)} {d : PyData} (h : LeafD cs d) : flatT d = true := by
  rcases h with rfl | ⟨ks, rfl, _⟩ | ⟨c, v, _, hp, _, h⟩
  · simp [flatT, flatTs]
  · have e : flatTs (ks.map PyData.str) = true := flat_all fun d hd => by
      obtain ⟨k, _, rfl⟩ := List.mem_map.mp hd
      simp only [flatT]
    simp [flatT, flatTs, e]
  · have e := flat_plain hp
    rcases h with rfl | ⟨_, rfl | rfl | ⟨_, rfl⟩⟩ <;> simp [flatT, flatTs, e]
theorem flat_gs {cs : List (Str × Str)} : ∀ {n : Nat} {d : PyData}, GsD cs n d → flatT d = true
  | 0, _, h => False.elim h
  | n + 1, d, h => by
    rcases h with h | ⟨e, rfl, h⟩ | ⟨o, ds, _, rfl, _, h⟩
    · exact flat_leaf h
    · simp [flatT, flatTs, flat_gs h]
    · have e : flatTs ds = true := flat_all fun d hd => flat_gs (h d hd)
      simp [flatT, flatTs, e]
theorem well_t {l : Addr} {H H' : Hp} (b : But [l] H H') (w : WellAt H l) : TSame H H' := b.t fun x hx => by
  rw [List.mem_singleton.mp hx]
  obtain ⟨p, q, r, e⟩ := w
  exact ⟨_, e⟩
theorem WellAt.same {l : Addr} {H H' : Hp} (w : WellAt H l) (s : Same H H') : WellAt H' l := by
  obtain ⟨p, q, r, e⟩ := w
  exact ⟨p, q, r, s _ _ e⟩
theorem WellAt.ne {l a : Addr} {H : Hp} (w : WellAt H l) (h : H a = none) : a ≠ l := by
  obtain ⟨p, q, r, e⟩ := w
  exact (ne_of_none e h).symm
def spLeaf : Sp := fun vs H Q _ => ∃ (l : Addr) (cx : V) (cs : List (Str × Str)), vs = [.ref l, cx] ∧ WellAt H l ∧ Sx H (.tuple (cs.map cD)) cx ∧ Gd cs ∧ ∀ v d H', But [l] H H' → WellAt H' l → LeafD cs d → Sx H' d v → Q v H'
theorem lay_cs {cs : List (Str × Str)} (hg : Gd cs) : PyData.canLay0 (.tuple (cs.map cD)) = true := by
  have all : ∀ l : List (Str × Str), (∀ c ∈ l, c ∈ cs) → PyData.canLayAll0 (l.map cD) = true := by
    intro l
    induction l with
    | nil => intro _; rfl
    | cons c r ih =>
      intro h
      have h1 := hg.2.2 c (h c (by simp))
      have e1 := (NM_facts _ h1.1).2
      have e2 : PySem.PyData.strOk c.2 = true := by rcases h1.2 with e | e <;> (rw [e]; decide +kernel)
      rw [List.map_cons]
      simp only [PyData.canLayAll0, cD, PyData.canLay0, Bool.and_eq_true]
      exact ⟨⟨e1, e2, trivial⟩, ih fun c hc => h c (List.mem_cons_of_mem _ hc)⟩
  simp only [PyData.canLay0]
  exact all cs fun _ h => h
theorem keys_sx {H : Hp} : ∀ {ks : List Str}, (∀ k ∈ ks, k ∈ KEYS) → SxAll H (ks.map PyData.str) (ks.map V.str)
  | [], _ => sx_nil
  | k :: ks, h => sx_cons (sx_str (sm (Nat.le_trans (KEYS_facts k (h k List.mem_cons_self)).1 (by decide)))) (keys_sx fun x hx => h x (List.mem_cons_of_mem _ hx))
section
variable {P : Program} {w : World} {K : PySem.W.Frag} {mg : Str → Option Value} {base : Heap} {t : Adr}
theorem ok_leaf (T : Txt w K mg t) : FnOk P w K mg base CX0 4 t.f_l_leaf t.d_l_leaf ["_law_well_here", "_law_columns_here"] spLeaf := by
  have G_l_draw : FnOk P w K mg base CX0 1 t.f_l_draw t.d_l_draw ["_law_well_here", "_law_most"] spDraw := ok_draw T
  have G_l_key : FnOk P w K mg base CX0 2 t.f_l_key t.d_l_key ["_law_well_here"] spKey := ok_key T
  have G_l_value : FnOk P w K mg base CX0 3 t.f_l_value t.d_l_value ["_law_well_here", "_law_kind"] spVal := ok_value T
  refine T.F_l_leaf.ok sc_l_leaf (fun vs H Q E h => ?_) (fun cdv A outer s H vs Q E hr h => ?_)
  · obtain ⟨l, cx, cs, rfl, _⟩ := h
    rfl
  · obtain ⟨l, cx, cs, rfl, hw, hc, hg, q⟩ := h
    obtain ⟨ca, xs, rfl, ec, hl, hall, hp⟩ := cols_at hc
    refine ⟨_, (@pss_cons _ _ _ _ _ (@ps_set _ _ (2) _ _ _ _ sc_l_leaf.nd (by rfl) (by first | exact Or.inl rfl | exact Or.inr rfl) (@pe_call _ _ _ _ _ _ _ _ _ _ _ _ _ _ _ _ (G_l_draw.mono (by decide)) hr (by rfl) T.mg_l_draw T.F_l_draw.kp T.b_l_draw .nil pass0 (@pa2 _ _ _ _ _ (@pv _ 0 _ _ (by rfl) (by first | exact Or.inl rfl | exact Or.inr (Or.inl rfl) | exact Or.inr (Or.inr rfl)) (by decide) (by decide)) (@pa2 _ _ _ _ _ pe_int pa_nil (by rfl)) (by rfl)) (by decide) (by rfl) (by rfl)) (by rfl) (by first | exact .inl rfl | exact .inr rfl | assumption)) (@pss_cons _ _ _ _ _ (@ps_if _ _ _ _ _ _ _ _ (@PW.pt _ _ _ (@pw_or _ _ _ _ _ _ _ (@pt_cmpR _ _ _ _ _ _ _ _ op_eq (@pv _ 2 _ _ (by rfl) (by first | exact Or.inl rfl | exact Or.inr (Or.inl rfl) | exact Or.inr (Or.inr rfl)) (by decide) (by decide)) pe_int (nomark _)) (@pw_or1 _ _ _ _ (@PW.pt _ _ _ (@pw_and _ _ _ _ _ _ _ (@pt_cmpR _ _ _ _ _ _ _ _ op_gt (@pv _ 2 _ _ (by rfl) (by first | exact Or.inl rfl | exact Or.inr (Or.inl rfl) | exact Or.inr (Or.inr rfl)) (by decide) (by decide)) pe_int (nomark _)) (@pw_and1 _ _ _ _ (@pt_cmpR _ _ _ _ _ _ _ _ (op_eqD hr.units) (@pv _ 1 _ _ (by rfl) (by first | exact Or.inl rfl | exact Or.inr (Or.inl rfl) | exact Or.inr (Or.inr rfl)) (by decide) (by decide)) (@pe_tup _ _ _ _ _ pa_nil) (nomark _)))))))) (@pss_one _ _ _ (@ps_ret _ _ _ _ (@pe_tup _ _ _ _ _ (@pa2 _ _ _ _ _ pe_str pa_nil (by rfl))))) pss_nil) (@pss_cons _ _ _ _ _ (@ps_if _ _ _ _ _ _ _ _ (@pt_cmpR _ _ _ _ _ _ _ _ op_eq (@pv _ 2 _ _ (by rfl) (by first | exact Or.inl rfl | exact Or.inr (Or.inl rfl) | exact Or.inr (Or.inr rfl)) (by decide) (by decide)) pe_int (nomark _)) (@pss_one _ _ _ (@ps_ret _ _ _ _ (@pe_tup _ _ _ _ _ (@pa2 _ _ _ _ _ pe_str (@pa2 _ _ _ _ _ (@pe_callTy _ _ _ _ _ _ _ _ _ call_tuple_of (by rfl) T.n_tuple bt_tuple (@pa2 _ _ _ _ _ (@pe_comp _ (["_law_k", "_law_well_here"]) ([none, some 0]) _ _ _ _ _ _ _ _ _ _ (csc (defScope s_l_leaf) ["_law_well_here", "_law_columns_here", "_law_way", "_law_name", "_law_kind", "_law_value_here"] rfl rfl (by decide +kernel)) rfl (@pi_range1 _ _ _ _ _ _ (by rfl) T.n_range (@pa2 _ _ _ _ _ (@pe_call _ _ _ _ _ _ _ _ _ _ _ _ _ _ _ _ (G_l_draw.mono (by decide)) hr (by rfl) T.mg_l_draw T.F_l_draw.kp T.b_l_draw .nil pass0 (@pa2 _ _ _ _ _ (@pv _ 0 _ _ (by rfl) (by first | exact Or.inl rfl | exact Or.inr (Or.inl rfl) | exact Or.inr (Or.inr rfl)) (by decide) (by decide)) (@pa2 _ _ _ _ _ (@pe_ix _ _ _ _ _ _ _ ix_list (@pe_lst _ _ _ _ (@pa2 _ _ _ _ _ pe_int (@pa2 _ _ _ _ _ pe_int pa_nil (by rfl)) (by rfl))) (@pe_call _ _ _ _ _ _ _ _ _ _ _ _ _ _ _ _ (G_l_draw.mono (by decide)) hr (by rfl) T.mg_l_draw T.F_l_draw.kp T.b_l_draw .nil pass0 (@pa2 _ _ _ _ _ (@pv _ 0 _ _ (by rfl) (by first | exact Or.inl rfl | exact Or.inr (Or.inl rfl) | exact Or.inr (Or.inr rfl)) (by decide) (by decide)) (@pa2 _ _ _ _ _ pe_int pa_nil (by rfl)) (by rfl)) (by decide) (by rfl) (by rfl)) (fun _ _ => rfl)) pa_nil (by rfl)) (by rfl)) (by decide) (by rfl) (by rfl)) pa_nil (by rfl)) (by rfl)) (fun _ _ _ _ _ => (@pg_name _ _ (0) _ (show (["_law_k", "_law_well_here"] : List Str).Nodup by decide +kernel) (by rfl) (by first | exact Or.inl rfl | exact Or.inr rfl) (by first | exact .inl rfl | exact .inr rfl | assumption))) (gx_name rfl) (fun _ _ _ _ _ => pif_nil) (fun _ _ _ _ _ => (@pe_call _ _ _ _ _ _ _ _ _ _ _ _ _ _ _ _ (G_l_key.mono (by decide)) hr (by rfl) T.mg_l_key T.F_l_key.kp T.b_l_key .nil pass0 (@pa2 _ _ _ _ _ (@pv _ 1 _ _ (by rfl) (by first | exact Or.inl rfl | exact Or.inr (Or.inl rfl) | exact Or.inr (Or.inr rfl)) (by decide) (by decide)) pa_nil (by rfl)) (by decide) (by rfl) (by rfl))) (by intro _; rfl)) pa_nil (by rfl)) (by decide) (by decide) (by rfl) (by rfl)) pa_nil (by rfl)) (by rfl))))) pss_nil) (@pss_cons _ _ _ _ _ (@ps_asg _ _ _ _ _ _ (@pe_ix _ _ _ _ _ _ _ ix_tup (@pv _ 1 _ _ (by rfl) (by first | exact Or.inl rfl | exact Or.inr (Or.inl rfl) | exact Or.inr (Or.inr rfl)) (by decide) (by decide)) (@pe_call _ _ _ _ _ _ _ _ _ _ _ _ _ _ _ _ (G_l_draw.mono (by decide)) hr (by rfl) T.mg_l_draw T.F_l_draw.kp T.b_l_draw .nil pass0 (@pa2 _ _ _ _ _ (@pv _ 0 _ _ (by rfl) (by first | exact Or.inl rfl | exact Or.inr (Or.inl rfl) | exact Or.inr (Or.inr rfl)) (by decide) (by decide)) (@pa2 _ _ _ _ _ (@pe_callB _ _ _ _ _ _ _ _ _ call_len (by rfl) T.n_len bt_len (@pa2 _ _ _ _ _ (@pv _ 1 _ _ (by rfl) (by first | exact Or.inl rfl | exact Or.inr (Or.inl rfl) | exact Or.inr (Or.inr rfl)) (by decide) (by decide)) pa_nil (by rfl)) (by decide) (by decide) (by rfl) (by rfl)) pa_nil (by rfl)) (by rfl)) (by decide) (by rfl) (by rfl)) (fun _ _ => rfl)) (@pg_tup _ _ _ _ _ (2) rfl (@pgs_cons _ _ _ _ _ (@pg_name _ _ (3) _ sc_l_leaf.nd (by rfl) (by first | exact Or.inl rfl | exact Or.inr rfl) (by first | exact .inl rfl | exact .inr rfl | assumption)) (@pgs_cons _ _ _ _ _ (@pg_name _ _ (4) _ sc_l_leaf.nd (by rfl) (by first | exact Or.inl rfl | exact Or.inr rfl) (by first | exact .inl rfl | exact .inr rfl | assumption)) pgs_nil (by rfl)) (by rfl)) (by rfl) (by rfl)) (by rfl) (by rfl) (by rfl)) (@pss_cons _ _ _ _ _ (@ps_set _ _ (5) _ _ _ _ sc_l_leaf.nd (by rfl) (by first | exact Or.inl rfl | exact Or.inr rfl) (@pe_call _ _ _ _ _ _ _ _ _ _ _ _ _ _ _ _ (G_l_value.mono (by decide)) hr (by rfl) T.mg_l_value T.F_l_value.kp T.b_l_value .nil pass0 (@pa2 _ _ _ _ _ (@pv _ 0 _ _ (by rfl) (by first | exact Or.inl rfl | exact Or.inr (Or.inl rfl) | exact Or.inr (Or.inr rfl)) (by decide) (by decide)) (@pa2 _ _ _ _ _ (@pv _ 4 _ _ (by rfl) (by first | exact Or.inl rfl | exact Or.inr (Or.inl rfl) | exact Or.inr (Or.inr rfl)) (by decide) (by decide)) pa_nil (by rfl)) (by rfl)) (by decide) (by rfl) (by rfl)) (by rfl) (by first | exact .inl rfl | exact .inr rfl | assumption)) (@pss_cons _ _ _ _ _ (@ps_if _ _ _ _ _ _ _ _ (@PW.pt _ _ _ (@pw_or _ _ _ _ _ _ _ (@pt_cmpR _ _ _ _ _ _ _ _ op_lt (@pv _ 2 _ _ (by rfl) (by first | exact Or.inl rfl | exact Or.inr (Or.inl rfl) | exact Or.inr (Or.inr rfl)) (by decide) (by decide)) pe_int (nomark _)) (@pw_or1 _ _ _ _ (@pt_cmpR _ _ _ _ _ _ _ _ op_isN (@pv _ 5 _ _ (by rfl) (by first | exact Or.inl rfl | exact Or.inr (Or.inl rfl) | exact Or.inr (Or.inr rfl)) (by decide) (by decide)) pe_non (nomark _))))) (@pss_one _ _ _ (@ps_ret _ _ _ _ (@pe_tup _ _ _ _ _ (@pa2 _ _ _ _ _ pe_str (@pa2 _ _ _ _ _ (@pv _ 3 _ _ (by rfl) (by first | exact Or.inl rfl | exact Or.inr (Or.inl rfl) | exact Or.inr (Or.inr rfl)) (by decide) (by decide)) (@pa2 _ _ _ _ _ (@pv _ 5 _ _ (by rfl) (by first | exact Or.inl rfl | exact Or.inr (Or.inl rfl) | exact Or.inr (Or.inr rfl)) (by decide) (by decide)) pa_nil (by rfl)) (by rfl)) (by rfl))))) pss_nil) (@pss_cons _ _ _ _ _ (@ps_if _ _ _ _ _ _ _ _ (@PW.pt _ _ _ (@pw_and _ _ _ _ _ _ _ (@pt_cmpR _ _ _ _ _ _ _ _ op_eq (@pv _ 2 _ _ (by rfl) (by first | exact Or.inl rfl | exact Or.inr (Or.inl rfl) | exact Or.inr (Or.inr rfl)) (by decide) (by decide)) pe_int (nomark _)) (@pw_and1 _ _ _ _ (@pt_cmpR _ _ _ _ _ _ _ _ op_eq (@pv _ 4 _ _ (by rfl) (by first | exact Or.inl rfl | exact Or.inr (Or.inl rfl) | exact Or.inr (Or.inr rfl)) (by decide) (by decide)) pe_str (nomark _))))) (@pss_one _ _ _ (@ps_ret _ _ _ _ (@pe_tup _ _ _ _ _ (@pa2 _ _ _ _ _ pe_str (@pa2 _ _ _ _ _ (@pv _ 3 _ _ (by rfl) (by first | exact Or.inl rfl | exact Or.inr (Or.inl rfl) | exact Or.inr (Or.inr rfl)) (by decide) (by decide)) (@pa2 _ _ _ _ _ (@pv _ 5 _ _ (by rfl) (by first | exact Or.inl rfl | exact Or.inr (Or.inl rfl) | exact Or.inr (Or.inr rfl)) (by decide) (by decide)) pa_nil (by rfl)) (by rfl)) (by rfl))))) pss_nil) (@pss_one _ _ _ (@ps_ret _ _ _ _ (@pe_tup _ _ _ _ _ (@pa2 _ _ _ _ _ (@pe_ix _ _ _ _ _ _ _ ix_list (@pe_lst _ _ _ _ (@pa2 _ _ _ _ _ pe_str (@pa2 _ _ _ _ _ pe_str pa_nil (by rfl)) (by rfl))) (@pe_op _ _ _ _ _ _ _ _ op_mod (@pv _ 2 _ _ (by rfl) (by first | exact Or.inl rfl | exact Or.inr (Or.inl rfl) | exact Or.inr (Or.inr rfl)) (by decide) (by decide)) pe_int) (fun _ _ => rfl)) (@pa2 _ _ _ _ _ (@pv _ 3 _ _ (by rfl) (by first | exact Or.inl rfl | exact Or.inr (Or.inl rfl) | exact Or.inr (Or.inr rfl)) (by decide) (by decide)) (@pa2 _ _ _ _ _ (@pv _ 5 _ _ (by rfl) (by first | exact Or.inl rfl | exact Or.inr (Or.inl rfl) | exact Or.inr (Or.inr rfl)) (by decide) (by decide)) pa_nil (by rfl)) (by rfl)) (by rfl)))))))))))), ?_⟩
    refine ⟨_, rfl, l, 8, rfl, by decide, by decide, hw, fun n H1 n0 n1 b1 w1 => ?_⟩
    have t1 := well_t b1 hw
    have hc1 := Sx.tsame t1 _ (by simp only [flatT]; exact flat_cs cs) hc
    dsimp only [tSeq, tIfS]
    refine rd_orB (b := decide (V.int n = .int 0)) (Pc := fun c => c = false → n ≠ 0 ∧ (1 < n → cs ≠ [])) (fun R hR => ⟨_, rfl, rfl, _, rfl, hR⟩) (fun hn0 R hR => ?_) (fun _ h => by cases h) (fun c H2 s2 hcs => ?_)
    · have hn0 : n ≠ 0 := fun z => (of_decide_eq_false hn0) (congrArg V.int z)
      refine rd_andB (b := decide (1 < n)) (Pc := fun c => c = false → n ≠ 0 ∧ (1 < n → cs ≠ [])) (fun R hR => ⟨_, rfl, _, _, rfl, rfl, _, rfl, hR⟩) (fun _ R hR => ?_) (fun h _ => ⟨hn0, fun h' => absurd h' (of_decide_eq_false h)⟩) hR
      refine ⟨_, rfl, sm (show 0 ≤ 1000 by decide), fun p0 hp0 => ?_⟩
      generalize hH2 : upd H1 p0 _ = H2
      have s2 : Same H1 H2 := hH2 ▸ same_new hp0
      have e0 : H2 p0 = some (.tup []) := hH2 ▸ upd_same
      refine ⟨.tuple (cs.map cD), .tuple [], Sx.dt _ (lay_cs hg) (Sx.same s2 _ hc1), Sx.dt _ rfl (sx_tup e0 sx_nil), lay_cs hg, rfl, .inr (by decide), _, rfl, hR _ H2 s2 fun h => ⟨hn0, fun _ e => ?_⟩⟩
      subst e
      cases h
    have b2 : But [l] H H2 := b1.trans s2.but
    have w2 := w1.same s2
    have ec2 := s2 _ _ (t1 _ _ ec)
    have fin : ∀ (d : PyData) (v : V) (H' : Hp), But [l] H2 H' → WellAt H' l → LeafD cs d → Sx H' d v → Q v H' := fun d v H' b' w' hd hv => q v d H' (b2.trans b') w' hd hv
    refine ifb (fun _ => ?_) (fun hf => ?_)
    · exact Md.run ((mk_tup (mkA_cons (mk_str (by decide)) mkA_nil) (Nat.le_of_ble_eq_true rfl)) : Md _ _ H2 (.tuple [.str "every"])) fun v H3 s3 hv => fin _ v H3 s3.but (w2.same s3) (.inl rfl) hv
    · have hcs := hcs hf
      refine ⟨_, rfl, rfl, _, rfl, ?_⟩
      refine ifb (fun _ => ?_) (fun hn1 => ?_)
      · -- keys
        dsimp only [tRet, tTup, tCons, tCB, tC]
        refine rd_comp_rngW (fun i out H' => But [l] H2 H' ∧ WellAt H' l ∧ ∃ ks : List Str, out = ks.map V.str ∧ ∀ k ∈ ks, k ∈ KEYS) 8 (by decide) (fun R hR => ?_) (fun i out H3 hi hol hI R hR => ?_) (fun D out H3 hol hI hD => ?_)
        · refine ⟨_, rfl, sm (show 2 ≤ 1000 by decide), fun l2 hl2 => ?_⟩
          generalize hH3 : upd H2 l2 _ = H3
          have s3 : Same H2 H3 := hH3 ▸ same_new hl2
          have e2 : H3 l2 = some (.lst [.int 4, .int 9]) := hH3 ▸ upd_same
          have nl2 := w2.ne hl2
          refine ⟨_, rfl, l, 2, rfl, by decide, by decide, w2.same s3, fun m H4 m0 m1 b4 w4 => ?_⟩
          obtain ⟨mv, hmv, am, _⟩ := at_of (l := [V.int 4, .int 9]) m0 m1
          obtain ⟨m', rfl, hm'⟩ : ∃ m' : Int, mv = .int m' ∧ (m' = 4 ∨ m' = 9) := by
            simp only [List.mem_cons, List.not_mem_nil, or_false] at hmv
            rcases hmv with rfl | rfl
            · exact ⟨4, rfl, .inl rfl⟩
            · exact ⟨9, rfl, .inr rfl⟩
          refine ⟨l2, _, _, .int m', rfl, rfl, SqL.of (b4 _ _ e2 (by simp [nl2])), am, l, m', rfl, by omega, by omega, w4, fun k H5 k0 k1 b5 w5 => ?_⟩
          obtain ⟨k', rfl⟩ : ∃ k' : Nat, k = (k' : Int) := ⟨k.toNat, by omega⟩
          exact hR k' H5 (by omega) ⟨(s3.but.trans b4).trans b5, w5, [], rfl, by simp⟩
        · obtain ⟨b3, w3, ks, rfl, hks⟩ := hI
          refine ⟨_, rfl, l, rfl, w3, fun z H4 b4 w4 hz => hR _ H4 ⟨b3.trans b4, w4, ks ++ [z], by rw [List.map_append]; rfl, fun k hk => ?_⟩⟩
          rcases List.mem_append.mp hk with h | h
          · exact hks k h
          · rw [List.mem_singleton.mp h]; exact hz
        · obtain ⟨b3, w3, ks, rfl, hks⟩ := hI
          generalize hH4 : upd H3 D _ = H4
          have s4 : Same H3 H4 := hH4 ▸ same_new hD
          have eD : H4 D = some (.lst (ks.map V.str)) := hH4 ▸ upd_same
          refine ⟨D, _, rfl, .inl ⟨SqL.of eD, fun p hp => ?_⟩⟩
          generalize hH5 : upd H4 p _ = H5
          have s5 : Same H4 H5 := hH5 ▸ same_new hp
          have e5 : H5 p = some (.tup (ks.map V.str)) := hH5 ▸ upd_same
          refine ⟨sm (show 2 ≤ 1000 by decide), fun p6 hp6 => ?_⟩
          have s6 : Same H5 (upd H5 p6 (.tup [.str "key", .ref p])) := same_new hp6
          refine fin (.tuple [.str "key", .tuple (ks.map .str)]) _ _ (b3.trans ((s4.trans s5).trans s6).but) (w3.same ((s4.trans s5).trans s6)) (.inr (.inl ⟨ks, rfl, by rw [List.length_map] at hol; exact hol, hks⟩)) ?_
          exact sx_tup upd_same (sx_cons (sx_str (sm (by decide))) (sx_cons (sx_tup (s6 _ _ e5) (keys_sx hks)) sx_nil))
      · -- a column and a value
        have hn1 : 1 < n := by
          have h1 : n ≠ 1 := fun z => (of_decide_eq_false hn1) (congrArg V.int z)
          have h0 := hcs.1
          omega
        have hne := hcs.2 hn1
        have hx0 : 0 < xs.length := by rw [hl]; exact List.length_pos_iff.mpr hne
        have hx8 : xs.length ≤ 8 := by rw [hl]; exact hg.1
        refine ⟨_, rfl, _, rfl, _, rfl, _, xs.length, rfl, .inr ⟨xs, SqT.of ec2, rfl⟩, l, (xs.length : Int), rfl, by omega, by omega, w2, fun m H3 m0 m1 b3 w3 => ?_⟩
        obtain ⟨x, hx, ax, i, ei, exi⟩ := at_of (l := xs) m0 m1
        have hi : i < xs.length := (List.getElem?_eq_some_iff.mp exi).1
        have ecs : cs[i]? = some (cs[i]'(by omega)) := List.getElem?_eq_getElem _
        generalize (cs[i]'(by omega)) = c' at ecs
        have hcm := List.mem_of_getElem? ecs
        obtain ⟨b, rfl, eb⟩ := hp.2 i x (c'.1, .str c'.2) exi (by rw [List.getElem?_map, ecs]; rfl)
        have t3 := well_t b3 w2
        have eb3 := t3 _ _ (s2 _ _ (t1 _ _ eb))
        have zn : c'.1.cps.size ≤ sizeLine := sm (Nat.le_trans (NM_facts _ (hg.2.2 c' hcm).1).1 (by decide))
        refine ⟨ca, xs, m, .ref b, rfl, rfl, SqT.of (t3 _ _ ec2), ax, b, _, rfl, SqT.of eb3, rfl, _, _, rfl, _, _, rfl, rfl, ?_⟩
        refine ⟨_, rfl, _, rfl, l, c'.2, rfl, w3, fun v d H4 b4 w4 hv hpl hsx => ?_⟩
        have b24 : But [l] H2 H4 := b3.trans b4
        dsimp only [tSeq, tIfS]
        refine rd_orB (b := decide (n < 4)) (Pc := fun c => c = false → v ≠ .non) (fun R hR => ⟨_, rfl, _, _, rfl, rfl, _, rfl, hR⟩) (fun _ R hR => ⟨_, rfl, rfl, _, rfl, hR _ H4 (Same.refl H4) fun h => of_decide_eq_false h⟩) (fun _ h => by cases h) (fun c5 H5 s5 hnn => ?_)
        have hsx5 := Sx.same s5 _ hsx
        have b25 := b24.trans s5.but
        have w5 := w4.same s5
        refine ifb (fun _ => ?_) (fun hf5 => ?_)
        · exact Md.run ((mk_tup (mkA_cons (mk_str (by decide)) (mkA_cons (mk_var (i := 3) rfl (sx_str zn)) (mkA_cons (mk_var (i := 5) rfl hsx5) mkA_nil))) (Nat.le_of_ble_eq_true rfl)) : Md _ _ H5 (.tuple [.str "is", .str c'.1, d])) fun v' H6 s6 hv' => fin _ v' H6 (b25.trans s6.but) (w5.same s6) (.inr (.inr ⟨c', d, hcm, hpl, hv, .inl rfl⟩)) hv'
        · have hdn : d ≠ .none := fun z => by
            subst z
            simp only [Sx] at hsx
            exact hnn hf5 hsx
          dsimp only [tNext, tSeq, tIfS]
          refine rd_andB (b := decide (V.int n = .int 7)) (Pc := fun c => c = true → c'.2 = "word") (fun R hR => ⟨_, rfl, rfl, _, rfl, hR⟩) (fun _ R hR => ⟨_, rfl, rfl, _, rfl, hR _ H5 (Same.refl H5) fun h => V.str.inj (of_decide_eq_true h)⟩) (fun _ h => by cases h) (fun c6 H6 s6 hwd => ?_)
          have hsx6 := Sx.same s6 _ hsx5
          have b26 := b25.trans s6.but
          have w6 := w5.same s6
          refine ifb (fun ht6 => ?_) (fun _ => ?_)
          · exact Md.run ((mk_tup (mkA_cons (mk_str (by decide)) (mkA_cons (mk_var (i := 3) rfl (sx_str zn)) (mkA_cons (mk_var (i := 5) rfl hsx6) mkA_nil))) (Nat.le_of_ble_eq_true rfl)) : Md _ _ H6 (.tuple [.str "begins", .str c'.1, d])) fun v' H7 s7 hv' => fin _ v' H7 (b26.trans s7.but) (w6.same s7) (.inr (.inr ⟨c', d, hcm, hpl, hv, .inr ⟨hdn, .inr (.inr ⟨hwd ht6, rfl⟩)⟩⟩)) hv'
          · refine ⟨sm (show 2 ≤ 1000 by decide), fun l2 hl2 => ?_⟩
            generalize hH7 : upd H6 l2 _ = H7
            have s7 : Same H6 H7 := hH7 ▸ same_new hl2
            have e2 : H7 l2 = some (.lst [.str "below", .str "above"]) := hH7 ▸ upd_same
            obtain ⟨o, ho, ao⟩ := two (a := "below") (b := "above") (n % 2) (by omega) (by omega)
            refine ⟨_, rfl, _, _, rfl, rfl, (show (0 : Int) < 2 by decide), l2, _, _, .str o, rfl, rfl, SqL.of e2, ao, _, rfl, _, rfl, sm (show 3 ≤ 1000 by decide), fun p hp' => ?_⟩
            have s8 : Same H7 (upd H7 p (.tup [.str o, .str c'.1, v])) := same_new hp'
            have zo : o.cps.size ≤ sizeLine := by rcases ho with h | h <;> (rw [h]; exact sm (by decide))
            refine fin (.tuple [.str o, .str c'.1, d]) _ _ (b26.trans (s7.trans s8).but) (w6.same (s7.trans s8)) (.inr (.inr ⟨c', d, hcm, hpl, hv, .inr ⟨hdn, ?_⟩⟩)) (sx_tup upd_same (sx_cons (sx_str zo) (sx_cons (sx_str zn) (sx_cons (Sx.same (s7.trans s8) _ hsx6) sx_nil))))
            rcases ho with rfl | rfl
            · exact .inl rfl
            · exact .inr (.inl rfl)
end
end My
set_option Elab.async false
set_option linter.all false
set_option maxRecDepth 100000
set_option maxHeartbeats 4000000
namespace My
open PySem L2
def RoomAt (H : Hp) (r : Addr) : Prop := ∃ c : Int, H r = some (.lst [.int c])
theorem RoomAt.same {l : Addr} {H H' : Hp} (w : RoomAt H l) (s : Same H H') : RoomAt H' l := by
  obtain ⟨p, e⟩ := w
  exact ⟨p, s _ _ e⟩
theorem RoomAt.ne {l a : Addr} {H : Hp} (w : RoomAt H l) (h : H a = none) : a ≠ l := by
  obtain ⟨p, e⟩ := w
  exact (ne_of_none e h).symm
theorem RoomAt.but {l r : Addr} {H H' : Hp} (w : RoomAt H r) (b : But [l] H H') (n : r ≠ l) : RoomAt H' r := by
  obtain ⟨p, e⟩ := w
  exact ⟨p, b _ _ e (by simp [n])⟩
theorem room_t {l r : Addr} {H H' : Hp} (b : But [l, r] H H') (w : WellAt H l) (m : RoomAt H r) : TSame H H' := b.t fun x hx => by
  simp only [List.mem_cons, List.not_mem_nil, or_false] at hx
  rcases hx with rfl | rfl
  · obtain ⟨p, q, r, e⟩ := w
    exact ⟨_, e⟩
  · obtain ⟨p, e⟩ := m
    exact ⟨_, e⟩
def spSieve (n : Nat) : Sp := fun vs H Q _ => ∃ (l r : Addr) (cx : V) (cs : List (Str × Str)) (deep : Nat), vs = [.ref l, cx, .int deep, .ref r] ∧ WellAt H l ∧ RoomAt H r ∧ l ≠ r ∧ Sx H (.tuple (cs.map cD)) cx ∧ Gd cs ∧ 1 ≤ deep ∧ deep ≤ n ∧ ∀ v d H', But [l, r] H H' → WellAt H' l → RoomAt H' r → GsD cs deep d → Sx H' d v → Q v H'
theorem fn_false {P : Program} {w : World} {K : PySem.W.Frag} {mg : Str → Option Value} {base : Heap} {CX : CXT} {k : Nat} {f : Addr} {fd : FuncData} {ps : List Str} {sp : Sp} (h : ∀ vs H Q E, ¬ sp vs H Q E) : FnOk P w K mg base CX k f fd ps sp :=
  ⟨fun vs H Q E q => absurd q (h vs H Q E), fun A outer s H args us vs Q E hr he hb hv hs => absurd hs (h vs H Q E)⟩
section
variable {P : Program} {w : World} {K : PySem.W.Frag} {mg : Str → Option Value} {base : Heap} {t : Adr}
theorem ok_sieve (T : Txt w K mg t) : ∀ n : Nat, FnOk P w K mg base CX0 (4 + n) t.f_l_sieve t.d_l_sieve ["_law_well_here", "_law_columns_here", "_law_deep", "_law_room"] (spSieve n)
  | 0 => fn_false fun vs H Q E h => by
    obtain ⟨l, r, cx, cs, deep, _, _, _, _, _, _, h1, h2, _⟩ := h
    omega
  | n + 1 => by
    have G_l_draw : FnOk P w K mg base CX0 1 t.f_l_draw t.d_l_draw ["_law_well_here", "_law_most"] spDraw := ok_draw T
    have G_l_leaf : FnOk P w K mg base CX0 4 t.f_l_leaf t.d_l_leaf ["_law_well_here", "_law_columns_here"] spLeaf := ok_leaf T
    have G_l_sieve : FnOk P w K mg base CX0 (4 + n) t.f_l_sieve t.d_l_sieve ["_law_well_here", "_law_columns_here", "_law_deep", "_law_room"] (spSieve n) := ok_sieve T n
    refine T.F_l_sieve.ok (k := 4 + n) sc_l_sieve (fun vs H Q E h => ?_) (fun cdv A outer s H vs Q E hr h => ?_)
    · obtain ⟨l, r, cx, cs, deep, rfl, _⟩ := h
      rfl
    · obtain ⟨l, r, cx, cs, deep, rfl, hw, ⟨c, er⟩, hlr, hc, hg, hd1, hdn, q⟩ := h
      have nrl : r ≠ l := hlr.symm
      refine ⟨_, (@pss_cons _ _ _ _ _ (@ps_asg _ _ _ _ _ _ (@pe_op _ _ _ _ _ _ _ _ op_sub (@pe_ix _ _ _ _ _ _ _ ix_list (@pv _ 3 _ _ (by rfl) (by first | exact Or.inl rfl | exact Or.inr (Or.inl rfl) | exact Or.inr (Or.inr rfl)) (by decide) (by decide)) pe_int (fun _ _ => rfl)) pe_int) (@pg_sub _ _ _ _ _ _ _ (@pv _ 3 _ _ (by rfl) (by first | exact Or.inl rfl | exact Or.inr (Or.inl rfl) | exact Or.inr (Or.inr rfl)) (by decide) (by decide)) pe_int set_list (by intro _; rfl)) (by rfl) (by rfl) (by rfl)) (@pss_cons _ _ _ _ _ (@ps_set _ _ (4) _ _ _ _ sc_l_sieve.nd (by rfl) (by first | exact Or.inl rfl | exact Or.inr rfl) (@pe_call _ _ _ _ _ _ _ _ _ _ _ _ _ _ _ _ (G_l_draw.mono (by omega)) hr (by rfl) T.mg_l_draw T.F_l_draw.kp T.b_l_draw .nil pass0 (@pa2 _ _ _ _ _ (@pv _ 0 _ _ (by rfl) (by first | exact Or.inl rfl | exact Or.inr (Or.inl rfl) | exact Or.inr (Or.inr rfl)) (by decide) (by decide)) (@pa2 _ _ _ _ _ pe_int pa_nil (by rfl)) (by rfl)) (by decide) (by rfl) (by rfl)) (by rfl) (by first | exact .inl rfl | exact .inr rfl | assumption)) (@pss_cons _ _ _ _ _ (@ps_if _ _ _ _ _ _ _ _ (@PW.pt _ _ _ (@pw_or _ _ _ _ _ _ _ (@pt_cmpR _ _ _ _ _ _ _ _ op_eq (@pv _ 2 _ _ (by rfl) (by first | exact Or.inl rfl | exact Or.inr (Or.inl rfl) | exact Or.inr (Or.inr rfl)) (by decide) (by decide)) pe_int (nomark _)) (@pw_or1 _ _ _ _ (@pt_cmpR _ _ _ _ _ _ _ _ op_lt (@pv _ 4 _ _ (by rfl) (by first | exact Or.inl rfl | exact Or.inr (Or.inl rfl) | exact Or.inr (Or.inr rfl)) (by decide) (by decide)) pe_int (nomark _))))) (@pss_one _ _ _ (@ps_ret _ _ _ _ (@pe_call _ _ _ _ _ _ _ _ _ _ _ _ _ _ _ _ (G_l_leaf.mono (by omega)) hr (by rfl) T.mg_l_leaf T.F_l_leaf.kp T.b_l_leaf .nil pass0 (@pa2 _ _ _ _ _ (@pv _ 0 _ _ (by rfl) (by first | exact Or.inl rfl | exact Or.inr (Or.inl rfl) | exact Or.inr (Or.inr rfl)) (by decide) (by decide)) (@pa2 _ _ _ _ _ (@pv _ 1 _ _ (by rfl) (by first | exact Or.inl rfl | exact Or.inr (Or.inl rfl) | exact Or.inr (Or.inr rfl)) (by decide) (by decide)) pa_nil (by rfl)) (by rfl)) (by decide) (by rfl) (by rfl)))) pss_nil) (@pss_cons _ _ _ _ _ (@ps_if _ _ _ _ _ _ _ _ (@pt_cmpR _ _ _ _ _ _ _ _ op_eq (@pv _ 4 _ _ (by rfl) (by first | exact Or.inl rfl | exact Or.inr (Or.inl rfl) | exact Or.inr (Or.inr rfl)) (by decide) (by decide)) pe_int (nomark _)) (@pss_cons _ _ _ _ _ (@ps_if _ _ _ _ _ _ _ _ (@pt_cmpR _ _ _ _ _ _ _ _ op_lt (@pe_ix _ _ _ _ _ _ _ ix_list (@pv _ 3 _ _ (by rfl) (by first | exact Or.inl rfl | exact Or.inr (Or.inl rfl) | exact Or.inr (Or.inr rfl)) (by decide) (by decide)) pe_int (fun _ _ => rfl)) pe_int (nomark _)) (@pss_one _ _ _ (@ps_ret _ _ _ _ (@pe_tup _ _ _ _ _ (@pa2 _ _ _ _ _ pe_str (@pa2 _ _ _ _ _ (@pe_tup _ _ _ _ _ (@pa2 _ _ _ _ _ pe_str pa_nil (by rfl))) pa_nil (by rfl)) (by rfl))))) pss_nil) (@pss_one _ _ _ (@ps_ret _ _ _ _ (@pe_tup _ _ _ _ _ (@pa2 _ _ _ _ _ pe_str (@pa2 _ _ _ _ _ (@pe_call _ _ _ _ _ _ _ _ _ _ _ _ _ _ _ _ (G_l_sieve.mono (by omega)) hr (by rfl) T.mg_l_sieve T.F_l_sieve.kp T.b_l_sieve .nil pass0 (@pa2 _ _ _ _ _ (@pv _ 0 _ _ (by rfl) (by first | exact Or.inl rfl | exact Or.inr (Or.inl rfl) | exact Or.inr (Or.inr rfl)) (by decide) (by decide)) (@pa2 _ _ _ _ _ (@pv _ 1 _ _ (by rfl) (by first | exact Or.inl rfl | exact Or.inr (Or.inl rfl) | exact Or.inr (Or.inr rfl)) (by decide) (by decide)) (@pa2 _ _ _ _ _ (@pe_op _ _ _ _ _ _ _ _ op_sub (@pv _ 2 _ _ (by rfl) (by first | exact Or.inl rfl | exact Or.inr (Or.inl rfl) | exact Or.inr (Or.inr rfl)) (by decide) (by decide)) pe_int) (@pa2 _ _ _ _ _ (@pv _ 3 _ _ (by rfl) (by first | exact Or.inl rfl | exact Or.inr (Or.inl rfl) | exact Or.inr (Or.inr rfl)) (by decide) (by decide)) pa_nil (by rfl)) (by rfl)) (by rfl)) (by rfl)) (by decide) (by rfl) (by rfl)) pa_nil (by rfl)) (by rfl)))))) pss_nil) (@pss_cons _ _ _ _ _ (@ps_set _ _ (5) _ _ _ _ sc_l_sieve.nd (by rfl) (by first | exact Or.inl rfl | exact Or.inr rfl) (@pe_lst _ _ _ _ pa_nil) (by rfl) (by first | exact .inl rfl | exact .inr rfl | assumption)) (@pss_cons _ _ _ _ _ (@ps_cut _ _ _ (@ps_for _ _ _ _ _ _ _ _ PassesOwn.never rfl (@pi_range1 _ _ _ _ _ _ (by rfl) T.n_range (@pa2 _ _ _ _ _ (@pe_call _ _ _ _ _ _ _ _ _ _ _ _ _ _ _ _ (G_l_draw.mono (by omega)) hr (by rfl) T.mg_l_draw T.F_l_draw.kp T.b_l_draw .nil pass0 (@pa2 _ _ _ _ _ (@pv _ 0 _ _ (by rfl) (by first | exact Or.inl rfl | exact Or.inr (Or.inl rfl) | exact Or.inr (Or.inr rfl)) (by decide) (by decide)) (@pa2 _ _ _ _ _ (@pe_ix _ _ _ _ _ _ _ ix_list (@pe_lst _ _ _ _ (@pa2 _ _ _ _ _ pe_int (@pa2 _ _ _ _ _ pe_int (@pa2 _ _ _ _ _ pe_int pa_nil (by rfl)) (by rfl)) (by rfl))) (@pe_call _ _ _ _ _ _ _ _ _ _ _ _ _ _ _ _ (G_l_draw.mono (by omega)) hr (by rfl) T.mg_l_draw T.F_l_draw.kp T.b_l_draw .nil pass0 (@pa2 _ _ _ _ _ (@pv _ 0 _ _ (by rfl) (by first | exact Or.inl rfl | exact Or.inr (Or.inl rfl) | exact Or.inr (Or.inr rfl)) (by decide) (by decide)) (@pa2 _ _ _ _ _ pe_int pa_nil (by rfl)) (by rfl)) (by decide) (by rfl) (by rfl)) (fun _ _ => rfl)) pa_nil (by rfl)) (by rfl)) (by decide) (by rfl) (by rfl)) pa_nil (by rfl)) (by rfl)) (@pg_name _ _ (6) _ sc_l_sieve.nd (by rfl) (by first | exact Or.inl rfl | exact Or.inr rfl) (by first | exact .inl rfl | exact .inr rfl | assumption)) (@pss_one _ _ _ (@ps_if _ _ _ _ _ _ _ _ (@pt_cmpR _ _ _ _ _ _ _ _ op_gt (@pe_ix _ _ _ _ _ _ _ ix_list (@pv _ 3 _ _ (by rfl) (by first | exact Or.inl rfl | exact Or.inr (Or.inl rfl) | exact Or.inr (Or.inr rfl)) (by decide) (by decide)) pe_int (fun _ _ => rfl)) pe_int (nomark _)) (@pss_one _ _ _ (@ps_expr _ _ _ _ (@pe_bm _ _ _ _ _ _ _ _ _ _ _ _ PySem.F.plainAttrs_list PySem.F.slot_list_append PySem.F.type_list_append mt_append (@pv _ 5 _ _ (by rfl) (by first | exact Or.inl rfl | exact Or.inr (Or.inl rfl) | exact Or.inr (Or.inr rfl)) (by decide) (by decide)) (@pa2 _ _ _ _ _ (@pe_call _ _ _ _ _ _ _ _ _ _ _ _ _ _ _ _ (G_l_sieve.mono (by omega)) hr (by rfl) T.mg_l_sieve T.F_l_sieve.kp T.b_l_sieve .nil pass0 (@pa2 _ _ _ _ _ (@pv _ 0 _ _ (by rfl) (by first | exact Or.inl rfl | exact Or.inr (Or.inl rfl) | exact Or.inr (Or.inr rfl)) (by decide) (by decide)) (@pa2 _ _ _ _ _ (@pv _ 1 _ _ (by rfl) (by first | exact Or.inl rfl | exact Or.inr (Or.inl rfl) | exact Or.inr (Or.inr rfl)) (by decide) (by decide)) (@pa2 _ _ _ _ _ (@pe_op _ _ _ _ _ _ _ _ op_sub (@pv _ 2 _ _ (by rfl) (by first | exact Or.inl rfl | exact Or.inr (Or.inl rfl) | exact Or.inr (Or.inr rfl)) (by decide) (by decide)) pe_int) (@pa2 _ _ _ _ _ (@pv _ 3 _ _ (by rfl) (by first | exact Or.inl rfl | exact Or.inr (Or.inl rfl) | exact Or.inr (Or.inr rfl)) (by decide) (by decide)) pa_nil (by rfl)) (by rfl)) (by rfl)) (by rfl)) (by decide) (by rfl) (by rfl)) pa_nil (by rfl)) (by rfl) (by rfl) (by rfl) (by rfl) (by rfl)) (by rfl))) pss_nil)) (by intro _; rfl))) (@pss_one _ _ _ (@ps_ret _ _ _ _ (@pe_tup _ _ _ _ _ (@pa2 _ _ _ _ _ (@pe_ix _ _ _ _ _ _ _ ix_list (@pe_lst _ _ _ _ (@pa2 _ _ _ _ _ pe_str (@pa2 _ _ _ _ _ pe_str pa_nil (by rfl)) (by rfl))) (@pe_op _ _ _ _ _ _ _ _ op_mod (@pv _ 4 _ _ (by rfl) (by first | exact Or.inl rfl | exact Or.inr (Or.inl rfl) | exact Or.inr (Or.inr rfl)) (by decide) (by decide)) pe_int) (fun _ _ => rfl)) (@pa2 _ _ _ _ _ (@pe_callTy _ _ _ _ _ _ _ _ _ call_tuple_of (by rfl) T.n_tuple bt_tuple (@pa2 _ _ _ _ _ (@pv _ 5 _ _ (by rfl) (by first | exact Or.inl rfl | exact Or.inr (Or.inl rfl) | exact Or.inr (Or.inr rfl)) (by decide) (by decide)) pa_nil (by rfl)) (by decide) (by decide) (by rfl) (by rfl)) pa_nil (by rfl)) (by rfl))))))))))), ?_⟩
      refine ⟨_, rfl, r, _, _, .int c, rfl, rfl, SqL.of er, rfl, _, _, rfl, rfl, _, rfl, r, _, _, 0, rfl, rfl, er, rfl, ?_⟩
      generalize hH0 : upd H r _ = H0
      have b0 : But [l, r] H H0 := hH0 ▸ but_upd (by simp)
      have r0 : RoomAt H0 r := ⟨c - 1, by rw [← hH0, upd_same]; rfl⟩
      have w0 : WellAt H0 l := by
        obtain ⟨p, q, z, e⟩ := hw
        exact ⟨p, q, z, by rw [← hH0, upd_ne hlr]; exact e⟩
      have fcs : flatT (.tuple (cs.map cD)) = true := by simp only [flatT]; exact flat_cs cs
      have hc0 := Sx.tsame (room_t b0 hw ⟨c, er⟩) _ fcs hc
      refine ⟨_, rfl, l, 8, rfl, by decide, by decide, w0, fun m H1 m0 m1 b1 w1 => ?_⟩
      have r1 := r0.but b1 nrl
      have hc1 := Sx.tsame (well_t b1 w0) _ fcs hc0
      have b01 : But [l, r] H H1 := b0.trans (b1.more (by simp))
      dsimp only [tSeq, tIfS]
      refine rd_orB (b := decide (V.int (deep : Int) = .int 1)) (Pc := fun c => c = false → deep ≠ 1) (fun R hR => ⟨_, rfl, rfl, _, rfl, hR⟩) (fun hb R hR => ⟨_, rfl, _, _, rfl, rfl, _, rfl, hR _ H1 (Same.refl H1) fun _ z => (of_decide_eq_false hb) (by rw [z]; rfl)⟩) (fun _ h => by cases h) (fun c2 H2 s2 hcd => ?_)
      have b02 := b01.trans s2.but
      have w2 := w1.same s2
      have r2 := r1.same s2
      have hc2 := Sx.same s2 _ hc1
      refine ifb (fun _ => ?_) (fun hf => ?_)
      · refine ⟨_, rfl, _, rfl, l, cx, cs, rfl, w2, hc2, hg, fun v d H3 b3 w3 hd hv => q v d H3 (b02.trans (b3.more (by simp))) w3 (r2.but b3 nrl) ?_ hv⟩
        obtain ⟨k, rfl⟩ : ∃ k, deep = k + 1 := ⟨deep - 1, by omega⟩
        exact .inl hd
      · have hd2 : deep ≠ 1 := hcd hf
        obtain ⟨k, rfl⟩ : ∃ k, deep = k + 1 := ⟨deep - 1, by omega⟩
        have ek : ((k + 1 : Nat) : Int) - 1 = (k : Int) := by omega
        refine ⟨_, rfl, rfl, _, rfl, ?_⟩
        refine ifb (fun _ => ?_) (fun _ => ?_)
        · -- not
          obtain ⟨c', er2⟩ := id r2
          refine ⟨_, rfl, r, _, _, .int c', rfl, rfl, SqL.of er2, rfl, _, _, rfl, rfl, _, rfl, ?_⟩
          refine ifb (fun _ => ?_) (fun _ => ?_)
          · refine Md.run ((mk_tup (mkA_cons (mk_str (by decide)) (mkA_cons (mk_tup (mkA_cons (mk_str (by decide)) mkA_nil) (Nat.le_of_ble_eq_true rfl)) mkA_nil)) (Nat.le_of_ble_eq_true rfl)) : Md _ _ H2 (.tuple [.str "not", .tuple [.str "every"]])) fun v H3 s3 hv => q v _ H3 (b02.trans s3.but) (w2.same s3) (r2.same s3) ?_ hv
            obtain ⟨j, rfl⟩ : ∃ j, k = j + 1 := ⟨k - 1, by omega⟩
            exact .inr (.inl ⟨_, rfl, .inl (.inl rfl)⟩)
          · refine ⟨_, rfl, _, rfl, _, rfl, _, _, rfl, rfl, _, rfl, ?_⟩
            dsimp only
            rw [ek]
            refine ⟨l, r, cx, cs, k, rfl, w2, r2, hlr, hc2, hg, by omega, by omega, fun v d H3 b3 w3 r3 hd hv => ?_⟩
            refine ⟨sm (show 2 ≤ 1000 by decide), fun p hp => ?_⟩
            have s4 : Same H3 (upd H3 p (.tup [.str "not", v])) := same_new hp
            exact q _ (.tuple [.str "not", d]) _ ((b02.trans b3).trans s4.but) (w3.same s4) (r3.same s4) (.inr (.inl ⟨d, rfl, hd⟩)) (sx_tup upd_same (sx_cons (sx_str (sm (by decide))) (sx_cons (Sx.same s4 _ hv) sx_nil)))
        · -- and, or
          dsimp only [tNext, tSeq]
          refine ⟨sm (show 0 ≤ 1000 by decide), fun li hli => ?_⟩
          generalize hH3 : upd H2 li _ = H3
          have s3 : Same H2 H3 := hH3 ▸ same_new hli
          have ei : H3 li = some (.lst []) := hH3 ▸ upd_same
          have nil' : li ≠ l := w2.ne hli
          have nir : li ≠ r := r2.ne hli
          have w3 := w2.same s3
          have r3 := r2.same s3
          have hc3 := Sx.same s3 _ hc2
          refine ⟨fun σ' H' => ∃ (v6 : Option V) (ds : List PyData) (ys : List V), σ' = [some (.ref l), some cx, some (.int ((k + 1 : Nat) : Int)), some (.ref r), some (.int m), some (.ref li), v6] ∧ But [li, l, r] H3 H' ∧ WellAt H' l ∧ RoomAt H' r ∧ H' li = some (.lst ys) ∧ SxAll H' ds ys ∧ ds.length ≤ 8 ∧ ∀ e ∈ ds, GsD cs k e, ?_, ?_⟩
          · refine ⟨_, rfl, sm (show 3 ≤ 1000 by decide), fun l3 hl3 => ?_⟩
            generalize hH4 : upd H3 l3 _ = H4
            have s4 : Same H3 H4 := hH4 ▸ same_new hl3
            have e3 : H4 l3 = some (.lst [.int 4, .int 4, .int 9]) := hH4 ▸ upd_same
            have nl3 := w3.ne hl3
            refine ⟨_, rfl, l, 3, rfl, by decide, by decide, w3.same s4, fun n5 H5 n50 n51 b5 w5 => ?_⟩
            obtain ⟨mv, hmv, am, _⟩ := at_of (l := [V.int 4, .int 4, .int 9]) n50 n51
            obtain ⟨m', rfl, hm'⟩ : ∃ m' : Int, mv = .int m' ∧ (m' = 4 ∨ m' = 9) := by
              simp only [List.mem_cons, List.not_mem_nil, or_false] at hmv
              rcases hmv with rfl | rfl | rfl
              · exact ⟨4, rfl, .inl rfl⟩
              · exact ⟨4, rfl, .inl rfl⟩
              · exact ⟨9, rfl, .inr rfl⟩
            refine ⟨l3, _, _, .int m', rfl, rfl, SqL.of (b5 _ _ e3 (by simp [nl3])), am, l, m', rfl, by omega, by omega, w5, fun n6 H6 n60 n61 b6 w6 => ?_⟩
            obtain ⟨j, rfl⟩ : ∃ j : Nat, n6 = (j : Int) := ⟨n6.toNat, by omega⟩
            have hj8 : j ≤ 8 := by omega
            have b36 : But [l] H3 H6 := (s4.but.trans b5).trans b6
            refine ⟨(j : Int), rfl, by omega, by omega, ?_⟩
            rw [Int.toNat_natCast]
            refine for_range (fun i σ' H' => ∃ (v6 : Option V) (ds : List PyData) (ys : List V), σ' = [some (.ref l), some cx, some (.int ((k + 1 : Nat) : Int)), some (.ref r), some (.int m), some (.ref li), v6] ∧ But [li, l, r] H3 H' ∧ WellAt H' l ∧ RoomAt H' r ∧ H' li = some (.lst ys) ∧ SxAll H' ds ys ∧ ds.length ≤ i ∧ ∀ e ∈ ds, GsD cs k e)
              ⟨none, [], [], rfl, b36.more (by simp), w6, r3.but b36 nrl, b36 _ _ ei (by simp [nil']), sx_nil, Nat.le_refl 0, by simp⟩ ?_ ?_
            · rintro i σ' H' hi ⟨v6, ds, ys, rfl, bA, wA, rA, eA, hS, hdl, hds⟩
              obtain ⟨ca, erA⟩ := id rA
              have hyl : ys.length ≤ i := by rw [← hS.len]; exact hdl
              have hcA : Sx H' (.tuple (cs.map cD)) cx := by
                refine Sx.tsame (bA.t fun x hx => ?_) _ fcs hc3
                simp only [List.mem_cons, List.not_mem_nil, or_false] at hx
                rcases hx with rfl | rfl | rfl
                · exact ⟨_, ei⟩
                · obtain ⟨p, q, z, e⟩ := w3; exact ⟨_, e⟩
                · obtain ⟨p, e⟩ := r3; exact ⟨_, e⟩
              refine ⟨_, rfl, r, _, _, .int ca, rfl, rfl, SqL.of erA, rfl, _, _, rfl, rfl, _, rfl, ?_⟩
              refine ifb (fun _ => ?_) (fun _ => ?_)
              · refine ⟨_, rfl, .inl ⟨rfl, _, SqL.of eA⟩, _, rfl, _, rfl, _, rfl, _, _, rfl, rfl, _, rfl, ?_⟩
                dsimp only
                rw [ek]
                refine ⟨l, r, cx, cs, k, rfl, wA, rA, hlr, hcA, hg, by omega, by omega, fun v d H7 b7 w7 r7 hd hv => ?_⟩
                have e7 := b7 _ _ eA (by simp [nil', nir])
                refine ⟨li, ys, v, rfl, rfl, e7, small1000 (by omega), ?_⟩
                generalize hH8 : upd H7 li _ = H8
                have t8 : TSame H7 H8 := hH8 ▸ tsame_lst e7
                have tA : TSame H' H8 := (room_t b7 wA rA).trans t8
                refine ⟨_, ds ++ [d], ys ++ [v], rfl, ?_, ?_, ?_, ?_, ?_, ?_, ?_⟩
                · refine bA.trans ((b7.more (by simp)).trans ?_)
                  rw [← hH8]
                  exact but_upd (by simp)
                · obtain ⟨p, q, z, e⟩ := w7
                  exact ⟨p, q, z, by rw [← hH8, upd_ne nil'.symm]; exact e⟩
                · obtain ⟨p, e⟩ := r7
                  exact ⟨p, by rw [← hH8, upd_ne nir.symm]; exact e⟩
                · rw [← hH8, upd_same]
                · exact SxAll.snoc (SxAll.tsame tA _ (flat_all fun e he => flat_gs (hds e he)) hS) (Sx.tsame t8 _ (flat_gs hd) hv)
                · rw [List.length_append]; show _ + 1 ≤ _; omega
                · intro e he
                  rcases List.mem_append.mp he with h | h
                  · exact hds e h
                  · rw [List.mem_singleton.mp h]; exact hd
              · exact ⟨_, ds, ys, rfl, bA, wA, rA, eA, hS, by omega, hds⟩
            · rintro σ' H' ⟨v6, ds, ys, rfl, bA, wA, rA, eA, hS, hdl, hds⟩
              exact ⟨v6, ds, ys, rfl, bA, wA, rA, eA, hS, by omega, hds⟩
          · rintro σ' H' ⟨v6, ds, ys, rfl, bA, wA, rA, eA, hS, hdl, hds⟩
            refine ⟨sm (show 2 ≤ 1000 by decide), fun l2 hl2 => ?_⟩
            generalize hH7 : upd H' l2 _ = H7
            have s7 : Same H' H7 := hH7 ▸ same_new hl2
            have e2 : H7 l2 = some (.lst [.str "and", .str "or"]) := hH7 ▸ upd_same
            obtain ⟨o, ho, ao⟩ := two (a := "and") (b := "or") (m % 2) (by omega) (by omega)
            refine ⟨_, rfl, _, _, rfl, rfl, (show (0 : Int) < 2 by decide), l2, _, _, .str o, rfl, rfl, SqL.of e2, ao, ?_⟩
            refine ⟨_, rfl, li, ys, rfl, .inl ⟨SqL.of (s7 _ _ eA), fun p hp => ?_⟩⟩
            generalize hH8 : upd H7 p _ = H8
            have s8 : Same H7 H8 := hH8 ▸ same_new hp
            have e8 : H8 p = some (.tup ys) := hH8 ▸ upd_same
            refine ⟨sm (show 2 ≤ 1000 by decide), fun p9 hp9 => ?_⟩
            have s9 : Same H8 (upd H8 p9 (.tup [.str o, .ref p])) := same_new hp9
            have s79 := (s7.trans s8).trans s9
            have zo : o.cps.size ≤ sizeLine := by rcases ho with h | h <;> (rw [h]; exact sm (by decide))
            refine q _ (.tuple [.str o, .tuple ds]) _ ?_ (wA.same s79) (rA.same s79) (.inr (.inr ⟨o, ds, ho, rfl, hdl, hds⟩)) (sx_tup upd_same (sx_cons (sx_str zo) (sx_cons (sx_tup (s9 _ _ e8) (SxAll.same s79 _ hS)) sx_nil)))
            refine (b02.trans ?_).trans s79.but
            exact (s3.but.trans bA).less hli
end
end My
set_option Elab.async false
set_option linter.all false
set_option maxRecDepth 100000
set_option maxHeartbeats 4000000
namespace My
open PySem L2
def LEN : List (Str × V) := [("every", .int 1), ("is", .int 3), ("below", .int 3), ("above", .int 3), ("begins", .int 3), ("key", .int 2), ("not", .int 2), ("and", .int 2), ("or", .int 2)]
def isNon : PyData → Bool
  | .none => true
  | _ => false
/-- a leaf of a column: its word, the name, the value -/
def fitsD (cs : List (Str × Str)) (z : Str) (n v : PyData) : Bool := match kindOf cs n with
  | .str k => valD k v && (decide (z = "is") || (!(decide (z = "begins") && !decide (k = "word")) && !isNon v))
  | _ => false
def shortD : PyData → Bool
  | .tuple ds => decide (ds.length ≤ 8)
  | _ => false
def keysD : PyData → Bool
  | .tuple ks => decide (ks.length ≤ 8) && ks.all keyD
  | _ => false
def leafW (z : Str) : Bool := decide (z = "is") || (decide (z = "below") || (decide (z = "above") || decide (z = "begins")))
def bothW (z : Str) : Bool := decide (z = "and") || decide (z = "or")
def formedS (cs : List (Str × Str)) (z : Str) : List PyData → Bool
  | [] => decide (z = "every")
  | [x] => if z = "key" then keysD x else if bothW z then shortD x else decide (z = "not")
  | [n, v] => leafW z && fitsD cs z n v
  | _ => false
def formedD (cs : List (Str × Str)) : PyData → Bool
  | .tuple (.str z :: r) => formedS cs z r
  | _ => false
def tupD : PyData → List PyData
  | .tuple ds => ds
  | _ => []
/-- the sieves in a sieve -/
def inD : PyData → List PyData
  | .tuple [.str z, x] => if z = "not" then [x] else if bothW z then tupD x else []
  | _ => []
def wfN (cs : List (Str × Str)) : Nat → PyData → Bool
  | 0, _ => false
  | n + 1, d => formedD cs d && (inD d).all (wfN cs n)
def szN : Nat → PyData → Nat
  | 0, _ => 0
  | n + 1, d => 1 + ((inD d).map (szN n)).sum
/-- what check_sieve finds, depth by depth -/
def lev (cs : List (Str × Str)) : Nat → Nat → List PyData → Bool
  | _, _, [] => true
  | 0, _, _ :: _ => false
  | n + 1, p, d :: ds => decide (p + (d :: ds).length ≤ 200) && ((d :: ds).all (formedD cs) && lev cs n (p + (d :: ds).length) ((d :: ds).flatMap inD))
theorem all_flat {f : PyData → Bool} {g : PyData → List PyData} : ∀ ds : List PyData, (ds.flatMap g).all f = ds.all fun d => (g d).all f
  | [] => rfl
  | d :: ds => by rw [List.flatMap_cons, List.all_append, List.all_cons, all_flat ds]
theorem sum_flat {f : PyData → Nat} {g : PyData → List PyData} : ∀ ds : List PyData, ((ds.flatMap g).map f).sum = (ds.map fun d => ((g d).map f).sum).sum
  | [] => rfl
  | d :: ds => by rw [List.flatMap_cons, List.map_append, List.sum_append, List.map_cons, List.sum_cons, sum_flat ds]
theorem sum_succ {f : PyData → Nat} : ∀ ds : List PyData, (ds.map fun d => 1 + f d).sum = ds.length + (ds.map f).sum
  | [] => rfl
  | d :: ds => by rw [List.map_cons, List.sum_cons, sum_succ ds, List.map_cons, List.sum_cons, List.length_cons]; omega
theorem all_both {f g : PyData → Bool} : ∀ ds : List PyData, (ds.all fun d => f d && g d) = (ds.all f && ds.all g)
  | [] => rfl
  | d :: ds => by
    rw [List.all_cons, List.all_cons, List.all_cons, all_both ds]
    cases f d <;> cases g d <;> cases ds.all f <;> rfl
theorem lev_eq (cs : List (Str × Str)) : ∀ (n p : Nat) (ds : List PyData), p ≤ 200 → lev cs n p ds = (ds.all (wfN cs n) && decide (p + (ds.map (szN n)).sum ≤ 200))
  | n, p, [], h => by
    rw [List.map_nil, List.sum_nil, Nat.add_zero, decide_eq_true h]
    cases n <;> rfl
  | 0, p, d :: ds, h => rfl
  | n + 1, p, d :: ds, h => by
    have e1 : (d :: ds).all (wfN cs (n + 1)) = ((d :: ds).all (formedD cs) && ((d :: ds).flatMap inD).all (wfN cs n)) := by
      rw [all_flat]
      exact all_both _
    have e2 : ((d :: ds).map (szN (n + 1))).sum = (d :: ds).length + (((d :: ds).flatMap inD).map (szN n)).sum := by
      rw [sum_flat]
      exact sum_succ _
    rw [e1, e2]
    show (decide (p + (d :: ds).length ≤ 200) && ((d :: ds).all (formedD cs) && lev cs n (p + (d :: ds).length) ((d :: ds).flatMap inD))) = _
    by_cases h2 : p + (d :: ds).length ≤ 200
    · rw [decide_eq_true h2, Bool.true_and, lev_eq cs n _ _ h2, Nat.add_assoc, Bool.and_assoc]
    · rw [decide_eq_false h2, Bool.false_and, decide_eq_false (by omega), Bool.and_false]
/-- what a sieve is -/
def goodD (cs : List (Str × Str)) (d : PyData) : Bool := wfN cs 8 d && decide (szN 8 d ≤ 200)
theorem lev_one (cs : List (Str × Str)) (d : PyData) : lev cs 8 0 [d] = goodD cs d := by
  rw [lev_eq cs 8 0 [d] (by omega)]
  unfold goodD
  simp only [List.all_cons, List.all_nil, Bool.and_true, List.map_cons, List.map_nil, List.sum_cons, List.sum_nil, Nat.add_zero, Nat.zero_add]
/-- the law's own count -/
def sizeN (cs : List (Str × Str)) (n : Nat) (d : PyData) : Nat := if wfN cs n d then szN n d else 0
theorem sz_pos (n : Nat) (d : PyData) : 1 ≤ szN (n + 1) d := by
  show 1 ≤ 1 + _
  omega
theorem size_zero (cs : List (Str × Str)) (n : Nat) (d : PyData) : sizeN cs n d = 0 ↔ wfN cs n d = false := by
  unfold sizeN
  cases n with
  | zero => exact ⟨fun _ => rfl, fun _ => rfl⟩
  | succ n =>
    cases h : wfN cs (n + 1) d with
    | true =>
      rw [if_pos rfl]
      have := sz_pos n d
      exact ⟨fun h => by omega, fun h => by cases h⟩
    | false =>
      rw [if_neg Bool.false_ne_true]
      exact ⟨fun _ => rfl, fun _ => rfl⟩
theorem size_good (cs : List (Str × Str)) (d : PyData) : goodD cs d = decide (0 < sizeN cs 8 d ∧ sizeN cs 8 d < 201) := by
  unfold goodD
  cases h : wfN cs 8 d with
  | true =>
    have h1 : 1 ≤ szN 8 d := sz_pos 7 d
    have e : sizeN cs 8 d = szN 8 d := by unfold sizeN; rw [if_pos h]
    rw [e, Bool.true_and]
    by_cases h2 : szN 8 d ≤ 200
    · rw [decide_eq_true h2, decide_eq_true (by omega)]
    · rw [decide_eq_false h2, decide_eq_false (by omega)]
  | false =>
    rw [(size_zero cs 8 d).mpr h]
    rfl
end My
set_option Elab.async false
set_option linter.all false
set_option maxRecDepth 100000
set_option maxHeartbeats 4000000
namespace My
open PySem L2
theorem kind_two (cs : List (Str × Str)) (d : PyData) : kindOf cs d = .non ∨ ∃ k, kindOf cs d = .str k := by
  cases d with
  | str z =>
    unfold kindOf
    dsimp only
    split
    · cases cs.lookup z with
      | none => exact .inl rfl
      | some k => exact .inr ⟨k, rfl⟩
    · exact .inl rfl
  | _ => exact .inl rfl
theorem isNon_eq {H : Hp} {d : PyData} {x : V} (h : Sx H d x) : decide (x = .non) = isNon d := by
  cases d with
  | str y => obtain ⟨rfl, hz⟩ := h.str; rfl
  | none => simp only [Sx] at h; subst h; rfl
  | bool b => simp only [Sx] at h; subst h; rfl
  | int i => simp only [Sx] at h; subst h; rfl
  | list ds => simp only [Sx] at h; obtain ⟨_, _, rfl, _⟩ := h; rfl
  | tuple ds => simp only [Sx] at h; obtain ⟨_, _, rfl, _⟩ := h; rfl
  | dict l => simp only [Sx] at h; obtain ⟨_, _, rfl, _⟩ := h; rfl
theorem dec_str (a b : Str) : decide (V.str a = V.str b) = decide (a = b) := by
  by_cases h : a = b
  · rw [h, decide_eq_true rfl, decide_eq_true rfl]
  · rw [decide_eq_false h, decide_eq_false (fun z => h (V.str.inj z))]
theorem three_at {H : Hp} {a b c : PyData} {v : V} (h : Sx H (.tuple [a, b, c]) v) : ∃ p x y z, v = .ref p ∧ H p = some (.tup [x, y, z]) ∧ Sx H a x ∧ Sx H b y ∧ Sx H c z := by
  obtain ⟨p, ov, rfl, eo, hov⟩ := h.tup
  obtain ⟨x, ov1, rfl, so0, hov1⟩ := hov.cons
  obtain ⟨y, ov2, rfl, so1, hov2⟩ := hov1.cons
  obtain ⟨z, ov3, rfl, so2, hov3⟩ := hov2.cons
  have := hov3.nil
  subst this
  exact ⟨p, x, y, z, rfl, eo, so0, so1, so2⟩
theorem at_zero {α : Type} (x : α) (r : List α) : atI (x :: r) 0 = some x := by
  obtain ⟨v, _, h, k, hk, e⟩ := at_of (l := x :: r) (n := 0) (Int.le_refl 0) (by simp only [List.length_cons]; omega)
  have : k = 0 := by omega
  subst this
  rw [h]
  simpa using e.symm
theorem lk_leaf {z : Str} (h : leafW z = true) : (LEN.lookup z).getD .non = .int 3 := by
  unfold leafW at h
  simp only [Bool.or_eq_true, decide_eq_true_eq] at h
  rcases h with rfl | rfl | rfl | rfl <;> rfl
theorem lk_both {z : Str} (h : bothW z = true) : (LEN.lookup z).getD .non = .int 2 := by
  unfold bothW at h
  simp only [Bool.or_eq_true, decide_eq_true_eq] at h
  rcases h with rfl | rfl <;> rfl
theorem lk_else {z : Str} {n : Int} (h1 : leafW z = false) (h2 : z ≠ "key") (h3 : bothW z = false) (h : (LEN.lookup z).getD .non = .int n) : (z = "every" ∧ n = 1) ∨ (z = "not" ∧ n = 2) := by
  unfold leafW at h1
  unfold bothW at h3
  simp only [Bool.or_eq_false_iff, decide_eq_false_iff_not] at h1 h3
  obtain ⟨a1, a2, a3, a4⟩ := h1
  by_cases e1 : z = "every"
  · subst e1
    exact .inl ⟨rfl, (V.int.inj h).symm⟩
  · by_cases e2 : z = "not"
    · subst e2
      exact .inr ⟨rfl, (V.int.inj h).symm⟩
    · exfalso
      have b : ∀ {y : Str}, ¬ z = y → (z == y) = false := fun h => by simpa using h
      unfold LEN at h
      simp only [List.lookup_cons, b e1, b a1, b a2, b a3, b a4, b h2, b e2, b h3.1, b h3.2, List.lookup_nil, Option.getD_none] at h
      cases h
theorem formed_len (cs : List (Str × Str)) {z : Str} {r : List PyData} (h : formedS cs z r = true) : (LEN.lookup z).getD .non = .int ((r.length + 1 : Nat) : Int) := by
  match r, h with
  | [], h =>
    have h : z = "every" := of_decide_eq_true h
    subst h
    rfl
  | [x], h =>
    have h : (if z = "key" then keysD x else if bothW z then shortD x else decide (z = "not")) = true := h
    by_cases e : z = "key"
    · subst e; rfl
    · rw [if_neg e] at h
      by_cases e2 : bothW z = true
      · exact lk_both e2
      · rw [if_neg e2] at h
        have h := of_decide_eq_true h
        subst h
        rfl
  | [n, v], h =>
    have h : (leafW z && fitsD cs z n v) = true := h
    rw [Bool.and_eq_true] at h
    exact lk_leaf h.1
  | _ :: _ :: _ :: _, h => exact absurd h Bool.false_ne_true
theorem in_two (z a b : Str) : inV (.str z) [.str a, .str b] = (decide (z = a) || decide (z = b)) := by
  have e : ∀ a : Str, eqV (.str a) (.str z) = decide (z = a) := fun a => by
    by_cases h : z = a
    · subst h; rw [decide_eq_true rfl]; simp [eqV]
    · rw [decide_eq_false h]; simp only [eqV]; simpa using fun q => h q.symm
  simp only [inV, List.any_cons, List.any_nil, e, Bool.or_false]
theorem in_four (z a b c d : Str) : inV (.str z) [.str a, .str b, .str c, .str d] = (decide (z = a) || (decide (z = b) || (decide (z = c) || decide (z = d)))) := by
  have e : ∀ a : Str, eqV (.str a) (.str z) = decide (z = a) := fun a => by
    by_cases h : z = a
    · subst h; rw [decide_eq_true rfl]; simp [eqV]
    · rw [decide_eq_false h]; simp only [eqV]; simpa using fun q => h q.symm
  simp only [inV, List.any_cons, List.any_nil, e, Bool.or_false]
def spFits : Sp := fun vs H Q _ => ∃ cx cs x z n v, vs = [cx, x] ∧ Sx H (.tuple (cs.map cD)) cx ∧ (cs.map Prod.fst).Nodup ∧ Sx H (.tuple [.str z, n, v]) x ∧ Q (.bl (fitsD cs z n v)) H
def spFormed : Sp := fun vs H Q _ => ∃ cx cs x d, vs = [cx, x] ∧ Sx H (.tuple (cs.map cD)) cx ∧ (cs.map Prod.fst).Nodup ∧ Sx H d x ∧ Q (.bl (formedD cs d)) H
section
variable {P : Program} {w : World} {K : PySem.W.Frag} {mg : Str → Option Value} {base : Heap} {t : Adr}
theorem ok_is_short (T : Txt w K mg t) : FnOk P w K mg base CX0 1 t.f_is_short_tuple t.d_is_short_tuple ["thing"] (spD shortD) := by
  refine T.F_is_short_tuple.ok sc_is_short_tuple (fun vs H Q E h => ?_) (fun cdv A outer s H vs Q E hr h => ?_)
  · obtain ⟨x, d, rfl, _⟩ := h
    rfl
  · obtain ⟨x, d, rfl, hx, q⟩ := h
    refine ⟨_, (@pss_one _ _ _ (@ps_ret _ _ _ _ (@pe_and _ _ _ _ _ _ _ (@pe_callB _ _ _ _ _ _ _ _ _ call_isi (by rfl) T.n_isinstance bt_isinstance (@pa2 _ _ _ _ _ (@pv _ 0 _ _ (by rfl) (by first | exact Or.inl rfl | exact Or.inr (Or.inl rfl) | exact Or.inr (Or.inr rfl)) (by decide) (by decide)) (@pa2 _ _ _ _ _ (@pe_bltn _ _ (.ty "tuple") _ _ (by rfl) T.n_tuple bt_tuple rfl (by decide) (by decide)) pa_nil (by rfl)) (by rfl)) (by decide) (by decide) (by rfl) (by rfl)) (@pe_one _ _ _ _ _ (@pe_cmpR _ _ _ _ _ _ _ _ op_le (@pe_callB _ _ _ _ _ _ _ _ _ call_len (by rfl) T.n_len bt_len (@pa2 _ _ _ _ _ (@pv _ 0 _ _ (by rfl) (by first | exact Or.inl rfl | exact Or.inr (Or.inl rfl) | exact Or.inr (Or.inr rfl)) (by decide) (by decide)) pa_nil (by rfl)) (by decide) (by decide) (by rfl) (by rfl)) (@pe_glob _ _ (.int 8) _ _ (by rfl) T.mg_MOST_IN_A_TUPLE ⟨_, rfl⟩ (by decide)) (nomark _)))))), ?_⟩
    refine ⟨_, rfl, _, _, _, _, rfl, isa_tuple, hx.kd, _, rfl, ?_⟩
    cases d with
    | tuple ds =>
      obtain ⟨a, xs, rfl, e, hall⟩ := hx.tup
      have hl := hall.len
      refine ⟨_, rfl, _, xs.length, rfl, .inr ⟨xs, SqT.of e, rfl⟩, _, _, rfl, rfl, ?_⟩
      have e2 : shortD (.tuple ds) = decide (((xs.length : Nat) : Int) ≤ 8) := by
        show decide (ds.length ≤ 8) = _
        rw [hl]
        by_cases h : xs.length ≤ 8
        · rw [decide_eq_true h, decide_eq_true (by omega)]
        · rw [decide_eq_false h, decide_eq_false (by omega)]
      rw [e2] at q
      exact q
    | _ => exact q
theorem ok_fits_column (T : Txt w K mg t) : FnOk P w K mg base CX0 4 t.f_fits_column t.d_fits_column ["columns", "sieve"] spFits := by
  have G_kind_named : FnOk P w K mg base CX0 3 t.f_kind_named t.d_kind_named ["columns", "name"] spKind := ok_kind_named T
  have G_is_value : FnOk P w K mg base CX0 2 t.f_is_value t.d_is_value ["kind", "thing"] spValue := ok_is_value T
  refine T.F_fits_column.ok sc_fits_column (fun vs H Q E h => ?_) (fun cdv A outer s H vs Q E hr h => ?_)
  · obtain ⟨cx, cs, x, z, n, v, rfl, _⟩ := h
    rfl
  · obtain ⟨cx, cs, x, z, n, v, rfl, hc, hn, hx, q⟩ := h
    refine ⟨_, (@pss_cons _ _ _ _ _ (@ps_set _ _ (2) _ _ _ _ sc_fits_column.nd (by rfl) (by first | exact Or.inl rfl | exact Or.inr rfl) (@pe_call _ _ _ _ _ _ _ _ _ _ _ _ _ _ _ _ (G_kind_named.mono (by decide)) hr (by rfl) T.mg_kind_named T.F_kind_named.kp T.b_kind_named .nil pass0 (@pa2 _ _ _ _ _ (@pv _ 0 _ _ (by rfl) (by first | exact Or.inl rfl | exact Or.inr (Or.inl rfl) | exact Or.inr (Or.inr rfl)) (by decide) (by decide)) (@pa2 _ _ _ _ _ (@pe_ix _ _ _ _ _ _ _ ix_tup (@pv _ 1 _ _ (by rfl) (by first | exact Or.inl rfl | exact Or.inr (Or.inl rfl) | exact Or.inr (Or.inr rfl)) (by decide) (by decide)) pe_int (fun _ _ => rfl)) pa_nil (by rfl)) (by rfl)) (by decide) (by rfl) (by rfl)) (by rfl) (by first | exact .inl rfl | exact .inr rfl | assumption)) (@pss_cons _ _ _ _ _ (@ps_if _ _ _ _ _ _ _ _ (@PW.pt _ _ _ (@pw_or _ _ _ _ _ _ _ (@pt_cmpR _ _ _ _ _ _ _ _ op_isN (@pv _ 2 _ _ (by rfl) (by first | exact Or.inl rfl | exact Or.inr (Or.inl rfl) | exact Or.inr (Or.inr rfl)) (by decide) (by decide)) pe_non (nomark _)) (@pw_or1 _ _ _ _ (@pt_not _ _ _ _ (@pt_val _ _ _ (@pe_call _ _ _ _ _ _ _ _ _ _ _ _ _ _ _ _ (G_is_value.mono (by decide)) hr (by rfl) T.mg_is_value T.F_is_value.kp T.b_is_value .nil pass0 (@pa2 _ _ _ _ _ (@pv _ 2 _ _ (by rfl) (by first | exact Or.inl rfl | exact Or.inr (Or.inl rfl) | exact Or.inr (Or.inr rfl)) (by decide) (by decide)) (@pa2 _ _ _ _ _ (@pe_ix _ _ _ _ _ _ _ ix_tup (@pv _ 1 _ _ (by rfl) (by first | exact Or.inl rfl | exact Or.inr (Or.inl rfl) | exact Or.inr (Or.inr rfl)) (by decide) (by decide)) pe_int (fun _ _ => rfl)) pa_nil (by rfl)) (by rfl)) (by decide) (by rfl) (by rfl)) (by intro _; rfl)))))) (@pss_one _ _ _ (@ps_ret _ _ _ _ pe_bl)) pss_nil) (@pss_cons _ _ _ _ _ (@ps_if _ _ _ _ _ _ _ _ (@pt_cmpR _ _ _ _ _ _ _ _ op_eq (@pe_ix _ _ _ _ _ _ _ ix_tup (@pv _ 1 _ _ (by rfl) (by first | exact Or.inl rfl | exact Or.inr (Or.inl rfl) | exact Or.inr (Or.inr rfl)) (by decide) (by decide)) pe_int (fun _ _ => rfl)) pe_str (nomark _)) (@pss_one _ _ _ (@ps_ret _ _ _ _ pe_bl)) pss_nil) (@pss_cons _ _ _ _ _ (@ps_if _ _ _ _ _ _ _ _ (@PW.pt _ _ _ (@pw_and _ _ _ _ _ _ _ (@pt_cmpR _ _ _ _ _ _ _ _ op_eq (@pe_ix _ _ _ _ _ _ _ ix_tup (@pv _ 1 _ _ (by rfl) (by first | exact Or.inl rfl | exact Or.inr (Or.inl rfl) | exact Or.inr (Or.inr rfl)) (by decide) (by decide)) pe_int (fun _ _ => rfl)) pe_str (nomark _)) (@pw_and1 _ _ _ _ (@pt_cmpR _ _ _ _ _ _ _ _ op_ne (@pv _ 2 _ _ (by rfl) (by first | exact Or.inl rfl | exact Or.inr (Or.inl rfl) | exact Or.inr (Or.inr rfl)) (by decide) (by decide)) pe_str (nomark _))))) (@pss_one _ _ _ (@ps_ret _ _ _ _ pe_bl)) pss_nil) (@pss_one _ _ _ (@ps_ret _ _ _ _ (@pe_cmpR _ _ _ _ _ _ _ _ op_notN (@pe_ix _ _ _ _ _ _ _ ix_tup (@pv _ 1 _ _ (by rfl) (by first | exact Or.inl rfl | exact Or.inr (Or.inl rfl) | exact Or.inr (Or.inr rfl)) (by decide) (by decide)) pe_int (fun _ _ => rfl)) pe_non (nomark _)))))))), ?_⟩
    obtain ⟨a, x0, x1, x2, rfl, e, s0, s1, s2⟩ := three_at hx
    obtain ⟨rfl, _⟩ := s0.str
    refine ⟨_, rfl, _, rfl, a, _, _, x1, rfl, rfl, SqT.of e, rfl, _, cs, x1, n, rfl, hc, hn, s1, ?_⟩
    unfold fitsD at q
    rcases kind_two cs n with ek | ⟨k, ek⟩
    · rw [ek] at q ⊢
      exact ⟨_, rfl, rfl, _, rfl, q⟩
    · rw [ek] at q ⊢
      dsimp only at q
      refine ⟨_, rfl, rfl, _, rfl, ?_⟩
      refine ⟨_, rfl, _, rfl, a, _, _, x2, rfl, rfl, SqT.of e, rfl, k, x2, rfl, s2.ay, ?_⟩
      rw [valD_eq k s2]
      cases hv : valD k v with
      | false => rw [hv] at q; exact ⟨_, rfl, q⟩
      | true =>
        rw [hv, Bool.true_and] at q
        refine ⟨_, rfl, ?_⟩
        refine ⟨_, rfl, a, _, _, _, rfl, rfl, SqT.of e, rfl, rfl, _, rfl, ?_⟩
        rw [dec_str]
        by_cases hz : z = "is"
        · rw [decide_eq_true hz] at q ⊢
          exact q
        · rw [decide_eq_false hz, Bool.false_or] at q
          rw [decide_eq_false hz]
          refine ⟨_, rfl, a, _, _, _, rfl, rfl, SqT.of e, rfl, rfl, _, rfl, ?_⟩
          rw [dec_str]
          have fin : Q (.bl (!isNon v)) H → Q (.bl (!decide (x2 = .non))) H := fun h => by rw [isNon_eq s2]; exact h
          by_cases hb : z = "begins"
          · rw [decide_eq_true hb, Bool.true_and] at q
            rw [decide_eq_true hb]
            refine ⟨_, rfl, rfl, _, rfl, ?_⟩
            rw [dec_str]
            by_cases hk : k = "word"
            · rw [decide_eq_true hk] at q ⊢
              exact ⟨_, rfl, a, _, _, x2, rfl, rfl, SqT.of e, rfl, rfl, fin q⟩
            · rw [decide_eq_false hk] at q ⊢
              exact q
          · rw [decide_eq_false hb] at q ⊢
            exact ⟨_, rfl, a, _, _, x2, rfl, rfl, SqT.of e, rfl, rfl, fin q⟩
theorem ok_is_formed (T : Txt w K mg t) : FnOk P w K mg base CX0 5 t.f_is_formed t.d_is_formed ["columns", "thing"] spFormed := by
  have G_fits_column : FnOk P w K mg base CX0 4 t.f_fits_column t.d_fits_column ["columns", "sieve"] spFits := ok_fits_column T
  have G_is_short_tuple : FnOk P w K mg base CX0 1 t.f_is_short_tuple t.d_is_short_tuple ["thing"] (spD shortD) := ok_is_short T
  have G_is_key : FnOk P w K mg base CX0 2 t.f_is_key t.d_is_key ["thing"] (spOf keyV) := ok_is_key T
  refine FnOk.forget (sp := fun vs H Q _ => ∃ cx cs x d, vs = [cx, x] ∧ Sx H (.tuple (cs.map cD)) cx ∧ (cs.map Prod.fst).Nodup ∧ Sx H d x ∧ ∀ H', Same H H' → Q (.bl (formedD cs d)) H') ?_ (fun vs H Q E ⟨x, cs, y, d, e, h1, h2, h3, q⟩ => ⟨x, cs, y, d, e, h1, h2, h3, fun H' s => ⟨H, Fg.all s, q⟩⟩)
  refine T.F_is_formed.ok sc_is_formed (fun vs H Q E h => ?_) (fun cdv A outer s H vs Q E hr h => ?_)
  · obtain ⟨cx, cs, x, d, rfl, _⟩ := h
    rfl
  · obtain ⟨cx, cs, x, d, rfl, hc, hn, hx, q⟩ := h
    refine ⟨_, (@pss_cons _ _ _ _ _ (@ps_if _ _ _ _ _ _ _ _ (@PW.pt _ _ _ (@pw_or _ _ _ _ _ _ _ (@pt_not _ _ _ _ (@pt_val _ _ _ (@pe_callB _ _ _ _ _ _ _ _ _ call_isi (by rfl) T.n_isinstance bt_isinstance (@pa2 _ _ _ _ _ (@pv _ 1 _ _ (by rfl) (by first | exact Or.inl rfl | exact Or.inr (Or.inl rfl) | exact Or.inr (Or.inr rfl)) (by decide) (by decide)) (@pa2 _ _ _ _ _ (@pe_bltn _ _ (.ty "tuple") _ _ (by rfl) T.n_tuple bt_tuple rfl (by decide) (by decide)) pa_nil (by rfl)) (by rfl)) (by decide) (by decide) (by rfl) (by rfl)) (by intro _; rfl))) (@pw_or _ _ _ _ _ _ _ (@pt_cmpR _ _ _ _ _ _ _ _ op_eq (@pe_callB _ _ _ _ _ _ _ _ _ call_len (by rfl) T.n_len bt_len (@pa2 _ _ _ _ _ (@pv _ 1 _ _ (by rfl) (by first | exact Or.inl rfl | exact Or.inr (Or.inl rfl) | exact Or.inr (Or.inr rfl)) (by decide) (by decide)) pa_nil (by rfl)) (by decide) (by decide) (by rfl) (by rfl)) pe_int (nomark _)) (@pw_or1 _ _ _ _ (@pt_not _ _ _ _ (@pt_val _ _ _ (@pe_callB _ _ _ _ _ _ _ _ _ call_isi (by rfl) T.n_isinstance bt_isinstance (@pa2 _ _ _ _ _ (@pe_ix _ _ _ _ _ _ _ ix_tup (@pv _ 1 _ _ (by rfl) (by first | exact Or.inl rfl | exact Or.inr (Or.inl rfl) | exact Or.inr (Or.inr rfl)) (by decide) (by decide)) pe_int (fun _ _ => rfl)) (@pa2 _ _ _ _ _ (@pe_bltn _ _ (.ty "str") _ _ (by rfl) T.n_str bt_str rfl (by decide) (by decide)) pa_nil (by rfl)) (by rfl)) (by decide) (by decide) (by rfl) (by rfl)) (by intro _; rfl))))))) (@pss_one _ _ _ (@ps_ret _ _ _ _ pe_bl)) pss_nil) (@pss_cons _ _ _ _ _ (@ps_if _ _ _ _ _ _ _ _ (@pt_cmpR _ _ _ _ _ _ _ _ op_ne (@pe_dgetN _ (w) (K) _ _ _ _ _ _ rfl rfl (@pe_glob _ _ (.ref t.a_LENGTHS) _ _ (by rfl) T.mg_LENGTHS rfl (by decide)) (@pe_ix _ _ _ _ _ _ _ ix_tup (@pv _ 1 _ _ (by rfl) (by first | exact Or.inl rfl | exact Or.inr (Or.inl rfl) | exact Or.inr (Or.inr rfl)) (by decide) (by decide)) pe_int (fun _ _ => rfl)) ⟨by rfl, by rfl, by rfl, by rfl⟩) (@pe_callB _ _ _ _ _ _ _ _ _ call_len (by rfl) T.n_len bt_len (@pa2 _ _ _ _ _ (@pv _ 1 _ _ (by rfl) (by first | exact Or.inl rfl | exact Or.inr (Or.inl rfl) | exact Or.inr (Or.inr rfl)) (by decide) (by decide)) pa_nil (by rfl)) (by decide) (by decide) (by rfl) (by rfl)) (nomark _)) (@pss_one _ _ _ (@ps_ret _ _ _ _ pe_bl)) pss_nil) (@pss_cons _ _ _ _ _ (@ps_if _ _ _ _ _ _ _ _ (@pt_cmpR _ _ _ _ _ _ _ _ op_in_seq (@pe_ix _ _ _ _ _ _ _ ix_tup (@pv _ 1 _ _ (by rfl) (by first | exact Or.inl rfl | exact Or.inr (Or.inl rfl) | exact Or.inr (Or.inr rfl)) (by decide) (by decide)) pe_int (fun _ _ => rfl)) (@pe_tup _ _ _ _ _ (@pa2 _ _ _ _ _ pe_str (@pa2 _ _ _ _ _ pe_str (@pa2 _ _ _ _ _ pe_str (@pa2 _ _ _ _ _ pe_str pa_nil (by rfl)) (by rfl)) (by rfl)) (by rfl))) rfl) (@pss_one _ _ _ (@ps_ret _ _ _ _ (@pe_call _ _ _ _ _ _ _ _ _ _ _ _ _ _ _ _ (G_fits_column.mono (by decide)) hr (by rfl) T.mg_fits_column T.F_fits_column.kp T.b_fits_column .nil pass0 (@pa2 _ _ _ _ _ (@pv _ 0 _ _ (by rfl) (by first | exact Or.inl rfl | exact Or.inr (Or.inl rfl) | exact Or.inr (Or.inr rfl)) (by decide) (by decide)) (@pa2 _ _ _ _ _ (@pv _ 1 _ _ (by rfl) (by first | exact Or.inl rfl | exact Or.inr (Or.inl rfl) | exact Or.inr (Or.inr rfl)) (by decide) (by decide)) pa_nil (by rfl)) (by rfl)) (by decide) (by rfl) (by rfl)))) pss_nil) (@pss_cons _ _ _ _ _ (@ps_if _ _ _ _ _ _ _ _ (@pt_cmpR _ _ _ _ _ _ _ _ op_eq (@pe_ix _ _ _ _ _ _ _ ix_tup (@pv _ 1 _ _ (by rfl) (by first | exact Or.inl rfl | exact Or.inr (Or.inl rfl) | exact Or.inr (Or.inr rfl)) (by decide) (by decide)) pe_int (fun _ _ => rfl)) pe_str (nomark _)) (@pss_one _ _ _ (@ps_ret _ _ _ _ (@pe_and _ _ _ _ _ _ _ (@pe_call _ _ _ _ _ _ _ _ _ _ _ _ _ _ _ _ (G_is_short_tuple.mono (by decide)) hr (by rfl) T.mg_is_short_tuple T.F_is_short_tuple.kp T.b_is_short_tuple .nil pass0 (@pa2 _ _ _ _ _ (@pe_ix _ _ _ _ _ _ _ ix_tup (@pv _ 1 _ _ (by rfl) (by first | exact Or.inl rfl | exact Or.inr (Or.inl rfl) | exact Or.inr (Or.inr rfl)) (by decide) (by decide)) pe_int (fun _ _ => rfl)) pa_nil (by rfl)) (by decide) (by rfl) (by rfl)) (@pe_one _ _ _ _ _ (@pe_callB _ _ _ _ _ _ _ _ _ (call_all_list rfl) (by rfl) T.n_all bt_all (@pa2 _ _ _ _ _ (@pe_comp _ (["key"]) ([none]) _ _ _ _ _ _ _ _ _ _ (csc (defScope s_is_formed) ["columns", "thing"] rfl rfl (by decide +kernel)) rfl (@pi_tup _ _ _ _ (@pe_ix _ _ _ _ _ _ _ ix_tup (@pv _ 1 _ _ (by rfl) (by first | exact Or.inl rfl | exact Or.inr (Or.inl rfl) | exact Or.inr (Or.inr rfl)) (by decide) (by decide)) pe_int (fun _ _ => rfl))) (fun _ _ _ _ _ => (@pg_name _ _ (0) _ (show (["key"] : List Str).Nodup by decide +kernel) (by rfl) (by first | exact Or.inl rfl | exact Or.inr rfl) (by first | exact .inl rfl | exact .inr rfl | assumption))) (gx_name rfl) (fun _ _ _ _ _ => pif_nil) (fun _ _ _ _ _ => (@pe_call _ _ _ _ _ _ _ _ _ _ _ _ _ _ _ _ (G_is_key.mono (by decide)) hr (by rfl) T.mg_is_key T.F_is_key.kp T.b_is_key .nil pass0 (@pa2 _ _ _ _ _ (@pv _ 0 _ _ (by rfl) (by first | exact Or.inl rfl | exact Or.inr (Or.inl rfl) | exact Or.inr (Or.inr rfl)) (by decide) (by decide)) pa_nil (by rfl)) (by decide) (by rfl) (by rfl))) (by intro _; rfl)) pa_nil (by rfl)) (by decide) (by decide) (by rfl) (by rfl)))))) pss_nil) (@pss_cons _ _ _ _ _ (@ps_if _ _ _ _ _ _ _ _ (@pt_cmpR _ _ _ _ _ _ _ _ op_in_seq (@pe_ix _ _ _ _ _ _ _ ix_tup (@pv _ 1 _ _ (by rfl) (by first | exact Or.inl rfl | exact Or.inr (Or.inl rfl) | exact Or.inr (Or.inr rfl)) (by decide) (by decide)) pe_int (fun _ _ => rfl)) (@pe_tup _ _ _ _ _ (@pa2 _ _ _ _ _ pe_str (@pa2 _ _ _ _ _ pe_str pa_nil (by rfl)) (by rfl))) rfl) (@pss_one _ _ _ (@ps_ret _ _ _ _ (@pe_call _ _ _ _ _ _ _ _ _ _ _ _ _ _ _ _ (G_is_short_tuple.mono (by decide)) hr (by rfl) T.mg_is_short_tuple T.F_is_short_tuple.kp T.b_is_short_tuple .nil pass0 (@pa2 _ _ _ _ _ (@pe_ix _ _ _ _ _ _ _ ix_tup (@pv _ 1 _ _ (by rfl) (by first | exact Or.inl rfl | exact Or.inr (Or.inl rfl) | exact Or.inr (Or.inr rfl)) (by decide) (by decide)) pe_int (fun _ _ => rfl)) pa_nil (by rfl)) (by decide) (by rfl) (by rfl)))) pss_nil) (@pss_one _ _ _ (@ps_ret _ _ _ _ pe_bl))))))), ?_⟩
    refine ⟨_, rfl, _, _, _, _, rfl, isa_tuple, hx.kd, _, rfl, ?_⟩
    cases d with
    | tuple ds =>
      obtain ⟨a, xs, rfl, e, hall⟩ := hx.tup
      have hl := hall.len
      refine ⟨_, rfl, _, xs.length, rfl, .inr ⟨xs, SqT.of e, rfl⟩, rfl, _, rfl, ?_⟩
      cases ds with
      | nil =>
        have := hall.nil
        subst this
        exact q H (Same.refl H)
      | cons d0 r =>
        obtain ⟨x0, xr, rfl, s0, hr'⟩ := hall.cons
        refine ⟨_, rfl, a, _, _, x0, rfl, rfl, SqT.of e, at_zero _ _, _, _, _, _, rfl, isa_str, s0.kd, _, rfl, ?_⟩
        cases d0 with
        | str z =>
          obtain ⟨rfl, zz⟩ := s0.str
          refine ⟨t.a_LENGTHS, LEN, rfl, T.q_LENGTHS, ?_⟩
          refine ⟨_, rfl, a, _, _, _, rfl, rfl, SqT.of e, at_zero _ _, z, rfl, ?_⟩
          have hlr : xr.length = r.length := hr'.len.symm
          have el : (((.str z :: xr : List V).length : Nat) : Int) = ((r.length + 1 : Nat) : Int) := by rw [List.length_cons, hlr]
          have q : ∀ H', Same H H' → Q (.bl (formedS cs z r)) H' := q
          refine ⟨_, rfl, _, _, rfl, .inr ⟨_, SqT.of e, rfl⟩, ?_, _, rfl, ?_⟩
          · cases hz : LEN.lookup z with
            | none => rfl
            | some v =>
              have hm : ∀ (l : List (Str × V)), (∀ p ∈ l, ∃ i, p.2 = V.int i) → ∀ v, l.lookup z = some v → ∃ i, v = V.int i := by
                intro l
                induction l with
                | nil => intro _ v h; cases h
                | cons p r ih =>
                  intro hp v h
                  rw [List.lookup_cons] at h
                  by_cases e : (z == p.1) = true
                  · rw [e] at h; cases h; exact hp p List.mem_cons_self
                  · rw [Bool.eq_false_iff.mpr e] at h
                    exact ih (fun p hp' => hp p (List.mem_cons_of_mem _ hp')) v h
              obtain ⟨i, rfl⟩ := hm LEN (by intro p hp; simp only [LEN, List.mem_cons, List.not_mem_nil, or_false] at hp; rcases hp with rfl | rfl | rfl | rfl | rfl | rfl | rfl | rfl | rfl <;> exact ⟨_, rfl⟩) v hz
              rfl
          · rw [el]
            refine ifb (fun h1 => ?_) (fun h1 => ?_)
            · have h1 := of_decide_eq_false (nt h1)
              have e2 : formedS cs z r = false := by
                cases hf : formedS cs z r with
                | false => rfl
                | true => exact absurd (formed_len cs hf) h1
              rw [e2] at q
              exact q H (Same.refl H)
            · have h1 : (LEN.lookup z).getD .non = .int ((r.length + 1 : Nat) : Int) := of_decide_eq_true (nf h1)
              refine ⟨_, rfl, a, _, _, _, rfl, rfl, SqT.of e, at_zero _ _, sm (show 4 ≤ 1000 by decide), fun p hp => ?_⟩
              generalize hH1 : upd H p _ = H1
              have t1 : Same H H1 := hH1 ▸ same_new hp
              have ep : H1 p = some (.tup [.str "is", .str "below", .str "above", .str "begins"]) := hH1 ▸ upd_same
              refine ⟨p, _, rfl, .inr (SqT.of ep), rfl, rfl, _, rfl, ?_⟩
              have e1 := t1 _ _ e
              rw [if_neg Bool.false_ne_true, in_four]
              refine ifb (fun h2 => ?_) (fun h2 => ?_)
              · have h2 : leafW z = true := h2
                have h3 := lk_leaf h2
                rw [h1] at h3
                have h4 : r.length = 2 := by have := V.int.inj h3; omega
                match r, h4, q, hx with
                | [n, v], _, q, hx =>
                  refine ⟨_, rfl, _, rfl, cx, cs, _, z, n, v, rfl, Sx.same t1 _ hc, hn, Sx.same t1 _ hx, ?_⟩
                  have e3 : formedS cs z [n, v] = fitsD cs z n v := by show (leafW z && fitsD cs z n v) = _; rw [h2, Bool.true_and]
                  rw [← e3]
                  exact q H1 t1
              · have h2 : leafW z = false := h2
                refine ⟨_, rfl, a, _, _, _, rfl, rfl, SqT.of e1, at_zero _ _, rfl, _, rfl, ?_⟩
                rw [dec_str]
                refine ifb (fun h3 => ?_) (fun h3 => ?_)
                · have h3 : z = "key" := of_decide_eq_true h3
                  subst h3
                  have h4 : r.length = 1 := by have := V.int.inj (h1.symm.trans (show _ = V.int 2 from rfl)); omega
                  match r, xr, h4, q, hr', e1 with
                  | [x], xr, _, q, hr', e1 =>
                    obtain ⟨y, ys, rfl, sy, hys⟩ := hr'.cons
                    have := hys.nil
                    subst this
                    have sy1 := Sx.same t1 _ sy
                    have q : ∀ H', Same H H' → Q (.bl (keysD x)) H' := q
                    refine ⟨_, rfl, a, _, _, y, rfl, rfl, SqT.of e1, rfl, y, x, rfl, sy1, ?_⟩
                    cases hs : shortD x with
                    | false =>
                      have e3 : keysD x = false := by
                        cases x with
                        | tuple ks => show (decide (ks.length ≤ 8) && _) = false; rw [show decide (ks.length ≤ 8) = false from hs, Bool.false_and]
                        | _ => rfl
                      rw [e3] at q
                      exact ⟨_, rfl, q H1 t1⟩
                    | true =>
                      refine ⟨_, rfl, ?_⟩
                      rw [if_pos rfl]
                      cases x with
                      | tuple ks =>
                        obtain ⟨b, ys, rfl, eb, hb⟩ := sy1.tup
                        have hk8 : ks.length ≤ 8 := of_decide_eq_true hs
                        have e3 : keysD (.tuple ks) = ks.all keyD := by show (decide (ks.length ≤ 8) && _) = _; rw [decide_eq_true hk8, Bool.true_and]
                        rw [e3] at q
                        refine all_tup ks keyD (SqT.of eb) hb.len (sm (by rw [← hb.len]; omega)) (fun R hR => ?_) (fun i xx d h1 h2 R hR => ?_) (fun H' s' => q H' (t1.trans s'))
                        · exact ⟨_, rfl, a, _, _, _, rfl, rfl, SqT.of e1, rfl, hR⟩
                        · have sx := SxAll.get i hb h1 h2
                          refine ⟨_, rfl, xx, rfl, sx.ay, ?_⟩
                          rw [keyD_eq sx]
                          exact hR
                      | _ => exact absurd hs Bool.false_ne_true
                · have h3 : z ≠ "key" := of_decide_eq_false h3
                  refine ⟨_, rfl, a, _, _, _, rfl, rfl, SqT.of e1, at_zero _ _, sm (show 2 ≤ 1000 by decide), fun p2 hp2 => ?_⟩
                  generalize hH2 : upd H1 p2 _ = H2
                  have t2 : Same H1 H2 := hH2 ▸ same_new hp2
                  have ep2 : H2 p2 = some (.tup [.str "and", .str "or"]) := hH2 ▸ upd_same
                  refine ⟨p2, _, rfl, .inr (SqT.of ep2), rfl, rfl, _, rfl, ?_⟩
                  have e2 := t2 _ _ e1
                  have t12 := t1.trans t2
                  rw [if_neg Bool.false_ne_true, in_two]
                  refine ifb (fun h4 => ?_) (fun h4 => ?_)
                  · have h4 : bothW z = true := h4
                    have h5 := lk_both h4
                    rw [h1] at h5
                    have h6 : r.length = 1 := by have := V.int.inj h5; omega
                    match r, xr, h6, q, hr', e2 with
                    | [x], xr, _, q, hr', e2 =>
                      obtain ⟨y, ys, rfl, sy, hys⟩ := hr'.cons
                      have := hys.nil
                      subst this
                      have e3 : formedS cs z [x] = shortD x := by show (if z = "key" then keysD x else if bothW z then shortD x else decide (z = "not")) = _; rw [if_neg h3, if_pos h4]
                      rw [e3] at q
                      exact ⟨_, rfl, a, _, _, y, rfl, rfl, SqT.of e2, rfl, y, x, rfl, Sx.same t12 _ sy, q _ t12⟩
                  · have h4 : bothW z = false := h4
                    have e3 : formedS cs z r = true := by
                      rcases lk_else h2 h3 h4 h1 with ⟨rfl, h5⟩ | ⟨rfl, h5⟩
                      · match r, (show r.length = 0 by omega) with
                        | [], _ => rfl
                      · match r, (show r.length = 1 by omega) with
                        | [x], _ => rfl
                    rw [e3] at q
                    exact q _ t12
        | _ => exact q H (Same.refl H)
    | _ => exact q H (Same.refl H)
end
end My
set_option Elab.async false
set_option linter.all false
set_option maxRecDepth 100000
set_option maxHeartbeats 4000000
namespace My
open PySem L2
theorem small_line {n : Nat} (h : n ≤ 2000) : n < sizeLine := Nat.lt_of_le_of_lt h (by decide)
theorem formed_shape {cs : List (Str × Str)} {d : PyData} (h : formedD cs d = true) : ∃ z r, d = .tuple (.str z :: r) ∧ formedS cs z r = true := by
  match d, h with
  | .tuple (.str z :: r), h => exact ⟨z, r, rfl, h⟩
theorem formed_one {cs : List (Str × Str)} {z : Str} {r : List PyData} (h : formedS cs z r = true) (hz : z = "not" ∨ bothW z = true) : ∃ x, r = [x] ∧ (bothW z = true → shortD x = true) := by
  have h0 := formed_len cs h
  have h2 : r.length = 1 := by
    rcases hz with rfl | hz
    · have := V.int.inj ((show (LEN.lookup ("not" : Str)).getD .non = V.int 2 from rfl).symm.trans h0)
      omega
    · have := V.int.inj ((lk_both hz).symm.trans h0)
      omega
  match r, h2, h with
  | [x], _, h =>
    refine ⟨x, rfl, fun hb => ?_⟩
    have h : (if z = "key" then keysD x else if bothW z then shortD x else decide (z = "not")) = true := h
    have hk : z ≠ "key" := fun e => by subst e; exact absurd hb (by decide)
    rw [if_neg hk, if_pos hb] at h
    exact h
theorem in_not {x : PyData} : inD (.tuple [.str "not", x]) = [x] := rfl
theorem in_both {z : Str} {x : PyData} (h : bothW z = true) : inD (.tuple [.str z, x]) = tupD x := by
  show (if z = "not" then [x] else if bothW z then tupD x else []) = _
  have hk : z ≠ "not" := fun e => by subst e; exact absurd h (by decide)
  rw [if_neg hk, if_pos h]
theorem in_none {z : Str} {r : List PyData} (h1 : z ≠ "not") (h2 : bothW z = false) : inD (.tuple (.str z :: r)) = [] := by
  match r with
  | [] => rfl
  | [x] =>
    show (if z = "not" then [x] else if bothW z then tupD x else []) = _
    rw [if_neg h1, h2]
    rfl
  | _ :: _ :: _ => rfl
theorem in_len {cs : List (Str × Str)} {d : PyData} (h : formedD cs d = true) : (inD d).length ≤ 8 := by
  obtain ⟨z, r, rfl, h⟩ := formed_shape h
  by_cases h1 : z = "not"
  · obtain ⟨x, rfl, _⟩ := formed_one h (.inl h1)
    subst h1
    show 1 ≤ 8
    omega
  · cases h2 : bothW z with
    | true =>
      obtain ⟨x, rfl, hx⟩ := formed_one h (.inr h2)
      have hx := hx h2
      rw [in_both h2]
      match x, hx with
      | .tuple ks, hx => exact of_decide_eq_true hx
    | false => rw [in_none h1 h2]; show 0 ≤ 8; omega
theorem flat_len {cs : List (Str × Str)} : ∀ {ds : List PyData}, ds.all (formedD cs) = true → (ds.flatMap inD).length ≤ 8 * ds.length
  | [], _ => Nat.le_refl 0
  | d :: ds, h => by
    rw [List.all_cons, Bool.and_eq_true] at h
    rw [List.flatMap_cons, List.length_append, List.length_cons]
    have := in_len h.1
    have := flat_len h.2
    omega
theorem same_upd {H H1 : Hp} {f : Addr} {o : HO} (s : Same H H1) (h : H f = none) : Same H (upd H1 f o) := fun b u e => by
  have : b ≠ f := fun z => by subst z; rw [h] at e; cases e
  rw [upd_ne this]
  exact s b u e
/-- all([f(x) for x in l]), l a list of data -/
theorem all_listD {K : PySem.W.Frag} {a : Addr} {xs : List V} {ds : List PyData} {src : List (Option Nat)} {g : TG} {te t0 : TE} {σ : St} {H : Hp} {Q : VK} (f : PyData → Bool) (hq : H a = some (.lst xs)) (hd : SxAll H ds xs) (hz : xs.length ≤ 1000) (h0 : ∀ R : VK, R (.ref a) H → t0 σ H R)
    (hs : ∀ (i : Nat) (x : V) (d : PyData) (H1 : Hp), xs[i]? = some x → ds[i]? = some d → Same H H1 → ∀ R : VK, (∀ H2, Same H1 H2 → R (.bl (f d)) H2) → g x (pick σ src) H1 fun σ3 H3 => te σ3 H3 R) (q : ∀ H', Same H H' → Q (.bl (ds.all f)) H') :
    tCB (fun xs H Q => ∃ (a : Addr) (bs : List Bool), xs = [.ref a] ∧ SqL K H a (bs.map V.bl) ∧ Q (.bl (bs.all id)) H) (tCons (tComp (iList K t0) src g tTrue te) tNil) σ H Q := by
  dsimp only [tCB, tCons, tNil]
  have hl := hd.len
  refine h0 _ ⟨a, rfl, ⟨_, SqL.of hq⟩, ?_⟩
  refine ⟨fun i m out H' => Same H H' ∧ i ≤ xs.length ∧ m = xs.length - i ∧ out = (ds.take i).map fun x => V.bl (f x), ⟨_, Same.refl _, Nat.zero_le _, rfl, rfl⟩, ?_⟩
  rintro i m out H' ⟨s3, hi, rfl, rfl⟩
  by_cases hlt : i < xs.length
  · have hx : xs[i]? = some xs[i] := List.getElem?_eq_getElem hlt
    have hdi : ds[i]? = some ds[i] := List.getElem?_eq_getElem (by omega)
    refine .inr ⟨⟨xs, xs[i], SqL.of (s3 _ _ hq), hx⟩, Nat.lt_of_lt_of_le (by rw [List.length_map, List.length_take]; omega) (smz hz), fun x H4 y => ?_⟩
    obtain ⟨e4, y⟩ := y
    subst e4
    have hxi := y xs (SqL.of (s3 _ _ hq))
    refine hs i x _ H4 hxi hdi s3 (fun v H5 => ∃ m', m' < xs.length - i ∧ Same H H5 ∧ i + 1 ≤ xs.length ∧ m' = xs.length - (i + 1) ∧ ((ds.take i).map fun x => V.bl (f x)) ++ [v] = (ds.take (i + 1)).map fun x => V.bl (f x)) fun H5 s5 => ?_
    refine ⟨xs.length - (i + 1), by omega, s3.trans s5, hlt, rfl, ?_⟩
    rw [List.take_add_one, hdi, List.map_append]
    rfl
  · refine .inl ⟨⟨xs, SqL.of (s3 _ _ hq), by omega⟩, fun D hD => ?_⟩
    rw [List.take_of_length_le (by omega)]
    refine ⟨D, ds.map f, rfl, SqL.of ?_, ?_⟩
    · rw [upd_same, List.map_map]; rfl
    · rw [List.all_map]
      exact q _ (s3.trans (same_new hD))
def spWithin : Sp := fun vs H Q _ => ∃ l ds xs cs, vs = [.ref l] ∧ H l = some (.lst xs) ∧ SxAll H ds xs ∧ ds.all (formedD cs) = true ∧ ds.length ≤ 200 ∧ ∀ f ys H', Same H H' → H' f = some (.lst ys) → SxAll H' (ds.flatMap inD) ys → Q (.ref f) H'
section
variable {P : Program} {w : World} {K : PySem.W.Frag} {mg : Str → Option Value} {base : Heap} {t : Adr}
theorem ok_sieves_within (T : Txt w K mg t) : FnOk P w K mg base CX0 1 t.f_sieves_within t.d_sieves_within ["sieves"] spWithin := by
  refine T.F_sieves_within.ok sc_sieves_within (fun vs H Q E h => ?_) (fun cdv A outer s H vs Q E hr h => ?_)
  · obtain ⟨l, ds, xs, cs, rfl, _⟩ := h
    rfl
  · obtain ⟨l, ds, xs, cs, rfl, el, hall, hfo, h200, q⟩ := h
    have hlen := hall.len
    refine ⟨_, (@pss_cons _ _ _ _ _ (@ps_set _ _ (1) _ _ _ _ sc_sieves_within.nd (by rfl) (by first | exact Or.inl rfl | exact Or.inr rfl) (@pe_lst _ _ _ _ pa_nil) (by rfl) (by first | exact .inl rfl | exact .inr rfl | assumption)) (@pss_cons _ _ _ _ _ (@ps_cut _ _ _ (@ps_for _ _ _ _ _ _ _ _ PassesOwn.never rfl (@pi_list _ _ _ _ (@pv _ 0 _ _ (by rfl) (by first | exact Or.inl rfl | exact Or.inr (Or.inl rfl) | exact Or.inr (Or.inr rfl)) (by decide) (by decide))) (@pg_name _ _ (2) _ sc_sieves_within.nd (by rfl) (by first | exact Or.inl rfl | exact Or.inr rfl) (by first | exact .inl rfl | exact .inr rfl | assumption)) (@pss_cons _ _ _ _ _ (@ps_cut _ _ _ (@ps_if _ _ _ _ _ _ _ _ (@pt_cmpR _ _ _ _ _ _ _ _ op_eq (@pe_ix _ _ _ _ _ _ _ ix_tup (@pv _ 2 _ _ (by rfl) (by first | exact Or.inl rfl | exact Or.inr (Or.inl rfl) | exact Or.inr (Or.inr rfl)) (by decide) (by decide)) pe_int (fun _ _ => rfl)) pe_str (nomark _)) (@pss_one _ _ _ (@ps_expr _ _ _ _ (@pe_bm _ _ _ _ _ _ _ _ _ _ _ _ PySem.F.plainAttrs_list PySem.F.slot_list_append PySem.F.type_list_append mt_append (@pv _ 1 _ _ (by rfl) (by first | exact Or.inl rfl | exact Or.inr (Or.inl rfl) | exact Or.inr (Or.inr rfl)) (by decide) (by decide)) (@pa2 _ _ _ _ _ (@pe_ix _ _ _ _ _ _ _ ix_tup (@pv _ 2 _ _ (by rfl) (by first | exact Or.inl rfl | exact Or.inr (Or.inl rfl) | exact Or.inr (Or.inr rfl)) (by decide) (by decide)) pe_int (fun _ _ => rfl)) pa_nil (by rfl)) (by rfl) (by rfl) (by rfl) (by rfl) (by rfl)) (by rfl))) pss_nil)) (@pss_one _ _ _ (@ps_if _ _ _ _ _ _ _ _ (@pt_cmpR _ _ _ _ _ _ _ _ op_in_seq (@pe_ix _ _ _ _ _ _ _ ix_tup (@pv _ 2 _ _ (by rfl) (by first | exact Or.inl rfl | exact Or.inr (Or.inl rfl) | exact Or.inr (Or.inr rfl)) (by decide) (by decide)) pe_int (fun _ _ => rfl)) (@pe_tup _ _ _ _ _ (@pa2 _ _ _ _ _ pe_str (@pa2 _ _ _ _ _ pe_str pa_nil (by rfl)) (by rfl))) rfl) (@pss_one _ _ _ (@ps_expr _ _ _ _ (@pe_bm _ _ _ _ _ _ _ _ _ _ _ _ PySem.F.plainAttrs_list PySem.F.slot_list_extend PySem.F.type_list_extend mt_extendT (@pv _ 1 _ _ (by rfl) (by first | exact Or.inl rfl | exact Or.inr (Or.inl rfl) | exact Or.inr (Or.inr rfl)) (by decide) (by decide)) (@pa2 _ _ _ _ _ (@pe_ix _ _ _ _ _ _ _ ix_tup (@pv _ 2 _ _ (by rfl) (by first | exact Or.inl rfl | exact Or.inr (Or.inl rfl) | exact Or.inr (Or.inr rfl)) (by decide) (by decide)) pe_int (fun _ _ => rfl)) pa_nil (by rfl)) (by rfl) (by rfl) (by rfl) (by rfl) (by rfl)) (by rfl))) pss_nil))) (by intro _; rfl))) (@pss_one _ _ _ (@ps_ret _ _ _ _ (@pv _ 1 _ _ (by rfl) (by first | exact Or.inl rfl | exact Or.inr (Or.inl rfl) | exact Or.inr (Or.inr rfl)) (by decide) (by decide)))))), ?_⟩
    refine ⟨Nat.zero_le _, fun f hf => ?_⟩
    refine ⟨fun σ' H' => ∃ ys k, σ' = [some (.ref l), some (.ref f), k] ∧ Same H H' ∧ H' f = some (.lst ys) ∧ SxAll H (ds.flatMap inD) ys, ?_, ?_⟩
    · refine ⟨_, rfl, l, rfl, ⟨_, SqL.of ((same_new hf) _ _ el)⟩, ?_⟩
      refine for_list (xs := xs) (fun i σ' H' => ∃ ys k, σ' = [some (.ref l), some (.ref f), k] ∧ Same H H' ∧ H' f = some (.lst ys) ∧ SxAll H ((ds.take i).flatMap inD) ys ∧ ys.length ≤ 8 * i) ⟨[], _, rfl, same_new hf, upd_same, sx_nil, by simp⟩ ?_ ?_ ?_
      · rintro i σ' H' hi ⟨ys, k, rfl, s1, _⟩
        exact SqL.of (s1 _ _ el)
      · rintro i x σ' H' hx ⟨ys, k, rfl, s1, ef, hy, hyl⟩
        have hi : i < xs.length := (List.getElem?_eq_some_iff.mp hx).1
        have hdi : ds[i]? = some ds[i] := List.getElem?_eq_getElem (by omega)
        have hsx := SxAll.get i hall hx hdi
        have hfd : formedD cs ds[i] = true := List.all_eq_true.mp hfo _ (List.getElem_mem _)
        have htk : (ds.take (i + 1)).flatMap inD = (ds.take i).flatMap inD ++ inD ds[i] := by
          rw [List.take_add_one, hdi, List.flatMap_append]
          simp
        generalize ds[i] = d at *
        obtain ⟨z, r, rfl, hfs⟩ := formed_shape hfd
        obtain ⟨a, xr, rfl, ea, hr0⟩ := hsx.tup
        obtain ⟨x0, xr, rfl, s0, hrr⟩ := hr0.cons
        obtain ⟨rfl, _⟩ := s0.str
        have hin := in_len hfd
        refine ⟨fun σ2 H2 => ∃ ys2, σ2 = [some (.ref l), some (.ref f), some (.ref a)] ∧ Same H H2 ∧ H2 f = some (.lst ys2) ∧ ((z = "not" ∧ SxAll H ((ds.take (i + 1)).flatMap inD) ys2 ∧ ys2.length ≤ 8 * (i + 1)) ∨ (z ≠ "not" ∧ SxAll H ((ds.take i).flatMap inD) ys2 ∧ ys2.length ≤ 8 * i)), ?_, ?_⟩
        · refine ⟨_, rfl, a, _, _, _, rfl, rfl, SqT.of (s1 _ _ ea), at_zero _ _, rfl, _, rfl, ?_⟩
          rw [dec_str]
          refine ifb (fun h1 => ?_) (fun h1 => ?_)
          · have h1 : z = "not" := of_decide_eq_true h1
            subst h1
            obtain ⟨y, rfl, _⟩ := formed_one hfs (.inl rfl)
            obtain ⟨y0, yr, rfl, sy, hyr⟩ := hrr.cons
            have := hyr.nil
            subst this
            refine ⟨_, rfl, .inl ⟨rfl, _, SqL.of ef⟩, ?_⟩
            refine ⟨_, rfl, a, _, _, y0, rfl, rfl, SqT.of (s1 _ _ ea), rfl, f, ys, y0, rfl, rfl, ef, small_line (by omega), ?_⟩
            refine ⟨ys ++ [y0], rfl, same_upd s1 hf, upd_same, .inl ⟨rfl, ?_, ?_⟩⟩
            · rw [htk, in_not]
              exact hy.snoc sy
            · rw [List.length_append]; show ys.length + 1 ≤ _; omega
          · exact ⟨ys, rfl, s1, ef, .inr ⟨of_decide_eq_false h1, hy, hyl⟩⟩
        · rintro σ2 H2 ⟨ys2, rfl, s2, ef2, hor⟩
          refine ⟨_, rfl, a, _, _, _, rfl, rfl, SqT.of (s2 _ _ ea), at_zero _ _, sm (show 2 ≤ 1000 by decide), fun p hp => ?_⟩
          generalize hH3 : upd H2 p _ = H3
          have t3 : Same H2 H3 := hH3 ▸ same_new hp
          have ep : H3 p = some (.tup [.str "and", .str "or"]) := hH3 ▸ upd_same
          have s3 := s2.trans t3
          refine ⟨p, _, rfl, .inr (SqT.of ep), rfl, rfl, _, rfl, ?_⟩
          rw [if_neg Bool.false_ne_true, in_two]
          refine ifb (fun h1 => ?_) (fun h1 => ?_)
          · have h1 : bothW z = true := h1
            have hnn : z ≠ "not" := fun e => by subst e; exact absurd h1 (by decide)
            obtain ⟨y, rfl, hsh⟩ := formed_one hfs (.inr h1)
            have hsh := hsh h1
            obtain ⟨y0, yr, rfl, sy, hyr⟩ := hrr.cons
            have := hyr.nil
            subst this
            rcases hor with ⟨h2, _⟩ | ⟨_, hy2, hyl2⟩
            · exact absurd h2 hnn
            · match y, hsh, sy, hin, htk with
              | .tuple ks, hsh, sy, hin, htk =>
                obtain ⟨b, zs, rfl, eb, hzs⟩ := sy.tup
                have hk8 : ks.length ≤ 8 := of_decide_eq_true hsh
                have hzl := hzs.len
                refine ⟨_, rfl, .inl ⟨rfl, _, SqL.of (t3 _ _ ef2)⟩, ?_⟩
                refine ⟨_, rfl, a, _, _, _, rfl, rfl, SqT.of (s3 _ _ ea), rfl, f, b, ys2, zs, rfl, rfl, t3 _ _ ef2, s3 _ _ eb, Nat.le_of_lt (small_line (by omega)), ?_⟩
                refine ⟨ys2 ++ zs, _, rfl, same_upd s3 hf, upd_same, ?_, ?_⟩
                · rw [htk, in_both h1]
                  exact hy2.app hzs
                · rw [List.length_append]; omega
          · have h1 : bothW z = false := h1
            rcases hor with ⟨h2, hy2, hyl2⟩ | ⟨h2, hy2, hyl2⟩
            · exact ⟨ys2, _, rfl, s3, t3 _ _ ef2, hy2, hyl2⟩
            · refine ⟨ys2, _, rfl, s3, t3 _ _ ef2, ?_, by omega⟩
              rw [htk, in_none h2 h1, List.append_nil]
              exact hy2
      · rintro σ' H' ⟨ys, k, rfl, s1, ef, hy, _⟩
        refine ⟨ys, k, rfl, s1, ef, ?_⟩
        rw [List.take_of_length_le (by omega)] at hy
        exact hy
    · rintro σ' H' ⟨ys, k, rfl, s1, ef, hy⟩
      exact ⟨_, rfl, q _ _ _ s1 ef (SxAll.same s1 _ hy)⟩
end
end My
set_option Elab.async false
set_option linter.all false
set_option maxRecDepth 100000
set_option maxHeartbeats 4000000
namespace My
open PySem L2
theorem lev_nil (cs : List (Str × Str)) (n p : Nat) : lev cs n p [] = true := by cases n <;> rfl
theorem lev_zero (cs : List (Str × Str)) {p : Nat} {ds : List PyData} (h : 0 < ds.length) : lev cs 0 p ds = false := by
  match ds, h with
  | d :: ds, _ => rfl
theorem lev_succ (cs : List (Str × Str)) {n p : Nat} {ds : List PyData} (h : 0 < ds.length) : lev cs (n + 1) p ds = (decide (p + ds.length ≤ 200) && (ds.all (formedD cs) && lev cs n (p + ds.length) (ds.flatMap inD))) := by
  match ds, h with
  | d :: ds, _ => rfl
def spChk (t : Adr) : Sp := fun vs H Q E => ∃ cx cs x d, vs = [cx, x] ∧ Sx H (.tuple (cs.map cD)) cx ∧ (cs.map Prod.fst).Nodup ∧ Sx H d x ∧ (goodD cs d = true → Q .non H) ∧ (goodD cs d = false → ∀ H', Same H H' → E (.ref t.c_BadSieve) none H')
section
variable {P : Program} {w : World} {K : PySem.W.Frag} {mg : Str → Option Value} {base : Heap} {t : Adr}
theorem ok_check_sieve (T : Txt w K mg t) : FnOk P w K mg base (CXR P w) 6 t.f_check_sieve t.d_check_sieve ["columns", "sieve"] (spChk t) := by
  have G_is_formed : FnOk P w K mg base CX0 5 t.f_is_formed t.d_is_formed ["columns", "thing"] spFormed := ok_is_formed T
  have G_sieves_within : FnOk P w K mg base CX0 1 t.f_sieves_within t.d_sieves_within ["sieves"] spWithin := ok_sieves_within T
  refine FnOk.forget (sp := fun vs H Q E => ∃ cx cs x d, vs = [cx, x] ∧ Sx H (.tuple (cs.map cD)) cx ∧ (cs.map Prod.fst).Nodup ∧ Sx H d x ∧ (goodD cs d = true → ∀ H', Same H H' → Q .non H') ∧ (goodD cs d = false → ∀ H', Same H H' → E (.ref t.c_BadSieve) none H')) ?_ (fun vs H Q E ⟨cx, cs, x, d, e, h1, h2, h3, h4, h5⟩ => ⟨cx, cs, x, d, e, h1, h2, h3, fun z H' s => ⟨H, Fg.all s, h4 z⟩, h5⟩)
  refine T.F_check_sieve.okR sc_check_sieve (fun vs H Q E h => ?_) (fun cdv A outer s H vs Q E hr h => ?_)
  · obtain ⟨cx, cs, x, d, rfl, _⟩ := h
    rfl
  · obtain ⟨cx, cs, x, d, rfl, hc, hn, hx, q, qe⟩ := h
    refine ⟨_, (@pss_cons _ _ _ _ _ (@ps_set _ _ (2) _ _ _ _ sc_check_sieve.nd (by rfl) (by first | exact Or.inl rfl | exact Or.inr rfl) (@pe_lst _ _ _ _ (@pa2 _ _ _ _ _ (@pv _ 1 _ _ (by rfl) (by first | exact Or.inl rfl | exact Or.inr (Or.inl rfl) | exact Or.inr (Or.inr rfl)) (by decide) (by decide)) pa_nil (by rfl))) (by rfl) (by first | exact .inl rfl | exact .inr rfl | assumption)) (@pss_cons _ _ _ _ _ (@ps_set _ _ (3) _ _ _ _ sc_check_sieve.nd (by rfl) (by first | exact Or.inl rfl | exact Or.inr rfl) pe_int (by rfl) (by first | exact .inl rfl | exact .inr rfl | assumption)) (@pss_cons _ _ _ _ _ (@ps_set _ _ (4) _ _ _ _ sc_check_sieve.nd (by rfl) (by first | exact Or.inl rfl | exact Or.inr rfl) pe_int (by rfl) (by first | exact .inl rfl | exact .inr rfl | assumption)) (@pss_one _ _ _ (@ps_while _ _ _ _ _ _ PassesOwn.leaving (@pt_cmpR _ _ _ _ _ _ _ _ op_gt (@pe_callB _ _ _ _ _ _ _ _ _ call_len (by rfl) T.n_len bt_len (@pa2 _ _ _ _ _ (@pv _ 2 _ _ (by rfl) (by first | exact Or.inl rfl | exact Or.inr (Or.inl rfl) | exact Or.inr (Or.inr rfl)) (by decide) (by decide)) pa_nil (by rfl)) (by decide) (by decide) (by rfl) (by rfl)) pe_int (nomark _)) (@pss_cons _ _ _ _ _ (@ps_aug _ _ (3) _ _ _ _ _ _ sc_check_sieve.nd (by rfl) (by first | exact Or.inl rfl | exact Or.inr rfl) pe_int ip_add (by first | exact .inl rfl | exact .inr rfl | assumption)) (@pss_cons _ _ _ _ _ (@ps_aug _ _ (4) _ _ _ _ _ _ sc_check_sieve.nd (by rfl) (by first | exact Or.inl rfl | exact Or.inr rfl) (@pe_callB _ _ _ _ _ _ _ _ _ call_len (by rfl) T.n_len bt_len (@pa2 _ _ _ _ _ (@pv _ 2 _ _ (by rfl) (by first | exact Or.inl rfl | exact Or.inr (Or.inl rfl) | exact Or.inr (Or.inr rfl)) (by decide) (by decide)) pa_nil (by rfl)) (by decide) (by decide) (by rfl) (by rfl)) ip_add (by first | exact .inl rfl | exact .inr rfl | assumption)) (@pss_cons _ _ _ _ _ (@ps_if _ _ _ _ _ _ _ _ (@PW.pt _ _ _ (@pw_or _ _ _ _ _ _ _ (@pt_cmpR _ _ _ _ _ _ _ _ op_gt (@pv _ 3 _ _ (by rfl) (by first | exact Or.inl rfl | exact Or.inr (Or.inl rfl) | exact Or.inr (Or.inr rfl)) (by decide) (by decide)) (@pe_glob _ _ (.int 8) _ _ (by rfl) T.mg_MOST_DEEP ⟨_, rfl⟩ (by decide)) (nomark _)) (@pw_or1 _ _ _ _ (@pt_cmpR _ _ _ _ _ _ _ _ op_gt (@pv _ 4 _ _ (by rfl) (by first | exact Or.inl rfl | exact Or.inr (Or.inl rfl) | exact Or.inr (Or.inr rfl)) (by decide) (by decide)) (@pe_glob _ _ (.int 200) _ _ (by rfl) T.mg_MOST_PARTS ⟨_, rfl⟩ (by decide)) (nomark _))))) (@pss_one _ _ _ (@ps_raise _ _ _ _ _ _ _ _ _ _ leaves_of rfl ⟨T.x_BadSieve⟩ (by rfl) T.mg_BadSieve (@pa2 _ _ _ _ _ pe_str pa_nil (by rfl)) (by decide) (by rfl) (by rfl))) pss_nil) (@pss_cons _ _ _ _ _ (@ps_if _ _ _ _ _ _ _ _ (@pt_not _ _ _ _ (@pt_val _ _ _ (@pe_callB _ _ _ _ _ _ _ _ _ (call_all_list rfl) (by rfl) T.n_all bt_all (@pa2 _ _ _ _ _ (@pe_comp _ (["thing", "columns"]) ([none, some 0]) _ _ _ _ _ _ _ _ _ _ (csc (defScope s_check_sieve) ["columns", "sieve", "level", "deep", "parts"] rfl rfl (by decide +kernel)) rfl (@pi_list _ _ _ _ (@pv _ 2 _ _ (by rfl) (by first | exact Or.inl rfl | exact Or.inr (Or.inl rfl) | exact Or.inr (Or.inr rfl)) (by decide) (by decide))) (fun _ _ _ _ _ => (@pg_name _ _ (0) _ (show (["thing", "columns"] : List Str).Nodup by decide +kernel) (by rfl) (by first | exact Or.inl rfl | exact Or.inr rfl) (by first | exact .inl rfl | exact .inr rfl | assumption))) (gx_name rfl) (fun _ _ _ _ _ => pif_nil) (fun _ _ _ _ _ => (@pe_call _ _ _ _ _ _ _ _ _ _ _ _ _ _ _ _ (G_is_formed.mono (by decide)) hr (by rfl) T.mg_is_formed T.F_is_formed.kp T.b_is_formed .nil pass0 (@pa2 _ _ _ _ _ (@pv _ 1 _ _ (by rfl) (by first | exact Or.inl rfl | exact Or.inr (Or.inl rfl) | exact Or.inr (Or.inr rfl)) (by decide) (by decide)) (@pa2 _ _ _ _ _ (@pv _ 0 _ _ (by rfl) (by first | exact Or.inl rfl | exact Or.inr (Or.inl rfl) | exact Or.inr (Or.inr rfl)) (by decide) (by decide)) pa_nil (by rfl)) (by rfl)) (by decide) (by rfl) (by rfl))) (by intro _; rfl)) pa_nil (by rfl)) (by decide) (by decide) (by rfl) (by rfl)) (by intro _; rfl))) (@pss_one _ _ _ (@ps_raise _ _ _ _ _ _ _ _ _ _ leaves_of rfl ⟨T.x_BadSieve⟩ (by rfl) T.mg_BadSieve (@pa2 _ _ _ _ _ pe_str pa_nil (by rfl)) (by decide) (by rfl) (by rfl))) pss_nil) (@pss_one _ _ _ (@ps_set _ _ (2) _ _ _ _ sc_check_sieve.nd (by rfl) (by first | exact Or.inl rfl | exact Or.inr rfl) (@pe_call _ _ _ _ _ _ _ _ _ _ _ _ _ _ _ _ (G_sieves_within.mono (by decide)) hr (by rfl) T.mg_sieves_within T.F_sieves_within.kp T.b_sieves_within .nil pass0 (@pa2 _ _ _ _ _ (@pv _ 2 _ _ (by rfl) (by first | exact Or.inl rfl | exact Or.inr (Or.inl rfl) | exact Or.inr (Or.inr rfl)) (by decide) (by decide)) pa_nil (by rfl)) (by decide) (by rfl) (by rfl)) (by rfl) (by first | exact .inl rfl | exact .inr rfl | assumption)))))))))))), ?_⟩
    refine ⟨_, rfl, sm (show 1 ≤ 1000 by decide), fun l0 hl0 => ?_⟩
    have t0 : Same H (upd H l0 (.lst [x])) := same_new hl0
    refine rd_while (fun m σ' H' => ∃ l ds xs p, ∃ dp : Int, σ' = [some cx, some x, some (.ref l), some (.int dp), some (.int (p : Nat))] ∧ Same H H' ∧ H' l = some (.lst xs) ∧ SxAll H' ds xs ∧ dp + m = 8 ∧ p ≤ 200 ∧ ds.length ≤ 1600 ∧ lev cs m p ds = goodD cs d)
      8 ⟨l0, [d], [x], 0, 0, rfl, t0, upd_same, sx_cons (Sx.same t0 _ hx) sx_nil, rfl, by omega, by simp, lev_one cs d⟩ ?_ ?_
    · rintro m σ' H' ⟨l, ds, xs, p, dp, rfl, s1, el, hall, hdp, hp, h1600, hlev⟩
      have hl := hall.len
      have lenF : LenV K (.ref l) H' xs.length := .inl ⟨_, SqL.of el, rfl⟩
      refine ⟨_, rfl, _, _, rfl, lenF, _, _, rfl, rfl, _, rfl, ?_⟩
      refine ifb (fun h1 => ?_) (fun h1 => ?_)
      · have h1 : (0 : Int) < ((xs.length : Nat) : Int) := of_decide_eq_true h1
        have hpos : 0 < ds.length := by omega
        refine ⟨_, rfl, _, _, rfl, rfl, ?_⟩
        refine ⟨_, rfl, _, rfl, _, _, rfl, lenF, _, _, rfl, rfl, ?_⟩
        refine ⟨_, rfl, _, _, rfl, rfl, _, rfl, ?_⟩
        refine ifb (fun h2 => ?_) (fun h2 => ?_)
        · have h2 : (8 : Int) < dp + 1 := of_decide_eq_true h2
          have : m = 0 := by omega
          subst this
          rw [lev_zero cs hpos] at hlev
          exact ⟨sm (by decide), qe hlev.symm _ s1⟩
        · have h2 : ¬ (8 : Int) < dp + 1 := of_decide_eq_false h2
          obtain ⟨n, rfl⟩ : ∃ n, m = n + 1 := ⟨m - 1, by omega⟩
          rw [lev_succ cs hpos] at hlev
          refine ⟨_, rfl, _, _, rfl, rfl, _, rfl, ?_⟩
          refine ifb (fun h3 => ?_) (fun h3 => ?_)
          · have h3 : (200 : Int) < ((p : Nat) : Int) + ((xs.length : Nat) : Int) := of_decide_eq_true h3
            rw [decide_eq_false (by omega), Bool.false_and] at hlev
            exact ⟨sm (by decide), qe hlev.symm _ s1⟩
          · have h3 : ¬ (200 : Int) < ((p : Nat) : Int) + ((xs.length : Nat) : Int) := of_decide_eq_false h3
            rw [decide_eq_true (by omega), Bool.true_and] at hlev
            dsimp only [tNext, tSeq, tIfS, tNot, tB]
            refine all_listD (formedD cs) el hall (by omega) (fun R hR => ⟨_, rfl, hR⟩) (fun i xx dd H1 hx1 hd1 t1 R hR => ?_) (fun H2 t2 => ?_)
            · exact ⟨_, rfl, _, rfl, cx, cs, xx, dd, rfl, Sx.same (s1.trans t1) _ hc, hn, Sx.same t1 _ (SxAll.get i hall hx1 hd1), hR H1 (Same.refl _)⟩
            · have s2 := s1.trans t2
              refine ⟨_, rfl, ?_⟩
              refine ifb (fun h4 => ?_) (fun h4 => ?_)
              · have h4 := nt h4
                rw [h4, Bool.false_and] at hlev
                exact ⟨sm (by decide), qe hlev.symm _ s2⟩
              · have h4 := nf h4
                rw [h4, Bool.true_and] at hlev
                refine ⟨_, rfl, l, ds, xs, cs, rfl, t2 _ _ el, SxAll.same t2 _ hall, h4, by omega, fun f ys H3 t3 ef hys => ?_⟩
                refine ⟨n, Nat.lt_succ_self n, f, ds.flatMap inD, ys, p + ds.length, dp + 1, ?_, s2.trans t3, ef, hys, by omega, by omega, ?_, hlev⟩
                · rw [hl]
                  rfl
                · have := flat_len h4
                  omega
      · have h1 : ¬ (0 : Int) < ((xs.length : Nat) : Int) := of_decide_eq_false h1
        have : ds = [] := List.eq_nil_of_length_eq_zero (by omega)
        subst this
        rw [lev_nil] at hlev
        exact q hlev.symm _ s1
    · rintro σ H Q Q' hQ ⟨v, e1, x, n, e2, e3, i, j, e5, e6, b, e7, h⟩
      exact ⟨v, e1, x, n, e2, e3, i, j, e5, e6, b, e7, hQ _ _ h⟩
end
end My
set_option Elab.async false
set_option linter.all false
set_option maxRecDepth 100000
set_option maxHeartbeats 4000000
namespace My
open PySem L2
mutual
/-- data that a draw does not touch: no list of it is a well -/
def okD : PyData → Bool
  | .none | .bool _ | .int _ => true
  | .str z => PyData.strOk z && decide (z.cps.size ≤ 1000)
  | .list ds => decide (ds.length ≤ 1) && okDs ds
  | .tuple ds => decide (ds.length ≤ 900) && okDs ds
  | .dict _ => false
def okDs : List PyData → Bool
  | [] => true
  | d :: ds => okD d && okDs ds
end
theorem okDs_all : ∀ ds : List PyData, okDs ds = ds.all okD
  | [] => by simp only [okDs, List.all_nil]
  | d :: ds => by simp only [okDs, List.all_cons, okDs_all ds]
theorem okD_tup {ds : List PyData} : okD (.tuple ds) = true ↔ ds.length ≤ 900 ∧ ∀ d ∈ ds, okD d = true := by
  simp only [okD, Bool.and_eq_true, decide_eq_true_eq, okDs_all, List.all_eq_true]
mutual
theorem Sx.but3 {l : Addr} {H H' : Hp} (b : But [l] H H') (w : WellAt H l) : ∀ (d : PyData) {v : V}, okD d = true → Sx H d v → Sx H' d v
  | .none, v, _, h => by simpa only [Sx] using h
  | .bool b, v, _, h => by simpa only [Sx] using h
  | .int i, v, _, h => by simpa only [Sx] using h
  | .str z, v, _, h => by simpa only [Sx] using h
  | .list ds, v, f, h => by
    obtain ⟨a, xs, rfl, e, t⟩ := h.lst
    simp only [okD, Bool.and_eq_true, decide_eq_true_eq] at f
    refine sx_lst (b _ _ e fun z => ?_) (SxAll.but3 b w ds f.2 t)
    have z := List.mem_singleton.mp z
    subst z
    obtain ⟨p, q, r, ew⟩ := w
    rw [ew] at e
    cases e
    have h3 : ds.length = 3 := t.len
    have h1 := f.1
    omega
  | .tuple ds, v, f, h => by
    obtain ⟨a, xs, rfl, e, t⟩ := h.tup
    simp only [okD, Bool.and_eq_true, decide_eq_true_eq] at f
    refine sx_tup (b _ _ e fun z => ?_) (SxAll.but3 b w ds f.2 t)
    have z := List.mem_singleton.mp z
    subst z
    obtain ⟨p, q, r, ew⟩ := w
    rw [ew] at e
    cases e
  | .dict l, v, f, h => by simp only [okD] at f; exact absurd f Bool.false_ne_true
theorem SxAll.but3 {l : Addr} {H H' : Hp} (b : But [l] H H') (w : WellAt H l) : ∀ (ds : List PyData) {xs : List V}, okDs ds = true → SxAll H ds xs → SxAll H' ds xs
  | [], xs, _, h => by rw [h.nil]; exact sx_nil
  | d :: ds, xs, f, h => by
    obtain ⟨y, ys, rfl, h1, h2⟩ := h.cons
    simp only [okDs, Bool.and_eq_true] at f
    exact sx_cons (Sx.but3 b w d f.1 h1) (SxAll.but3 b w ds f.2 h2)
end
mutual
theorem okD_lay : ∀ d : PyData, okD d = true → d.canLay0 = true
  | .none, _ => rfl
  | .bool b, _ => rfl
  | .int i, _ => rfl
  | .str z, h => by simp only [okD, Bool.and_eq_true] at h; simp only [PyData.canLay0]; exact h.1
  | .list ds, h => by simp only [okD, Bool.and_eq_true] at h; simp only [PyData.canLay0]; exact okDs_lay ds h.2
  | .tuple ds, h => by simp only [okD, Bool.and_eq_true] at h; simp only [PyData.canLay0]; exact okDs_lay ds h.2
  | .dict l, h => by simp only [okD] at h; exact absurd h Bool.false_ne_true
theorem okDs_lay : ∀ ds : List PyData, okDs ds = true → PyData.canLayAll0 ds = true
  | [], _ => by simp only [PyData.canLayAll0]
  | d :: ds, h => by
    simp only [okDs, Bool.and_eq_true] at h
    simp only [PyData.canLayAll0, okD_lay d h.1, okDs_lay ds h.2, Bool.and_true]
end
/-- a pair begins with a text -/
def headD : PyData → Bool
  | .tuple [.str _, _] => true
  | .tuple [_, _] => false
  | _ => true
/-- .. all the way down -/
def pbD : Nat → PyData → Bool
  | 0, _ => false
  | n + 1, d => headD d && (inD d).all (pbD n)
theorem pb_succ : ∀ {n : Nat} {d : PyData}, pbD n d = true → pbD (n + 1) d = true
  | 0, d, h => absurd h Bool.false_ne_true
  | n + 1, d, h => by
    have h : (headD d && (inD d).all (pbD n)) = true := h
    show (headD d && (inD d).all (pbD (n + 1))) = true
    rw [Bool.and_eq_true] at h ⊢
    exact ⟨h.1, List.all_eq_true.mpr fun e he => pb_succ (List.all_eq_true.mp h.2 e he)⟩
theorem pb_mono {n : Nat} {d : PyData} (h : pbD n d = true) : ∀ m, pbD (n + m) d = true
  | 0 => h
  | m + 1 => pb_succ (pb_mono h m)
theorem word_ok {z : Str} (h : wordV (.str z) = true) : okD (.str z) = true := by
  unfold wordV at h
  dsimp only at h
  rw [Bool.and_eq_true] at h
  simp only [okD, Bool.and_eq_true]
  refine ⟨?_, decide_eq_true (Nat.le_trans (of_decide_eq_true h.1) (by decide))⟩
  unfold PyData.strOk
  rw [← Array.all_toList, List.all_eq_true]
  intro c hc
  have h1 := List.all_eq_true.mp h.2 c hc
  unfold isWrdC at h1
  rw [Bool.and_eq_true] at h1
  have h2 := of_decide_eq_true h1.2
  exact decide_eq_true (by omega)
theorem val_ok {k : Str} {d : PyData} (h : valD k d = true) : okD d = true := by
  cases d with
  | none => simp only [okD]
  | int i => simp only [okD]
  | str z =>
    unfold valD at h
    dsimp only at h
    by_cases e : k = "number"
    · rw [if_pos e] at h; cases h
    · rw [if_neg e] at h; exact word_ok h
  | _ => exact absurd h Bool.false_ne_true
theorem keys_ok : ∀ k ∈ KEYS, okD (.str k) = true := by decide +kernel
theorem name_ok {cs : List (Str × Str)} (hg : Gd cs) {c : Str × Str} (hc : c ∈ cs) : okD (.str c.1) = true := by
  have := NM_facts _ (hg.2.2 c hc).1
  simp only [okD, Bool.and_eq_true]
  exact ⟨this.2, decide_eq_true (by omega)⟩
theorem leaf_ok {cs : List (Str × Str)} (hg : Gd cs) {d : PyData} (h : LeafD cs d) : okD d = true ∧ pbD 2 d = true := by
  have w : ∀ z : Str, z ∈ (["every", "key", "is", "below", "above", "begins"] : List Str) → okD (.str z) = true := by decide +kernel
  rcases h with rfl | ⟨ks, rfl, hl, hk⟩ | ⟨c, v, hc, hp, hv, h⟩
  · exact ⟨by decide +kernel, rfl⟩
  · refine ⟨okD_tup.mpr ⟨by simp, fun d hd => ?_⟩, rfl⟩
    simp only [List.mem_cons, List.not_mem_nil, or_false] at hd
    rcases hd with rfl | rfl
    · exact w _ (by simp)
    · refine okD_tup.mpr ⟨by rw [List.length_map]; omega, fun d hd => ?_⟩
      obtain ⟨k, hk', rfl⟩ := List.mem_map.mp hd
      exact keys_ok k (hk k hk')
  · have e1 := val_ok hv
    have e2 := name_ok hg hc
    have three : ∀ z : Str, okD (.str z) = true → okD (.tuple [.str z, .str c.1, v]) = true := fun z hz => okD_tup.mpr ⟨by simp, fun d hd => by
      simp only [List.mem_cons, List.not_mem_nil, or_false] at hd
      rcases hd with rfl | rfl | rfl
      · exact hz
      · exact e2
      · exact e1⟩
    rcases h with rfl | ⟨_, rfl | rfl | ⟨_, rfl⟩⟩ <;> exact ⟨three _ (w _ (by simp)), rfl⟩
theorem gs_ok {cs : List (Str × Str)} (hg : Gd cs) : ∀ {n : Nat} {d : PyData}, GsD cs n d → okD d = true ∧ pbD (n + 1) d = true
  | 0, _, h => False.elim h
  | n + 1, d, h => by
    rcases h with h | ⟨e, rfl, h⟩ | ⟨o, ds, ho, rfl, hl, h⟩
    · have := leaf_ok hg h
      exact ⟨this.1, by rw [show n + 1 + 1 = 2 + n by omega]; exact pb_mono this.2 n⟩
    · have := gs_ok hg h
      refine ⟨okD_tup.mpr ⟨by simp, fun d hd => ?_⟩, ?_⟩
      · simp only [List.mem_cons, List.not_mem_nil, or_false] at hd
        rcases hd with rfl | rfl
        · decide +kernel
        · exact this.1
      · show (true && ([e] : List PyData).all (pbD (n + 1))) = true
        simp [this.2]
    · refine ⟨okD_tup.mpr ⟨by simp, fun d hd => ?_⟩, ?_⟩
      · simp only [List.mem_cons, List.not_mem_nil, or_false] at hd
        rcases hd with rfl | rfl
        · rcases ho with rfl | rfl <;> decide +kernel
        · exact okD_tup.mpr ⟨by omega, fun d hd => (gs_ok hg (h d hd)).1⟩
      · have e1 : inD (.tuple [.str o, .tuple ds]) = ds := by rcases ho with rfl | rfl <;> rfl
        show (true && (inD (.tuple [.str o, .tuple ds])).all (pbD (n + 1))) = true
        rw [e1, Bool.true_and, List.all_eq_true]
        exact fun d hd => (gs_ok hg (h d hd)).2
end My
set_option Elab.async false
set_option linter.all false
set_option maxRecDepth 100000
set_option maxHeartbeats 4000000
namespace My
open PySem L2
def textD (a b : Int) : PyData → Bool
  | .str z => decide (a ≤ ((z.cps.size : Nat) : Int)) && decide (((z.cps.size : Nat) : Int) ≤ b)
  | _ => false
def spText : Sp := fun vs H Q _ => ∃ x d a b, vs = [x, .int a, .int b] ∧ Sx H d x ∧ Q (.bl (textD a b d)) H
def spLFits : Sp := fun vs H Q _ => ∃ cx cs x z r, vs = [cx, x] ∧ Sx H (.tuple (cs.map cD)) cx ∧ Gd cs ∧ Sx H (.tuple (.str z :: r)) x ∧ leafW z = true ∧ Q (.bl (formedS cs z r)) H
theorem NM_name : ∀ z ∈ NM, nameV (.str z) = true := by decide +kernel
theorem kinds_eq {cs : List (Str × Str)} (hn : (cs.map Prod.fst).Nodup) (y : Str) : ((cs.filter fun c => decide (c.1 = y)).map fun c => V.str c.2) = (cs.lookup y).toList.map V.str := by
  induction cs with
  | nil => rfl
  | cons c r ih =>
    rw [List.map_cons, List.nodup_cons] at hn
    rw [List.filter_cons, List.lookup_cons]
    by_cases e : c.1 = y
    · rw [if_pos (decide_eq_true e)]
      have h1 : (y == c.1) = true := by rw [e]; simp
      rw [h1]
      have h2 : (r.filter fun c => decide (c.1 = y)) = [] := by
        rw [List.filter_eq_nil_iff]
        intro d hd hd2
        have := of_decide_eq_true hd2
        exact hn.1 (by rw [e, ← this]; exact List.mem_map.mpr ⟨d, hd, rfl⟩)
      rw [h2]
      rfl
    · rw [if_neg (by simpa using e)]
      have h1 : (y == c.1) = false := by simpa using fun q : y = c.1 => e q.symm
      rw [h1]
      exact ih hn.2
theorem lk_mem {cs : List (Str × Str)} {y k : Str} (h : cs.lookup y = some k) : (y, k) ∈ cs := by
  induction cs with
  | nil => cases h
  | cons c r ih =>
    rw [List.lookup_cons] at h
    by_cases e : (y == c.1) = true
    · rw [e] at h
      cases h
      have : y = c.1 := by simpa using e
      rw [this]
      exact List.mem_cons_self
    · rw [Bool.eq_false_iff.mpr e] at h
      exact List.mem_cons_of_mem _ (ih h)
theorem kindOf_lk {cs : List (Str × Str)} (hg : Gd cs) (y : Str) : kindOf cs (.str y) = match cs.lookup y with | some k => V.str k | none => .non := by
  unfold kindOf
  dsimp only
  by_cases h : nameV (.str y) = true
  · rw [if_pos h]; all_goals (cases cs.lookup y <;> rfl)
  · rw [if_neg h]
    cases e : cs.lookup y with
    | none => rfl
    | some k => exact absurd (NM_name _ (hg.2.2 _ (lk_mem e)).1) h
theorem formed_leaf {cs : List (Str × Str)} {z : Str} {r : List PyData} (h : leafW z = true) (h2 : r.length ≠ 2) : formedS cs z r = false := by
  cases hf : formedS cs z r with
  | false => rfl
  | true =>
    have := formed_len cs hf
    rw [lk_leaf h] at this
    have := V.int.inj this
    omega
theorem formed_leaf2 {cs : List (Str × Str)} {z : Str} {n v : PyData} (h : leafW z = true) : formedS cs z [n, v] = fitsD cs z n v := by
  show (leafW z && fitsD cs z n v) = _
  rw [h, Bool.true_and]
section
variable {P : Program} {w : World} {K : PySem.W.Frag} {mg : Str → Option Value} {base : Heap} {t : Adr}
theorem ok_is_text (T : Txt w K mg t) : FnOk P w K mg base CX0 1 t.f_l_is_text t.d_l_is_text ["_law_thing", "_law_least", "_law_most"] spText := by
  refine T.F_l_is_text.ok sc_l_is_text (fun vs H Q E h => ?_) (fun cdv A outer s H vs Q E hr h => ?_)
  · obtain ⟨x, d, a, b, rfl, _⟩ := h
    rfl
  · obtain ⟨x, d, a, b, rfl, hx, q⟩ := h
    refine ⟨_, (@pss_one _ _ _ (@ps_ret _ _ _ _ (@pe_and _ _ _ _ _ _ _ (@pe_callB _ _ _ _ _ _ _ _ _ call_isi (by rfl) T.n_isinstance bt_isinstance (@pa2 _ _ _ _ _ (@pv _ 0 _ _ (by rfl) (by first | exact Or.inl rfl | exact Or.inr (Or.inl rfl) | exact Or.inr (Or.inr rfl)) (by decide) (by decide)) (@pa2 _ _ _ _ _ (@pe_bltn _ _ (.ty "str") _ _ (by rfl) T.n_str bt_str rfl (by decide) (by decide)) pa_nil (by rfl)) (by rfl)) (by decide) (by decide) (by rfl) (by rfl)) (@pe_one _ _ _ _ _ (@pe_chain _ _ _ _ _ _ _ _ _ _ _ _ op_le op_le (@pv _ 1 _ _ (by rfl) (by first | exact Or.inl rfl | exact Or.inr (Or.inl rfl) | exact Or.inr (Or.inr rfl)) (by decide) (by decide)) (@pe_callB _ _ _ _ _ _ _ _ _ call_len (by rfl) T.n_len bt_len (@pa2 _ _ _ _ _ (@pv _ 0 _ _ (by rfl) (by first | exact Or.inl rfl | exact Or.inr (Or.inl rfl) | exact Or.inr (Or.inr rfl)) (by decide) (by decide)) pa_nil (by rfl)) (by decide) (by decide) (by rfl) (by rfl)) (@pv _ 2 _ _ (by rfl) (by first | exact Or.inl rfl | exact Or.inr (Or.inl rfl) | exact Or.inr (Or.inr rfl)) (by decide) (by decide)) (by with_unfolding_all rfl)))))), ?_⟩
    refine ⟨_, rfl, _, _, _, _, rfl, isa_str, hx.kd, _, rfl, ?_⟩
    cases d with
    | str z =>
      obtain ⟨rfl, hz⟩ := hx.str
      refine ⟨_, rfl, _, rfl, _, _, rfl, ⟨hz, rfl⟩, _, _, rfl, rfl, _, rfl, ?_⟩
      have q : Q (.bl (decide (a ≤ ((z.cps.size : Nat) : Int)) && decide (((z.cps.size : Nat) : Int) ≤ b))) H := q
      refine ifb (fun h1 => ?_) (fun h1 => ?_)
      · have h1 : decide (a ≤ ((z.cps.size : Nat) : Int)) = true := h1
        rw [h1, Bool.true_and] at q
        exact ⟨_, rfl, _, _, rfl, rfl, q⟩
      · have h1 : decide (a ≤ ((z.cps.size : Nat) : Int)) = false := h1
        rw [h1, Bool.false_and] at q
        exact q
    | _ => exact q
theorem ok_l_is_key (T : Txt w K mg t) : FnOk P w K mg base CX0 2 t.f_l_is_key t.d_l_is_key ["_law_thing"] (spD keyD) := by
  have G_l_is_text : FnOk P w K mg base CX0 1 t.f_l_is_text t.d_l_is_text ["_law_thing", "_law_least", "_law_most"] spText := ok_is_text T
  refine FnOk.forget (sp := fun vs H Q _ => ∃ x d, vs = [x] ∧ Sx H d x ∧ ∀ H', Same H H' → Q (.bl (keyD d)) H') ?_ (fun vs H Q E ⟨x, d, e, a, q⟩ => ⟨x, d, e, a, fun H' s => ⟨H, Fg.all s, q⟩⟩)
  refine T.F_l_is_key.ok sc_l_is_key (fun vs H Q E h => ?_) (fun cdv A outer s H vs Q E hr h => ?_)
  · obtain ⟨x, d, rfl, _⟩ := h
    rfl
  · obtain ⟨x, d, rfl, hx, q⟩ := h
    refine ⟨_, (@pss_cons _ _ _ _ _ (@ps_if _ _ _ _ _ _ _ _ (@PW.pt _ _ _ (@pw_or _ _ _ _ _ _ _ (@pt_not _ _ _ _ (@pt_val _ _ _ (@pe_call _ _ _ _ _ _ _ _ _ _ _ _ _ _ _ _ (G_l_is_text.mono (by decide)) hr (by rfl) T.mg_l_is_text T.F_l_is_text.kp T.b_l_is_text .nil pass0 (@pa2 _ _ _ _ _ (@pv _ 0 _ _ (by rfl) (by first | exact Or.inl rfl | exact Or.inr (Or.inl rfl) | exact Or.inr (Or.inr rfl)) (by decide) (by decide)) (@pa2 _ _ _ _ _ pe_int (@pa2 _ _ _ _ _ pe_int pa_nil (by rfl)) (by rfl)) (by rfl)) (by decide) (by rfl) (by rfl)) (by intro _; rfl))) (@pw_or1 _ _ _ _ (@pt_not _ _ _ _ (@pt_chain _ _ _ _ _ _ _ _ _ _ _ _ op_le_str op_le_str pe_str (@pe_ix _ _ _ _ _ _ _ ix_str (@pv _ 0 _ _ (by rfl) (by first | exact Or.inl rfl | exact Or.inr (Or.inl rfl) | exact Or.inr (Or.inr rfl)) (by decide) (by decide)) pe_int (fun _ _ => rfl)) pe_str (by with_unfolding_all rfl)))))) (@pss_one _ _ _ (@ps_ret _ _ _ _ pe_bl)) pss_nil) (@pss_one _ _ _ (@ps_ret _ _ _ _ (@pe_callB _ _ _ _ _ _ _ _ _ (call_all_list rfl) (by rfl) T.n_all bt_all (@pa2 _ _ _ _ _ (@pe_comp _ (["_law_sign"]) ([none]) _ _ _ _ _ _ _ _ _ _ (csc (defScope s_l_is_key) ["_law_thing"] rfl rfl (by decide +kernel)) rfl (@pi_str _ _ _ _ (@pv _ 0 _ _ (by rfl) (by first | exact Or.inl rfl | exact Or.inr (Or.inl rfl) | exact Or.inr (Or.inr rfl)) (by decide) (by decide))) (fun _ _ _ _ _ => (@pg_name _ _ (0) _ (show (["_law_sign"] : List Str).Nodup by decide +kernel) (by rfl) (by first | exact Or.inl rfl | exact Or.inr rfl) (by first | exact .inl rfl | exact .inr rfl | assumption))) (gx_name rfl) (fun _ _ _ _ _ => pif_nil) (fun _ _ _ _ _ => (@pe_or _ _ _ _ _ _ _ (@pe_chain _ _ _ _ _ _ _ _ _ _ _ _ op_le_str op_le_str pe_str (@pv _ 0 _ _ (by rfl) (by first | exact Or.inl rfl | exact Or.inr (Or.inl rfl) | exact Or.inr (Or.inr rfl)) (by decide) (by decide)) pe_str (by with_unfolding_all rfl)) (@pe_one _ _ _ _ _ (@pe_chain _ _ _ _ _ _ _ _ _ _ _ _ op_le_str op_le_str pe_str (@pv _ 0 _ _ (by rfl) (by first | exact Or.inl rfl | exact Or.inr (Or.inl rfl) | exact Or.inr (Or.inr rfl)) (by decide) (by decide)) pe_str (by with_unfolding_all rfl))))) (by intro _; rfl)) pa_nil (by rfl)) (by decide) (by decide) (by rfl) (by rfl))))), ?_⟩
    refine ⟨_, rfl, x, d, 1, 12, rfl, hx, _, rfl, ?_⟩
    cases d with
    | str z =>
      obtain ⟨rfl, hz⟩ := hx.str
      refine ifb (fun h1 => ?_) (fun h1 => ?_)
      · have h1 : textD 1 12 (.str z) = false := nt h1
        have e : keyD (.str z) = false := by
          cases hk : keyD (.str z) with
          | false => rfl
          | true =>
            have hk : keyV (.str z) = true := hk
            simp only [keyV, Bool.and_eq_true, decide_eq_true_eq] at hk
            simp only [textD, Bool.and_eq_false_iff, decide_eq_false_iff_not] at h1
            omega
        rw [e] at q
        exact q H (Same.refl H)
      · have h1 : textD 1 12 (.str z) = true := nf h1
        simp only [textD, Bool.and_eq_true, decide_eq_true_eq] at h1
        obtain ⟨c, r, ec⟩ := len_pos (z := z) (by omega)
        have e : keyD (.str z) = (isLetC c && z.cps.toList.all fun c => isLetC c || isFigC c) := by
          show keyV (.str z) = _
          simp only [keyV]
          rw [decide_eq_true (by omega : 1 ≤ z.cps.size), decide_eq_true (by omega : z.cps.size ≤ 12), ec]
          rfl
        rw [e] at q
        refine ⟨_, rfl, z, _, c, rfl, rfl, hz, at0 ec, _, _, rfl, rfl, _, rfl, ?_⟩
        have e1 : ∀ c, sLe "a" ⟨#[c]⟩ = decide (97 ≤ c) := fun c => sLe_one 97 c
        have e2 : ∀ c, sLe ⟨#[c]⟩ "z" = decide (c ≤ 122) := fun c => sLe_one c 122
        have e3 : ∀ c, sLe "0" ⟨#[c]⟩ = decide (48 ≤ c) := fun c => sLe_one 48 c
        have e4 : ∀ c, sLe ⟨#[c]⟩ "9" = decide (c ≤ 57) := fun c => sLe_one c 57
        have fin : z.cps.toList.all (fun c => isLetC c || isFigC c) = (z.cps.toList.all fun c => isLetC c || isFigC c) := rfl
        rw [e1]
        unfold isLetC at q
        refine ifb (fun h2 => ?_) (fun h2 => ?_)
        · rw [h2, Bool.true_and] at q
          refine ⟨_, _, rfl, rfl, _, rfl, ?_⟩
          rw [e2]
          refine ifb (fun h3 => ?_) (fun h3 => ?_)
          · rw [nt h3] at q
            exact q H (Same.refl H)
          · rw [nf h3, Bool.true_and] at q
            dsimp only [tNext, tRet]
            refine all_str (fun c => isLetC c || isFigC c) hz (fun R hR => ?_) (fun c hc R hR => ?_) q
            · exact ⟨_, rfl, hR⟩
            · refine ⟨_, rfl, _, _, rfl, rfl, _, rfl, ?_⟩
              rw [e1]
              unfold isLetC isFigC at hR
              refine ifb (fun h4 => ?_) (fun h4 => ?_)
              · rw [h4, Bool.true_and] at hR
                refine ⟨_, _, rfl, rfl, _, rfl, ?_⟩
                rw [e2]
                refine ifb (fun h5 => ?_) (fun h5 => ?_)
                · rw [h5] at hR
                  exact hR
                · rw [h5, Bool.false_or] at hR
                  refine ⟨_, rfl, _, _, rfl, rfl, _, rfl, ?_⟩
                  rw [e3]
                  refine ifb (fun h6 => ?_) (fun h6 => ?_)
                  · rw [h6, Bool.true_and] at hR
                    refine ⟨_, _, rfl, rfl, ?_⟩
                    rw [e4]
                    exact hR
                  · rw [h6, Bool.false_and] at hR
                    exact hR
              · rw [h4, Bool.false_and, Bool.false_or] at hR
                refine ⟨_, rfl, ?_⟩
                refine iteF ⟨_, rfl, _, _, rfl, rfl, _, rfl, ?_⟩
                rw [e3]
                refine ifb (fun h6 => ?_) (fun h6 => ?_)
                · rw [h6, Bool.true_and] at hR
                  refine ⟨_, _, rfl, rfl, ?_⟩
                  rw [e4]
                  exact hR
                · rw [h6, Bool.false_and] at hR
                  exact hR
        · rw [h2, Bool.false_and, Bool.false_and] at q
          exact ⟨_, rfl, q H (Same.refl H)⟩
    | _ => exact q H (Same.refl H)
end
end My
set_option Elab.async false
set_option linter.all false
set_option maxRecDepth 100000
set_option maxHeartbeats 4000000
namespace My
open PySem L2
theorem kd_ok {z : Str} (h : z = "number" ∨ z = "word") : PySem.PyData.strOk z = true := by
  rcases h with rfl | rfl <;> decide +kernel
theorem kinds_eqv (o : Option Str) : PyData.eqv (.list (o.toList.map PyData.str)) (.list []) = o.isNone := by
  cases o <;> simp [PyData.eqv, PyData.eqvAll]
theorem kinds_lay {o : Option Str} (h : ∀ k, o = some k → k = "number" ∨ k = "word") : PyData.canLay0 (.list (o.toList.map PyData.str)) = true := by
  cases o with
  | none => rfl
  | some k =>
    simp only [PyData.canLay0, Option.toList, List.map_cons, List.map_nil, PyData.canLayAll0, Bool.and_true]
    exact kd_ok (h k rfl)
theorem kinds_sx {H : Hp} {o : Option Str} (h : ∀ k, o = some k → k = "number" ∨ k = "word") : SxAll H (o.toList.map PyData.str) (o.toList.map V.str) := by
  cases o with
  | none => exact sx_nil
  | some k => exact sx_cons (sx_str (by rcases h k rfl with rfl | rfl <;> exact sm (by decide))) sx_nil
/-- a test whose answer is known -/
theorem rd_ans {c : TT} {σ : St} {H : Hp} {F : Bool → Hp → Prop} (b : Bool) (h : ∀ R : Bool → Hp → Prop, (∀ H', Same H H' → R b H') → c σ H R) (q : ∀ H', Same H H' → F b H') : c σ H F := h F q
section
variable {P : Program} {w : World} {K : PySem.W.Frag} {mg : Str → Option Value} {base : Heap} {t : Adr}
theorem ok_l_fits (T : Txt w K mg t) : FnOk P w K mg base CX0 2 t.f_l_fits t.d_l_fits ["_law_columns_here", "_law_sieve_here"] spLFits := by
  have G_l_is_text : FnOk P w K mg base CX0 1 t.f_l_is_text t.d_l_is_text ["_law_thing", "_law_least", "_law_most"] spText := ok_is_text T
  refine FnOk.forget (sp := fun vs H Q _ => ∃ cx cs x z r, vs = [cx, x] ∧ Sx H (.tuple (cs.map cD)) cx ∧ Gd cs ∧ Sx H (.tuple (.str z :: r)) x ∧ leafW z = true ∧ ∀ H', Same H H' → Q (.bl (formedS cs z r)) H') ?_ (fun vs H Q E ⟨cx, cs, x, z, r, e, h1, h2, h3, h4, q⟩ => ⟨cx, cs, x, z, r, e, h1, h2, h3, h4, fun H' s => ⟨H, Fg.all s, q⟩⟩)
  refine T.F_l_fits.ok sc_l_fits (fun vs H Q E h => ?_) (fun cdv A outer s H vs Q E hr h => ?_)
  · obtain ⟨cx, cs, x, z, r, rfl, _⟩ := h
    rfl
  · obtain ⟨cx, cs, x, z, r, rfl, hc, hg, hx, hlf, q⟩ := h
    refine ⟨_, (@pss_cons _ _ _ _ _ (@ps_if _ _ _ _ _ _ _ _ (@PW.pt _ _ _ (@pw_or _ _ _ _ _ _ _ (@pt_cmpR _ _ _ _ _ _ _ _ op_ne (@pe_callB _ _ _ _ _ _ _ _ _ call_len (by rfl) T.n_len bt_len (@pa2 _ _ _ _ _ (@pv _ 1 _ _ (by rfl) (by first | exact Or.inl rfl | exact Or.inr (Or.inl rfl) | exact Or.inr (Or.inr rfl)) (by decide) (by decide)) pa_nil (by rfl)) (by decide) (by decide) (by rfl) (by rfl)) pe_int (nomark _)) (@pw_or1 _ _ _ _ (@pt_not _ _ _ _ (@pt_val _ _ _ (@pe_callB _ _ _ _ _ _ _ _ _ call_isi (by rfl) T.n_isinstance bt_isinstance (@pa2 _ _ _ _ _ (@pe_ix _ _ _ _ _ _ _ ix_tup (@pv _ 1 _ _ (by rfl) (by first | exact Or.inl rfl | exact Or.inr (Or.inl rfl) | exact Or.inr (Or.inr rfl)) (by decide) (by decide)) pe_int (fun _ _ => rfl)) (@pa2 _ _ _ _ _ (@pe_bltn _ _ (.ty "str") _ _ (by rfl) T.n_str bt_str rfl (by decide) (by decide)) pa_nil (by rfl)) (by rfl)) (by decide) (by decide) (by rfl) (by rfl)) (by intro _; rfl)))))) (@pss_one _ _ _ (@ps_ret _ _ _ _ pe_bl)) pss_nil) (@pss_cons _ _ _ _ _ (@ps_setcomp _ (["_law_name", "_law_kind", "_law_sieve_here"]) ([none, none, some 1]) _ _ _ _ _ _ _ _ _ _ (2) _ _ _ sc_l_fits.nd (by rfl) rfl (csc (defScope s_l_fits) ["_law_columns_here", "_law_sieve_here", "_law_kinds"] rfl rfl (by decide +kernel)) rfl (@pi_tup _ _ _ _ (@pv _ 0 _ _ (by rfl) (by first | exact Or.inl rfl | exact Or.inr (Or.inl rfl) | exact Or.inr (Or.inr rfl)) (by decide) (by decide))) (fun _ _ _ _ _ => (@pg_tupK _ (K) _ _ _ _ (2) rfl rfl (@pgs_cons _ _ _ _ _ (@pg_name _ _ (0) _ (show (["_law_name", "_law_kind", "_law_sieve_here"] : List Str).Nodup by decide +kernel) (by rfl) (by first | exact Or.inl rfl | exact Or.inr rfl) (by first | exact .inl rfl | exact .inr rfl | assumption)) (@pgs_cons _ _ _ _ _ (@pg_name _ _ (1) _ (show (["_law_name", "_law_kind", "_law_sieve_here"] : List Str).Nodup by decide +kernel) (by rfl) (by first | exact Or.inl rfl | exact Or.inr rfl) (by first | exact .inl rfl | exact .inr rfl | assumption)) pgs_nil (by rfl)) (by rfl)) (by rfl) (by rfl))) (gx_tup2 rfl rfl) (fun _ _ _ _ _ => (@pif_one _ _ _ (@pt_cmpR _ _ _ _ _ _ _ _ op_eq (@pv _ 0 _ _ (by rfl) (by first | exact Or.inl rfl | exact Or.inr (Or.inl rfl) | exact Or.inr (Or.inr rfl)) (by decide) (by decide)) (@pe_ix _ _ _ _ _ _ _ (ix_tupK (K := K) rfl) (@pv _ 2 _ _ (by rfl) (by first | exact Or.inl rfl | exact Or.inr (Or.inl rfl) | exact Or.inr (Or.inr rfl)) (by decide) (by decide)) pe_int (fun _ _ => rfl)) (nomark _)))) (fun _ _ _ _ _ => (@pv _ 1 _ _ (by rfl) (by first | exact Or.inl rfl | exact Or.inr (Or.inl rfl) | exact Or.inr (Or.inr rfl)) (by decide) (by decide))) (by rfl) (by intro _; rfl)) (@pss_cons _ _ _ _ _ (@ps_if _ _ _ _ _ _ _ _ (@PW.pt _ _ _ (@pw_or _ _ _ _ _ _ _ (@pt_cmpR _ _ _ _ _ _ _ _ (op_eqD hr.units) (@pv _ 2 _ _ (by rfl) (by first | exact Or.inl rfl | exact Or.inr (Or.inl rfl) | exact Or.inr (Or.inr rfl)) (by decide) (by decide)) (@pe_lst _ _ _ _ pa_nil) (nomark _)) (@pw_or1 _ _ _ _ (@PW.pt _ _ _ (@pw_and _ _ _ _ _ _ _ (@pt_cmpR _ _ _ _ _ _ _ _ op_eq (@pe_ix _ _ _ _ _ _ _ ix_list (@pv _ 2 _ _ (by rfl) (by first | exact Or.inl rfl | exact Or.inr (Or.inl rfl) | exact Or.inr (Or.inr rfl)) (by decide) (by decide)) pe_int (fun _ _ => rfl)) pe_str (nomark _)) (@pw_and1 _ _ _ _ (@pt_cmpR _ _ _ _ _ _ _ _ op_eq (@pe_ix _ _ _ _ _ _ _ ix_tup (@pv _ 1 _ _ (by rfl) (by first | exact Or.inl rfl | exact Or.inr (Or.inl rfl) | exact Or.inr (Or.inr rfl)) (by decide) (by decide)) pe_int (fun _ _ => rfl)) pe_str (nomark _)))))))) (@pss_one _ _ _ (@ps_ret _ _ _ _ pe_bl)) pss_nil) (@pss_cons _ _ _ _ _ (@ps_if _ _ _ _ _ _ _ _ (@pt_cmpR _ _ _ _ _ _ _ _ op_isN (@pe_ix _ _ _ _ _ _ _ ix_tup (@pv _ 1 _ _ (by rfl) (by first | exact Or.inl rfl | exact Or.inr (Or.inl rfl) | exact Or.inr (Or.inr rfl)) (by decide) (by decide)) pe_int (fun _ _ => rfl)) pe_non (nomark _)) (@pss_one _ _ _ (@ps_ret _ _ _ _ (@pe_cmpR _ _ _ _ _ _ _ _ op_eq (@pe_ix _ _ _ _ _ _ _ ix_tup (@pv _ 1 _ _ (by rfl) (by first | exact Or.inl rfl | exact Or.inr (Or.inl rfl) | exact Or.inr (Or.inr rfl)) (by decide) (by decide)) pe_int (fun _ _ => rfl)) pe_str (nomark _)))) pss_nil) (@pss_cons _ _ _ _ _ (@ps_if _ _ _ _ _ _ _ _ (@pt_cmpR _ _ _ _ _ _ _ _ op_eq (@pe_ix _ _ _ _ _ _ _ ix_list (@pv _ 2 _ _ (by rfl) (by first | exact Or.inl rfl | exact Or.inr (Or.inl rfl) | exact Or.inr (Or.inr rfl)) (by decide) (by decide)) pe_int (fun _ _ => rfl)) pe_str (nomark _)) (@pss_one _ _ _ (@ps_ret _ _ _ _ (@pe_and _ _ _ _ _ _ _ (@pe_callB _ _ _ _ _ _ _ _ _ call_isi (by rfl) T.n_isinstance bt_isinstance (@pa2 _ _ _ _ _ (@pe_ix _ _ _ _ _ _ _ ix_tup (@pv _ 1 _ _ (by rfl) (by first | exact Or.inl rfl | exact Or.inr (Or.inl rfl) | exact Or.inr (Or.inr rfl)) (by decide) (by decide)) pe_int (fun _ _ => rfl)) (@pa2 _ _ _ _ _ (@pe_bltn _ _ (.ty "int") _ _ (by rfl) T.n_int bt_int rfl (by decide) (by decide)) pa_nil (by rfl)) (by rfl)) (by decide) (by decide) (by rfl) (by rfl)) (@pe_one _ _ _ _ _ (@pe_not _ _ _ _ (@pe_callB _ _ _ _ _ _ _ _ _ call_isi (by rfl) T.n_isinstance bt_isinstance (@pa2 _ _ _ _ _ (@pe_ix _ _ _ _ _ _ _ ix_tup (@pv _ 1 _ _ (by rfl) (by first | exact Or.inl rfl | exact Or.inr (Or.inl rfl) | exact Or.inr (Or.inr rfl)) (by decide) (by decide)) pe_int (fun _ _ => rfl)) (@pa2 _ _ _ _ _ (@pe_bltn _ _ (.ty "bool") _ _ (by rfl) T.n_bool bt_bool rfl (by decide) (by decide)) pa_nil (by rfl)) (by rfl)) (by decide) (by decide) (by rfl) (by rfl))))))) pss_nil) (@pss_one _ _ _ (@ps_ret _ _ _ _ (@pe_and _ _ _ _ _ _ _ (@pe_call _ _ _ _ _ _ _ _ _ _ _ _ _ _ _ _ (G_l_is_text.mono (by decide)) hr (by rfl) T.mg_l_is_text T.F_l_is_text.kp T.b_l_is_text .nil pass0 (@pa2 _ _ _ _ _ (@pe_ix _ _ _ _ _ _ _ ix_tup (@pv _ 1 _ _ (by rfl) (by first | exact Or.inl rfl | exact Or.inr (Or.inl rfl) | exact Or.inr (Or.inr rfl)) (by decide) (by decide)) pe_int (fun _ _ => rfl)) (@pa2 _ _ _ _ _ pe_int (@pa2 _ _ _ _ _ pe_int pa_nil (by rfl)) (by rfl)) (by rfl)) (by decide) (by rfl) (by rfl)) (@pe_one _ _ _ _ _ (@pe_callB _ _ _ _ _ _ _ _ _ (call_all_list rfl) (by rfl) T.n_all bt_all (@pa2 _ _ _ _ _ (@pe_comp _ (["_law_sign"]) ([none]) _ _ _ _ _ _ _ _ _ _ (csc (defScope s_l_fits) ["_law_columns_here", "_law_sieve_here", "_law_kinds"] rfl rfl (by decide +kernel)) rfl (@pi_str _ _ _ _ (@pe_ix _ _ _ _ _ _ _ ix_tup (@pv _ 1 _ _ (by rfl) (by first | exact Or.inl rfl | exact Or.inr (Or.inl rfl) | exact Or.inr (Or.inr rfl)) (by decide) (by decide)) pe_int (fun _ _ => rfl))) (fun _ _ _ _ _ => (@pg_name _ _ (0) _ (show (["_law_sign"] : List Str).Nodup by decide +kernel) (by rfl) (by first | exact Or.inl rfl | exact Or.inr rfl) (by first | exact .inl rfl | exact .inr rfl | assumption))) (gx_name rfl) (fun _ _ _ _ _ => pif_nil) (fun _ _ _ _ _ => (@pe_chain _ _ _ _ _ _ _ _ _ _ _ _ op_le_str op_le_str pe_str (@pv _ 0 _ _ (by rfl) (by first | exact Or.inl rfl | exact Or.inr (Or.inl rfl) | exact Or.inr (Or.inr rfl)) (by decide) (by decide)) pe_str (by with_unfolding_all rfl))) (by intro _; rfl)) pa_nil (by rfl)) (by decide) (by decide) (by rfl) (by rfl))))))))))), ?_⟩
    obtain ⟨a, xs, rfl, e, hall⟩ := hx.tup
    have hl := hall.len
    refine ⟨_, rfl, _, xs.length, rfl, .inr ⟨xs, SqT.of e, rfl⟩, rfl, _, rfl, ?_⟩
    refine ifb (fun h1 => ?_) (fun h1 => ?_)
    · have h1 := of_decide_eq_false (nt h1)
      rw [formed_leaf hlf (fun h2 => h1 (by rw [← hl, List.length_cons, h2]; rfl))] at q
      exact q H (Same.refl H)
    · have h1 : V.int ((xs.length : Nat) : Int) = V.int 3 := of_decide_eq_true (nf h1)
      have h2 : xs.length = 3 := by have := V.int.inj h1; omega
      rw [List.length_cons] at hl
      obtain ⟨n, v, rfl⟩ : ∃ n v, r = [n, v] := by
        match r, (show r.length = 2 by omega) with
        | [n, v], _ => exact ⟨n, v, rfl⟩
      rw [formed_leaf2 hlf] at q
      obtain ⟨a', x0, x1, x2, ea, e', s0, s1, s2⟩ := three_at hx
      cases ea
      rw [e] at e'
      cases e'
      obtain ⟨rfl, _⟩ := s0.str
      refine ⟨_, rfl, a, _, _, x1, rfl, rfl, SqT.of e, rfl, _, _, _, _, rfl, isa_str, s1.kd, _, rfl, ?_⟩
      cases n with
      | str y =>
        obtain ⟨rfl, hyz⟩ := s1.str
        obtain ⟨av, cv, rfl, eav, hcl, hcall, hp⟩ := cols_at hc
        have hlk : ∀ k, cs.lookup y = some k → k = "number" ∨ k = "word" := fun k hk => (hg.2.2 _ (lk_mem hk)).2
        refine iteF ?_
        dsimp only [tNext, tSeq, tAsg, gName]
        refine rd_comp_tupF cs (fun c => decide (c.1 = y)) (fun c => .str c.2) (SqT.of eav) hcl.symm (sm (by rw [hcl]; exact Nat.le_trans hg.1 (by decide))) (fun R hR => ⟨_, rfl, hR⟩) (fun i x c e1 e2 R N hR hN => ?_) (fun D hD => ?_)
        · obtain ⟨b, rfl, hb⟩ := hp.2 i x (c.1, .str c.2) e1 (by rw [List.getElem?_map, e2]; rfl)
          refine ⟨b, _, rfl, SqT.of hb, rfl, _, _, rfl, _, _, rfl, rfl, _, rfl, _, rfl, a, _, _, .str y, rfl, rfl, SqT.of e, rfl, rfl, _, rfl, ?_⟩
          refine ifb (fun h => ⟨_, rfl, hR ?_⟩) (fun h => hN ?_)
          · exact decide_eq_true (V.str.inj (of_decide_eq_true h))
          · exact decide_eq_false fun e => of_decide_eq_false h (congrArg V.str e)
        · generalize hH1 : upd H D _ = H1
          have t1 : Same H H1 := hH1 ▸ same_new hD
          have eD : H1 D = some (.lst ((cs.lookup y).toList.map V.str)) := by rw [← hH1, upd_same, kinds_eq hg.2.1]
          have e1 := t1 _ _ e
          have q : ∀ H', Same H H' → Q (.bl (match cs.lookup y with | some k => valD k v && (decide (z = "is") || (!(decide (z = "begins") && !decide (k = "word")) && !isNon v)) | none => false)) H' := fun H' s => by
            have := q H' s
            unfold fitsD at this
            rw [kindOf_lk hg] at this
            cases hk : cs.lookup y with
            | none => rw [hk] at this; exact this
            | some k => rw [hk] at this; exact this
          dsimp only [tIfS]
          refine rd_ans (match cs.lookup y with | some k => decide (k = "number") && decide (z = "begins") | none => true) (fun R hR => ?_) (fun H2 t2 => ?_)
          · refine ⟨_, rfl, sm (show 0 ≤ 1000 by decide), fun D2 hD2 => ?_⟩
            generalize hH2 : upd H1 D2 _ = H2
            have t2 : Same H1 H2 := hH2 ▸ same_new hD2
            have eD2 : H2 D2 = some (.lst []) := hH2 ▸ upd_same
            refine ⟨.list ((cs.lookup y).toList.map .str), .list [], Sx.dt _ (kinds_lay hlk) (sx_lst (t2 _ _ eD) (kinds_sx hlk)), Sx.dt _ rfl (sx_lst eD2 sx_nil), kinds_lay hlk, rfl, .inr (by decide), _, rfl, ?_⟩
            rw [if_neg Bool.false_ne_true, kinds_eqv]
            have e2 := t2 _ _ e1
            have eD' := t2 _ _ eD
            cases hk : cs.lookup y with
            | none =>
              rw [hk] at hR
              exact hR H2 t2
            | some k =>
              rw [hk] at hR eD'
              have hR : R (decide (k = "number") && decide (z = "begins")) H2 := hR H2 t2
              refine iteF ?_
              refine ⟨_, rfl, D, _, _, .str k, rfl, rfl, SqL.of eD', rfl, rfl, _, rfl, ?_⟩
              rw [dec_str]
              refine ifb (fun h3 => ?_) (fun h3 => ?_)
              · rw [h3, Bool.true_and] at hR
                refine ⟨_, rfl, a, _, _, _, rfl, rfl, SqT.of e2, rfl, rfl, _, rfl, ?_⟩
                rw [dec_str]
                exact hR
              · rw [h3, Bool.false_and] at hR
                exact hR
          · have t12 := t1.trans t2
            have e2 := t2 _ _ e1
            have eD' := t2 _ _ eD
            cases hk : cs.lookup y with
            | none =>
              rw [hk] at q
              exact q H2 t12
            | some k =>
              rw [hk] at q eD'
              have hkk := hlk k hk
              dsimp only at q ⊢
              refine ifb (fun h3 => ?_) (fun h3 => ?_)
              · rw [Bool.and_eq_true, decide_eq_true_eq, decide_eq_true_eq] at h3
                obtain ⟨h3, h4⟩ := h3
                have : (valD k v && (decide (z = "is") || (!(decide (z = "begins") && !decide (k = "word")) && !isNon v))) = false := by
                  subst h3 h4
                  rw [show (decide (("begins" : Str) = "is") || (!(decide (("begins" : Str) = "begins") && !decide (("number" : Str) = "word")) && !isNon v)) = false from rfl, Bool.and_false]
                rw [this] at q
                exact q H2 t12
              · have s22 := Sx.same t12 _ s2
                have eb : (decide (z = "begins") && !decide (k = "word")) = false := by
                  rcases hkk with rfl | rfl
                  · rw [decide_eq_true rfl, Bool.true_and] at h3
                    rw [h3]
                    rfl
                  · rw [show (!decide (("word" : Str) = "word")) = false from rfl, Bool.and_false]
                rw [eb] at q
                refine ⟨_, rfl, a, _, _, x2, rfl, rfl, SqT.of e2, rfl, rfl, _, rfl, ?_⟩
                rw [isNon_eq s22]
                cases hv : isNon v with
                | true =>
                  rw [hv] at q
                  have : v = .none := by
                    cases v with
                    | none => rfl
                    | _ => exact absurd hv Bool.false_ne_true
                  subst this
                  refine iteT ?_
                  refine ⟨_, rfl, a, _, _, _, rfl, rfl, SqT.of e2, rfl, rfl, ?_⟩
                  rw [dec_str]
                  have q := q H2 t12
                  rw [show valD k PyData.none = true from rfl, Bool.true_and] at q
                  simpa using q
                | false =>
                  rw [hv, show (!false && !false) = true from rfl, Bool.or_true, Bool.and_true] at q
                  refine iteF ?_
                  refine ⟨_, rfl, D, _, _, .str k, rfl, rfl, SqL.of eD', rfl, rfl, _, rfl, ?_⟩
                  rw [dec_str]
                  refine ifb (fun h4 => ?_) (fun h4 => ?_)
                  · have h4 : k = "number" := of_decide_eq_true h4
                    subst h4
                    refine ⟨_, rfl, a, _, _, x2, rfl, rfl, SqT.of e2, rfl, _, _, _, _, rfl, isa_int, s22.kd, _, rfl, ?_⟩
                    cases v with
                    | int i => exact ⟨_, rfl, a, _, _, x2, rfl, rfl, SqT.of e2, rfl, _, _, _, _, rfl, isa_bool, s22.kd, _, rfl, q H2 t12⟩
                    | bool b => exact ⟨_, rfl, a, _, _, x2, rfl, rfl, SqT.of e2, rfl, _, _, _, _, rfl, isa_bool, s22.kd, _, rfl, q H2 t12⟩
                    | none => exact absurd hv (by decide)
                    | _ => exact q H2 t12
                  · have h4 : k ≠ "number" := of_decide_eq_false h4
                    have h5 : k = "word" := hkk.resolve_left h4
                    subst h5
                    refine ⟨_, rfl, a, _, _, x2, rfl, rfl, SqT.of e2, rfl, x2, v, 0, 40, rfl, s22, _, rfl, ?_⟩
                    cases v with
                    | str u =>
                      obtain ⟨rfl, hu⟩ := s22.str
                      have q : ∀ H', Same H H' → Q (.bl (wordV (.str u))) H' := q
                      refine ifb (fun h6 => ?_) (fun h6 => ?_)
                      · have h6 : textD 0 40 (.str u) = true := h6
                        simp only [textD, Bool.and_eq_true, decide_eq_true_eq] at h6
                        have e7 : wordV (.str u) = u.cps.toList.all isWrdC := by
                          simp only [wordV]
                          rw [decide_eq_true (by omega : u.cps.size ≤ 40)]
                          rfl
                        rw [e7] at q
                        refine all_str isWrdC hu (fun R hR => ?_) (fun c hc R hR => ?_) (fun H' s' => q H' (t12.trans s'))
                        · exact ⟨_, rfl, a, _, _, _, rfl, rfl, SqT.of e2, rfl, hR⟩
                        · refine ⟨_, rfl, _, _, rfl, rfl, _, rfl, ?_⟩
                          have e1 : sLe " " ⟨#[c]⟩ = decide (32 ≤ c) := sLe_one 32 c
                          have e2 : sLe ⟨#[c]⟩ "~" = decide (c ≤ 126) := sLe_one c 126
                          rw [e1]
                          unfold isWrdC at hR
                          cases e : decide (32 ≤ c) with
                          | true =>
                            rw [e] at hR
                            refine ⟨_, _, rfl, rfl, ?_⟩
                            rw [e2]
                            exact hR
                          | false =>
                            rw [e] at hR
                            exact hR
                      · have h6 : textD 0 40 (.str u) = false := h6
                        have e7 : wordV (.str u) = false := by
                          simp only [textD, Bool.and_eq_false_iff, decide_eq_false_iff_not] at h6
                          simp only [wordV, Bool.and_eq_false_iff, decide_eq_false_iff_not]
                          exact .inl (by omega)
                        rw [e7] at q
                        exact q H2 t12
                    | none => exact absurd hv (by decide)
                    | _ => exact q H2 t12
      | _ => exact q H (Same.refl H)
end
end My
set_option Elab.async false
set_option linter.all false
set_option maxRecDepth 100000
set_option maxHeartbeats 4000000
namespace My
open PySem L2
theorem size_no {cs : List (Str × Str)} {n : Nat} {d : PyData} (h : formedD cs d = false) : sizeN cs n d = 0 := by
  rw [size_zero]
  cases n with
  | zero => rfl
  | succ n => show (formedD cs d && _) = false; rw [h, Bool.false_and]
theorem size_leaf {cs : List (Str × Str)} {n : Nat} {d : PyData} (h : inD d = []) : (sizeN cs (n + 1) d : Int) = if formedD cs d then 1 else 0 := by
  cases hf : formedD cs d with
  | false => rw [size_no hf]; rfl
  | true =>
    have e : wfN cs (n + 1) d = true := by show (formedD cs d && (inD d).all _) = true; rw [hf, h]; rfl
    have e2 : szN (n + 1) d = 1 := by show 1 + ((inD d).map _).sum = 1; rw [h]; rfl
    unfold sizeN
    rw [if_pos e, e2]
    rfl
theorem size_in {cs : List (Str × Str)} {n : Nat} {d : PyData} (hf : formedD cs d = true) (h : (((inD d).map fun e => (sizeN cs n e : Int)).any fun i => i == 0) = true) : sizeN cs (n + 1) d = 0 := by
  rw [size_zero]
  show (formedD cs d && (inD d).all (wfN cs n)) = false
  rw [hf, Bool.true_and]
  obtain ⟨i, hi, h0⟩ := List.any_eq_true.mp h
  obtain ⟨e, he, rfl⟩ := List.mem_map.mp hi
  have h0 : sizeN cs n e = 0 := by have : (sizeN cs n e : Int) = 0 := by simpa using h0
                                   omega
  have h1 := (size_zero cs n e).mp h0
  cases ha : (inD d).all (wfN cs n) with
  | false => rfl
  | true => rw [List.all_eq_true.mp ha e he] at h1; cases h1
theorem size_sum {cs : List (Str × Str)} {n : Nat} {d : PyData} (hf : formedD cs d = true) (h : (((inD d).map fun e => (sizeN cs n e : Int)).any fun i => i == 0) = false) : (sizeN cs (n + 1) d : Int) = 1 + ((inD d).map fun e => (sizeN cs n e : Int)).sum := by
  have hw : ∀ e ∈ inD d, wfN cs n e = true := fun e he => by
    cases hh : wfN cs n e with
    | true => rfl
    | false =>
      have h0 := (size_zero cs n e).mpr hh
      have : (((inD d).map fun e => (sizeN cs n e : Int)).any fun i => i == 0) = true := List.any_eq_true.mpr ⟨_, List.mem_map.mpr ⟨e, he, rfl⟩, by rw [h0]; rfl⟩
      rw [this] at h
      cases h
  have e1 : wfN cs (n + 1) d = true := by
    show (formedD cs d && (inD d).all (wfN cs n)) = true
    rw [hf, Bool.true_and]
    exact List.all_eq_true.mpr hw
  have e2 : sizeN cs (n + 1) d = 1 + ((inD d).map (szN n)).sum := by
    unfold sizeN
    rw [if_pos e1]
    rfl
  have e3 : ∀ l : List PyData, (∀ e ∈ l, wfN cs n e = true) → (l.map fun e => (sizeN cs n e : Int)).sum = (((l.map (szN n)).sum : Nat) : Int) := by
    intro l
    induction l with
    | nil => intro _; rfl
    | cons a l ih =>
      intro hl
      rw [List.map_cons, List.sum_cons, List.map_cons, List.sum_cons, ih fun e he => hl e (List.mem_cons_of_mem _ he)]
      have : sizeN cs n a = szN n a := by unfold sizeN; rw [if_pos (hl a List.mem_cons_self)]
      omega
  rw [e2, e3 _ hw]
  omega
theorem eqv_nilT (l : List PyData) : PyData.eqv (.tuple l) (.tuple []) = l.isEmpty := by
  cases l with
  | nil => simp [PyData.eqv, PyData.eqvAll]
  | cons a l => simp [PyData.eqv, PyData.eqvAll]
theorem in_zero (ns : List Int) : inV (.int 0) (ns.map V.int) = ns.any fun i => i == 0 := by
  unfold inV
  rw [List.any_map]
  congr 1
theorem flat_ints (ns : List Int) : (ns.map V.int).all flatV = true := by
  rw [List.all_map, List.all_eq_true]
  intro i _
  rfl
def fourW (z : Str) : Bool := decide (z = "key") || (decide (z = "not") || (decide (z = "and") || decide (z = "or")))
theorem formed_four {cs : List (Str × Str)} {z : Str} {r : List PyData} (h1 : leafW z = false) (h2 : z ≠ "every") (h : formedS cs z r = true) : r.length = 1 ∧ fourW z = true := by
  have hl := formed_len cs h
  by_cases h3 : z = "key"
  · subst h3
    have := V.int.inj ((show (LEN.lookup ("key" : Str)).getD .non = V.int 2 from rfl).symm.trans hl)
    exact ⟨by omega, rfl⟩
  · cases h4 : bothW z with
    | true =>
      have := V.int.inj ((lk_both h4).symm.trans hl)
      refine ⟨by omega, ?_⟩
      unfold bothW at h4
      unfold fourW
      rw [h4, Bool.or_true, Bool.or_true]
    | false =>
      rcases lk_else h1 h3 h4 hl with ⟨e, _⟩ | ⟨e, h5⟩
      · exact absurd e h2
      · subst e
        exact ⟨by omega, rfl⟩
theorem formed_every {cs : List (Str × Str)} {r : List PyData} : formedS cs "every" r = decide (r.length = 0) := by
  match r with
  | [] => rfl
  | [x] => rfl
  | [n, v] => rfl
  | _ :: _ :: _ :: _ => simp [formedS]
def spS (m : Nat) : Sp := fun vs H Q _ => ∃ cx cs x d, ∃ deep : Int, vs = [cx, x, .int deep] ∧ Sx H (.tuple (cs.map cD)) cx ∧ Gd cs ∧ Sx H d x ∧ okD d = true ∧ 1 ≤ deep ∧ deep ≤ 9 ∧ deep + m = 10 ∧ Q (.int (sizeN cs (m - 1) d)) H
theorem rd_cb1 {r : List V → Hp → VK → Prop} {te : TE} {σ : St} {H : Hp} {Q : VK} (h : te σ H fun v H1 => r [v] H1 Q) : tCB r (tCons te tNil) σ H Q := h
section
variable {P : Program} {w : World} {K : PySem.W.Frag} {mg : Str → Option Value} {base : Heap} {t : Adr}
theorem ok_size (T : Txt w K mg t) : ∀ m : Nat, FnOk P w K mg base CX0 (2 + m) t.f_l_size t.d_l_size ["_law_columns_here", "_law_sieve_here", "_law_deep"] (spS m)
  | 0 => fn_false fun vs H Q E h => by
    obtain ⟨cx, cs, x, d, deep, _, _, _, _, _, h1, h2, h3, _⟩ := h
    omega
  | n + 1 => by
    have G_l_fits : FnOk P w K mg base CX0 2 t.f_l_fits t.d_l_fits ["_law_columns_here", "_law_sieve_here"] spLFits := ok_l_fits T
    have G_l_is_key : FnOk P w K mg base CX0 2 t.f_l_is_key t.d_l_is_key ["_law_thing"] (spD keyD) := ok_l_is_key T
    have G_l_size : FnOk P w K mg base CX0 (2 + n) t.f_l_size t.d_l_size ["_law_columns_here", "_law_sieve_here", "_law_deep"] (spS n) := ok_size T n
    refine FnOk.forget (sp := fun vs H Q _ => ∃ cx cs x d, ∃ deep : Int, vs = [cx, x, .int deep] ∧ Sx H (.tuple (cs.map cD)) cx ∧ Gd cs ∧ Sx H d x ∧ okD d = true ∧ 1 ≤ deep ∧ deep ≤ 9 ∧ deep + n = 9 ∧ ∀ H', Same H H' → Q (.int (sizeN cs n d)) H') ?_ (fun vs H Q E ⟨cx, cs, x, d, deep, e, h1, h2, h3, h4, h5, h6, h7, q⟩ => ⟨cx, cs, x, d, deep, e, h1, h2, h3, h4, h5, h6, by omega, fun H' s => ⟨H, Fg.all s, q⟩⟩)
    refine T.F_l_size.ok (k := 2 + n) sc_l_size (fun vs H Q E h => ?_) (fun cdv A outer s H vs Q E hr h => ?_)
    · obtain ⟨cx, cs, x, d, deep, rfl, _⟩ := h
      rfl
    · obtain ⟨cx, cs, x, d, deep, rfl, hc, hg, hx, hok, hd1, hd9, hdn, q⟩ := h
      refine ⟨_, (@pss_cons _ _ _ _ _ (@ps_if _ _ _ _ _ _ _ _ (@PW.pt _ _ _ (@pw_or _ _ _ _ _ _ _ (@pt_not _ _ _ _ (@pt_val _ _ _ (@pe_callB _ _ _ _ _ _ _ _ _ call_isi (by rfl) T.n_isinstance bt_isinstance (@pa2 _ _ _ _ _ (@pv _ 1 _ _ (by rfl) (by first | exact Or.inl rfl | exact Or.inr (Or.inl rfl) | exact Or.inr (Or.inr rfl)) (by decide) (by decide)) (@pa2 _ _ _ _ _ (@pe_bltn _ _ (.ty "tuple") _ _ (by rfl) T.n_tuple bt_tuple rfl (by decide) (by decide)) pa_nil (by rfl)) (by rfl)) (by decide) (by decide) (by rfl) (by rfl)) (by intro _; rfl))) (@pw_or _ _ _ _ _ _ _ (@pt_cmpR _ _ _ _ _ _ _ _ (op_eqD hr.units) (@pv _ 1 _ _ (by rfl) (by first | exact Or.inl rfl | exact Or.inr (Or.inl rfl) | exact Or.inr (Or.inr rfl)) (by decide) (by decide)) (@pe_tup _ _ _ _ _ pa_nil) (nomark _)) (@pw_or _ _ _ _ _ _ _ (@pt_not _ _ _ _ (@pt_val _ _ _ (@pe_callB _ _ _ _ _ _ _ _ _ call_isi (by rfl) T.n_isinstance bt_isinstance (@pa2 _ _ _ _ _ (@pe_ix _ _ _ _ _ _ _ ix_tup (@pv _ 1 _ _ (by rfl) (by first | exact Or.inl rfl | exact Or.inr (Or.inl rfl) | exact Or.inr (Or.inr rfl)) (by decide) (by decide)) pe_int (fun _ _ => rfl)) (@pa2 _ _ _ _ _ (@pe_bltn _ _ (.ty "str") _ _ (by rfl) T.n_str bt_str rfl (by decide) (by decide)) pa_nil (by rfl)) (by rfl)) (by decide) (by decide) (by rfl) (by rfl)) (by intro _; rfl))) (@pw_or1 _ _ _ _ (@pt_cmpR _ _ _ _ _ _ _ _ op_gt (@pv _ 2 _ _ (by rfl) (by first | exact Or.inl rfl | exact Or.inr (Or.inl rfl) | exact Or.inr (Or.inr rfl)) (by decide) (by decide)) pe_int (nomark _))))))) (@pss_one _ _ _ (@ps_ret _ _ _ _ pe_int)) pss_nil) (@pss_cons _ _ _ _ _ (@ps_if _ _ _ _ _ _ _ _ (@pt_cmpR _ _ _ _ _ _ _ _ op_in_seq (@pe_ix _ _ _ _ _ _ _ ix_tup (@pv _ 1 _ _ (by rfl) (by first | exact Or.inl rfl | exact Or.inr (Or.inl rfl) | exact Or.inr (Or.inr rfl)) (by decide) (by decide)) pe_int (fun _ _ => rfl)) (@pe_tup _ _ _ _ _ (@pa2 _ _ _ _ _ pe_str (@pa2 _ _ _ _ _ pe_str (@pa2 _ _ _ _ _ pe_str (@pa2 _ _ _ _ _ pe_str pa_nil (by rfl)) (by rfl)) (by rfl)) (by rfl))) rfl) (@pss_one _ _ _ (@ps_ret _ _ _ _ (@pe_callTy _ _ _ _ _ _ _ _ _ call_int1 (by rfl) T.n_int bt_int (@pa2 _ _ _ _ _ (@pe_call _ _ _ _ _ _ _ _ _ _ _ _ _ _ _ _ (G_l_fits.mono (by omega)) hr (by rfl) T.mg_l_fits T.F_l_fits.kp T.b_l_fits .nil pass0 (@pa2 _ _ _ _ _ (@pv _ 0 _ _ (by rfl) (by first | exact Or.inl rfl | exact Or.inr (Or.inl rfl) | exact Or.inr (Or.inr rfl)) (by decide) (by decide)) (@pa2 _ _ _ _ _ (@pv _ 1 _ _ (by rfl) (by first | exact Or.inl rfl | exact Or.inr (Or.inl rfl) | exact Or.inr (Or.inr rfl)) (by decide) (by decide)) pa_nil (by rfl)) (by rfl)) (by decide) (by rfl) (by rfl)) pa_nil (by rfl)) (by decide) (by decide) (by rfl) (by rfl)))) pss_nil) (@pss_cons _ _ _ _ _ (@ps_if _ _ _ _ _ _ _ _ (@pt_cmpR _ _ _ _ _ _ _ _ op_eq (@pe_ix _ _ _ _ _ _ _ ix_tup (@pv _ 1 _ _ (by rfl) (by first | exact Or.inl rfl | exact Or.inr (Or.inl rfl) | exact Or.inr (Or.inr rfl)) (by decide) (by decide)) pe_int (fun _ _ => rfl)) pe_str (nomark _)) (@pss_one _ _ _ (@ps_ret _ _ _ _ (@pe_callTy _ _ _ _ _ _ _ _ _ call_int1 (by rfl) T.n_int bt_int (@pa2 _ _ _ _ _ (@pe_cmpR _ _ _ _ _ _ _ _ op_eq (@pe_callB _ _ _ _ _ _ _ _ _ call_len (by rfl) T.n_len bt_len (@pa2 _ _ _ _ _ (@pv _ 1 _ _ (by rfl) (by first | exact Or.inl rfl | exact Or.inr (Or.inl rfl) | exact Or.inr (Or.inr rfl)) (by decide) (by decide)) pa_nil (by rfl)) (by decide) (by decide) (by rfl) (by rfl)) pe_int (nomark _)) pa_nil (by rfl)) (by decide) (by decide) (by rfl) (by rfl)))) pss_nil) (@pss_cons _ _ _ _ _ (@ps_if _ _ _ _ _ _ _ _ (@PW.pt _ _ _ (@pw_or _ _ _ _ _ _ _ (@pt_cmpR _ _ _ _ _ _ _ _ op_ne (@pe_callB _ _ _ _ _ _ _ _ _ call_len (by rfl) T.n_len bt_len (@pa2 _ _ _ _ _ (@pv _ 1 _ _ (by rfl) (by first | exact Or.inl rfl | exact Or.inr (Or.inl rfl) | exact Or.inr (Or.inr rfl)) (by decide) (by decide)) pa_nil (by rfl)) (by decide) (by decide) (by rfl) (by rfl)) pe_int (nomark _)) (@pw_or1 _ _ _ _ (@pt_cmpR _ _ _ _ _ _ _ _ op_notIn_seq (@pe_ix _ _ _ _ _ _ _ ix_tup (@pv _ 1 _ _ (by rfl) (by first | exact Or.inl rfl | exact Or.inr (Or.inl rfl) | exact Or.inr (Or.inr rfl)) (by decide) (by decide)) pe_int (fun _ _ => rfl)) (@pe_tup _ _ _ _ _ (@pa2 _ _ _ _ _ pe_str (@pa2 _ _ _ _ _ pe_str (@pa2 _ _ _ _ _ pe_str (@pa2 _ _ _ _ _ pe_str pa_nil (by rfl)) (by rfl)) (by rfl)) (by rfl))) rfl)))) (@pss_one _ _ _ (@ps_ret _ _ _ _ pe_int)) pss_nil) (@pss_cons _ _ _ _ _ (@ps_set _ _ (3) _ _ _ _ sc_l_size.nd (by rfl) (by first | exact Or.inl rfl | exact Or.inr rfl) (@pe_ix _ _ _ _ _ _ _ ix_tup (@pv _ 1 _ _ (by rfl) (by first | exact Or.inl rfl | exact Or.inr (Or.inl rfl) | exact Or.inr (Or.inr rfl)) (by decide) (by decide)) pe_int (fun _ _ => rfl)) (by rfl) (by first | exact .inl rfl | exact .inr rfl | assumption)) (@pss_cons _ _ _ _ _ (@ps_cut _ _ _ (@ps_if _ _ _ _ _ _ _ _ (@pt_cmpR _ _ _ _ _ _ _ _ op_eq (@pe_ix _ _ _ _ _ _ _ ix_tup (@pv _ 1 _ _ (by rfl) (by first | exact Or.inl rfl | exact Or.inr (Or.inl rfl) | exact Or.inr (Or.inr rfl)) (by decide) (by decide)) pe_int (fun _ _ => rfl)) pe_str (nomark _)) (@pss_one _ _ _ (@ps_set _ _ (3) _ _ _ _ sc_l_size.nd (by rfl) (by first | exact Or.inl rfl | exact Or.inr rfl) (@pe_tup _ _ _ _ _ (@pa2 _ _ _ _ _ (@pe_ix _ _ _ _ _ _ _ ix_tup (@pv _ 1 _ _ (by rfl) (by first | exact Or.inl rfl | exact Or.inr (Or.inl rfl) | exact Or.inr (Or.inr rfl)) (by decide) (by decide)) pe_int (fun _ _ => rfl)) pa_nil (by rfl))) (by rfl) (by first | exact .inl rfl | exact .inr rfl | assumption))) pss_nil)) (@pss_cons _ _ _ _ _ (@ps_if _ _ _ _ _ _ _ _ (@PW.pt _ _ _ (@pw_or _ _ _ _ _ _ _ (@pt_not _ _ _ _ (@pt_val _ _ _ (@pe_callB _ _ _ _ _ _ _ _ _ call_isi (by rfl) T.n_isinstance bt_isinstance (@pa2 _ _ _ _ _ (@pv _ 3 _ _ (by rfl) (by first | exact Or.inl rfl | exact Or.inr (Or.inl rfl) | exact Or.inr (Or.inr rfl)) (by decide) (by decide)) (@pa2 _ _ _ _ _ (@pe_bltn _ _ (.ty "tuple") _ _ (by rfl) T.n_tuple bt_tuple rfl (by decide) (by decide)) pa_nil (by rfl)) (by rfl)) (by decide) (by decide) (by rfl) (by rfl)) (by intro _; rfl))) (@pw_or1 _ _ _ _ (@pt_cmpR _ _ _ _ _ _ _ _ op_gt (@pe_callB _ _ _ _ _ _ _ _ _ call_len (by rfl) T.n_len bt_len (@pa2 _ _ _ _ _ (@pv _ 3 _ _ (by rfl) (by first | exact Or.inl rfl | exact Or.inr (Or.inl rfl) | exact Or.inr (Or.inr rfl)) (by decide) (by decide)) pa_nil (by rfl)) (by decide) (by decide) (by rfl) (by rfl)) pe_int (nomark _))))) (@pss_one _ _ _ (@ps_ret _ _ _ _ pe_int)) pss_nil) (@pss_cons _ _ _ _ _ (@ps_if _ _ _ _ _ _ _ _ (@pt_cmpR _ _ _ _ _ _ _ _ op_eq (@pe_ix _ _ _ _ _ _ _ ix_tup (@pv _ 1 _ _ (by rfl) (by first | exact Or.inl rfl | exact Or.inr (Or.inl rfl) | exact Or.inr (Or.inr rfl)) (by decide) (by decide)) pe_int (fun _ _ => rfl)) pe_str (nomark _)) (@pss_one _ _ _ (@ps_ret _ _ _ _ (@pe_callTy _ _ _ _ _ _ _ _ _ call_int1 (by rfl) T.n_int bt_int (@pa2 _ _ _ _ _ (@pe_callB _ _ _ _ _ _ _ _ _ (call_all_list rfl) (by rfl) T.n_all bt_all (@pa2 _ _ _ _ _ (@pe_comp _ (["_law_key_here"]) ([none]) _ _ _ _ _ _ _ _ _ _ (csc (defScope s_l_size) ["_law_columns_here", "_law_sieve_here", "_law_deep", "_law_inner", "_law_sizes"] rfl rfl (by decide +kernel)) rfl (@pi_tup _ _ _ _ (@pv _ 3 _ _ (by rfl) (by first | exact Or.inl rfl | exact Or.inr (Or.inl rfl) | exact Or.inr (Or.inr rfl)) (by decide) (by decide))) (fun _ _ _ _ _ => (@pg_name _ _ (0) _ (show (["_law_key_here"] : List Str).Nodup by decide +kernel) (by rfl) (by first | exact Or.inl rfl | exact Or.inr rfl) (by first | exact .inl rfl | exact .inr rfl | assumption))) (gx_name rfl) (fun _ _ _ _ _ => pif_nil) (fun _ _ _ _ _ => (@pe_call _ _ _ _ _ _ _ _ _ _ _ _ _ _ _ _ (G_l_is_key.mono (by omega)) hr (by rfl) T.mg_l_is_key T.F_l_is_key.kp T.b_l_is_key .nil pass0 (@pa2 _ _ _ _ _ (@pv _ 0 _ _ (by rfl) (by first | exact Or.inl rfl | exact Or.inr (Or.inl rfl) | exact Or.inr (Or.inr rfl)) (by decide) (by decide)) pa_nil (by rfl)) (by decide) (by rfl) (by rfl))) (by intro _; rfl)) pa_nil (by rfl)) (by decide) (by decide) (by rfl) (by rfl)) pa_nil (by rfl)) (by decide) (by decide) (by rfl) (by rfl)))) pss_nil) (@pss_cons _ _ _ _ _ (@ps_setcomp _ (["_law_one", "_law_columns_here", "_law_deep"]) ([none, some 0, some 2]) _ _ _ _ _ _ _ _ _ _ (4) _ _ _ sc_l_size.nd (by rfl) rfl (csc (defScope s_l_size) ["_law_columns_here", "_law_sieve_here", "_law_deep", "_law_inner", "_law_sizes"] rfl rfl (by decide +kernel)) rfl (@pi_tup _ _ _ _ (@pv _ 3 _ _ (by rfl) (by first | exact Or.inl rfl | exact Or.inr (Or.inl rfl) | exact Or.inr (Or.inr rfl)) (by decide) (by decide))) (fun _ _ _ _ _ => (@pg_name _ _ (0) _ (show (["_law_one", "_law_columns_here", "_law_deep"] : List Str).Nodup by decide +kernel) (by rfl) (by first | exact Or.inl rfl | exact Or.inr rfl) (by first | exact .inl rfl | exact .inr rfl | assumption))) (gx_name rfl) (fun _ _ _ _ _ => pif_nil) (fun _ _ _ _ _ => (@pe_call _ _ _ _ _ _ _ _ _ _ _ _ _ _ _ _ (G_l_size.mono (by omega)) hr (by rfl) T.mg_l_size T.F_l_size.kp T.b_l_size .nil pass0 (@pa2 _ _ _ _ _ (@pv _ 1 _ _ (by rfl) (by first | exact Or.inl rfl | exact Or.inr (Or.inl rfl) | exact Or.inr (Or.inr rfl)) (by decide) (by decide)) (@pa2 _ _ _ _ _ (@pv _ 0 _ _ (by rfl) (by first | exact Or.inl rfl | exact Or.inr (Or.inl rfl) | exact Or.inr (Or.inr rfl)) (by decide) (by decide)) (@pa2 _ _ _ _ _ (@pe_op _ _ _ _ _ _ _ _ op_add (@pv _ 2 _ _ (by rfl) (by first | exact Or.inl rfl | exact Or.inr (Or.inl rfl) | exact Or.inr (Or.inr rfl)) (by decide) (by decide)) pe_int) pa_nil (by rfl)) (by rfl)) (by rfl)) (by decide) (by rfl) (by rfl))) (by rfl) (by intro _; rfl)) (@pss_cons _ _ _ _ _ (@ps_if _ _ _ _ _ _ _ _ (@pt_cmpR _ _ _ _ _ _ _ _ op_in_seq pe_int (@pv _ 4 _ _ (by rfl) (by first | exact Or.inl rfl | exact Or.inr (Or.inl rfl) | exact Or.inr (Or.inr rfl)) (by decide) (by decide)) rfl) (@pss_one _ _ _ (@ps_ret _ _ _ _ pe_int)) pss_nil) (@pss_one _ _ _ (@ps_ret _ _ _ _ (@pe_op _ _ _ _ _ _ _ _ op_add pe_int (@pe_callB _ _ _ _ _ _ _ _ _ (call_sumL (K := K) rfl rfl) (by rfl) T.n_sum bt_sum (@pa2 _ _ _ _ _ (@pv _ 4 _ _ (by rfl) (by first | exact Or.inl rfl | exact Or.inr (Or.inl rfl) | exact Or.inr (Or.inr rfl)) (by decide) (by decide)) pa_nil (by rfl)) (by decide) (by decide) (by rfl) (by rfl))))))))))))))), ?_⟩
      have no : ∀ H', Same H H' → formedD cs d = false → Q (.int 0) H' := fun H' s hf => by
        have := q H' s
        rw [size_no hf] at this
        exact this
      refine ⟨_, rfl, _, _, _, _, rfl, isa_tuple, hx.kd, _, rfl, ?_⟩
      cases d with
      | tuple ds =>
        refine iteF ?_
        refine ⟨_, rfl, sm (show 0 ≤ 1000 by decide), fun p0 hp0 => ?_⟩
        generalize hH1 : upd H p0 _ = H1
        have t1 : Same H H1 := hH1 ▸ same_new hp0
        have ep0 : H1 p0 = some (.tup []) := hH1 ▸ upd_same
        have lay := okD_lay _ hok
        refine ⟨.tuple ds, .tuple [], Sx.dt _ lay (Sx.same t1 _ hx), Sx.dt _ rfl (sx_tup ep0 sx_nil), lay, rfl, .inr (by decide), _, rfl, ?_⟩
        rw [if_neg Bool.false_ne_true, eqv_nilT]
        obtain ⟨a, xs, rfl, e, hall⟩ := hx.tup
        have e1 := t1 _ _ e
        cases ds with
        | nil => exact no H1 t1 rfl
        | cons d0 r =>
          refine iteF ?_
          obtain ⟨x0, xr, rfl, s0, hrr⟩ := hall.cons
          refine ⟨_, rfl, a, _, _, x0, rfl, rfl, SqT.of e1, at_zero _ _, _, _, _, _, rfl, isa_str, (Sx.same t1 _ s0).kd, _, rfl, ?_⟩
          cases d0 with
          | str z =>
            obtain ⟨rfl, zz⟩ := s0.str
            refine iteF ?_
            have no : ∀ H', Same H H' → formedS cs z r = false → Q (.int 0) H' := no
            refine ⟨_, rfl, _, _, rfl, rfl, _, rfl, ?_⟩
            refine ifb (fun h1 => ?_) (fun h1 => ?_)
            · have h1 : (8 : Int) < deep := of_decide_eq_true h1
              have : n = 0 := by omega
              subst this
              exact q H1 t1
            · have h1 : ¬ (8 : Int) < deep := of_decide_eq_false h1
              obtain ⟨m, rfl⟩ : ∃ m, n = m + 1 := ⟨n - 1, by omega⟩
              refine ⟨_, rfl, a, _, _, _, rfl, rfl, SqT.of e1, at_zero _ _, sm (show 4 ≤ 1000 by decide), fun p2 hp2 => ?_⟩
              generalize hH2 : upd H1 p2 _ = H2
              have t2 : Same H1 H2 := hH2 ▸ same_new hp2
              have ep2 : H2 p2 = some (.tup [.str "is", .str "below", .str "above", .str "begins"]) := hH2 ▸ upd_same
              refine ⟨p2, _, rfl, .inr (SqT.of ep2), rfl, rfl, _, rfl, ?_⟩
              have e2 := t2 _ _ e1
              have t12 := t1.trans t2
              rw [if_neg Bool.false_ne_true, in_four]
              refine ifb (fun h2 => ?_) (fun h2 => ?_)
              · have h2 : leafW z = true := h2
                refine ⟨_, rfl, _, rfl, cx, cs, .ref a, z, r, rfl, Sx.same t12 _ hc, hg, Sx.same t12 _ hx, h2, .inr ⟨_, rfl, ?_⟩⟩
                have hin : inD (.tuple (.str z :: r)) = [] := in_none (fun h => by subst h; exact absurd h2 (by decide)) (by
                  cases hb : bothW z with
                  | false => rfl
                  | true =>
                    have := (lk_both hb).symm.trans (lk_leaf h2)
                    exact absurd (V.int.inj this) (by decide))
                have := q H2 t12
                rw [size_leaf hin] at this
                exact this
              · have h2 : leafW z = false := h2
                refine ⟨_, rfl, a, _, _, _, rfl, rfl, SqT.of e2, at_zero _ _, rfl, _, rfl, ?_⟩
                rw [dec_str]
                have hrl : xr.length = r.length := hrr.len.symm
                refine ifb (fun h3 => ?_) (fun h3 => ?_)
                · have h3 : z = "every" := of_decide_eq_true h3
                  subst h3
                  refine ⟨_, rfl, _, _, rfl, .inr ⟨_, SqT.of e2, rfl⟩, rfl, .inr ⟨_, rfl, ?_⟩⟩
                  have := q H2 t12
                  rw [size_leaf (in_none (by decide) (by decide)), show formedD cs (.tuple (.str "every" :: r)) = formedS cs "every" r from rfl, formed_every] at this
                  have e3 : decide (V.int (((.str "every" :: xr : List V).length : Nat) : Int) = V.int 1) = decide (r.length = 0) := by
                    by_cases h : r.length = 0
                    · rw [decide_eq_true h, decide_eq_true (by rw [List.length_cons, hrl, h]; rfl)]
                    · rw [decide_eq_false h, decide_eq_false (fun z => h (by have := V.int.inj z; rw [List.length_cons, hrl] at this; omega))]
                  rw [e3]
                  exact this
                · have h3 : z ≠ "every" := of_decide_eq_false h3
                  refine ⟨_, rfl, _, _, rfl, .inr ⟨_, SqT.of e2, rfl⟩, rfl, _, rfl, ?_⟩
                  refine ifb (fun h4 => ?_) (fun h4 => ?_)
                  · have h4 := of_decide_eq_false (nt h4)
                    refine no H2 t12 ?_
                    cases hf : formedS cs z r with
                    | false => rfl
                    | true => exact absurd (by rw [List.length_cons, hrl, (formed_four h2 h3 hf).1]; rfl) h4
                  · have h4 := of_decide_eq_true (nf h4)
                    have hr1 : r.length = 1 := by have := V.int.inj h4; rw [List.length_cons, hrl] at this; omega
                    refine ⟨_, rfl, a, _, _, _, rfl, rfl, SqT.of e2, at_zero _ _, sm (show 4 ≤ 1000 by decide), fun p3 hp3 => ?_⟩
                    generalize hH3 : upd H2 p3 _ = H3
                    have t3 : Same H2 H3 := hH3 ▸ same_new hp3
                    have ep3 : H3 p3 = some (.tup [.str "key", .str "not", .str "and", .str "or"]) := hH3 ▸ upd_same
                    have t13 := t12.trans t3
                    have e3 := t3 _ _ e2
                    refine ⟨p3, _, rfl, .inr (SqT.of ep3), rfl, rfl, _, rfl, ?_⟩
                    rw [if_pos rfl, in_four]
                    refine ifb (fun h5 => ?_) (fun h5 => ?_)
                    · have h5 : fourW z = false := nt h5
                      refine no H3 t13 ?_
                      cases hf : formedS cs z r with
                      | false => rfl
                      | true => rw [(formed_four h2 h3 hf).2] at h5; cases h5
                    · have h5 : fourW z = true := nf h5
                      match r, xr, hr1, q, hrr, no, e3, hok with
                      | [y], xr, _, q, hrr, no, e3, hok =>
                        obtain ⟨x1, xr2, rfl, sy, hys⟩ := hrr.cons
                        have := hys.nil
                        subst this
                        have oky : okD y = true := (okD_tup.mp hok).2 y (by simp)
                        refine ⟨_, rfl, a, _, _, x1, rfl, rfl, SqT.of e3, rfl, ?_⟩
                        refine ⟨fun σ' H' => ∃ v ed, σ' = [some cx, some (.ref a), some (.int deep), some v, none] ∧ Same H H' ∧ Sx H' ed v ∧ okD ed = true ∧ (z = "not" → ed = .tuple [y]) ∧ (z ≠ "not" → ed = y), ?_, ?_⟩
                        · refine ⟨_, rfl, a, _, _, _, rfl, rfl, SqT.of e3, at_zero _ _, rfl, _, rfl, ?_⟩
                          rw [dec_str]
                          refine ifb (fun h6 => ?_) (fun h6 => ?_)
                          · have h6 : z = "not" := of_decide_eq_true h6
                            refine ⟨_, rfl, a, _, _, x1, rfl, rfl, SqT.of e3, rfl, sm (show 1 ≤ 1000 by decide), fun p4 hp4 => ?_⟩
                            have t4 : Same H3 (upd H3 p4 (.tup [x1])) := same_new hp4
                            exact ⟨_, .tuple [y], rfl, t13.trans t4, sx_tup upd_same (sx_cons (Sx.same (t13.trans t4) _ sy) sx_nil), okD_tup.mpr ⟨by simp, fun d hd => by rw [List.mem_singleton.mp hd]; exact oky⟩, fun _ => rfl, fun n => absurd h6 n⟩
                          · have h6 : z ≠ "not" := of_decide_eq_false h6
                            exact ⟨x1, y, rfl, t13, Sx.same t13 _ sy, oky, fun n => absurd n h6, fun _ => rfl⟩
                        · rintro σ' H4 ⟨v, ed, rfl, t4, sv, okv, c1, c2⟩
                          have e4 := t4 _ _ e
                          have hkey : z = "key" → formedS cs z [y] = keysD y := fun h => by subst h; rfl
                          have hboth : z ≠ "key" → z ≠ "not" → bothW z = true ∧ formedS cs z [y] = shortD y := fun h7 h8 => by
                            unfold fourW at h5
                            rw [decide_eq_false h7, decide_eq_false h8, Bool.false_or, Bool.false_or] at h5
                            have h9 : bothW z = true := h5
                            refine ⟨h9, ?_⟩
                            show (if z = "key" then keysD y else if bothW z then shortD y else decide (z = "not")) = _
                            rw [if_neg h7, if_pos h9]
                          have hbad : shortD ed = false → formedS cs z [y] = false := fun h => by
                            by_cases h8 : z = "not"
                            · rw [c1 h8] at h; cases h
                            · rw [c2 h8] at h
                              by_cases h7 : z = "key"
                              · rw [hkey h7]
                                cases y with
                                | tuple ks => show (decide (ks.length ≤ 8) && _) = false; rw [show decide (ks.length ≤ 8) = false from h, Bool.false_and]
                                | _ => rfl
                              · rw [(hboth h7 h8).2]; exact h
                          refine ⟨_, rfl, _, _, _, _, rfl, isa_tuple, sv.kd, _, rfl, ?_⟩
                          cases ed with
                          | tuple ks =>
                            refine iteF ?_
                            obtain ⟨b, ys, rfl, eb, hks⟩ := sv.tup
                            have hkl := hks.len
                            refine ⟨_, rfl, _, _, rfl, .inr ⟨_, SqT.of eb, rfl⟩, _, _, rfl, rfl, _, rfl, ?_⟩
                            refine ifb (fun h6 => ?_) (fun h6 => ?_)
                            · have h6 : (8 : Int) < ((ys.length : Nat) : Int) := of_decide_eq_true h6
                              exact no H4 t4 (hbad (decide_eq_false (by omega)))
                            · have h6 : ¬ (8 : Int) < ((ys.length : Nat) : Int) := of_decide_eq_false h6
                              have hk8 : ks.length ≤ 8 := by omega
                              refine ⟨_, rfl, a, _, _, _, rfl, rfl, SqT.of e4, at_zero _ _, rfl, _, rfl, ?_⟩
                              rw [dec_str]
                              refine ifb (fun h7 => ?_) (fun h7 => ?_)
                              · have h7 : z = "key" := of_decide_eq_true h7
                                subst h7
                                have ey : PyData.tuple ks = y := c2 (by decide)
                                subst ey
                                have e5 : keysD (.tuple ks) = ks.all keyD := by show (decide (ks.length ≤ 8) && _) = _; rw [decide_eq_true hk8, Bool.true_and]
                                dsimp only [tRet]
                                refine rd_cb1 ?_
                                refine all_tup ks keyD (SqT.of eb) hkl (sm (by omega)) (fun R hR => ⟨_, rfl, hR⟩) (fun i xx d h1 h2 R hR => ?_) (fun H5 t5 => ?_)
                                · exact ⟨_, rfl, xx, d, rfl, SxAll.get i hks h1 h2, hR⟩
                                · refine .inr ⟨_, rfl, ?_⟩
                                  have := q H5 (t4.trans t5)
                                  rw [size_leaf (in_none (by decide) (by decide)), show formedD cs (.tuple [.str "key", .tuple ks]) = keysD (.tuple ks) from rfl, e5] at this
                                  exact this
                              · have h7 : z ≠ "key" := of_decide_eq_false h7
                                have hin : inD (.tuple [.str z, y]) = ks ∧ formedD cs (.tuple [.str z, y]) = true := by
                                  by_cases h8 : z = "not"
                                  · subst h8
                                    have := c1 rfl
                                    cases this
                                    exact ⟨rfl, rfl⟩
                                  · have := c2 h8
                                    subst this
                                    obtain ⟨h9, h10⟩ := hboth h7 h8
                                    exact ⟨in_both h9, by show formedS cs z [.tuple ks] = true; rw [h10]; exact decide_eq_true hk8⟩
                                have okks := (okD_tup.mp okv).2
                                dsimp only [tNext, tSeq, tAsg, gName]
                                refine rd_comp_tup ks (fun d => .int (sizeN cs m d)) (SqT.of eb) hkl (sm (by omega)) (fun R hR => ⟨_, rfl, hR⟩) (fun i xx d h1 h2 R hR => ?_) (fun D hD => ?_)
                                · exact ⟨_, rfl, _, rfl, _, rfl, _, _, rfl, rfl, cx, cs, xx, d, deep + 1, rfl, Sx.same t4 _ hc, hg, SxAll.get i hks h1 h2, okks d (List.mem_of_getElem? h2), by omega, by omega, by omega, hR⟩
                                · generalize hH5 : upd H4 D _ = H5
                                  have t5 : Same H4 H5 := hH5 ▸ same_new hD
                                  have eD : H5 D = some (.lst ((ks.map fun d => (sizeN cs m d : Int)).map V.int)) := by rw [← hH5, upd_same, List.map_map]; rfl
                                  have q := q H5 (t4.trans t5)
                                  refine ⟨_, rfl, D, _, rfl, .inl (SqL.of eD), rfl, flat_ints _, _, rfl, ?_⟩
                                  rw [if_neg Bool.false_ne_true, in_zero]
                                  refine ifb (fun h8 => ?_) (fun h8 => ?_)
                                  · rw [size_in hin.2 (by rw [hin.1]; exact h8)] at q
                                    exact q
                                  · rw [size_sum hin.2 (by rw [hin.1]; exact h8), hin.1] at q
                                    exact ⟨_, rfl, D, _, rfl, SqL.of eD, _, _, rfl, rfl, q⟩
                          | _ => exact no H4 t4 (hbad rfl)
          | _ => exact no H1 t1 rfl
      | _ => exact no H (Same.refl H) rfl
end
end My
set_option Elab.async false
set_option linter.all false
set_option maxRecDepth 100000
set_option maxHeartbeats 4000000
namespace My
open PySem L2
def dueV (b : Bool) : V := if b then .non else .str "refused"
def spFound : Sp := fun vs H Q _ => ∃ cx cs x d, vs = [cx, x] ∧ Sx H (.tuple (cs.map cD)) cx ∧ (cs.map Prod.fst).Nodup ∧ Sx H d x ∧ Q (dueV (goodD cs d)) H
section
variable {P : Program} {w : World} {K : PySem.W.Frag} {mg : Str → Option Value} {base : Heap} {t : Adr}
theorem xBad (T : Txt w K mg t) : XC K t.c_BadSieve ∧ XA K t.c_BadSieve := ⟨⟨T.x_BadSieve⟩, ⟨T.ga_BadSieve, T.gh_BadSieve, T.gc_BadSieve⟩⟩
theorem none_of (T : Txt w K mg t) : ∀ its, Vals [.ref t.c_BadColumns, .ref t.c_BadRow, .ref t.c_NoText] its → PySem.W.kitAny K (.ref t.c_BadSieve) its = some false := by
  intro its h
  cases h with
  | cons r1 h =>
    cases h with
    | cons r2 h =>
      cases h with
      | cons r3 h =>
        cases h
        cases r1
        cases r2
        cases r3
        unfold PySem.W.kitAny
        rw [T.k_BadSieve_BadColumns]
        dsimp only
        unfold PySem.W.kitAny
        rw [T.k_BadSieve_BadRow]
        dsimp only
        unfold PySem.W.kitAny
        rw [T.k_BadSieve_NoText]
        rfl
theorem ok_found (T : Txt w K mg t) : FnOk P w K mg base CX0 7 t.f_l_found t.d_l_found ["_law_columns_here", "_law_sieve_here"] spFound := by
  have G_check_sieve : FnOk P w K mg base (CXR P w) 6 t.f_check_sieve t.d_check_sieve ["columns", "sieve"] (spChk t) := ok_check_sieve T
  refine FnOk.forget (sp := fun vs H Q _ => ∃ cx cs x d, vs = [cx, x] ∧ Sx H (.tuple (cs.map cD)) cx ∧ (cs.map Prod.fst).Nodup ∧ Sx H d x ∧ ∀ H', Same H H' → Q (dueV (goodD cs d)) H') ?_ (fun vs H Q E ⟨cx, cs, x, d, e, h1, h2, h3, q⟩ => ⟨cx, cs, x, d, e, h1, h2, h3, fun H' s => ⟨H, Fg.all s, q⟩⟩)
  refine T.F_l_found.ok sc_l_found (fun vs H Q E h => ?_) (fun cdv A outer s H vs Q E hr h => ?_)
  · obtain ⟨cx, cs, x, d, rfl, _⟩ := h
    rfl
  · obtain ⟨cx, cs, x, d, rfl, hc, hn, hx, q⟩ := h
    refine ⟨_, (@pss_cons _ _ _ _ _ (@ps_try _ (2) _ _ _ _ _ _ _ _ _ _ _ rfl rfl sc_l_found.nd (by rfl) rfl (by rfl) T.mg_PageError ⟨T.x_PageError⟩ (@psxs_one _ _ _ (@psx_set _ _ _ _ (3) _ _ sc_l_found.nd (by rfl) (by first | exact Or.inl rfl | exact Or.inr rfl) (@px_call _ _ _ _ _ _ _ _ _ _ _ _ _ _ (G_check_sieve.mono (by decide)) hr (by rfl) T.mg_check_sieve T.F_check_sieve.kp T.b_check_sieve .nil (@pa2 _ _ _ _ _ (@pv _ 0 _ _ (by rfl) (by first | exact Or.inl rfl | exact Or.inr (Or.inl rfl) | exact Or.inr (Or.inr rfl)) (by decide) (by decide)) (@pa2 _ _ _ _ _ (@pv _ 1 _ _ (by rfl) (by first | exact Or.inl rfl | exact Or.inr (Or.inl rfl) | exact Or.inr (Or.inr rfl)) (by decide) (by decide)) pa_nil (by rfl)) (by rfl)) (by decide) (by rfl) (by rfl)) (by rfl) (by first | exact .inl rfl | exact .inr rfl | assumption))) (fun _ => (@pss_cons _ _ _ _ _ (@ps_if _ _ _ _ _ _ _ _ (@PW.pt _ _ _ (@pw_and _ _ _ _ _ _ _ (@pt_val _ _ _ (@pe_callB _ _ _ _ _ _ _ _ _ (call_isinstXK (K := K) rfl) (by rfl) T.n_isinstance bt_isinstance (@pa2 _ _ _ _ _ (@pv _ 2 _ _ (by rfl) (by first | exact Or.inl rfl | exact Or.inr (Or.inl rfl) | exact Or.inr (Or.inr rfl)) (by decide) (by decide)) (@pa2 _ _ _ _ _ (@pe_glob _ _ (.ref t.c_BadSieve) _ _ (by rfl) T.mg_BadSieve rfl (by decide)) pa_nil (by rfl)) (by rfl)) (by decide) (by decide) (by rfl) (by rfl)) (by intro _; rfl)) (@pw_and _ _ _ _ _ _ _ (@pt_val _ _ _ (@pe_callB _ _ _ _ _ _ _ _ _ (call_isinstXK (K := K) rfl) (by rfl) T.n_isinstance bt_isinstance (@pa2 _ _ _ _ _ (@pv _ 2 _ _ (by rfl) (by first | exact Or.inl rfl | exact Or.inr (Or.inl rfl) | exact Or.inr (Or.inr rfl)) (by decide) (by decide)) (@pa2 _ _ _ _ _ (@pe_bltn _ _ (.ty "ValueError") _ _ (by rfl) T.n_ValueError bt_ValueError rfl (by decide) (by decide)) pa_nil (by rfl)) (by rfl)) (by decide) (by decide) (by rfl) (by rfl)) (by intro _; rfl)) (@pw_and1 _ _ _ _ (@pt_not _ _ _ _ (@pt_val _ _ _ (@pe_callB _ _ _ _ _ _ _ _ _ (call_isinstXT (K := K) rfl) (by rfl) T.n_isinstance bt_isinstance (@pa2 _ _ _ _ _ (@pv _ 2 _ _ (by rfl) (by first | exact Or.inl rfl | exact Or.inr (Or.inl rfl) | exact Or.inr (Or.inr rfl)) (by decide) (by decide)) (@pa2 _ _ _ _ _ (@pe_tup _ _ _ _ _ (@pa2 _ _ _ _ _ (@pe_glob _ _ (.ref t.c_BadColumns) _ _ (by rfl) T.mg_BadColumns rfl (by decide)) (@pa2 _ _ _ _ _ (@pe_glob _ _ (.ref t.c_BadRow) _ _ (by rfl) T.mg_BadRow rfl (by decide)) (@pa2 _ _ _ _ _ (@pe_glob _ _ (.ref t.c_NoText) _ _ (by rfl) T.mg_NoText rfl (by decide)) pa_nil (by rfl)) (by rfl)) (by rfl))) pa_nil (by rfl)) (by rfl)) (by decide) (by decide) (by rfl) (by rfl)) (by intro _; rfl))))))) (@pss_one _ _ _ (@ps_ret _ _ _ _ pe_str)) pss_nil) (@pss_one _ _ _ (@ps_ret _ _ _ _ pe_str)))) (by decide)) (@pss_one _ _ _ (@ps_ret _ _ _ _ (@pv _ 3 _ _ (by rfl) (by first | exact Or.inl rfl | exact Or.inr (Or.inl rfl) | exact Or.inr (Or.inr rfl)) (by decide) (by decide))))), ?_⟩
    refine ⟨_, rfl, _, rfl, cx, cs, x, d, rfl, hc, hn, hx, fun hgd => ?_, fun hgd H1 t1 => ?_⟩
    · rw [hgd] at q
      exact ⟨_, rfl, q H (Same.refl H)⟩
    · rw [hgd] at q
      obtain ⟨xc, xa⟩ := xBad T
      refine ⟨_, rfl, T.m_BadSieve_PageError, fun a ha => ?_⟩
      generalize hH : upd H1 a (excO a (.ref t.c_BadSieve)) = H2
      have t2 : Same H1 H2 := hH ▸ same_new ha
      have h2 : H2 a = some (excO a (.ref t.c_BadSieve)) := by rw [← hH, upd_same]
      refine ⟨_, rfl, a, _, _, _, _, rfl, h2, xc, xa, rfl, fun _ r => r, T.k_BadSieve_BadSieve, true, rfl, iteT ?_⟩
      refine ⟨_, rfl, a, _, _, _, _, rfl, h2, xc, xa, rfl, fun _ r => r, T.k_BadSieve_ValueError, true, rfl, iteT ?_⟩
      refine ⟨_, rfl, sm (show 3 ≤ 1000 by decide), fun p hp => ?_⟩
      generalize hH3 : upd H2 p _ = H3
      have t3 : Same H2 H3 := hH3 ▸ same_new hp
      have ep : H3 p = some (.tup [.ref t.c_BadColumns, .ref t.c_BadRow, .ref t.c_NoText]) := hH3 ▸ upd_same
      refine ⟨a, _, p, _, _, rfl, t3 _ _ h2, xc, xa, ep, none_of T, false, rfl, ?_⟩
      exact q H3 ((t1.trans t2).trans t3)
end
end My
set_option Elab.async false
set_option linter.all false
set_option maxRecDepth 100000
set_option maxHeartbeats 4000000
namespace My
open PySem L2
theorem rd_set {te : TE} {rest : TS} {D : Ends} {σ : St} {H : Hp} {i : Nat} {d : PyData} (h : Md te σ H d) (k : ∀ v H2, Same H H2 → Sx H2 d v → rest D (σ.set i (some v)) H2) : tSeq (tAsg te (gName i)) rest D σ H := h H (Same.refl H) _ k
section
variable {σ : St} {H : Hp} {te tb : TE}
theorem mk_mulU {d : PyData} {n : Nat} (h : Md te σ H (.tuple [d])) (k : Md tb σ H (.int (n : Nat))) (h1 : 2 ≤ n) (h2 : n ≤ 1000) : Md (tOp rMulU te tb) σ H (.tuple (List.replicate n d)) := fun H1 s1 R q =>
  h H1 s1 _ fun v H2 s2 hv => k H2 (s1.trans s2) _ fun u H3 s3 hu => by
    obtain ⟨a, xs, rfl, ea, ha⟩ := hv.tup
    obtain ⟨x, ys, rfl, sx, hn⟩ := ha.cons
    have := hn.nil
    subst this
    refine ⟨a, x, (n : Int), rfl, (by simpa only [Sx] using hu), s3 _ _ ea, by omega, by omega, fun z => by omega, fun _ p hp => ?_⟩
    have s4 := same_new (o := .tup (List.replicate (n : Int).toNat x)) hp
    refine q _ _ ((s2.trans s3).trans s4) (sx_tup upd_same ?_)
    have sx4 := Sx.same (s3.trans s4) _ sx
    rw [Int.toNat_natCast]
    have rep : ∀ m : Nat, SxAll (upd H3 p (.tup (List.replicate n x))) (List.replicate m d) (List.replicate m x) := by
      rw [Int.toNat_natCast] at sx4
      intro m
      induction m with
      | zero => exact sx_nil
      | succ m ih => exact sx_cons sx4 ih
    exact rep n
theorem mk_p60 : Md (tOp (rI0 fun i j => .int (i - j)) (tOp (rI CPow fun i j => .int (i ^ j.toNat)) (tC (.int 10)) (tC (.int 60))) (tC (.int 1))) σ H (.int ((10 : Int) ^ (60 : Int).toNat - 1)) := fun H1 s1 R q =>
  ⟨_, _, rfl, rfl, ⟨by decide, by decide, by decide⟩, _, _, rfl, rfl, q _ H1 (Same.refl _) (sx_int _)⟩
end
def bd0 (y : Str) : List PyData := [.none, .int 7, .bool true, .str "every", .list [], .tuple [], .tuple [.str "every", .int 1], .tuple [.str "every", .tuple []], .list [.str "every"], .tuple [.int 1], .tuple [.none, .str y, .int 1], .tuple [.str "all"]]
def bd1 (y : Str) : List PyData := [.tuple [.str "is", .str y], .tuple [.str "is", .str y, .int 1], .tuple [.str "is", .str y, .str "a"], .tuple [.str "is", .str y, .bool true], .tuple [.str "is", .str y, .none]]
def bd2 (y : Str) : List PyData := [.tuple [.str "is", .str y, .int 1, .int 1], .tuple [.str "is", .str "nocolumn", .int 1], .tuple [.str "is", .list [.str y], .int 1], .tuple [.str "is", .none, .none]]
def bd3 (y : Str) : List PyData := [.tuple [.str "below", .str y, .none], .tuple [.str "above", .str y, .int 5], .tuple [.str "above", .str y, .str "a"], .tuple [.str "below", .str y, .bool false]]
def bd4 (y : Str) : List PyData := [.tuple [.str "begins", .str y, .str ""], .tuple [.str "begins", .str y, .int 3], .tuple [.str "begins", .str y, .none], .tuple [.str "begins", .str y, .str "aaaaaaaaaaaaaaaaaaaaaaaaaaaaaaaaaaaaaaaaa"]]
def bd5 (y : Str) : List PyData := [.tuple [.str "is", .str y, .str "aaaaaaaaaaaaaaaaaaaaaaaaaaaaaaaaaaaaaaaa"], .tuple [.str "is", .str y, .str "aaaaaaaaaaaaaaaaaaaaaaaaaaaaaaaaaaaaaaaaa"], .tuple [.str "is", .str y, .str "a\nb"], .tuple [.str "is", .str y, .int ((10 : Int) ^ (60 : Int).toNat - 1)]]
def bd6 (y : Str) : List PyData := [.tuple [.str "key", .tuple [.str "a", .str "b1"]], .tuple [.str "key", .tuple []], .tuple [.str "key", .tuple (List.replicate 8 (.str "a"))], .tuple [.str "key", .tuple (List.replicate 9 (.str "a"))], .tuple [.str "key", .list [.str "a"]]]
def bd7 (y : Str) : List PyData := [.tuple [.str "key", .str "a"], .tuple [.str "key", .tuple [.str "a", .str "1a"]], .tuple [.str "key", .tuple [.str ""]], .tuple [.str "key", .tuple [.str "aaaaaaaaaaaaa"]], .tuple [.str "key", .tuple [.none]]]
def bd8 (y : Str) : List PyData := [.tuple [.str "not"], .tuple [.str "not", .tuple [.str "every"], .tuple [.str "every"]], .tuple [.str "not", .list [.tuple [.str "every"]]], .tuple [.str "and", .tuple [.str "every"]]]
def bd9 (y : Str) : List PyData := [.tuple [.str "and", .list [.tuple [.str "every"]]], .tuple [.str "and", .tuple (List.replicate 8 (.tuple [.str "every"]))], .tuple [.str "or", .tuple (List.replicate 9 (.tuple [.str "every"]))], .tuple [.str "or", .tuple []], .tuple [.str "and"]]
def bd10 (y : Str) : List PyData := [.tuple [.str "and", .tuple [], .tuple []], .tuple [.str "or", .tuple [.tuple [.str "every"], .list [.str "every"]]], .tuple [.str "Is", .str y, .none], .tuple [.str "between", .str y, .int 1]]
def bads (y : Str) : List PyData := ((((((((((bd0 y) ++ bd1 y) ++ bd2 y) ++ bd3 y) ++ bd4 y) ++ bd5 y) ++ bd6 y) ++ bd7 y) ++ bd8 y) ++ bd9 y) ++ bd10 y
theorem bads_len (y : Str) : (bads y).length = 56 := rfl
theorem bads_all : ∀ y ∈ (("zzz" : Str) :: NM), (bads y).all (fun d => okD d && pbD 3 d) = true := by decide +kernel
theorem names_sz : ∀ y ∈ (("zzz" : Str) :: NM), y.cps.size ≤ 1000 := by decide +kernel
theorem bads_ok {y : Str} (h : y ∈ (("zzz" : Str) :: NM)) {d : PyData} (hd : d ∈ bads y) : okD d = true ∧ pbD 3 d = true := by
  have := List.all_eq_true.mp (bads_all y h) d hd
  rwa [Bool.and_eq_true] at this
theorem eqv_cs (cs : List (Str × Str)) : PyData.eqv (.tuple (cs.map cD)) (.tuple []) = cs.isEmpty := by
  rw [eqv_nilT]
  cases cs <;> rfl
def spBad : Sp := fun vs H Q _ => ∃ (l : Addr) (cx : V) (cs : List (Str × Str)), vs = [.ref l, cx] ∧ WellAt H l ∧ Sx H (.tuple (cs.map cD)) cx ∧ Gd cs ∧ ∀ v d H', But [l] H H' → WellAt H' l → okD d = true → pbD 3 d = true → Sx H' d v → Q v H'
section
variable {P : Program} {w : World} {K : PySem.W.Frag} {mg : Str → Option Value} {base : Heap} {t : Adr}
theorem ok_bad (T : Txt w K mg t) : FnOk P w K mg base CX0 2 t.f_l_bad t.d_l_bad ["_law_well_here", "_law_columns_here"] spBad := by
  have G_l_draw : FnOk P w K mg base CX0 1 t.f_l_draw t.d_l_draw ["_law_well_here", "_law_most"] spDraw := ok_draw T
  refine T.F_l_bad.ok sc_l_bad (fun vs H Q E h => ?_) (fun cdv A outer s H vs Q E hr h => ?_)
  · obtain ⟨l, cx, cs, rfl, _⟩ := h
    rfl
  · obtain ⟨l, cx, cs, rfl, hw, hc, hg, q⟩ := h
    refine ⟨_, (@pss_cons _ _ _ _ _ (@ps_set _ _ (2) _ _ _ _ sc_l_bad.nd (by rfl) (by first | exact Or.inl rfl | exact Or.inr rfl) pe_str (by rfl) (by first | exact .inl rfl | exact .inr rfl | assumption)) (@pss_cons _ _ _ _ _ (@ps_cut _ _ _ (@ps_if _ _ _ _ _ _ _ _ (@pt_cmpR _ _ _ _ _ _ _ _ (op_neD hr.units) (@pv _ 1 _ _ (by rfl) (by first | exact Or.inl rfl | exact Or.inr (Or.inl rfl) | exact Or.inr (Or.inr rfl)) (by decide) (by decide)) (@pe_tup _ _ _ _ _ pa_nil) (nomark _)) (@pss_one _ _ _ (@ps_set _ _ (2) _ _ _ _ sc_l_bad.nd (by rfl) (by first | exact Or.inl rfl | exact Or.inr rfl) (@pe_ix _ _ _ _ _ _ _ ix_seq (@pe_ix _ _ _ _ _ _ _ ix_tup (@pv _ 1 _ _ (by rfl) (by first | exact Or.inl rfl | exact Or.inr (Or.inl rfl) | exact Or.inr (Or.inr rfl)) (by decide) (by decide)) (@pe_call _ _ _ _ _ _ _ _ _ _ _ _ _ _ _ _ (G_l_draw.mono (by decide)) hr (by rfl) T.mg_l_draw T.F_l_draw.kp T.b_l_draw .nil pass0 (@pa2 _ _ _ _ _ (@pv _ 0 _ _ (by rfl) (by first | exact Or.inl rfl | exact Or.inr (Or.inl rfl) | exact Or.inr (Or.inr rfl)) (by decide) (by decide)) (@pa2 _ _ _ _ _ (@pe_callB _ _ _ _ _ _ _ _ _ call_len (by rfl) T.n_len bt_len (@pa2 _ _ _ _ _ (@pv _ 1 _ _ (by rfl) (by first | exact Or.inl rfl | exact Or.inr (Or.inl rfl) | exact Or.inr (Or.inr rfl)) (by decide) (by decide)) pa_nil (by rfl)) (by decide) (by decide) (by rfl) (by rfl)) pa_nil (by rfl)) (by rfl)) (by decide) (by rfl) (by rfl)) (fun _ _ => rfl)) pe_int (fun _ _ => rfl)) (by rfl) (by first | exact .inl rfl | exact .inr rfl | assumption))) pss_nil)) (@pss_cons _ _ _ _ _ (@ps_set _ _ (3) _ _ _ _ sc_l_bad.nd (by rfl) (by first | exact Or.inl rfl | exact Or.inr rfl) (@pe_lst _ _ _ _ (@pa2 _ _ _ _ _ pe_non (@pa2 _ _ _ _ _ pe_int (@pa2 _ _ _ _ _ pe_bl (@pa2 _ _ _ _ _ pe_str (@pa2 _ _ _ _ _ (@pe_lst _ _ _ _ pa_nil) (@pa2 _ _ _ _ _ (@pe_tup _ _ _ _ _ pa_nil) (@pa2 _ _ _ _ _ (@pe_tup _ _ _ _ _ (@pa2 _ _ _ _ _ pe_str (@pa2 _ _ _ _ _ pe_int pa_nil (by rfl)) (by rfl))) (@pa2 _ _ _ _ _ (@pe_tup _ _ _ _ _ (@pa2 _ _ _ _ _ pe_str (@pa2 _ _ _ _ _ (@pe_tup _ _ _ _ _ pa_nil) pa_nil (by rfl)) (by rfl))) (@pa2 _ _ _ _ _ (@pe_lst _ _ _ _ (@pa2 _ _ _ _ _ pe_str pa_nil (by rfl))) (@pa2 _ _ _ _ _ (@pe_tup _ _ _ _ _ (@pa2 _ _ _ _ _ pe_int pa_nil (by rfl))) (@pa2 _ _ _ _ _ (@pe_tup _ _ _ _ _ (@pa2 _ _ _ _ _ pe_non (@pa2 _ _ _ _ _ (@pv _ 2 _ _ (by rfl) (by first | exact Or.inl rfl | exact Or.inr (Or.inl rfl) | exact Or.inr (Or.inr rfl)) (by decide) (by decide)) (@pa2 _ _ _ _ _ pe_int pa_nil (by rfl)) (by rfl)) (by rfl))) (@pa2 _ _ _ _ _ (@pe_tup _ _ _ _ _ (@pa2 _ _ _ _ _ pe_str pa_nil (by rfl))) pa_nil (by rfl)) (by rfl)) (by rfl)) (by rfl)) (by rfl)) (by rfl)) (by rfl)) (by rfl)) (by rfl)) (by rfl)) (by rfl)) (by rfl))) (by rfl) (by first | exact .inl rfl | exact .inr rfl | assumption)) (@pss_cons _ _ _ _ _ (@ps_set _ _ (3) _ _ _ _ sc_l_bad.nd (by rfl) (by first | exact Or.inl rfl | exact Or.inr rfl) (@pe_op _ _ _ _ _ _ _ _ op_cat (@pv _ 3 _ _ (by rfl) (by first | exact Or.inl rfl | exact Or.inr (Or.inl rfl) | exact Or.inr (Or.inr rfl)) (by decide) (by decide)) (@pe_lst _ _ _ _ (@pa2 _ _ _ _ _ (@pe_tup _ _ _ _ _ (@pa2 _ _ _ _ _ pe_str (@pa2 _ _ _ _ _ (@pv _ 2 _ _ (by rfl) (by first | exact Or.inl rfl | exact Or.inr (Or.inl rfl) | exact Or.inr (Or.inr rfl)) (by decide) (by decide)) pa_nil (by rfl)) (by rfl))) (@pa2 _ _ _ _ _ (@pe_tup _ _ _ _ _ (@pa2 _ _ _ _ _ pe_str (@pa2 _ _ _ _ _ (@pv _ 2 _ _ (by rfl) (by first | exact Or.inl rfl | exact Or.inr (Or.inl rfl) | exact Or.inr (Or.inr rfl)) (by decide) (by decide)) (@pa2 _ _ _ _ _ pe_int pa_nil (by rfl)) (by rfl)) (by rfl))) (@pa2 _ _ _ _ _ (@pe_tup _ _ _ _ _ (@pa2 _ _ _ _ _ pe_str (@pa2 _ _ _ _ _ (@pv _ 2 _ _ (by rfl) (by first | exact Or.inl rfl | exact Or.inr (Or.inl rfl) | exact Or.inr (Or.inr rfl)) (by decide) (by decide)) (@pa2 _ _ _ _ _ pe_str pa_nil (by rfl)) (by rfl)) (by rfl))) (@pa2 _ _ _ _ _ (@pe_tup _ _ _ _ _ (@pa2 _ _ _ _ _ pe_str (@pa2 _ _ _ _ _ (@pv _ 2 _ _ (by rfl) (by first | exact Or.inl rfl | exact Or.inr (Or.inl rfl) | exact Or.inr (Or.inr rfl)) (by decide) (by decide)) (@pa2 _ _ _ _ _ pe_bl pa_nil (by rfl)) (by rfl)) (by rfl))) (@pa2 _ _ _ _ _ (@pe_tup _ _ _ _ _ (@pa2 _ _ _ _ _ pe_str (@pa2 _ _ _ _ _ (@pv _ 2 _ _ (by rfl) (by first | exact Or.inl rfl | exact Or.inr (Or.inl rfl) | exact Or.inr (Or.inr rfl)) (by decide) (by decide)) (@pa2 _ _ _ _ _ pe_non pa_nil (by rfl)) (by rfl)) (by rfl))) pa_nil (by rfl)) (by rfl)) (by rfl)) (by rfl)) (by rfl)))) (by rfl) (by first | exact .inl rfl | exact .inr rfl | assumption)) (@pss_cons _ _ _ _ _ (@ps_set _ _ (3) _ _ _ _ sc_l_bad.nd (by rfl) (by first | exact Or.inl rfl | exact Or.inr rfl) (@pe_op _ _ _ _ _ _ _ _ op_cat (@pv _ 3 _ _ (by rfl) (by first | exact Or.inl rfl | exact Or.inr (Or.inl rfl) | exact Or.inr (Or.inr rfl)) (by decide) (by decide)) (@pe_lst _ _ _ _ (@pa2 _ _ _ _ _ (@pe_tup _ _ _ _ _ (@pa2 _ _ _ _ _ pe_str (@pa2 _ _ _ _ _ (@pv _ 2 _ _ (by rfl) (by first | exact Or.inl rfl | exact Or.inr (Or.inl rfl) | exact Or.inr (Or.inr rfl)) (by decide) (by decide)) (@pa2 _ _ _ _ _ pe_int (@pa2 _ _ _ _ _ pe_int pa_nil (by rfl)) (by rfl)) (by rfl)) (by rfl))) (@pa2 _ _ _ _ _ (@pe_tup _ _ _ _ _ (@pa2 _ _ _ _ _ pe_str (@pa2 _ _ _ _ _ pe_str (@pa2 _ _ _ _ _ pe_int pa_nil (by rfl)) (by rfl)) (by rfl))) (@pa2 _ _ _ _ _ (@pe_tup _ _ _ _ _ (@pa2 _ _ _ _ _ pe_str (@pa2 _ _ _ _ _ (@pe_lst _ _ _ _ (@pa2 _ _ _ _ _ (@pv _ 2 _ _ (by rfl) (by first | exact Or.inl rfl | exact Or.inr (Or.inl rfl) | exact Or.inr (Or.inr rfl)) (by decide) (by decide)) pa_nil (by rfl))) (@pa2 _ _ _ _ _ pe_int pa_nil (by rfl)) (by rfl)) (by rfl))) (@pa2 _ _ _ _ _ (@pe_tup _ _ _ _ _ (@pa2 _ _ _ _ _ pe_str (@pa2 _ _ _ _ _ pe_non (@pa2 _ _ _ _ _ pe_non pa_nil (by rfl)) (by rfl)) (by rfl))) pa_nil (by rfl)) (by rfl)) (by rfl)) (by rfl)))) (by rfl) (by first | exact .inl rfl | exact .inr rfl | assumption)) (@pss_cons _ _ _ _ _ (@ps_set _ _ (3) _ _ _ _ sc_l_bad.nd (by rfl) (by first | exact Or.inl rfl | exact Or.inr rfl) (@pe_op _ _ _ _ _ _ _ _ op_cat (@pv _ 3 _ _ (by rfl) (by first | exact Or.inl rfl | exact Or.inr (Or.inl rfl) | exact Or.inr (Or.inr rfl)) (by decide) (by decide)) (@pe_lst _ _ _ _ (@pa2 _ _ _ _ _ (@pe_tup _ _ _ _ _ (@pa2 _ _ _ _ _ pe_str (@pa2 _ _ _ _ _ (@pv _ 2 _ _ (by rfl) (by first | exact Or.inl rfl | exact Or.inr (Or.inl rfl) | exact Or.inr (Or.inr rfl)) (by decide) (by decide)) (@pa2 _ _ _ _ _ pe_non pa_nil (by rfl)) (by rfl)) (by rfl))) (@pa2 _ _ _ _ _ (@pe_tup _ _ _ _ _ (@pa2 _ _ _ _ _ pe_str (@pa2 _ _ _ _ _ (@pv _ 2 _ _ (by rfl) (by first | exact Or.inl rfl | exact Or.inr (Or.inl rfl) | exact Or.inr (Or.inr rfl)) (by decide) (by decide)) (@pa2 _ _ _ _ _ pe_int pa_nil (by rfl)) (by rfl)) (by rfl))) (@pa2 _ _ _ _ _ (@pe_tup _ _ _ _ _ (@pa2 _ _ _ _ _ pe_str (@pa2 _ _ _ _ _ (@pv _ 2 _ _ (by rfl) (by first | exact Or.inl rfl | exact Or.inr (Or.inl rfl) | exact Or.inr (Or.inr rfl)) (by decide) (by decide)) (@pa2 _ _ _ _ _ pe_str pa_nil (by rfl)) (by rfl)) (by rfl))) (@pa2 _ _ _ _ _ (@pe_tup _ _ _ _ _ (@pa2 _ _ _ _ _ pe_str (@pa2 _ _ _ _ _ (@pv _ 2 _ _ (by rfl) (by first | exact Or.inl rfl | exact Or.inr (Or.inl rfl) | exact Or.inr (Or.inr rfl)) (by decide) (by decide)) (@pa2 _ _ _ _ _ pe_bl pa_nil (by rfl)) (by rfl)) (by rfl))) pa_nil (by rfl)) (by rfl)) (by rfl)) (by rfl)))) (by rfl) (by first | exact .inl rfl | exact .inr rfl | assumption)) (@pss_cons _ _ _ _ _ (@ps_set _ _ (3) _ _ _ _ sc_l_bad.nd (by rfl) (by first | exact Or.inl rfl | exact Or.inr rfl) (@pe_op _ _ _ _ _ _ _ _ op_cat (@pv _ 3 _ _ (by rfl) (by first | exact Or.inl rfl | exact Or.inr (Or.inl rfl) | exact Or.inr (Or.inr rfl)) (by decide) (by decide)) (@pe_lst _ _ _ _ (@pa2 _ _ _ _ _ (@pe_tup _ _ _ _ _ (@pa2 _ _ _ _ _ pe_str (@pa2 _ _ _ _ _ (@pv _ 2 _ _ (by rfl) (by first | exact Or.inl rfl | exact Or.inr (Or.inl rfl) | exact Or.inr (Or.inr rfl)) (by decide) (by decide)) (@pa2 _ _ _ _ _ pe_str pa_nil (by rfl)) (by rfl)) (by rfl))) (@pa2 _ _ _ _ _ (@pe_tup _ _ _ _ _ (@pa2 _ _ _ _ _ pe_str (@pa2 _ _ _ _ _ (@pv _ 2 _ _ (by rfl) (by first | exact Or.inl rfl | exact Or.inr (Or.inl rfl) | exact Or.inr (Or.inr rfl)) (by decide) (by decide)) (@pa2 _ _ _ _ _ pe_int pa_nil (by rfl)) (by rfl)) (by rfl))) (@pa2 _ _ _ _ _ (@pe_tup _ _ _ _ _ (@pa2 _ _ _ _ _ pe_str (@pa2 _ _ _ _ _ (@pv _ 2 _ _ (by rfl) (by first | exact Or.inl rfl | exact Or.inr (Or.inl rfl) | exact Or.inr (Or.inr rfl)) (by decide) (by decide)) (@pa2 _ _ _ _ _ pe_non pa_nil (by rfl)) (by rfl)) (by rfl))) (@pa2 _ _ _ _ _ (@pe_tup _ _ _ _ _ (@pa2 _ _ _ _ _ pe_str (@pa2 _ _ _ _ _ (@pv _ 2 _ _ (by rfl) (by first | exact Or.inl rfl | exact Or.inr (Or.inl rfl) | exact Or.inr (Or.inr rfl)) (by decide) (by decide)) (@pa2 _ _ _ _ _ (@pe_op _ _ _ _ _ _ _ _ op_mul_str pe_str pe_int) pa_nil (by rfl)) (by rfl)) (by rfl))) pa_nil (by rfl)) (by rfl)) (by rfl)) (by rfl)))) (by rfl) (by first | exact .inl rfl | exact .inr rfl | assumption)) (@pss_cons _ _ _ _ _ (@ps_set _ _ (3) _ _ _ _ sc_l_bad.nd (by rfl) (by first | exact Or.inl rfl | exact Or.inr rfl) (@pe_op _ _ _ _ _ _ _ _ op_cat (@pv _ 3 _ _ (by rfl) (by first | exact Or.inl rfl | exact Or.inr (Or.inl rfl) | exact Or.inr (Or.inr rfl)) (by decide) (by decide)) (@pe_lst _ _ _ _ (@pa2 _ _ _ _ _ (@pe_tup _ _ _ _ _ (@pa2 _ _ _ _ _ pe_str (@pa2 _ _ _ _ _ (@pv _ 2 _ _ (by rfl) (by first | exact Or.inl rfl | exact Or.inr (Or.inl rfl) | exact Or.inr (Or.inr rfl)) (by decide) (by decide)) (@pa2 _ _ _ _ _ (@pe_op _ _ _ _ _ _ _ _ op_mul_str pe_str pe_int) pa_nil (by rfl)) (by rfl)) (by rfl))) (@pa2 _ _ _ _ _ (@pe_tup _ _ _ _ _ (@pa2 _ _ _ _ _ pe_str (@pa2 _ _ _ _ _ (@pv _ 2 _ _ (by rfl) (by first | exact Or.inl rfl | exact Or.inr (Or.inl rfl) | exact Or.inr (Or.inr rfl)) (by decide) (by decide)) (@pa2 _ _ _ _ _ (@pe_op _ _ _ _ _ _ _ _ op_mul_str pe_str pe_int) pa_nil (by rfl)) (by rfl)) (by rfl))) (@pa2 _ _ _ _ _ (@pe_tup _ _ _ _ _ (@pa2 _ _ _ _ _ pe_str (@pa2 _ _ _ _ _ (@pv _ 2 _ _ (by rfl) (by first | exact Or.inl rfl | exact Or.inr (Or.inl rfl) | exact Or.inr (Or.inr rfl)) (by decide) (by decide)) (@pa2 _ _ _ _ _ pe_str pa_nil (by rfl)) (by rfl)) (by rfl))) (@pa2 _ _ _ _ _ (@pe_tup _ _ _ _ _ (@pa2 _ _ _ _ _ pe_str (@pa2 _ _ _ _ _ (@pv _ 2 _ _ (by rfl) (by first | exact Or.inl rfl | exact Or.inr (Or.inl rfl) | exact Or.inr (Or.inr rfl)) (by decide) (by decide)) (@pa2 _ _ _ _ _ (@pe_op _ _ _ _ _ _ _ _ op_sub (@pe_op _ _ _ _ _ _ _ _ op_pow pe_int pe_int) pe_int) pa_nil (by rfl)) (by rfl)) (by rfl))) pa_nil (by rfl)) (by rfl)) (by rfl)) (by rfl)))) (by rfl) (by first | exact .inl rfl | exact .inr rfl | assumption)) (@pss_cons _ _ _ _ _ (@ps_set _ _ (3) _ _ _ _ sc_l_bad.nd (by rfl) (by first | exact Or.inl rfl | exact Or.inr rfl) (@pe_op _ _ _ _ _ _ _ _ op_cat (@pv _ 3 _ _ (by rfl) (by first | exact Or.inl rfl | exact Or.inr (Or.inl rfl) | exact Or.inr (Or.inr rfl)) (by decide) (by decide)) (@pe_lst _ _ _ _ (@pa2 _ _ _ _ _ (@pe_tup _ _ _ _ _ (@pa2 _ _ _ _ _ pe_str (@pa2 _ _ _ _ _ (@pe_tup _ _ _ _ _ (@pa2 _ _ _ _ _ pe_str (@pa2 _ _ _ _ _ pe_str pa_nil (by rfl)) (by rfl))) pa_nil (by rfl)) (by rfl))) (@pa2 _ _ _ _ _ (@pe_tup _ _ _ _ _ (@pa2 _ _ _ _ _ pe_str (@pa2 _ _ _ _ _ (@pe_tup _ _ _ _ _ pa_nil) pa_nil (by rfl)) (by rfl))) (@pa2 _ _ _ _ _ (@pe_tup _ _ _ _ _ (@pa2 _ _ _ _ _ pe_str (@pa2 _ _ _ _ _ (@pe_op _ _ _ _ _ _ _ _ op_mulU (@pe_tup _ _ _ _ _ (@pa2 _ _ _ _ _ pe_str pa_nil (by rfl))) pe_int) pa_nil (by rfl)) (by rfl))) (@pa2 _ _ _ _ _ (@pe_tup _ _ _ _ _ (@pa2 _ _ _ _ _ pe_str (@pa2 _ _ _ _ _ (@pe_op _ _ _ _ _ _ _ _ op_mulU (@pe_tup _ _ _ _ _ (@pa2 _ _ _ _ _ pe_str pa_nil (by rfl))) pe_int) pa_nil (by rfl)) (by rfl))) (@pa2 _ _ _ _ _ (@pe_tup _ _ _ _ _ (@pa2 _ _ _ _ _ pe_str (@pa2 _ _ _ _ _ (@pe_lst _ _ _ _ (@pa2 _ _ _ _ _ pe_str pa_nil (by rfl))) pa_nil (by rfl)) (by rfl))) pa_nil (by rfl)) (by rfl)) (by rfl)) (by rfl)) (by rfl)))) (by rfl) (by first | exact .inl rfl | exact .inr rfl | assumption)) (@pss_cons _ _ _ _ _ (@ps_set _ _ (3) _ _ _ _ sc_l_bad.nd (by rfl) (by first | exact Or.inl rfl | exact Or.inr rfl) (@pe_op _ _ _ _ _ _ _ _ op_cat (@pv _ 3 _ _ (by rfl) (by first | exact Or.inl rfl | exact Or.inr (Or.inl rfl) | exact Or.inr (Or.inr rfl)) (by decide) (by decide)) (@pe_lst _ _ _ _ (@pa2 _ _ _ _ _ (@pe_tup _ _ _ _ _ (@pa2 _ _ _ _ _ pe_str (@pa2 _ _ _ _ _ pe_str pa_nil (by rfl)) (by rfl))) (@pa2 _ _ _ _ _ (@pe_tup _ _ _ _ _ (@pa2 _ _ _ _ _ pe_str (@pa2 _ _ _ _ _ (@pe_tup _ _ _ _ _ (@pa2 _ _ _ _ _ pe_str (@pa2 _ _ _ _ _ pe_str pa_nil (by rfl)) (by rfl))) pa_nil (by rfl)) (by rfl))) (@pa2 _ _ _ _ _ (@pe_tup _ _ _ _ _ (@pa2 _ _ _ _ _ pe_str (@pa2 _ _ _ _ _ (@pe_tup _ _ _ _ _ (@pa2 _ _ _ _ _ pe_str pa_nil (by rfl))) pa_nil (by rfl)) (by rfl))) (@pa2 _ _ _ _ _ (@pe_tup _ _ _ _ _ (@pa2 _ _ _ _ _ pe_str (@pa2 _ _ _ _ _ (@pe_tup _ _ _ _ _ (@pa2 _ _ _ _ _ (@pe_op _ _ _ _ _ _ _ _ op_mul_str pe_str pe_int) pa_nil (by rfl))) pa_nil (by rfl)) (by rfl))) (@pa2 _ _ _ _ _ (@pe_tup _ _ _ _ _ (@pa2 _ _ _ _ _ pe_str (@pa2 _ _ _ _ _ (@pe_tup _ _ _ _ _ (@pa2 _ _ _ _ _ pe_non pa_nil (by rfl))) pa_nil (by rfl)) (by rfl))) pa_nil (by rfl)) (by rfl)) (by rfl)) (by rfl)) (by rfl)))) (by rfl) (by first | exact .inl rfl | exact .inr rfl | assumption)) (@pss_cons _ _ _ _ _ (@ps_set _ _ (3) _ _ _ _ sc_l_bad.nd (by rfl) (by first | exact Or.inl rfl | exact Or.inr rfl) (@pe_op _ _ _ _ _ _ _ _ op_cat (@pv _ 3 _ _ (by rfl) (by first | exact Or.inl rfl | exact Or.inr (Or.inl rfl) | exact Or.inr (Or.inr rfl)) (by decide) (by decide)) (@pe_lst _ _ _ _ (@pa2 _ _ _ _ _ (@pe_tup _ _ _ _ _ (@pa2 _ _ _ _ _ pe_str pa_nil (by rfl))) (@pa2 _ _ _ _ _ (@pe_tup _ _ _ _ _ (@pa2 _ _ _ _ _ pe_str (@pa2 _ _ _ _ _ (@pe_tup _ _ _ _ _ (@pa2 _ _ _ _ _ pe_str pa_nil (by rfl))) (@pa2 _ _ _ _ _ (@pe_tup _ _ _ _ _ (@pa2 _ _ _ _ _ pe_str pa_nil (by rfl))) pa_nil (by rfl)) (by rfl)) (by rfl))) (@pa2 _ _ _ _ _ (@pe_tup _ _ _ _ _ (@pa2 _ _ _ _ _ pe_str (@pa2 _ _ _ _ _ (@pe_lst _ _ _ _ (@pa2 _ _ _ _ _ (@pe_tup _ _ _ _ _ (@pa2 _ _ _ _ _ pe_str pa_nil (by rfl))) pa_nil (by rfl))) pa_nil (by rfl)) (by rfl))) (@pa2 _ _ _ _ _ (@pe_tup _ _ _ _ _ (@pa2 _ _ _ _ _ pe_str (@pa2 _ _ _ _ _ (@pe_tup _ _ _ _ _ (@pa2 _ _ _ _ _ pe_str pa_nil (by rfl))) pa_nil (by rfl)) (by rfl))) pa_nil (by rfl)) (by rfl)) (by rfl)) (by rfl)))) (by rfl) (by first | exact .inl rfl | exact .inr rfl | assumption)) (@pss_cons _ _ _ _ _ (@ps_set _ _ (3) _ _ _ _ sc_l_bad.nd (by rfl) (by first | exact Or.inl rfl | exact Or.inr rfl) (@pe_op _ _ _ _ _ _ _ _ op_cat (@pv _ 3 _ _ (by rfl) (by first | exact Or.inl rfl | exact Or.inr (Or.inl rfl) | exact Or.inr (Or.inr rfl)) (by decide) (by decide)) (@pe_lst _ _ _ _ (@pa2 _ _ _ _ _ (@pe_tup _ _ _ _ _ (@pa2 _ _ _ _ _ pe_str (@pa2 _ _ _ _ _ (@pe_lst _ _ _ _ (@pa2 _ _ _ _ _ (@pe_tup _ _ _ _ _ (@pa2 _ _ _ _ _ pe_str pa_nil (by rfl))) pa_nil (by rfl))) pa_nil (by rfl)) (by rfl))) (@pa2 _ _ _ _ _ (@pe_tup _ _ _ _ _ (@pa2 _ _ _ _ _ pe_str (@pa2 _ _ _ _ _ (@pe_op _ _ _ _ _ _ _ _ op_mulU (@pe_tup _ _ _ _ _ (@pa2 _ _ _ _ _ (@pe_tup _ _ _ _ _ (@pa2 _ _ _ _ _ pe_str pa_nil (by rfl))) pa_nil (by rfl))) pe_int) pa_nil (by rfl)) (by rfl))) (@pa2 _ _ _ _ _ (@pe_tup _ _ _ _ _ (@pa2 _ _ _ _ _ pe_str (@pa2 _ _ _ _ _ (@pe_op _ _ _ _ _ _ _ _ op_mulU (@pe_tup _ _ _ _ _ (@pa2 _ _ _ _ _ (@pe_tup _ _ _ _ _ (@pa2 _ _ _ _ _ pe_str pa_nil (by rfl))) pa_nil (by rfl))) pe_int) pa_nil (by rfl)) (by rfl))) (@pa2 _ _ _ _ _ (@pe_tup _ _ _ _ _ (@pa2 _ _ _ _ _ pe_str (@pa2 _ _ _ _ _ (@pe_tup _ _ _ _ _ pa_nil) pa_nil (by rfl)) (by rfl))) (@pa2 _ _ _ _ _ (@pe_tup _ _ _ _ _ (@pa2 _ _ _ _ _ pe_str pa_nil (by rfl))) pa_nil (by rfl)) (by rfl)) (by rfl)) (by rfl)) (by rfl)))) (by rfl) (by first | exact .inl rfl | exact .inr rfl | assumption)) (@pss_cons _ _ _ _ _ (@ps_set _ _ (3) _ _ _ _ sc_l_bad.nd (by rfl) (by first | exact Or.inl rfl | exact Or.inr rfl) (@pe_op _ _ _ _ _ _ _ _ op_cat (@pv _ 3 _ _ (by rfl) (by first | exact Or.inl rfl | exact Or.inr (Or.inl rfl) | exact Or.inr (Or.inr rfl)) (by decide) (by decide)) (@pe_lst _ _ _ _ (@pa2 _ _ _ _ _ (@pe_tup _ _ _ _ _ (@pa2 _ _ _ _ _ pe_str (@pa2 _ _ _ _ _ (@pe_tup _ _ _ _ _ pa_nil) (@pa2 _ _ _ _ _ (@pe_tup _ _ _ _ _ pa_nil) pa_nil (by rfl)) (by rfl)) (by rfl))) (@pa2 _ _ _ _ _ (@pe_tup _ _ _ _ _ (@pa2 _ _ _ _ _ pe_str (@pa2 _ _ _ _ _ (@pe_tup _ _ _ _ _ (@pa2 _ _ _ _ _ (@pe_tup _ _ _ _ _ (@pa2 _ _ _ _ _ pe_str pa_nil (by rfl))) (@pa2 _ _ _ _ _ (@pe_lst _ _ _ _ (@pa2 _ _ _ _ _ pe_str pa_nil (by rfl))) pa_nil (by rfl)) (by rfl))) pa_nil (by rfl)) (by rfl))) (@pa2 _ _ _ _ _ (@pe_tup _ _ _ _ _ (@pa2 _ _ _ _ _ pe_str (@pa2 _ _ _ _ _ (@pv _ 2 _ _ (by rfl) (by first | exact Or.inl rfl | exact Or.inr (Or.inl rfl) | exact Or.inr (Or.inr rfl)) (by decide) (by decide)) (@pa2 _ _ _ _ _ pe_non pa_nil (by rfl)) (by rfl)) (by rfl))) (@pa2 _ _ _ _ _ (@pe_tup _ _ _ _ _ (@pa2 _ _ _ _ _ pe_str (@pa2 _ _ _ _ _ (@pv _ 2 _ _ (by rfl) (by first | exact Or.inl rfl | exact Or.inr (Or.inl rfl) | exact Or.inr (Or.inr rfl)) (by decide) (by decide)) (@pa2 _ _ _ _ _ pe_int pa_nil (by rfl)) (by rfl)) (by rfl))) pa_nil (by rfl)) (by rfl)) (by rfl)) (by rfl)))) (by rfl) (by first | exact .inl rfl | exact .inr rfl | assumption)) (@pss_one _ _ _ (@ps_ret _ _ _ _ (@pe_ix _ _ _ _ _ _ _ ix_list (@pv _ 3 _ _ (by rfl) (by first | exact Or.inl rfl | exact Or.inr (Or.inl rfl) | exact Or.inr (Or.inr rfl)) (by decide) (by decide)) (@pe_call _ _ _ _ _ _ _ _ _ _ _ _ _ _ _ _ (G_l_draw.mono (by decide)) hr (by rfl) T.mg_l_draw T.F_l_draw.kp T.b_l_draw .nil pass0 (@pa2 _ _ _ _ _ (@pv _ 0 _ _ (by rfl) (by first | exact Or.inl rfl | exact Or.inr (Or.inl rfl) | exact Or.inr (Or.inr rfl)) (by decide) (by decide)) (@pa2 _ _ _ _ _ (@pe_callB _ _ _ _ _ _ _ _ _ call_len (by rfl) T.n_len bt_len (@pa2 _ _ _ _ _ (@pv _ 3 _ _ (by rfl) (by first | exact Or.inl rfl | exact Or.inr (Or.inl rfl) | exact Or.inr (Or.inr rfl)) (by decide) (by decide)) pa_nil (by rfl)) (by decide) (by decide) (by rfl) (by rfl)) pa_nil (by rfl)) (by rfl)) (by decide) (by rfl) (by rfl)) (fun _ _ => rfl))))))))))))))))), ?_⟩
    refine ⟨fun σ' H' => ∃ y, σ' = [some (.ref l), some cx, some (.str y), none] ∧ But [l] H H' ∧ WellAt H' l ∧ y ∈ (("zzz" : Str) :: NM), ?_, ?_⟩
    · refine ⟨_, rfl, sm (show 0 ≤ 1000 by decide), fun p0 hp0 => ?_⟩
      generalize hH1 : upd H p0 _ = H1
      have s1 : Same H H1 := hH1 ▸ same_new hp0
      have ep0 : H1 p0 = some (.tup []) := hH1 ▸ upd_same
      have hc1 := Sx.same s1 _ hc
      have w1 := hw.same s1
      refine ⟨.tuple (cs.map cD), .tuple [], Sx.dt _ (lay_cs hg) hc1, Sx.dt _ rfl (sx_tup ep0 sx_nil), lay_cs hg, rfl, .inr (by decide), _, rfl, ?_⟩
      rw [if_pos rfl, eqv_cs]
      refine ifb (fun h1 => ?_) (fun h1 => ?_)
      · have h1 := nt h1
        have hne : cs ≠ [] := fun z => by rw [z] at h1; cases h1
        obtain ⟨ca, xs, rfl, ec, hl, hall, hp⟩ := cols_at hc1
        have hx0 : 0 < xs.length := by rw [hl]; exact List.length_pos_iff.mpr hne
        have hx8 : xs.length ≤ 8 := by rw [hl]; exact hg.1
        refine ⟨_, rfl, _, rfl, _, rfl, _, xs.length, rfl, .inr ⟨xs, SqT.of ec, rfl⟩, l, (xs.length : Int), rfl, by omega, by omega, w1, fun m H3 m0 m1 b3 w3 => ?_⟩
        obtain ⟨x, hx, ax, i, ei, exi⟩ := at_of (l := xs) m0 m1
        have hi : i < xs.length := (List.getElem?_eq_some_iff.mp exi).1
        have ecs : cs[i]? = some (cs[i]'(by omega)) := List.getElem?_eq_getElem _
        generalize (cs[i]'(by omega)) = c' at ecs
        have hcm := List.mem_of_getElem? ecs
        obtain ⟨b, rfl, eb⟩ := hp.2 i x (c'.1, .str c'.2) exi (by rw [List.getElem?_map, ecs]; rfl)
        have t3 := well_t b3 w1
        refine ⟨ca, xs, m, .ref b, rfl, rfl, SqT.of (t3 _ _ ec), ax, .inr (.inl ⟨b, _, 0, .str c'.1, rfl, rfl, SqT.of (t3 _ _ eb), rfl, ?_⟩)⟩
        exact ⟨c'.1, rfl, s1.but.trans b3, w3, List.mem_cons_of_mem _ (hg.2.2 c' hcm).1⟩
      · exact ⟨"zzz", rfl, s1.but, w1, List.mem_cons_self⟩
    · rintro σ' H0 ⟨y, rfl, b0, w0, hyn⟩
      have hy0 : Sx H0 (.str y) (.str y) := sx_str (sm (names_sz y hyn))
      have hy := hy0
      refine rd_set ((mk_lst (mkA_cons mk_non (mkA_cons mk_int (mkA_cons mk_bl (mkA_cons (mk_str (by decide)) (mkA_cons (mk_lst mkA_nil (Nat.le_of_ble_eq_true rfl)) (mkA_cons (mk_tup mkA_nil (Nat.le_of_ble_eq_true rfl)) (mkA_cons (mk_tup (mkA_cons (mk_str (by decide)) (mkA_cons mk_int mkA_nil)) (Nat.le_of_ble_eq_true rfl)) (mkA_cons (mk_tup (mkA_cons (mk_str (by decide)) (mkA_cons (mk_tup mkA_nil (Nat.le_of_ble_eq_true rfl)) mkA_nil)) (Nat.le_of_ble_eq_true rfl)) (mkA_cons (mk_lst (mkA_cons (mk_str (by decide)) mkA_nil) (Nat.le_of_ble_eq_true rfl)) (mkA_cons (mk_tup (mkA_cons mk_int mkA_nil) (Nat.le_of_ble_eq_true rfl)) (mkA_cons (mk_tup (mkA_cons mk_non (mkA_cons (mk_var (i := 2) rfl hy) (mkA_cons mk_int mkA_nil))) (Nat.le_of_ble_eq_true rfl)) (mkA_cons (mk_tup (mkA_cons (mk_str (by decide)) mkA_nil) (Nat.le_of_ble_eq_true rfl)) mkA_nil)))))))))))) (Nat.le_of_ble_eq_true rfl)) : Md _ _ H0 (.list (bd0 y))) fun v0 H1 s0 hv0 => ?_
      clear hy
      have hy : Sx H1 (.str y) (.str y) := sx_str (sm (names_sz y hyn))
      refine rd_set ((mk_cat (ds := bd0 y) (es := bd1 y) (mk_var (i := 3) rfl hv0) (mk_lst (mkA_cons (mk_tup (mkA_cons (mk_str (by decide)) (mkA_cons (mk_var (i := 2) rfl hy) mkA_nil)) (Nat.le_of_ble_eq_true rfl)) (mkA_cons (mk_tup (mkA_cons (mk_str (by decide)) (mkA_cons (mk_var (i := 2) rfl hy) (mkA_cons mk_int mkA_nil))) (Nat.le_of_ble_eq_true rfl)) (mkA_cons (mk_tup (mkA_cons (mk_str (by decide)) (mkA_cons (mk_var (i := 2) rfl hy) (mkA_cons (mk_str (by decide)) mkA_nil))) (Nat.le_of_ble_eq_true rfl)) (mkA_cons (mk_tup (mkA_cons (mk_str (by decide)) (mkA_cons (mk_var (i := 2) rfl hy) (mkA_cons mk_bl mkA_nil))) (Nat.le_of_ble_eq_true rfl)) (mkA_cons (mk_tup (mkA_cons (mk_str (by decide)) (mkA_cons (mk_var (i := 2) rfl hy) (mkA_cons mk_non mkA_nil))) (Nat.le_of_ble_eq_true rfl)) mkA_nil))))) (Nat.le_of_ble_eq_true rfl)) (Nat.le_of_ble_eq_true rfl)) : Md _ _ H1 (.list ((bd0 y) ++ bd1 y))) fun v1 H2 s1 hv1 => ?_
      clear hy
      have hy : Sx H2 (.str y) (.str y) := sx_str (sm (names_sz y hyn))
      refine rd_set ((mk_cat (ds := (bd0 y) ++ bd1 y) (es := bd2 y) (mk_var (i := 3) rfl hv1) (mk_lst (mkA_cons (mk_tup (mkA_cons (mk_str (by decide)) (mkA_cons (mk_var (i := 2) rfl hy) (mkA_cons mk_int (mkA_cons mk_int mkA_nil)))) (Nat.le_of_ble_eq_true rfl)) (mkA_cons (mk_tup (mkA_cons (mk_str (by decide)) (mkA_cons (mk_str (by decide)) (mkA_cons mk_int mkA_nil))) (Nat.le_of_ble_eq_true rfl)) (mkA_cons (mk_tup (mkA_cons (mk_str (by decide)) (mkA_cons (mk_lst (mkA_cons (mk_var (i := 2) rfl hy) mkA_nil) (Nat.le_of_ble_eq_true rfl)) (mkA_cons mk_int mkA_nil))) (Nat.le_of_ble_eq_true rfl)) (mkA_cons (mk_tup (mkA_cons (mk_str (by decide)) (mkA_cons mk_non (mkA_cons mk_non mkA_nil))) (Nat.le_of_ble_eq_true rfl)) mkA_nil)))) (Nat.le_of_ble_eq_true rfl)) (Nat.le_of_ble_eq_true rfl)) : Md _ _ H2 (.list (((bd0 y) ++ bd1 y) ++ bd2 y))) fun v2 H3 s2 hv2 => ?_
      clear hy
      have hy : Sx H3 (.str y) (.str y) := sx_str (sm (names_sz y hyn))
      refine rd_set ((mk_cat (ds := ((bd0 y) ++ bd1 y) ++ bd2 y) (es := bd3 y) (mk_var (i := 3) rfl hv2) (mk_lst (mkA_cons (mk_tup (mkA_cons (mk_str (by decide)) (mkA_cons (mk_var (i := 2) rfl hy) (mkA_cons mk_non mkA_nil))) (Nat.le_of_ble_eq_true rfl)) (mkA_cons (mk_tup (mkA_cons (mk_str (by decide)) (mkA_cons (mk_var (i := 2) rfl hy) (mkA_cons mk_int mkA_nil))) (Nat.le_of_ble_eq_true rfl)) (mkA_cons (mk_tup (mkA_cons (mk_str (by decide)) (mkA_cons (mk_var (i := 2) rfl hy) (mkA_cons (mk_str (by decide)) mkA_nil))) (Nat.le_of_ble_eq_true rfl)) (mkA_cons (mk_tup (mkA_cons (mk_str (by decide)) (mkA_cons (mk_var (i := 2) rfl hy) (mkA_cons mk_bl mkA_nil))) (Nat.le_of_ble_eq_true rfl)) mkA_nil)))) (Nat.le_of_ble_eq_true rfl)) (Nat.le_of_ble_eq_true rfl)) : Md _ _ H3 (.list ((((bd0 y) ++ bd1 y) ++ bd2 y) ++ bd3 y))) fun v3 H4 s3 hv3 => ?_
      clear hy
      have hy : Sx H4 (.str y) (.str y) := sx_str (sm (names_sz y hyn))
      refine rd_set ((mk_cat (ds := (((bd0 y) ++ bd1 y) ++ bd2 y) ++ bd3 y) (es := bd4 y) (mk_var (i := 3) rfl hv3) (mk_lst (mkA_cons (mk_tup (mkA_cons (mk_str (by decide)) (mkA_cons (mk_var (i := 2) rfl hy) (mkA_cons (mk_str (by decide)) mkA_nil))) (Nat.le_of_ble_eq_true rfl)) (mkA_cons (mk_tup (mkA_cons (mk_str (by decide)) (mkA_cons (mk_var (i := 2) rfl hy) (mkA_cons mk_int mkA_nil))) (Nat.le_of_ble_eq_true rfl)) (mkA_cons (mk_tup (mkA_cons (mk_str (by decide)) (mkA_cons (mk_var (i := 2) rfl hy) (mkA_cons mk_non mkA_nil))) (Nat.le_of_ble_eq_true rfl)) (mkA_cons (mk_tup (mkA_cons (mk_str (by decide)) (mkA_cons (mk_var (i := 2) rfl hy) (mkA_cons (mk_mulS (z := "a") (n := 41) (y := "aaaaaaaaaaaaaaaaaaaaaaaaaaaaaaaaaaaaaaaaa") (mk_str (by decide)) mk_int ⟨by decide, by decide, by decide⟩ (by decide +kernel) (by decide)) mkA_nil))) (Nat.le_of_ble_eq_true rfl)) mkA_nil)))) (Nat.le_of_ble_eq_true rfl)) (Nat.le_of_ble_eq_true rfl)) : Md _ _ H4 (.list (((((bd0 y) ++ bd1 y) ++ bd2 y) ++ bd3 y) ++ bd4 y))) fun v4 H5 s4 hv4 => ?_
      clear hy
      have hy : Sx H5 (.str y) (.str y) := sx_str (sm (names_sz y hyn))
      refine rd_set ((mk_cat (ds := ((((bd0 y) ++ bd1 y) ++ bd2 y) ++ bd3 y) ++ bd4 y) (es := bd5 y) (mk_var (i := 3) rfl hv4) (mk_lst (mkA_cons (mk_tup (mkA_cons (mk_str (by decide)) (mkA_cons (mk_var (i := 2) rfl hy) (mkA_cons (mk_mulS (z := "a") (n := 40) (y := "aaaaaaaaaaaaaaaaaaaaaaaaaaaaaaaaaaaaaaaa") (mk_str (by decide)) mk_int ⟨by decide, by decide, by decide⟩ (by decide +kernel) (by decide)) mkA_nil))) (Nat.le_of_ble_eq_true rfl)) (mkA_cons (mk_tup (mkA_cons (mk_str (by decide)) (mkA_cons (mk_var (i := 2) rfl hy) (mkA_cons (mk_mulS (z := "a") (n := 41) (y := "aaaaaaaaaaaaaaaaaaaaaaaaaaaaaaaaaaaaaaaaa") (mk_str (by decide)) mk_int ⟨by decide, by decide, by decide⟩ (by decide +kernel) (by decide)) mkA_nil))) (Nat.le_of_ble_eq_true rfl)) (mkA_cons (mk_tup (mkA_cons (mk_str (by decide)) (mkA_cons (mk_var (i := 2) rfl hy) (mkA_cons (mk_str (by decide)) mkA_nil))) (Nat.le_of_ble_eq_true rfl)) (mkA_cons (mk_tup (mkA_cons (mk_str (by decide)) (mkA_cons (mk_var (i := 2) rfl hy) (mkA_cons mk_p60 mkA_nil))) (Nat.le_of_ble_eq_true rfl)) mkA_nil)))) (Nat.le_of_ble_eq_true rfl)) (Nat.le_of_ble_eq_true rfl)) : Md _ _ H5 (.list ((((((bd0 y) ++ bd1 y) ++ bd2 y) ++ bd3 y) ++ bd4 y) ++ bd5 y))) fun v5 H6 s5 hv5 => ?_
      clear hy
      have hy : Sx H6 (.str y) (.str y) := sx_str (sm (names_sz y hyn))
      refine rd_set ((mk_cat (ds := (((((bd0 y) ++ bd1 y) ++ bd2 y) ++ bd3 y) ++ bd4 y) ++ bd5 y) (es := bd6 y) (mk_var (i := 3) rfl hv5) (mk_lst (mkA_cons (mk_tup (mkA_cons (mk_str (by decide)) (mkA_cons (mk_tup (mkA_cons (mk_str (by decide)) (mkA_cons (mk_str (by decide)) mkA_nil)) (Nat.le_of_ble_eq_true rfl)) mkA_nil)) (Nat.le_of_ble_eq_true rfl)) (mkA_cons (mk_tup (mkA_cons (mk_str (by decide)) (mkA_cons (mk_tup mkA_nil (Nat.le_of_ble_eq_true rfl)) mkA_nil)) (Nat.le_of_ble_eq_true rfl)) (mkA_cons (mk_tup (mkA_cons (mk_str (by decide)) (mkA_cons (mk_mulU (n := 8) (mk_tup (mkA_cons (mk_str (by decide)) mkA_nil) (Nat.le_of_ble_eq_true rfl)) mk_int (by decide) (by decide)) mkA_nil)) (Nat.le_of_ble_eq_true rfl)) (mkA_cons (mk_tup (mkA_cons (mk_str (by decide)) (mkA_cons (mk_mulU (n := 9) (mk_tup (mkA_cons (mk_str (by decide)) mkA_nil) (Nat.le_of_ble_eq_true rfl)) mk_int (by decide) (by decide)) mkA_nil)) (Nat.le_of_ble_eq_true rfl)) (mkA_cons (mk_tup (mkA_cons (mk_str (by decide)) (mkA_cons (mk_lst (mkA_cons (mk_str (by decide)) mkA_nil) (Nat.le_of_ble_eq_true rfl)) mkA_nil)) (Nat.le_of_ble_eq_true rfl)) mkA_nil))))) (Nat.le_of_ble_eq_true rfl)) (Nat.le_of_ble_eq_true rfl)) : Md _ _ H6 (.list (((((((bd0 y) ++ bd1 y) ++ bd2 y) ++ bd3 y) ++ bd4 y) ++ bd5 y) ++ bd6 y))) fun v6 H7 s6 hv6 => ?_
      clear hy
      have hy : Sx H7 (.str y) (.str y) := sx_str (sm (names_sz y hyn))
      refine rd_set ((mk_cat (ds := ((((((bd0 y) ++ bd1 y) ++ bd2 y) ++ bd3 y) ++ bd4 y) ++ bd5 y) ++ bd6 y) (es := bd7 y) (mk_var (i := 3) rfl hv6) (mk_lst (mkA_cons (mk_tup (mkA_cons (mk_str (by decide)) (mkA_cons (mk_str (by decide)) mkA_nil)) (Nat.le_of_ble_eq_true rfl)) (mkA_cons (mk_tup (mkA_cons (mk_str (by decide)) (mkA_cons (mk_tup (mkA_cons (mk_str (by decide)) (mkA_cons (mk_str (by decide)) mkA_nil)) (Nat.le_of_ble_eq_true rfl)) mkA_nil)) (Nat.le_of_ble_eq_true rfl)) (mkA_cons (mk_tup (mkA_cons (mk_str (by decide)) (mkA_cons (mk_tup (mkA_cons (mk_str (by decide)) mkA_nil) (Nat.le_of_ble_eq_true rfl)) mkA_nil)) (Nat.le_of_ble_eq_true rfl)) (mkA_cons (mk_tup (mkA_cons (mk_str (by decide)) (mkA_cons (mk_tup (mkA_cons (mk_mulS (z := "a") (n := 13) (y := "aaaaaaaaaaaaa") (mk_str (by decide)) mk_int ⟨by decide, by decide, by decide⟩ (by decide +kernel) (by decide)) mkA_nil) (Nat.le_of_ble_eq_true rfl)) mkA_nil)) (Nat.le_of_ble_eq_true rfl)) (mkA_cons (mk_tup (mkA_cons (mk_str (by decide)) (mkA_cons (mk_tup (mkA_cons mk_non mkA_nil) (Nat.le_of_ble_eq_true rfl)) mkA_nil)) (Nat.le_of_ble_eq_true rfl)) mkA_nil))))) (Nat.le_of_ble_eq_true rfl)) (Nat.le_of_ble_eq_true rfl)) : Md _ _ H7 (.list ((((((((bd0 y) ++ bd1 y) ++ bd2 y) ++ bd3 y) ++ bd4 y) ++ bd5 y) ++ bd6 y) ++ bd7 y))) fun v7 H8 s7 hv7 => ?_
      clear hy
      have hy : Sx H8 (.str y) (.str y) := sx_str (sm (names_sz y hyn))
      refine rd_set ((mk_cat (ds := (((((((bd0 y) ++ bd1 y) ++ bd2 y) ++ bd3 y) ++ bd4 y) ++ bd5 y) ++ bd6 y) ++ bd7 y) (es := bd8 y) (mk_var (i := 3) rfl hv7) (mk_lst (mkA_cons (mk_tup (mkA_cons (mk_str (by decide)) mkA_nil) (Nat.le_of_ble_eq_true rfl)) (mkA_cons (mk_tup (mkA_cons (mk_str (by decide)) (mkA_cons (mk_tup (mkA_cons (mk_str (by decide)) mkA_nil) (Nat.le_of_ble_eq_true rfl)) (mkA_cons (mk_tup (mkA_cons (mk_str (by decide)) mkA_nil) (Nat.le_of_ble_eq_true rfl)) mkA_nil))) (Nat.le_of_ble_eq_true rfl)) (mkA_cons (mk_tup (mkA_cons (mk_str (by decide)) (mkA_cons (mk_lst (mkA_cons (mk_tup (mkA_cons (mk_str (by decide)) mkA_nil) (Nat.le_of_ble_eq_true rfl)) mkA_nil) (Nat.le_of_ble_eq_true rfl)) mkA_nil)) (Nat.le_of_ble_eq_true rfl)) (mkA_cons (mk_tup (mkA_cons (mk_str (by decide)) (mkA_cons (mk_tup (mkA_cons (mk_str (by decide)) mkA_nil) (Nat.le_of_ble_eq_true rfl)) mkA_nil)) (Nat.le_of_ble_eq_true rfl)) mkA_nil)))) (Nat.le_of_ble_eq_true rfl)) (Nat.le_of_ble_eq_true rfl)) : Md _ _ H8 (.list (((((((((bd0 y) ++ bd1 y) ++ bd2 y) ++ bd3 y) ++ bd4 y) ++ bd5 y) ++ bd6 y) ++ bd7 y) ++ bd8 y))) fun v8 H9 s8 hv8 => ?_
      clear hy
      have hy : Sx H9 (.str y) (.str y) := sx_str (sm (names_sz y hyn))
      refine rd_set ((mk_cat (ds := ((((((((bd0 y) ++ bd1 y) ++ bd2 y) ++ bd3 y) ++ bd4 y) ++ bd5 y) ++ bd6 y) ++ bd7 y) ++ bd8 y) (es := bd9 y) (mk_var (i := 3) rfl hv8) (mk_lst (mkA_cons (mk_tup (mkA_cons (mk_str (by decide)) (mkA_cons (mk_lst (mkA_cons (mk_tup (mkA_cons (mk_str (by decide)) mkA_nil) (Nat.le_of_ble_eq_true rfl)) mkA_nil) (Nat.le_of_ble_eq_true rfl)) mkA_nil)) (Nat.le_of_ble_eq_true rfl)) (mkA_cons (mk_tup (mkA_cons (mk_str (by decide)) (mkA_cons (mk_mulU (n := 8) (mk_tup (mkA_cons (mk_tup (mkA_cons (mk_str (by decide)) mkA_nil) (Nat.le_of_ble_eq_true rfl)) mkA_nil) (Nat.le_of_ble_eq_true rfl)) mk_int (by decide) (by decide)) mkA_nil)) (Nat.le_of_ble_eq_true rfl)) (mkA_cons (mk_tup (mkA_cons (mk_str (by decide)) (mkA_cons (mk_mulU (n := 9) (mk_tup (mkA_cons (mk_tup (mkA_cons (mk_str (by decide)) mkA_nil) (Nat.le_of_ble_eq_true rfl)) mkA_nil) (Nat.le_of_ble_eq_true rfl)) mk_int (by decide) (by decide)) mkA_nil)) (Nat.le_of_ble_eq_true rfl)) (mkA_cons (mk_tup (mkA_cons (mk_str (by decide)) (mkA_cons (mk_tup mkA_nil (Nat.le_of_ble_eq_true rfl)) mkA_nil)) (Nat.le_of_ble_eq_true rfl)) (mkA_cons (mk_tup (mkA_cons (mk_str (by decide)) mkA_nil) (Nat.le_of_ble_eq_true rfl)) mkA_nil))))) (Nat.le_of_ble_eq_true rfl)) (Nat.le_of_ble_eq_true rfl)) : Md _ _ H9 (.list ((((((((((bd0 y) ++ bd1 y) ++ bd2 y) ++ bd3 y) ++ bd4 y) ++ bd5 y) ++ bd6 y) ++ bd7 y) ++ bd8 y) ++ bd9 y))) fun v9 H10 s9 hv9 => ?_
      clear hy
      have hy : Sx H10 (.str y) (.str y) := sx_str (sm (names_sz y hyn))
      refine rd_set ((mk_cat (ds := (((((((((bd0 y) ++ bd1 y) ++ bd2 y) ++ bd3 y) ++ bd4 y) ++ bd5 y) ++ bd6 y) ++ bd7 y) ++ bd8 y) ++ bd9 y) (es := bd10 y) (mk_var (i := 3) rfl hv9) (mk_lst (mkA_cons (mk_tup (mkA_cons (mk_str (by decide)) (mkA_cons (mk_tup mkA_nil (Nat.le_of_ble_eq_true rfl)) (mkA_cons (mk_tup mkA_nil (Nat.le_of_ble_eq_true rfl)) mkA_nil))) (Nat.le_of_ble_eq_true rfl)) (mkA_cons (mk_tup (mkA_cons (mk_str (by decide)) (mkA_cons (mk_tup (mkA_cons (mk_tup (mkA_cons (mk_str (by decide)) mkA_nil) (Nat.le_of_ble_eq_true rfl)) (mkA_cons (mk_lst (mkA_cons (mk_str (by decide)) mkA_nil) (Nat.le_of_ble_eq_true rfl)) mkA_nil)) (Nat.le_of_ble_eq_true rfl)) mkA_nil)) (Nat.le_of_ble_eq_true rfl)) (mkA_cons (mk_tup (mkA_cons (mk_str (by decide)) (mkA_cons (mk_var (i := 2) rfl hy) (mkA_cons mk_non mkA_nil))) (Nat.le_of_ble_eq_true rfl)) (mkA_cons (mk_tup (mkA_cons (mk_str (by decide)) (mkA_cons (mk_var (i := 2) rfl hy) (mkA_cons mk_int mkA_nil))) (Nat.le_of_ble_eq_true rfl)) mkA_nil)))) (Nat.le_of_ble_eq_true rfl)) (Nat.le_of_ble_eq_true rfl)) : Md _ _ H10 (.list (((((((((((bd0 y) ++ bd1 y) ++ bd2 y) ++ bd3 y) ++ bd4 y) ++ bd5 y) ++ bd6 y) ++ bd7 y) ++ bd8 y) ++ bd9 y) ++ bd10 y))) fun v10 H11 s10 hv10 => ?_
      clear hy
      have hy : Sx H11 (.str y) (.str y) := sx_str (sm (names_sz y hyn))
      have sA : Same H0 H11 := ((((((((((s0.trans s1).trans s2).trans s3).trans s4).trans s5).trans s6).trans s7).trans s8).trans s9).trans s10)
      have wA := w0.same sA
      have bA : But [l] H H11 := b0.trans sA.but
      have hvA : Sx H11 (.list (bads y)) v10 := hv10
      obtain ⟨a, xs, rfl, ea, hall⟩ := hvA.lst
      have hl : xs.length = 56 := hall.len.symm.trans (bads_len y)
      have hal : a ≠ l := fun z => by
        subst z
        obtain ⟨p, q, r, e⟩ := wA
        rw [e] at ea
        cases ea
        cases hl
      refine ⟨_, rfl, _, rfl, _, rfl, _, xs.length, rfl, .inl ⟨xs, SqL.of ea, rfl⟩, l, (xs.length : Int), rfl, by omega, by omega, wA, fun m H3 m0 m1 b3 w3 => ?_⟩
      obtain ⟨x, hx, ax, i, ei, exi⟩ := at_of (l := xs) m0 m1
      have hi : i < xs.length := (List.getElem?_eq_some_iff.mp exi).1
      have hlb : i < (bads y).length := by rw [bads_len]; omega
      have hdi : (bads y)[i]? = some (bads y)[i] := List.getElem?_eq_getElem hlb
      obtain ⟨o1, o2⟩ := bads_ok hyn (List.getElem_mem hlb)
      have sd := SxAll.get i hall exi hdi
      exact ⟨a, xs, m, x, rfl, rfl, SqL.of (b3 _ _ ea (by simp [hal])), ax, q x _ H3 (bA.trans b3) w3 o1 o2 (Sx.but3 b3 wA _ o1 sd)⟩
end
end My
set_option Elab.async false
set_option linter.all false
set_option maxRecDepth 100000
set_option maxHeartbeats 4000000
namespace My
open PySem L2
theorem rd_if {c : TT} {a rest : TS} {D : Ends} {σ : St} {H : Hp} (W : Bool → Hp → Prop) (h : ∀ R : Bool → Hp → Prop, (∀ b H', W b H' → R b H') → c σ H R) (ht : ∀ H', W true H' → a { D with nx := rest D } σ H') (hf : ∀ H', W false H' → rest D σ H') : tSeq (tIfS c a tNext) rest D σ H := by
  refine h _ fun b H' w => ?_
  cases b with
  | true => exact ht H' w
  | false => exact hf H' w
theorem rd_ansW {c : TT} {σ : St} {H : Hp} {F : Bool → Hp → Prop} (W : Bool → Hp → Prop) (h : ∀ R : Bool → Hp → Prop, (∀ b H', W b H' → R b H') → c σ H R) (q : ∀ b H', W b H' → F b H') : c σ H F := h F q
theorem two_at {H : Hp} {a b : PyData} {v : V} (h : Sx H (.tuple [a, b]) v) : ∃ p x y, v = .ref p ∧ H p = some (.tup [x, y]) ∧ Sx H a x ∧ Sx H b y := by
  obtain ⟨p, ov, rfl, eo, hov⟩ := h.tup
  obtain ⟨x, ov1, rfl, so0, hov1⟩ := hov.cons
  obtain ⟨y, ov2, rfl, so1, hov2⟩ := hov1.cons
  have := hov2.nil
  subst this
  exact ⟨p, x, y, rfl, eo, so0, so1⟩
theorem pb_not {n : Nat} {y : PyData} : pbD (n + 1) (.tuple [.str "not", y]) = pbD n y := by
  show (true && ([y] : List PyData).all (pbD n)) = _
  simp
theorem pb_both {n : Nat} {z : Str} {ks : List PyData} (h : bothW z = true) : pbD (n + 1) (.tuple [.str z, .tuple ks]) = ks.all (pbD n) := by
  show (true && (inD (.tuple [.str z, .tuple ks])).all (pbD n)) = _
  rw [in_both h, Bool.true_and]
  rfl
theorem pb_head {n : Nat} {d0 d1 : PyData} (h : pbD (n + 1) (.tuple [d0, d1]) = true) : ∃ z, d0 = .str z := by
  have h : (headD (.tuple [d0, d1]) && _) = true := h
  rw [Bool.and_eq_true] at h
  cases d0 with
  | str z => exact ⟨z, rfl⟩
  | _ => exact absurd h.1 Bool.false_ne_true
def spPut (n : Nat) : Sp := fun vs H Q _ => ∃ (l : Addr) (x : V) (d : PyData) (ox : V) (o : PyData) (m : Nat), vs = [.ref l, x, ox] ∧ WellAt H l ∧ Sx H d x ∧ okD d = true ∧ pbD n d = true ∧ Sx H o ox ∧ okD o = true ∧ pbD m o = true ∧ ∀ v e H', But [l] H H' → WellAt H' l → okD e = true → pbD (n + m) e = true → Sx H' e v → Q v H'
section
variable {P : Program} {w : World} {K : PySem.W.Frag} {mg : Str → Option Value} {base : Heap} {t : Adr}
theorem ok_put (T : Txt w K mg t) : ∀ n : Nat, FnOk P w K mg base CX0 (1 + n) t.f_l_put t.d_l_put ["_law_well_here", "_law_sieve_here", "_law_other"] (spPut n)
  | 0 => fn_false fun vs H Q E h => by
    obtain ⟨l, x, d, ox, o, m, _, _, _, _, h1, _⟩ := h
    exact absurd h1 Bool.false_ne_true
  | n + 1 => by
    have G_l_draw : FnOk P w K mg base CX0 1 t.f_l_draw t.d_l_draw ["_law_well_here", "_law_most"] spDraw := ok_draw T
    have G_l_put : FnOk P w K mg base CX0 (1 + n) t.f_l_put t.d_l_put ["_law_well_here", "_law_sieve_here", "_law_other"] (spPut n) := ok_put T n
    refine T.F_l_put.ok (k := 1 + n) sc_l_put (fun vs H Q E h => ?_) (fun cdv A outer s H vs Q E hr h => ?_)
    · obtain ⟨l, x, d, ox, o, m, rfl, _⟩ := h
      rfl
    · obtain ⟨l, x, d, ox, o, m, rfl, hw, hx, okd, pbd, ho, oko, pbo, q⟩ := h
      have fin : ∀ H', But [l] H H' → WellAt H' l → Sx H' o ox → Q ox H' := fun H' b w' ho' => q ox o H' b w' oko (by rw [Nat.add_comm]; exact pb_mono pbo (n + 1)) ho'
      refine ⟨_, (@pss_cons _ _ _ _ _ (@ps_if _ _ _ _ _ _ _ _ (@PW.pt _ _ _ (@pw_and _ _ _ _ _ _ _ (@pt_val _ _ _ (@pe_callB _ _ _ _ _ _ _ _ _ call_isi (by rfl) T.n_isinstance bt_isinstance (@pa2 _ _ _ _ _ (@pv _ 1 _ _ (by rfl) (by first | exact Or.inl rfl | exact Or.inr (Or.inl rfl) | exact Or.inr (Or.inr rfl)) (by decide) (by decide)) (@pa2 _ _ _ _ _ (@pe_bltn _ _ (.ty "tuple") _ _ (by rfl) T.n_tuple bt_tuple rfl (by decide) (by decide)) pa_nil (by rfl)) (by rfl)) (by decide) (by decide) (by rfl) (by rfl)) (by intro _; rfl)) (@pw_and _ _ _ _ _ _ _ (@pt_cmpR _ _ _ _ _ _ _ _ op_eq (@pe_callB _ _ _ _ _ _ _ _ _ call_len (by rfl) T.n_len bt_len (@pa2 _ _ _ _ _ (@pv _ 1 _ _ (by rfl) (by first | exact Or.inl rfl | exact Or.inr (Or.inl rfl) | exact Or.inr (Or.inr rfl)) (by decide) (by decide)) pa_nil (by rfl)) (by decide) (by decide) (by rfl) (by rfl)) pe_int (nomark _)) (@pw_and _ _ _ _ _ _ _ (@pt_cmpR _ _ _ _ _ _ _ _ op_eq (@pe_ix _ _ _ _ _ _ _ ix_tup (@pv _ 1 _ _ (by rfl) (by first | exact Or.inl rfl | exact Or.inr (Or.inl rfl) | exact Or.inr (Or.inr rfl)) (by decide) (by decide)) pe_int (fun _ _ => rfl)) pe_str (nomark _)) (@pw_and1 _ _ _ _ (@pt_cmpR _ _ _ _ _ _ _ _ op_gt (@pe_call _ _ _ _ _ _ _ _ _ _ _ _ _ _ _ _ (G_l_draw.mono (by omega)) hr (by rfl) T.mg_l_draw T.F_l_draw.kp T.b_l_draw .nil pass0 (@pa2 _ _ _ _ _ (@pv _ 0 _ _ (by rfl) (by first | exact Or.inl rfl | exact Or.inr (Or.inl rfl) | exact Or.inr (Or.inr rfl)) (by decide) (by decide)) (@pa2 _ _ _ _ _ pe_int pa_nil (by rfl)) (by rfl)) (by decide) (by rfl) (by rfl)) pe_int (nomark _))))))) (@pss_one _ _ _ (@ps_ret _ _ _ _ (@pe_tup _ _ _ _ _ (@pa2 _ _ _ _ _ pe_str (@pa2 _ _ _ _ _ (@pe_call _ _ _ _ _ _ _ _ _ _ _ _ _ _ _ _ (G_l_put.mono (by omega)) hr (by rfl) T.mg_l_put T.F_l_put.kp T.b_l_put .nil pass0 (@pa2 _ _ _ _ _ (@pv _ 0 _ _ (by rfl) (by first | exact Or.inl rfl | exact Or.inr (Or.inl rfl) | exact Or.inr (Or.inr rfl)) (by decide) (by decide)) (@pa2 _ _ _ _ _ (@pe_ix _ _ _ _ _ _ _ ix_tup (@pv _ 1 _ _ (by rfl) (by first | exact Or.inl rfl | exact Or.inr (Or.inl rfl) | exact Or.inr (Or.inr rfl)) (by decide) (by decide)) pe_int (fun _ _ => rfl)) (@pa2 _ _ _ _ _ (@pv _ 2 _ _ (by rfl) (by first | exact Or.inl rfl | exact Or.inr (Or.inl rfl) | exact Or.inr (Or.inr rfl)) (by decide) (by decide)) pa_nil (by rfl)) (by rfl)) (by rfl)) (by decide) (by rfl) (by rfl)) pa_nil (by rfl)) (by rfl))))) pss_nil) (@pss_cons _ _ _ _ _ (@ps_cut _ _ _ (@ps_if _ _ _ _ _ _ _ _ (@PW.pt _ _ _ (@pw_and _ _ _ _ _ _ _ (@pt_val _ _ _ (@pe_callB _ _ _ _ _ _ _ _ _ call_isi (by rfl) T.n_isinstance bt_isinstance (@pa2 _ _ _ _ _ (@pv _ 1 _ _ (by rfl) (by first | exact Or.inl rfl | exact Or.inr (Or.inl rfl) | exact Or.inr (Or.inr rfl)) (by decide) (by decide)) (@pa2 _ _ _ _ _ (@pe_bltn _ _ (.ty "tuple") _ _ (by rfl) T.n_tuple bt_tuple rfl (by decide) (by decide)) pa_nil (by rfl)) (by rfl)) (by decide) (by decide) (by rfl) (by rfl)) (by intro _; rfl)) (@pw_and _ _ _ _ _ _ _ (@pt_cmpR _ _ _ _ _ _ _ _ op_eq (@pe_callB _ _ _ _ _ _ _ _ _ call_len (by rfl) T.n_len bt_len (@pa2 _ _ _ _ _ (@pv _ 1 _ _ (by rfl) (by first | exact Or.inl rfl | exact Or.inr (Or.inl rfl) | exact Or.inr (Or.inr rfl)) (by decide) (by decide)) pa_nil (by rfl)) (by decide) (by decide) (by rfl) (by rfl)) pe_int (nomark _)) (@pw_and _ _ _ _ _ _ _ (@pt_cmpR _ _ _ _ _ _ _ _ op_in_seq (@pe_ix _ _ _ _ _ _ _ ix_tup (@pv _ 1 _ _ (by rfl) (by first | exact Or.inl rfl | exact Or.inr (Or.inl rfl) | exact Or.inr (Or.inr rfl)) (by decide) (by decide)) pe_int (fun _ _ => rfl)) (@pe_tup _ _ _ _ _ (@pa2 _ _ _ _ _ pe_str (@pa2 _ _ _ _ _ pe_str pa_nil (by rfl)) (by rfl))) rfl) (@pw_and1 _ _ _ _ (@pt_val _ _ _ (@pe_callB _ _ _ _ _ _ _ _ _ call_isi (by rfl) T.n_isinstance bt_isinstance (@pa2 _ _ _ _ _ (@pe_ix _ _ _ _ _ _ _ ix_tup (@pv _ 1 _ _ (by rfl) (by first | exact Or.inl rfl | exact Or.inr (Or.inl rfl) | exact Or.inr (Or.inr rfl)) (by decide) (by decide)) pe_int (fun _ _ => rfl)) (@pa2 _ _ _ _ _ (@pe_bltn _ _ (.ty "tuple") _ _ (by rfl) T.n_tuple bt_tuple rfl (by decide) (by decide)) pa_nil (by rfl)) (by rfl)) (by decide) (by decide) (by rfl) (by rfl)) (by intro _; rfl))))))) (@pss_cons _ _ _ _ _ (@ps_set _ _ (3) _ _ _ _ sc_l_put.nd (by rfl) (by first | exact Or.inl rfl | exact Or.inr rfl) (@pe_call _ _ _ _ _ _ _ _ _ _ _ _ _ _ _ _ (G_l_draw.mono (by omega)) hr (by rfl) T.mg_l_draw T.F_l_draw.kp T.b_l_draw .nil pass0 (@pa2 _ _ _ _ _ (@pv _ 0 _ _ (by rfl) (by first | exact Or.inl rfl | exact Or.inr (Or.inl rfl) | exact Or.inr (Or.inr rfl)) (by decide) (by decide)) (@pa2 _ _ _ _ _ (@pe_op _ _ _ _ _ _ _ _ op_add (@pe_callB _ _ _ _ _ _ _ _ _ call_len (by rfl) T.n_len bt_len (@pa2 _ _ _ _ _ (@pe_ix _ _ _ _ _ _ _ ix_tup (@pv _ 1 _ _ (by rfl) (by first | exact Or.inl rfl | exact Or.inr (Or.inl rfl) | exact Or.inr (Or.inr rfl)) (by decide) (by decide)) pe_int (fun _ _ => rfl)) pa_nil (by rfl)) (by decide) (by decide) (by rfl) (by rfl)) pe_int) pa_nil (by rfl)) (by rfl)) (by decide) (by rfl) (by rfl)) (by rfl) (by first | exact .inl rfl | exact .inr rfl | assumption)) (@pss_one _ _ _ (@ps_if _ _ _ _ _ _ _ _ (@pt_cmpR _ _ _ _ _ _ _ _ op_lt (@pv _ 3 _ _ (by rfl) (by first | exact Or.inl rfl | exact Or.inr (Or.inl rfl) | exact Or.inr (Or.inr rfl)) (by decide) (by decide)) (@pe_callB _ _ _ _ _ _ _ _ _ call_len (by rfl) T.n_len bt_len (@pa2 _ _ _ _ _ (@pe_ix _ _ _ _ _ _ _ ix_tup (@pv _ 1 _ _ (by rfl) (by first | exact Or.inl rfl | exact Or.inr (Or.inl rfl) | exact Or.inr (Or.inr rfl)) (by decide) (by decide)) pe_int (fun _ _ => rfl)) pa_nil (by rfl)) (by decide) (by decide) (by rfl) (by rfl)) (nomark _)) (@pss_one _ _ _ (@ps_ret _ _ _ _ (@pe_tup _ _ _ _ _ (@pa2 _ _ _ _ _ (@pe_ix _ _ _ _ _ _ _ ix_tup (@pv _ 1 _ _ (by rfl) (by first | exact Or.inl rfl | exact Or.inr (Or.inl rfl) | exact Or.inr (Or.inr rfl)) (by decide) (by decide)) pe_int (fun _ _ => rfl)) (@pa2 _ _ _ _ _ (@pe_op _ _ _ _ _ _ _ _ op_catU (@pe_op _ _ _ _ _ _ _ _ op_catU (@pe_slice _ _ _ _ _ _ _ _ _ _ sl_tup (@pe_ix _ _ _ _ _ _ _ ix_tup (@pv _ 1 _ _ (by rfl) (by first | exact Or.inl rfl | exact Or.inr (Or.inl rfl) | exact Or.inr (Or.inr rfl)) (by decide) (by decide)) pe_int (fun _ _ => rfl)) po_none (@po_some _ _ _ (@pv _ 3 _ _ (by rfl) (by first | exact Or.inl rfl | exact Or.inr (Or.inl rfl) | exact Or.inr (Or.inr rfl)) (by decide) (by decide)))) (@pe_tup _ _ _ _ _ (@pa2 _ _ _ _ _ (@pe_call _ _ _ _ _ _ _ _ _ _ _ _ _ _ _ _ (G_l_put.mono (by omega)) hr (by rfl) T.mg_l_put T.F_l_put.kp T.b_l_put .nil pass0 (@pa2 _ _ _ _ _ (@pv _ 0 _ _ (by rfl) (by first | exact Or.inl rfl | exact Or.inr (Or.inl rfl) | exact Or.inr (Or.inr rfl)) (by decide) (by decide)) (@pa2 _ _ _ _ _ (@pe_ix _ _ _ _ _ _ _ ix_tup (@pe_ix _ _ _ _ _ _ _ ix_tup (@pv _ 1 _ _ (by rfl) (by first | exact Or.inl rfl | exact Or.inr (Or.inl rfl) | exact Or.inr (Or.inr rfl)) (by decide) (by decide)) pe_int (fun _ _ => rfl)) (@pv _ 3 _ _ (by rfl) (by first | exact Or.inl rfl | exact Or.inr (Or.inl rfl) | exact Or.inr (Or.inr rfl)) (by decide) (by decide)) (fun _ _ => rfl)) (@pa2 _ _ _ _ _ (@pv _ 2 _ _ (by rfl) (by first | exact Or.inl rfl | exact Or.inr (Or.inl rfl) | exact Or.inr (Or.inr rfl)) (by decide) (by decide)) pa_nil (by rfl)) (by rfl)) (by rfl)) (by decide) (by rfl) (by rfl)) pa_nil (by rfl)))) (@pe_slice _ _ _ _ _ _ _ _ _ _ sl_tup (@pe_ix _ _ _ _ _ _ _ ix_tup (@pv _ 1 _ _ (by rfl) (by first | exact Or.inl rfl | exact Or.inr (Or.inl rfl) | exact Or.inr (Or.inr rfl)) (by decide) (by decide)) pe_int (fun _ _ => rfl)) (@po_some _ _ _ (@pe_op _ _ _ _ _ _ _ _ op_add (@pv _ 3 _ _ (by rfl) (by first | exact Or.inl rfl | exact Or.inr (Or.inl rfl) | exact Or.inr (Or.inr rfl)) (by decide) (by decide)) pe_int)) po_none)) pa_nil (by rfl)) (by rfl))))) pss_nil))) pss_nil)) (@pss_one _ _ _ (@ps_ret _ _ _ _ (@pv _ 2 _ _ (by rfl) (by first | exact Or.inl rfl | exact Or.inr (Or.inl rfl) | exact Or.inr (Or.inr rfl)) (by decide) (by decide)))))), ?_⟩
      refine rd_if (fun b H' => But [l] H H' ∧ WellAt H' l ∧ (b = true → ∃ y, d = .tuple [.str "not", y])) (fun R hR => ?_) (fun H1 h1 => ?_) (fun H1 h1 => ?_)
      · have no : R false H := hR false H ⟨But.refl, hw, fun z => by cases z⟩
        refine ⟨_, rfl, _, _, _, _, rfl, isa_tuple, hx.kd, _, rfl, ?_⟩
        cases d with
        | tuple ds =>
          refine iteT ?_
          obtain ⟨a, xs, rfl, e, hall⟩ := hx.tup
          have hl := hall.len
          refine ⟨_, rfl, _, xs.length, rfl, .inr ⟨xs, SqT.of e, rfl⟩, rfl, _, rfl, ?_⟩
          refine ifb (fun h1 => ?_) (fun _ => no)
          have h1 : V.int ((xs.length : Nat) : Int) = V.int 2 := of_decide_eq_true h1
          have h2 : ds.length = 2 := by have := V.int.inj h1; omega
          obtain ⟨d0, d1, rfl⟩ : ∃ d0 d1, ds = [d0, d1] := by
            match ds, h2 with
            | [d0, d1], _ => exact ⟨d0, d1, rfl⟩
          obtain ⟨z, rfl⟩ := pb_head pbd
          obtain ⟨a', x0, x1, ea, e', s0, s1⟩ := two_at hx
          cases ea
          rw [e] at e'
          cases e'
          obtain ⟨rfl, _⟩ := s0.str
          refine ⟨_, rfl, a, _, _, _, rfl, rfl, SqT.of e, at_zero _ _, rfl, _, rfl, ?_⟩
          rw [dec_str]
          refine ifb (fun h3 => ?_) (fun _ => no)
          have h3 : z = "not" := of_decide_eq_true h3
          subst h3
          refine ⟨_, rfl, l, 4, rfl, by decide, by decide, hw, fun m' H1 m0 m1 b1 w1 => ⟨_, _, rfl, rfl, _, rfl, ?_⟩⟩
          exact hR _ H1 ⟨b1, w1, fun _ => ⟨d1, rfl⟩⟩
        | _ => exact no
      · obtain ⟨b1, w1, hy⟩ := h1
        obtain ⟨y, rfl⟩ := hy rfl
        have hx1 := Sx.but3 b1 hw _ okd hx
        have ho1 := Sx.but3 b1 hw _ oko ho
        obtain ⟨a, x0, x1, rfl, e, s0, s1⟩ := two_at hx1
        have oky : okD y = true := (okD_tup.mp okd).2 y (by simp)
        refine ⟨_, rfl, _, rfl, a, _, _, x1, rfl, rfl, SqT.of e, rfl, _, rfl, l, x1, y, ox, o, m, rfl, w1, s1, oky, (by rw [pb_not] at pbd; exact pbd), ho1, oko, pbo, fun v e' H2 b2 w2 oke pbe hv => ?_⟩
        refine ⟨sm (show 2 ≤ 1000 by decide), fun p hp => ?_⟩
        have s3 := same_new (o := .tup [.str "not", v]) hp
        refine q _ (.tuple [.str "not", e']) _ ((b1.trans b2).trans s3.but) (w2.same s3) (okD_tup.mpr ⟨by simp, fun d hd => ?_⟩) ?_ (sx_tup upd_same (sx_cons (sx_str (sm (by decide))) (sx_cons (Sx.same s3 _ hv) sx_nil)))
        · simp only [List.mem_cons, List.not_mem_nil, or_false] at hd
          rcases hd with rfl | rfl
          · decide +kernel
          · exact oke
        · rw [show n + 1 + m = (n + m) + 1 by omega, pb_not]
          exact pbe
      · obtain ⟨b1, w1, _⟩ := h1
        have hx1 := Sx.but3 b1 hw _ okd hx
        have ho1 := Sx.but3 b1 hw _ oko ho
        refine ⟨fun σ' H' => (∃ v3, σ' = [some (.ref l), some x, some ox, v3]) ∧ But [l] H H' ∧ WellAt H' l ∧ Sx H' o ox, ?_, ?_⟩
        · dsimp only [tIfS]
          refine rd_ansW (fun b H' => But [l] H H' ∧ WellAt H' l ∧ (b = true → ∃ z ks, d = .tuple [.str z, .tuple ks] ∧ bothW z = true)) (fun R hR => ?_) (fun b H2 h2 => ?_)
          · have no : ∀ H', Same H1 H' → R false H' := fun H' s' => hR false H' ⟨b1.trans s'.but, w1.same s', fun z => by cases z⟩
            refine ⟨_, rfl, _, _, _, _, rfl, isa_tuple, hx1.kd, _, rfl, ?_⟩
            cases d with
            | tuple ds =>
              refine iteT ?_
              obtain ⟨a, xs, rfl, e, hall⟩ := hx1.tup
              have hl := hall.len
              refine ⟨_, rfl, _, xs.length, rfl, .inr ⟨xs, SqT.of e, rfl⟩, rfl, _, rfl, ?_⟩
              refine ifb (fun h1 => ?_) (fun _ => no H1 (Same.refl _))
              have h1 : V.int ((xs.length : Nat) : Int) = V.int 2 := of_decide_eq_true h1
              have h2 : ds.length = 2 := by have := V.int.inj h1; omega
              obtain ⟨d0, d1, rfl⟩ : ∃ d0 d1, ds = [d0, d1] := by
                match ds, h2 with
                | [d0, d1], _ => exact ⟨d0, d1, rfl⟩
              obtain ⟨z, rfl⟩ := pb_head pbd
              obtain ⟨a', x0, x1, ea, e', s0, s1⟩ := two_at hx1
              cases ea
              rw [e] at e'
              cases e'
              obtain ⟨rfl, _⟩ := s0.str
              refine ⟨_, rfl, a, _, _, _, rfl, rfl, SqT.of e, at_zero _ _, sm (show 2 ≤ 1000 by decide), fun p hp => ?_⟩
              generalize hH2 : upd H1 p _ = H2
              have s2 : Same H1 H2 := hH2 ▸ same_new hp
              have ep : H2 p = some (.tup [.str "and", .str "or"]) := hH2 ▸ upd_same
              refine ⟨p, _, rfl, .inr (SqT.of ep), rfl, rfl, _, rfl, ?_⟩
              rw [if_neg Bool.false_ne_true, in_two]
              refine ifb (fun h3 => ?_) (fun _ => no H2 s2)
              have h3 : bothW z = true := h3
              have s12 := Sx.same s2 _ s1
              refine ⟨_, rfl, a, _, _, x1, rfl, rfl, SqT.of (s2 _ _ e), rfl, _, _, _, _, rfl, isa_tuple, s12.kd, _, rfl, ?_⟩
              cases d1 with
              | tuple ks => exact hR _ H2 ⟨b1.trans s2.but, w1.same s2, fun _ => ⟨z, ks, rfl, h3⟩⟩
              | _ => exact no H2 s2
            | _ => exact no H1 (Same.refl _)
          · obtain ⟨b2, w2, hd⟩ := h2
            have hx2 := Sx.but3 b2 hw _ okd hx
            have ho2 := Sx.but3 b2 hw _ oko ho
            refine ifb (fun hb => ?_) (fun _ => ⟨⟨_, rfl⟩, b2, w2, ho2⟩)
            obtain ⟨z, ks, rfl, hz⟩ := hd hb
            obtain ⟨a, x0, x1, rfl, e, s0, s1⟩ := two_at hx2
            obtain ⟨rfl, zz⟩ := s0.str
            obtain ⟨kb, ys, rfl, ek, hks⟩ := s1.tup
            have hkl := hks.len
            have okk : okD (.tuple ks) = true := (okD_tup.mp okd).2 _ (by simp)
            have okz : okD (.str z) = true := (okD_tup.mp okd).2 _ (by simp)
            obtain ⟨hk900, okks⟩ := okD_tup.mp okk
            rw [pb_both hz] at pbd
            refine ⟨_, rfl, _, rfl, a, _, _, .ref kb, rfl, rfl, SqT.of e, rfl, _, _, rfl, .inr ⟨_, SqT.of ek, rfl⟩, _, _, rfl, rfl, l, _, rfl, by omega, by omega, w2, fun m' H3 m0 m1 b3 w3 => ?_⟩
            have t3 := well_t b3 w2
            have e3 := t3 _ _ e
            have ek3 := t3 _ _ ek
            have hks3 := SxAll.but3 b3 w2 _ (by rw [okDs_all]; exact List.all_eq_true.mpr okks) hks
            have ho3 := Sx.but3 b3 w2 _ oko ho2
            refine ⟨_, rfl, _, rfl, a, _, _, .ref kb, rfl, rfl, SqT.of e3, rfl, _, _, rfl, .inr ⟨_, SqT.of ek3, rfl⟩, _, _, rfl, rfl, _, rfl, ?_⟩
            refine ifb (fun h4 => ?_) (fun _ => ⟨⟨_, rfl⟩, b2.trans b3, w3, ho3⟩)
            have h4 : m' < ((ys.length : Nat) : Int) := of_decide_eq_true h4
            obtain ⟨i, rfl⟩ := Int.eq_ofNat_of_zero_le m0
            have hi : i < ys.length := by omega
            have hik : i < ks.length := by omega
            -- (d[0], d[1][:i] + (put(d[1][i]),) + d[1][i + 1:])
            refine ⟨_, rfl, a, _, _, .str z, rfl, rfl, SqT.of e3, rfl, _, rfl, a, _, _, .ref kb, rfl, rfl, SqT.of e3, rfl, _, rfl, _, rfl, kb, ys, rfl, SqT.of ek3, ?_, fun p4 hp4 => ?_⟩
            · rintro ⟨_, z'⟩
              rw [HT.sIx_nat] at z'
              omega
            rw [cutV_take]
            generalize hH4 : upd H3 p4 _ = H4
            have s4 : Same H3 H4 := hH4 ▸ same_new hp4
            have ep4 : H4 p4 = some (.tup (ys.take i)) := hH4 ▸ upd_same
            have w4 := w3.same s4
            have ek4 := s4 _ _ ek3
            have hks4 := SxAll.same s4 _ hks3
            have hyi : ys[i]? = some ys[i] := List.getElem?_eq_getElem hi
            have hki : ks[i]? = some ks[i] := List.getElem?_eq_getElem hik
            have ski := SxAll.get i hks4 hyi hki
            have oki := okks _ (List.getElem_mem hik)
            have pbi := List.all_eq_true.mp pbd _ (List.getElem_mem hik)
            refine ⟨_, rfl, _, rfl, a, _, _, .ref kb, rfl, rfl, SqT.of (s4 _ _ e3), rfl, _, rfl, kb, ys, (i : Int), ys[i], rfl, rfl, SqT.of ek4, atI_nat hyi, _, rfl, l, ys[i], ks[i], ox, o, m, rfl, w4, ski, oki, pbi, Sx.same s4 _ ho3, oko, pbo, fun v e' H5 b5 w5 oke pbe hv => ?_⟩
            have t5 := well_t b5 w4
            refine ⟨sm (show 1 ≤ 1000 by decide), fun p6 hp6 => ?_⟩
            generalize hH6 : upd H5 p6 _ = H6
            have s6 : Same H5 H6 := hH6 ▸ same_new hp6
            have ep6 : H6 p6 = some (.tup [v]) := hH6 ▸ upd_same
            refine catU_of (s6 _ _ (t5 _ _ ep4)) ep6 (by rw [List.length_take]; show _ + 1 ≤ 1000; omega) fun p7 H7 s7 ep7 => ?_
            have s57 := s6.trans s7
            refine ⟨_, rfl, a, _, _, .ref kb, rfl, rfl, SqT.of (s57 _ _ (t5 _ _ (s4 _ _ e3))), rfl, _, rfl, _, _, rfl, rfl, _, rfl, kb, ys, rfl, SqT.of (s57 _ _ (t5 _ _ ek4)), ?_, fun p8 hp8 => ?_⟩
            · rintro ⟨z', _⟩
              rw [show ((i : Nat) : Int) + 1 = ((i + 1 : Nat) : Int) by omega, HT.sIx_nat] at z'
              omega
            rw [show ((i : Nat) : Int) + 1 = ((i + 1 : Nat) : Int) by omega, cutV_drop]
            generalize hH8 : upd H7 p8 _ = H8
            have s8 : Same H7 H8 := hH8 ▸ same_new hp8
            have ep8 : H8 p8 = some (.tup (ys.drop (i + 1))) := hH8 ▸ upd_same
            refine catU_of (s8 _ _ ep7) ep8 (by simp only [List.length_append, List.length_take, List.length_drop, List.length_cons, List.length_nil]; omega) fun p9 H9 s9 ep9 => ?_
            refine ⟨sm (show 2 ≤ 1000 by decide), fun p10 hp10 => ?_⟩
            have s10 := same_new (o := .tup [.str z, .ref p9]) hp10
            have s510 := ((s57.trans s8).trans s9).trans s10
            have hks5 := SxAll.but3 b5 w4 _ (by rw [okDs_all]; exact List.all_eq_true.mpr okks) hks4
            have hnew : SxAll (upd H9 p10 (.tup [.str z, .ref p9])) ((ks.take i ++ [e']) ++ ks.drop (i + 1)) ((ys.take i ++ [v]) ++ ys.drop (i + 1)) :=
              SxAll.app (SxAll.app (SxAll.take i (SxAll.same s510 _ hks5)) (sx_cons (Sx.same s510 _ hv) sx_nil)) (SxAll.drop (i + 1) (SxAll.same s510 _ hks5))
            have hmem : ∀ d ∈ (ks.take i ++ [e']) ++ ks.drop (i + 1), d = e' ∨ d ∈ ks := fun d hd => by
              rcases List.mem_append.mp hd with hd | hd
              · rcases List.mem_append.mp hd with hd | hd
                · exact .inr (List.mem_of_mem_take hd)
                · exact .inl (List.mem_singleton.mp hd)
              · exact .inr (List.mem_of_mem_drop hd)
            refine q _ (.tuple [.str z, .tuple ((ks.take i ++ [e']) ++ ks.drop (i + 1))]) _ ((((b2.trans b3).trans s4.but).trans b5).trans s510.but) (w5.same s510) (okD_tup.mpr ⟨by simp, fun d hd => ?_⟩) ?_ (sx_tup upd_same (sx_cons (sx_str zz) (sx_cons (sx_tup (s10 _ _ ep9) hnew) sx_nil)))
            · simp only [List.mem_cons, List.not_mem_nil, or_false] at hd
              rcases hd with rfl | rfl
              · exact okz
              · refine okD_tup.mpr ⟨by simp only [List.length_append, List.length_take, List.length_drop, List.length_cons, List.length_nil]; omega, fun d hd => ?_⟩
                rcases hmem d hd with rfl | hd
                · exact oke
                · exact okks d hd
            · rw [show n + 1 + m = (n + m) + 1 by omega, pb_both hz, List.all_eq_true]
              intro d hd
              rcases hmem d hd with rfl | hd
              · exact pbe
              · exact pb_mono (List.all_eq_true.mp pbd d hd) m
        · rintro σ' H' ⟨⟨v3, rfl⟩, b', w', ho'⟩
          exact ⟨_, rfl, fin H' b' w' ho'⟩
end
end My
set_option Elab.async false
set_option linter.all false
set_option maxRecDepth 100000
set_option maxHeartbeats 4000000
namespace My
open PySem L2
/-- towers -/
def tow (o : Str) (s : PyData) : Nat → PyData
  | 0 => s
  | n + 1 => if o = "not" then .tuple [.str "not", tow o s n] else .tuple [.str o, .tuple [tow o s n]]
def TowW (o : Str) : Prop := o = "not" ∨ o = "and" ∨ o = "or"
def TowB (s : PyData) : Prop := s = .tuple [.str "every"] ∨ s = .tuple [.str "and", .tuple []] ∨ s = .tuple [.str "key", .tuple [.str "a"]]
theorem tow_in {o : Str} (ho : TowW o) (s : PyData) (n : Nat) : inD (tow o s (n + 1)) = [tow o s n] := by
  show inD (if o = "not" then .tuple [.str "not", tow o s n] else .tuple [.str o, .tuple [tow o s n]]) = _
  rcases ho with rfl | rfl | rfl <;> rfl
theorem tow_formed {cs : List (Str × Str)} {o : Str} (ho : TowW o) (s : PyData) (n : Nat) : formedD cs (tow o s (n + 1)) = true := by
  show formedD cs (if o = "not" then .tuple [.str "not", tow o s n] else .tuple [.str o, .tuple [tow o s n]]) = _
  rcases ho with rfl | rfl | rfl <;> rfl
theorem base_in {s : PyData} (hs : TowB s) : inD s = [] := by rcases hs with rfl | rfl | rfl <;> rfl
theorem base_formed {cs : List (Str × Str)} {s : PyData} (hs : TowB s) : formedD cs s = true := by
  rcases hs with rfl | rfl | rfl
  · rfl
  · rfl
  · show keysD (.tuple [.str "a"]) = true
    decide +kernel
theorem tow_wf {cs : List (Str × Str)} {o : Str} {s : PyData} (ho : TowW o) (hs : TowB s) : ∀ n k : Nat, wfN cs k (tow o s n) = decide (n + 1 ≤ k)
  | n, 0 => (decide_eq_false (by omega)).symm
  | 0, k + 1 => by
    show (formedD cs s && (inD s).all _) = _
    rw [base_formed hs, base_in hs, decide_eq_true (by omega)]
    rfl
  | n + 1, k + 1 => by
    show (formedD cs (tow o s (n + 1)) && (inD (tow o s (n + 1))).all _) = _
    rw [tow_formed ho, tow_in ho, Bool.true_and, List.all_cons, List.all_nil, Bool.and_true, tow_wf ho hs n k]
    by_cases h : n + 1 ≤ k
    · rw [decide_eq_true h, decide_eq_true (by omega)]
    · rw [decide_eq_false h, decide_eq_false (by omega)]
theorem tow_sz {o : Str} {s : PyData} (ho : TowW o) (hs : TowB s) : ∀ n k : Nat, szN k (tow o s n) ≤ k
  | n, 0 => Nat.le_refl 0
  | 0, k + 1 => by
    show 1 + ((inD s).map _).sum ≤ _
    rw [base_in hs]
    show 1 + 0 ≤ k + 1
    omega
  | n + 1, k + 1 => by
    show 1 + ((inD (tow o s (n + 1))).map _).sum ≤ _
    rw [tow_in ho]
    have := tow_sz ho hs n k
    simp only [List.map_cons, List.map_nil, List.sum_cons, List.sum_nil, Nat.add_zero]
    omega
theorem tow_good {cs : List (Str × Str)} {o : Str} {s : PyData} (ho : TowW o) (hs : TowB s) (n : Nat) : goodD cs (tow o s n) = decide (n + 1 ≤ 8) := by
  unfold goodD
  have := tow_sz ho hs n 8
  rw [tow_wf ho hs, decide_eq_true (show szN 8 (tow o s n) ≤ 200 by omega), Bool.and_true]
def feet : List PyData := [.tuple [.str "every"], .tuple [.str "and", .tuple []], .tuple [.str "key", .tuple [.str "a"]]]
theorem Md.list3 {σ : St} {H : Hp} : Md (tLst (tCons (tTup (tCons (tC (.str "every")) tNil)) (tCons (tTup (tCons (tC (.str "and")) (tCons (tTup tNil) tNil))) (tCons (tTup (tCons (tC (.str "key")) (tCons (tTup (tCons (tC (.str "a")) tNil)) tNil))) tNil)))) σ H (.list feet) :=
  mk_lst (mkA_cons (mk_tup (mkA_cons (mk_str (by decide)) mkA_nil) (by decide)) (mkA_cons (mk_tup (mkA_cons (mk_str (by decide)) (mkA_cons (mk_tup mkA_nil (by decide)) mkA_nil)) (by decide)) (mkA_cons (mk_tup (mkA_cons (mk_str (by decide)) (mkA_cons (mk_tup (mkA_cons (mk_str (by decide)) mkA_nil) (by decide)) mkA_nil)) (by decide)) mkA_nil))) (by decide)
theorem rd_first {r : R2} {te tb : TE} {rest : TS} {D : Ends} {σ : St} {H : Hp} {i : Nat} {d : PyData} (h : Md te σ H d) (k : ∀ v H2, Same H H2 → Sx H2 d v → tb σ H2 fun u H3 => r v u H3 fun x H4 => rest D (σ.set i (some x)) H4) : tSeq (tAsg (tOp r te tb) (gName i)) rest D σ H := h H (Same.refl H) _ k
def spTower : Sp := fun vs H Q _ => ∃ l : Addr, vs = [.ref l] ∧ WellAt H l ∧ ∀ p x d (n : Nat) H', But [l] H H' → WellAt H' l → H' p = some (.tup [x, .int ((n : Nat) : Int)]) → Sx H' d x → (∀ cs, goodD cs d = decide (n ≤ 8)) → Q (.ref p) H'
section
variable {P : Program} {w : World} {K : PySem.W.Frag} {mg : Str → Option Value} {base : Heap} {t : Adr}
theorem ok_tower (T : Txt w K mg t) : FnOk P w K mg base CX0 2 t.f_l_tower t.d_l_tower ["_law_well_here"] spTower := by
  have G_l_draw : FnOk P w K mg base CX0 1 t.f_l_draw t.d_l_draw ["_law_well_here", "_law_most"] spDraw := ok_draw T
  refine T.F_l_tower.ok sc_l_tower (fun vs H Q E h => ?_) (fun cdv A outer s H vs Q E hr h => ?_)
  · obtain ⟨l, rfl, _⟩ := h
    rfl
  · obtain ⟨l, rfl, hw, q⟩ := h
    refine ⟨_, (@pss_cons _ _ _ _ _ (@ps_set _ _ (1) _ _ _ _ sc_l_tower.nd (by rfl) (by first | exact Or.inl rfl | exact Or.inr rfl) (@pe_ix _ _ _ _ _ _ _ ix_list (@pe_lst _ _ _ _ (@pa2 _ _ _ _ _ (@pe_op _ _ _ _ _ _ _ _ op_add pe_int (@pe_call _ _ _ _ _ _ _ _ _ _ _ _ _ _ _ _ (G_l_draw.mono (by decide)) hr (by rfl) T.mg_l_draw T.F_l_draw.kp T.b_l_draw .nil pass0 (@pa2 _ _ _ _ _ (@pv _ 0 _ _ (by rfl) (by first | exact Or.inl rfl | exact Or.inr (Or.inl rfl) | exact Or.inr (Or.inr rfl)) (by decide) (by decide)) (@pa2 _ _ _ _ _ pe_int pa_nil (by rfl)) (by rfl)) (by decide) (by rfl) (by rfl))) (@pa2 _ _ _ _ _ pe_int (@pa2 _ _ _ _ _ pe_int pa_nil (by rfl)) (by rfl)) (by rfl))) (@pe_op _ _ _ _ _ _ _ _ op_fdivL (@pe_call _ _ _ _ _ _ _ _ _ _ _ _ _ _ _ _ (G_l_draw.mono (by decide)) hr (by rfl) T.mg_l_draw T.F_l_draw.kp T.b_l_draw .nil pass0 (@pa2 _ _ _ _ _ (@pv _ 0 _ _ (by rfl) (by first | exact Or.inl rfl | exact Or.inr (Or.inl rfl) | exact Or.inr (Or.inr rfl)) (by decide) (by decide)) (@pa2 _ _ _ _ _ pe_int pa_nil (by rfl)) (by rfl)) (by decide) (by rfl) (by rfl)) pe_int) (fun _ _ => rfl)) (by rfl) (by first | exact .inl rfl | exact .inr rfl | assumption)) (@pss_cons _ _ _ _ _ (@ps_set _ _ (2) _ _ _ _ sc_l_tower.nd (by rfl) (by first | exact Or.inl rfl | exact Or.inr rfl) (@pe_ix _ _ _ _ _ _ _ ix_list (@pe_lst _ _ _ _ (@pa2 _ _ _ _ _ (@pe_tup _ _ _ _ _ (@pa2 _ _ _ _ _ pe_str pa_nil (by rfl))) (@pa2 _ _ _ _ _ (@pe_tup _ _ _ _ _ (@pa2 _ _ _ _ _ pe_str (@pa2 _ _ _ _ _ (@pe_tup _ _ _ _ _ pa_nil) pa_nil (by rfl)) (by rfl))) (@pa2 _ _ _ _ _ (@pe_tup _ _ _ _ _ (@pa2 _ _ _ _ _ pe_str (@pa2 _ _ _ _ _ (@pe_tup _ _ _ _ _ (@pa2 _ _ _ _ _ pe_str pa_nil (by rfl))) pa_nil (by rfl)) (by rfl))) pa_nil (by rfl)) (by rfl)) (by rfl))) (@pe_call _ _ _ _ _ _ _ _ _ _ _ _ _ _ _ _ (G_l_draw.mono (by decide)) hr (by rfl) T.mg_l_draw T.F_l_draw.kp T.b_l_draw .nil pass0 (@pa2 _ _ _ _ _ (@pv _ 0 _ _ (by rfl) (by first | exact Or.inl rfl | exact Or.inr (Or.inl rfl) | exact Or.inr (Or.inr rfl)) (by decide) (by decide)) (@pa2 _ _ _ _ _ pe_int pa_nil (by rfl)) (by rfl)) (by decide) (by rfl) (by rfl)) (fun _ _ => rfl)) (by rfl) (by first | exact .inl rfl | exact .inr rfl | assumption)) (@pss_cons _ _ _ _ _ (@ps_set _ _ (3) _ _ _ _ sc_l_tower.nd (by rfl) (by first | exact Or.inl rfl | exact Or.inr rfl) (@pe_ix _ _ _ _ _ _ _ ix_list (@pe_lst _ _ _ _ (@pa2 _ _ _ _ _ pe_str (@pa2 _ _ _ _ _ pe_str (@pa2 _ _ _ _ _ pe_str pa_nil (by rfl)) (by rfl)) (by rfl))) (@pe_call _ _ _ _ _ _ _ _ _ _ _ _ _ _ _ _ (G_l_draw.mono (by decide)) hr (by rfl) T.mg_l_draw T.F_l_draw.kp T.b_l_draw .nil pass0 (@pa2 _ _ _ _ _ (@pv _ 0 _ _ (by rfl) (by first | exact Or.inl rfl | exact Or.inr (Or.inl rfl) | exact Or.inr (Or.inr rfl)) (by decide) (by decide)) (@pa2 _ _ _ _ _ pe_int pa_nil (by rfl)) (by rfl)) (by decide) (by rfl) (by rfl)) (fun _ _ => rfl)) (by rfl) (by first | exact .inl rfl | exact .inr rfl | assumption)) (@pss_cons _ _ _ _ _ (@ps_cut _ _ _ (@ps_for _ _ _ _ _ _ _ _ PassesOwn.never rfl (@pi_range1 _ _ _ _ _ _ (by rfl) T.n_range (@pa2 _ _ _ _ _ (@pv _ 1 _ _ (by rfl) (by first | exact Or.inl rfl | exact Or.inr (Or.inl rfl) | exact Or.inr (Or.inr rfl)) (by decide) (by decide)) pa_nil (by rfl)) (by rfl)) (@pg_name _ _ (4) _ sc_l_tower.nd (by rfl) (by first | exact Or.inl rfl | exact Or.inr rfl) (by first | exact .inl rfl | exact .inr rfl | assumption)) (@pss_one _ _ _ (@ps_if _ _ _ _ _ _ _ _ (@pt_cmpR _ _ _ _ _ _ _ _ op_eq (@pv _ 3 _ _ (by rfl) (by first | exact Or.inl rfl | exact Or.inr (Or.inl rfl) | exact Or.inr (Or.inr rfl)) (by decide) (by decide)) pe_str (nomark _)) (@pss_one _ _ _ (@ps_set _ _ (2) _ _ _ _ sc_l_tower.nd (by rfl) (by first | exact Or.inl rfl | exact Or.inr rfl) (@pe_tup _ _ _ _ _ (@pa2 _ _ _ _ _ pe_str (@pa2 _ _ _ _ _ (@pv _ 2 _ _ (by rfl) (by first | exact Or.inl rfl | exact Or.inr (Or.inl rfl) | exact Or.inr (Or.inr rfl)) (by decide) (by decide)) pa_nil (by rfl)) (by rfl))) (by rfl) (by first | exact .inl rfl | exact .inr rfl | assumption))) (@pss_one _ _ _ (@ps_set _ _ (2) _ _ _ _ sc_l_tower.nd (by rfl) (by first | exact Or.inl rfl | exact Or.inr rfl) (@pe_tup _ _ _ _ _ (@pa2 _ _ _ _ _ (@pv _ 3 _ _ (by rfl) (by first | exact Or.inl rfl | exact Or.inr (Or.inl rfl) | exact Or.inr (Or.inr rfl)) (by decide) (by decide)) (@pa2 _ _ _ _ _ (@pe_tup _ _ _ _ _ (@pa2 _ _ _ _ _ (@pv _ 2 _ _ (by rfl) (by first | exact Or.inl rfl | exact Or.inr (Or.inl rfl) | exact Or.inr (Or.inr rfl)) (by decide) (by decide)) pa_nil (by rfl))) pa_nil (by rfl)) (by rfl))) (by rfl) (by first | exact .inl rfl | exact .inr rfl | assumption))))) (by intro _; rfl))) (@pss_one _ _ _ (@ps_ret _ _ _ _ (@pe_tup _ _ _ _ _ (@pa2 _ _ _ _ _ (@pv _ 2 _ _ (by rfl) (by first | exact Or.inl rfl | exact Or.inr (Or.inl rfl) | exact Or.inr (Or.inr rfl)) (by decide) (by decide)) (@pa2 _ _ _ _ _ (@pe_op _ _ _ _ _ _ _ _ op_add pe_int (@pv _ 1 _ _ (by rfl) (by first | exact Or.inl rfl | exact Or.inr (Or.inl rfl) | exact Or.inr (Or.inr rfl)) (by decide) (by decide))) pa_nil (by rfl)) (by rfl))))))))), ?_⟩
    -- how many
    refine ⟨_, rfl, l, 5, rfl, by decide, by decide, hw, fun m1 H1 m10 m11 b1 w1 => ⟨_, _, rfl, rfl, sm (show 3 ≤ 1000 by decide), fun p2 hp2 => ?_⟩⟩
    generalize hH2 : upd H1 p2 _ = H2
    have s2 : Same H1 H2 := hH2 ▸ same_new hp2
    have ep2 : H2 p2 = some (.lst [.int (5 + m1), .int 9000, .int 2500]) := hH2 ▸ upd_same
    have n2 := w1.ne hp2
    have w2 := w1.same s2
    refine ⟨_, rfl, l, 9, rfl, by decide, by decide, w2, fun m3 H3 m30 m31 b3 w3 => ⟨_, _, rfl, rfl, ⟨by decide, by decide⟩, ?_⟩⟩
    have ep3 := b3 _ _ ep2 (by simp [n2])
    obtain ⟨y, hy, ay, _⟩ := at_of (l := [V.int (5 + m1), .int 9000, .int 2500]) (n := m3 / 4) (by omega) (by simp only [List.length_cons, List.length_nil]; omega)
    obtain ⟨many, rfl, hm⟩ : ∃ many : Nat, y = .int (many : Nat) ∧ many ≤ 9000 := by
      simp only [List.mem_cons, List.not_mem_nil, or_false] at hy
      rcases hy with rfl | rfl | rfl
      · exact ⟨(5 + m1).toNat, by rw [Int.toNat_of_nonneg (by omega)], by omega⟩
      · exact ⟨9000, rfl, by omega⟩
      · exact ⟨2500, rfl, by omega⟩
    refine ⟨p2, _, _, _, rfl, rfl, SqL.of ep3, ay, ?_⟩
    have b03 : But [l] H H3 := (b1.trans s2.but).trans b3
    -- its foot
    refine rd_first (Md.list3 : Md _ _ H3 (.list feet)) fun v4 H4 s4 hv4 => ?_
    have w4 := w3.same s4
    obtain ⟨a4, xs4, rfl, e4, hall4⟩ := hv4.lst
    have n4 : a4 ≠ l := fun z => by
      subst z
      obtain ⟨f1, f2, f3, ef⟩ := w4
      rw [ef] at e4
      cases e4
      obtain ⟨f, fs, ee, sf, _⟩ := hall4.cons
      cases ee
      obtain ⟨_, _, ez, _⟩ := sf.tup
      cases ez
    have l4 : xs4.length = 3 := hall4.len.symm
    refine ⟨_, rfl, l, 3, rfl, by decide, by decide, w4, fun m5 H5 m50 m51 b5 w5 => ?_⟩
    obtain ⟨x5, _, ax5, i5, ei5, exi5⟩ := at_of (l := xs4) (n := m5) m50 (by rw [l4]; exact m51)
    have hi5 : i5 < 3 := by rw [← l4]; exact (List.getElem?_eq_some_iff.mp exi5).1
    obtain ⟨s, hs, hsd⟩ : ∃ s, TowB s ∧ feet[i5]? = some s := by
      match i5, hi5 with
      | 0, _ => exact ⟨_, .inl rfl, rfl⟩
      | 1, _ => exact ⟨_, .inr (.inl rfl), rfl⟩
      | 2, _ => exact ⟨_, .inr (.inr rfl), rfl⟩
    have oks : okD s = true := by rcases hs with rfl | rfl | rfl <;> decide +kernel
    have sx5 : Sx H5 s x5 := Sx.but3 b5 w4 _ oks (SxAll.get i5 hall4 exi5 hsd)
    refine ⟨a4, xs4, _, x5, rfl, rfl, SqL.of (b5 _ _ e4 (by simp [n4])), ax5, ?_⟩
    have b05 : But [l] H H5 := (b03.trans s4.but).trans b5
    -- its word
    refine ⟨sm (show 3 ≤ 1000 by decide), fun p6 hp6 => ?_⟩
    generalize hH6 : upd H5 p6 _ = H6
    have s6 : Same H5 H6 := hH6 ▸ same_new hp6
    have ep6 : H6 p6 = some (.lst [.str "not", .str "and", .str "or"]) := hH6 ▸ upd_same
    have n6 := w5.ne hp6
    have w6 := w5.same s6
    refine ⟨_, rfl, l, 3, rfl, by decide, by decide, w6, fun m7 H7 m70 m71 b7 w7 => ?_⟩
    obtain ⟨y7, hy7, ay7, _⟩ := at_of (l := [V.str "not", .str "and", .str "or"]) (n := m7) m70 m71
    obtain ⟨o, rfl, ho⟩ : ∃ o, y7 = .str o ∧ TowW o := by
      simp only [List.mem_cons, List.not_mem_nil, or_false] at hy7
      rcases hy7 with rfl | rfl | rfl
      · exact ⟨_, rfl, .inl rfl⟩
      · exact ⟨_, rfl, .inr (.inl rfl)⟩
      · exact ⟨_, rfl, .inr (.inr rfl)⟩
    refine ⟨p6, _, _, _, rfl, rfl, SqL.of (b7 _ _ ep6 (by simp [n6])), ay7, ?_⟩
    have b07 : But [l] H H7 := (b05.trans s6.but).trans b7
    have sx7 : Sx H7 s x5 := Sx.but3 b7 w6 _ oks (Sx.same s6 _ sx5)
    -- up
    refine ⟨fun σ' H' => ∃ x k, σ' = [some (.ref l), some (.int (many : Nat)), some x, some (.str o), k] ∧ But [l] H H' ∧ WellAt H' l ∧ Sx H' (tow o s many) x, ?_, ?_⟩
    · refine ⟨_, rfl, _, rfl, by omega, by omega, ?_⟩
      rw [Int.toNat_natCast]
      refine for_range (fun i σ' H' => ∃ x k, σ' = [some (.ref l), some (.int (many : Nat)), some x, some (.str o), k] ∧ But [l] H H' ∧ WellAt H' l ∧ Sx H' (tow o s i) x) ⟨x5, _, rfl, b07, w7, sx7⟩ ?_ (fun σ' H' h => h)
      rintro i σ' H' hi ⟨x, k, rfl, b8, w8, hx8⟩
      refine ⟨_, rfl, rfl, _, rfl, ?_⟩
      rw [dec_str]
      refine ifb (fun h1 => ?_) (fun h1 => ?_)
      · have h1 : o = "not" := of_decide_eq_true h1
        refine ⟨_, rfl, sm (show 2 ≤ 1000 by decide), fun p hp => ?_⟩
        have s9 := same_new (o := .tup [.str "not", x]) hp
        refine ⟨.ref p, _, rfl, b8.trans s9.but, w8.same s9, ?_⟩
        show Sx _ (if o = "not" then .tuple [.str "not", tow o s i] else .tuple [.str o, .tuple [tow o s i]]) _
        rw [if_pos h1]
        exact sx_tup upd_same (sx_cons (sx_str (sm (by decide))) (sx_cons (Sx.same s9 _ hx8) sx_nil))
      · have h1 : o ≠ "not" := of_decide_eq_false h1
        refine ⟨_, rfl, _, rfl, sm (show 1 ≤ 1000 by decide), fun p hp => ⟨sm (show 2 ≤ 1000 by decide), fun p' hp' => ?_⟩⟩
        have s9 := same_new (o := .tup [x]) hp
        have s10 := same_new (o := .tup [.str o, .ref p]) hp'
        refine ⟨.ref p', _, rfl, (b8.trans s9.but).trans s10.but, (w8.same s9).same s10, ?_⟩
        show Sx _ (if o = "not" then .tuple [.str "not", tow o s i] else .tuple [.str o, .tuple [tow o s i]]) _
        rw [if_neg h1]
        have zo : o.cps.size ≤ sizeLine := by rcases ho with rfl | rfl | rfl <;> exact sm (by decide)
        exact sx_tup upd_same (sx_cons (sx_str zo) (sx_cons (sx_tup (s10 _ _ upd_same) (sx_cons (Sx.same (s9.trans s10) _ hx8) sx_nil)) sx_nil))
    · rintro σ' H' ⟨x, k, rfl, b8, w8, hx8⟩
      refine ⟨_, rfl, _, rfl, _, _, rfl, rfl, sm (show 2 ≤ 1000 by decide), fun p hp => ?_⟩
      have s9 := same_new (o := .tup [x, .int (1 + (many : Nat))]) hp
      refine q p x _ (many + 1) _ (b8.trans s9.but) (w8.same s9) ?_ (Sx.same s9 _ hx8) (fun cs => tow_good ho hs many)
      rw [upd_same]
      dsimp only
      rw [show (1 : Int) + (many : Nat) = ((many + 1 : Nat) : Int) by omega]
end
end My
set_option Elab.async false
set_option linter.all false
set_option maxRecDepth 100000
set_option maxHeartbeats 4000000
namespace My
open PySem L2
/-- wide ones: and / or of things of the next depth -/
def WdN : Nat → PyData → Prop
  | 0, d => d = .tuple [.str "every"]
  | n + 1, d => ∃ z es, d = .tuple [.str z, .tuple es] ∧ (z = "and" ∨ z = "or") ∧ es.length ≤ 8 ∧ ∀ e ∈ es, WdN n e
theorem wd_ok : ∀ {n : Nat} {d : PyData}, WdN n d → okD d = true ∧ flatT d = true
  | 0, d, h => by
    have h : d = .tuple [.str "every"] := h
    subst h
    exact ⟨by decide +kernel, by simp [flatT, flatTs]⟩
  | n + 1, d, h => by
    obtain ⟨z, es, rfl, hz, hl, h⟩ := h
    refine ⟨okD_tup.mpr ⟨by simp, fun d hd => ?_⟩, ?_⟩
    · simp only [List.mem_cons, List.not_mem_nil, or_false] at hd
      rcases hd with rfl | rfl
      · rcases hz with rfl | rfl <;> decide +kernel
      · exact okD_tup.mpr ⟨by omega, fun e he => (wd_ok (h e he)).1⟩
    · have : flatTs es = true := flat_all fun e he => (wd_ok (h e he)).2
      simp [flatT, flatTs, this]
theorem wd_wf {cs : List (Str × Str)} : ∀ {n : Nat} {d : PyData}, WdN n d → ∀ k, wfN cs (n + 1 + k) d = true
  | 0, d, h, k => by
    have h : d = .tuple [.str "every"] := h
    subst h
    rw [show 0 + 1 + k = k + 1 by omega]
    rfl
  | n + 1, d, h, k => by
    obtain ⟨z, es, rfl, hz, hl, h⟩ := h
    have hb : bothW z = true := by rcases hz with rfl | rfl <;> rfl
    have hk : z ≠ "key" := by rcases hz with rfl | rfl <;> decide
    rw [show n + 1 + 1 + k = (n + 1 + k) + 1 by omega]
    show (formedD cs (.tuple [.str z, .tuple es]) && (inD (.tuple [.str z, .tuple es])).all (wfN cs (n + 1 + k))) = true
    rw [in_both hb, Bool.and_eq_true]
    refine ⟨?_, List.all_eq_true.mpr fun e he => wd_wf (h e he) k⟩
    show (if z = "key" then keysD (.tuple es) else if bothW z then shortD (.tuple es) else decide (z = "not")) = true
    rw [if_neg hk, if_pos hb]
    exact decide_eq_true hl
theorem flat_wds {n : Nat} {ds : List PyData} (h : ∀ d ∈ ds, WdN n d) : flatTs ds = true := flat_all fun d hd => (wd_ok (h d hd)).2
theorem cut_sx {H : Hp} {ds : List PyData} {xs : List V} (h : SxAll H ds xs) (i : Nat) : ∃ es, SxAll H es (cutV xs (some ((8 * i : Nat) : Int)) (some ((8 * i + 8 : Nat) : Int))) ∧ es.length ≤ 8 ∧ ∀ e ∈ es, e ∈ ds := by
  unfold cutV
  refine ⟨_, SxAll.take _ (SxAll.drop _ h), ?_, fun e he => List.mem_of_mem_drop (List.mem_of_mem_take he)⟩
  rw [HT.sIx_nat, HT.sIx_nat, List.length_take]
  omega
theorem mk_every {σ : St} {H : Hp} : Md (tTup (tCons (tTup (tCons (tC (.str "every")) tNil)) tNil)) σ H (.tuple [.tuple [.str "every"]]) := mk_tup (mkA_cons (mk_tup (mkA_cons (mk_str (by decide)) mkA_nil) (by decide)) mkA_nil) (by decide)
theorem mk_mulU1 {σ : St} {H : Hp} {te tb : TE} {d : PyData} {n : Nat} (h : Md te σ H (.tuple [d])) (k : Md tb σ H (.int (n : Nat))) (h1 : 1 ≤ n) (h2 : n ≤ 1000) : Md (tOp rMulU te tb) σ H (.tuple (List.replicate n d)) := by
  by_cases hn : 2 ≤ n
  · exact mk_mulU h k hn h2
  · have : n = 1 := by omega
    subst this
    exact fun H1 s1 R q => h H1 s1 _ fun v H2 s2 hv => k H2 (s1.trans s2) _ fun u H3 s3 hu => by
      obtain ⟨a, xs, rfl, ea, ha⟩ := hv.tup
      obtain ⟨x, ys, rfl, sx, hn⟩ := ha.cons
      have := hn.nil
      subst this
      have hu : u = .int ((1 : Nat) : Int) := by simpa only [Sx] using hu
      exact ⟨a, x, ((1 : Nat) : Int), rfl, hu, s3 _ _ ea, by omega, by omega, fun _ => q _ _ (s2.trans s3) (sx_tup (s3 _ _ ea) (sx_cons (Sx.same s3 _ sx) sx_nil)), fun z => by omega⟩
theorem rd_cons1 {te : TE} {σ : St} {H : Hp} {R : List V → Hp → Prop} {d : PyData} (h : Md te σ H d) (k : ∀ v H2, Same H H2 → Sx H2 d v → R [v] H2) : tCons te tNil σ H R := h H (Same.refl H) _ k
def spWide : Sp := fun vs H Q _ => ∃ m : Nat, vs = [.int (m : Nat)] ∧ m ≤ 189 ∧ ∀ v d H', Same H H' → WdN 3 d → Sx H' d v → Q v H'
section
variable {P : Program} {w : World} {K : PySem.W.Frag} {mg : Str → Option Value} {base : Heap} {t : Adr}
theorem ok_wide (T : Txt w K mg t) : FnOk P w K mg base CX0 1 t.f_l_wide t.d_l_wide ["_law_many"] spWide := by
  refine T.F_l_wide.ok sc_l_wide (fun vs H Q E h => ?_) (fun cdv A outer s H vs Q E hr h => ?_)
  · obtain ⟨m, rfl, _⟩ := h
    rfl
  · obtain ⟨m, rfl, hm, q⟩ := h
    refine ⟨_, (@pss_cons _ _ _ _ _ (@ps_set _ _ (1) _ _ _ _ sc_l_wide.nd (by rfl) (by first | exact Or.inl rfl | exact Or.inr rfl) (@pe_lst _ _ _ _ pa_nil) (by rfl) (by first | exact .inl rfl | exact .inr rfl | assumption)) (@pss_cons _ _ _ _ _ (@ps_cut _ _ _ (@ps_while _ _ _ _ _ _ PassesOwn.never (@pt_cmpR _ _ _ _ _ _ _ _ op_gt (@pv _ 0 _ _ (by rfl) (by first | exact Or.inl rfl | exact Or.inr (Or.inl rfl) | exact Or.inr (Or.inr rfl)) (by decide) (by decide)) pe_int (nomark _)) (@pss_cons _ _ _ _ _ (@ps_set _ _ (2) _ _ _ _ sc_l_wide.nd (by rfl) (by first | exact Or.inl rfl | exact Or.inr rfl) (@pe_callB _ _ _ _ _ _ _ _ _ (call_min2 rfl) (by rfl) T.n_min bt_min (@pa2 _ _ _ _ _ (@pv _ 0 _ _ (by rfl) (by first | exact Or.inl rfl | exact Or.inr (Or.inl rfl) | exact Or.inr (Or.inr rfl)) (by decide) (by decide)) (@pa2 _ _ _ _ _ pe_int pa_nil (by rfl)) (by rfl)) (by decide) (by decide) (by rfl) (by rfl)) (by rfl) (by first | exact .inl rfl | exact .inr rfl | assumption)) (@pss_cons _ _ _ _ _ (@ps_set _ _ (0) _ _ _ _ sc_l_wide.nd (by rfl) (by first | exact Or.inl rfl | exact Or.inr rfl) (@pe_op _ _ _ _ _ _ _ _ op_sub (@pv _ 0 _ _ (by rfl) (by first | exact Or.inl rfl | exact Or.inr (Or.inl rfl) | exact Or.inr (Or.inr rfl)) (by decide) (by decide)) (@pv _ 2 _ _ (by rfl) (by first | exact Or.inl rfl | exact Or.inr (Or.inl rfl) | exact Or.inr (Or.inr rfl)) (by decide) (by decide))) (by rfl) (by first | exact .inl rfl | exact .inr rfl | assumption)) (@pss_one _ _ _ (@ps_expr _ _ _ _ (@pe_bm _ _ _ _ _ _ _ _ _ _ _ _ PySem.F.plainAttrs_list PySem.F.slot_list_append PySem.F.type_list_append mt_append (@pv _ 1 _ _ (by rfl) (by first | exact Or.inl rfl | exact Or.inr (Or.inl rfl) | exact Or.inr (Or.inr rfl)) (by decide) (by decide)) (@pa2 _ _ _ _ _ (@pe_tup _ _ _ _ _ (@pa2 _ _ _ _ _ pe_str (@pa2 _ _ _ _ _ (@pe_op _ _ _ _ _ _ _ _ op_mulU (@pe_tup _ _ _ _ _ (@pa2 _ _ _ _ _ (@pe_tup _ _ _ _ _ (@pa2 _ _ _ _ _ pe_str pa_nil (by rfl))) pa_nil (by rfl))) (@pv _ 2 _ _ (by rfl) (by first | exact Or.inl rfl | exact Or.inr (Or.inl rfl) | exact Or.inr (Or.inr rfl)) (by decide) (by decide))) pa_nil (by rfl)) (by rfl))) pa_nil (by rfl)) (by rfl) (by rfl) (by rfl) (by rfl) (by rfl)) (by rfl))))))) (@pss_cons _ _ _ _ _ (@ps_set _ _ (3) _ _ _ _ sc_l_wide.nd (by rfl) (by first | exact Or.inl rfl | exact Or.inr rfl) (@pe_lst _ _ _ _ pa_nil) (by rfl) (by first | exact .inl rfl | exact .inr rfl | assumption)) (@pss_cons _ _ _ _ _ (@ps_cut _ _ _ (@ps_for _ _ _ _ _ _ _ _ PassesOwn.never rfl (@pi_range3 _ _ _ _ _ _ _ _ (by rfl) T.n_range (@pa2 _ _ _ _ _ pe_int (@pa2 _ _ _ _ _ (@pe_callB _ _ _ _ _ _ _ _ _ call_len (by rfl) T.n_len bt_len (@pa2 _ _ _ _ _ (@pv _ 1 _ _ (by rfl) (by first | exact Or.inl rfl | exact Or.inr (Or.inl rfl) | exact Or.inr (Or.inr rfl)) (by decide) (by decide)) pa_nil (by rfl)) (by decide) (by decide) (by rfl) (by rfl)) (@pa2 _ _ _ _ _ pe_int pa_nil (by rfl)) (by rfl)) (by rfl)) (by rfl) (by rfl)) (@pg_name _ _ (4) _ sc_l_wide.nd (by rfl) (by first | exact Or.inl rfl | exact Or.inr rfl) (by first | exact .inl rfl | exact .inr rfl | assumption)) (@pss_one _ _ _ (@ps_expr _ _ _ _ (@pe_bm _ _ _ _ _ _ _ _ _ _ _ _ PySem.F.plainAttrs_list PySem.F.slot_list_append PySem.F.type_list_append mt_append (@pv _ 3 _ _ (by rfl) (by first | exact Or.inl rfl | exact Or.inr (Or.inl rfl) | exact Or.inr (Or.inr rfl)) (by decide) (by decide)) (@pa2 _ _ _ _ _ (@pe_tup _ _ _ _ _ (@pa2 _ _ _ _ _ pe_str (@pa2 _ _ _ _ _ (@pe_callTy _ _ _ _ _ _ _ _ _ call_tuple_of (by rfl) T.n_tuple bt_tuple (@pa2 _ _ _ _ _ (@pe_slice _ _ _ _ _ _ _ _ _ _ sl_list (@pv _ 1 _ _ (by rfl) (by first | exact Or.inl rfl | exact Or.inr (Or.inl rfl) | exact Or.inr (Or.inr rfl)) (by decide) (by decide)) (@po_some _ _ _ (@pv _ 4 _ _ (by rfl) (by first | exact Or.inl rfl | exact Or.inr (Or.inl rfl) | exact Or.inr (Or.inr rfl)) (by decide) (by decide))) (@po_some _ _ _ (@pe_op _ _ _ _ _ _ _ _ op_add (@pv _ 4 _ _ (by rfl) (by first | exact Or.inl rfl | exact Or.inr (Or.inl rfl) | exact Or.inr (Or.inr rfl)) (by decide) (by decide)) pe_int))) pa_nil (by rfl)) (by decide) (by decide) (by rfl) (by rfl)) pa_nil (by rfl)) (by rfl))) pa_nil (by rfl)) (by rfl) (by rfl) (by rfl) (by rfl) (by rfl)) (by rfl))) (by intro _; rfl))) (@pss_one _ _ _ (@ps_ret _ _ _ _ (@pe_tup _ _ _ _ _ (@pa2 _ _ _ _ _ pe_str (@pa2 _ _ _ _ _ (@pe_callTy _ _ _ _ _ _ _ _ _ call_tuple_of (by rfl) T.n_tuple bt_tuple (@pa2 _ _ _ _ _ (@pv _ 3 _ _ (by rfl) (by first | exact Or.inl rfl | exact Or.inr (Or.inl rfl) | exact Or.inr (Or.inr rfl)) (by decide) (by decide)) pa_nil (by rfl)) (by decide) (by decide) (by rfl) (by rfl)) pa_nil (by rfl)) (by rfl))))))))), ?_⟩
    refine ⟨Nat.zero_le _, fun f hf => ?_⟩
    refine ⟨fun σ' H' => ∃ ds xs v0 v2, σ' = [v0, some (.ref f), v2, none, none] ∧ Same H H' ∧ H' f = some (.lst xs) ∧ SxAll H' ds xs ∧ (∀ d ∈ ds, WdN 1 d) ∧ 8 * ds.length ≤ 196, ?_, ?_⟩
    · refine rd_while (fun n σ' H' => ∃ ds xs v2, σ' = [some (.int (n : Nat)), some (.ref f), v2, none, none] ∧ Same H H' ∧ H' f = some (.lst xs) ∧ SxAll H' ds xs ∧ (∀ d ∈ ds, WdN 1 d) ∧ 8 * ds.length ≤ 196 ∧ (0 < n → 8 * ds.length + n = m))
        m ⟨[], [], _, rfl, same_new hf, upd_same, sx_nil, by simp, by simp, fun _ => by simp⟩ ?_ ?_
      · rintro n σ' H' ⟨ds, xs, v2, rfl, s1, ef, hall, hds, h196, hnm⟩
        refine ⟨_, rfl, _, _, rfl, rfl, _, rfl, ?_⟩
        refine ifb (fun h1 => ?_) (fun h1 => ?_)
        · have h1 : (0 : Int) < ((n : Nat) : Int) := of_decide_eq_true h1
          have hnm := hnm (by omega)
          obtain ⟨few, hfe, hf1, hf8, hfn, hf3⟩ : ∃ few : Nat, (if (8 : Int) < (n : Nat) then (8 : Int) else (n : Nat)) = (few : Nat) ∧ 1 ≤ few ∧ few ≤ 8 ∧ few ≤ n ∧ (8 ≤ n → few = 8) := by
            by_cases h : (8 : Int) < (n : Nat)
            · exact ⟨8, by rw [if_pos h]; rfl, by omega, by omega, by omega, fun _ => rfl⟩
            · exact ⟨n, by rw [if_neg h], by omega, by omega, by omega, fun _ => by omega⟩
          refine ⟨_, rfl, _, _, rfl, ?_⟩
          rw [hfe]
          refine ⟨_, rfl, _, rfl, _, _, rfl, rfl, ?_⟩
          refine ⟨_, rfl, .inl ⟨rfl, _, SqL.of ef⟩, ?_⟩
          refine rd_cons1 ((mk_tup (mkA_cons (mk_str (by decide)) (mkA_cons (mk_mulU1 (n := few) mk_every (mk_var (i := 2) rfl (sx_int _)) hf1 (by omega)) mkA_nil)) (by show 2 ≤ 1000; decide)) : Md _ _ H' (.tuple [.str "and", .tuple (List.replicate few (.tuple [.str "every"]))])) fun v H2 s2 hv => ?_
          have hl := hall.len
          refine ⟨f, xs, v, rfl, rfl, s2 _ _ ef, small_line (by omega), ?_⟩
          have hwd : WdN 1 (.tuple [.str "and", .tuple (List.replicate few (.tuple [.str "every"]))]) := ⟨"and", _, rfl, .inl rfl, by rw [List.length_replicate]; exact hf8, fun e he => (List.mem_replicate.mp he).2⟩
          have hall2 : ∀ d ∈ ds ++ [.tuple [.str "and", .tuple (List.replicate few (.tuple [.str "every"]))]], WdN 1 d := fun d hd => by
            rcases List.mem_append.mp hd with hd | hd
            · exact hds d hd
            · rw [List.mem_singleton.mp hd]; exact hwd
          refine ⟨n - few, by omega, _, xs ++ [v], _, (by rw [show ((n - few : Nat) : Int) = (n : Int) - (few : Nat) by omega]; rfl), same_upd (s1.trans s2) hf, upd_same, SxAll.tsame (tsame_lst (s2 _ _ ef)) _ (flat_wds hall2) ((SxAll.same s2 _ hall).snoc hv), hall2, ?_, fun h => ?_⟩
          · rw [List.length_append]
            show 8 * (ds.length + 1) ≤ 196
            omega
          · rw [List.length_append]
            show 8 * (ds.length + 1) + (n - few) = m
            have := hf3 (by omega)
            omega
        · exact ⟨ds, xs, _, _, rfl, s1, ef, hall, hds, h196⟩
      · rintro σ H Q Q' hQ ⟨v, e1, i, j, e5, e6, b, e7, h⟩
        exact ⟨v, e1, i, j, e5, e6, b, e7, hQ _ _ h⟩
    · rintro σ' H1 ⟨ds, xs, v0, v2, rfl, s1, ef, hall, hds, h196⟩
      have hl := hall.len
      refine ⟨Nat.zero_le _, fun g hg => ?_⟩
      have gf : g ≠ f := fun z => by subst z; rw [ef] at hg; cases hg
      refine ⟨fun σ' H' => ∃ os ys v4, σ' = [v0, some (.ref f), v2, some (.ref g), v4] ∧ Same H1 H' ∧ H' g = some (.lst ys) ∧ SxAll H' os ys ∧ (∀ d ∈ os, WdN 2 d) ∧ os.length ≤ 8, ?_, ?_⟩
      · refine ⟨_, rfl, _, _, rfl, .inl ⟨_, SqL.of (same_new hg _ _ ef), rfl⟩, ((xs.length : Nat) : Int), 8, rfl, by omega, by omega, by omega, by omega, ?_⟩
        refine for_rangeS (lo := 0) (c := 8) (fun i σ' H' => ∃ os ys v4, σ' = [v0, some (.ref f), v2, some (.ref g), v4] ∧ Same H1 H' ∧ H' g = some (.lst ys) ∧ SxAll H' os ys ∧ (∀ d ∈ os, WdN 2 d) ∧ os.length ≤ i) ⟨[], [], _, rfl, same_new hg, upd_same, sx_nil, by simp, by simp⟩ ?_ ?_
        · rintro i σ' H' hi ⟨os, ys, v4, rfl, s2, eg, hos, hod, hol⟩
          have hl2 := hos.len
          refine ⟨_, rfl, .inl ⟨rfl, _, SqL.of eg⟩, ?_⟩
          refine ⟨_, rfl, _, rfl, _, rfl, _, rfl, _, _, rfl, rfl, _, rfl, f, xs, rfl, SqL.of (s2 _ _ ef), fun p hp => ?_⟩
          obtain ⟨es, hes, hel, hem⟩ := cut_sx (SxAll.same s2 _ hall) i
          dsimp only
          rw [show (0 : Int) + (i : Nat) * 8 = ((8 * i : Nat) : Int) by omega, show ((8 * i : Nat) : Int) + 8 = ((8 * i + 8 : Nat) : Int) by omega]
          generalize cutV xs (some ((8 * i : Nat) : Int)) (some ((8 * i + 8 : Nat) : Int)) = zs at hes ⊢
          have s3 := same_new (o := .lst zs) hp
          refine ⟨p, zs, rfl, .inl ⟨SqL.of upd_same, fun p2 hp2 => ?_⟩⟩
          have s4 := same_new (o := .tup zs) hp2
          refine ⟨sm (show 2 ≤ 1000 by decide), fun p3 hp3 => ?_⟩
          have s5 := same_new (o := .tup [.str "or", .ref p2]) hp3
          have s35 := (s3.trans s4).trans s5
          refine ⟨g, ys, .ref p3, rfl, rfl, s35 _ _ eg, small_line (by omega), ?_⟩
          have hwd : WdN 2 (.tuple [.str "or", .tuple es]) := ⟨"or", es, rfl, .inr rfl, hel, fun e he => hds e (hem e he)⟩
          have hall2 : ∀ d ∈ os ++ [.tuple [.str "or", .tuple es]], WdN 2 d := fun d hd => by
            rcases List.mem_append.mp hd with hd | hd
            · exact hod d hd
            · rw [List.mem_singleton.mp hd]; exact hwd
          refine ⟨_, ys ++ [.ref p3], _, rfl, same_upd (s2.trans s35) hg, upd_same, SxAll.tsame (tsame_lst (s35 _ _ eg)) _ (flat_wds hall2) ((SxAll.same s35 _ hos).snoc (sx_tup upd_same (sx_cons (sx_str (sm (by decide))) (sx_cons (sx_tup (s5 _ _ upd_same) (SxAll.same s35 _ hes)) sx_nil)))), hall2, ?_⟩
          rw [List.length_append]
          show os.length + 1 ≤ i + 1
          omega
        · rintro σ' H' ⟨os, ys, v4, rfl, s2, eg, hos, hod, hol⟩
          exact ⟨os, ys, v4, rfl, s2, eg, hos, hod, by omega⟩
      · rintro σ' H' ⟨os, ys, v4, rfl, s2, eg, hos, hod, hol⟩
        refine ⟨_, rfl, g, ys, rfl, .inl ⟨SqL.of eg, fun p hp => ?_⟩⟩
        have s3 := same_new (o := .tup ys) hp
        refine ⟨sm (show 2 ≤ 1000 by decide), fun p2 hp2 => ?_⟩
        have s4 := same_new (o := .tup [.str "and", .ref p]) hp2
        have s34 := s3.trans s4
        exact q _ (.tuple [.str "and", .tuple os]) _ ((s1.trans s2).trans s34) ⟨"and", os, rfl, .inl rfl, hol, hod⟩ (sx_tup upd_same (sx_cons (sx_str (sm (by decide))) (sx_cons (sx_tup (s4 _ _ upd_same) (SxAll.same s34 _ hos)) sx_nil)))
end
end My
set_option Elab.async false
set_option linter.all false
set_option maxRecDepth 100000
set_option maxHeartbeats 4000000
namespace My
open PySem L2
def sp_law (K : PySem.W.Frag) : Sp := fun vs H Q _ => ∃ (a : Addr) (ns : List Int), vs = [.ref a] ∧ SqL K H a (ns.map V.int) ∧ ns.length ≤ 63 ∧ ∀ H', Q (.bl true) H'
theorem same_but {H H1 H2 : Hp} {l : Addr} (s : Same H H1) (n : H l = none) (b : But [l] H1 H2) : Same H H2 := fun c o e => b c o (s c o e) (by
  intro z
  rw [List.mem_singleton.mp z, n] at e
  cases e)
def dueD (b : Bool) : PyData := if b then .none else .str "refused"
theorem due_sx {H : Hp} (b : Bool) : Sx H (dueD b) (dueV b) := by
  cases b with
  | true => exact sx_non
  | false => exact sx_str (sm (by decide))
theorem due_lay (b : Bool) : (dueD b).canLay0 = true := by cases b <;> decide +kernel
theorem due_depth (b : Bool) : (dueD b).depth ≤ 64 := by cases b <;> decide +kernel
theorem due_eqv (b : Bool) : PyData.eqv (dueD b) (dueD b) = true := by cases b <;> simp [dueD, PyData.eqv]
theorem due_eq {K : PySem.W.Frag} {H : Hp} {b : Bool} {Q : VK} (q : Q (.bl true) H) : rEqD K false (dueV b) (dueV b) H Q :=
  ⟨dueD b, dueD b, Sx.dt _ (due_lay b) (due_sx b), Sx.dt _ (due_lay b) (due_sx b), due_lay b, due_lay b, .inl (due_depth b), by rw [if_neg Bool.false_ne_true, due_eqv]; exact q⟩
theorem due_ne {K : PySem.W.Frag} {H : Hp} {b : Bool} {Q : VK} (q : Q (.bl false) H) : rEqD K true (dueV b) (dueV b) H Q :=
  ⟨dueD b, dueD b, Sx.dt _ (due_lay b) (due_sx b), Sx.dt _ (due_lay b) (due_sx b), due_lay b, due_lay b, .inl (due_depth b), by rw [if_pos rfl, due_eqv]; exact q⟩
theorem due_at {b c : Bool} (h : b = !c) : atI [V.non, .str "refused"] (if c then 1 else 0) = some (dueV b) := by
  subst h
  cases c <;> rfl
def spPutA : Sp := fun vs H Q E => ∃ n, n ≤ 15 ∧ spPut n vs H Q E
section
variable {P : Program} {w : World} {K : PySem.W.Frag} {mg : Str → Option Value} {base : Heap} {t : Adr}
theorem ok_putA (T : Txt w K mg t) : FnOk P w K mg base CX0 16 t.f_l_put t.d_l_put ["_law_well_here", "_law_sieve_here", "_law_other"] spPutA :=
  ⟨fun vs H Q E ⟨n, hn, q⟩ => (ok_put (P := P) (base := base) T n).1 vs H Q E q, fun A outer s H args us vs Q E hr he hb hv ⟨n, hn, hs⟩ => ((ok_put (P := P) (base := base) T n).mono (show 1 + n ≤ 16 by omega)).2 A outer s H args us vs Q E hr he hb hv hs⟩
theorem ok_law (T : Txt w K mg t) : FnOk P w K mg base CX0 17 t.f_law t.d_law ["_law_script"] (sp_law K) := by
  have G_l_well : FnOk P w K mg base CX0 1 t.f_l_well t.d_l_well ["_law_script", "_law_k"] (spWell K) := ok_well T
  have G_l_draw : FnOk P w K mg base CX0 1 t.f_l_draw t.d_l_draw ["_law_well_here", "_law_most"] spDraw := ok_draw T
  have G_l_columns : FnOk P w K mg base CX0 2 t.f_l_columns t.d_l_columns ["_law_well_here"] spCols := ok_columns T
  have G_l_sieve : FnOk P w K mg base CX0 12 t.f_l_sieve t.d_l_sieve ["_law_well_here", "_law_columns_here", "_law_deep", "_law_room"] (spSieve 8) := ok_sieve T 8
  have G_l_bad : FnOk P w K mg base CX0 2 t.f_l_bad t.d_l_bad ["_law_well_here", "_law_columns_here"] spBad := ok_bad T
  have G_l_put : FnOk P w K mg base CX0 16 t.f_l_put t.d_l_put ["_law_well_here", "_law_sieve_here", "_law_other"] spPutA := ok_putA T
  have G_l_size : FnOk P w K mg base CX0 11 t.f_l_size t.d_l_size ["_law_columns_here", "_law_sieve_here", "_law_deep"] (spS 9) := ok_size T 9
  have G_l_found : FnOk P w K mg base CX0 7 t.f_l_found t.d_l_found ["_law_columns_here", "_law_sieve_here"] spFound := ok_found T
  have G_l_tower : FnOk P w K mg base CX0 2 t.f_l_tower t.d_l_tower ["_law_well_here"] spTower := ok_tower T
  have G_l_wide : FnOk P w K mg base CX0 1 t.f_l_wide t.d_l_wide ["_law_many"] spWide := ok_wide T
  refine T.F_law.ok sc_law (fun vs H Q E h => ?_) (fun cdv A outer s H vs Q E hr h => ?_)
  · obtain ⟨a, ns, rfl, _⟩ := h
    rfl
  · obtain ⟨a, ns, rfl, hS, hlen, q⟩ := h
    refine ⟨_, (@pss_cons _ _ _ _ _ (@ps_set _ _ (1) _ _ _ _ sc_law.nd (by rfl) (by first | exact Or.inl rfl | exact Or.inr rfl) (@pe_call _ _ _ _ _ _ _ _ _ _ _ _ _ _ _ _ (G_l_well.mono (by decide)) hr (by rfl) T.mg_l_well T.F_l_well.kp T.b_l_well .nil pass0 (@pa2 _ _ _ _ _ (@pv _ 0 _ _ (by rfl) (by first | exact Or.inl rfl | exact Or.inr (Or.inl rfl) | exact Or.inr (Or.inr rfl)) (by decide) (by decide)) (@pa2 _ _ _ _ _ pe_int pa_nil (by rfl)) (by rfl)) (by decide) (by rfl) (by rfl)) (by rfl) (by first | exact .inl rfl | exact .inr rfl | assumption)) (@pss_cons _ _ _ _ _ (@ps_set _ _ (2) _ _ _ _ sc_law.nd (by rfl) (by first | exact Or.inl rfl | exact Or.inr rfl) (@pe_call _ _ _ _ _ _ _ _ _ _ _ _ _ _ _ _ (G_l_columns.mono (by decide)) hr (by rfl) T.mg_l_columns T.F_l_columns.kp T.b_l_columns .nil pass0 (@pa2 _ _ _ _ _ (@pv _ 1 _ _ (by rfl) (by first | exact Or.inl rfl | exact Or.inr (Or.inl rfl) | exact Or.inr (Or.inr rfl)) (by decide) (by decide)) pa_nil (by rfl)) (by decide) (by rfl) (by rfl)) (by rfl) (by first | exact .inl rfl | exact .inr rfl | assumption)) (@pss_cons _ _ _ _ _ (@ps_cut _ _ _ (@ps_for _ _ _ _ _ _ _ _ PassesOwn.never rfl (@pi_range2 _ _ _ _ _ _ _ (by rfl) T.n_range (@pa2 _ _ _ _ _ pe_int (@pa2 _ _ _ _ _ pe_int pa_nil (by rfl)) (by rfl)) (by rfl) (by rfl)) (@pg_name _ _ (3) _ sc_law.nd (by rfl) (by first | exact Or.inl rfl | exact Or.inr rfl) (by first | exact .inl rfl | exact .inr rfl | assumption)) (@pss_cons _ _ _ _ _ (@ps_set _ _ (1) _ _ _ _ sc_law.nd (by rfl) (by first | exact Or.inl rfl | exact Or.inr rfl) (@pe_call _ _ _ _ _ _ _ _ _ _ _ _ _ _ _ _ (G_l_well.mono (by decide)) hr (by rfl) T.mg_l_well T.F_l_well.kp T.b_l_well .nil pass0 (@pa2 _ _ _ _ _ (@pv _ 0 _ _ (by rfl) (by first | exact Or.inl rfl | exact Or.inr (Or.inl rfl) | exact Or.inr (Or.inr rfl)) (by decide) (by decide)) (@pa2 _ _ _ _ _ (@pv _ 3 _ _ (by rfl) (by first | exact Or.inl rfl | exact Or.inr (Or.inl rfl) | exact Or.inr (Or.inr rfl)) (by decide) (by decide)) pa_nil (by rfl)) (by rfl)) (by decide) (by rfl) (by rfl)) (by rfl) (by first | exact .inl rfl | exact .inr rfl | assumption)) (@pss_cons _ _ _ _ _ (@ps_set _ _ (4) _ _ _ _ sc_law.nd (by rfl) (by first | exact Or.inl rfl | exact Or.inr rfl) (@pe_call _ _ _ _ _ _ _ _ _ _ _ _ _ _ _ _ (G_l_sieve.mono (by decide)) hr (by rfl) T.mg_l_sieve T.F_l_sieve.kp T.b_l_sieve .nil pass0 (@pa2 _ _ _ _ _ (@pv _ 1 _ _ (by rfl) (by first | exact Or.inl rfl | exact Or.inr (Or.inl rfl) | exact Or.inr (Or.inr rfl)) (by decide) (by decide)) (@pa2 _ _ _ _ _ (@pv _ 2 _ _ (by rfl) (by first | exact Or.inl rfl | exact Or.inr (Or.inl rfl) | exact Or.inr (Or.inr rfl)) (by decide) (by decide)) (@pa2 _ _ _ _ _ (@pe_op _ _ _ _ _ _ _ _ op_add pe_int (@pe_call _ _ _ _ _ _ _ _ _ _ _ _ _ _ _ _ (G_l_draw.mono (by decide)) hr (by rfl) T.mg_l_draw T.F_l_draw.kp T.b_l_draw .nil pass0 (@pa2 _ _ _ _ _ (@pv _ 1 _ _ (by rfl) (by first | exact Or.inl rfl | exact Or.inr (Or.inl rfl) | exact Or.inr (Or.inr rfl)) (by decide) (by decide)) (@pa2 _ _ _ _ _ pe_int pa_nil (by rfl)) (by rfl)) (by decide) (by rfl) (by rfl))) (@pa2 _ _ _ _ _ (@pe_lst _ _ _ _ (@pa2 _ _ _ _ _ pe_int pa_nil (by rfl))) pa_nil (by rfl)) (by rfl)) (by rfl)) (by rfl)) (by decide) (by rfl) (by rfl)) (by rfl) (by first | exact .inl rfl | exact .inr rfl | assumption)) (@pss_cons _ _ _ _ _ (@ps_cut _ _ _ (@ps_for _ _ _ _ _ _ _ _ PassesOwn.never rfl (@pi_range1 _ _ _ _ _ _ (by rfl) T.n_range (@pa2 _ _ _ _ _ (@pe_call _ _ _ _ _ _ _ _ _ _ _ _ _ _ _ _ (G_l_draw.mono (by decide)) hr (by rfl) T.mg_l_draw T.F_l_draw.kp T.b_l_draw .nil pass0 (@pa2 _ _ _ _ _ (@pv _ 1 _ _ (by rfl) (by first | exact Or.inl rfl | exact Or.inr (Or.inl rfl) | exact Or.inr (Or.inr rfl)) (by decide) (by decide)) (@pa2 _ _ _ _ _ pe_int pa_nil (by rfl)) (by rfl)) (by decide) (by rfl) (by rfl)) pa_nil (by rfl)) (by rfl)) (@pg_name _ _ (5) _ sc_law.nd (by rfl) (by first | exact Or.inl rfl | exact Or.inr rfl) (by first | exact .inl rfl | exact .inr rfl | assumption)) (@pss_one _ _ _ (@ps_set _ _ (4) _ _ _ _ sc_law.nd (by rfl) (by first | exact Or.inl rfl | exact Or.inr rfl) (@pe_call _ _ _ _ _ _ _ _ _ _ _ _ _ _ _ _ (G_l_put.mono (by decide)) hr (by rfl) T.mg_l_put T.F_l_put.kp T.b_l_put .nil pass0 (@pa2 _ _ _ _ _ (@pv _ 1 _ _ (by rfl) (by first | exact Or.inl rfl | exact Or.inr (Or.inl rfl) | exact Or.inr (Or.inr rfl)) (by decide) (by decide)) (@pa2 _ _ _ _ _ (@pv _ 4 _ _ (by rfl) (by first | exact Or.inl rfl | exact Or.inr (Or.inl rfl) | exact Or.inr (Or.inr rfl)) (by decide) (by decide)) (@pa2 _ _ _ _ _ (@pe_call _ _ _ _ _ _ _ _ _ _ _ _ _ _ _ _ (G_l_bad.mono (by decide)) hr (by rfl) T.mg_l_bad T.F_l_bad.kp T.b_l_bad .nil pass0 (@pa2 _ _ _ _ _ (@pv _ 1 _ _ (by rfl) (by first | exact Or.inl rfl | exact Or.inr (Or.inl rfl) | exact Or.inr (Or.inr rfl)) (by decide) (by decide)) (@pa2 _ _ _ _ _ (@pv _ 2 _ _ (by rfl) (by first | exact Or.inl rfl | exact Or.inr (Or.inl rfl) | exact Or.inr (Or.inr rfl)) (by decide) (by decide)) pa_nil (by rfl)) (by rfl)) (by decide) (by rfl) (by rfl)) pa_nil (by rfl)) (by rfl)) (by rfl)) (by decide) (by rfl) (by rfl)) (by rfl) (by first | exact .inl rfl | exact .inr rfl | assumption))) (by intro _; rfl))) (@pss_cons _ _ _ _ _ (@ps_set _ _ (6) _ _ _ _ sc_law.nd (by rfl) (by first | exact Or.inl rfl | exact Or.inr rfl) pe_str (by rfl) (by first | exact .inl rfl | exact .inr rfl | assumption)) (@pss_cons _ _ _ _ _ (@ps_cut _ _ _ (@ps_if _ _ _ _ _ _ _ _ (@pt_chain _ _ _ _ _ _ _ _ _ _ _ _ op_lt op_lt pe_int (@pe_call _ _ _ _ _ _ _ _ _ _ _ _ _ _ _ _ (G_l_size.mono (by decide)) hr (by rfl) T.mg_l_size T.F_l_size.kp T.b_l_size .nil pass0 (@pa2 _ _ _ _ _ (@pv _ 2 _ _ (by rfl) (by first | exact Or.inl rfl | exact Or.inr (Or.inl rfl) | exact Or.inr (Or.inr rfl)) (by decide) (by decide)) (@pa2 _ _ _ _ _ (@pv _ 4 _ _ (by rfl) (by first | exact Or.inl rfl | exact Or.inr (Or.inl rfl) | exact Or.inr (Or.inr rfl)) (by decide) (by decide)) (@pa2 _ _ _ _ _ pe_int pa_nil (by rfl)) (by rfl)) (by rfl)) (by decide) (by rfl) (by rfl)) pe_int (by with_unfolding_all rfl)) (@pss_one _ _ _ (@ps_set _ _ (6) _ _ _ _ sc_law.nd (by rfl) (by first | exact Or.inl rfl | exact Or.inr rfl) pe_non (by rfl) (by first | exact .inl rfl | exact .inr rfl | assumption))) pss_nil)) (@pss_cons _ _ _ _ _ (@ps_if _ _ _ _ _ _ _ _ (@PW.pt _ _ _ (@pw_or _ _ _ _ _ _ _ (@pt_cmpR _ _ _ _ _ _ _ _ (op_neD hr.units) (@pe_call _ _ _ _ _ _ _ _ _ _ _ _ _ _ _ _ (G_l_found.mono (by decide)) hr (by rfl) T.mg_l_found T.F_l_found.kp T.b_l_found .nil pass0 (@pa2 _ _ _ _ _ (@pv _ 2 _ _ (by rfl) (by first | exact Or.inl rfl | exact Or.inr (Or.inl rfl) | exact Or.inr (Or.inr rfl)) (by decide) (by decide)) (@pa2 _ _ _ _ _ (@pv _ 4 _ _ (by rfl) (by first | exact Or.inl rfl | exact Or.inr (Or.inl rfl) | exact Or.inr (Or.inr rfl)) (by decide) (by decide)) pa_nil (by rfl)) (by rfl)) (by decide) (by rfl) (by rfl)) (@pv _ 6 _ _ (by rfl) (by first | exact Or.inl rfl | exact Or.inr (Or.inl rfl) | exact Or.inr (Or.inr rfl)) (by decide) (by decide)) (nomark _)) (@pw_or1 _ _ _ _ (@pt_cmpR _ _ _ _ _ _ _ _ (op_neD hr.units) (@pe_call _ _ _ _ _ _ _ _ _ _ _ _ _ _ _ _ (G_l_found.mono (by decide)) hr (by rfl) T.mg_l_found T.F_l_found.kp T.b_l_found .nil pass0 (@pa2 _ _ _ _ _ (@pv _ 2 _ _ (by rfl) (by first | exact Or.inl rfl | exact Or.inr (Or.inl rfl) | exact Or.inr (Or.inr rfl)) (by decide) (by decide)) (@pa2 _ _ _ _ _ (@pv _ 4 _ _ (by rfl) (by first | exact Or.inl rfl | exact Or.inr (Or.inl rfl) | exact Or.inr (Or.inr rfl)) (by decide) (by decide)) pa_nil (by rfl)) (by rfl)) (by decide) (by rfl) (by rfl)) (@pv _ 6 _ _ (by rfl) (by first | exact Or.inl rfl | exact Or.inr (Or.inl rfl) | exact Or.inr (Or.inr rfl)) (by decide) (by decide)) (nomark _))))) (@pss_one _ _ _ (@ps_ret _ _ _ _ pe_bl)) pss_nil) (@pss_cons _ _ _ _ _ (@ps_asg _ _ _ _ _ _ (@pe_call _ _ _ _ _ _ _ _ _ _ _ _ _ _ _ _ (G_l_tower.mono (by decide)) hr (by rfl) T.mg_l_tower T.F_l_tower.kp T.b_l_tower .nil pass0 (@pa2 _ _ _ _ _ (@pv _ 1 _ _ (by rfl) (by first | exact Or.inl rfl | exact Or.inr (Or.inl rfl) | exact Or.inr (Or.inr rfl)) (by decide) (by decide)) pa_nil (by rfl)) (by decide) (by rfl) (by rfl)) (@pg_tup _ _ _ _ _ (2) rfl (@pgs_cons _ _ _ _ _ (@pg_name _ _ (7) _ sc_law.nd (by rfl) (by first | exact Or.inl rfl | exact Or.inr rfl) (by first | exact .inl rfl | exact .inr rfl | assumption)) (@pgs_cons _ _ _ _ _ (@pg_name _ _ (8) _ sc_law.nd (by rfl) (by first | exact Or.inl rfl | exact Or.inr rfl) (by first | exact .inl rfl | exact .inr rfl | assumption)) pgs_nil (by rfl)) (by rfl)) (by rfl) (by rfl)) (by rfl) (by rfl) (by rfl)) (@pss_one _ _ _ (@ps_if _ _ _ _ _ _ _ _ (@pt_cmpR _ _ _ _ _ _ _ _ (op_neD hr.units) (@pe_call _ _ _ _ _ _ _ _ _ _ _ _ _ _ _ _ (G_l_found.mono (by decide)) hr (by rfl) T.mg_l_found T.F_l_found.kp T.b_l_found .nil pass0 (@pa2 _ _ _ _ _ (@pv _ 2 _ _ (by rfl) (by first | exact Or.inl rfl | exact Or.inr (Or.inl rfl) | exact Or.inr (Or.inr rfl)) (by decide) (by decide)) (@pa2 _ _ _ _ _ (@pv _ 7 _ _ (by rfl) (by first | exact Or.inl rfl | exact Or.inr (Or.inl rfl) | exact Or.inr (Or.inr rfl)) (by decide) (by decide)) pa_nil (by rfl)) (by rfl)) (by decide) (by rfl) (by rfl)) (@pe_ix _ _ _ _ _ _ _ ix_list (@pe_lst _ _ _ _ (@pa2 _ _ _ _ _ pe_non (@pa2 _ _ _ _ _ pe_str pa_nil (by rfl)) (by rfl))) (@pe_callTy _ _ _ _ _ _ _ _ _ call_int1 (by rfl) T.n_int bt_int (@pa2 _ _ _ _ _ (@pe_cmpR _ _ _ _ _ _ _ _ op_gt (@pv _ 8 _ _ (by rfl) (by first | exact Or.inl rfl | exact Or.inr (Or.inl rfl) | exact Or.inr (Or.inr rfl)) (by decide) (by decide)) pe_int (nomark _)) pa_nil (by rfl)) (by decide) (by decide) (by rfl) (by rfl)) (fun _ _ => rfl)) (nomark _)) (@pss_one _ _ _ (@ps_ret _ _ _ _ pe_bl)) pss_nil))))))))) (by intro _; rfl))) (@pss_cons _ _ _ _ _ (@ps_set _ _ (9) _ _ _ _ sc_law.nd (by rfl) (by first | exact Or.inl rfl | exact Or.inr rfl) (@pe_op _ _ _ _ _ _ _ _ op_add pe_int (@pe_call _ _ _ _ _ _ _ _ _ _ _ _ _ _ _ _ (G_l_draw.mono (by decide)) hr (by rfl) T.mg_l_draw T.F_l_draw.kp T.b_l_draw .nil pass0 (@pa2 _ _ _ _ _ (@pv _ 1 _ _ (by rfl) (by first | exact Or.inl rfl | exact Or.inr (Or.inl rfl) | exact Or.inr (Or.inr rfl)) (by decide) (by decide)) (@pa2 _ _ _ _ _ pe_int pa_nil (by rfl)) (by rfl)) (by decide) (by rfl) (by rfl))) (by rfl) (by first | exact .inl rfl | exact .inr rfl | assumption)) (@pss_cons _ _ _ _ _ (@ps_set _ _ (10) _ _ _ _ sc_law.nd (by rfl) (by first | exact Or.inl rfl | exact Or.inr rfl) (@pe_call _ _ _ _ _ _ _ _ _ _ _ _ _ _ _ _ (G_l_wide.mono (by decide)) hr (by rfl) T.mg_l_wide T.F_l_wide.kp T.b_l_wide .nil pass0 (@pa2 _ _ _ _ _ (@pv _ 9 _ _ (by rfl) (by first | exact Or.inl rfl | exact Or.inr (Or.inl rfl) | exact Or.inr (Or.inr rfl)) (by decide) (by decide)) pa_nil (by rfl)) (by decide) (by rfl) (by rfl)) (by rfl) (by first | exact .inl rfl | exact .inr rfl | assumption)) (@pss_one _ _ _ (@ps_ret _ _ _ _ (@pe_cmpR _ _ _ _ _ _ _ _ (op_eqD hr.units) (@pe_call _ _ _ _ _ _ _ _ _ _ _ _ _ _ _ _ (G_l_found.mono (by decide)) hr (by rfl) T.mg_l_found T.F_l_found.kp T.b_l_found .nil pass0 (@pa2 _ _ _ _ _ (@pv _ 2 _ _ (by rfl) (by first | exact Or.inl rfl | exact Or.inr (Or.inl rfl) | exact Or.inr (Or.inr rfl)) (by decide) (by decide)) (@pa2 _ _ _ _ _ (@pv _ 10 _ _ (by rfl) (by first | exact Or.inl rfl | exact Or.inr (Or.inl rfl) | exact Or.inr (Or.inr rfl)) (by decide) (by decide)) pa_nil (by rfl)) (by rfl)) (by decide) (by rfl) (by rfl)) (@pe_ix _ _ _ _ _ _ _ ix_list (@pe_lst _ _ _ _ (@pa2 _ _ _ _ _ pe_non (@pa2 _ _ _ _ _ pe_str pa_nil (by rfl)) (by rfl))) (@pe_callTy _ _ _ _ _ _ _ _ _ call_int1 (by rfl) T.n_int bt_int (@pa2 _ _ _ _ _ (@pe_cmpR _ _ _ _ _ _ _ _ op_gt (@pe_call _ _ _ _ _ _ _ _ _ _ _ _ _ _ _ _ (G_l_size.mono (by decide)) hr (by rfl) T.mg_l_size T.F_l_size.kp T.b_l_size .nil pass0 (@pa2 _ _ _ _ _ (@pv _ 2 _ _ (by rfl) (by first | exact Or.inl rfl | exact Or.inr (Or.inl rfl) | exact Or.inr (Or.inr rfl)) (by decide) (by decide)) (@pa2 _ _ _ _ _ (@pv _ 10 _ _ (by rfl) (by first | exact Or.inl rfl | exact Or.inr (Or.inl rfl) | exact Or.inr (Or.inr rfl)) (by decide) (by decide)) (@pa2 _ _ _ _ _ pe_int pa_nil (by rfl)) (by rfl)) (by rfl)) (by decide) (by rfl) (by rfl)) pe_int (nomark _)) pa_nil (by rfl)) (by decide) (by decide) (by rfl) (by rfl)) (fun _ _ => rfl)) (nomark _))))))))), ?_⟩
    refine ⟨_, rfl, a, ns, 0, rfl, hS, hlen, fun lw H1 s1 nlw w1 => ?_⟩
    refine ⟨_, rfl, lw, rfl, w1, fun cx cs H2 b2 w2 hg hcx => ?_⟩
    have s02 : Same H H2 := same_but s1 nlw b2
    have fcs : flatT (.tuple (cs.map cD)) = true := by simp only [flatT]; exact flat_cs cs
    refine ⟨fun σ' H' => ∃ (l : Addr) (v3 v4 v5 v6 v7 v8 : Option V), σ' = [some (.ref a), some (.ref l), some cx, v3, v4, v5, v6, v7, v8, none, none] ∧ Same H H' ∧ TSame H2 H' ∧ WellAt H' l ∧ H l = none, ?_, ?_⟩
    · refine ⟨_, _, rfl, ⟨by decide, by decide, by decide, by decide⟩, ?_⟩
      refine for_range (n := 4) (fun i σ' H' => ∃ (l : Addr) (v3 v4 v5 v6 v7 v8 : Option V), σ' = [some (.ref a), some (.ref l), some cx, v3, v4, v5, v6, v7, v8, none, none] ∧ Same H H' ∧ TSame H2 H' ∧ WellAt H' l ∧ H l = none) ⟨lw, none, none, none, none, none, none, rfl, s02, (Same.refl _).t, w2, nlw⟩ ?_ (fun σ' H' h => h)
      rintro i σ' H' hi ⟨l0, v3, v4, v5, v6, v7, v8, rfl, sA, tA, _, _⟩
      refine ⟨_, rfl, _, rfl, a, ns, 1 + i, (by rw [show ((1 + i : Nat) : Int) = 1 + (i : Int) by omega]; rfl), Same.seq sA hS, hlen, fun l H3 s3 nl3 w3 => ?_⟩
      have nl : H l = none := same_none sA nl3
      have sB := sA.trans s3
      have tB := tA.trans s3.t
      refine ⟨_, rfl, _, rfl, _, rfl, l, 8, rfl, by decide, by decide, w3, fun n4 H4 n40 n41 b4 w4 => ⟨_, _, rfl, rfl, sm (show 1 ≤ 1000 by decide), fun r hr5 => ?_⟩⟩
      generalize hH5 : upd H4 r _ = H5
      have s5 : Same H4 H5 := hH5 ▸ same_new hr5
      have er : H5 r = some (.lst [.int 150]) := hH5 ▸ upd_same
      have w5 := w4.same s5
      have t5 : TSame H2 H5 := (tB.trans (well_t b4 w3)).trans s5.t
      have hc5 := Sx.tsame t5 _ fcs hcx
      refine ⟨l, r, cx, cs, 1 + n4.toNat, (by rw [show ((1 + n4.toNat : Nat) : Int) = 1 + n4 by omega]; rfl), w5, ⟨150, er⟩, (w4.ne hr5).symm, hc5, hg, by omega, by omega, fun v d H6 b6 w6 r6 hgs hv => ?_⟩
      have b46 : But [l] H4 H6 := ((s5.but (ls := [r, l])).trans (b6.more (ms := [r, l]) (fun x hx => by simp only [List.mem_cons, List.not_mem_nil, or_false] at hx ⊢; exact hx.symm))).less hr5
      have sC : Same H H6 := same_but (same_but sB nl b4) nl b46
      have tC' : TSame H2 H6 := (tB.trans (well_t b4 w3)).trans (well_t b46 w4)
      obtain ⟨okd, pbd⟩ := gs_ok hg hgs
      have pbd : pbD 9 d = true := by
        rw [show 9 = (1 + n4.toNat + 1) + (7 - n4.toNat) by omega]
        exact pb_mono pbd _
      -- spoilt
      refine ⟨fun σ' H' => ∃ x d v5, σ' = [some (.ref a), some (.ref l), some cx, some (.int (1 + (i : Int))), some x, v5, v6, v7, v8, none, none] ∧ Same H H' ∧ TSame H2 H' ∧ WellAt H' l ∧ okD d = true ∧ Sx H' d x, ?_, ?_⟩
      · refine ⟨_, rfl, l, 3, rfl, by decide, by decide, w6, fun n7 H7 n70 n71 b7 w7 => ⟨_, rfl, by omega, by omega, ?_⟩⟩
        refine for_range (fun j σ' H' => ∃ x d v5, σ' = [some (.ref a), some (.ref l), some cx, some (.int (1 + (i : Int))), some x, v5, v6, v7, v8, none, none] ∧ Same H H' ∧ TSame H2 H' ∧ WellAt H' l ∧ okD d = true ∧ pbD (9 + 3 * j) d = true ∧ Sx H' d x) ⟨v, d, _, rfl, same_but sC nl b7, tC'.trans (well_t b7 w6), w7, okd, pbd, Sx.but3 b7 w6 _ okd hv⟩ ?_ (fun σ' H' ⟨x, d, v5, e, h1, h2, h3, h4, h5, h6⟩ => ⟨x, d, v5, e, h1, h2, h3, h4, h6⟩)
        rintro j σ' H8 hj ⟨x, d, v5, rfl, s8, t8, w8, okd, pbd, hx⟩
        refine ⟨_, rfl, _, rfl, _, rfl, _, rfl, l, cx, cs, rfl, w8, Sx.tsame t8 _ fcs hcx, hg, fun bv bd H9 b9 w9 okb pbb hb => ?_⟩
        refine ⟨9 + 3 * j, by omega, l, x, d, bv, bd, 3, rfl, w9, Sx.but3 b9 w8 _ okd hx, okd, pbd, hb, okb, pbb, fun v e H10 b10 w10 oke pbe he => ?_⟩
        exact ⟨v, e, _, rfl, same_but (same_but s8 nl b9) nl b10, (t8.trans (well_t b9 w8)).trans (well_t b10 w9), w10, oke, by rw [show 9 + 3 * (j + 1) = 9 + 3 * j + 3 by omega]; exact pbe, he⟩
      · rintro σ' H8 ⟨x, d, v5, rfl, s8, t8, w8, okd, hx⟩
        have hc8 := Sx.tsame t8 _ fcs hcx
        -- what is due
        refine ⟨fun σ' H' => σ' = [some (.ref a), some (.ref l), some cx, some (.int (1 + (i : Int))), some x, v5, some (dueV (goodD cs d)), v7, v8, none, none] ∧ H' = H8, ?_, ?_⟩
        · refine ⟨_, rfl, _, rfl, cx, cs, x, d, 1, rfl, hc8, hg, hx, okd, by decide, by decide, by decide, ?_⟩
          have hgd := size_good cs d
          refine ⟨_, _, rfl, rfl, _, rfl, ?_⟩
          refine ifb (fun h1 => ?_) (fun h1 => ?_)
          · have h1 : (0 : Int) < ((sizeN cs 8 d : Nat) : Int) := of_decide_eq_true h1
            refine ⟨_, _, rfl, rfl, _, rfl, ?_⟩
            refine ifb (fun h2 => ?_) (fun h2 => ?_)
            · have h2 : ((sizeN cs 8 d : Nat) : Int) < 201 := of_decide_eq_true h2
              rw [decide_eq_true (show 0 < sizeN cs 8 d ∧ sizeN cs 8 d < 201 from ⟨by omega, by omega⟩)] at hgd
              rw [hgd]
              exact ⟨rfl, rfl⟩
            · have h2 : ¬ ((sizeN cs 8 d : Nat) : Int) < 201 := of_decide_eq_false h2
              rw [decide_eq_false (fun z => h2 (by omega))] at hgd
              rw [hgd]
              exact ⟨rfl, rfl⟩
          · have h1 : ¬ (0 : Int) < ((sizeN cs 8 d : Nat) : Int) := of_decide_eq_false h1
            rw [decide_eq_false (fun z => h1 (by omega))] at hgd
            rw [hgd]
            exact ⟨_, rfl, rfl, rfl⟩
        · rintro σ' H' ⟨rfl, rfl⟩
          refine ⟨_, rfl, _, rfl, cx, cs, x, d, rfl, hc8, hg.2.1, hx, _, rfl, due_ne ⟨_, rfl, iteF ?_⟩⟩
          refine ⟨_, rfl, _, rfl, cx, cs, x, d, rfl, hc8, hg.2.1, hx, _, rfl, due_ne ⟨_, rfl, iteF ?_⟩⟩
          -- a tower
          refine ⟨_, rfl, l, rfl, w8, fun p tx td n H9 b9 w9 ep htx hgood => ?_⟩
          refine ⟨p, _, rfl, SqT.of ep, rfl, _, _, rfl, _, _, rfl, rfl, ?_⟩
          have t9 := t8.trans (well_t b9 w8)
          have s9 := same_but s8 nl b9
          refine ⟨_, rfl, _, rfl, cx, cs, tx, td, rfl, Sx.tsame t9 _ fcs hcx, hg.2.1, htx, sm (show 2 ≤ 1000 by decide), fun p10 hp10 => ?_⟩
          generalize hH10 : upd H9 p10 _ = H10
          have s10 : Same H9 H10 := hH10 ▸ same_new hp10
          have ep10 : H10 p10 = some (.lst [.non, .str "refused"]) := hH10 ▸ upd_same
          rw [hgood cs]
          refine ⟨_, rfl, _, _, rfl, rfl, .inr ⟨_, rfl, p10, _, _, _, rfl, rfl, SqL.of ep10, due_at (b := decide (n ≤ 8)) ?_, due_ne ⟨_, rfl, iteF ?_⟩⟩⟩
          · by_cases h : n ≤ 8
            · rw [decide_eq_true h, decide_eq_false (by omega)]
              rfl
            · rw [decide_eq_false h, decide_eq_true (by omega)]
              rfl
          · exact ⟨l, _, _, _, _, _, _, rfl, s9.trans s10, t9.trans s10.t, w9.same s10, nl⟩
    · rintro σ' H3 ⟨l, v3, v4, v5, v6, v7, v8, rfl, s3, t3, w3, nl⟩
      refine ⟨_, rfl, l, 30, rfl, by decide, by decide, w3, fun m4 H4 m40 m41 b4 w4 => ⟨_, _, rfl, rfl, ?_⟩⟩
      refine ⟨_, rfl, 160 + m4.toNat, (by rw [show ((160 + m4.toNat : Nat) : Int) = 160 + m4 by omega]; rfl), by omega, fun v d H5 s5 hwd hv => ?_⟩
      have t5 := (t3.trans (well_t b4 w3)).trans s5.t
      have hc5 := Sx.tsame t5 _ fcs hcx
      have hwf : wfN cs 8 d = true := wd_wf hwd 4
      have hgd : goodD cs d = !decide (200 < sizeN cs 8 d) := by
        have e : sizeN cs 8 d = szN 8 d := by unfold sizeN; rw [if_pos hwf]
        unfold goodD
        rw [hwf, e, Bool.true_and]
        by_cases h : szN 8 d ≤ 200
        · rw [decide_eq_true h, decide_eq_false (by omega)]
          rfl
        · rw [decide_eq_false h, decide_eq_true (by omega)]
          rfl
      refine ⟨_, rfl, _, rfl, cx, cs, v, d, rfl, hc5, hg.2.1, hv, sm (show 2 ≤ 1000 by decide), fun p6 hp6 => ?_⟩
      generalize hH6 : upd H5 p6 _ = H6
      have s6 : Same H5 H6 := hH6 ▸ same_new hp6
      have ep6 : H6 p6 = some (.lst [.non, .str "refused"]) := hH6 ▸ upd_same
      refine ⟨_, rfl, _, rfl, cx, cs, v, d, 1, rfl, Sx.same s6 _ hc5, hg, Sx.same s6 _ hv, (wd_ok hwd).1, by decide, by decide, by decide, ?_⟩
      refine ⟨_, _, rfl, rfl, .inr ⟨_, rfl, p6, _, _, _, rfl, rfl, SqL.of ep6, due_at (b := goodD cs d) ?_, due_eq (q _)⟩⟩
      rw [hgd]
      by_cases h : 200 < sizeN cs 8 d
      · rw [decide_eq_true h, decide_eq_true (show (200 : Int) < ((sizeN cs (9 - 1) d : Nat) : Int) by show (200 : Int) < ((sizeN cs 8 d : Nat) : Int); omega)]
      · rw [decide_eq_false h, decide_eq_false (show ¬ (200 : Int) < ((sizeN cs (9 - 1) d : Nat) : Int) by show ¬ (200 : Int) < ((sizeN cs 8 d : Nat) : Int); omega)]
end
end My
set_option Elab.async false
set_option linter.all false
set_option maxRecDepth 100000
set_option maxHeartbeats 4000000
namespace My
open PySem L2
theorem txt_mk {w : World} {K : PySem.W.Frag} {h : Heap} {mg : Str → Option Value} (X : K.In h) (G : h.Ns mainGlobals mg)
    {f0 : Addr} {od0 an0 : Option Addr} {sl0 : Array (Option Value)} {oc0 kV0 dc0 pm0 cd0 ct0 : Value}
    {f1 : Addr} {od1 an1 : Option Addr} {sl1 : Array (Option Value)} {oc1 kV1 dc1 pm1 cd1 ct1 : Value}
    {f2 : Addr} {od2 an2 : Option Addr} {sl2 : Array (Option Value)} {oc2 kV2 dc2 pm2 cd2 ct2 : Value}
    {f3 : Addr} {od3 an3 : Option Addr} {sl3 : Array (Option Value)} {oc3 kV3 dc3 pm3 cd3 ct3 : Value}
    {f4 : Addr} {od4 an4 : Option Addr} {sl4 : Array (Option Value)} {oc4 kV4 dc4 pm4 cd4 ct4 : Value}
    {f5 : Addr} {od5 an5 : Option Addr} {sl5 : Array (Option Value)} {oc5 kV5 dc5 pm5 cd5 ct5 : Value}
    {f6 : Addr} {od6 an6 : Option Addr} {sl6 : Array (Option Value)} {oc6 kV6 dc6 pm6 cd6 ct6 : Value}
    {f7 : Addr} {od7 an7 : Option Addr} {sl7 : Array (Option Value)} {oc7 kV7 dc7 pm7 cd7 ct7 : Value}
    {f8 : Addr} {od8 an8 : Option Addr} {sl8 : Array (Option Value)} {oc8 kV8 dc8 pm8 cd8 ct8 : Value}
    {f9 : Addr} {od9 an9 : Option Addr} {sl9 : Array (Option Value)} {oc9 kV9 dc9 pm9 cd9 ct9 : Value}
    {f10 : Addr} {od10 an10 : Option Addr} {sl10 : Array (Option Value)} {oc10 kV10 dc10 pm10 cd10 ct10 : Value}
    {f11 : Addr} {od11 an11 : Option Addr} {sl11 : Array (Option Value)} {oc11 kV11 dc11 pm11 cd11 ct11 : Value}
    {f12 : Addr} {od12 an12 : Option Addr} {sl12 : Array (Option Value)} {oc12 kV12 dc12 pm12 cd12 ct12 : Value}
    {f13 : Addr} {od13 an13 : Option Addr} {sl13 : Array (Option Value)} {oc13 kV13 dc13 pm13 cd13 ct13 : Value}
    {f14 : Addr} {od14 an14 : Option Addr} {sl14 : Array (Option Value)} {oc14 kV14 dc14 pm14 cd14 ct14 : Value}
    {f15 : Addr} {od15 an15 : Option Addr} {sl15 : Array (Option Value)} {oc15 kV15 dc15 pm15 cd15 ct15 : Value}
    {f16 : Addr} {od16 an16 : Option Addr} {sl16 : Array (Option Value)} {oc16 kV16 dc16 pm16 cd16 ct16 : Value}
    {f17 : Addr} {od17 an17 : Option Addr} {sl17 : Array (Option Value)} {oc17 kV17 dc17 pm17 cd17 ct17 : Value}
    {f18 : Addr} {od18 an18 : Option Addr} {sl18 : Array (Option Value)} {oc18 kV18 dc18 pm18 cd18 ct18 : Value}
    {f19 : Addr} {od19 an19 : Option Addr} {sl19 : Array (Option Value)} {oc19 kV19 dc19 pm19 cd19 ct19 : Value}
    {f20 : Addr} {od20 an20 : Option Addr} {sl20 : Array (Option Value)} {oc20 kV20 dc20 pm20 cd20 ct20 : Value}
    {f21 : Addr} {od21 an21 : Option Addr} {sl21 : Array (Option Value)} {oc21 kV21 dc21 pm21 cd21 ct21 : Value}
    {f22 : Addr} {od22 an22 : Option Addr} {sl22 : Array (Option Value)} {oc22 kV22 dc22 pm22 cd22 ct22 : Value}
    {f23 : Addr} {od23 an23 : Option Addr} {sl23 : Array (Option Value)} {oc23 kV23 dc23 pm23 cd23 ct23 : Value}
    {f24 : Addr} {od24 an24 : Option Addr} {sl24 : Array (Option Value)} {oc24 kV24 dc24 pm24 cd24 ct24 : Value}
    {f25 : Addr} {od25 an25 : Option Addr} {sl25 : Array (Option Value)} {oc25 kV25 dc25 pm25 cd25 ct25 : Value}
    {f26 : Addr} {od26 an26 : Option Addr} {sl26 : Array (Option Value)} {oc26 kV26 dc26 pm26 cd26 ct26 : Value}
    {f27 : Addr} {od27 an27 : Option Addr} {sl27 : Array (Option Value)} {oc27 kV27 dc27 pm27 cd27 ct27 : Value}
    {f28 : Addr} {od28 an28 : Option Addr} {sl28 : Array (Option Value)} {oc28 kV28 dc28 pm28 cd28 ct28 : Value}
    {f29 : Addr} {od29 an29 : Option Addr} {sl29 : Array (Option Value)} {oc29 kV29 dc29 pm29 cd29 ct29 : Value}
    {f30 : Addr} {od30 an30 : Option Addr} {sl30 : Array (Option Value)} {oc30 kV30 dc30 pm30 cd30 ct30 : Value}
    {f31 : Addr} {od31 an31 : Option Addr} {sl31 : Array (Option Value)} {oc31 kV31 dc31 pm31 cd31 ct31 : Value}
    {tk_MOST_NAME_SIGNS : Tok}
    {tk_MOST_KEY_SIGNS : Tok}
    {tk_MOST_WORD_SIGNS : Tok}
    {tk_MOST_DEEP : Tok}
    {tk_MOST_PARTS : Tok}
    {tk_MOST_IN_A_TUPLE : Tok}
    {a_LENGTHS : Addr} {ep_LENGTHS : Nat} {u0_LENGTHS u1_LENGTHS u2_LENGTHS u3_LENGTHS u4_LENGTHS u5_LENGTHS u6_LENGTHS u7_LENGTHS u8_LENGTHS u9_LENGTHS u10_LENGTHS u11_LENGTHS u12_LENGTHS u13_LENGTHS u14_LENGTHS u15_LENGTHS u16_LENGTHS u17_LENGTHS : Tok}
    {c_PageError : Addr}
    {c_BadColumns : Addr}
    {c_BadRow : Addr}
    {c_BadSieve : Addr}
    {c_NoText : Addr}
    (a0 : PySem.W.nsIn K mainGlobals "is_whole" = some (some (.ref f0))) (l0 : K.lookup f0 = some ⟨oc0, od0, .func (PySem.W.fnOf "is_whole" "is_whole" (defArgs s_is_whole) (defBody s_is_whole) (defScope s_is_whole) .none kV0 dc0 pm0 an0 cd0 ct0), sl0⟩) (c0 : PySem.W.codeIn K cd0 "is_whole" = true) (k0 : PySem.W.keepIn K (.ref f0) = true)
    (a1 : PySem.W.nsIn K mainGlobals "is_letter" = some (some (.ref f1))) (l1 : K.lookup f1 = some ⟨oc1, od1, .func (PySem.W.fnOf "is_letter" "is_letter" (defArgs s_is_letter) (defBody s_is_letter) (defScope s_is_letter) .none kV1 dc1 pm1 an1 cd1 ct1), sl1⟩) (c1 : PySem.W.codeIn K cd1 "is_letter" = true) (k1 : PySem.W.keepIn K (.ref f1) = true)
    (a2 : PySem.W.nsIn K mainGlobals "is_figure" = some (some (.ref f2))) (l2 : K.lookup f2 = some ⟨oc2, od2, .func (PySem.W.fnOf "is_figure" "is_figure" (defArgs s_is_figure) (defBody s_is_figure) (defScope s_is_figure) .none kV2 dc2 pm2 an2 cd2 ct2), sl2⟩) (c2 : PySem.W.codeIn K cd2 "is_figure" = true) (k2 : PySem.W.keepIn K (.ref f2) = true)
    (a3 : PySem.W.nsIn K mainGlobals "is_name" = some (some (.ref f3))) (l3 : K.lookup f3 = some ⟨oc3, od3, .func (PySem.W.fnOf "is_name" "is_name" (defArgs s_is_name) (defBody s_is_name) (defScope s_is_name) .none kV3 dc3 pm3 an3 cd3 ct3), sl3⟩) (c3 : PySem.W.codeIn K cd3 "is_name" = true) (k3 : PySem.W.keepIn K (.ref f3) = true)
    (a4 : PySem.W.nsIn K mainGlobals "is_key" = some (some (.ref f4))) (l4 : K.lookup f4 = some ⟨oc4, od4, .func (PySem.W.fnOf "is_key" "is_key" (defArgs s_is_key) (defBody s_is_key) (defScope s_is_key) .none kV4 dc4 pm4 an4 cd4 ct4), sl4⟩) (c4 : PySem.W.codeIn K cd4 "is_key" = true) (k4 : PySem.W.keepIn K (.ref f4) = true)
    (a5 : PySem.W.nsIn K mainGlobals "is_word" = some (some (.ref f5))) (l5 : K.lookup f5 = some ⟨oc5, od5, .func (PySem.W.fnOf "is_word" "is_word" (defArgs s_is_word) (defBody s_is_word) (defScope s_is_word) .none kV5 dc5 pm5 an5 cd5 ct5), sl5⟩) (c5 : PySem.W.codeIn K cd5 "is_word" = true) (k5 : PySem.W.keepIn K (.ref f5) = true)
    (a6 : PySem.W.nsIn K mainGlobals "is_value" = some (some (.ref f6))) (l6 : K.lookup f6 = some ⟨oc6, od6, .func (PySem.W.fnOf "is_value" "is_value" (defArgs s_is_value) (defBody s_is_value) (defScope s_is_value) .none kV6 dc6 pm6 an6 cd6 ct6), sl6⟩) (c6 : PySem.W.codeIn K cd6 "is_value" = true) (k6 : PySem.W.keepIn K (.ref f6) = true)
    (a7 : PySem.W.nsIn K mainGlobals "kind_named" = some (some (.ref f7))) (l7 : K.lookup f7 = some ⟨oc7, od7, .func (PySem.W.fnOf "kind_named" "kind_named" (defArgs s_kind_named) (defBody s_kind_named) (defScope s_kind_named) .none kV7 dc7 pm7 an7 cd7 ct7), sl7⟩) (c7 : PySem.W.codeIn K cd7 "kind_named" = true) (k7 : PySem.W.keepIn K (.ref f7) = true)
    (a8 : PySem.W.nsIn K mainGlobals "check_sieve" = some (some (.ref f8))) (l8 : K.lookup f8 = some ⟨oc8, od8, .func (PySem.W.fnOf "check_sieve" "check_sieve" (defArgs s_check_sieve) (defBody s_check_sieve) (defScope s_check_sieve) .none kV8 dc8 pm8 an8 cd8 ct8), sl8⟩) (c8 : PySem.W.codeIn K cd8 "check_sieve" = true) (k8 : PySem.W.keepIn K (.ref f8) = true)
    (a9 : PySem.W.nsIn K mainGlobals "is_formed" = some (some (.ref f9))) (l9 : K.lookup f9 = some ⟨oc9, od9, .func (PySem.W.fnOf "is_formed" "is_formed" (defArgs s_is_formed) (defBody s_is_formed) (defScope s_is_formed) .none kV9 dc9 pm9 an9 cd9 ct9), sl9⟩) (c9 : PySem.W.codeIn K cd9 "is_formed" = true) (k9 : PySem.W.keepIn K (.ref f9) = true)
    (a10 : PySem.W.nsIn K mainGlobals "is_short_tuple" = some (some (.ref f10))) (l10 : K.lookup f10 = some ⟨oc10, od10, .func (PySem.W.fnOf "is_short_tuple" "is_short_tuple" (defArgs s_is_short_tuple) (defBody s_is_short_tuple) (defScope s_is_short_tuple) .none kV10 dc10 pm10 an10 cd10 ct10), sl10⟩) (c10 : PySem.W.codeIn K cd10 "is_short_tuple" = true) (k10 : PySem.W.keepIn K (.ref f10) = true)
    (a11 : PySem.W.nsIn K mainGlobals "fits_column" = some (some (.ref f11))) (l11 : K.lookup f11 = some ⟨oc11, od11, .func (PySem.W.fnOf "fits_column" "fits_column" (defArgs s_fits_column) (defBody s_fits_column) (defScope s_fits_column) .none kV11 dc11 pm11 an11 cd11 ct11), sl11⟩) (c11 : PySem.W.codeIn K cd11 "fits_column" = true) (k11 : PySem.W.keepIn K (.ref f11) = true)
    (a12 : PySem.W.nsIn K mainGlobals "sieves_within" = some (some (.ref f12))) (l12 : K.lookup f12 = some ⟨oc12, od12, .func (PySem.W.fnOf "sieves_within" "sieves_within" (defArgs s_sieves_within) (defBody s_sieves_within) (defScope s_sieves_within) .none kV12 dc12 pm12 an12 cd12 ct12), sl12⟩) (c12 : PySem.W.codeIn K cd12 "sieves_within" = true) (k12 : PySem.W.keepIn K (.ref f12) = true)
    (a13 : PySem.W.nsIn K mainGlobals "_law_well" = some (some (.ref f13))) (l13 : K.lookup f13 = some ⟨oc13, od13, .func (PySem.W.fnOf "_law_well" "_law_well" (defArgs s_l_well) (defBody s_l_well) (defScope s_l_well) .none kV13 dc13 pm13 an13 cd13 ct13), sl13⟩) (c13 : PySem.W.codeIn K cd13 "_law_well" = true) (k13 : PySem.W.keepIn K (.ref f13) = true)
    (a14 : PySem.W.nsIn K mainGlobals "_law_draw" = some (some (.ref f14))) (l14 : K.lookup f14 = some ⟨oc14, od14, .func (PySem.W.fnOf "_law_draw" "_law_draw" (defArgs s_l_draw) (defBody s_l_draw) (defScope s_l_draw) .none kV14 dc14 pm14 an14 cd14 ct14), sl14⟩) (c14 : PySem.W.codeIn K cd14 "_law_draw" = true) (k14 : PySem.W.keepIn K (.ref f14) = true)
    (a15 : PySem.W.nsIn K mainGlobals "_law_columns" = some (some (.ref f15))) (l15 : K.lookup f15 = some ⟨oc15, od15, .func (PySem.W.fnOf "_law_columns" "_law_columns" (defArgs s_l_columns) (defBody s_l_columns) (defScope s_l_columns) .none kV15 dc15 pm15 an15 cd15 ct15), sl15⟩) (c15 : PySem.W.codeIn K cd15 "_law_columns" = true) (k15 : PySem.W.keepIn K (.ref f15) = true)
    (a16 : PySem.W.nsIn K mainGlobals "_law_number" = some (some (.ref f16))) (l16 : K.lookup f16 = some ⟨oc16, od16, .func (PySem.W.fnOf "_law_number" "_law_number" (defArgs s_l_number) (defBody s_l_number) (defScope s_l_number) .none kV16 dc16 pm16 an16 cd16 ct16), sl16⟩) (c16 : PySem.W.codeIn K cd16 "_law_number" = true) (k16 : PySem.W.keepIn K (.ref f16) = true)
    (a17 : PySem.W.nsIn K mainGlobals "_law_word" = some (some (.ref f17))) (l17 : K.lookup f17 = some ⟨oc17, od17, .func (PySem.W.fnOf "_law_word" "_law_word" (defArgs s_l_word) (defBody s_l_word) (defScope s_l_word) .none kV17 dc17 pm17 an17 cd17 ct17), sl17⟩) (c17 : PySem.W.codeIn K cd17 "_law_word" = true) (k17 : PySem.W.keepIn K (.ref f17) = true)
    (a18 : PySem.W.nsIn K mainGlobals "_law_value" = some (some (.ref f18))) (l18 : K.lookup f18 = some ⟨oc18, od18, .func (PySem.W.fnOf "_law_value" "_law_value" (defArgs s_l_value) (defBody s_l_value) (defScope s_l_value) .none kV18 dc18 pm18 an18 cd18 ct18), sl18⟩) (c18 : PySem.W.codeIn K cd18 "_law_value" = true) (k18 : PySem.W.keepIn K (.ref f18) = true)
    (a19 : PySem.W.nsIn K mainGlobals "_law_key" = some (some (.ref f19))) (l19 : K.lookup f19 = some ⟨oc19, od19, .func (PySem.W.fnOf "_law_key" "_law_key" (defArgs s_l_key) (defBody s_l_key) (defScope s_l_key) .none kV19 dc19 pm19 an19 cd19 ct19), sl19⟩) (c19 : PySem.W.codeIn K cd19 "_law_key" = true) (k19 : PySem.W.keepIn K (.ref f19) = true)
    (a20 : PySem.W.nsIn K mainGlobals "_law_leaf" = some (some (.ref f20))) (l20 : K.lookup f20 = some ⟨oc20, od20, .func (PySem.W.fnOf "_law_leaf" "_law_leaf" (defArgs s_l_leaf) (defBody s_l_leaf) (defScope s_l_leaf) .none kV20 dc20 pm20 an20 cd20 ct20), sl20⟩) (c20 : PySem.W.codeIn K cd20 "_law_leaf" = true) (k20 : PySem.W.keepIn K (.ref f20) = true)
    (a21 : PySem.W.nsIn K mainGlobals "_law_sieve" = some (some (.ref f21))) (l21 : K.lookup f21 = some ⟨oc21, od21, .func (PySem.W.fnOf "_law_sieve" "_law_sieve" (defArgs s_l_sieve) (defBody s_l_sieve) (defScope s_l_sieve) .none kV21 dc21 pm21 an21 cd21 ct21), sl21⟩) (c21 : PySem.W.codeIn K cd21 "_law_sieve" = true) (k21 : PySem.W.keepIn K (.ref f21) = true)
    (a22 : PySem.W.nsIn K mainGlobals "_law_bad" = some (some (.ref f22))) (l22 : K.lookup f22 = some ⟨oc22, od22, .func (PySem.W.fnOf "_law_bad" "_law_bad" (defArgs s_l_bad) (defBody s_l_bad) (defScope s_l_bad) .none kV22 dc22 pm22 an22 cd22 ct22), sl22⟩) (c22 : PySem.W.codeIn K cd22 "_law_bad" = true) (k22 : PySem.W.keepIn K (.ref f22) = true)
    (a23 : PySem.W.nsIn K mainGlobals "_law_put" = some (some (.ref f23))) (l23 : K.lookup f23 = some ⟨oc23, od23, .func (PySem.W.fnOf "_law_put" "_law_put" (defArgs s_l_put) (defBody s_l_put) (defScope s_l_put) .none kV23 dc23 pm23 an23 cd23 ct23), sl23⟩) (c23 : PySem.W.codeIn K cd23 "_law_put" = true) (k23 : PySem.W.keepIn K (.ref f23) = true)
    (a24 : PySem.W.nsIn K mainGlobals "_law_is_text" = some (some (.ref f24))) (l24 : K.lookup f24 = some ⟨oc24, od24, .func (PySem.W.fnOf "_law_is_text" "_law_is_text" (defArgs s_l_is_text) (defBody s_l_is_text) (defScope s_l_is_text) .none kV24 dc24 pm24 an24 cd24 ct24), sl24⟩) (c24 : PySem.W.codeIn K cd24 "_law_is_text" = true) (k24 : PySem.W.keepIn K (.ref f24) = true)
    (a25 : PySem.W.nsIn K mainGlobals "_law_is_key" = some (some (.ref f25))) (l25 : K.lookup f25 = some ⟨oc25, od25, .func (PySem.W.fnOf "_law_is_key" "_law_is_key" (defArgs s_l_is_key) (defBody s_l_is_key) (defScope s_l_is_key) .none kV25 dc25 pm25 an25 cd25 ct25), sl25⟩) (c25 : PySem.W.codeIn K cd25 "_law_is_key" = true) (k25 : PySem.W.keepIn K (.ref f25) = true)
    (a26 : PySem.W.nsIn K mainGlobals "_law_fits" = some (some (.ref f26))) (l26 : K.lookup f26 = some ⟨oc26, od26, .func (PySem.W.fnOf "_law_fits" "_law_fits" (defArgs s_l_fits) (defBody s_l_fits) (defScope s_l_fits) .none kV26 dc26 pm26 an26 cd26 ct26), sl26⟩) (c26 : PySem.W.codeIn K cd26 "_law_fits" = true) (k26 : PySem.W.keepIn K (.ref f26) = true)
    (a27 : PySem.W.nsIn K mainGlobals "_law_size" = some (some (.ref f27))) (l27 : K.lookup f27 = some ⟨oc27, od27, .func (PySem.W.fnOf "_law_size" "_law_size" (defArgs s_l_size) (defBody s_l_size) (defScope s_l_size) .none kV27 dc27 pm27 an27 cd27 ct27), sl27⟩) (c27 : PySem.W.codeIn K cd27 "_law_size" = true) (k27 : PySem.W.keepIn K (.ref f27) = true)
    (a28 : PySem.W.nsIn K mainGlobals "_law_found" = some (some (.ref f28))) (l28 : K.lookup f28 = some ⟨oc28, od28, .func (PySem.W.fnOf "_law_found" "_law_found" (defArgs s_l_found) (defBody s_l_found) (defScope s_l_found) .none kV28 dc28 pm28 an28 cd28 ct28), sl28⟩) (c28 : PySem.W.codeIn K cd28 "_law_found" = true) (k28 : PySem.W.keepIn K (.ref f28) = true)
    (a29 : PySem.W.nsIn K mainGlobals "_law_tower" = some (some (.ref f29))) (l29 : K.lookup f29 = some ⟨oc29, od29, .func (PySem.W.fnOf "_law_tower" "_law_tower" (defArgs s_l_tower) (defBody s_l_tower) (defScope s_l_tower) .none kV29 dc29 pm29 an29 cd29 ct29), sl29⟩) (c29 : PySem.W.codeIn K cd29 "_law_tower" = true) (k29 : PySem.W.keepIn K (.ref f29) = true)
    (a30 : PySem.W.nsIn K mainGlobals "_law_wide" = some (some (.ref f30))) (l30 : K.lookup f30 = some ⟨oc30, od30, .func (PySem.W.fnOf "_law_wide" "_law_wide" (defArgs s_l_wide) (defBody s_l_wide) (defScope s_l_wide) .none kV30 dc30 pm30 an30 cd30 ct30), sl30⟩) (c30 : PySem.W.codeIn K cd30 "_law_wide" = true) (k30 : PySem.W.keepIn K (.ref f30) = true)
    (a31 : PySem.W.nsIn K mainGlobals "law" = some (some (.ref f31))) (l31 : K.lookup f31 = some ⟨oc31, od31, .func (PySem.W.fnOf "law" "law" (defArgs s_law) (defBody s_law) (defScope s_law) .none kV31 dc31 pm31 an31 cd31 ct31), sl31⟩) (c31 : PySem.W.codeIn K cd31 "law" = true) (k31 : PySem.W.keepIn K (.ref f31) = true)
    (v_MOST_NAME_SIGNS : PySem.W.nsIn K mainGlobals "MOST_NAME_SIGNS" = some (some (.int 8 tk_MOST_NAME_SIGNS)))
    (v_MOST_KEY_SIGNS : PySem.W.nsIn K mainGlobals "MOST_KEY_SIGNS" = some (some (.int 12 tk_MOST_KEY_SIGNS)))
    (v_MOST_WORD_SIGNS : PySem.W.nsIn K mainGlobals "MOST_WORD_SIGNS" = some (some (.int 40 tk_MOST_WORD_SIGNS)))
    (v_MOST_DEEP : PySem.W.nsIn K mainGlobals "MOST_DEEP" = some (some (.int 8 tk_MOST_DEEP)))
    (v_MOST_PARTS : PySem.W.nsIn K mainGlobals "MOST_PARTS" = some (some (.int 200 tk_MOST_PARTS)))
    (v_MOST_IN_A_TUPLE : PySem.W.nsIn K mainGlobals "MOST_IN_A_TUPLE" = some (some (.int 8 tk_MOST_IN_A_TUPLE)))
    (v_LENGTHS : PySem.W.nsIn K mainGlobals "LENGTHS" = some (some (.ref a_LENGTHS)))
    (w_LENGTHS : K.lookup a_LENGTHS = some ⟨.type "dict", none, .dict #[⟨PyData.keyHash w.params "every", .str "every" u0_LENGTHS, .int 1 u1_LENGTHS⟩, ⟨PyData.keyHash w.params "is", .str "is" u2_LENGTHS, .int 3 u3_LENGTHS⟩, ⟨PyData.keyHash w.params "below", .str "below" u4_LENGTHS, .int 3 u5_LENGTHS⟩, ⟨PyData.keyHash w.params "above", .str "above" u6_LENGTHS, .int 3 u7_LENGTHS⟩, ⟨PyData.keyHash w.params "begins", .str "begins" u8_LENGTHS, .int 3 u9_LENGTHS⟩, ⟨PyData.keyHash w.params "key", .str "key" u10_LENGTHS, .int 2 u11_LENGTHS⟩, ⟨PyData.keyHash w.params "not", .str "not" u12_LENGTHS, .int 2 u13_LENGTHS⟩, ⟨PyData.keyHash w.params "and", .str "and" u14_LENGTHS, .int 2 u15_LENGTHS⟩, ⟨PyData.keyHash w.params "or", .str "or" u16_LENGTHS, .int 2 u17_LENGTHS⟩] ep_LENGTHS, #[]⟩) (y_LENGTHS : (a_LENGTHS == sysModules) = false)
    (z_ValueError : PySem.W.nsIn K mainGlobals "ValueError" = some none)
    (z_isinstance : PySem.W.nsIn K mainGlobals "isinstance" = some none)
    (z_int : PySem.W.nsIn K mainGlobals "int" = some none)
    (z_bool : PySem.W.nsIn K mainGlobals "bool" = some none)
    (z_all : PySem.W.nsIn K mainGlobals "all" = some none)
    (z_str : PySem.W.nsIn K mainGlobals "str" = some none)
    (z_len : PySem.W.nsIn K mainGlobals "len" = some none)
    (z_dict : PySem.W.nsIn K mainGlobals "dict" = some none)
    (z_tuple : PySem.W.nsIn K mainGlobals "tuple" = some none)
    (z_range : PySem.W.nsIn K mainGlobals "range" = some none)
    (z_sum : PySem.W.nsIn K mainGlobals "sum" = some none)
    (z_min : PySem.W.nsIn K mainGlobals "min" = some none)
    (g_PageError : PySem.W.nsIn K mainGlobals "PageError" = some (some (.ref c_PageError)))
    (g_BadColumns : PySem.W.nsIn K mainGlobals "BadColumns" = some (some (.ref c_BadColumns)))
    (g_BadRow : PySem.W.nsIn K mainGlobals "BadRow" = some (some (.ref c_BadRow)))
    (g_BadSieve : PySem.W.nsIn K mainGlobals "BadSieve" = some (some (.ref c_BadSieve)))
    (g_NoText : PySem.W.nsIn K mainGlobals "NoText" = some (some (.ref c_NoText)))
    (x_PageError : PySem.W.excIn K c_PageError L2.vErr "ValueError.__new__" = true)
    (x_BadColumns : PySem.W.excIn K c_BadColumns L2.vErr "ValueError.__new__" = true)
    (x_BadRow : PySem.W.excIn K c_BadRow L2.vErr "ValueError.__new__" = true)
    (x_BadSieve : PySem.W.excIn K c_BadSieve L2.vErr "ValueError.__new__" = true)
    (x_NoText : PySem.W.excIn K c_NoText L2.vErr "ValueError.__new__" = true)
    (ga_BadSieve : PySem.W.findIn K (.ref c_BadSieve) "__getattribute__" = some (some (.builtin "BaseException.__getattribute__")))
    (gh_BadSieve : PySem.W.findIn K (.ref c_BadSieve) "__getattr__" = some none)
    (gc_BadSieve : PySem.W.findIn K (.ref c_BadSieve) "__class__" = some (some (.builtin "object.__class__")))
    (m_BadSieve_PageError : PySem.W.mroIn K c_BadSieve (.ref c_PageError) = some true)
    (k_BadSieve_BadSieve : PySem.W.kitOne K (.ref c_BadSieve) (.ref c_BadSieve) = some true)
    (k_BadSieve_ValueError : PySem.W.kitOne K (.ref c_BadSieve) (.type "ValueError") = some true)
    (k_BadSieve_BadColumns : PySem.W.kitOne K (.ref c_BadSieve) (.ref c_BadColumns) = some false)
    (k_BadSieve_BadRow : PySem.W.kitOne K (.ref c_BadSieve) (.ref c_BadRow) = some false)
    (k_BadSieve_NoText : PySem.W.kitOne K (.ref c_BadSieve) (.ref c_NoText) = some false)
    : ∃ t : Adr, Txt w K mg t := by
  have F0 := fun_mk (st := s_is_whole) l0 c0 k0
  have b0 := F0.binds (ps := ["thing"]) fun _ _ _ _ _ _ us hl => match us, hl with | [_], _ => rfl
  have F1 := fun_mk (st := s_is_letter) l1 c1 k1
  have b1 := F1.binds (ps := ["sign"]) fun _ _ _ _ _ _ us hl => match us, hl with | [_], _ => rfl
  have F2 := fun_mk (st := s_is_figure) l2 c2 k2
  have b2 := F2.binds (ps := ["sign"]) fun _ _ _ _ _ _ us hl => match us, hl with | [_], _ => rfl
  have F3 := fun_mk (st := s_is_name) l3 c3 k3
  have b3 := F3.binds (ps := ["thing"]) fun _ _ _ _ _ _ us hl => match us, hl with | [_], _ => rfl
  have F4 := fun_mk (st := s_is_key) l4 c4 k4
  have b4 := F4.binds (ps := ["thing"]) fun _ _ _ _ _ _ us hl => match us, hl with | [_], _ => rfl
  have F5 := fun_mk (st := s_is_word) l5 c5 k5
  have b5 := F5.binds (ps := ["thing"]) fun _ _ _ _ _ _ us hl => match us, hl with | [_], _ => rfl
  have F6 := fun_mk (st := s_is_value) l6 c6 k6
  have b6 := F6.binds (ps := ["kind", "thing"]) fun _ _ _ _ _ _ us hl => match us, hl with | [_, _], _ => rfl
  have F7 := fun_mk (st := s_kind_named) l7 c7 k7
  have b7 := F7.binds (ps := ["columns", "name"]) fun _ _ _ _ _ _ us hl => match us, hl with | [_, _], _ => rfl
  have F8 := fun_mk (st := s_check_sieve) l8 c8 k8
  have b8 := F8.binds (ps := ["columns", "sieve"]) fun _ _ _ _ _ _ us hl => match us, hl with | [_, _], _ => rfl
  have F9 := fun_mk (st := s_is_formed) l9 c9 k9
  have b9 := F9.binds (ps := ["columns", "thing"]) fun _ _ _ _ _ _ us hl => match us, hl with | [_, _], _ => rfl
  have F10 := fun_mk (st := s_is_short_tuple) l10 c10 k10
  have b10 := F10.binds (ps := ["thing"]) fun _ _ _ _ _ _ us hl => match us, hl with | [_], _ => rfl
  have F11 := fun_mk (st := s_fits_column) l11 c11 k11
  have b11 := F11.binds (ps := ["columns", "sieve"]) fun _ _ _ _ _ _ us hl => match us, hl with | [_, _], _ => rfl
  have F12 := fun_mk (st := s_sieves_within) l12 c12 k12
  have b12 := F12.binds (ps := ["sieves"]) fun _ _ _ _ _ _ us hl => match us, hl with | [_], _ => rfl
  have F13 := fun_mk (st := s_l_well) l13 c13 k13
  have b13 := F13.binds (ps := ["_law_script", "_law_k"]) fun _ _ _ _ _ _ us hl => match us, hl with | [_, _], _ => rfl
  have F14 := fun_mk (st := s_l_draw) l14 c14 k14
  have b14 := F14.binds (ps := ["_law_well_here", "_law_most"]) fun _ _ _ _ _ _ us hl => match us, hl with | [_, _], _ => rfl
  have F15 := fun_mk (st := s_l_columns) l15 c15 k15
  have b15 := F15.binds (ps := ["_law_well_here"]) fun _ _ _ _ _ _ us hl => match us, hl with | [_], _ => rfl
  have F16 := fun_mk (st := s_l_number) l16 c16 k16
  have b16 := F16.binds (ps := ["_law_well_here"]) fun _ _ _ _ _ _ us hl => match us, hl with | [_], _ => rfl
  have F17 := fun_mk (st := s_l_word) l17 c17 k17
  have b17 := F17.binds (ps := ["_law_well_here"]) fun _ _ _ _ _ _ us hl => match us, hl with | [_], _ => rfl
  have F18 := fun_mk (st := s_l_value) l18 c18 k18
  have b18 := F18.binds (ps := ["_law_well_here", "_law_kind"]) fun _ _ _ _ _ _ us hl => match us, hl with | [_, _], _ => rfl
  have F19 := fun_mk (st := s_l_key) l19 c19 k19
  have b19 := F19.binds (ps := ["_law_well_here"]) fun _ _ _ _ _ _ us hl => match us, hl with | [_], _ => rfl
  have F20 := fun_mk (st := s_l_leaf) l20 c20 k20
  have b20 := F20.binds (ps := ["_law_well_here", "_law_columns_here"]) fun _ _ _ _ _ _ us hl => match us, hl with | [_, _], _ => rfl
  have F21 := fun_mk (st := s_l_sieve) l21 c21 k21
  have b21 := F21.binds (ps := ["_law_well_here", "_law_columns_here", "_law_deep", "_law_room"]) fun _ _ _ _ _ _ us hl => match us, hl with | [_, _, _, _], _ => rfl
  have F22 := fun_mk (st := s_l_bad) l22 c22 k22
  have b22 := F22.binds (ps := ["_law_well_here", "_law_columns_here"]) fun _ _ _ _ _ _ us hl => match us, hl with | [_, _], _ => rfl
  have F23 := fun_mk (st := s_l_put) l23 c23 k23
  have b23 := F23.binds (ps := ["_law_well_here", "_law_sieve_here", "_law_other"]) fun _ _ _ _ _ _ us hl => match us, hl with | [_, _, _], _ => rfl
  have F24 := fun_mk (st := s_l_is_text) l24 c24 k24
  have b24 := F24.binds (ps := ["_law_thing", "_law_least", "_law_most"]) fun _ _ _ _ _ _ us hl => match us, hl with | [_, _, _], _ => rfl
  have F25 := fun_mk (st := s_l_is_key) l25 c25 k25
  have b25 := F25.binds (ps := ["_law_thing"]) fun _ _ _ _ _ _ us hl => match us, hl with | [_], _ => rfl
  have F26 := fun_mk (st := s_l_fits) l26 c26 k26
  have b26 := F26.binds (ps := ["_law_columns_here", "_law_sieve_here"]) fun _ _ _ _ _ _ us hl => match us, hl with | [_, _], _ => rfl
  have F27 := fun_mk (st := s_l_size) l27 c27 k27
  have b27 := F27.binds (ps := ["_law_columns_here", "_law_sieve_here", "_law_deep"]) fun _ _ _ _ _ _ us hl => match us, hl with | [_, _, _], _ => rfl
  have F28 := fun_mk (st := s_l_found) l28 c28 k28
  have b28 := F28.binds (ps := ["_law_columns_here", "_law_sieve_here"]) fun _ _ _ _ _ _ us hl => match us, hl with | [_, _], _ => rfl
  have F29 := fun_mk (st := s_l_tower) l29 c29 k29
  have b29 := F29.binds (ps := ["_law_well_here"]) fun _ _ _ _ _ _ us hl => match us, hl with | [_], _ => rfl
  have F30 := fun_mk (st := s_l_wide) l30 c30 k30
  have b30 := F30.binds (ps := ["_law_many"]) fun _ _ _ _ _ _ us hl => match us, hl with | [_], _ => rfl
  have F31 := fun_mk (st := s_law) l31 c31 k31
  have b31 := F31.binds (ps := ["_law_script"]) fun _ _ _ _ _ _ us hl => match us, hl with | [_], _ => rfl
  exact ⟨⟨f0, _, f1, _, f2, _, f3, _, f4, _, f5, _, f6, _, f7, _, f8, _, f9, _, f10, _, f11, _, f12, _, f13, _, f14, _, f15, _, f16, _, f17, _, f18, _, f19, _, f20, _, f21, _, f22, _, f23, _, f24, _, f25, _, f26, _, f27, _, f28, _, f29, _, f30, _, f31, _, tk_MOST_NAME_SIGNS, tk_MOST_KEY_SIGNS, tk_MOST_WORD_SIGNS, tk_MOST_DEEP, tk_MOST_PARTS, tk_MOST_IN_A_TUPLE, a_LENGTHS, c_PageError, c_BadColumns, c_BadRow, c_BadSieve, c_NoText⟩, ⟨F0, b0, PySem.W.mg_of X G a0, F1, b1, PySem.W.mg_of X G a1, F2, b2, PySem.W.mg_of X G a2, F3, b3, PySem.W.mg_of X G a3, F4, b4, PySem.W.mg_of X G a4, F5, b5, PySem.W.mg_of X G a5, F6, b6, PySem.W.mg_of X G a6, F7, b7, PySem.W.mg_of X G a7, F8, b8, PySem.W.mg_of X G a8, F9, b9, PySem.W.mg_of X G a9, F10, b10, PySem.W.mg_of X G a10, F11, b11, PySem.W.mg_of X G a11, F12, b12, PySem.W.mg_of X G a12, F13, b13, PySem.W.mg_of X G a13, F14, b14, PySem.W.mg_of X G a14, F15, b15, PySem.W.mg_of X G a15, F16, b16, PySem.W.mg_of X G a16, F17, b17, PySem.W.mg_of X G a17, F18, b18, PySem.W.mg_of X G a18, F19, b19, PySem.W.mg_of X G a19, F20, b20, PySem.W.mg_of X G a20, F21, b21, PySem.W.mg_of X G a21, F22, b22, PySem.W.mg_of X G a22, F23, b23, PySem.W.mg_of X G a23, F24, b24, PySem.W.mg_of X G a24, F25, b25, PySem.W.mg_of X G a25, F26, b26, PySem.W.mg_of X G a26, F27, b27, PySem.W.mg_of X G a27, F28, b28, PySem.W.mg_of X G a28, F29, b29, PySem.W.mg_of X G a29, F30, b30, PySem.W.mg_of X G a30, F31, b31, PySem.W.mg_of X G a31, PySem.W.mg_of X G v_MOST_NAME_SIGNS, PySem.W.mg_of X G v_MOST_KEY_SIGNS, PySem.W.mg_of X G v_MOST_WORD_SIGNS, PySem.W.mg_of X G v_MOST_DEEP, PySem.W.mg_of X G v_MOST_PARTS, PySem.W.mg_of X G v_MOST_IN_A_TUPLE, PySem.W.mg_of X G v_LENGTHS, ⟨y_LENGTHS, _, _, _, w_LENGTHS, ⟨rfl, rfl, rfl⟩, rfl, .cons ⟨rfl, ⟨_, rfl⟩, ⟨_, rfl⟩⟩ (.cons ⟨rfl, ⟨_, rfl⟩, ⟨_, rfl⟩⟩ (.cons ⟨rfl, ⟨_, rfl⟩, ⟨_, rfl⟩⟩ (.cons ⟨rfl, ⟨_, rfl⟩, ⟨_, rfl⟩⟩ (.cons ⟨rfl, ⟨_, rfl⟩, ⟨_, rfl⟩⟩ (.cons ⟨rfl, ⟨_, rfl⟩, ⟨_, rfl⟩⟩ (.cons ⟨rfl, ⟨_, rfl⟩, ⟨_, rfl⟩⟩ (.cons ⟨rfl, ⟨_, rfl⟩, ⟨_, rfl⟩⟩ (.cons ⟨rfl, ⟨_, rfl⟩, ⟨_, rfl⟩⟩ (.nil))))))))), (by decide +kernel)⟩, PySem.W.mg_none_of X G z_ValueError, PySem.W.mg_none_of X G z_isinstance, PySem.W.mg_none_of X G z_int, PySem.W.mg_none_of X G z_bool, PySem.W.mg_none_of X G z_all, PySem.W.mg_none_of X G z_str, PySem.W.mg_none_of X G z_len, PySem.W.mg_none_of X G z_dict, PySem.W.mg_none_of X G z_tuple, PySem.W.mg_none_of X G z_range, PySem.W.mg_none_of X G z_sum, PySem.W.mg_none_of X G z_min, PySem.W.mg_of X G g_PageError, PySem.W.mg_of X G g_BadColumns, PySem.W.mg_of X G g_BadRow, PySem.W.mg_of X G g_BadSieve, PySem.W.mg_of X G g_NoText, x_PageError, x_BadColumns, x_BadRow, x_BadSieve, x_NoText, ga_BadSieve, gh_BadSieve, gc_BadSieve, m_BadSieve_PageError, k_BadSieve_BadSieve, k_BadSieve_ValueError, k_BadSieve_BadColumns, k_BadSieve_BadRow, k_BadSieve_NoText, fun s v => .of_eq rfl⟩⟩
end My
namespace PySem.W.Fast
def tw6892269903233113106 := 0
def tw1465472805127061520 := 0
def tw6067438946253204553 := 0
def tw7851023669039948993 := 0
def tw13649721120911385218 := 0
def tw11866962000473237531 := 0
def tw5454798526162456168 := 0
def tw1257847789145880657 := 0
def tw2030311603226561453 := 0
def tw11539874608082248465 := 0
def tw3605438627323017616 := 0
def tw18300266738215216817 := 0
def tw12220665319999094184 := 0
def tw17817330447557775084 := 0
def tw5655733424540083509 := 0
def tw9491613835166011106 := 0
def tw9369122789812488412 := 0
def tw7501454800116007449 := 0
def tw1487644348615910899 := 0
def tw7502868174644055786 := 0
def tw14231612956502882686 := 0
def tw16740062682824380001 := 0
def tw2827267729763208376 := 0
def tw9020880447502107112 := 0
def tw9119095742142969416 := 0
def tw1333107146390297754 := 0
def tw14962026884136972366 := 0
def tw5357640483668114168 := 0
def tw13109607920956214545 := 0
def tw590855613196282754 := 0
def tw9003658733351065929 := 0
def tw11686604591500507831 := 0
def tw1433480720079727241 := 0
def tw2279306950515634750 := 0
def tw5137825188271152201 := 0
def tw15104626898544482063 := 0
def tw16877362616096235570 := 0
def tw2737508786777482051 := 0
def tw2925317860201129981 := 0
def tw16122953249004023757 := 0
def tw11398695639049762779 := 0
def tw972361856353456902 := 0
def tw16603755201312230888 := 0
def tw13380728520832465884 := 0
def tw12580942396467536581 := 0
def tw5867961314898646029 := 0
def tw4964989840933441029 := 0
def tw12849462495546666428 := 0
def tw16475037324832443151 := 0
def tw17004263233695278781 := 0
def tw2879690659966976337 := 0
def tw7620944692525292506 := 0
def tw15578167386644100912 := 0
def tw17086185645987386327 := 0
def tw17122100568410713796 := 0
def tw8939676639146105884 := 0
def tw8082310458461697050 := 0
def tw15047945390988141276 := 0
def tw7629390515960182039 := 0
def tw7009715740576439142 := 0
def tw394968273076593153 := 0
def tw5685009600053242876 := 0
def tw4961740367013591547 := 0
def tw8107700135441983062 := 0
def tw6079077141002557188 := 0
def tw4202746977079307208 := 0
def tw10682806903577727834 := 0
def tw713339269487188943 := 0
def tw7844714392362972601 := 0
def tw11772278432480663345 := 0
def tw16349039660254302954 := 0
def tw6956836963014753151 := 0
def tw8553469916389517851 := 0
def tw15205837555911061329 := 0
def tw10288299671809245200 := 0
def tw12578824869904842809 := 0
def tw17301900027612481718 := 0
def tw3596614316809458756 := 0
def tw1648564039465257780 := 0
def tw10190302977021766042 := 0
def tw15236915292792522785 := 0
def tw6520157785053417033 := 0
def tw11603703733000752147 := 0
def tw17655373632124202299 := 0
def tw10664871734973925742 := 0
def tw5114075015797160176 := 0
def tw7914943970792509152 := 0
def tw102429971656544269 := 0
def tw16785976711909884941 := 0
def tw1839633339974710480 := 0
def tw3166839347630875961 := 0
def tw2364455211446281805 := 0
def tw16866102745295824678 := 0
def tw7104350803773913193 := 0
def tw13598925696065650375 := 0
def tw12706105702431101360 := 0
def tw13120506151835017270 := 0
def tw14793914703400564928 := 0
def tw6014096803696847356 := 0
def tw13757728809066418658 := 0
def tw17339195936082151547 := 0
def tw7034419647164481568 := 0
def tw4638440298570983674 := 0
def tw3284144060711565975 := 0
def tw4668618611112701873 := 0
def tw8861408998892258336 := 0
def tw4825680653197701477 := 0
def tw10258628630145857390 := 0
def tw11391992800267876160 := 0
def tw16649812952841117864 := 0
def tw8484595047950920860 := 0
def tw11402650058688399093 := 0
def tw7891836948534207237 := 0
def tw1432744852738457126 := 0
def tw15062093077613653214 := 0
def tw10776914359860242364 := 0
def tw11281465914031747033 := 0
def tw4730657816100257282 := 0
def tw6677372174883578136 := 0
def tw2596218383014744285 := 0
def tw18030652901409895724 := 0
def tw16069919323749951464 := 0
def tw14815164573131260595 := 0
def tw15870633122921546249 := 0
def tw6056389891105528648 := 0
def tw1888343383895353088 := 0
def tw651579340356913558 := 0
def tw2683197879933825677 := 0
def tw1908571180324621793 := 0
def tw10643729861851487695 := 0
def tw8637976203213077508 := 0
def tw7005864228551421333 := 0
def tw8808083436779366395 := 0
def tw6010484739072902212 := 0
def tw10146552276172043636 := 0
def tw12494100505636304003 := 0
def tw16586854499813929767 := 0
def tw10602854822673296475 := 0
def tw11174298918594763114 := 0
def tw12742058732278346472 := 0
def tw13898301992014374044 := 0
def tw12100040811449219560 := 0
def tw11327258696583833669 := 0
def tw7002805155686550933 := 0
def tw11069176916992697687 := 0
def tw2082732003498342745 := 0
def tw5148330049649311162 := 0
def tw5905600535326766152 := 0
def tw16302469631821037687 := 0
def tw13161715755388587962 := 0
def tw14946167056480470063 := 0
def tw2550948864035253032 := 0
def tw4117730350396625035 := 0
def tw14045342386783555437 := 0
def tw8006137188442965980 := 0
def tw18001525210099546741 := 0
def tw5656428936398346601 := 0
def tw8244256674593488168 := 0
def tw16782138350683991726 := 0
def tw850355403037597536 := 0
def tw16353777964711108187 := 0
def tw16131386441996038324 := 0
def tw81763354055798882 := 0
def tw1859843972994701639 := 0
def tw8175611667879310662 := 0
def tw14297451096852726772 := 0
def tw16104757088748421288 := 0
def tw7202349219686467281 := 0
def tw1374418324562911215 := 0
def tw3641578253790633297 := 0
def tw10300662112214802995 := 0
def tw1373622029252015965 := 0
def tw14607175201636561218 := 0
def tw6971738520924546028 := 0
def tw10011978007878535282 := 0
def tw18179828457473119062 := 0
def tw18427807267926819215 := 0
def tw14483709590917070847 := 0
def tw17694287263691267537 := 0
def tw13837388618557956938 := 0
def tw11442625312037328914 := 0
def tw9093102232333949030 := 0
def tw16583350080112070496 := 0
def tw438138790457383493 := 0
def tw14085220304048109910 := 0
def tw795260183618708023 := 0
def tw13540993477764484771 := 0
def tw12646440037266870731 := 0
def tw2494350855774045630 := 0
def tw319989639380759796 := 0
def tw7036961640736826389 := 0
def tw11774530767823642094 := 0
def tw1178091517017442205 := 0
def tw2868305341164272031 := 0
def tw5017028641740181565 := 0
def tw289534798376995776 := 0
def tw14900702946795370157 := 0
def tw7656031595456243517 := 0
def tw11547190622461159250 := 0
def tw15045761236661406702 := 0
def tw11243757275287977875 := 0
def tw9698053010752620268 := 0
def tw11067374830884106918 := 0
def tw17686932272674336487 := 0
def tw2823042271199986127 := 0
def tw10579371477526886329 := 0
def tw14853589631390204175 := 0
def tw12926381540789058763 := 0
def tw136371417116118511 := 0
def tw14615881680103101510 := 0
def tw10814391050224080371 := 0
def tw17093613079330843862 := 0
def tw7504673458043838719 := 0
def tw12261654129707782047 := 0
def tw4497486617293278136 := 0
def tw10557588609138301534 := 0
def tw7030077846139931102 := 0
def tw82144630639760481 := 0
def tw16899439186352337090 := 0
def tw141261886886822913 := 0
def tw14858932485082939035 := 0
def tw11010234087993775926 := 0
def tw13014482946431887547 := 0
def tw5059431107962507583 := 0
def tw9721644709909749892 := 0
def tw4606700623007336088 := 0
def tw17966537703844866459 := 0
def tw9561239142103699806 := 0
def tw5763200601072469454 := 0
def tw11784441863810689242 := 0
def tw10441021606959920790 := 0
def tw15182878587163000233 := 0
def tw15139029604732958221 := 0
def tw10685947478165470600 := 0
def tw9147584641216263111 := 0
def tw2617397559155182358 := 0
def tw11355948480186062698 := 0
def tw17516021667068753622 := 0
def tw17513540067795664537 := 0
def tw12591908446878828880 := 0
def tw1472182023031433070 := 0
def tw16912255775990805122 := 0
def tw8321475806504673482 := 0
def tw4585110602895751392 := 0
def tw16253312498417320965 := 0
def tw64698221631570774 := 0
def tw15277817827151362078 := 0
def tw13985356479915082333 := 0
def tw1886094542306413525 := 0
def tw10896028498851947779 := 0
def tw1540647166454394323 := 0
def tw17983890064926373633 := 0
def tw11586486882929202480 := 0
def tw10174111682981823975 := 0
def tw12556925449142514268 := 0
def tw3873700223151556317 := 0
def tw4546695205307333622 := 0
def tw16682930087202322275 := 0
def tw5749845989933448209 := 0
def tw9562032146482560179 := 0
def tw2272216921392467209 := 0
def tw11332689754304065101 := 0
def tw16802565159207568955 := 0
def tw1295423793483437306 := 0
def tw18113200367342157753 := 0
def tw10931131042339778012 := 0
def tw9925761592319343213 := 0
def tw15701142816129835814 := 0
end PySem.W.Fast
open PySem PySem.W PyProof.Rows
set_option maxRecDepth 100000 in
set_option maxHeartbeats 0 in
theorem PySem.Challenge.cw_pageturns_k11_what_is_a_sieve_holds : PySem.Challenge.rw_pageturns_k11_what_is_a_sieve.Holds := by
  w_on; o_law; k_head; (case hw => w_witness2)
  k_fill
  refine L2.walk_ofK (l := PySem.Challenge.rw_pageturns_k11_what_is_a_sieve) (n := 63) (k := 17) (x := "_law_script") (CX := L2.CX0) (sp := My.sp_law) rfl (by decide) rfl ⟨rfl, by decide, by decide⟩ (fun w h Y => PySem.W.kIn_of Y) ?F ?S ?C
  case F =>
    intro w mg fa h KX G hmg
    have T : ∃ t, My.Txt w (L2.KOf KX) mg t := by
      dsimp only [L2.KOf]
      refine' My.txt_mk KX G ?a0 ?l0 ?c0 ?k0 ?a1 ?l1 ?c1 ?k1 ?a2 ?l2 ?c2 ?k2 ?a3 ?l3 ?c3 ?k3 ?a4 ?l4 ?c4 ?k4 ?a5 ?l5 ?c5 ?k5 ?a6 ?l6 ?c6 ?k6 ?a7 ?l7 ?c7 ?k7 ?a8 ?l8 ?c8 ?k8 ?a9 ?l9 ?c9 ?k9 ?a10 ?l10 ?c10 ?k10 ?a11 ?l11 ?c11 ?k11 ?a12 ?l12 ?c12 ?k12 ?a13 ?l13 ?c13 ?k13 ?a14 ?l14 ?c14 ?k14 ?a15 ?l15 ?c15 ?k15 ?a16 ?l16 ?c16 ?k16 ?a17 ?l17 ?c17 ?k17 ?a18 ?l18 ?c18 ?k18 ?a19 ?l19 ?c19 ?k19 ?a20 ?l20 ?c20 ?k20 ?a21 ?l21 ?c21 ?k21 ?a22 ?l22 ?c22 ?k22 ?a23 ?l23 ?c23 ?k23 ?a24 ?l24 ?c24 ?k24 ?a25 ?l25 ?c25 ?k25 ?a26 ?l26 ?c26 ?k26 ?a27 ?l27 ?c27 ?k27 ?a28 ?l28 ?c28 ?k28 ?a29 ?l29 ?c29 ?k29 ?a30 ?l30 ?c30 ?k30 ?a31 ?l31 ?c31 ?k31 ?v_MOST_NAME_SIGNS ?v_MOST_KEY_SIGNS ?v_MOST_WORD_SIGNS ?v_MOST_DEEP ?v_MOST_PARTS ?v_MOST_IN_A_TUPLE ?v_LENGTHS ?w_LENGTHS ?y_LENGTHS ?z_ValueError ?z_isinstance ?z_int ?z_bool ?z_all ?z_str ?z_len ?z_dict ?z_tuple ?z_range ?z_sum ?z_min ?g_PageError ?g_BadColumns ?g_BadRow ?g_BadSieve ?g_NoText ?x_PageError ?x_BadColumns ?x_BadRow ?x_BadSieve ?x_NoText ?ga_BadSieve ?gh_BadSieve ?gc_BadSieve ?m_BadSieve_PageError ?k_BadSieve_BadSieve ?k_BadSieve_ValueError ?k_BadSieve_BadColumns ?k_BadSieve_BadRow ?k_BadSieve_NoText
      (case a0 => k_is)
      (case l0 => k_is)
      (case c0 => k_is)
      (case k0 => k_is)
      (case a1 => k_is)
      (case l1 => k_is)
      (case c1 => k_is)
      (case k1 => k_is)
      (case a2 => k_is)
      (case l2 => k_is)
      (case c2 => k_is)
      (case k2 => k_is)
      (case a3 => k_is)
      (case l3 => k_is)
      (case c3 => k_is)
      (case k3 => k_is)
      (case a4 => k_is)
      (case l4 => k_is)
      (case c4 => k_is)
      (case k4 => k_is)
      (case a5 => k_is)
      (case l5 => k_is)
      (case c5 => k_is)
      (case k5 => k_is)
      (case a6 => k_is)
      (case l6 => k_is)
      (case c6 => k_is)
      (case k6 => k_is)
      (case a7 => k_is)
      (case l7 => k_is)
      (case c7 => k_is)
      (case k7 => k_is)
      (case a8 => k_is)
      (case l8 => k_is)
      (case c8 => k_is)
      (case k8 => k_is)
      (case a9 => k_is)
      (case l9 => k_is)
      (case c9 => k_is)
      (case k9 => k_is)
      (case a10 => k_is)
      (case l10 => k_is)
      (case c10 => k_is)
      (case k10 => k_is)
      (case a11 => k_is)
      (case l11 => k_is)
      (case c11 => k_is)
      (case k11 => k_is)
      (case a12 => k_is)
      (case l12 => k_is)
      (case c12 => k_is)
      (case k12 => k_is)
      (case a13 => k_is)
      (case l13 => k_is)
      (case c13 => k_is)
      (case k13 => k_is)
      (case a14 => k_is)
      (case l14 => k_is)
      (case c14 => k_is)
      (case k14 => k_is)
      (case a15 => k_is)
      (case l15 => k_is)
      (case c15 => k_is)
      (case k15 => k_is)
      (case a16 => k_is)
      (case l16 => k_is)
      (case c16 => k_is)
      (case k16 => k_is)
      (case a17 => k_is)
      (case l17 => k_is)
      (case c17 => k_is)
      (case k17 => k_is)
      (case a18 => k_is)
      (case l18 => k_is)
      (case c18 => k_is)
      (case k18 => k_is)
      (case a19 => k_is)
      (case l19 => k_is)
      (case c19 => k_is)
      (case k19 => k_is)
      (case a20 => k_is)
      (case l20 => k_is)
      (case c20 => k_is)
      (case k20 => k_is)
      (case a21 => k_is)
      (case l21 => k_is)
      (case c21 => k_is)
      (case k21 => k_is)
      (case a22 => k_is)
      (case l22 => k_is)
      (case c22 => k_is)
      (case k22 => k_is)
      (case a23 => k_is)
      (case l23 => k_is)
      (case c23 => k_is)
      (case k23 => k_is)
      (case a24 => k_is)
      (case l24 => k_is)
      (case c24 => k_is)
      (case k24 => k_is)
      (case a25 => k_is)
      (case l25 => k_is)
      (case c25 => k_is)
      (case k25 => k_is)
      (case a26 => k_is)
      (case l26 => k_is)
      (case c26 => k_is)
      (case k26 => k_is)
      (case a27 => k_is)
      (case l27 => k_is)
      (case c27 => k_is)
      (case k27 => k_is)
      (case a28 => k_is)
      (case l28 => k_is)
      (case c28 => k_is)
      (case k28 => k_is)
      (case a29 => k_is)
      (case l29 => k_is)
      (case c29 => k_is)
      (case k29 => k_is)
      (case a30 => k_is)
      (case l30 => k_is)
      (case c30 => k_is)
      (case k30 => k_is)
      (case a31 => k_is)
      (case l31 => k_is)
      (case c31 => k_is)
      (case k31 => k_is)
      (case v_MOST_NAME_SIGNS => k_is)
      (case v_MOST_KEY_SIGNS => k_is)
      (case v_MOST_WORD_SIGNS => k_is)
      (case v_MOST_DEEP => k_is)
      (case v_MOST_PARTS => k_is)
      (case v_MOST_IN_A_TUPLE => k_is)
      (case v_LENGTHS => k_is)
      (case w_LENGTHS => k_is)
      (case y_LENGTHS => first | rfl | decide)
      (case z_ValueError => k_is)
      (case z_isinstance => k_is)
      (case z_int => k_is)
      (case z_bool => k_is)
      (case z_all => k_is)
      (case z_str => k_is)
      (case z_len => k_is)
      (case z_dict => k_is)
      (case z_tuple => k_is)
      (case z_range => k_is)
      (case z_sum => k_is)
      (case z_min => k_is)
      (case g_PageError => k_is)
      (case g_BadColumns => k_is)
      (case g_BadRow => k_is)
      (case g_BadSieve => k_is)
      (case g_NoText => k_is)
      (case x_PageError => k_exc)
      (case x_BadColumns => k_exc)
      (case x_BadRow => k_exc)
      (case x_BadSieve => k_exc)
      (case x_NoText => k_exc)
      (case ga_BadSieve => k_is)
      (case gh_BadSieve => k_is)
      (case gc_BadSieve => k_is)
      (case m_BadSieve_PageError => k_is)
      (case k_BadSieve_BadSieve => kit_is)
      (case k_BadSieve_ValueError => kit_is)
      (case k_BadSieve_BadColumns => kit_is)
      (case k_BadSieve_BadRow => kit_is)
      (case k_BadSieve_NoText => kit_is)
    obtain ⟨t, T⟩ := T
    have e0 := hmg.symm.trans T.mg_law
    cases e0
    exact ⟨_, T.bl, fun base kb nb => My.ok_law T⟩
  case S => exact fun K H a ns hl hO hS => ⟨a, ns, rfl, hS, hl, fun _ => rfl⟩
  case C => exact fun _ _ _ _ z => z
#print axioms PySem.Challenge.cw_pageturns_k11_what_is_a_sieve_holds
