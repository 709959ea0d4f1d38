import PyProof.Rows.All
import Wide.All
import OpenK.AllK
import Wide.FinOn
import Lean
import PyProof.EqAt
import PyProof.EqKinds
import PyProof.TupleCall
import PySem.SetOps
import PyProof.SetKind
import PyProof.TupleKey
import PyProof.IsRules
import PyProof.Rows.SetFrom
import PySem.Challenge.RW_litfigures_k08_whole_counters

set_option Elab.async false
set_option linter.all false
set_option maxRecDepth 100000
/-! THE HAND LAYER, for ints, bools, texts, own classes, LISTS and tuples (index, slices, in, append, pop ..), calls, loops. Paste it whole ahead of your own text; what your proof does not reach may be deleted. -/
namespace L2
open PySem PySem.Spec PyProof.Rows

/-- a key: an int or a str -/
abbrev Key := Sum Int Str
def keyIs : Key → Value → Bool
  | .inl k, v => Value.isInt k v
  | .inr x, v => Value.isStrOf x v
def keyH (w : World) : Key → Int
  | .inl k => hashInt k
  | .inr x => hashStr w x
theorem keyIs_shape : ∀ {k : Key} {v : Value}, keyIs k v = true → (∃ i t, k = Sum.inl i ∧ v = Value.int i t) ∨ (∃ x t, k = Sum.inr x ∧ v = Value.str x t)
  | .inl i, v, h => by
    obtain ⟨t, e⟩ := Value.isInt_shape (k := i) (v := v) h
    exact .inl ⟨i, t, rfl, e⟩
  | .inr x, v, h => by
    obtain ⟨t, e⟩ := Value.isStrOf_shape (x := x) (v := v) h
    exact .inr ⟨x, t, rfl, e⟩
theorem keyIs_int (i : Int) (t : Tok) : keyIs (.inl i) (.int i t) = true := by simp [keyIs, Value.isInt]
theorem keyIs_str (x : Str) (t : Tok) : keyIs (.inr x) (.str x t) = true := by simp [keyIs, Value.isStrOf]
theorem key_ll (a b : Int) : decide ((Sum.inl a : Key) = Sum.inl b) = (a == b) := by
  by_cases e : a = b
  · subst e; simp
  · have h : ¬ (Sum.inl a : Key) = Sum.inl b := fun q => e (Sum.inl.inj q)
    rw [decide_eq_false h]
    exact (beq_eq_false_iff_ne.mpr e).symm
theorem key_rr (a b : Str) : decide ((Sum.inr a : Key) = Sum.inr b) = decide (a = b) := by
  by_cases e : a = b
  · subst e; simp
  · have h : ¬ (Sum.inr a : Key) = Sum.inr b := fun q => e (Sum.inr.inj q)
    rw [decide_eq_false h, decide_eq_false e]
theorem key_lr (a : Int) (b : Str) : decide ((Sum.inl a : Key) = Sum.inr b) = false := decide_eq_false (fun q => nomatch q)
theorem key_rl (a : Str) (b : Int) : decide ((Sum.inr a : Key) = Sum.inl b) = false := decide_eq_false (fun q => nomatch q)

def mixKind (prog : Program) (w : World) : PySem.KeyKind prog w Key where
  is := keyIs
  hash := keyH w
  inj := fun v a b ha hb => by
    rcases keyIs_shape ha with ⟨i, t, rfl, rfl⟩ | ⟨x, t, rfl, rfl⟩
    · rcases keyIs_shape hb with ⟨j, u, rfl, e⟩ | ⟨y, u, rfl, e⟩
      · injection e with e1 _; rw [e1]
      · exact nomatch e
    · rcases keyIs_shape hb with ⟨j, u, rfl, e⟩ | ⟨y, u, rfl, e⟩
      · exact nomatch e
      · injection e with e1 _; rw [e1]
  byValue := fun k v h => by
    rcases keyIs_shape h with ⟨i, t, rfl, rfl⟩ | ⟨x, t, rfl, rfl⟩ <;> rfl
  pyHash := fun hv h => by
    rcases keyIs_shape hv with ⟨i, t, rfl, rfl⟩ | ⟨x, t, rfl, rfl⟩
    · exact wpAny_pyHash_int h
    · exact wpAny_pyHash_str h
  eqBool := fun hu hv h => by
    rcases keyIs_shape hu with ⟨i, t, rfl, rfl⟩ | ⟨x, t, rfl, rfl⟩
    · rcases keyIs_shape hv with ⟨j, u, rfl, rfl⟩ | ⟨y, u, rfl, rfl⟩
      · rw [key_ll] at h; exact wpAny_eqBool_int h
      · rw [key_lr] at h; exact SeqAt.EqAt.int_str i t y u _ _ _ _ h
    · rcases keyIs_shape hv with ⟨j, u, rfl, rfl⟩ | ⟨y, u, rfl, rfl⟩
      · rw [key_rl] at h; exact SeqAt.EqAt.str_int x t j u _ _ _ _ h
      · rw [key_rr] at h; exact wpAny_eqBool_str h
  «strs» := fun k x t v h => by
    rcases keyIs_shape h with ⟨i, u, rfl, e⟩ | ⟨y, u, rfl, e⟩
    · exact nomatch e
    · injection e with e1 _
      subst e1
      cases v <;> rfl

theorem mixKind_int (prog : Program) (w : World) (i : Int) (t : Tok) : (mixKind prog w).is (.inl i) (.int i t) = true := keyIs_int i t
theorem mixKind_str (prog : Program) (w : World) (x : Str) (t : Tok) : (mixKind prog w).is (.inr x) (.str x t) = true := keyIs_str x t
end L2

namespace L2
open PySem PySem.Spec PyProof.Rows

/-- a value, without the heap -/
inductive V where
  | non | bl (b : Bool) | int (i : Int) | str (x : Str) | byt (b : Array UInt8) | flt (b : UInt64) | ref (a : Addr) | ty (n : String)
  deriving DecidableEq

def RelV : V → Value → Prop
  | .non, u => u = Value.none
  | .bl b, u => u = Value.bool b
  | .int i, u => ∃ t, u = Value.int i t
  | .str x, u => ∃ t, u = Value.str x t
  | .byt b, u => ∃ t, u = Value.bytes b t
  | .flt b, u => ∃ t, u = Value.float b t
  | .ref a, u => u = Value.ref a
  | .ty n, u => u = Value.type n

abbrev Vals : List V → List Value → Prop := Paired RelV
theorem Vals.length {xs : List V} {us : List Value} (r : Vals xs us) : xs.length = us.length := Paired.length r
theorem Vals.get : ∀ {xs : List V} {us : List Value} {i : Nat} {x : V}, Vals xs us → xs[i]? = some x → ∃ u, us[i]? = some u ∧ RelV x u
  | _, _, _, _, .nil, e => by simp at e
  | _, _, 0, _, .cons r _, e => by simp at e; subst e; exact ⟨_, rfl, r⟩
  | _, _, i + 1, x, .cons _ t, e => by
    obtain ⟨u, h1, h2⟩ := Vals.get (i := i) (x := x) t (by simpa using e)
    exact ⟨u, by simpa using h1, h2⟩
theorem Vals.set {x : V} {u : Value} (r : RelV x u) : ∀ {xs : List V} {us : List Value} (i : Nat), Vals xs us → Vals (xs.set i x) (us.set i u)
  | _, _, _, .nil => .nil
  | _, _, 0, .cons _ t => .cons r t
  | _, _, i + 1, .cons q t => .cons q (Vals.set r i t)
theorem Vals.append : ∀ {xs ys : List V} {us ws : List Value}, Vals xs us → Vals ys ws → Vals (xs ++ ys) (us ++ ws)
  | _, _, _, _, .nil, s => s
  | _, _, _, _, .cons r t, s => .cons r (Vals.append t s)
theorem Vals.take : ∀ {xs : List V} {us : List Value} (n : Nat), Vals xs us → Vals (xs.take n) (us.take n)
  | _, _, 0, _ => .nil
  | _, _, _ + 1, .nil => .nil
  | _, _, n + 1, .cons r t => .cons r (Vals.take n t)
theorem Vals.drop : ∀ {xs : List V} {us : List Value} (n : Nat), Vals xs us → Vals (xs.drop n) (us.drop n)
  | _, _, 0, r => r
  | _, _, _ + 1, .nil => .nil
  | _, _, n + 1, .cons _ t => Vals.drop n t
def RelO : Option V → Option Value → Prop
  | some v, some u => RelV v u
  | none, none => True
  | _, _ => False
def KV {κ : Type} : List (κ × V) → List (κ × Value) → Prop := Paired fun (p : κ × V) (q : κ × Value) => p.1 = q.1 ∧ RelV p.2 q.2

/-- a key of a dict (00_mix): an int or a text -/
def kV : Key → V
  | .inl i => .int i
  | .inr x => .str x

/-- what stands at a tracked address -/
inductive HO where
  /-- a list -/
  | lst (xs : List V)
  /-- a tuple (never changes) -/
  | tup (xs : List V)
  /-- a dict whose keys are ints and texts; one whose keys are tuples of ints and texts (the empty one is both) -/
  | dK (kvs : List (Key × V)) | dT (kvs : List (List Key × V))
  /-- a set of ints: its members, its size -/
  | set (S : Int → Bool) (n : Nat)
  /-- an instance of the class at C, its dict at dx, its attributes -/
  | ins (C dx : Addr) (fs : List (Str × V))
  /-- the dict of the instance at x -/
  | own (x : Addr)
  /-- the dict of an exception -/
  | xd (fs : List (Str × V))
  /-- a bound method, f of x -/
  | met (f x : Addr)
  /-- a range object lo, lo + 1, .. below hi -/
  | rng (lo hi : Int)
  /-- a thing that is known to the object (the script; a dict while a loop walks it): read, never written while it is so -/
  | frz (o : Obj) (u : HO)
  /-- a code object's table -/
  | tbl (ps : Array Value)
  /-- any other thing, by what is true of its one object (a def of one's own: SetO a S n := HO.ext fun h => ..) -/
  | ext (φ : Heap → Prop)

abbrev Hp := Addr → Option HO
def upd (H : Hp) (a : Addr) (o : HO) : Hp := fun b => if b = a then some o else H b
theorem upd_same {H : Hp} {a : Addr} {o : HO} : upd H a o a = some o := by unfold upd; rw [if_pos rfl]
theorem upd_ne {H : Hp} {a b : Addr} {o : HO} (h : b ≠ a) : upd H a o b = H b := by unfold upd; rw [if_neg h]
/-- two objects of different content stand apart -/
theorem ne_of {H : Hp} {a b : Addr} {o u : HO} (h : H a = some o) (h' : H b = some u) (d : o ≠ u) : a ≠ b := by
  intro e; subst e; rw [h] at h'; exact d (Option.some.inj h')
theorem ne_of_none {H : Hp} {a b : Addr} {o : HO} (h : H a = some o) (h' : H b = none) : a ≠ b := by
  intro e; subst e; rw [h] at h'; cases h'

section
variable (P : Program) (w : World)
def ObjOk (H : Hp) (h : Heap) (a : Addr) : HO → Prop
  | .lst xs => xs.length ≤ sizeLine ∧ ∃ (its : List Value) (n : Nat), Vals xs its ∧ h.get? a = some { cls := .type "list", data := .seq its.toArray n }
  | .tup xs => xs.length ≤ sizeLine ∧ ∃ its : List Value, Vals xs its ∧ IsTup h a its.toArray
  | .dK kvs => kvs.length ≤ sizeLine ∧ (a == sysModules) = false ∧ ∃ vs, KV kvs vs ∧ h.DictOf (mixKind P w) a vs
  | .dT kvs => kvs.length ≤ sizeLine ∧ (a == sysModules) = false ∧ ∃ xs : List (List Key × Addr × Value),
      Paired (fun (p : List Key × V) (q : List Key × Addr × Value) => p.1 = q.1 ∧ H q.2.1 = some (.tup (p.1.map kV)) ∧ RelV p.2 q.2.2) kvs xs ∧
      ∃ o es ep, h.get? a = some o ∧ o.ExactDict ∧ o.data = .dict es ep ∧ es.toList = xs.map (entryOfKey (tupleKind (mixKind P w))) ∧ (xs.map (·.1)).Nodup
  | .set S n => h.SetOf (intKind P w) a S n
  | .ins C dx fs => H dx = some (.own a) ∧ fs.length ≤ 1000 ∧ dx ≠ a ∧ h.get? a = some (PySem.W.instObj C dx) ∧
      ∃ mA, h.Ns1 dx mA ∧ (∀ f, RelO (fs.lookup f) (mA f)) ∧ PySem.Within mA (fs.map (·.1))
  | .own _ => ∃ o, h.get? a = some o
  | .xd fs => ∃ mA, h.Ns1 a mA ∧ ∀ f, RelO (fs.lookup f) (mA f)
  | .rng lo hi => ∃ t u v, h.get? a = some { cls := .type "range", data := .fields #[.int lo t, .int hi u, .int 1 v] }
  | .frz o u => h.get? a = some o ∧ ObjOk H h a u
  | .tbl ps => h.get? a = some { cls := .none, data := .fields ps }
  | .met f x => h.get? a = some (PySem.W.methodObj (.ref f) (.ref x))
  | .ext φ => φ h ∧ (∃ o, h.get? a = some o) ∧ ∀ h1 h2 : Heap, φ h1 → (∀ o, h1.get? a = some o → h2.get? a = some o) → φ h2
/-- the abstract heap is held -/
def HOk (H : Hp) (h : Heap) : Prop := ∀ a o, H a = some o → ObjOk P w H h a o
end

section
variable {P : Program} {w : World} {H H' : Hp} {h h' : Heap} {a : Addr} {o : HO}
theorem ObjOk.lt (x : ObjOk P w H h a o) : a < h.objs.size := by
  cases o with
  | lst xs => obtain ⟨_, _, _, _, e⟩ := x; exact Heap.lt_size e
  | tup xs => obtain ⟨_, _, _, p⟩ := x; exact p.lt
  | dK kvs => obtain ⟨_, _, _, _, o, _, _, e, _⟩ := x; exact Heap.lt_size e
  | dT kvs => obtain ⟨_, _, _, _, o, _, _, e, _⟩ := x; exact Heap.lt_size e
  | set S n => obtain ⟨o, _, _, _, e, _⟩ := x; exact Heap.lt_size e
  | ins C dx fs => obtain ⟨_, _, _, e, _⟩ := x; exact Heap.lt_size e
  | own y => obtain ⟨_, e⟩ := x; exact Heap.lt_size e
  | xd fs => obtain ⟨_, ⟨_, _, _, e, _⟩, _⟩ := x; exact Heap.lt_size e
  | rng lo hi => obtain ⟨_, _, _, e⟩ := x; exact Heap.lt_size e
  | frz ob u => obtain ⟨e, _⟩ := x; exact Heap.lt_size e
  | tbl ps => exact Heap.lt_size (show h.get? a = some _ from x)
  | met f y => exact Heap.lt_size (show h.get? a = some _ from x)
  | ext φ => obtain ⟨_, ⟨_, e⟩, _⟩ := x; exact Heap.lt_size e
theorem Paired.mapP {α β : Type} {F G : α → β → Prop} : ∀ {l₁ : List α} {l₂ : List β}, Paired F l₁ l₂ → (∀ a b, F a b → G a b) → Paired G l₁ l₂
  | _, _, .nil, _ => .nil
  | _, _, .cons r t, f => .cons (f _ _ r) (Paired.mapP t f)
/-- what an object's description leans on: its own object, its own dict, the tuples -/
theorem ObjOk.stay (x : ObjOk P w H h a o) (k : ∀ b u, (b = a ∨ H b = some (.own a)) → h.get? b = some u → h'.get? b = some u)
    (ho : ∀ b, H b = some (.own a) → H' b = some (.own a)) (ht : ∀ b xs, H b = some (.tup xs) → H' b = some (.tup xs)) : ObjOk P w H' h' a o := by
  induction o with
  | lst xs => obtain ⟨z, its, n, r, e⟩ := x; exact ⟨z, its, n, r, k _ _ (.inl rfl) e⟩
  | tup xs => obtain ⟨z, its, r, ob, e, c⟩ := x; exact ⟨z, its, r, ob, k _ _ (.inl rfl) e, c⟩
  | dK kvs => obtain ⟨z, y, vs, r, ob, es, ep, e, c⟩ := x; exact ⟨z, y, vs, r, ob, es, ep, k _ _ (.inl rfl) e, c⟩
  | dT kvs =>
    obtain ⟨z, y, xs, r, ob, es, ep, e, c⟩ := x
    exact ⟨z, y, xs, Paired.mapP r fun p q z => ⟨z.1, ht _ _ z.2.1, z.2.2⟩, ob, es, ep, k _ _ (.inl rfl) e, c⟩
  | set S n => obtain ⟨ob, es, ep, t, e, c⟩ := x; exact ⟨ob, es, ep, t, k _ _ (.inl rfl) e, c⟩
  | ins C dx fs =>
    obtain ⟨d, z, ne, e, mA, ⟨od, es, ep, e2, c⟩, r⟩ := x
    exact ⟨ho _ d, z, ne, k _ _ (.inl rfl) e, mA, ⟨od, es, ep, k _ _ (.inr d) e2, c⟩, r⟩
  | own y => obtain ⟨ob, e⟩ := x; exact ⟨ob, k _ _ (.inl rfl) e⟩
  | xd fs => obtain ⟨mA, ⟨od, es, ep, e, c⟩, r⟩ := x; exact ⟨mA, ⟨od, es, ep, k _ _ (.inl rfl) e, c⟩, r⟩
  | rng lo hi => obtain ⟨t, u, v, e⟩ := x; exact ⟨t, u, v, k _ _ (.inl rfl) e⟩
  | frz ob u ih => obtain ⟨e, q⟩ := x; exact ⟨k _ _ (.inl rfl) e, ih q⟩
  | tbl ps =>
    have e : h.get? a = some { cls := .none, data := .fields ps } := x
    show h'.get? a = some { cls := .none, data := .fields ps }
    exact k a _ (.inl rfl) e
  | met f y =>
    have e : h.get? a = some (PySem.W.methodObj (.ref f) (.ref y)) := x
    show h'.get? a = some (PySem.W.methodObj (.ref f) (.ref y))
    exact k a _ (.inl rfl) e
  | ext φ => obtain ⟨p, ⟨o, e⟩, st⟩ := x; exact ⟨st _ _ p fun o q => k _ _ (.inl rfl) q, ⟨o, k _ _ (.inl rfl) e⟩, st⟩
theorem HOk.lt (x : HOk P w H h) (e : H a = some o) : a < h.objs.size := (x a o e).lt
theorem HOk.fresh (x : HOk P w H h) (e : h.objs.size ≤ a) : H a = none := by
  cases q : H a with
  | none => rfl
  | some u => exact absurd (Nat.lt_of_lt_of_le (x.lt q) e) (Nat.lt_irrefl _)
/-- every object of the heap is kept -/
theorem HOk.kept (x : HOk P w H h) (k : ∀ b u, h.get? b = some u → h'.get? b = some u) : HOk P w H h' := fun a o e =>
  (x a o e).stay (fun b u _ q => k b u q) (fun _ q => q) fun _ _ q => q
/-- a new object is laid and tracked -/
theorem HOk.laid (x : HOk P w H h) (k : ∀ b u, h.get? b = some u → h'.get? b = some u) (hp : h.objs.size ≤ a) (new : ObjOk P w (upd H a o) h' a o) : HOk P w (upd H a o) h' := fun b u e => by
  have hn := x.fresh hp
  by_cases hb : b = a
  · subst hb; rw [upd_same] at e; cases e; exact new
  · rw [upd_ne hb] at e
    exact (x b u e).stay (fun c v _ q => k c v q) (fun c q => by rw [upd_ne (ne_of_none q hn)]; exact q) fun c xs q => by rw [upd_ne (ne_of_none q hn)]; exact q
end

/-- what may be read as u: it is u, or a known u -/
def Rd (H : Hp) (a : Addr) (u : HO) : Prop := H a = some u ∨ ∃ o, H a = some (.frz o u)
theorem Rd.of {H : Hp} {a : Addr} {u : HO} (h : H a = some u) : Rd H a u := .inl h
theorem Rd.ok {P : Program} {w : World} {H : Hp} {h : Heap} {a : Addr} {u : HO} (r : Rd H a u) (x : HOk P w H h) : ObjOk P w H h a u := by
  rcases r with r | ⟨o, r⟩
  · exact x a u r
  · obtain ⟨_, q⟩ := x a _ r
    exact q
/-- what may be written -/
def Mut : Option HO → Prop
  | some (.lst _) => True
  | some (.dK _) => True
  | some (.dT _) => True
  | some (.set _ _) => True
  | some (.ins _ _ _) => True
  | some (.ext _) => True
  | _ => False
section
variable {P : Program} {w : World} {H : Hp} {h h' : Heap} {x e : Addr} {o' : HO}
/-- the object at e is changed: x itself, or the dict of the instance x -/
theorem HOk.write (ok : HOk P w H h) (mu : Mut (H x)) (he : e = x ∨ H e = some (.own x)) (k : ∀ b u, b ≠ e → h.get? b = some u → h'.get? b = some u) (heo : ∃ u, h'.get? e = some u)
    (new : ObjOk P w (upd H x o') h' x o') : HOk P w (upd H x o') h' := fun b u q => by
  have nown : ∀ c y, H c = some (.own y) → c ≠ x := fun c y r z => by subst z; rw [r] at mu; exact mu
  have ntup : ∀ c xs, H c = some (.tup xs) → c ≠ x := fun c xs r z => by subst z; rw [r] at mu; exact mu
  by_cases hb : b = x
  · subst hb; rw [upd_same] at q; cases q; exact new
  · rw [upd_ne hb] at q
    by_cases hbe : b = e
    · have q' : H b = some (.own x) := by
        rcases he with z | z
        · exact absurd (hbe.trans z) hb
        · rw [hbe]; exact z
      rw [q] at q'; cases q'
      obtain ⟨v, hv⟩ := heo
      exact ⟨v, by rw [hbe]; exact hv⟩
    · refine (ok b u q).stay (fun c v hc r => k c v ?_ r) (fun c r => by rw [upd_ne (nown c b r)]; exact r) fun c xs r => by rw [upd_ne (ntup c xs r)]; exact r
      rcases hc with rfl | hc
      · exact hbe
      · rintro rfl
        rcases he with z | z
        · exact nown c b hc z
        · rw [hc] at z; cases z; exact hb rfl
end

/-! ### kept unless tracked; of the frames at fs (the callers') the slots may change (an exception that passes writes there); of the records at ex (iterators) nothing is said -/
structure Un (fs ex : List Addr) (H H' : Hp) (h h' : Heap) : Prop where
  keep : ∀ b o, h.get? b = some o → H b = none → b ∉ fs → b ∉ ex → h'.get? b = some o
  slot : ∀ b o, h.get? b = some o → H b = none → b ∈ fs → b ∉ ex → ∃ sl, h'.get? b = some { o with slots := sl }
  free : ∀ b o, h.get? b = some o → H b = none → b ∉ ex → H' b = none
  there : ∀ b o, h.get? b = some o → b ∉ ex → ∃ o', h'.get? b = some o'
  tups : ∀ b xs, H b = some (.tup xs) → H' b = some (.tup xs)
  frzs : ∀ b o u, H b = some (.frz o u) → H' b = some (.frz o u)
  tbls : ∀ b ps, H b = some (.tbl ps) → ∃ more, H' b = some (.tbl (ps ++ more))
section
variable {fs fs' ex ex' : List Addr} {H H1 H2 : Hp} {h h1 h2 h' : Heap} {a x e : Addr} {o : HO}
theorem Un.any (u : Un fs ex H H1 h h1) {b : Addr} {ob : Obj} (q : h.get? b = some ob) (n : H b = none) (hx : b ∉ ex) : ∃ sl, h1.get? b = some { ob with slots := sl } := by
  by_cases hb : b ∈ fs
  · exact u.slot b ob q n hb hx
  · exact ⟨ob.slots, u.keep b ob q n hb hx⟩
theorem Un.trans (a : Un fs ex H H1 h h1) (b : Un fs ex H1 H2 h1 h2) : Un fs ex H H2 h h2 where
  keep := fun c ob q n hc hx => b.keep c ob (a.keep c ob q n hc hx) (a.free c ob q n hx) hc hx
  slot := fun c ob q n hc hx => by
    obtain ⟨sl, e1⟩ := a.slot c ob q n hc hx
    obtain ⟨sl', e2⟩ := b.slot c _ e1 (a.free c ob q n hx) hc hx
    exact ⟨sl', e2⟩
  free := fun c ob q n hx => by
    obtain ⟨o', e1⟩ := a.there c ob q hx
    exact b.free c o' e1 (a.free c ob q n hx) hx
  there := fun c ob q hx => by
    obtain ⟨o', e1⟩ := a.there c ob q hx
    exact b.there c o' e1 hx
  tups := fun c xs q => b.tups c xs (a.tups c xs q)
  frzs := fun c ob xs q => b.frzs c ob xs (a.frzs c ob xs q)
  tbls := fun c ps q => by
    obtain ⟨m1, e1⟩ := a.tbls c ps q
    obtain ⟨m2, e2⟩ := b.tbls c _ e1
    exact ⟨m1 ++ m2, by rw [e2, Array.append_assoc]⟩
theorem Un.kept (k : ∀ b u, h.get? b = some u → h'.get? b = some u) : Un fs ex H H h h' :=
  ⟨fun b ob q _ _ _ => k b ob q, fun b ob q _ _ _ => ⟨ob.slots, k b ob q⟩, fun _ _ _ n _ => n, fun b ob q _ => ⟨ob, k b ob q⟩, fun _ _ q => q, fun _ _ _ q => q, fun _ ps q => ⟨#[], by rw [q]; simp⟩⟩
theorem Un.refl : Un fs ex H H h h := Un.kept fun _ _ q => q
theorem Un.laid (k : ∀ b u, h.get? b = some u → h'.get? b = some u) (hp : h.objs.size ≤ a) (hn : H a = none) : Un fs ex H (upd H a o) h h' where
  keep := fun b u q _ _ _ => k b u q
  slot := fun b u q _ _ _ => ⟨u.slots, k b u q⟩
  free := fun b u q n _ => by rw [upd_ne (Nat.ne_of_lt (Nat.lt_of_lt_of_le (Heap.lt_size q) hp))]; exact n
  there := fun b u q _ => ⟨u, k b u q⟩
  tups := fun b xs q => by rw [upd_ne (ne_of_none q hn)]; exact q
  frzs := fun b u xs q => by rw [upd_ne (ne_of_none q hn)]; exact q
  tbls := fun b ps q => ⟨#[], by rw [upd_ne (ne_of_none q hn), q]; simp⟩
theorem Un.write (mu : Mut (H x)) (he : e = x ∨ H e = some (.own x)) (k : ∀ b u, b ≠ e → h.get? b = some u → h'.get? b = some u) (heo : ∃ u, h'.get? e = some u) : Un fs ex H (upd H x o) h h' := by
  have hx : ∀ b, H b = none → b ≠ x := fun b n z => by subst z; rw [n] at mu; exact mu
  have hb : ∀ b, H b = none → b ≠ e := fun b n z => by
    subst z
    rcases he with r | r
    · exact hx b n r
    · rw [n] at r; cases r
  have hm : ∀ b u, H b = some u → ¬ Mut (some u) → b ≠ x := fun b u q nm z => by subst z; rw [q] at mu; exact nm mu
  refine ⟨fun b u q n _ _ => k b u (hb b n) q, fun b u q n _ _ => ⟨u.slots, k b u (hb b n) q⟩, fun b u q n _ => by rw [upd_ne (hx b n)]; exact n, fun b u q _ => ?_,
    fun b xs q => by rw [upd_ne (hm b _ q fun z => z)]; exact q, fun b u xs q => by rw [upd_ne (hm b _ q fun z => z)]; exact q, fun b ps q => ⟨#[], by rw [upd_ne (hm b _ q fun z => z), q]; simp⟩⟩
  by_cases hbe : b = e
  · subst hbe; exact heo
  · exact ⟨u, k b u hbe q⟩
theorem Un.mono (u : Un fs ex H H1 h h1) (hs : ∀ b ∈ fs, b ∈ fs') (hx : ∀ b ∈ ex, b ∈ ex') : Un fs' ex' H H1 h h1 :=
  ⟨fun b ob q n hb he => u.keep b ob q n (fun z => hb (hs b z)) fun z => he (hx b z), fun _ _ q n _ he => u.any q n fun z => he (hx _ z), fun b ob q n he => u.free b ob q n fun z => he (hx b z), fun b ob q he => u.there b ob q fun z => he (hx b z), u.tups, u.frzs, u.tbls⟩
end

/-! ### the heap without what is tracked -/
def trk (h : Heap) (H : Hp) : List Addr := (List.range h.objs.size).filter fun a => (H a).isSome
def hidT (h : Heap) (H : Hp) : Heap := PySem.W.hideAll h (trk h H)
theorem hidT_size (h : Heap) (H : Hp) : (hidT h H).objs.size = h.objs.size := PySem.W.hideAll_size _ _
theorem hidT_get {h : Heap} {H : Hp} {b : Addr} {o : Obj} (e : h.get? b = some o) (n : H b = none) : (hidT h H).get? b = some o :=
  PySem.W.hideAll_get _ e fun hm => by
    have q : (H b).isSome = true := (List.mem_filter.mp hm).2
    rw [n] at q; simp at q
theorem of_hidT {h : Heap} {H : Hp} {b : Addr} {o : Obj} (e : (hidT h H).get? b = some o) : h.get? b = some o ∧ H b = none := by
  have e' : h.get? b = some o := PySem.W.of_hideAll (trk h H) e
  refine ⟨e', ?_⟩
  cases q : H b with
  | none => rfl
  | some x =>
    have hm : b ∈ trk h H := List.mem_filter.mpr ⟨List.mem_range.mpr (Heap.lt_size e'), by simp [q]⟩
    have z : (hidT h H).get? b = none := PySem.W.hideAll_none (trk h H) hm
    rw [z] at e; cases e

/-! ### OpenK's ledger, filled with every new object but one -/
def allNews (g h : Heap) (L : Addr) : List (Addr × Obj) := (List.range h.objs.size).filterMap fun a => if a = L ∨ (g.get? a).isSome = true then none else (h.get? a).map fun o => (a, o)
def rest (g h : Heap) (L d : Addr) : List (Addr × Obj) := (allNews g h L).filter fun p => decide (p.1 ≠ d)
end L2

namespace L2
open PySem PySem.Spec PyProof.Rows

/-- the module's facts, over the base: the heap at the law's entry without what is tracked there -/
structure Mod (K : PySem.W.Frag) (mg : Str → Option Value) (base : Heap) : Prop where
  kin : K.In base
  glob : base.Ns mainGlobals mg
  blt : ∃ mb, base.Ns builtinsNs mb ∧ ∀ x : Str, x ≠ "__name__" → mb x = bootBuiltins x
  nolimit : base.NoLimit

/-- the context: a def's body (or a comprehension's block) running. base: fixed through the whole law; s₀, H₀: the entry; outer: the frames whose slots others may change (a def's callers); stack: all frames that run;
   ex: iterators that were made ahead of the entry and are walked here (a comprehension's); fn: the names whose cells were made at the entry (a def: all; a comprehension's block: its own); calm: not within an except suite; pn: pins that every state bears; xe: what is wanted of an exception that leaves the code -/
structure Cx where
  prog : Program
  w : World
  K : PySem.W.Frag
  mg : Str → Option Value
  base : Heap
  A : Around
  N : List Str
  s₀ : Shared
  H₀ : Hp
  env : Env
  outer : List Env
  stack : List Env
  ex : List Addr
  fn : Str → Bool
  calm : Bool
  pn : List (Addr × Obj)
  xe : Value → Shared → Prop
/-- the callers' frames -/
def frs (l : List Env) : List Addr := l.filterMap (·.frame)
abbrev Cx.fs (X : Cx) : List Addr := frs X.outer

def Vis (sc : Scope) (x : Str) : Prop := sc.names.lookup x = some .local ∨ sc.names.lookup x = some .cell ∨ sc.names.lookup x = some .free
def Loc (sc : Scope) (x : Str) : Prop := sc.names.lookup x = some .local ∨ sc.names.lookup x = some .cell
def Look (env : Env) (h : Heap) (m : Str → Option Value) (x : Str) (u : Value) : Prop :=
  (env.kindOf x = some .local ∧ m x = some u) ∨ ((env.kindOf x = some .cell ∨ env.kindOf x = some .free) ∧ ∃ c, env.cells.lookup x = some c ∧ h.IsCell c (some u))

structure Cx.Ok (X : Cx) : Prop where
  mod : Mod X.K X.mg X.base
  kind : X.env.scope.kind = .function
  glob : X.env.globals = mainGlobals
  blt : X.env.builtins = builtinsNs
  above : X.s₀.heap.objs.size ≤ X.env.locals
  inj : ∀ x y c, X.env.cells.lookup x = some c → X.env.cells.lookup y = some c → x = y
  has : ∀ x, (X.env.kindOf x = some .cell ∨ X.env.kindOf x = some .free) → ∃ c, X.env.cells.lookup x = some c
  cab : ∀ x c, X.fn x = true → X.env.cells.lookup x = some c → X.s₀.heap.objs.size ≤ c
  hd : X.calm = true → X.A.handled = none
  frames : X.A.frames = some X.stack
  stk : X.stack = X.outer ∨ (X.stack = X.env :: X.outer ∧ X.env.frame = some X.env.locals)
  exf : ∀ b ∈ X.ex, b ≠ X.env.locals ∧ ∀ x c, X.env.cells.lookup x = some c → c ≠ b
  bs : ∀ b o, X.base.get? b = some o → X.s₀.heap.get? b = some o ∧ X.H₀ b = none
  bsz : X.base.objs.size ≤ X.s₀.heap.objs.size
  noex : ∀ b o, X.base.get? b = some o → b ∉ X.ex
  exfs : ∀ b ∈ X.ex, b ∉ X.fs
  funs : X.s₀.heap.FunFrames X.base X.outer
  frf : ∀ b ∈ X.fs, X.H₀ b = none

structure Inv (X : Cx) (pins : List (Addr × Obj)) (σ : List (Option V)) (H : Hp) (s : Shared) : Prop where
  ok : X.Ok
  os : s.os = X.s₀.os
  bare : AllBare s.gens
  base : Un X.fs X.ex X.H₀ H X.s₀.heap s.heap
  loc : ∃ m, s.heap.Ns X.env.locals m ∧ ∀ (i : Nat) (x : Str) (v : V), X.N[i]? = some x → σ[i]? = some (some v) → Vis X.env.scope x → ∃ u, RelV v u ∧ Look X.env s.heap m x u
  cell : ∀ x c, X.env.cells.lookup x = some c → ∃ v, s.heap.IsCell c v
  free : H X.env.locals = none
  freeC : ∀ x c, X.env.cells.lookup x = some c → H c = none
  pin : ∀ p ∈ X.pn ++ pins, s.heap.get? p.1 = some p.2 ∧ H p.1 = none ∧ p.1 ≠ X.env.locals ∧ p.1 ∉ X.fs ∧ ∀ v, p.2.data ≠ .cell v
  hok : HOk X.prog X.w H s.heap
  len : σ.length = X.N.length

section
variable {X : Cx} {pins : List (Addr × Obj)} {σ : List (Option V)} {H H' : Hp} {s : Shared} {h' : Heap}

theorem Cx.Ok.nofr (ok : X.Ok) {b : Addr} {o : Obj} (e : X.base.get? b = some o) : b ∉ X.fs := fun hb => by
  have := (ok.funs.mem hb).1
  rw [e] at this; cases this
theorem Inv.bs (I : Inv X pins σ H s) : ∀ b o, X.base.get? b = some o → s.heap.get? b = some o ∧ H b = none := fun b o e =>
  ⟨I.base.keep b o (I.ok.bs b o e).1 (I.ok.bs b o e).2 (I.ok.nofr e) (I.ok.noex b o e), I.base.free b o (I.ok.bs b o e).1 (I.ok.bs b o e).2 (I.ok.noex b o e)⟩
theorem Inv.bk (I : Inv X pins σ H s) : ∀ b o, X.base.get? b = some o → s.heap.get? b = some o := fun b o e => (I.bs b o e).1
theorem Inv.mod (I : Inv X pins σ H s) : Mod X.K X.mg X.base := I.ok.mod
theorem Inv.kIn (I : Inv X pins σ H s) : X.K.In s.heap := I.ok.mod.kin.keeps I.bk
theorem Inv.nolimit (I : Inv X pins σ H s) : s.heap.NoLimit := I.ok.mod.nolimit.keeps I.bk
/-- the frame over the base: for OpenK's rules (K.In X.base is I.mod.kin) -/
theorem Inv.fr (I : Inv X pins σ H s) : ∃ m, Fr X.base X.env.locals s.heap m :=
  let ⟨m, hn, _⟩ := I.loc
  ⟨m, hn, I.bk, Nat.le_trans I.ok.bsz I.ok.above⟩
theorem Inv.lt (I : Inv X pins σ H s) : X.env.locals < s.heap.objs.size := let ⟨_, hn, _⟩ := I.loc; hn.lt
theorem Inv.sz (I : Inv X pins σ H s) : X.s₀.heap.objs.size ≤ s.heap.objs.size := Nat.le_trans I.ok.above (Nat.le_of_lt I.lt)
theorem Inv.nofs (I : Inv X pins σ H s) {a : Addr} (h : s.heap.objs.size ≤ a) : a ∉ X.fs := fun hb => by
  obtain ⟨_, o, ho, _⟩ := I.ok.funs.mem hb
  exact absurd (Nat.lt_of_lt_of_le (Heap.lt_size ho) (Nat.le_trans I.sz h)) (Nat.lt_irrefl _)
theorem Inv.cne (I : Inv X pins σ H s) : ∀ x c, X.env.cells.lookup x = some c → c ≠ X.env.locals := fun x c e z => by
  obtain ⟨v, o, ho, hd⟩ := I.cell x c e
  obtain ⟨m, ⟨o', es, ep, ho', hd', _⟩, _⟩ := I.loc
  rw [z, ho'] at ho; cases ho; rw [hd'] at hd; cases hd
theorem Inv.funs (I : Inv X pins σ H s) : s.heap.FunFrames X.base X.outer := by
  have all : ∀ (l : List Env), (∀ b ∈ frs l, b ∈ X.fs) → X.s₀.heap.FunFrames X.base l → s.heap.FunFrames X.base l := by
    intro l
    induction l with
    | nil => intro _ _; trivial
    | cons env r ih =>
      intro hs hl
      obtain ⟨hk, ⟨L, o, hf, hn, ho, hd⟩, hr⟩ := hl
      have hL : L ∈ X.fs := hs L (by unfold frs; rw [List.filterMap_cons, hf]; exact List.mem_cons_self)
      obtain ⟨sl, e⟩ := I.base.slot L o ho (I.ok.frf L hL) hL fun z => I.ok.exfs L z hL
      exact ⟨hk, ⟨L, _, hf, hn, e, hd⟩, ih (fun b hb => hs b (by unfold frs; rw [List.filterMap_cons, hf]; exact List.mem_cons_of_mem _ hb)) hr⟩
  exact all X.outer (fun _ hb => hb) I.ok.funs

/-- the frames that run, for a call -/
theorem Inv.stack (I : Inv X pins σ H s) : s.heap.FunFrames X.base X.stack := by
  rcases I.ok.stk with e | ⟨e, hf⟩
  · rw [e]; exact I.funs
  · rw [e]
    obtain ⟨m, hn, _⟩ := I.loc
    refine .cons (by rw [I.ok.kind]; decide) hf hn ?_ I.funs
    exact Heap.get?_none_of_le (Nat.le_trans I.ok.bsz I.ok.above)
theorem Inv.stkSub (I : Inv X pins σ H s) : ∀ b ∈ frs X.stack, b ∈ X.env.locals :: X.fs := fun b hb => by
  rcases I.ok.stk with e | ⟨e, hf⟩
  · rw [e] at hb; exact List.mem_cons_of_mem _ hb
  · rw [e] at hb
    unfold frs at hb
    rw [List.filterMap_cons, hf] at hb
    exact hb
theorem Inv.stkFree (I : Inv X pins σ H s) : ∀ b ∈ frs X.stack, H b = none := fun b hb => by
  rcases List.mem_cons.mp (I.stkSub b hb) with e | hb
  · rw [e]; exact I.free
  · obtain ⟨_, o, ho, _⟩ := I.ok.funs.mem hb
    exact I.base.free b o ho (I.ok.frf b hb) fun z => I.ok.exfs b z hb

/-- THE STEP: the untracked objects but the frame and the records at ch are kept (the callers' frames up to slots), the frame's map is kept, the new abstract heap is held -/
theorem Inv.step {g' : Array GenState} {t' : Nat} {d' : Drawn} {ch : List Addr} (I : Inv X pins σ H s)
    (hch : ∀ b ∈ ch, (b ∈ X.ex ∨ X.s₀.heap.objs.size ≤ b) ∧ b ≠ X.env.locals ∧ (∀ x c, X.env.cells.lookup x = some c → c ≠ b) ∧ ∀ p ∈ X.pn ++ pins, p.1 ≠ b)
    (keep : ∀ b o, b ≠ X.env.locals → b ∉ X.fs → b ∉ ch → s.heap.get? b = some o → H b = none → h'.get? b = some o)
    (slot : ∀ b o, b ≠ X.env.locals → b ∈ X.fs → b ∉ ch → s.heap.get? b = some o → H b = none → ∃ sl, h'.get? b = some { o with slots := sl }) (free : ∀ b o, b ∉ ch → s.heap.get? b = some o → H b = none → H' b = none)
    (there : ∀ b o, b ∉ ch → s.heap.get? b = some o → ∃ o', h'.get? b = some o')
    (tups : ∀ b xs, H b = some (.tup xs) → H' b = some (.tup xs)) (frzs : ∀ b o u, H b = some (.frz o u) → H' b = some (.frz o u)) (tbls : ∀ b ps, H b = some (.tbl ps) → ∃ more, H' b = some (.tbl (ps ++ more)))
    (ns : ∀ m, s.heap.Ns X.env.locals m → h'.Ns X.env.locals m) (hok : HOk X.prog X.w H' h') (hg : AllBare g') :
    Inv X pins σ H' { s with heap := h', gens := g', drawn := d', toks := t' } := by
  have neL : ∀ b o, X.s₀.heap.get? b = some o → b ≠ X.env.locals := fun b o e => Nat.ne_of_lt (Nat.lt_of_lt_of_le (Heap.lt_size e) I.ok.above)
  have neC : ∀ b o, X.s₀.heap.get? b = some o → b ∉ X.ex → b ∉ ch := fun b o e hx hb => by
    rcases (hch b hb).1 with z | z
    · exact hx z
    · exact absurd (Nat.lt_of_lt_of_le (Heap.lt_size e) z) (Nat.lt_irrefl _)
  have cellK : ∀ x c, X.env.cells.lookup x = some c → ∀ v, s.heap.IsCell c v → h'.IsCell c v := fun x c e v ⟨o, ho, hd⟩ => by
    have nch : c ∉ ch := fun z => (hch c z).2.2.1 x c e rfl
    by_cases hc : c ∈ X.fs
    · obtain ⟨sl, q⟩ := slot c o (I.cne x c e) hc nch ho (I.freeC x c e)
      exact ⟨_, q, hd⟩
    · exact ⟨o, keep c o (I.cne x c e) hc nch ho (I.freeC x c e), hd⟩
  refine ⟨I.ok, I.os, hg, ⟨fun b o e n hb hx => ?_, fun b o e n hb hx => ?_, fun b o e n hx => ?_, fun b o e hx => ?_, fun b xs e => tups b xs (I.base.tups b xs e), fun b o xs e => frzs b o xs (I.base.frzs b o xs e), fun b ps e => ?_⟩, ?_, fun x c e => ?_, ?_, fun x c e => ?_, fun p hp => ?_, hok, I.len⟩
  · exact keep b o (neL b o e) hb (neC b o e hx) (I.base.keep b o e n hb hx) (I.base.free b o e n hx)
  · obtain ⟨sl, e1⟩ := I.base.slot b o e n hb hx
    obtain ⟨sl', e2⟩ := slot b _ (neL b o e) hb (neC b o e hx) e1 (I.base.free b o e n hx)
    exact ⟨sl', e2⟩
  · obtain ⟨o', e1⟩ := I.base.there b o e hx
    exact free b o' (neC b o e hx) e1 (I.base.free b o e n hx)
  · obtain ⟨o', e1⟩ := I.base.there b o e hx
    exact there b o' (neC b o e hx) e1
  · obtain ⟨m1, e1⟩ := I.base.tbls b ps e
    obtain ⟨m2, e2⟩ := tbls b _ e1
    exact ⟨m1 ++ m2, by rw [e2, Array.append_assoc]⟩
  · obtain ⟨m, hn, hl⟩ := I.loc
    refine ⟨m, ns m hn, fun i x v e1 e2 e3 => ?_⟩
    obtain ⟨u, r, l⟩ := hl i x v e1 e2 e3
    refine ⟨u, r, ?_⟩
    rcases l with l | ⟨k, c, e, z⟩
    · exact .inl l
    · exact .inr ⟨k, c, e, cellK x c e _ z⟩
  · obtain ⟨v, z⟩ := I.cell x c e
    exact ⟨v, cellK x c e v z⟩
  · obtain ⟨m, ⟨o, _, _, ho, _⟩, _⟩ := I.loc
    exact free _ o (fun z => (hch _ z).2.1 rfl) ho I.free
  · obtain ⟨v, o, ho, hd⟩ := I.cell x c e
    exact free c o (fun z => (hch c z).2.2.1 x c e rfl) ho (I.freeC x c e)
  · obtain ⟨e, n, ne, nf, d⟩ := I.pin p hp
    have nch : p.1 ∉ ch := fun z => (hch p.1 z).2.2.2 p hp rfl
    exact ⟨keep p.1 p.2 ne nf nch e n, free p.1 p.2 nch e n, ne, nf, d⟩
/-- .. where the frame's own object is kept too -/
theorem Inv.un {t' : Nat} (I : Inv X pins σ H s) (u : Un X.fs [] H H' s.heap h') (hok : HOk X.prog X.w H' h') : Inv X pins σ H' { s with heap := h', toks := t' } := by
  obtain ⟨m, ⟨o, es, ep, ho, r⟩, _⟩ := id I.loc
  obtain ⟨sl, hL⟩ := u.any ho I.free (by simp)
  exact I.step (g' := s.gens) (d' := s.drawn) (ch := []) (fun _ z => nomatch z) (fun b o _ hb _ e n => u.keep b o e n hb (by simp)) (fun b o _ hb _ e n => u.slot b o e n hb (by simp)) (fun b o _ e n => u.free b o e n (by simp)) (fun b o _ e => u.there b o e (by simp)) u.tups u.frzs u.tbls (fun m' hm => by
    obtain ⟨o', es', ep', ho', r'⟩ := hm
    rw [ho] at ho'; cases ho'
    exact ⟨_, es', ep', hL, r'⟩) hok I.bare
/-- behind a call (or a comprehension's block): the slots of this frame may have changed too, the records at ch may have turned -/
theorem Inv.call {g' : Array GenState} {t' : Nat} {d' : Drawn} {ch : List Addr} (I : Inv X pins σ H s) (u : Un (frs X.stack) ch H H' s.heap h') (hok : HOk X.prog X.w H' h') (hg : AllBare g')
    (hch : ∀ b ∈ ch, (b ∈ X.ex ∨ X.s₀.heap.objs.size ≤ b) ∧ b ≠ X.env.locals ∧ (∀ x c, X.env.cells.lookup x = some c → c ≠ b) ∧ ∀ p ∈ X.pn ++ pins, p.1 ≠ b) :
    Inv X pins σ H' { s with heap := h', gens := g', drawn := d', toks := t' } := by
  obtain ⟨m, ⟨o, es, ep, ho, r⟩, _⟩ := id I.loc
  obtain ⟨sl, hL⟩ := u.any ho I.free fun z => (hch _ z).2.1 rfl
  exact I.step (ch := ch) hch (fun b o hL hb hc e n => u.keep b o e n (fun z => (List.mem_cons.mp (I.stkSub b z)).elim hL hb) hc) (fun b o _ _ hc e n => u.any e n hc) (fun b o hc e n => u.free b o e n hc) (fun b o hc e => u.there b o e hc) u.tups u.frzs u.tbls (fun m' hm => by
    obtain ⟨o', es', ep', ho', r'⟩ := hm
    rw [ho] at ho'; cases ho'
    exact ⟨_, es', ep', hL, r'⟩) hok hg
/-- an untracked record of ours (an iterator) has turned -/
theorem Inv.turned {t' : Nat} {it : Addr} (I : Inv X pins σ H s) (k : ∀ b o, b ≠ it → s.heap.get? b = some o → h'.get? b = some o) (hn : H it = none) (hL : it ≠ X.env.locals)
    (h1 : it ∈ X.ex ∨ X.s₀.heap.objs.size ≤ it) (h2 : ∀ x c, X.env.cells.lookup x = some c → c ≠ it) (h3 : ∀ p ∈ X.pn ++ pins, p.1 ≠ it) : Inv X pins σ H { s with heap := h', toks := t' } := by
  have nit : ∀ b u, H b = some u → b ≠ it := fun b u e z => by rw [z, hn] at e; cases e
  refine I.step (g' := s.gens) (d' := s.drawn) (ch := [it]) (fun b hb => ?_) (fun b o _ _ hc e _ => k b o (fun z => hc (by simp [z])) e) (fun b o _ _ hc e _ => ⟨o.slots, k b o (fun z => hc (by simp [z])) e⟩) (fun _ _ _ _ n => n)
    (fun b o hc e => ⟨o, k b o (fun z => hc (by simp [z])) e⟩) (fun _ _ e => e) (fun _ _ _ e => e) (fun b ps e => ⟨#[], by rw [e]; simp⟩) (fun m hm => ?_) (fun b u e => ?_) I.bare
  · have e : b = it := by simpa using hb
    subst e
    exact ⟨h1, hL, h2, h3⟩
  · obtain ⟨o, es, ep, ho, r⟩ := hm
    exact ⟨o, es, ep, k _ o (Ne.symm hL) ho, r⟩
  · refine (I.hok b u e).stay (fun c v hc q => k c v ?_ q) (fun _ q => q) fun _ _ q => q
    rcases hc with z | z
    · rw [z]; exact nit b u e
    · exact nit c _ z
theorem Inv.tok (I : Inv X pins σ H s) (t : Nat) : Inv X pins σ H { s with toks := t } := I.un (h' := s.heap) (t' := t) Un.refl I.hok
/-- all objects kept -/
theorem Inv.kept {t' : Nat} (I : Inv X pins σ H s) (k : ∀ b u, s.heap.get? b = some u → h'.get? b = some u) : Inv X pins σ H { s with heap := h', toks := t' } := I.un (Un.kept k) (I.hok.kept k)
/-- a new object laid and tracked -/
theorem Inv.laid {a : Addr} {o : HO} {t' : Nat} (I : Inv X pins σ H s) (k : ∀ b u, s.heap.get? b = some u → h'.get? b = some u) (hp : s.heap.objs.size ≤ a) (new : ObjOk X.prog X.w (upd H a o) h' a o) :
    Inv X pins σ (upd H a o) { s with heap := h', toks := t' } := I.un (Un.laid k hp (I.hok.fresh hp)) (I.hok.laid k hp new)
/-- an object written -/
theorem Inv.write {x e : Addr} {o : HO} {t' : Nat} (I : Inv X pins σ H s) (mu : Mut (H x)) (he : e = x ∨ H e = some (.own x)) (k : ∀ b u, b ≠ e → s.heap.get? b = some u → h'.get? b = some u) (heo : ∃ u, h'.get? e = some u)
    (new : ObjOk X.prog X.w (upd H x o) h' x o) : Inv X pins σ (upd H x o) { s with heap := h', toks := t' } := I.un (Un.write mu he k heo) (I.hok.write mu he k heo new)
/-- forgetting slots, pins -/
theorem Inv.weak {σ' : List (Option V)} (I : Inv X pins σ H s) (hl : σ'.length = σ.length) (w : ∀ (i : Nat) v, σ'[i]? = some (some v) → σ[i]? = some (some v)) : Inv X pins σ' H s :=
  ⟨I.ok, I.os, I.bare, I.base, let ⟨m, hn, hl'⟩ := I.loc; ⟨m, hn, fun i x v e1 e2 e3 => hl' i x v e1 (w i v e2) e3⟩, I.cell, I.free, I.freeC, I.pin, I.hok, hl.trans I.len⟩
theorem Inv.pins_of {pins' : List (Addr × Obj)} (I : Inv X pins σ H s) (h : ∀ p ∈ pins', s.heap.get? p.1 = some p.2 ∧ H p.1 = none ∧ p.1 ≠ X.env.locals ∧ p.1 ∉ X.fs ∧ ∀ v, p.2.data ≠ .cell v) : Inv X pins' σ H s :=
  ⟨I.ok, I.os, I.bare, I.base, I.loc, I.cell, I.free, I.freeC, fun p hp => (List.mem_append.mp hp).elim (fun z => I.pin p (List.mem_append_left _ z)) (h p), I.hok, I.len⟩

theorem nodup_ix {N : List Str} (hN : N.Nodup) {i j : Nat} {x : Str} (a : N[i]? = some x) (b : N[j]? = some x) : i = j := by
  obtain ⟨h1, e1⟩ := List.getElem?_eq_some_iff.mp a
  obtain ⟨h2, e2⟩ := List.getElem?_eq_some_iff.mp b
  exact (List.getElem_inj hN).mp (e1.trans e2.symm)

/-- a name is stored; what changed -/
theorem store_ok2 {M : Model} {A : Around} {E : Value → Shared → Prop} {i : Nat} {x : Str} {v : V} {u : Value} {Q : Unit → Shared → Prop} (I : Inv X pins σ H s) (hN : X.N.Nodup) (hi : X.N[i]? = some x) (hx : Loc X.env.scope x) (r : RelV v u)
    (h : ∀ s', Inv X pins (σ.set i (some v)) H s' → (∃ a, Heap.SameBut a s.heap s'.heap ∧ (a = X.env.locals ∨ X.env.cells.lookup x = some a)) → Q () s') (hf : X.fn x = true ∨ X.env.scope.names.lookup x = some .local := by first | exact .inl rfl | exact .inr rfl | assumption) : wpAny M A (storeName X.env x u) Q E s := by
  obtain ⟨m, hn, hl⟩ := id I.loc
  have hcls : (X.env.scope.kind == .class || (X.env.scope.kind == .module && X.env.locals != X.env.globals)) = false := by rw [I.ok.kind]; rfl
  have hiσ : i < σ.length := by rw [I.len]; exact (List.getElem?_eq_some_iff.mp hi).1
  have cne := I.cne
  have tracked : ∀ {a : Addr} {h' : Heap}, (∃ o, s.heap.get? a = some o ∧ H a = none) → Heap.SameBut a s.heap h' → HOk X.prog X.w H h' := fun {a h'} ha hs b ob e => by
    obtain ⟨_, _, hfree⟩ := ha
    refine (I.hok b ob e).stay (fun c w' hc q => (hs.2 c ?_).trans q) (fun _ q => q) fun _ _ q => q
    rintro rfl
    rcases hc with rfl | hc
    · rw [hfree] at e; cases e
    · rw [hfree] at hc; cases hc
  rcases hx with hk | hk
  · refine wpAny_storeName_local hk hn (fun h' hn' hs => ?_) hcls
    obtain ⟨oL, _, _, hoL, _⟩ := id hn
    refine h _ ⟨I.ok, I.os, I.bare, ⟨fun b o e n hb hx => ?_, fun b o e n hb hx => ?_, I.base.free, fun b o e hx => ?_, I.base.tups, I.base.frzs, I.base.tbls⟩, ⟨_, hn', fun j y v' e1 e2 e3 => ?_⟩, fun y c e => ?_, I.free, I.freeC, fun p hp => ?_, tracked ⟨oL, hoL, I.free⟩ hs, by simpa using I.len⟩ ⟨_, hs, .inl rfl⟩
    · exact (hs.2 b (Nat.ne_of_lt (Nat.lt_of_lt_of_le (Heap.lt_size e) I.ok.above))).trans (I.base.keep b o e n hb hx)
    · obtain ⟨sl, e1⟩ := I.base.slot b o e n hb hx
      exact ⟨sl, (hs.2 b (Nat.ne_of_lt (Nat.lt_of_lt_of_le (Heap.lt_size e) I.ok.above))).trans e1⟩
    · obtain ⟨o', e1⟩ := I.base.there b o e hx
      exact ⟨o', (hs.2 b (Nat.ne_of_lt (Nat.lt_of_lt_of_le (Heap.lt_size e) I.ok.above))).trans e1⟩
    · by_cases hj : j = i
      · subst hj
        rw [hi] at e1; cases e1
        rw [List.getElem?_set_self hiσ] at e2
        cases e2
        exact ⟨u, r, .inl ⟨hk, by simp⟩⟩
      · rw [List.getElem?_set_ne (Ne.symm hj)] at e2
        obtain ⟨u', r', q⟩ := hl j y v' e1 e2 e3
        refine ⟨u', r', ?_⟩
        rcases q with ⟨k, e⟩ | ⟨k, c, e, z⟩
        · refine .inl ⟨k, ?_⟩
          have : y ≠ x := fun e => hj (nodup_ix hN e1 (e ▸ hi))
          simp [this, e]
        · exact .inr ⟨k, c, e, z.sameBut hs (cne y c e)⟩
    · obtain ⟨w', z⟩ := I.cell y c e
      exact ⟨w', z.sameBut hs (cne y c e)⟩
    · obtain ⟨e, n, ne, nf, d⟩ := I.pin p hp
      exact ⟨(hs.2 p.1 ne).trans e, n, ne, nf, d⟩
  · have hfn : X.fn x = true := by
      rcases hf with z | z
      · exact z
      · rw [z] at hk; cases hk
    obtain ⟨c, hc⟩ := I.ok.has x (.inl hk)
    obtain ⟨w', z⟩ := I.cell x c hc
    refine wpAny_storeName_cell I.ok.kind hk hc z (fun h' hc' hs => ?_)
    obtain ⟨oc, hoc, hocd⟩ := id z
    refine h { s with heap := h' } ⟨I.ok, I.os, I.bare, ⟨fun b o e n hb hx => ?_, fun b o e n hb hx => ?_, I.base.free, fun b o e hx => ?_, I.base.tups, I.base.frzs, I.base.tbls⟩, ⟨m, hn.sameBut hs (Ne.symm (cne x c hc)), fun j y v' e1 e2 e3 => ?_⟩, fun y c' e => ?_, I.free, I.freeC, fun p hp => ?_, tracked ⟨oc, hoc, I.freeC x c hc⟩ hs, by simpa using I.len⟩ ⟨c, hs, .inr hc⟩
    · exact (hs.2 b (Nat.ne_of_lt (Nat.lt_of_lt_of_le (Heap.lt_size e) (I.ok.cab x c hfn hc)))).trans (I.base.keep b o e n hb hx)
    · obtain ⟨sl, e1⟩ := I.base.slot b o e n hb hx
      exact ⟨sl, (hs.2 b (Nat.ne_of_lt (Nat.lt_of_lt_of_le (Heap.lt_size e) (I.ok.cab x c hfn hc)))).trans e1⟩
    · obtain ⟨o', e1⟩ := I.base.there b o e hx
      exact ⟨o', (hs.2 b (Nat.ne_of_lt (Nat.lt_of_lt_of_le (Heap.lt_size e) (I.ok.cab x c hfn hc)))).trans e1⟩
    · by_cases hj : j = i
      · subst hj
        rw [hi] at e1; cases e1
        rw [List.getElem?_set_self hiσ] at e2
        cases e2
        exact ⟨u, r, .inr ⟨.inl hk, c, hc, hc'⟩⟩
      · rw [List.getElem?_set_ne (Ne.symm hj)] at e2
        obtain ⟨u', r', q⟩ := hl j y v' e1 e2 e3
        refine ⟨u', r', ?_⟩
        rcases q with q | ⟨k, c', e, z'⟩
        · exact .inl q
        · refine .inr ⟨k, c', e, z'.sameBut hs ?_⟩
          rintro rfl
          exact hj (nodup_ix hN e1 (I.ok.inj _ _ _ e hc ▸ hi))
    · by_cases hcc : c' = c
      · subst hcc; exact ⟨_, hc'⟩
      · obtain ⟨w2, z2⟩ := I.cell y c' e
        exact ⟨w2, z2.sameBut hs hcc⟩
    · obtain ⟨e, n, ne, nf, d⟩ := I.pin p hp
      refine ⟨(hs.2 p.1 ?_).trans e, n, ne, nf, d⟩
      intro q
      rw [q, hoc] at e
      have q' : oc = p.2 := Option.some.inj e
      exact d w' (by rw [← q']; exact hocd)
theorem store_ok {M : Model} {A : Around} {E : Value → Shared → Prop} {i : Nat} {x : Str} {v : V} {u : Value} {Q : Unit → Shared → Prop} (I : Inv X pins σ H s) (hN : X.N.Nodup) (hi : X.N[i]? = some x) (hx : Loc X.env.scope x) (r : RelV v u)
    (h : ∀ s', Inv X pins (σ.set i (some v)) H s' → Q () s') (hf : X.fn x = true ∨ X.env.scope.names.lookup x = some .local := by first | exact .inl rfl | exact .inr rfl | assumption) : wpAny M A (storeName X.env x u) Q E s :=
  store_ok2 I hN hi hx r (fun s' I' _ => h s' I') hf
/-- behind a call or a block, the state as it is -/
theorem Inv.call' {s' : Shared} {ch : List Addr} (I : Inv X pins σ H s) (ho : s'.os = s.os) (u : Un (frs X.stack) ch H H' s.heap s'.heap) (hok : HOk X.prog X.w H' s'.heap) (hg : AllBare s'.gens)
    (hch : ∀ b ∈ ch, (b ∈ X.ex ∨ X.s₀.heap.objs.size ≤ b) ∧ b ≠ X.env.locals ∧ (∀ x c, X.env.cells.lookup x = some c → c ≠ b) ∧ ∀ p ∈ X.pn ++ pins, p.1 ≠ b) : Inv X pins σ H' s' := by
  obtain ⟨h', g', d', t', o'⟩ := s'
  have e : o' = s.os := ho
  subst e
  exact I.call (g' := g') (t' := t') (d' := d') u hok hg hch
end

/-! ### the judgements -/
/-- an exception: its class, its own dict's address (where it has one), the abstract heap behind it -/
abbrev XK := Value → Option Addr → Hp → Prop
abbrev St := List (Option V)
abbrev VK := V → Hp → Prop
/-- an expression's reading; a test's; an argument list's -/
abbrev TE := St → Hp → VK → Prop
abbrev TT := St → Hp → (Bool → Hp → Prop) → Prop
abbrev TA := St → Hp → (List V → Hp → Prop) → Prop
/-- what is wanted behind a statement -/
structure Ends where
  nx : St → Hp → Prop
  rt : VK
  bk : St → Hp → Prop := fun _ _ => False
  ct : St → Hp → Prop := fun _ _ => False
abbrev TS := Ends → St → Hp → Prop

def EP (X : Cx) (pins : List (Addr × Obj)) (σ : St) (Q : VK) (u : Value) (s' : Shared) : Prop := ∃ v H', Inv X pins σ H' s' ∧ RelV v u ∧ Q v H'
def TP (X : Cx) (pins : List (Addr × Obj)) (σ : St) (Q : Bool → Hp → Prop) (b : Bool) (s' : Shared) : Prop := ∃ H', Inv X pins σ H' s' ∧ Q b H'
def AP (X : Cx) (pins : List (Addr × Obj)) (σ : St) (Q : List V → Hp → Prop) (us : List Value) (s' : Shared) : Prop := ∃ vs H', Inv X pins σ H' s' ∧ Vals vs us ∧ Q vs H'
def SP (X : Cx) (pins : List (Addr × Obj)) (D : Ends) (f : Flow) (s' : Shared) : Prop :=
  match f with
  | .next => ∃ σ' H', Inv X pins σ' H' s' ∧ D.nx σ' H'
  | .brk => ∃ σ' H', Inv X pins σ' H' s' ∧ D.bk σ' H'
  | .cont => ∃ σ' H', Inv X pins σ' H' s' ∧ D.ct σ' H'
  | .ret u => ∃ v σ' H', Inv X pins σ' H' s' ∧ RelV v u ∧ D.rt v H'

def PE (X : Cx) (e : Expr) (t : TE) : Prop :=
  ∀ (pins : List (Addr × Obj)) (s : Shared) (σ : St) (H : Hp) (Q : VK), Inv X pins σ H s → t σ H Q → wpAny (model X.prog X.w) X.A (eval e X.env) (EP X pins σ Q) X.xe s
def PT (X : Cx) (e : Expr) (t : TT) : Prop :=
  ∀ (pins : List (Addr × Obj)) (s : Shared) (σ : St) (H : Hp) (Q : Bool → Hp → Prop), Inv X pins σ H s → t σ H Q → wpAny (model X.prog X.w) X.A (isTrue e X.env (eval e X.env)) (TP X pins σ Q) X.xe s
/-- a test whatever its 'whole' is (and, or) -/
def PW (X : Cx) (e : Expr) (t : TT) : Prop :=
  ∀ (whole : Sem Value) (pins : List (Addr × Obj)) (s : Shared) (σ : St) (H : Hp) (Q : Bool → Hp → Prop), Inv X pins σ H s → t σ H Q → wpAny (model X.prog X.w) X.A (isTrue e X.env whole) (TP X pins σ Q) X.xe s
theorem PW.pt {X : Cx} {e : Expr} {t : TT} (h : PW X e t) : PT X e t := h _
/-- an argument list (no star), from the left -/
def PA (X : Cx) (es : List Expr) (t : TA) : Prop :=
  ∀ (pos : Pos) (pins : List (Addr × Obj)) (s : Shared) (σ : St) (H : Hp) (Q : List V → Hp → Prop), Inv X pins σ H s → t σ H Q → wpAny (model X.prog X.w) X.A (spliced (backTo pos (starEach es X.env))) (AP X pins σ Q) X.xe s
def PS (X : Cx) (st : Stmt) (t : TS) : Prop :=
  ∀ (pins : List (Addr × Obj)) (s : Shared) (σ : St) (H : Hp) (D : Ends), Inv X pins σ H s → t D σ H → wpAny (model X.prog X.w) X.A (exec st X.env) (SP X pins D) X.xe s
def PSs (X : Cx) (st : List Stmt) (t : TS) : Prop :=
  ∀ (pins : List (Addr × Obj)) (s : Shared) (σ : St) (H : Hp) (D : Ends), Inv X pins σ H s → t D σ H → wpAny (model X.prog X.w) X.A (execs st X.env) (SP X pins D) X.xe s
/-- weaken the end -/
theorem thn {α : Type} {t : Sem α} {Q Q' : α → Shared → Prop} {M : Model} {A : Around} {E : Value → Shared → Prop} {s : Shared} (h : wpAny M A t Q E s) (hQ : ∀ a s, Q a s → Q' a s) : wpAny M A t Q' E s := wpAny_mono h hQ fun _ _ x => x
end L2

namespace L2
open PySem PySem.Spec PyProof.Rows
section
variable {X : Cx}

/-! ### names and constants -/
def tVar (i : Nat) : TE := fun σ H Q => ∃ v, σ[i]? = some (some v) ∧ Q v H
def tC (v : V) : TE := fun _ H Q => Q v H
theorem pe_var {i : Nat} {x : Str} {pos : Pos} (hN : X.N[i]? = some x) (hv : Vis X.env.scope x) (hd : (x == ("__debug__" : Str)) = false := by decide) (hcd : (x == ("__classdict__" : Str)) = false := by decide) : PE X (.Name x pos) (tVar i) := by
  intro pins s σ H Q I h
  obtain ⟨v, e, h⟩ := h
  obtain ⟨m, hn, hl⟩ := I.loc
  obtain ⟨u, r, l⟩ := hl i x v hN e hv
  have fin : EP X pins σ Q u s := ⟨v, H, I, r, h⟩
  rcases l with ⟨hk, hm⟩ | ⟨hk, c, hc, hcell⟩
  · exact wpAny_Name (wpAny_loadName_local I.ok.kind hk hn hm fin) hd
  · rcases hk with hk | hk
    · exact wpAny_Name (wpAny_loadName_cell I.ok.kind hk hc hcell fin) hd
    · exact wpAny_Name (wpAny_loadName_free I.ok.kind hk hc hcell fin hcd) hd
theorem pe_int {i j pos} : PE X (.Constant (.int i) j pos) (tC (.int i)) := fun _ _ _ H _ I h => wpAny_Constant_int ⟨.int i, H, I.tok _, ⟨_, rfl⟩, h⟩
theorem pe_bl {b j pos} : PE X (.Constant (.bool b) j pos) (tC (.bl b)) := fun _ _ _ H _ I h => Constant_bool ⟨.bl b, H, I, rfl, h⟩
theorem pe_non {j pos} : PE X (.Constant .none j pos) (tC .non) := fun _ _ _ H _ I h => Constant_none ⟨.non, H, I, rfl, h⟩
theorem pe_str {x j pos} : PE X (.Constant (.str x) j pos) (tC (.str x)) := fun _ _ _ H _ I h => Calls.Constant_str ⟨.str x, H, I.tok _, ⟨_, rfl⟩, h⟩

/-- a global name of the def -/
def Gl (X : Cx) (x : Str) : Prop := X.env.kindOf x = some .globalImplicit
theorem ld_glob {E : Value → Shared → Prop} {pins : List (Addr × Obj)} {s : Shared} {σ : St} {H : Hp} {x : Str} {u : Value} {pos : Pos} {Q : Value → Shared → Prop} (I : Inv X pins σ H s) (hg : Gl X x) (hm : X.mg x = some u) (h : Q u s)
    (hd : (x == ("__debug__" : Str)) = false := by decide) : wpAny (model X.prog X.w) X.A (eval (.Name x pos) X.env) Q E s :=
  Calls.Name_function_global I.ok.kind hg (Calls.loadGlobal_global (by rw [I.ok.glob]; exact I.mod.glob.keeps I.bk) hm h) hd
theorem ld_blt {E : Value → Shared → Prop} {pins : List (Addr × Obj)} {s : Shared} {σ : St} {H : Hp} {x : Str} {u : Value} {pos : Pos} {Q : Value → Shared → Prop} (I : Inv X pins σ H s) (hg : Gl X x) (hm : X.mg x = none) (hv : bootBuiltins x = some u) (h : Q u s)
    (hn : x ≠ "__name__" := by decide) (hd : (x == ("__debug__" : Str)) = false := by decide) : wpAny (model X.prog X.w) X.A (eval (.Name x pos) X.env) Q E s := by
  obtain ⟨mb, h1, h2⟩ := I.mod.blt
  exact Calls.Name_function_global I.ok.kind hg (Calls.loadGlobal_builtin (by rw [I.ok.glob]; exact I.mod.glob.keeps I.bk) hm (by rw [I.ok.blt]; exact h1.keeps I.bk) ((h2 x hn).trans hv) h) hd
/-- a module's constant, a class, a function, as a value -/
theorem pe_glob {x : Str} {v : V} {u : Value} {pos : Pos} (hg : Gl X x) (hm : X.mg x = some u) (r : RelV v u) (hd : (x == ("__debug__" : Str)) = false := by decide) : PE X (.Name x pos) (tC v) :=
  fun _ _ _ H _ I h => ld_glob I hg hm ⟨v, H, I, r, h⟩ hd
/-! ### arithmetic -/
variable {a b : Expr} {ta tb : TE} {pos : Pos}
/-! ### comparisons -/
def PC (X : Cx) (op : CmpOp) (a b : Expr) (t : TE) : Prop :=
  ∀ (pins : List (Addr × Obj)) (s : Shared) (σ : St) (H : Hp) (Q : VK), Inv X pins σ H s → t σ H Q →
    wpAny (model X.prog X.w) X.A (eval a X.env) (fun v s₁ => wpAny (model X.prog X.w) X.A (eval b X.env) (fun u s₂ => wpAny (model X.prog X.w) X.A (compareOp op v u) (EP X pins σ Q) X.xe s₂) X.xe s₁) X.xe s
theorem nobehind (b : Expr) {op : CmpOp} (h : op ≠ .In) (h2 : op ≠ .NotIn) : behindInMarks op b = false := by
  have e1 : (op == CmpOp.In) = false := by cases op <;> first | rfl | exact absurd rfl h
  have e2 : (op == CmpOp.NotIn) = false := by cases op <;> first | rfl | exact absurd rfl h2
  cases b <;> simp [behindInMarks, e1, e2]
def tNotN (ta : TE) : TE := fun σ H Q => ta σ H fun x H1 => Q (.bl (!decide (x = .non))) H1
theorem RelV.none_iff {x : V} {v : Value} (r : RelV x v) : (v == Value.none) = decide (x = .non) := by
  cases x with
  | non => cases r; rfl
  | bl _ => cases r; rfl
  | int _ => obtain ⟨t, rfl⟩ := r; rfl
  | str _ => obtain ⟨t, rfl⟩ := r; rfl
  | byt _ => obtain ⟨t, rfl⟩ := r; rfl
  | flt _ => obtain ⟨t, rfl⟩ := r; rfl
  | ref _ => cases r; rfl
  | ty _ => cases r; rfl
theorem pc_notN {j pos'} (ha : PE X a ta) : PC X .IsNot a (.Constant .none j pos') (tNotN ta) := by
  intro pins s σ H Q I h
  refine thn (ha pins s σ H _ I h) fun v s1 ⟨x, H1, I1, r1, q1⟩ => ?_
  exact Constant_none (isnot_none_gen ⟨.bl _, H1, I1, by rw [r1.none_iff]; rfl, q1⟩)
/-- a comparison as a value, as a test -/
def tB (t : TE) : TT := fun σ H Q => t σ H fun x H1 => ∃ c, x = .bl c ∧ Q c H1
theorem pe_cmp {op : CmpOp} {t : TE} (h : PC X op a b t) (h1 : behindInMarks op b = false := by first | exact nobehind _ (by decide) (by decide) | rfl) : PE X (.Compare a [op] [b] pos) t := fun pins s σ H Q I hw => wpAny_Compare1 (h pins s σ H Q I hw) h1
/-- an expression whose value is a bool, as a test -/
theorem pt_val {e : Expr} {t : TE} (h : PE X e t) (he : ∀ whole, isTrue e X.env whole = (do let v ← whole; standAt e.pos; holding [v] (truthy v)) := by intro _; rfl) : PT X e (tB t) := by
  intro pins s σ H Q I hw
  refine isTrue_plain (thn (h pins s σ H _ I hw) fun v s1 ⟨x, H1, I1, r1, q1⟩ => ?_) (he _)
  obtain ⟨d, rfl, q⟩ := q1
  cases r1
  exact wpAny_truthy_bool ⟨H1, I1, q⟩

/-! ### and, or, not -/
variable {tA tB' : TT} {rest : List Expr}
def tAnd (t u : TT) : TT := fun σ H Q => t σ H fun c H1 => if c = true then u σ H1 Q else Q false H1
def tOr (t u : TT) : TT := fun σ H Q => t σ H fun c H1 => if c = true then Q true H1 else u σ H1 Q
def tNot (t : TT) : TT := fun σ H Q => t σ H fun c H1 => Q (!c) H1
theorem pw_and1 (ha : PT X a tA) : PW X (.BoolOp .And [a] pos) tA := by
  intro wh pins s σ H Q I h
  refine isTrue_and (thn (ha pins s σ H Q I h) fun c s1 e => ?_)
  cases c with
  | true => exact isTrue_and_nil e
  | false => exact e
theorem pw_or1 (ha : PT X a tA) : PW X (.BoolOp .Or [a] pos) tA := by
  intro wh pins s σ H Q I h
  refine isTrue_or (thn (ha pins s σ H Q I h) fun c s1 e => ?_)
  cases c with
  | false => exact isTrue_or_nil e
  | true => exact e
theorem pw_and (ha : PT X a tA) (hb : PW X (.BoolOp .And (b :: rest) pos) tB') : PW X (.BoolOp .And (a :: b :: rest) pos) (tAnd tA tB') := by
  intro wh pins s σ H Q I h
  refine isTrue_and (thn (ha pins s σ H _ I h) fun c s1 ⟨H1, I1, q1⟩ => ?_)
  cases c with
  | true => exact hb wh pins s1 σ H1 Q I1 q1
  | false => exact ⟨H1, I1, q1⟩
theorem pw_or (ha : PT X a tA) (hb : PW X (.BoolOp .Or (b :: rest) pos) tB') : PW X (.BoolOp .Or (a :: b :: rest) pos) (tOr tA tB') := by
  intro wh pins s σ H Q I h
  refine isTrue_or (thn (ha pins s σ H _ I h) fun c s1 ⟨H1, I1, q1⟩ => ?_)
  cases c with
  | true => exact ⟨H1, I1, q1⟩
  | false => exact hb wh pins s1 σ H1 Q I1 q1
theorem pt_not (ha : PT X a tA) : PT X (.UnaryOp .Not a pos) (tNot tA) := by
  intro pins s σ H Q I h
  exact isTrue_not (ha pins s σ H (fun c H1 => Q (!c) H1) I h)
end
end L2

namespace L2
open PySem PySem.Spec PyProof.Rows

/-! ### a list, a tuple that is read: tracked, frozen, or an object of the module -/
def SqL (K : PySem.W.Frag) (H : Hp) (a : Addr) (xs : List V) : Prop :=
  Rd H a (.lst xs) ∨
    ∃ (o : Obj) (its : Array Value) (n : Nat), K.lookup a = some o ∧ o.cls = .type "list" ∧ o.dict = none ∧ o.data = .seq its n ∧ its.size ≤ sizeLine ∧ Vals xs its.toList
def SqT (K : PySem.W.Frag) (H : Hp) (a : Addr) (xs : List V) : Prop :=
  Rd H a (.tup xs) ∨
    ∃ (o : Obj) (its : Array Value) (n : Nat), K.lookup a = some o ∧ o.cls = .type "tuple" ∧ o.data = .seq its n ∧ its.size ≤ sizeLine ∧ Vals xs its.toList
def absV : Value → Option V
  | .none => some .non
  | .bool b => some (.bl b)
  | .int i _ => some (.int i)
  | .str x _ => some (.str x)
  | .bytes b _ => some (.byt b)
  | .float b _ => some (.flt b)
  | .ref a => some (.ref a)
  | .type n => some (.ty n)
  | _ => none
theorem RelV.abs {x : V} {u : Value} (r : RelV x u) : absV u = some x := by
  cases x with
  | non => cases r; rfl
  | bl _ => cases r; rfl
  | int _ => obtain ⟨t, rfl⟩ := r; rfl
  | str _ => obtain ⟨t, rfl⟩ := r; rfl
  | byt _ => obtain ⟨t, rfl⟩ := r; rfl
  | flt _ => obtain ⟨t, rfl⟩ := r; rfl
  | ref _ => cases r; rfl
  | ty _ => cases r; rfl
theorem RelV.inj {x y : V} {u : Value} (r : RelV x u) (q : RelV y u) : x = y := Option.some.inj (r.abs.symm.trans q.abs)
theorem Vals.inj : ∀ {xs ys : List V} {us : List Value}, Vals xs us → Vals ys us → xs = ys
  | _, _, _, .nil, .nil => rfl
  | _, _, _, .cons r t, .cons r' t' => by rw [r.inj r', Vals.inj t t']
section
variable {X : Cx} {pins : List (Addr × Obj)} {σ : St} {H : Hp} {s : Shared} {a : Addr} {xs ys : List V}
theorem SqL.of {K : PySem.W.Frag} (h : H a = some (.lst xs)) : SqL K H a xs := .inl (.inl h)
theorem SqT.of {K : PySem.W.Frag} (h : H a = some (.tup xs)) : SqT K H a xs := .inl (.inl h)
theorem Inv.list (I : Inv X pins σ H s) (h : SqL X.K H a xs) : ∃ its : List Value, Vals xs its ∧ PlainL s.heap a its.toArray ∧ xs.length ≤ sizeLine := by
  rcases h with h | ⟨o, its, n, hk, hc, hd, hs, hz, r⟩
  · obtain ⟨z, its, n, r, e⟩ := h.ok I.hok
    exact ⟨its, r, ⟨_, n, e, rfl, rfl, rfl⟩, z⟩
  · refine ⟨its.toList, r, ⟨o, n, I.kIn a o hk, hc, hd, by simpa using hs⟩, ?_⟩
    have e := r.length
    simp only [Array.length_toList] at e
    omega
theorem Inv.tuple (I : Inv X pins σ H s) (h : SqT X.K H a xs) : ∃ its : List Value, Vals xs its ∧ IsTup s.heap a its.toArray ∧ xs.length ≤ sizeLine := by
  rcases h with h | ⟨o, its, n, hk, hc, hs, hz, r⟩
  · obtain ⟨z, its, r, p⟩ := h.ok I.hok
    exact ⟨its, r, p, z⟩
  · refine ⟨its.toList, r, ⟨o, I.kIn a o hk, hc, n, by simpa using hs⟩, ?_⟩
    have e := r.length
    simp only [Array.length_toList] at e
    omega
theorem Inv.list_inj (I : Inv X pins σ H s) (h : SqL X.K H a xs) (h' : SqL X.K H a ys) : xs = ys := by
  obtain ⟨its, r, ⟨o, n, e, _, _, d⟩, _⟩ := I.list h
  obtain ⟨its', r', ⟨o', n', e', _, _, d'⟩, _⟩ := I.list h'
  rw [e] at e'; cases e'
  rw [d] at d'
  injection d' with d1 _
  have : its = its' := by simpa using congrArg Array.toList d1
  subst this
  exact r.inj r'
theorem Inv.tuple_inj (I : Inv X pins σ H s) (h : SqT X.K H a xs) (h' : SqT X.K H a ys) : xs = ys := by
  obtain ⟨its, r, ⟨o, e, _, n, d⟩, _⟩ := I.tuple h
  obtain ⟨its', r', ⟨o', e', _, n', d'⟩, _⟩ := I.tuple h'
  rw [e] at e'; cases e'
  rw [d] at d'
  injection d' with d1 _
  have : its = its' := by simpa using congrArg Array.toList d1
  subst this
  exact r.inj r'
end

/-! ### another wish about exceptions -/
abbrev Cx.wish (X : Cx) (E : Value → Shared → Prop) : Cx := { X with xe := E }
/-- no exception leaves -/
abbrev Cx.nox (X : Cx) : Cx := X.wish fun _ _ => False
theorem Cx.Ok.wish {X : Cx} (ok : X.Ok) (E : Value → Shared → Prop) : (X.wish E).Ok :=
  ⟨ok.mod, ok.kind, ok.glob, ok.blt, ok.above, ok.inj, ok.has, ok.cab, ok.hd, ok.frames, ok.stk, ok.exf, ok.bs, ok.bsz, ok.noex, ok.exfs, ok.funs, ok.frf⟩
theorem Cx.Ok.unwish {X : Cx} {E : Value → Shared → Prop} (ok : (X.wish E).Ok) : X.Ok :=
  ⟨ok.mod, ok.kind, ok.glob, ok.blt, ok.above, ok.inj, ok.has, ok.cab, ok.hd, ok.frames, ok.stk, ok.exf, ok.bs, ok.bsz, ok.noex, ok.exfs, ok.funs, ok.frf⟩
section
variable {X : Cx} {pins : List (Addr × Obj)} {σ : St} {H : Hp} {s : Shared} {E : Value → Shared → Prop}
theorem Inv.wish (I : Inv X pins σ H s) (E : Value → Shared → Prop) : Inv (X.wish E) pins σ H s := ⟨I.ok.wish E, I.os, I.bare, I.base, I.loc, I.cell, I.free, I.freeC, I.pin, I.hok, I.len⟩
theorem Inv.unwish (I : Inv (X.wish E) pins σ H s) : Inv X pins σ H s := ⟨I.ok.unwish, I.os, I.bare, I.base, I.loc, I.cell, I.free, I.freeC, I.pin, I.hok, I.len⟩
theorem SP.unwish {D : Ends} {f : Flow} {s' : Shared} (h : SP (X.wish E) pins D f s') : SP X pins D f s' := by
  cases f with
  | next => obtain ⟨σ', H', I, q⟩ := h; exact ⟨σ', H', I.unwish, q⟩
  | brk => obtain ⟨σ', H', I, q⟩ := h; exact ⟨σ', H', I.unwish, q⟩
  | cont => obtain ⟨σ', H', I, q⟩ := h; exact ⟨σ', H', I.unwish, q⟩
  | ret u => obtain ⟨v, σ', H', I, r, q⟩ := h; exact ⟨v, σ', H', I.unwish, r, q⟩
theorem PE.nox {e : Expr} {t : TE} (h : PE X.nox e t) : PE X e t := fun pins s σ H Q I hw =>
  wpAny_mono (h pins s σ H Q (I.wish _) hw) (fun _ _ ⟨v, H', I', r, q⟩ => ⟨v, H', I'.unwish, r, q⟩) fun _ _ z => False.elim z
theorem PT.nox {e : Expr} {t : TT} (h : PT X.nox e t) : PT X e t := fun pins s σ H Q I hw =>
  wpAny_mono (h pins s σ H Q (I.wish _) hw) (fun _ _ ⟨H', I', q⟩ => ⟨H', I'.unwish, q⟩) fun _ _ z => False.elim z
theorem PSs.nox {st : List Stmt} {t : TS} (h : PSs X.nox st t) : PSs X st t := fun pins s σ H D I hw =>
  wpAny_mono (h pins s σ H D (I.wish _) hw) (fun _ _ q => q.unwish) fun _ _ z => False.elim z
end

/-! ### blocks and small statements -/
section
variable {X : Cx} {st : Stmt} {rest : List Stmt} {t u : TS} {e : Expr} {te : TE} {pos : Pos}
def tNext : TS := fun D σ H => D.nx σ H
def tSeq (t u : TS) : TS := fun D σ H => t { D with nx := u D } σ H
theorem pss_nil : PSs X [] tNext := fun _ _ σ H _ I h => wpAny_execs_nil ⟨σ, H, I, h⟩
theorem pss_cons (h1 : PS X st t) (h2 : PSs X rest u) : PSs X (st :: rest) (tSeq t u) := by
  intro pins s σ H D I h
  refine wpAny_execs_cons (thn (h1 pins s σ H { D with nx := u D } I h) fun f s1 q => ?_)
  cases f with
  | next =>
    obtain ⟨σ', H', I', q⟩ := q
    exact h2 pins s1 σ' H' D I' q
  | ret v => exact q
  | brk => exact q
  | cont => exact q
theorem pss_one (h1 : PS X st t) : PSs X [st] t := by
  intro pins s σ H D I h
  refine wpAny_execs_cons (thn (h1 pins s σ H D I h) fun f s1 q => ?_)
  cases f with
  | next => exact wpAny_execs_nil q
  | ret v => exact q
  | brk => exact q
  | cont => exact q
def tCont : TS := fun D σ H => D.ct σ H
theorem ps_continue : PS X (.Continue pos) tCont := fun _ _ σ H _ I h => wpAny_Continue ⟨σ, H, I, h⟩
/-- in a def's body nothing is shown -/
theorem Inv.quiet {pins : List (Addr × Obj)} {σ : St} {H : Hp} {s : Shared} (I : Inv X pins σ H s) : interactive X.env = false := by simp [interactive, I.ok.kind]
/-- an expression whose value is dropped -/
def tDrop (te : TE) : TS := fun D σ H => te σ H fun _ H1 => D.nx σ H1
theorem ps_expr (he : PE X e te) (hs : swapsWith e none pos.line X.env = pure false := by rfl) : PS X (.Expr e pos) (tDrop te) := by
  intro pins s σ H D I h
  exact wpAny_Expr_any (thn (he pins s σ H _ I h) fun v s1 ⟨x, H1, I1, r1, q1⟩ => ⟨σ, H1, I1, q1⟩) I.quiet hs
def tRet (te : TE) : TS := fun D σ H => te σ H D.rt
theorem ps_ret (he : PE X e te) : PS X (.Return (some e) pos) (tRet te) := by
  intro pins s σ H D I h
  exact wpAny_Return_some (thn (he pins s σ H _ I h) fun v s1 ⟨x, H1, I1, r1, q1⟩ => ⟨x, σ, H1, I1, r1, q1⟩)
def tIfS (c : TT) (t u : TS) : TS := fun D σ H => c σ H fun b H1 => if b = true then t D σ H1 else u D σ H1
theorem ps_if {c : Expr} {a b : List Stmt} {tc : TT} (hc : PT X c tc) (ha : PSs X a t) (hb : PSs X b u) : PS X (.If c a b pos) (tIfS tc t u) := by
  intro pins s σ H D I h
  refine wpAny_If (thn (hc pins s σ H _ I h) fun d s1 ⟨H1, I1, q1⟩ => ?_)
  cases d with
  | true => exact ha pins s1 σ H1 D I1 q1
  | false => exact hb pins s1 σ H1 D I1 q1
end

/-! ### targets -/
abbrev TG := V → St → Hp → (St → Hp → Prop) → Prop
abbrev TGs := List V → St → Hp → (St → Hp → Prop) → Prop
def PG (X : Cx) (target : Expr) (t : TG) : Prop :=
  ∀ (pins : List (Addr × Obj)) (s : Shared) (σ : St) (H : Hp) (v : V) (u : Value) (Q : St → Hp → Prop), Inv X pins σ H s → RelV v u → t v σ H Q →
    wpAny (model X.prog X.w) X.A (assign target X.env u) (fun _ s' => ∃ σ' H', Inv X pins σ' H' s' ∧ Q σ' H') X.xe s
/-- several targets, one after another -/
def PGs (X : Cx) (ts : List Expr) (t : TGs) : Prop :=
  ∀ (pins : List (Addr × Obj)) (s : Shared) (σ : St) (H : Hp) (vs : List V) (us : List Value) (Q : St → Hp → Prop), Inv X pins σ H s → Vals vs us → t vs σ H Q →
    wpAny (model X.prog X.w) X.A (assignInOrder ((assignEach ts X.env).map (·.2)) us) (fun _ s' => ∃ σ' H', Inv X pins σ' H' s' ∧ Q σ' H') X.xe s
section
variable {X : Cx} {pos : Pos}
def gName (i : Nat) : TG := fun v σ H Q => Q (σ.set i (some v)) H
theorem pg_name {i : Nat} {x : Str} (hN : X.N.Nodup) (hi : X.N[i]? = some x) (hx : Loc X.env.scope x) (hf : X.fn x = true ∨ X.env.scope.names.lookup x = some .local := by first | exact .inl rfl | exact .inr rfl | assumption) : PG X (.Name x pos) (gName i) := by
  intro pins s σ H v u Q I r h
  exact wpAny_assign_Name (store_ok I hN hi hx r (fun s' I' => ⟨_, H, I', h⟩) hf)
def gNil : TGs := fun vs σ H Q => vs = [] ∧ Q σ H
def gCons (t : TG) (u : TGs) : TGs := fun vs σ H Q => ∃ v r, vs = v :: r ∧ t v σ H fun σ' H' => u r σ' H' Q
theorem pgs_nil : PGs X [] gNil := by
  intro pins s σ H vs us Q I r h
  obtain ⟨e, h⟩ := h
  subst e
  cases r
  exact assignInOrder_nil ⟨σ, H, I, h⟩
theorem pgs_cons {e : Expr} {es : List Expr} {t : TG} {u : TGs} (h1 : PG X e t) (h2 : PGs X es u)
    (hs : (assignEach (e :: es) X.env).map (·.2) = assign e X.env :: (assignEach es X.env).map (·.2) := by rfl) : PGs X (e :: es) (gCons t u) := by
  intro pins s σ H vs us Q I r h
  obtain ⟨v, vr, e1, h⟩ := h
  subst e1
  cases r with
  | cons r rr =>
    rw [hs]
    refine assignInOrder_cons (thn (h1 pins s σ H _ _ _ I r h) fun _ s1 ⟨σ1, H1, I1, q1⟩ => ?_)
    exact h2 pins s1 σ1 H1 _ _ Q I1 rr q1
/-- (a, b, ..) = a tuple of that length -/
def gTup (K : PySem.W.Frag) (n : Nat) (t : TGs) : TG := fun v σ H Q => ∃ a xs, v = .ref a ∧ SqT K H a xs ∧ xs.length = n ∧ t xs σ H Q
theorem pg_tup {es : List Expr} {k : Nat} {t : TGs} {n : Nat} (hc : X.calm = true) (h : PGs X es t)
    (hn : (assignEach es X.env).length = n := by rfl) (hst : (assignEach es X.env).findIdx? (·.1) = none := by rfl) : PG X (.Tuple es k pos) (gTup X.K n t) := by
  intro pins s σ H v u Q I r hw
  obtain ⟨a, xs, e1, hq, hl, hw⟩ := hw
  subst e1
  cases r
  obtain ⟨its, rv, ht, hz⟩ := I.tuple hq
  refine assign_Tuple_tuple (I.ok.hd hc) ht (by simp [hn, ← hl, rv.length]) hst fun h' hx => ?_
  have I1 : Inv X pins σ H { s with heap := h' } := I.kept (t' := s.toks) fun b o e => hx b o (Nat.ne_of_lt (Heap.lt_size e)) e
  exact h pins _ σ H xs _ Q I1 (by simpa using rv) hw
/-- target = value -/
def tAsg (te : TE) (g : TG) : TS := fun D σ H => te σ H fun x H1 => g x σ H1 D.nx
/-- name = value -/
theorem ps_set {i : Nat} {x : Str} {e : Expr} {te : TE} {pos' : Pos} (hN : X.N.Nodup) (hi : X.N[i]? = some x) (hx : Loc X.env.scope x) (he : PE X e te) (hs : swapsWith e (some (.Name x pos')) pos.line X.env = pure false := by rfl) (hf : X.fn x = true ∨ X.env.scope.names.lookup x = some .local := by first | exact .inl rfl | exact .inr rfl | assumption) :
    PS X (.Assign [.Name x pos'] e pos) (tAsg te (gName i)) := by
  intro pins s σ H D I h
  refine wpAny_Assign_Name (thn (he pins s σ H _ I h) fun v s1 ⟨y, H1, I1, r1, q1⟩ => ?_) hs
  exact store_ok I1 hN hi hx r1 (fun s2 I2 => ⟨_, H1, I2, q1⟩) hf
end

/-! ### while -/
section
variable {X : Cx} {pos : Pos}
end

/-! ### what a loop or a comprehension walks -/
/-- at turn i: it yields x (the heap may grow), or it stops -/
structure It where
  go : Nat → Hp → Prop
  yld : Nat → Hp → V → Hp → Prop
  stop : Nat → Hp → Prop
/-- the iterator's own objects may turn: they are not the frame's, not pinned, younger than the entry (or a comprehension's own) -/
def FpOk (X : Cx) (pins : List (Addr × Obj)) (H : Hp) (b : Addr) : Prop :=
  H b = none ∧ b ≠ X.env.locals ∧ b ∉ X.fs ∧ (b ∈ X.ex ∨ X.s₀.heap.objs.size ≤ b) ∧ (∀ x c, X.env.cells.lookup x = some c → c ≠ b) ∧ ∀ p ∈ X.pn ++ pins, p.1 ≠ b
theorem Inv.fpOk {X : Cx} {pins : List (Addr × Obj)} {σ : St} {H H' : Hp} {s : Shared} {b : Addr} (I : Inv X pins σ H s) (hb : s.heap.objs.size ≤ b) (hn : H' b = none) : FpOk X pins H' b := by
  refine ⟨hn, Nat.ne_of_gt (Nat.lt_of_lt_of_le I.lt hb), I.nofs hb, .inr (Nat.le_trans I.sz hb), fun x c e z => ?_, fun p hp z => ?_⟩
  · obtain ⟨v, q⟩ := I.cell x c e
    exact absurd (Nat.lt_of_lt_of_le q.lt (by rw [z]; exact hb)) (Nat.lt_irrefl _)
  · exact absurd (Nat.lt_of_lt_of_le (Heap.lt_size (I.pin p hp).1) (by rw [z]; exact hb)) (Nat.lt_irrefl _)
structure Turn (P : Program) (w : World) (K : PySem.W.Frag) (tg : Expr) (J : It) (fp : List Addr) (it : Addr) (tn : Nat → Heap → Prop) : Prop where
  mem : it ∈ fp
  obj : ∀ i h, tn i h → ∀ b ∈ fp, ∃ o, h.get? b = some o ∧ ∀ v, o.data ≠ .cell v
  keep : ∀ i h h', tn i h → (∀ b ∈ fp, ∀ o, h.get? b = some o → h'.get? b = some o) → tn i h'
  item : ∀ (X : Cx), X.prog = P → X.w = w → X.K = K → X.calm = true → ∀ (i : Nat) (pins : List (Addr × Obj)) (s : Shared) (σ : St) (H : Hp) (E : Value → Shared → Prop), Inv X pins σ H s → (∀ b ∈ fp, FpOk X pins H b) → tn i s.heap → J.go i H →
    wpAny (model P w) X.A (pyNext (.ref it)) (fun r s1 => ∃ u, r = some u ∧
      wpAny (model P w) X.A (letOwnedTupleGo tg (.ref it) u) (fun _ s2 => ∃ x H', Inv X pins σ H' s2 ∧ RelV x u ∧ J.yld i H x H' ∧ tn (i + 1) s2.heap ∧ ∀ b ∈ fp, H' b = none) E s1) E s
  done : ∀ (X : Cx), X.prog = P → X.w = w → X.K = K → X.calm = true → ∀ (i : Nat) (pins : List (Addr × Obj)) (s : Shared) (σ : St) (H : Hp) (E : Value → Shared → Prop), Inv X pins σ H s → (∀ b ∈ fp, FpOk X pins H b) → tn i s.heap → J.stop i H →
    wpAny (model P w) X.A (pyNext (.ref it)) (fun r s1 => r = none ∧ Inv X pins σ H s1) E s
  self : ∀ (A : Around) (i : Nat) (s : Shared) (Q : Value → Shared → Prop) (E : Value → Shared → Prop), tn i s.heap → Q (.ref it) s → wpAny (model P w) A (pyIter (.ref it)) Q E s
abbrev TI := St → Hp → (It → Hp → Prop) → Prop
/-- an iterator has come -/
def PIE (X : Cx) (pins : List (Addr × Obj)) (σ : St) (tg : Expr) (R : It → Hp → Prop) (itv : Value) (s2 : Shared) : Prop :=
  ∃ (it : Addr) (fp : List Addr) (tn : Nat → Heap → Prop) (J : It) (H' : Hp), itv = .ref it ∧ Inv X pins σ H' s2 ∧ Turn X.prog X.w X.K tg J fp it tn ∧ tn 0 s2.heap ∧ (∀ b ∈ fp, FpOk X pins H' b) ∧ R J H'
def PI (X : Cx) (tg iter : Expr) (wi : TI) : Prop :=
  ∀ (pins : List (Addr × Obj)) (s : Shared) (σ : St) (H : Hp) (R : It → Hp → Prop), Inv X pins σ H s → wi σ H R →
    wpAny (model X.prog X.w) X.A (eval iter X.env) (fun v s1 => wpAny (model X.prog X.w) X.A (pyIter v) (PIE X pins σ tg R) X.xe s1) X.xe s

/-- the step ahead of the store is nothing for an iterator that keeps no tuple -/
theorem go_of {M : Model} {A : Around} {E : Value → Shared → Prop} {s : Shared} {tg : Expr} {it : Addr} {u : Value} {o : Obj} {n : String} {vs : Array Value} {Q : Unit → Shared → Prop} (ho : s.heap.get? it = some o) (hc : o.cls = .type n) (hd : o.data = .fields vs)
    (hn : ["enumerate", "zip", "dict_itemiterator", "dict_reverseitemiterator", "odict_iterator", "itertools.zip_longest", "itertools.pairwise"].contains n = false) (hQ : Q () s) : wpAny M A (letOwnedTupleGo tg (.ref it) u) Q E s := by
  unfold letOwnedTupleGo
  cases tg <;> first
    | exact wpAny_pure hQ
    | (cases u <;> first
        | exact wpAny_pure hQ
        | (refine wpAny_bind (wpAny_load ho ?_)
           rw [hc, hd]
           show wpAny M A (if (["enumerate", "zip", "dict_itemiterator", "dict_reverseitemiterator", "odict_iterator", "itertools.zip_longest", "itertools.pairwise"].contains n && vs[0]? == some (rawInt _)) = true then _ else _) Q E s
           rw [if_neg (by intro h; rw [hn, Bool.false_and] at h; cases h)]
           exact wpAny_pure hQ))

/-- the list at a, as it stands at each turn (a loop may append to it) -/
def Itl (K : PySem.W.Frag) (a : Addr) : It :=
  ⟨fun i H => ∃ xs x, SqL K H a xs ∧ xs[i]? = some x, fun i H x H' => H' = H ∧ ∀ xs, SqL K H a xs → xs[i]? = some x, fun i H => ∃ xs, SqL K H a xs ∧ xs.length ≤ i⟩
def Itt (K : PySem.W.Frag) (a : Addr) : It :=
  ⟨fun i H => ∃ xs x, SqT K H a xs ∧ xs[i]? = some x, fun i H x H' => H' = H ∧ ∀ xs, SqT K H a xs → xs[i]? = some x, fun i H => ∃ xs, SqT K H a xs ∧ xs.length ≤ i⟩
/-- lo, lo + 1, .. (n of them) -/
def Itr (lo : Int) (n : Nat) : It := ⟨fun i _ => i < n, fun i H x H' => H' = H ∧ x = .int (lo + i), fun i _ => n ≤ i⟩
theorem turn_list {P : Program} {w : World} {K : PySem.W.Frag} {tg : Expr} (a it : Addr) : Turn P w K tg (Itl K a) [it] it (fun i h => h.IsListIter it a i) where
  mem := by simp
  obj := fun i h st b hb => by
    have e : b = it := by simpa using hb
    subst e
    obtain ⟨o, e, c, d⟩ := st
    exact ⟨o, e, fun v z => by rw [d] at z; cases z⟩
  keep := fun i h h' st k => st.at fun o e => k it (by simp) o e
  item := by
    intro X hP hw hK hc i pins s σ H E I hf st hg
    subst hP hw hK
    obtain ⟨xs, x, hq, hx⟩ := hg
    obtain ⟨its, rv, p, hz⟩ := I.list hq
    obtain ⟨u, hu, ru⟩ := rv.get hx
    obtain ⟨f0, f1, f2, f3, f4, f5⟩ := hf it (by simp)
    refine wpAny_pyNext_list_item st p.isList (x := u) (by simpa using hu) fun h' st' sb => ?_
    have I1 : Inv X pins σ H { s with heap := h' } := I.turned (t' := s.toks) (fun b o hb e => (sb.2 b hb).trans e) f0 f1 f3 f4 f5
    obtain ⟨o, e, c, d⟩ := id st'
    exact ⟨u, rfl, go_of (s := { s with heap := h' }) e c d (by decide) ⟨x, H, I1, ru, ⟨rfl, fun ys hy => by rw [I.list_inj hy hq]; exact hx⟩, st', fun b hb => (hf b hb).1⟩⟩
  done := by
    intro X hP hw hK hc i pins s σ H E I hf st hg
    subst hP hw hK
    obtain ⟨xs, hq, hx⟩ := hg
    obtain ⟨its, rv, p, hz⟩ := I.list hq
    obtain ⟨f0, f1, f2, f3, f4, f5⟩ := hf it (by simp)
    have hl := rv.length
    exact wpAny_pyNext_list_end (I.ok.hd hc) st p.isList (by simp; omega) fun h' eb => ⟨rfl, I.turned (t' := s.toks) (fun b o hb e => eb b o hb e) f0 f1 f3 f4 f5⟩
  self := fun _ _ _ _ _ st h => wpAny_pyIter_listiter st h
theorem turn_tuple {P : Program} {w : World} {K : PySem.W.Frag} {tg : Expr} (a it : Addr) : Turn P w K tg (Itt K a) [it] it (fun i h => h.IsTupleIter it a i) where
  mem := by simp
  obj := fun i h st b hb => by
    have e : b = it := by simpa using hb
    subst e
    obtain ⟨o, e, c, d⟩ := st
    exact ⟨o, e, fun v z => by rw [d] at z; cases z⟩
  keep := fun i h h' st k => st.at fun o e => k it (by simp) o e
  item := by
    intro X hP hw hK hc i pins s σ H E I hf st hg
    subst hP hw hK
    obtain ⟨xs, x, hq, hx⟩ := hg
    obtain ⟨its, rv, p, hz⟩ := I.tuple hq
    obtain ⟨u, hu, ru⟩ := rv.get hx
    obtain ⟨f0, f1, f2, f3, f4, f5⟩ := hf it (by simp)
    refine wpAny_pyNext_tuple_item st (show s.heap.IsTuple a its.toArray from p) (x := u) (by simpa using hu) fun h' st' sb => ?_
    have I1 : Inv X pins σ H { s with heap := h' } := I.turned (t' := s.toks) (fun b o hb e => (sb.2 b hb).trans e) f0 f1 f3 f4 f5
    obtain ⟨o, e, c, d⟩ := id st'
    exact ⟨u, rfl, go_of (s := { s with heap := h' }) e c d (by decide) ⟨x, H, I1, ru, ⟨rfl, fun ys hy => by rw [I.tuple_inj hy hq]; exact hx⟩, st', fun b hb => (hf b hb).1⟩⟩
  done := by
    intro X hP hw hK hc i pins s σ H E I hf st hg
    subst hP hw hK
    obtain ⟨xs, hq, hx⟩ := hg
    obtain ⟨its, rv, p, hz⟩ := I.tuple hq
    obtain ⟨f0, f1, f2, f3, f4, f5⟩ := hf it (by simp)
    have hl := rv.length
    exact wpAny_pyNext_tuple_end (I.ok.hd hc) st (show s.heap.IsTuple a its.toArray from p) (by simp; omega) fun h' eb => ⟨rfl, I.turned (t' := s.toks) (fun b o hb e => eb b o hb e) f0 f1 f3 f4 f5⟩
  self := fun _ _ _ _ _ st h => wpAny_pyIter_tupleiter st h
theorem turn_range {P : Program} {w : World} {K : PySem.W.Frag} {tg : Expr} (it : Addr) (lo : Int) (n : Nat) : Turn P w K tg (Itr lo n) [it] it (fun i h => IsRangeIter h it (lo + (i : Nat) * 1) ((n : Int) - (i : Nat)) 1) where
  mem := by simp
  obj := fun i h st b hb => by
    have e : b = it := by simpa using hb
    subst e
    exact ⟨_, st, fun v z => by
      have z' : Data.fields _ = Data.cell v := z
      cases z'⟩
  keep := fun i h h' st k => k it (by simp) _ st
  item := by
    intro X hP hw hK hc i pins s σ H E I hf st hg
    subst hP hw hK
    obtain ⟨f0, f1, f2, f3, f4, f5⟩ := hf it (by simp)
    have W := Walks.range (prog := X.prog) (w := X.w) (I.ok.hd hc) it lo 1 n
    refine W.item i s _ _ hg st fun v h' tk hv st' kk => ?_
    obtain ⟨t, rfl⟩ := hv
    have I1 : Inv X pins σ H { s with heap := h', toks := tk } := I.turned (fun b o hb e => kk b o (by simpa using hb) e) f0 f1 f3 f4 f5
    refine ⟨_, rfl, go_of (s := { s with heap := h', toks := tk }) (n := "range_iterator") st' rfl rfl (by decide) ⟨.int (lo + i), H, I1, ⟨t, ?_⟩, ⟨rfl, rfl⟩, st', fun b hb => (hf b hb).1⟩⟩
    rw [Int.mul_one]
  done := by
    intro X hP hw hK hc i pins s σ H E I hf st hg
    subst hP hw hK
    obtain ⟨f0, f1, f2, f3, f4, f5⟩ := hf it (by simp)
    exact wpAny_pyNext_range_end (I.ok.hd hc) st (by have : n ≤ i := hg; omega) fun h' eb => ⟨rfl, I.turned (t' := s.toks) (fun b o hb e => eb b o hb e) f0 f1 f3 f4 f5⟩
  self := fun _ _ _ _ _ st h => wpAny_pyIter_rangeiter st h
end L2

namespace L2
open PySem PySem.Spec PyProof.Rows
section
variable {X : Cx} {tg : Expr}
def iList (K : PySem.W.Frag) (tl : TE) : TI := fun σ H R => tl σ H fun x H1 => ∃ a, x = .ref a ∧ (∃ xs, SqL K H1 a xs) ∧ R (Itl K a) H1
def iTup (K : PySem.W.Frag) (tl : TE) : TI := fun σ H R => tl σ H fun x H1 => ∃ a, x = .ref a ∧ (∃ xs, SqT K H1 a xs) ∧ R (Itt K a) H1
theorem pi_list {l : Expr} {tl : TE} (hl : PE X l tl) : PI X tg l (iList X.K tl) := by
  intro pins s σ H R I h
  refine thn (hl pins s σ H _ I h) fun v s1 ⟨x, H1, I1, r1, q1⟩ => ?_
  obtain ⟨a, e, ⟨xs, hq⟩, q⟩ := q1
  subst e
  cases r1
  obtain ⟨its, rv, p, hz⟩ := I1.list hq
  refine wpAny_pyIter_list p.isList ?_
  refine ⟨s1.heap.objs.size, [s1.heap.objs.size], _, _, H1, rfl, I1.kept (t' := s1.toks) fun b o e => Heap.get?_push_of_some _ e, turn_list a _, ⟨_, Heap.get?_push_size _ rfl, rfl, rfl⟩, fun b hb => ?_, q⟩
  have e : b = s1.heap.objs.size := by simpa using hb
  subst e
  exact I1.fpOk (Nat.le_refl _) (I1.hok.fresh (Nat.le_refl _))
theorem pi_tup {l : Expr} {tl : TE} (hl : PE X l tl) : PI X tg l (iTup X.K tl) := by
  intro pins s σ H R I h
  refine thn (hl pins s σ H _ I h) fun v s1 ⟨x, H1, I1, r1, q1⟩ => ?_
  obtain ⟨a, e, ⟨xs, hq⟩, q⟩ := q1
  subst e
  cases r1
  obtain ⟨its, rv, p, hz⟩ := I1.tuple hq
  refine wpAny_pyIter_tuple (show s1.heap.IsTuple a its.toArray from p) ?_
  refine ⟨s1.heap.objs.size, [s1.heap.objs.size], _, _, H1, rfl, I1.kept (t' := s1.toks) fun b o e => Heap.get?_push_of_some _ e, turn_tuple a _, ⟨_, Heap.get?_push_size _ rfl, rfl, rfl⟩, fun b hb => ?_, q⟩
  have e : b = s1.heap.objs.size := by simpa using hb
  subst e
  exact I1.fpOk (Nat.le_refl _) (I1.hok.fresh (Nat.le_refl _))
/-- a range object just made, walked -/
theorem range_it {pins : List (Addr × Obj)} {σ : St} {H : Hp} {s : Shared} {R : It → Hp → Prop} {E : Value → Shared → Prop} {lo hi : Int} {t u v : Tok} {tk : Nat} (I : Inv X pins σ H s) (h1 : -(2 ^ 62) ≤ lo) (h2 : lo < 2 ^ 62) (h3 : -(2 ^ 62) ≤ hi) (h4 : hi < 2 ^ 62)
    (q : R (Itr lo (hi - lo).toNat) H) : wpAny (model X.prog X.w) X.A (pyIter (.ref s.heap.objs.size)) (PIE X pins σ tg R) E { s with heap := s.heap.push { cls := .type "range", data := .fields #[.int lo t, .int hi u, .int 1 v] }, toks := tk } := by
  refine wpAny_pyIter_range (IsRange.new ..) (small_one h1 h2 h3 h4) ?_
  have I1 : Inv X pins σ H { s with heap := s.heap.push { cls := .type "range", data := .fields #[.int lo t, .int hi u, .int 1 v] }, toks := tk } := I.kept fun b o e => Heap.get?_push_of_some _ e
  refine ⟨(s.heap.push { cls := .type "range", data := .fields #[.int lo t, .int hi u, .int 1 v] }).objs.size, [(s.heap.push { cls := .type "range", data := .fields #[.int lo t, .int hi u, .int 1 v] }).objs.size], _, _, H, rfl,
    I1.kept (t' := tk) fun b o e => Heap.get?_push_of_some _ e, turn_range _ lo (hi - lo).toNat, ?_, fun b hb => ?_, q⟩
  · have e1 : lo + ((0 : Nat) : Int) * 1 = lo := by simp
    have e2 : (((hi - lo).toNat : Nat) : Int) - ((0 : Nat) : Int) = Builtin.Range.rangeSize lo hi 1 := by rw [rangeSize_one]; split <;> omega
    show IsRangeIter _ _ (lo + ((0 : Nat) : Int) * 1) ((((hi - lo).toNat : Nat) : Int) - ((0 : Nat) : Int)) 1
    rw [e1, e2]
    exact Heap.get?_push_size _ rfl
  · have e : b = (s.heap.push { cls := .type "range", data := .fields #[.int lo t, .int hi u, .int 1 v] }).objs.size := by simpa using hb
    subst e
    exact I1.fpOk (Nat.le_refl _) (I1.hok.fresh (Nat.le_refl _))
def iRng1 (ta : TA) : TI := fun σ H R => ta σ H fun vs H1 => ∃ j : Int, vs = [.int j] ∧ -(2 ^ 62) ≤ j ∧ j < 2 ^ 62 ∧ R (Itr 0 j.toNat) H1
theorem pi_range1 {a : Expr} {ta : TA} {p pos : Pos} (hg : Gl X "range") (hm : X.mg "range" = none) (ha : PA X [a] ta) (hs : starEach [a] X.env = [(false, eval a X.env)] := by rfl) : PI X tg (.Call (.Name "range" p) [a] [] pos) (iRng1 ta) := by
  intro pins s σ H R I h
  refine Call_ (ld_blt I hg hm boot_range (PyProof.Rows.callWith_type1 (thn (ha pos pins s σ H _ I h) fun us s1 ⟨vs, H1, I1, r1, q1⟩ => ?_) hs rfl))
  obtain ⟨j, e, q1, q2, q⟩ := q1
  subst e
  cases r1 with
  | cons r rr =>
    cases rr
    obtain ⟨t, rfl⟩ := r
    exact call_range_1 (range_it I1 (by omega) (by omega) q1 q2 (by simpa using q))
/-! ### for -/
/-- W: the invariant by the turn and a measure; N: what the body is to reach -/
def tFor (wi : TI) (g : TG) (tb : TS) : TS := fun D σ H => wi σ H fun J H1 => ∃ W : Nat → Nat → St → Hp → Prop, (∃ m, W 0 m σ H1) ∧ ∀ i m σ H, W i m σ H →
  (J.stop i H ∧ D.nx σ H) ∨ (J.go i H ∧ ∃ N : St → Hp → Prop, (∀ σ' H', N σ' H' → ∃ m', m' < m ∧ W (i + 1) m' σ' H') ∧ ∀ x H', J.yld i H x H' → g x σ H' fun σ2 H2 => tb { D with nx := N, ct := N, bk := D.nx } σ2 H2)
/-- the records at fp as they stand -/
def pinsAt (fp : List Addr) (h : Heap) : List (Addr × Obj) := fp.filterMap fun b => (h.get? b).map fun o => (b, o)
theorem mem_pinsAt {fp : List Addr} {h : Heap} {b : Addr} {o : Obj} (hb : b ∈ fp) (e : h.get? b = some o) : (b, o) ∈ pinsAt fp h := List.mem_filterMap.mpr ⟨b, hb, by rw [e]; rfl⟩
theorem of_pinsAt {fp : List Addr} {h : Heap} {p : Addr × Obj} (hp : p ∈ pinsAt fp h) : p.1 ∈ fp ∧ h.get? p.1 = some p.2 := by
  obtain ⟨b, hb, e⟩ := List.mem_filterMap.mp hp
  cases q : h.get? b with
  | none => rw [q] at e; cases e
  | some o =>
    rw [q] at e
    have e' : (b, o) = p := Option.some.inj e
    subst e'
    exact ⟨hb, q⟩
theorem Inv.pinned {pins : List (Addr × Obj)} {σ : St} {H : Hp} {s : Shared} {fp : List Addr} (I : Inv X pins σ H s) (hf : ∀ b ∈ fp, FpOk X pins H b) (ho : ∀ b ∈ fp, ∃ o, s.heap.get? b = some o ∧ ∀ v, o.data ≠ .cell v) : Inv X (pins ++ pinsAt fp s.heap) σ H s :=
  I.pins_of fun p hp => (List.mem_append.mp hp).elim (fun z => I.pin p (List.mem_append_right _ z)) fun z => by
    obtain ⟨hb, e⟩ := of_pinsAt z
    obtain ⟨f0, f1, f2, _⟩ := hf p.1 hb
    obtain ⟨o, e', d⟩ := ho p.1 hb
    rw [e] at e'; cases e'
    exact ⟨e, f0, f1, f2, d⟩
theorem Inv.unpinned {pins pl : List (Addr × Obj)} {σ : St} {H : Hp} {s : Shared} (I : Inv X (pins ++ pl) σ H s) : Inv X pins σ H s := I.pins_of fun p hp => I.pin p (List.mem_append_right _ (List.mem_append_left _ hp))
theorem ps_for {iter : Expr} {body : List Stmt} {wi : TI} {g : TG} {tb : TS} {pos : Pos} (hp : PassesOwn (model X.prog X.w) X.A X.env X.xe) (hc : X.calm = true) (hi : PI X tg iter wi) (hg : PG X tg g) (hb : PSs X body tb)
    (hs : ∀ x, foldedSetIterable iter X.env x = pure x := by intro _; rfl) : PS X (.For tg iter body [] pos) (tFor wi g tb) := by
  intro pins s σ H D I h
  refine wpAny_For (thn (hi pins s σ H _ I h) fun v s1 h1 => thn h1 fun itv s2 h2 => ?_) hs
  obtain ⟨it, fp, tn, J, H2, e, I2, T, st2, f2, W, ⟨m0, w0⟩, turn⟩ := h2
  subst e
  -- what stays true of the iterator's objects through the loop
  have stat : ∀ {H' : Hp}, (∀ b ∈ fp, H' b = none) → ∀ b ∈ fp, FpOk X pins H' b := fun hn b hb => ⟨hn b hb, (f2 b hb).2⟩
  refine codeAny_forLoop_any (fun n s' => ∃ i σ' H', Inv X pins σ' H' s' ∧ tn i s'.heap ∧ (∀ b ∈ fp, H' b = none) ∧ W i n σ' H') ?_ m0 ⟨0, σ, H2, I2, st2, fun b hb => (f2 b hb).1, w0⟩
  rintro n s3 ⟨i, σ3, H3, I3, st3, fr3, w3⟩
  rcases turn i n σ3 H3 w3 with ⟨stop, qn⟩ | ⟨go, N, hN, step⟩
  · refine wpAny_passesOwn hp (thn (T.done X rfl rfl rfl hc i pins s3 σ3 H3 X.xe I3 (stat fr3) st3 stop) fun r s4 ⟨hr, I4⟩ => ?_)
    subst hr
    exact wpAny_execs_nil ⟨σ3, H3, I4, qn⟩
  · refine wpAny_passesOwn hp (thn (T.item X rfl rfl rfl hc i pins s3 σ3 H3 X.xe I3 (stat fr3) st3 go) fun r s4 ⟨u, hr, h4⟩ => ?_)
    subst hr
    refine wpAny_passesOwn hp (thn h4 fun _ s5 ⟨x, H5, I5, r5, y5, st5, fr5⟩ => ?_)
    have I5' := I5.pinned (stat fr5) (T.obj _ _ st5)
    refine wpAny_passesOwn hp (thn (hg _ s5 σ3 H5 x u _ I5' r5 (step x H5 y5)) fun _ s6 ⟨σ6, H6, I6, q6⟩ => ?_)
    refine wpAny_passesOwn hp (thn (hb _ s6 σ6 H6 _ I6 q6) fun f s7 q7 => ?_)
    have again : ∀ {σ7 : St} {H7 : Hp}, Inv X (pins ++ pinsAt fp s5.heap) σ7 H7 s7 → N σ7 H7 → ∃ m, m < n ∧ ∃ i σ' H', Inv X pins σ' H' s7 ∧ tn i s7.heap ∧ (∀ b ∈ fp, H' b = none) ∧ W i m σ' H' := fun {σ7 H7} I7 n7 => by
      obtain ⟨m', hm, w7⟩ := hN σ7 H7 n7
      refine ⟨m', hm, i + 1, σ7, H7, I7.unpinned, T.keep _ _ _ st5 fun b hb o e => (I7.pin (b, o) (List.mem_append_right _ (List.mem_append_right _ (mem_pinsAt hb e)))).1, fun b hb => ?_, w7⟩
      obtain ⟨o, e, d⟩ := T.obj _ _ st5 b hb
      exact (I7.pin (b, o) (List.mem_append_right _ (List.mem_append_right _ (mem_pinsAt hb e)))).2.1
    cases f with
    | next => obtain ⟨σ7, H7, I7, n7⟩ := q7; exact again I7 n7
    | cont => obtain ⟨σ7, H7, I7, n7⟩ := q7; exact again I7 n7
    | brk => obtain ⟨σ7, H7, I7, q7⟩ := q7; exact ⟨σ7, H7, I7.unpinned, q7⟩
    | ret v => obtain ⟨x7, σ7, H7, I7, r7, q7⟩ := q7; exact ⟨x7, σ7, H7, I7.unpinned, r7, q7⟩
end

/-! ### the forms one uses -/
/-- over a list that the body leaves as it is -/
theorem for_list {K : PySem.W.Frag} {a : Addr} {xs : List V} {g : TG} {tb : TS} {D : Ends} {σ : St} {H : Hp} (Pv : Nat → St → Hp → Prop) (h0 : Pv 0 σ H) (hl : ∀ i σ H, i ≤ xs.length → Pv i σ H → SqL K H a xs)
    (hs : ∀ i x σ H, xs[i]? = some x → Pv i σ H → g x σ H fun σ2 H2 => tb { D with nx := Pv (i + 1), ct := Pv (i + 1), bk := D.nx } σ2 H2) (hd : ∀ σ H, Pv xs.length σ H → D.nx σ H) :
    ∃ W : Nat → Nat → St → Hp → Prop, (∃ m, W 0 m σ H) ∧ ∀ i m σ H, W i m σ H →
      ((Itl K a).stop i H ∧ D.nx σ H) ∨ ((Itl K a).go i H ∧ ∃ N : St → Hp → Prop, (∀ σ' H', N σ' H' → ∃ m', m' < m ∧ W (i + 1) m' σ' H') ∧ ∀ x H', (Itl K a).yld i H x H' → g x σ H' fun σ2 H2 => tb { D with nx := N, ct := N, bk := D.nx } σ2 H2) := by
  refine ⟨fun i m σ H => m = xs.length - i ∧ i ≤ xs.length ∧ Pv i σ H, ⟨xs.length, by simp, Nat.zero_le _, h0⟩, ?_⟩
  rintro i m σ H ⟨rfl, hi, p⟩
  have q := hl i σ H hi p
  by_cases hlt : i < xs.length
  · refine .inr ⟨⟨xs, xs[i], q, by simp [hlt]⟩, Pv (i + 1), fun σ' H' p' => ⟨xs.length - (i + 1), by omega, rfl, hlt, p'⟩, fun x H' y => ?_⟩
    obtain ⟨e, y⟩ := y
    subst e
    exact hs i x σ _ (y xs q) p
  · have e : i = xs.length := by omega
    subst e
    exact .inl ⟨⟨xs, q, Nat.le_refl _⟩, hd σ H p⟩
theorem for_range {lo : Int} {n : Nat} {g : TG} {tb : TS} {D : Ends} {σ : St} {H : Hp} (Pv : Nat → St → Hp → Prop) (h0 : Pv 0 σ H)
    (hs : ∀ i σ H, i < n → Pv i σ H → g (.int (lo + i)) σ H fun σ2 H2 => tb { D with nx := Pv (i + 1), ct := Pv (i + 1), bk := D.nx } σ2 H2) (hd : ∀ σ H, Pv n σ H → D.nx σ H) :
    ∃ W : Nat → Nat → St → Hp → Prop, (∃ m, W 0 m σ H) ∧ ∀ i m σ H, W i m σ H →
      ((Itr lo n).stop i H ∧ D.nx σ H) ∨ ((Itr lo n).go i H ∧ ∃ N : St → Hp → Prop, (∀ σ' H', N σ' H' → ∃ m', m' < m ∧ W (i + 1) m' σ' H') ∧ ∀ x H', (Itr lo n).yld i H x H' → g x σ H' fun σ2 H2 => tb { D with nx := N, ct := N, bk := D.nx } σ2 H2) := by
  refine ⟨fun i m σ H => m = n - i ∧ i ≤ n ∧ Pv i σ H, ⟨n, by simp, Nat.zero_le _, h0⟩, ?_⟩
  rintro i m σ H ⟨rfl, hi, p⟩
  by_cases hlt : i < n
  · refine .inr ⟨hlt, Pv (i + 1), fun σ' H' p' => ⟨n - (i + 1), by omega, rfl, hlt, p'⟩, fun x H' y => ?_⟩
    obtain ⟨e, y⟩ := y
    subst e y
    exact hs i σ _ hlt p
  · have e : i = n := by omega
    subst e
    exact .inl ⟨Nat.le_refl _, hd σ H p⟩
end L2

namespace L2
open PySem PySem.Spec PyProof.Rows

abbrev R2 := V → V → Hp → VK → Prop
/-- a two-place operation on values: f is binaryOp op, inplaceOp op or compareOp op -/
def OpR (X : Cx) (f : Value → Value → Sem Value) (r : R2) : Prop :=
  ∀ (pins : List (Addr × Obj)) (s : Shared) (σ : St) (H : Hp) (x y : V) (v u : Value) (Q : VK), Inv X pins σ H s → RelV x v → RelV y u → r x y H Q →
    wpAny (model X.prog X.w) X.A (f v u) (EP X pins σ Q) X.xe s
/-- a call of a value that is known (a builtin, a type) with values -/
def CallR (X : Cx) (f : Value) (r : List V → Hp → VK → Prop) : Prop :=
  ∀ (pins : List (Addr × Obj)) (s : Shared) (σ : St) (H : Hp) (xs : List V) (us : List Value) (Q : VK), Inv X pins σ H s → Vals xs us → r xs H Q →
    wpAny (model X.prog X.w) X.A (call f us) (EP X pins σ Q) X.xe s
def tOp (r : R2) (ta tb : TE) : TE := fun σ H Q => ta σ H fun x H1 => tb σ H1 fun y H2 => r x y H2 Q
/-- ints in, under C, and a value out -/
def rI (C : Int → Int → Prop) (g : Int → Int → V) : R2 := fun x y H Q => ∃ i j, x = .int i ∧ y = .int j ∧ C i j ∧ Q (g i j) H
def rI0 (g : Int → Int → V) : R2 := fun x y H Q => ∃ i j, x = .int i ∧ y = .int j ∧ Q (g i j) H
section
variable {X : Cx} {a b c : Expr} {ta tb tc : TE} {pos : Pos}

theorem binT (ha : PE X a ta) (hb : PE X b tb) {pins : List (Addr × Obj)} {s : Shared} {σ : St} {H : Hp} {R : V → V → Hp → Prop} (I : Inv X pins σ H s)
    (h : ta σ H fun x H1 => tb σ H1 fun y H2 => R x y H2) {Q : Value → Shared → Prop} {f : Value → Value → Sem Value}
    (hf : ∀ v u s2 x y H2, Inv X pins σ H2 s2 → RelV x v → RelV y u → R x y H2 → wpAny (model X.prog X.w) X.A (f v u) Q X.xe s2) :
    wpAny (model X.prog X.w) X.A (eval a X.env) (fun v s₁ => wpAny (model X.prog X.w) X.A (eval b X.env) (fun u s₂ => wpAny (model X.prog X.w) X.A (f v u) Q X.xe s₂) X.xe s₁) X.xe s := by
  refine thn (ha pins s σ H _ I h) fun v s1 ⟨x, H1, I1, r1, q1⟩ => ?_
  refine thn (hb pins s1 σ H1 _ I1 q1) fun u s2 ⟨y, H2, I2, r2, q2⟩ => ?_
  exact hf v u s2 x y H2 I2 r1 r2 q2

theorem pe_op {op : Operator} {r : R2} (ho : OpR X (binaryOp op) r) (ha : PE X a ta) (hb : PE X b tb) : PE X (.BinOp a op b pos) (tOp r ta tb) := by
  intro pins s σ H Q I h
  exact wpAny_BinOp (binT ha hb I h fun v u s2 x y H2 I2 rx ry q => ho pins s2 σ H2 x y v u Q I2 rx ry q)
/-! ### ints -/
theorem opI {f : Value → Value → Sem Value} {C : Int → Int → Prop} {g : Int → Int → Int}
    (rule : ∀ (i j : Int) (t u : Tok) (s : Shared) (Q : Value → Shared → Prop) (E : Value → Shared → Prop), C i j → Q (.int (g i j) s.toks) { s with toks := s.toks + 1 } → wpAny (model X.prog X.w) X.A (f (.int i t) (.int j u)) Q E s) :
    OpR X f (rI C fun i j => .int (g i j)) := by
  intro pins s σ H x y v u Q I rx ry h
  obtain ⟨i, j, rfl, rfl, hc, q⟩ := h
  obtain ⟨t, rfl⟩ := rx
  obtain ⟨t', rfl⟩ := ry
  exact rule i j t t' s _ _ hc ⟨.int (g i j), H, I.tok _, ⟨_, rfl⟩, q⟩
theorem opI0 {f : Value → Value → Sem Value} {g : Int → Int → Int}
    (rule : ∀ (i j : Int) (t u : Tok) (s : Shared) (Q : Value → Shared → Prop) (E : Value → Shared → Prop), Q (.int (g i j) s.toks) { s with toks := s.toks + 1 } → wpAny (model X.prog X.w) X.A (f (.int i t) (.int j u)) Q E s) :
    OpR X f (rI0 fun i j => .int (g i j)) := by
  intro pins s σ H x y v u Q I rx ry h
  obtain ⟨i, j, rfl, rfl, q⟩ := h
  obtain ⟨t, rfl⟩ := rx
  obtain ⟨t', rfl⟩ := ry
  exact rule i j t t' s _ _ ⟨.int (g i j), H, I.tok _, ⟨_, rfl⟩, q⟩
theorem opB0 {f : Value → Value → Sem Value} {g : Int → Int → Bool}
    (rule : ∀ (i j : Int) (t u : Tok) (s : Shared) (Q : Value → Shared → Prop) (E : Value → Shared → Prop), Q (.bool (g i j)) s → wpAny (model X.prog X.w) X.A (f (.int i t) (.int j u)) Q E s) :
    OpR X f (rI0 fun i j => .bl (g i j)) := by
  intro pins s σ H x y v u Q I rx ry h
  obtain ⟨i, j, rfl, rfl, q⟩ := h
  obtain ⟨t, rfl⟩ := rx
  obtain ⟨t', rfl⟩ := ry
  exact rule i j t t' s _ _ ⟨.bl (g i j), H, I, rfl, q⟩

def CDiv (i j : Int) : Prop := 0 < j ∧ j < 1073741824
def CMul (i j : Int) : Prop := (-(2 ^ 64) < i ∧ i < 2 ^ 64) ∨ (-(2 ^ 64) < j ∧ j < 2 ^ 64)
theorem CMul.ok {i j : Int} (h : CMul i j) : IntMulOk i j := by
  rcases h with ⟨h1, h2⟩ | ⟨h1, h2⟩
  · exact .of_left (intBits_le_64 h1 h2)
  · exact .of_right (intBits_le_64 h1 h2)
theorem two_pow_nn (k : Nat) : (0 : Int) ≤ 2 ^ k := by
  rw [two_pow_cast]
  exact Int.natCast_nonneg _

theorem op_add : OpR X (binaryOp .Add) (rI0 fun i j => .int (i + j)) := opI0 fun _ _ _ _ _ _ _ q => add_int q
theorem op_sub : OpR X (binaryOp .Sub) (rI0 fun i j => .int (i - j)) := opI0 fun _ _ _ _ _ _ _ q => sub_int q
theorem op_mul : OpR X (binaryOp .Mult) (rI CMul fun i j => .int (i * j)) := opI fun _ _ _ _ _ _ _ hc q => mul_int q hc.ok
/-- // by a positive divisor -/
theorem op_fdiv : OpR X (binaryOp .FloorDiv) (rI CDiv fun i j => .int (i / j)) := opI fun i j _ _ _ _ _ hc q => by
  have h1 : (0 : Int) < j := hc.1
  have h2 : j < 1073741824 := hc.2
  exact floordiv_int (by omega) (by rw [Int.fdiv_eq_ediv_of_nonneg i (by omega)]; exact q) (.inl (PyProof.noPylong_small (by omega)))
/-- % by a positive divisor of any size -/
theorem op_mod : OpR X (binaryOp .Mod) (rI (fun _ j => 0 < j) fun i j => .int (i % j)) := opI fun i j _ _ _ _ _ hc q => by
  have h1 : (0 : Int) < j := hc
  exact mod_int' (by omega) (by rw [Int.fmod_eq_emod_of_nonneg i (by omega)]; exact q)
theorem op_shr : OpR X (binaryOp .RShift) (rI (fun _ j => 0 ≤ j) fun i j => .int (i / 2 ^ j.toNat)) := opI fun i j _ _ _ _ _ hc q =>
  rshift_int hc (by rw [Int.fdiv_eq_ediv_of_nonneg i (two_pow_nn _)]; exact q)
theorem op_and : OpR X (binaryOp .BitAnd) (rI0 fun i j => .int (Builtin.bitAnd i j)) := opI0 fun _ _ _ _ _ _ _ q => and_int q
theorem op_or : OpR X (binaryOp .BitOr) (rI0 fun i j => .int (Builtin.bitOr i j)) := opI0 fun _ _ _ _ _ _ _ q => or_int q
theorem op_xor : OpR X (binaryOp .BitXor) (rI0 fun i j => .int (Builtin.bitXor i j)) := opI0 fun _ _ _ _ _ _ _ q => xor_int q

/-! ### bools among ints: n += (a < b) -/
end

/-! ### comparisons -/
/-- the scalars that == tells apart as data does -/
def scal : V → V → Bool
  | .non, .non => true | .non, .int _ => true | .int _, .non => true | .non, .bl _ => true | .bl _, .non => true | .non, .str _ => true | .str _, .non => true
  | .int _, .int _ => true | .bl _, .bl _ => true | .str _, .str _ => true | .byt _, .byt _ => true
  | .int _, .str _ => true | .str _, .int _ => true | .bl _, .str _ => true | .str _, .bl _ => true
  | _, _ => false
def rEq : R2 := fun x y H Q => scal x y = true ∧ Q (.bl (decide (x = y))) H
def rNe : R2 := fun x y H Q => scal x y = true ∧ Q (.bl (!decide (x = y))) H

theorem dec_int {i j : Int} : decide (V.int i = V.int j) = (i == j) := by
  rw [Bool.eq_iff_iff]
  simp
theorem dec_bl {i j : Bool} : decide (V.bl i = V.bl j) = (i == j) := by
  rw [Bool.eq_iff_iff]
  simp
theorem dec_str {i j : Str} : decide (V.str i = V.str j) = (i == j) := by
  rw [Bool.eq_iff_iff]
  simp
theorem dec_byt {i j : Array UInt8} : decide (V.byt i = V.byt j) = (i.toList == j.toList) := by
  rw [Bool.eq_iff_iff]
  cases i
  cases j
  simp

section
variable {X : Cx} {a b c : Expr} {ta tb tc : TE} {pos : Pos}
theorem fin_bl {pins : List (Addr × Obj)} {σ : St} {H : Hp} {s : Shared} {Q : VK} {k k' : Bool} (I : Inv X pins σ H s) (q : Q (.bl k) H) (e : k = k') : EP X pins σ Q (.bool k') s := by
  subst e
  exact ⟨.bl k, H, I, rfl, q⟩
theorem op_eq : OpR X (compareOp .Eq) rEq := by
  intro pins s σ H x y v u Q I rx ry h
  obtain ⟨hs, q⟩ := h
  cases x with
  | non =>
    cases rx
    cases y with
    | non => cases ry; exact PySem.EqNone.eq_none_none (fin_bl I q (by simp))
    | bl j => cases ry; exact PySem.EqNone.eq_none_bool (fin_bl I q (by simp))
    | int j => obtain ⟨t', rfl⟩ := ry; exact PySem.EqNone.eq_none_int (fin_bl I q (by simp))
    | str j => obtain ⟨t', rfl⟩ := ry; exact PySem.EqNone.eq_none_str (fin_bl I q (by simp))
    | _ => exact absurd (show false = true from hs) Bool.false_ne_true
  | bl i =>
    cases rx
    cases y with
    | non => cases ry; exact PySem.EqNone.eq_bool_none (fin_bl I q (by simp))
    | bl j => cases ry; exact eq_bool (fin_bl I q dec_bl)
    | str j => obtain ⟨t', rfl⟩ := ry; exact PySem.EqMixed.eq_bool_str (fin_bl I q (by simp))
    | _ => exact absurd (show false = true from hs) Bool.false_ne_true
  | int i =>
    obtain ⟨t, rfl⟩ := rx
    cases y with
    | non => cases ry; exact PySem.EqNone.eq_int_none (fin_bl I q (by simp))
    | int j => obtain ⟨t', rfl⟩ := ry; exact eq_int (fin_bl I q dec_int)
    | str j => obtain ⟨t', rfl⟩ := ry; exact PySem.EqMixed.eq_int_str (fin_bl I q (by simp))
    | _ => exact absurd (show false = true from hs) Bool.false_ne_true
  | str i =>
    obtain ⟨t, rfl⟩ := rx
    cases y with
    | non => cases ry; exact PySem.EqNone.eq_str_none (fin_bl I q (by simp))
    | bl j => cases ry; exact PySem.EqMixed.eq_str_bool (fin_bl I q (by simp))
    | int j => obtain ⟨t', rfl⟩ := ry; exact PySem.EqMixed.eq_str_int (fin_bl I q (by simp))
    | str j => obtain ⟨t', rfl⟩ := ry; exact eq_str (fin_bl I q dec_str)
    | _ => exact absurd (show false = true from hs) Bool.false_ne_true
  | byt i =>
    obtain ⟨t, rfl⟩ := rx
    cases y with
    | byt j => obtain ⟨t', rfl⟩ := ry; exact PySem.W.eq_bytes (fin_bl I q dec_byt)
    | _ => exact absurd (show false = true from hs) Bool.false_ne_true
  | _ => cases y <;> exact absurd (show false = true from hs) Bool.false_ne_true
theorem op_ne : OpR X (compareOp .NotEq) rNe := by
  intro pins s σ H x y v u Q I rx ry h
  obtain ⟨hs, q⟩ := h
  cases x with
  | non =>
    cases rx
    cases y with
    | non => cases ry; exact PySem.EqNone.ne_none_none (fin_bl I q (by simp))
    | bl j => cases ry; exact PySem.EqNone.ne_none_bool (fin_bl I q (by simp))
    | int j => obtain ⟨t', rfl⟩ := ry; exact PySem.EqNone.ne_none_int (fin_bl I q (by simp))
    | str j => obtain ⟨t', rfl⟩ := ry; exact PySem.EqNone.ne_none_str (fin_bl I q (by simp))
    | _ => exact absurd (show false = true from hs) Bool.false_ne_true
  | bl i =>
    cases rx
    cases y with
    | non => cases ry; exact PySem.EqNone.ne_bool_none (fin_bl I q (by simp))
    | bl j => cases ry; exact ne_bool (fin_bl I q (congrArg not dec_bl))
    | str j => obtain ⟨t', rfl⟩ := ry; exact PySem.EqMixed.ne_bool_str (fin_bl I q (by simp))
    | _ => exact absurd (show false = true from hs) Bool.false_ne_true
  | int i =>
    obtain ⟨t, rfl⟩ := rx
    cases y with
    | non => cases ry; exact PySem.EqNone.ne_int_none (fin_bl I q (by simp))
    | int j => obtain ⟨t', rfl⟩ := ry; exact ne_int (fin_bl I q (congrArg not dec_int))
    | str j => obtain ⟨t', rfl⟩ := ry; exact PySem.EqMixed.ne_int_str (fin_bl I q (by simp))
    | _ => exact absurd (show false = true from hs) Bool.false_ne_true
  | str i =>
    obtain ⟨t, rfl⟩ := rx
    cases y with
    | non => cases ry; exact PySem.EqNone.ne_str_none (fin_bl I q (by simp))
    | bl j => cases ry; exact PySem.EqMixed.ne_str_bool (fin_bl I q (by simp))
    | int j => obtain ⟨t', rfl⟩ := ry; exact PySem.EqMixed.ne_str_int (fin_bl I q (by simp))
    | str j => obtain ⟨t', rfl⟩ := ry; exact ne_str (fin_bl I q (congrArg not dec_str))
    | _ => exact absurd (show false = true from hs) Bool.false_ne_true
  | byt i =>
    obtain ⟨t, rfl⟩ := rx
    cases y with
    | byt j => obtain ⟨t', rfl⟩ := ry; exact PySem.W.ne_bytes (fin_bl I q (congrArg not dec_byt))
    | _ => exact absurd (show false = true from hs) Bool.false_ne_true
  | _ => cases y <;> exact absurd (show false = true from hs) Bool.false_ne_true

theorem op_lt : OpR X (compareOp .Lt) (rI0 fun i j => .bl (decide (i < j))) := opB0 fun _ _ _ _ _ _ _ q => lt_int q
theorem op_gt : OpR X (compareOp .Gt) (rI0 fun i j => .bl (decide (j < i))) := opB0 fun _ _ _ _ _ _ _ q => gt_int q
theorem op_ge : OpR X (compareOp .GtE) (rI0 fun i j => .bl (decide (j ≤ i))) := opB0 fun _ _ _ _ _ _ _ q => ge_int q
/-- the one string within the other -/
theorem op_in_str : OpR X (compareOp .In) (fun x y H Q => ∃ i j, x = .str i ∧ y = .str j ∧ Q (.bl (!(Builtin.Str.occurrences j i 0 j.length 1).isEmpty)) H) := by
  intro pins s σ H x y v u Q I rx ry h
  obtain ⟨i, j, rfl, rfl, q⟩ := h
  obtain ⟨t, rfl⟩ := rx
  obtain ⟨t', rfl⟩ := ry
  exact in_str (fin_bl I q rfl)

/-- two rules for one operation: by cases -/
theorem OpR.or {f : Value → Value → Sem Value} {r r' : R2} (h : OpR X f r) (h' : OpR X f r') : OpR X f (fun x y H Q => r x y H Q ∨ r' x y H Q) := by
  intro pins s σ H x y v u Q I rx ry q
  rcases q with q | q
  · exact h pins s σ H x y v u Q I rx ry q
  · exact h' pins s σ H x y v u Q I rx ry q

theorem nomark (b : Expr) {op : CmpOp} (h : op ≠ .In := by decide) (h2 : op ≠ .NotIn := by decide) : behindInMarks op b = false := by
  have e1 : (op == CmpOp.In) = false := by cases op <;> first | rfl | exact absurd rfl h
  have e2 : (op == CmpOp.NotIn) = false := by cases op <;> first | rfl | exact absurd rfl h2
  cases b <;> simp [behindInMarks, e1, e2]
/-- a comparison as a value; hm: nomark b, or (for in, not in) by with_unfolding_all rfl -/
theorem pe_cmpR {op : CmpOp} {r : R2} (ho : OpR X (compareOp op) r) (ha : PE X a ta) (hb : PE X b tb) (hm : behindInMarks op b = false) : PE X (.Compare a [op] [b] pos) (tOp r ta tb) := by
  intro pins s σ H Q I h
  exact wpAny_Compare1 (binT ha hb I h fun v u s2 x y H2 I2 rx ry q => ho pins s2 σ H2 x y v u Q I2 rx ry q) hm
/-- a reading of a value as a test -/
def tTest (t : TE) : TT := fun σ H Q => t σ H fun x H' => ∃ k, x = .bl k ∧ Q k H'
theorem pt_cmpR {op : CmpOp} {r : R2} (ho : OpR X (compareOp op) r) (ha : PE X a ta) (hb : PE X b tb) (hm : behindInMarks op b = false) : PT X (.Compare a [op] [b] pos) (tTest (tOp r ta tb)) := by
  intro pins s σ H Q I h
  refine wpAny_isTrue_Compare1 (thn (ha pins s σ H _ I h) fun v s1 ⟨x, H1, I1, r1, q1⟩ => thn (hb pins s1 σ H1 _ I1 q1) fun u s2 ⟨y, H2, I2, r2, q2⟩ =>
    thn (ho pins s2 σ H2 x y v u _ I2 r1 r2 q2) fun c s3 ⟨z, H3, I3, r3, k, e, q3⟩ => ?_) hm
  subst e
  cases r3
  exact wpAny_truthy_bool ⟨H3, I3, q3⟩
/-! ### truth -/
theorem line63 : (sizeLine : Nat) < 2 ^ 63 := by rw [sizeLine_eq]; decide
/-! ### strs and bytes -/
/-! ### scalar builtins, by CallR -/
theorem vals1 {x : V} {us : List Value} (r : Vals [x] us) : ∃ u, us = [u] ∧ RelV x u := by
  cases r with
  | cons r1 r2 => cases r2; exact ⟨_, rfl, r1⟩
theorem vals2 {x y : V} {us : List Value} (r : Vals [x, y] us) : ∃ u w', us = [u, w'] ∧ RelV x u ∧ RelV y w' := by
  cases r with
  | cons r1 r2 =>
    cases r2 with
    | cons r3 r4 => cases r4; exact ⟨_, _, rfl, r1, r3⟩
theorem call_int1 : CallR X (.type "int") (fun xs H Q => (∃ i, xs = [.int i] ∧ Q (.int i) H) ∨ ∃ k, xs = [.bl k] ∧ Q (.int (if k then 1 else 0)) H) := by
  intro pins s σ H xs us Q I r h
  rcases h with ⟨i, rfl, q⟩ | ⟨k, rfl, q⟩
  · obtain ⟨u, rfl, t, rfl⟩ := vals1 r
    exact call_int_int ⟨.int i, H, I, ⟨_, rfl⟩, q⟩
  · obtain ⟨u, rfl, r1⟩ := vals1 r
    cases r1
    exact call_int_bool ⟨.int (if k then 1 else 0), H, I.tok _, ⟨_, rfl⟩, q⟩
theorem call_str_int : CallR X (.type "str") (fun xs H Q => ∃ i, xs = [.int i] ∧ i.natAbs.log2 < 1920 ∧ Q (.str (toString i)) H) := by
  intro pins s σ H xs us Q I r h
  obtain ⟨i, rfl, hz, q⟩ := h
  obtain ⟨u, rfl, t, rfl⟩ := vals1 r
  exact PySem.P.str_of_int hz ⟨.str _, H, I.tok _, ⟨_, rfl⟩, q⟩
end
end L2

namespace L2
open PySem PySem.Spec PyProof.Rows

/-! ### an instance, its attributes a map -/
structure ObjM (h : Heap) (x dx C : Addr) (mA : Str → Option Value) : Prop where
  obj : h.get? x = some (PySem.W.instObj C dx)
  ns : h.Ns1 dx mA
  ne : dx ≠ x

theorem lookIn_ns {h : Heap} {dx : Addr} {mA : Str → Option Value} (n : h.Ns1 dx mA) : ∃ od, h.get? dx = some od ∧ ∀ name, PySem.W.lookIn name od = some (mA name) := by
  obtain ⟨o, es, ep, ho, hd, hk, _, hm⟩ := n
  refine ⟨o, ho, fun name => ?_⟩
  have e := hm name
  unfold nsFind findBy at e
  rw [← Array.find?_toList] at e
  unfold PySem.W.lookIn
  rw [hd]
  dsimp only
  split
  · rename_i y q
    rw [q] at e
    exact congrArg some e
  · rename_i q
    rw [q] at e
    have a : es.toList.any (·.refKey) = false := by
      rw [List.any_eq_false]
      intro y hy
      obtain ⟨z, t, hkey⟩ := hk y (Array.mem_toList_iff.mp hy)
      simp [DictEntry.refKey, hkey]
    have a' : ¬ es.toList.any (·.refKey) = true := by rw [a]; exact Bool.false_ne_true
    rw [if_neg a']
    exact congrArg some e

theorem ObjM.look {h : Heap} {x dx C : Addr} {mA : Str → Option Value} (I : ObjM h x dx C mA) : ∃ od, PySem.W.InstAt h x (PySem.W.instObj C dx) C (some od) ∧ ∀ name, PySem.W.lookIn name od = some (mA name) :=
  let ⟨od, ho, hl⟩ := lookIn_ns I.ns
  ⟨od, ⟨I.obj, rfl, rfl, ho⟩, hl⟩

section
variable {prog : Program} {w : World} {A : Around} {E : Value → Shared → Prop} {s : Shared} {K : PySem.W.Frag} {x dx C f : Addr} {mA : Str → Option Value} {name : Str} {v : Value}

end

/-! ### the attributes as a list of pairs -/
section
variable {P : Program} {w : World} {H H' : Hp} {h h' : Heap} {a C dx : Addr} {fs fs' : List (Str × V)}
end

/-! ### what of the text a class must have -/
structure Cls (K : PySem.W.Frag) (C : Addr) : Prop where
  pg : PySem.W.plainGet K C Str.empty = true
  hd : PySem.W.hasDictIn K C = true
  po : PySem.W.plainOver K C = true
  sa : PySem.W.findIn K (.ref C) "__setattr__" = some (some (.builtin "object.__setattr__"))
theorem Cls.get {K : PySem.W.Frag} {C : Addr} (c : Cls K C) (f : Str) : PySem.W.plainGet K C f = true := c.pg
/-- a constant of the class -/
structure Con (K : PySem.W.Frag) (C : Addr) (f : Str) (v : V) (u : Value) : Prop where
  at_ : PySem.W.findIn K (.ref C) f = some (some u)
  rel : RelV v u
  get : PySem.W.specialIn K u "__get__" = some none
  cp : PySem.W.copiedNames.contains f = false
/-- a method: a plain def of the class or of one above it -/
structure Meth (K : PySem.W.Frag) (C : Addr) (m : Str) (f : Addr) : Prop where
  at_ : PySem.W.findIn K (.ref C) m = some (some (.ref f))
  fn : PySem.W.isFn K (.ref f) = true
  kp : PySem.W.keepIn K (.ref f) = true

section
variable {X : Cx} {pins : List (Addr × Obj)} {σ : St} {H : Hp} {s : Shared} {a C dx : Addr} {fs : List (Str × V)} {f : Str} {v : V} {A : Around} {E : Value → Shared → Prop}

/-- a new instance, tracked, without attributes -/
theorem Inv.made (I : Inv X pins σ H s) : Inv X pins σ (upd (upd H s.heap.objs.size (.own (s.heap.objs.size + 1))) (s.heap.objs.size + 1) (.ins C s.heap.objs.size []))
    { s with heap := (s.heap.push PySem.W.emptyDict).push (PySem.W.instObj C s.heap.objs.size) } := by
  have e1 : (s.heap.push PySem.W.emptyDict).get? s.heap.objs.size = some PySem.W.emptyDict := Heap.get?_push_size s.heap rfl
  have e2 : ((s.heap.push PySem.W.emptyDict).push (PySem.W.instObj C s.heap.objs.size)).get? (s.heap.objs.size + 1) = some (PySem.W.instObj C s.heap.objs.size) := by
    have := Heap.get?_push_size (s.heap.push PySem.W.emptyDict) (o := PySem.W.instObj C s.heap.objs.size) rfl
    rwa [Heap.size_push] at this
  have e3 : (s.heap.push PySem.W.emptyDict).Ns s.heap.objs.size (fun _ => none) := ⟨PySem.W.emptyDict, #[], _, e1, rfl, (fun e he => absurd he (by simp)), fun _ => rfl⟩
  have I1 := I.laid (a := s.heap.objs.size) (o := .own (s.heap.objs.size + 1)) (h' := s.heap.push PySem.W.emptyDict) (t' := s.toks) (fun b u q => Heap.get?_push_of_some _ q) (Nat.le_refl _) ⟨_, e1⟩
  refine I1.laid (a := s.heap.objs.size + 1) (o := .ins C s.heap.objs.size []) (t' := s.toks) (fun b u q => Heap.get?_push_of_some _ q) (Nat.le_of_eq (Heap.size_push _ _)) ?_
  have ne : s.heap.objs.size ≠ s.heap.objs.size + 1 := Nat.ne_of_lt (Nat.lt_succ_self _)
  refine ⟨by rw [upd_ne ne, upd_same], Nat.zero_le _, ne, e2, fun _ => none, (Heap.Ns1.of_empty e3).at fun o q => Heap.get?_push_of_some _ q, fun _ => True.intro, fun y hy => absurd rfl hy⟩

end

/-! ### readings and rules -/
section
variable {X : Cx} {o e value : Expr} {f : Str} {pos pos' tpos : Pos} {ta tv : TE}
end

/-! ### isinstance -/
section
variable {X : Cx} {pins : List (Addr × Obj)} {σ : St} {H : Hp} {s : Shared} {A : Around} {E : Value → Shared → Prop} {Q : Value → Shared → Prop} {c : Value} {b : Bool}
/-- the type of a value, as the fragment's deciders take it; for an instance its class -/
inductive TyOf (K : PySem.W.Frag) (H : Hp) : V → Value → Prop where
  | non : TyOf K H .non (.type "NoneType")
  | bl (x : Bool) : TyOf K H (.bl x) (.type "bool")
  | int (i : Int) : TyOf K H (.int i) (.type "int")
  | str (x : Str) : TyOf K H (.str x) (.type "str")
  | flt (x : UInt64) : TyOf K H (.flt x) (.type "float")
  | lst {a : Addr} {xs : List V} (e : H a = some (.lst xs)) : TyOf K H (.ref a) (.type "list")
  | frz {a : Addr} {o : Obj} {xs : List V} (e : H a = some (.frz o (.lst xs))) : TyOf K H (.ref a) (.type "list")
  | tup {a : Addr} {xs : List V} (e : H a = some (.tup xs)) : TyOf K H (.ref a) (.type "tuple")
  | dK {a : Addr} {kvs : List (Key × V)} (e : H a = some (.dK kvs)) : TyOf K H (.ref a) (.type "dict")
  | dT {a : Addr} {kvs : List (List Key × V)} (e : H a = some (.dT kvs)) : TyOf K H (.ref a) (.type "dict")
  | ins {a C dx : Addr} {fs : List (Str × V)} (e : H a = some (.ins C dx fs)) (cl : Cls K C) (ha : PySem.W.findIn K (.ref C) "__class__" = some (some (.builtin "object.__class__")))
      (hn : PySem.W.specialIn K (.builtin "object.__class__") "__get__" = some (some (.builtin "getset_descriptor.__get__"))) (htk : PySem.W.takesIn K (.builtin "object.__class__") = some true)
      (hm : PySem.W.mroIn K C (.type "object") = some true) : TyOf K H (.ref a) (.ref C)
end
end L2

namespace L2
open PySem PySem.Spec PyProof.Rows

/-! ### room -/
structure Room (k : Nat) (A : Around) : Prop where
  hd : A.handled = none
  dp : A.depth + 3 * k + 5 < recursionLimit
  un : A.units + 16 * k + 200 < cLine
theorem Room.mono {j k : Nat} {A : Around} (r : Room k A) (h : j ≤ k) : Room j A := ⟨r.hd, by have := r.dp; omega, by have := r.un; omega⟩
theorem Room.deeper {k : Nat} {A : Around} (r : Room (k + 1) A) (env : Env) : Room k (A.deeper env) :=
  ⟨r.hd, by have := r.dp; show A.depth + 1 + 3 * k + 5 < _; omega, by have := r.un; show A.units + 3 + 16 * k + 200 < _; omega⟩
theorem Room.in1 {k : Nat} {A : Around} (r : Room (k + 1) A) : Room k A.in1 :=
  ⟨r.hd, by have := r.dp; show A.depth + 3 * k + 5 < _; omega, by have := r.un; show A.units + 1 + 16 * k + 200 < _; omega⟩
theorem Room.depth {k : Nat} {A : Around} (r : Room k A) : A.depth < recursionLimit := by have := r.dp; omega
theorem Room.units {k : Nat} {A : Around} (r : Room k A) : A.units + 64 < cLine := by have := r.un; omega
/-! ### argument lists and displays -/
def tNil : TA := fun _ H Q => Q [] H
def tCons (ta : TE) (tr : TA) : TA := fun σ H Q => ta σ H fun x H1 => tr σ H1 fun xs H2 => Q (x :: xs) H2
section
variable {X : Cx} {e : Expr} {es : List Expr} {te : TE} {t : TA} {pos : Pos}
theorem pa_nil : PA X [] tNil := fun _ _ _ _ H Q I h => Calls.spliced_nil ⟨[], H, I, .nil, h⟩
theorem pa_cons (ha : PE X e te) (hr : PA X es t) (hs : starEach (e :: es) X.env = (false, eval e X.env) :: starEach es X.env := by rfl) : PA X (e :: es) (tCons te t) := by
  intro pos pins s σ H Q I h
  rw [hs]
  show wpAny _ _ (spliced ((false, eval e X.env) :: backTo pos (starEach es X.env))) _ _ s
  refine Calls.spliced_cons (thn (ha pins s σ H _ I h) fun u s1 ⟨x, H1, I1, r1, q1⟩ => ?_)
  exact thn (hr pos pins s1 σ H1 _ I1 q1) fun us s2 ⟨xs, H2, I2, r2, q2⟩ => ⟨x :: xs, H2, I2, .cons r1 r2, q2⟩

/-- a tuple, a list of written items -/
def tTup (t : TA) : TE := fun σ H Q => t σ H fun xs H1 => xs.length ≤ sizeLine ∧ ∀ p, H1 p = none → Q (.ref p) (upd H1 p (.tup xs))
def tLst (t : TA) : TE := fun σ H Q => t σ H fun xs H1 => xs.length ≤ sizeLine ∧ ∀ p, H1 p = none → Q (.ref p) (upd H1 p (.lst xs))
theorem pe_tup {x1} (h : PA X es t) : PE X (.Tuple es x1 pos) (tTup t) := by
  intro pins s σ H Q I hq
  refine wpAny_Tuple_spliced (thn (h pos pins s σ H _ I hq) fun us s1 ⟨xs, H1, I1, r, z, q⟩ => ⟨by rw [← r.length]; exact z, ?_⟩)
  have hf : H1 s1.heap.objs.size = none := I1.hok.fresh (Nat.le_refl _)
  refine ⟨.ref s1.heap.objs.size, upd H1 s1.heap.objs.size (.tup xs), I1.laid (t' := s1.toks) (fun b u e => Heap.get?_push_of_some _ e) (Nat.le_refl _) ?_, rfl, q _ hf⟩
  exact ⟨z, us, r, ⟨_, Heap.get?_push_size _ rfl, rfl, _, rfl⟩⟩
theorem pe_lst (h : PA X es t) : PE X (.List es pos) (tLst t) := by
  intro pins s σ H Q I hq
  refine wpAny_List_spliced (thn (h pos pins s σ H _ I hq) fun us s1 ⟨xs, H1, I1, r, z, q⟩ => ⟨by rw [← r.length]; exact z, ?_⟩)
  have hf : H1 s1.heap.objs.size = none := I1.hok.fresh (Nat.le_refl _)
  refine ⟨.ref s1.heap.objs.size, upd H1 s1.heap.objs.size (.lst xs), I1.laid (t' := s1.toks) (fun b u e => Heap.get?_push_of_some _ e) (Nat.le_refl _) ?_, rfl, q _ hf⟩
  exact ⟨z, us, 0, r, Heap.get?_push_size _ rfl⟩
end

/-! ### what a def promises -/
/-- a def's promise: the bound arguments in the parameters' order, the heap, the wanted end, the wanted exception -/
abbrev Sp := List V → Hp → VK → XK → Prop
/-- how an exception lies behind a call (file 08 gives it): the callers' frames, abstract heap and state ahead of the call, the wish, the exception, the state -/
abbrev CXT := List Env → Hp → Shared → XK → Value → Shared → Prop

/-- the state at a call -/
structure Env0 (P : Program) (w : World) (K : PySem.W.Frag) (mg : Str → Option Value) (base : Heap) (A : Around) (outer : List Env) (s : Shared) (H : Hp) : Prop where
  frames : A.frames = some outer
  mod : Mod K mg base
  bs : ∀ b o, base.get? b = some o → s.heap.get? b = some o ∧ H b = none
  bsz : base.objs.size ≤ s.heap.objs.size
  funs : s.heap.FunFrames base outer
  frf : ∀ b ∈ frs outer, H b = none
  hok : HOk P w H s.heap
  bare : AllBare s.gens
/-- a call's end -/
def CE (outer : List Env) (P : Program) (w : World) (H : Hp) (s : Shared) (Q : VK) (u : Value) (s' : Shared) : Prop :=
  ∃ v H', s'.os = s.os ∧ AllBare s'.gens ∧ Un (frs outer) [] H H' s.heap s'.heap ∧ HOk P w H' s'.heap ∧ RelV v u ∧ Q v H'
def CR (CX : CXT) (outer : List Env) (P : Program) (w : World) (H : Hp) (s : Shared) (Q : VK) (E : XK) (r : Result) (s' : Shared) : Prop :=
  match r with
  | .ok (.ret u) => CE outer P w H s Q u s'
  | .ok _ => False
  | .error e => CX outer H s E e s'
structure FnOk (P : Program) (w : World) (K : PySem.W.Frag) (mg : Str → Option Value) (base : Heap) (CX : CXT) (k : Nat) (f : Addr) (fd : FuncData) (ps : List Str) (sp : Sp) : Prop where
  len : ∀ vs H Q E, sp vs H Q E → vs.length = ps.length
  run : ∀ (A : Around) (outer : List Env) (s : Shared) (H : Hp) (args : Args) (us : List Value) (vs : List V) (Q : VK) (E : XK), Room k A → Env0 P w K mg base A outer s H → BindsTo s fd args (ps.zip us) → Vals vs us → sp vs H Q E →
    codeAny (model P w) A (.call (.ref f) args) (CR CX outer P w H s Q E) s
theorem FnOk.mono {P : Program} {w : World} {K : PySem.W.Frag} {mg : Str → Option Value} {base : Heap} {CX : CXT} {j k : Nat} {f : Addr} {fd : FuncData} {ps : List Str} {sp : Sp} (F : FnOk P w K mg base CX j f fd ps sp) (h : j ≤ k) :
    FnOk P w K mg base CX k f fd ps sp := ⟨F.len, fun A outer s H args us vs Q E hr => F.run A outer s H args us vs Q E (hr.mono h)⟩
/-- a weaker promise -/
theorem FnOk.imp {P : Program} {w : World} {K : PySem.W.Frag} {mg : Str → Option Value} {base : Heap} {CX : CXT} {k : Nat} {f : Addr} {fd : FuncData} {ps : List Str} {sp sp' : Sp} (F : FnOk P w K mg base CX k f fd ps sp)
    (h : ∀ vs H Q E, sp' vs H Q E → sp vs H Q E) : FnOk P w K mg base CX k f fd ps sp' :=
  ⟨fun vs H Q E q => F.len vs H Q E (h _ _ _ _ q), fun A outer s H args us vs Q E hr he hb hv hs => F.run A outer s H args us vs Q E hr he hb hv (h _ _ _ _ hs)⟩

theorem Env0.in1 {P : Program} {w : World} {K : PySem.W.Frag} {mg : Str → Option Value} {base : Heap} {A : Around} {outer : List Env} {s : Shared} {H : Hp} (e : Env0 P w K mg base A outer s H) :
    Env0 P w K mg base A.in1 outer s H := ⟨e.frames, e.mod, e.bs, e.bsz, e.funs, e.frf, e.hok, e.bare⟩

section
variable {X : Cx} {pins : List (Addr × Obj)} {σ : St} {H : Hp} {s s' : Shared}
/-- from a body: what a callee wants -/
theorem Inv.env0 (I : Inv X pins σ H s) : Env0 X.prog X.w X.K X.mg X.base X.A X.stack s H :=
  ⟨I.ok.frames, I.ok.mod, I.bs, Nat.le_trans I.ok.bsz I.sz, I.stack, I.stkFree, I.hok, I.bare⟩
/-- behind a call -/
theorem Inv.after {Q : VK} {u : Value} (I : Inv X pins σ H s) (h : CE X.stack X.prog X.w H s Q u s') : EP X pins σ Q u s' := by
  obtain ⟨v, H', os, bare, un, hok, r, q⟩ := h
  obtain ⟨hh, g, d, t, os'⟩ := s'
  obtain rfl : os' = s.os := os
  exact ⟨v, H', I.call (h' := hh) (g' := g) (d' := d) (t' := t) (ch := []) un hok bare (fun b z => absurd z (by simp)), r, q⟩
end

/-! ### calls -/
/-- f(..): the written arguments, then the defaults dvs; E: what is wanted of an exception -/
def tCall (sp : Sp) (dvs : List V) (E : XK) (t : TA) : TE := fun σ H Q => t σ H fun vs H1 => sp (vs ++ dvs) H1 Q E
/-- how the parameters are bound: us the positional arguments, kw the keywords' values by name, ds the defaults that fill up -/
def Binds (K : PySem.W.Frag) (fd : FuncData) (ps : List Str) (ds : List Value) : Prop :=
  ∀ (s : Shared) (us : List Value), K.In s.heap → (us ++ ds).length = ps.length → BindsTo s fd ⟨us, []⟩ (ps.zip (us ++ ds))
/-- every parameter is given -/
theorem Binds.all {K : PySem.W.Frag} {fd : FuncData} {ps : List Str} (h : ∀ us : List Value, us.length = ps.length → bindArgs fd ⟨us, []⟩ = pure (ps.zip us)) : Binds K fd ps [] := fun s us _ hl => by
  rw [List.append_nil] at hl ⊢
  exact .of_eq (h us hl)

/-- an exception of a callee reaches what this body wants of exceptions -/
def Passes (CX : CXT) (X : Cx) (E : XK) : Prop := ∀ (pins : List (Addr × Obj)) (σ : St) (H : Hp) (s : Shared) (e : Value) (s' : Shared), Inv X pins σ H s → CX X.stack H s E e s' → X.xe e s'

section
variable {X : Cx} {CX : CXT} {k : Nat} {f C : Addr} {fd : FuncData} {ps : List Str} {sp : Sp} {dvs : List V} {ds : List Value} {E : XK} {x m : Str} {p pos apos : Pos} {e o : Expr} {es : List Expr} {ta : TE} {t : TA}

/-- the callee runs -/
theorem run_fn {pins : List (Addr × Obj)} {σ : St} {H : Hp} {s : Shared} {Q : VK} {us : List Value} {vs : List V} (F : FnOk X.prog X.w X.K X.mg X.base CX k f fd ps sp) (hr : Room k X.A) (hb : Binds X.K fd ps ds) (hd : Vals dvs ds) (hx : Passes CX X E)
    (I : Inv X pins σ H s) (r : Vals vs us) (h : sp (vs ++ dvs) H Q E) : wpAny (model X.prog X.w) X.A (call (.ref f) us) (EP X pins σ Q) X.xe s := by
  have r2 : Vals (vs ++ dvs) (us ++ ds) := r.append hd
  have hl : (us ++ ds).length = ps.length := by rw [← r2.length]; exact F.len _ _ _ _ h
  refine wpAny_call (codeAny_mono (F.run X.A X.stack s H ⟨us, []⟩ (us ++ ds) (vs ++ dvs) Q E hr I.env0 (hb s us I.kIn hl) r2 h) fun r s' hq => ?_)
  cases r with
  | error e => exact hx pins σ H s e s' I hq
  | ok fl =>
    cases fl with
    | ret u => exact I.after hq
    | next => exact False.elim hq
    | brk => exact False.elim hq
    | cont => exact False.elim hq

theorem pe_call (F : FnOk X.prog X.w X.K X.mg X.base CX k f fd ps sp) (hr : Room k X.A) (hg : Gl X x) (hm : X.mg x = some (.ref f)) (hk : PySem.W.keepIn X.K (.ref f) = true) (hb : Binds X.K fd ps ds) (hd : Vals dvs ds) (hx : Passes CX X E)
    (ha : PA X (e :: es) t) (hdb : (x == ("__debug__" : Str)) = false := by decide) (he : starEach (e :: es) X.env = (false, eval e X.env) :: starEach es X.env := by rfl) (hpl : (backTo pos (starEach es X.env)).any (·.1) = false := by rfl) :
    PE X (.Call (.Name x p) (e :: es) [] pos) (tCall sp dvs E t) := by
  intro pins s σ H Q I h
  refine wpAny_Call_Name_kw (ld_glob I hg hm ?_ hdb)
  refine PySem.W.callWith_K (h₀ := X.base) I.ok.mod.kin hk (thn (ha pos pins s σ H _ I h) fun us s1 ⟨vs, H1, I1, r, q⟩ => ⟨I1.kIn, ?_⟩) he hpl
  exact run_fn F hr hb hd hx I1 r q
/-- what a class must have to be made -/
structure Mk (K : PySem.W.Frag) (C f : Addr) : Prop where
  makes : PySem.W.makesIn K C = true
  init : PySem.W.findIn K (.ref C) "__init__" = some (some (.ref f))
  fn : PySem.W.isFn K (.ref f) = true
  kp : PySem.W.keepIn K (.ref C) = true

end

/-! ### keywords -/
section
variable {X : Cx} {CX : CXT} {k : Nat} {f C : Addr} {fd : FuncData} {ps ks : List Str} {sp : Sp} {E : XK} {x m : Str} {p pos apos kpos : Pos} {e o : Expr} {es : List Expr} {kws : List Keyword} {te ta : TE} {t tk : TA} {nm : Option Str}
/-- how a call with keywords binds: g puts the positional values us and the keywords' values ws (names ks) in the parameters' order, defaults among them -/
structure KBinds (K : PySem.W.Frag) (fd : FuncData) (ps ks : List Str) (g : List Value → List Value → List Value) (gV : List V → List V → List V) : Prop where
  to : ∀ (s : Shared) (us ws : List Value), K.In s.heap → (g us ws).length = ps.length → BindsTo s fd ⟨us, ks.zip ws⟩ (ps.zip (g us ws))
  rel : ∀ {vs : List V} {us : List Value} {zs : List V} {ws : List Value}, Vals vs us → Vals zs ws → Vals (gV vs zs) (g us ws)
variable {g : List Value → List Value → List Value} {gV : List V → List V → List V}
end

/-! ### a def's body keeps its promise -/
/-- names: the parameters first -/
structure FnScope (N P : List Str) (sc : Scope) : Prop where
  kind : sc.kind = .function
  co : sc.isCoroutine = false
  gen : sc.isGenerator = false
  nd : N.Nodup
  pre : N.take P.length = P
  par : ∀ x ∈ P, sc.names.lookup x = some .local ∨ sc.names.lookup x = some .cell
  nofree : ∀ y ∈ sc.names, y.2 ≠ .free

theorem bindL_out {kindOf : Str → Option NameKind} {x : Str} : ∀ {binds : List (Str × Value)} {m : Str → Option Value}, (∀ v, (x, v) ∉ binds) → bindL kindOf binds m x = m x
  | [], _, _ => rfl
  | (n, v) :: r, m, h => by
    unfold bindL
    rw [bindL_out fun w hw => h w (List.mem_cons_of_mem _ hw)]
    split
    · have : x ≠ n := by rintro rfl; exact h v List.mem_cons_self
      simp [this]
    · rfl
theorem bindC_out {kindOf : Str → Option NameKind} {x : Str} : ∀ {binds : List (Str × Value)} {m : Str → Option Value}, (∀ v, (x, v) ∉ binds) → bindC kindOf binds m x = m x
  | [], _, _ => rfl
  | (n, v) :: r, m, h => by
    unfold bindC
    rw [bindC_out fun w hw => h w (List.mem_cons_of_mem _ hw)]
    split
    · rfl
    · have : x ≠ n := by rintro rfl; exact h v List.mem_cons_self
      simp [this]
theorem bindL_get {kindOf : Str → Option NameKind} {x : Str} {v : Value} : ∀ {P : List Str} {vs : List Value} {i : Nat} {m : Str → Option Value}, P.Nodup → P[i]? = some x → vs[i]? = some v → kindOf x = some .local →
    bindL kindOf (P.zip vs) m x = some v
  | [], _, _, _, _, h, _, _ => by simp at h
  | _ :: _, [], _, _, _, _, h, _ => by simp at h
  | p :: P, w :: vs, 0, m, nd, h1, h2, hk => by
    simp at h1 h2; subst h1; subst h2
    show bindL kindOf ((p, w) :: P.zip vs) m p = _
    unfold bindL
    rw [bindL_out fun v hv => (List.nodup_cons.mp nd).1 (List.of_mem_zip hv).1, if_pos hk]
    simp
  | p :: P, w :: vs, i + 1, m, nd, h1, h2, hk => by
    show bindL kindOf ((p, w) :: P.zip vs) m x = _
    unfold bindL
    exact bindL_get (i := i) (List.nodup_cons.mp nd).2 (by simpa using h1) (by simpa using h2) hk
theorem bindC_get {kindOf : Str → Option NameKind} {x : Str} {v : Value} : ∀ {P : List Str} {vs : List Value} {i : Nat} {m : Str → Option Value}, P.Nodup → P[i]? = some x → vs[i]? = some v → kindOf x ≠ some .local →
    bindC kindOf (P.zip vs) m x = some v
  | [], _, _, _, _, h, _, _ => by simp at h
  | _ :: _, [], _, _, _, _, h, _ => by simp at h
  | p :: P, w :: vs, 0, m, nd, h1, h2, hk => by
    simp at h1 h2; subst h1; subst h2
    show bindC kindOf ((p, w) :: P.zip vs) m p = _
    unfold bindC
    rw [bindC_out fun v hv => (List.nodup_cons.mp nd).1 (List.of_mem_zip hv).1, if_neg hk]
    simp
  | p :: P, w :: vs, i + 1, m, nd, h1, h2, hk => by
    show bindC kindOf ((p, w) :: P.zip vs) m x = _
    unfold bindC
    exact bindC_get (i := i) (List.nodup_cons.mp nd).2 (by simpa using h1) (by simpa using h2) hk

/-- the names' values at the entry -/
def start (N : List Str) (vs : List V) : St := vs.map some ++ List.replicate (N.length - vs.length) none

/-- the context of a def's body, at its entry; an exception leaves the frame, then lies as CX says -/
def cxOf (CX : CXT) (P : Program) (w : World) (K : PySem.W.Frag) (mg : Str → Option Value) (base : Heap) (N : List Str) (qual : Str) (scope : Scope) (f : Addr) (cd : Value) (A : Around) (outer : List Env) (s : Shared) (H : Hp) (E : XK) : Cx where
  prog := P
  w := w
  K := K
  mg := mg
  base := base
  A := A.deeper (envOfC qual scope s.heap.objs.size f cd)
  N := N
  s₀ := s
  H₀ := H
  env := envOfC qual scope s.heap.objs.size f cd
  outer := outer
  stack := envOfC qual scope s.heap.objs.size f cd :: outer
  ex := []
  calm := true
  fn := fun _ => true
  pn := []
  xe := fun e s' => wpAny (model P w) (A.deeper (envOfC qual scope s.heap.objs.size f cd)) (leaving (envOfC qual scope s.heap.objs.size f cd) e) (fun _ s'' => CX outer H s E e s'') (fun e' s'' => CX outer H s E e' s'') s'

theorem cell_has {sc : Scope} {n : Nat} {x : Str} (h : sc.names.lookup x = some .cell) : ∃ c, (cellsFrom n sc.names []).lookup x = some c := by
  have q := PySem.W.cellsFrom_some sc.names n [] (.inl h)
  exact Option.isSome_iff_exists.mp q

theorem inv_start {CX : CXT} {P : Program} {w : World} {K : PySem.W.Frag} {mg : Str → Option Value} {base : Heap} {N ps : List Str} {qual : Str} {scope : Scope} {f : Addr} {cd : Value} {A : Around} {outer : List Env} {s s1 : Shared} {H : Hp} {E : XK} {us : List Value} {vs : List V}
    (S : FnScope N ps scope) (hd : A.handled = none) (e0 : Env0 P w K mg base A outer s H) (hl : vs.length = ps.length) (r : Vals vs us)
    (x : InCallC s s.heap.objs.size (bindL (envOfC qual scope s.heap.objs.size f cd).kindOf (ps.zip us) fun _ => none) (cellsFrom (s.heap.objs.size + 1) scope.names []) (bindC (envOfC qual scope s.heap.objs.size f cd).kindOf (ps.zip us) fun _ => none) s1) :
    Inv (cxOf CX P w K mg base N qual scope f cd A outer s H E) [] (start N vs) H s1 := by
  have hpl : ps.length ≤ N.length := by have := congrArg List.length S.pre; rw [List.length_take] at this; omega
  obtain ⟨h1, tk, rfl, hk⟩ := x.done
  have noA : ∀ b : Addr, b ∉ (cxOf CX P w K mg base N qual scope f cd A outer s H E).ex := fun b z => absurd (show b ∈ ([] : List Addr) from z) (by simp)
  refine ⟨⟨e0.mod, S.kind, rfl, rfl, Nat.le_refl _, fun y z c h1 h2 => ?_, fun y hy => ?_, fun y c _ h => ?_, fun _ => hd, Around.frames_deeper e0.frames, .inr ⟨rfl, rfl⟩, fun b z => absurd z (noA b), e0.bs, e0.bsz, fun b _ _ => noA b, fun b z => absurd z (noA b), e0.funs, e0.frf⟩,
    rfl, e0.bare, Un.kept hk, ⟨_, x.toInCall.ns, fun i y v h1 h2 h3 => ?_⟩, fun y c h => ⟨_, x.cell y c h⟩, e0.hok.fresh (Nat.le_refl _), fun y c h => ?_, fun p hp => absurd (show p ∈ ([] : List (Addr × Obj)) from hp) (by simp), e0.hok.kept hk, ?_⟩
  · exact name_of_addr x.apart (PySem.mem_of_lookup h1) (PySem.mem_of_lookup h2)
  · have hy : scope.names.lookup y = some .cell ∨ scope.names.lookup y = some .free := hy
    rcases hy with hy | hy
    · exact cell_has hy
    · exact absurd rfl (S.nofree _ (PySem.mem_of_lookup hy))
  · exact Nat.le_of_lt (x.above y c (PySem.mem_of_lookup h))
  · have hi : i < vs.length := by
      unfold start at h2
      by_cases hi : i < vs.length
      · exact hi
      · rw [List.getElem?_append_right (by simpa using hi)] at h2
        rw [List.getElem?_replicate] at h2
        split at h2 <;> cases h2
    have ha : vs[i]? = some v := by
      unfold start at h2
      rw [List.getElem?_append_left (by simpa using hi), List.getElem?_map] at h2
      cases e : vs[i]? with
      | none => rw [e] at h2; cases h2
      | some a => rw [e] at h2; cases h2; rfl
    obtain ⟨u, hu, rv⟩ := r.get ha
    have hp : ps[i]? = some y := by
      rw [← S.pre, List.getElem?_take_of_lt (by omega)]; exact h1
    have ndP : ps.Nodup := by rw [← S.pre]; exact S.nd.sublist (List.take_sublist _ _)
    refine ⟨u, rv, ?_⟩
    rcases S.par y (List.mem_of_getElem? hp) with k | k
    · exact .inl ⟨k, bindL_get ndP hp hu k⟩
    · obtain ⟨c, e⟩ := cell_has (n := s.heap.objs.size + 1) k
      refine .inr ⟨.inl k, c, e, ?_⟩
      have q := x.cell y c e
      rw [bindC_get ndP hp hu (by show scope.names.lookup y ≠ _; rw [k]; decide)] at q
      exact q
  · exact e0.hok.fresh (Nat.le_of_lt (x.above y c (PySem.mem_of_lookup h)))
  · unfold start
    show _ = N.length
    rw [List.length_append, List.length_map, List.length_replicate]
    omega

/-- THE RULE: a def (or a method) of the text, by its body. The body's reading t is chosen for each entry; it is run at the parameters' values -/
theorem fn_of {CX : CXT} {P : Program} {w : World} {K : PySem.W.Frag} {mg : Str → Option Value} {base : Heap} {k : Nat} {f : Addr} {name qual : Str} {params : Arguments} {body : List Stmt} {scope : Scope} {dV kV doc pm cdv ct oc : Value} {an od : Option Addr}
    {osl : Array (Option Value)} {N ps : List Str} {sp : Sp} (lk : K.lookup f = some ⟨oc, od, .func (PySem.W.fnOf name qual params body scope dV kV doc pm an cdv ct), osl⟩) (hcd : PySem.W.codeIn K cdv qual = true) (S : FnScope N ps scope)
    (len : ∀ vs H Q E, sp vs H Q E → vs.length = ps.length)
    (hbody : ∀ (A : Around) (outer : List Env) (s : Shared) (H : Hp) (vs : List V) (Q : VK) (E : XK), Room k (A.deeper (envOfC qual scope s.heap.objs.size f cdv)) → sp vs H Q E →
      ∃ t, PSs (cxOf CX P w K mg base N qual scope f cdv A outer s H E) body t ∧ t { nx := fun _ H' => Q .non H', rt := Q } (start N vs) H) :
    FnOk P w K mg base CX (k + 1) f (PySem.W.fnOf name qual params body scope dV kV doc pm an cdv ct) ps sp := by
  refine ⟨len, fun A outer s H args us vs Q E hr e0 hb r hsp => ?_⟩
  have hl := len _ _ _ _ hsp
  have KX : K.In s.heap := e0.mod.kin.keeps fun b o e => (e0.bs b o e).1
  have lim : s.heap.NoLimit := e0.mod.nolimit.keeps fun b o e => (e0.bs b o e).1
  have hkind : ∀ y ∈ ps.zip us, scope.names.lookup y.1 = some .local ∨ (scope.names.lookup y.1 = some .cell ∧ ((cellsFrom (s.heap.objs.size + 1) scope.names []).lookup y.1).isSome = true) := fun ⟨n, v⟩ hy => by
    rcases S.par n (List.of_mem_zip hy).1 with q | q
    · exact .inl q
    · exact .inr ⟨q, PySem.W.cellsFrom_some _ _ _ (.inl q)⟩
  refine codeAny_call_function hr.depth (KX _ _ lk) rfl S.co S.gen rfl (PySem.W.codeRec_of KX hcd) (hb _ _ _ _ ?_)
  refine wpAny_newFunctionEnv_cells S.kind hkind fun env he s1 x => ?_
  subst he
  refine ⟨lim.keeps x.toInCall.keep, codeAny_func ?_⟩
  obtain ⟨t, ht, hq⟩ := hbody A outer s H vs Q E (hr.deeper _) hsp
  have I : Inv (cxOf CX P w K mg base N qual scope f cdv A outer s H E) [] (start N vs) H s1 := inv_start S hr.hd e0 hl r x
  refine wpAny_mono (ht [] s1 (start N vs) H _ I hq) (fun fl s' hs => ?_) fun e s' hs => hs
  have fin : ∀ {σ' : St} {H' : Hp} {v : V} {u : Value}, Inv (cxOf CX P w K mg base N qual scope f cdv A outer s H E) [] σ' H' s' → RelV v u → Q v H' → CE outer P w H s Q u s' :=
    fun {σ' H' v u} J rv q => ⟨v, H', J.os, J.bare, J.base, J.hok, rv, q⟩
  cases fl with
  | ret u =>
    obtain ⟨v, σ', H', J, rv, q⟩ := hs
    exact fin J rv q
  | next =>
    obtain ⟨σ', H', J, q⟩ := hs
    exact fin (v := V.non) (u := Value.none) J rfl q
  | brk =>
    obtain ⟨_, _, _, q⟩ := hs
    exact False.elim q
  | cont =>
    obtain ⟨_, _, _, q⟩ := hs
    exact False.elim q
end L2

namespace L2
open PySem PySem.Spec PyProof.Rows
section
variable {X : Cx} {x : Str} {p pos : Pos} {e : Expr} {es : List Expr} {t : TA} {id T : String} {r : List V → Hp → VK → Prop}

def tCB (r : List V → Hp → VK → Prop) (t : TA) : TE := fun σ H Q => t σ H fun vs H1 => r vs H1 Q
/-- f(e, ..), f a built-in function -/
theorem pe_callB (hc : CallR X (.builtin id) r) (hg : Gl X x) (hm : X.mg x = none) (hv : bootBuiltins x = some (.builtin id)) (ha : PA X (e :: es) t) (hn : x ≠ "__name__" := by decide) (hdb : (x == ("__debug__" : Str)) = false := by decide)
    (he : starEach (e :: es) X.env = (false, eval e X.env) :: starEach es X.env := by rfl) (hpl : (backTo pos (starEach es X.env)).any (·.1) = false := by rfl) : PE X (.Call (.Name x p) (e :: es) [] pos) (tCB r t) := by
  intro pins s σ H Q I h
  refine wpAny_Call_Name_kw (ld_blt I hg hm hv ?_ hn hdb)
  exact PyProof.Rows.callWith_builtin1 (thn (ha pos pins s σ H _ I h) fun us s1 ⟨vs, H1, I1, r1, q1⟩ => hc pins s1 σ H1 vs us Q I1 r1 q1) he hpl
/-- T(e, ..), T a built-in type -/
theorem pe_callTy (hc : CallR X (.type T) r) (hg : Gl X x) (hm : X.mg x = none) (hv : bootBuiltins x = some (.type T)) (ha : PA X (e :: es) t) (hn : x ≠ "__name__" := by decide) (hdb : (x == ("__debug__" : Str)) = false := by decide)
    (he : starEach (e :: es) X.env = (false, eval e X.env) :: starEach es X.env := by rfl) (hpl : (backTo pos (starEach es X.env)).any (·.1) = false := by rfl) : PE X (.Call (.Name x p) (e :: es) [] pos) (tCB r t) := by
  intro pins s σ H Q I h
  refine wpAny_Call_Name_kw (ld_blt I hg hm hv ?_ hn hdb)
  exact PyProof.Rows.callWith_type1 (thn (ha pos pins s σ H _ I h) fun us s1 ⟨vs, H1, I1, r1, q1⟩ => hc pins s1 σ H1 vs us Q I1 r1 q1) he hpl
end
end L2

namespace HT
open PySem PyProof.Rows

section
open PySem.SeqAt
open PySem.AutoSeq1 (wpAny_loadPart')
open PySem.MeetsSeq PySem.MeetsSeq2 PySem.MeetsSeq3

end

section
variable {prog : Program} {w : World} {A : Around} {E : Value → Shared → Prop} {s : Shared}

/-! ### t[a:b], not the whole -/
/-- a slice's bound as a place among n (d where it is left out) -/
def sIx (n d : Nat) : Option Int → Nat
  | none => d
  | some v => if v < 0 then (v + (n : Int)).toNat else min v.toNat n
end
end HT

namespace L2
open PySem PySem.Spec PyProof.Rows

/-! ### the parts of a slice -/
abbrev TO := St → Hp → (Option Int → Hp → Prop) → Prop
/-- a slice's part (left out, or an int) -/
def PO (X : Cx) (e : Option Expr) (t : TO) : Prop :=
  ∀ (pins : List (Addr × Obj)) (s : Shared) (σ : St) (H : Hp) (Q : Option Int → Hp → Prop), Inv X pins σ H s → t σ H Q →
    wpAny (model X.prog X.w) X.A (evalPart e X.env) (fun u s' => ∃ o H', Inv X pins σ H' s' ∧ IsPart u o ∧ Q o H') X.xe s
def tNoPart : TO := fun _ H Q => Q none H
def tPart (t : TE) : TO := fun σ H Q => t σ H fun x H1 => ∃ i, x = .int i ∧ Q (some i) H1

theorem intsAre_of {ns : List Int} : ∀ {us : List Value}, Vals (ns.map V.int) us → IntsAre us ns := by
  induction ns with
  | nil => intro us r; rw [List.map_nil] at r; cases r; exact .nil
  | cons n ns ih =>
    intro us r
    rw [List.map_cons] at r
    cases r with
    | cons r1 r2 =>
      obtain ⟨t, e⟩ := r1
      subst e
      exact .cons n t (ih r2)

section
variable {X : Cx} {e : Expr} {te : TE} {lo hi : Option Expr} {tl th : TO} {pos p2 : Pos}

theorem po_none : PO X none tNoPart := by
  intro pins s σ H Q I h
  rw [evalPart_none]
  exact wpAny_pure ⟨none, H, I, .none, h⟩
theorem po_some (h : PE X e te) : PO X (some e) (tPart te) := by
  intro pins s σ H Q I hw
  rw [evalPart_some]
  refine thn (h pins s σ H _ I hw) fun u s1 ⟨x, H1, I1, r1, q1⟩ => ?_
  obtain ⟨i, rfl, q⟩ := q1
  obtain ⟨t, rfl⟩ := r1
  exact ⟨some i, H1, I1, .int i t, q⟩

/-- what a slice of a value is, by values: the slice object stands at sl -/
def SlR (X : Cx) (r : V → Option Int → Option Int → Hp → VK → Prop) : Prop :=
  ∀ (pins : List (Addr × Obj)) (s : Shared) (σ : St) (H : Hp) (x : V) (v vl vu : Value) (lo hi : Option Int) (sl : Addr) (Q : VK), Inv X pins σ H s → RelV x v → s.heap.IsSliceOf sl vl vu .none → IsPart vl lo → IsPart vu hi → r x lo hi H Q →
    ∃ T id, typeLookup (.type T) "__getitem__" = pure (some (.builtin id)) ∧ s.TypeIs v T ∧ wpAny (model X.prog X.w) X.A (getItem v (.ref sl)) (EP X pins σ Q) X.xe s
theorem SlR.or {r r' : V → Option Int → Option Int → Hp → VK → Prop} (h : SlR X r) (h' : SlR X r') : SlR X (fun x lo hi H Q => r x lo hi H Q ∨ r' x lo hi H Q) := by
  intro pins s σ H x v vl vu lo hi sl Q I rx hs pl pu q
  rcases q with q | q
  · exact h pins s σ H x v vl vu lo hi sl Q I rx hs pl pu q
  · exact h' pins s σ H x v vl vu lo hi sl Q I rx hs pl pu q
def tSl (r : V → Option Int → Option Int → Hp → VK → Prop) (te : TE) (tl th : TO) : TE := fun σ H Q => te σ H fun x H1 => tl σ H1 fun l H2 => th σ H2 fun u H3 => r x l u H3 Q
/-- a[lo:hi], any a -/
theorem pe_slice {r : V → Option Int → Option Int → Hp → VK → Prop} (hr : SlR X r) (he : PE X e te) (hl : PO X lo tl) (hu : PO X hi th) : PE X (.Subscript e (.Slice lo hi none p2) pos) (tSl r te tl th) := by
  intro pins s σ H Q I h
  refine Subscript_ (thn (he pins s σ H _ I h) fun v s1 ⟨x, H1, I1, r1, q1⟩ => ?_)
  refine wpAny_Slice (thn (hl pins s1 σ H1 _ I1 q1) fun vl s2 ⟨l, H2, I2, pl, q2⟩ => thn (hu pins s2 σ H2 _ I2 q2) fun vu s3 ⟨u, H3, I3, pu, q3⟩ => ?_)
  rw [evalPart_none]
  refine wpAny_pure ?_
  have I4 : Inv X pins σ H3 { s3 with heap := s3.heap.push { cls := .type "slice", data := .fields #[vl, vu, .none] } } := I3.kept (t' := s3.toks) fun b ob q => Heap.get?_push_of_some _ q
  obtain ⟨T, id, hT, ht, hg⟩ := hr pins { s3 with heap := s3.heap.push { cls := .type "slice", data := .fields #[vl, vu, .none] } } σ H3 x v vl vu l u s3.heap.objs.size Q I4 r1 (Heap.IsSliceOf.new ..) pl pu q3
  show wpAny (model X.prog X.w) X.A (subscriptTail e (.Slice lo hi none p2) v (.ref s3.heap.objs.size)) (EP X pins σ Q) X.xe { s3 with heap := s3.heap.push { cls := .type "slice", data := .fields #[vl, vu, .none] } }
  exact tail_any (ops := [.ref s3.heap.objs.size, v]) ht hT hg (by with_unfolding_all rfl)

/-- the items of xs[lo:hi] -/
def cutV (xs : List V) (lo hi : Option Int) : List V := (xs.drop (HT.sIx xs.length 0 lo)).take (HT.sIx xs.length xs.length hi - HT.sIx xs.length 0 lo)
theorem cutV_length (xs : List V) (lo hi : Option Int) : (cutV xs lo hi).length ≤ xs.length := by
  unfold cutV
  rw [List.length_take, List.length_drop]
  omega
/-! ### t < u, t + u -/
end
end L2

namespace L2
open PySem PySem.Spec PyProof.Rows

/-! ### places -/
/-- the place that an index of any sign means -/
def ixN (n : Nat) (i : Int) : Option Nat := if 0 ≤ i then (if i < n then some i.toNat else none) else if -(n : Int) ≤ i then some (i + n).toNat else none
def atI {α : Type} (xs : List α) (i : Int) : Option α := (ixN xs.length i).bind fun j => xs[j]?
theorem ixN_seq {n : Nat} {i : Int} {j : Nat} (h : ixN n i = some j) : seqIndex? i n = some j ∧ j < n ∧ -(n : Int) ≤ i ∧ i < n := by
  unfold ixN at h
  by_cases h0 : 0 ≤ i
  · rw [if_pos h0] at h
    by_cases h1 : i < n
    · rw [if_pos h1] at h
      have e : i.toNat = j := Option.some.inj h
      exact ⟨by rw [seqIndex_of h0 h1, e], by omega, by omega, h1⟩
    · rw [if_neg h1] at h; cases h
  · rw [if_neg h0] at h
    by_cases h1 : -(n : Int) ≤ i
    · rw [if_pos h1] at h
      have e : (i + n).toNat = j := Option.some.inj h
      exact ⟨by rw [seqIndex_neg (by omega) h1, e], by omega, h1, by omega⟩
    · rw [if_neg h1] at h; cases h
theorem atI_get {α : Type} {xs : List α} {i : Int} {v : α} (h : atI xs i = some v) : ∃ j, seqIndex? i xs.length = some j ∧ xs[j]? = some v ∧ j < xs.length ∧ -(xs.length : Int) ≤ i ∧ i < xs.length := by
  unfold atI at h
  cases e : ixN xs.length i with
  | none => rw [e] at h; cases h
  | some j =>
    rw [e] at h
    obtain ⟨h1, h2, h3, h4⟩ := ixN_seq e
    exact ⟨j, h1, h, h2, h3, h4⟩
theorem atI_nat {α : Type} {xs : List α} {j : Nat} {v : α} (h : xs[j]? = some v) : atI xs (j : Int) = some v := by
  have hj : j < xs.length := (List.getElem?_eq_some_iff.mp h).1
  have e : ixN xs.length (j : Int) = some j := by
    unfold ixN
    rw [if_pos (by omega), if_pos (by omega)]; simp
  unfold atI; rw [e]; exact h
/-! ### what may be subscripted -/
/-- what stands as an index of a plain subscript -/
def PlainIx (b : Expr) : Prop := ∀ o i, subscripted b false o i = operate [o, i] (getItem o i)
/-- a subscript by values -/
def IxR (X : Cx) (r : R2) : Prop :=
  ∀ (value slice : Expr) (pins : List (Addr × Obj)) (s : Shared) (σ : St) (H : Hp) (x y : V) (v u : Value) (Q : VK), Inv X pins σ H s → RelV x v → RelV y u → r x y H Q →
    subscripted slice false v u = operate [v, u] (getItem v u) → wpAny (model X.prog X.w) X.A (subscriptTail value slice v u) (EP X pins σ Q) X.xe s
/-- a call of a builtin's method by values: the receiver, the arguments -/
def MtR (X : Cx) (id : String) (r : V → List V → Hp → VK → Prop) : Prop :=
  ∀ (pins : List (Addr × Obj)) (s : Shared) (σ : St) (H : Hp) (x : V) (xs : List V) (v : Value) (us : List Value) (Q : VK), Inv X pins σ H s → RelV x v → Vals xs us → r x xs H Q →
    wpAny (model X.prog X.w) X.A (call (.builtin id) (v :: us)) (EP X pins σ Q) X.xe s
section
variable {X : Cx} {a b : Expr} {ta tb : TE} {pos : Pos}
theorem IxR.or {r r' : R2} (h : IxR X r) (h' : IxR X r') : IxR X (fun x y H Q => r x y H Q ∨ r' x y H Q) := by
  intro value slice pins s σ H x y v u Q I rx ry q hs
  rcases q with q | q
  · exact h value slice pins s σ H x y v u Q I rx ry q hs
  · exact h' value slice pins s σ H x y v u Q I rx ry q hs
theorem MtR.or {id : String} {r r' : V → List V → Hp → VK → Prop} (h : MtR X id r) (h' : MtR X id r') : MtR X id (fun x xs H Q => r x xs H Q ∨ r' x xs H Q) := by
  intro pins s σ H x xs v us Q I rx rs q
  rcases q with q | q
  · exact h pins s σ H x xs v us Q I rx rs q
  · exact h' pins s σ H x xs v us Q I rx rs q
/-- a[b] -/
theorem pe_ix {r : R2} (hr : IxR X r) (ha : PE X a ta) (hb : PE X b tb) (hs : PlainIx b) : PE X (.Subscript a b pos) (tOp r ta tb) := by
  intro pins s σ H Q I h
  exact Subscript_ (binT ha hb I h fun v u s2 x y H2 I2 rx ry q => hr a b pins s2 σ H2 x y v u Q I2 rx ry q (hs _ _))

def rIxL (K : PySem.W.Frag) : R2 := fun x y H Q => ∃ p xs i v, x = .ref p ∧ y = .int i ∧ SqL K H p xs ∧ atI xs i = some v ∧ Q v H
def rIxT (K : PySem.W.Frag) : R2 := fun x y H Q => ∃ p xs i v, x = .ref p ∧ y = .int i ∧ SqT K H p xs ∧ atI xs i = some v ∧ Q v H
theorem ix_list : IxR X (rIxL X.K) := by
  intro value slice pins s σ H x y v u Q I rx ry h hs
  obtain ⟨p, xs, i, z, rfl, rfl, hq, he, q⟩ := h
  cases rx
  obtain ⟨t, rfl⟩ := ry
  obtain ⟨its, r, pl, hz⟩ := I.list hq
  obtain ⟨j, h1, h2, h3, h4, h5⟩ := atI_get he
  obtain ⟨w, ew, rw'⟩ := r.get h2
  have hl := r.length
  have hn := line63
  have fin : EP X pins σ Q w s := ⟨z, H, I, rw', q⟩
  by_cases h0 : 0 ≤ i
  · have hj : i.toNat = j := by
      rw [seqIndex_of h0 h5] at h1
      exact Option.some.inj h1
    exact item_listR pl.isList h0 (by omega) (by rw [hj]; simpa using ew) fin hs
  · have hj : (i + (its.toArray.size : Int)).toNat = j := by
      rw [seqIndex_neg (by omega) h4] at h1
      rw [List.size_toArray, ← hl]
      exact Option.some.inj h1
    exact subscriptTail_builtinR (x := w) pl.isList.typeIs slot_list_getitem.lookup
      (wpAny_getItem_list_neg (Q := fun r s' => r = w ∧ EP X pins σ Q r s') pl.isList (by omega) (by rw [List.size_toArray] <;> omega) (by omega) (by rw [hj]; simpa using ew) ⟨rfl, fin⟩) hs
theorem ix_tup : IxR X (rIxT X.K) := by
  intro value slice pins s σ H x y v u Q I rx ry h hs
  obtain ⟨p, xs, i, z, rfl, rfl, hq, he, q⟩ := h
  cases rx
  obtain ⟨t, rfl⟩ := ry
  obtain ⟨its, r, pl, hz⟩ := I.tuple hq
  obtain ⟨j, h1, h2, h3, h4, h5⟩ := atI_get he
  obtain ⟨w, ew, rw'⟩ := r.get h2
  have hl := r.length
  have hn := line63
  have fin : EP X pins σ Q w s := ⟨z, H, I, rw', q⟩
  exact subscriptTail_builtinR (x := w) pl.typeIs slot_tuple_getitem.lookup
    (getItem_tuple (j := j) (Q := fun r s' => r = w ∧ EP X pins σ Q r s') pl (by omega) (by omega) (by rw [List.size_toArray, ← hl]; exact h1) (by simpa using ew) ⟨rfl, fin⟩) hs
/-! ### xs[i] = v, any sign -/
theorem Inv.lst {pins : List (Addr × Obj)} {σ : St} {H : Hp} {s : Shared} {p : Addr} {xs : List V} (I : Inv X pins σ H s) (h : H p = some (.lst xs)) :
    ∃ (its : List Value) (n : Nat), Vals xs its ∧ s.heap.get? p = some { cls := .type "list", data := .seq its.toArray n } ∧ xs.length ≤ sizeLine := by
  obtain ⟨z, its, n, r, e⟩ := I.hok p _ h
  exact ⟨its, n, r, e, z⟩
/-! ### slices -/
theorem slice_bounds (lo hi : Option Int) (n : Nat) : (sliceBounds lo hi none n).1 = ((HT.sIx n 0 lo : Nat) : Int) ∧ (sliceBounds lo hi none n).2.1 = ((HT.sIx n n hi : Nat) : Int) ∧ (sliceBounds lo hi none n).2.2 = 1 := by
  refine ⟨?_, ?_, rfl⟩
  · cases lo with
    | none => simp [sliceBounds, HT.sIx]
    | some i =>
      simp only [sliceBounds, HT.sIx, Option.getD_none, show (1 : Int) > 0 by decide, if_true]
      by_cases h : i < 0
      · simp only [h, if_true] <;> omega
      · simp only [h, if_false] <;> omega
  · cases hi with
    | none => simp [sliceBounds, HT.sIx]
    | some i =>
      simp only [sliceBounds, HT.sIx, Option.getD_none, show (1 : Int) > 0 by decide, if_true]
      by_cases h : i < 0
      · simp only [h, if_true] <;> omega
      · simp only [h, if_false] <;> omega
theorem slicePick_cut (its : List Value) (lo hi : Option Int) : slicePick its.toArray lo hi none = ((its.drop (HT.sIx its.length 0 lo)).take (HT.sIx its.length its.length hi - HT.sIx its.length 0 lo)).toArray := by
  obtain ⟨h1, h2, h3⟩ := slice_bounds lo hi its.toArray.size
  unfold slicePick
  rw [h1, h2, h3]
  simp only [sliceRange_one, pick_run, List.size_toArray] <;> rfl
/-- xs[lo:hi] of a list: a new list -/
def rSlL (K : PySem.W.Frag) : V → Option Int → Option Int → Hp → VK → Prop := fun x lo hi H Q => ∃ a xs, x = .ref a ∧ SqL K H a xs ∧ ∀ p, H p = none → Q (.ref p) (upd H p (.lst (cutV xs lo hi)))
theorem sl_list : SlR X (rSlL X.K) := by
  intro pins s σ H x v vl vu lo hi sl Q I rx hs pl pu h
  obtain ⟨a, xs, rfl, hx, q⟩ := h
  cases rx
  obtain ⟨its, r, ht, hz⟩ := I.list hx
  have hlen := r.length
  refine ⟨"list", _, slot_list_getitem.lookup, ht.isList.typeIs, ?_⟩
  refine wpAny_getItem_list_slice ht.isList hs pl pu .none (by simp) ?_ (by rw [List.size_toArray] <;> omega)
  rw [slicePick_cut, ← hlen]
  refine ⟨.ref s.heap.objs.size, _, I.laid (t' := s.toks) (o := .lst (cutV xs lo hi)) (fun b ob q => Heap.get?_push_of_some _ q) (Nat.le_refl _) ?_, rfl, q _ (I.hok.fresh (Nat.le_refl _))⟩
  exact ⟨Nat.le_trans (cutV_length xs lo hi) hz, _, 0, (r.drop (HT.sIx xs.length 0 lo)).take (HT.sIx xs.length xs.length hi - HT.sIx xs.length 0 lo), Heap.get?_push_size _ rfl⟩

/-! ### in, not in: flat items -/
def flatV : V → Bool
  | .non => true
  | .bl _ => true
  | .int _ => true
  | .str _ => true
  | _ => false
/-- == of flat values -/
def eqV : V → V → Bool
  | .non, .non => true
  | .bl a, .bl b => a == b
  | .bl a, .int b => (if a then 1 else 0) == b
  | .int a, .bl b => a == (if b then 1 else 0)
  | .int a, .int b => a == b
  | .str a, .str b => a == b
  | _, _ => false
theorem eqAt_V {A : Around} {s : Shared} {y x : V} {u v : Value} (ry : RelV y u) (rx : RelV x v) (fy : flatV y = true) (fx : flatV x = true) : SeqAt.EqAt A s u v (eqV y x) := by
  cases y with
  | non =>
    cases ry
    cases x with
    | non => cases rx; exact SeqAt.EqAt.same _
    | bl b => cases rx; exact SeqAt.EqAt.none_bool b
    | int b => obtain ⟨t, rfl⟩ := rx; exact SeqAt.EqAt.none_int b t
    | str b => obtain ⟨t, rfl⟩ := rx; exact SeqAt.EqAt.none_str b t
    | _ => exact absurd (show false = true from fx) Bool.false_ne_true
  | bl a =>
    cases ry
    cases x with
    | non => cases rx; exact SeqAt.EqAt.bool_none a
    | bl b => cases rx; exact SeqAt.EqAt.bool_bool a b
    | int b => obtain ⟨t, rfl⟩ := rx; exact SeqAt.EqAt.bool_int a b t
    | str b => obtain ⟨t, rfl⟩ := rx; exact SeqAt.EqAt.bool_str a b t
    | _ => exact absurd (show false = true from fx) Bool.false_ne_true
  | int a =>
    obtain ⟨t', rfl⟩ := ry
    cases x with
    | non => cases rx; exact SeqAt.EqAt.int_none a t'
    | bl b => cases rx; exact SeqAt.EqAt.int_bool a t' b
    | int b => obtain ⟨t, rfl⟩ := rx; exact SeqAt.EqAt.int_int a t' b t
    | str b => obtain ⟨t, rfl⟩ := rx; exact SeqAt.EqAt.int_str a t' b t
    | _ => exact absurd (show false = true from fx) Bool.false_ne_true
  | str a =>
    obtain ⟨t', rfl⟩ := ry
    cases x with
    | non => cases rx; exact SeqAt.EqAt.str_none a t'
    | bl b => cases rx; exact SeqAt.EqAt.str_bool a t' b
    | int b => obtain ⟨t, rfl⟩ := rx; exact SeqAt.EqAt.str_int a t' b t
    | str b => obtain ⟨t, rfl⟩ := rx; exact SeqAt.EqAt.str_str a t' b t
    | _ => exact absurd (show false = true from fx) Bool.false_ne_true
  | _ => exact absurd (show false = true from fy) Bool.false_ne_true
/-- the items' answers, read off the values (a value's own answer does not lean on its token) -/
def eqU (x : V) (u : Value) : Bool := match u with
  | .none => eqV .non x
  | .bool b => eqV (.bl b) x
  | .int i _ => eqV (.int i) x
  | .str z _ => eqV (.str z) x
  | _ => false
theorem eqU_of {x y : V} {u : Value} (r : RelV y u) (f : flatV y = true) : eqU x u = eqV y x := by
  cases y with
  | non => cases r; rfl
  | bl b => cases r; rfl
  | int i => obtain ⟨t, rfl⟩ := r; rfl
  | str z => obtain ⟨t, rfl⟩ := r; rfl
  | _ => exact absurd (show false = true from f) Bool.false_ne_true
theorem any_eqU {x : V} : ∀ {xs : List V} {us : List Value}, Vals xs us → xs.all flatV = true → us.any (eqU x) = xs.any fun y => eqV y x
  | _, _, .nil, _ => rfl
  | y :: xs, u :: us, .cons r t, f => by
    rw [List.all_cons, Bool.and_eq_true] at f
    rw [List.any_cons, List.any_cons, eqU_of r f.1, any_eqU t f.2]
theorem mem_eqAt {A : Around} {s : Shared} {x : V} {v : Value} (rx : RelV x v) (fx : flatV x = true) : ∀ {xs : List V} {us : List Value}, Vals xs us → xs.all flatV = true → ∀ u ∈ us, SeqAt.EqAt A s u v (eqU x u)
  | _, _, .nil, _ => fun u hu => by cases hu
  | y :: xs, u :: us, .cons r t, f => fun u' hu => by
    rw [List.all_cons, Bool.and_eq_true] at f
    rcases List.mem_cons.mp hu with rfl | hu
    · rw [eqU_of r f.1]; exact eqAt_V r rx f.1 fx
    · exact mem_eqAt rx fx t f.2 u' hu
def inV (x : V) (xs : List V) : Bool := xs.any fun y => eqV y x
/-- x in a list or tuple of flat items -/
def rIn (K : PySem.W.Frag) (neg : Bool) : R2 := fun x y H Q => ∃ p xs, y = .ref p ∧ (SqL K H p xs ∨ SqT K H p xs) ∧ flatV x = true ∧ xs.all flatV = true ∧ Q (.bl (if neg then !inV x xs else inV x xs)) H
theorem op_in_seq : OpR X (compareOp .In) (rIn X.K false) := by
  intro pins s σ H x y v u Q I rx ry h
  obtain ⟨p, xs, rfl, hq, fx, fs, q⟩ := h
  cases ry
  rcases hq with hq | hq
  · obtain ⟨its, r, pl, hz⟩ := I.list hq
    refine SeqAt.in_listAt (eqU x) pl.isList (fun w hw => mem_eqAt rx fx r fs w (by simpa using hw)) ⟨.bl _, H, I, rfl, ?_⟩
    rw [show its.toArray.any (eqU x) = its.any (eqU x) by simp, any_eqU r fs]
    exact q
  · obtain ⟨its, r, pl, hz⟩ := I.tuple hq
    refine SeqAt.in_tupleAt (eqU x) pl (fun w hw => mem_eqAt rx fx r fs w (by simpa using hw)) ⟨.bl _, H, I, rfl, ?_⟩
    rw [show its.toArray.any (eqU x) = its.any (eqU x) by simp, any_eqU r fs]
    exact q
theorem op_notIn_seq : OpR X (compareOp .NotIn) (rIn X.K true) := by
  intro pins s σ H x y v u Q I rx ry h
  obtain ⟨p, xs, rfl, hq, fx, fs, q⟩ := h
  cases ry
  rcases hq with hq | hq
  · obtain ⟨its, r, pl, hz⟩ := I.list hq
    refine SeqAt.notIn_listAt (eqU x) pl.isList (fun w hw => mem_eqAt rx fx r fs w (by simpa using hw)) ⟨.bl _, H, I, rfl, ?_⟩
    rw [show its.toArray.any (eqU x) = its.any (eqU x) by simp, any_eqU r fs]
    exact q
  · obtain ⟨its, r, pl, hz⟩ := I.tuple hq
    refine SeqAt.notIn_tupleAt (eqU x) pl (fun w hw => mem_eqAt rx fx r fs w (by simpa using hw)) ⟨.bl _, H, I, rfl, ?_⟩
    rw [show its.toArray.any (eqU x) = its.any (eqU x) by simp, any_eqU r fs]
    exact q
/-! ### len, list(x), tuple(x) of any list or tuple that is read -/
theorem call_len_seq : CallR X (.builtin "len") (fun xs H Q => ∃ p ys, xs = [.ref p] ∧ (SqL X.K H p ys ∨ SqT X.K H p ys) ∧ Q (.int ys.length) H) := by
  intro pins s σ H xs us Q I r h
  obtain ⟨p, ys, rfl, hq, q⟩ := h
  obtain ⟨u, rfl, rx⟩ := vals1 r
  cases rx
  have hn := line63
  rcases hq with hq | hq
  · obtain ⟨its, r', pl, hz⟩ := I.list hq
    have hlen := r'.length
    exact Calls.call_len_list pl.isList (by simp only [List.size_toArray] <;> omega) ⟨.int ys.length, H, I.tok _, ⟨s.toks + 1, by rw [List.size_toArray, hlen]⟩, q⟩
  · obtain ⟨its, r', pl, hz⟩ := I.tuple hq
    have hlen := r'.length
    exact len_tuple pl (by simp only [List.size_toArray] <;> omega) ⟨.int ys.length, H, I.tok _, ⟨s.toks + 1, by rw [List.size_toArray, hlen]⟩, q⟩
theorem CallR.or {f : Value} {r r' : List V → Hp → VK → Prop} (h : CallR X f r) (h' : CallR X f r') : CallR X f (fun xs H Q => r xs H Q ∨ r' xs H Q) := by
  intro pins s σ H xs us Q I rs q
  rcases q with q | q
  · exact h pins s σ H xs us Q I rs q
  · exact h' pins s σ H xs us Q I rs q
/-! ### the call of a builtin's method: o.m(..) -/
/-- the value is of that builtin type -/
def tyV (K : PySem.W.Frag) (T : String) (x : V) (H : Hp) : Prop := match x with
  | .str _ => T = "str"
  | .int _ => T = "int"
  | .ref p => (T = "list" ∧ ∃ xs, SqL K H p xs) ∨ (T = "tuple" ∧ ∃ o, K.lookup p = some o ∧ o.cls = .type "tuple" ∧ o.dict = none) ∨
      (T = "dict" ∧ ((∃ kvs, H p = some (.dK kvs)) ∨ ∃ kvs, H p = some (.dT kvs))) ∨ (T = "set" ∧ ∃ S n, H p = some (.set S n))
  | _ => False
theorem tyV_is {pins : List (Addr × Obj)} {σ : St} {H : Hp} {s : Shared} {T : String} {x : V} {v : Value} (I : Inv X pins σ H s) (r : RelV x v) (ty : tyV X.K T x H) :
    s.TypeIs v T ∧ ∀ a, v = .ref a → ∃ ob, s.heap.get? a = some ob ∧ ob.dict = none := by
  cases x with
  | str z =>
    obtain ⟨t, rfl⟩ := r
    cases (show T = "str" from ty)
    exact ⟨typeIs_str s z t, fun _ e => nomatch e⟩
  | int i =>
    obtain ⟨t, rfl⟩ := r
    cases (show T = "int" from ty)
    exact ⟨typeIs_int s i t, fun _ e => nomatch e⟩
  | ref p =>
    cases r
    rcases ty with ⟨rfl, xs, hq⟩ | ⟨rfl, o, hk, hc, hd⟩ | ⟨rfl, hk⟩ | ⟨rfl, S, n, hk⟩
    · obtain ⟨its, _, pl, _⟩ := I.list hq
      refine ⟨pl.isList.typeIs, fun a e => ?_⟩
      cases e
      obtain ⟨o, n, e, c, hd, _⟩ := pl
      exact ⟨o, e, hd⟩
    · refine ⟨⟨o, I.kIn p o hk, hc⟩, fun a e => ?_⟩
      cases e
      exact ⟨o, I.kIn _ o hk, hd⟩
    · have z : ∃ o, s.heap.get? p = some o ∧ o.ExactDict := by
        rcases hk with ⟨kvs, hk⟩ | ⟨kvs, hk⟩
        · obtain ⟨_, _, _, _, o, _, _, e, ex, _⟩ := I.hok p _ hk
          exact ⟨o, e, ex⟩
        · obtain ⟨_, _, _, _, o, _, _, e, ex, _⟩ := I.hok p _ hk
          exact ⟨o, e, ex⟩
      obtain ⟨o, e, ex⟩ := z
      refine ⟨⟨o, e, ex.1⟩, fun a e2 => ?_⟩
      cases e2
      exact ⟨o, e, ex.2.1⟩
    · obtain ⟨o, _, _, _, e, ex, _⟩ := I.hok p _ hk
      refine ⟨⟨o, e, ex.1⟩, fun a e2 => ?_⟩
      cases e2
      exact ⟨o, e, ex.2.1⟩
  | _ => exact False.elim ty
def tBM0 (K : PySem.W.Frag) (T : String) (r : V → List V → Hp → VK → Prop) (to : TE) : TE := fun σ H Q => to σ H fun x H1 => tyV K T x H1 ∧ r x [] H1 Q
def tBM (K : PySem.W.Frag) (T : String) (r : V → List V → Hp → VK → Prop) (to : TE) (t : TA) : TE := fun σ H Q => to σ H fun x H1 => tyV K T x H1 ∧ t σ H1 fun xs H2 => r x xs H2 Q
variable {o e : Expr} {es : List Expr} {to : TE} {t : TA} {name : Str} {apos cpos : Pos} {T id : String} {r : V → List V → Hp → VK → Prop}
theorem pe_bm0 (pa : PlainAttrs T) (slot : Slot T name id) (hty : typeOf (.builtin id) = pure (.type "method_descriptor")) (hm : MtR X id r) (ho : PE X o to)
    (hbase : attributeBase o name X.env (eval o X.env) = eval o X.env := by rfl) (hline : (apos.endLine == cpos.line) = true := by rfl) : PE X (.Call (.Attribute o name apos) [] [] cpos) (tBM0 X.K T r to) := by
  intro pins s σ H Q I h
  refine wpAny_Call_method0_late hbase hline (thn (ho pins s σ H _ I h) fun v s1 ⟨x, H1, I1, r1, ty, q1⟩ => ?_)
  obtain ⟨h1, h2⟩ := tyV_is I1 r1 ty
  exact ⟨T, id, pa, slot, hty, h1, h2, Calls.callWith_builtin rfl (PySem.evalArgs_none (hm pins s1 σ H1 x [] v [] Q I1 r1 .nil q1))⟩
theorem pe_bm (pa : PlainAttrs T) (slot : Slot T name id) (hty : typeOf (.builtin id) = pure (.type "method_descriptor")) (hm : MtR X id r) (ho : PE X o to) (ha : PA X (e :: es) t)
    (hbase : attributeBase o name X.env (eval o X.env) = eval o X.env := by rfl)
    (hfew : ((backTo cpos (starEach (e :: es) X.env)).all (fun x => !x.1) && (backToKw cpos (keywordEach [] X.env)).all (fun x => x.1.isSome)
      && decide ((e :: es).length + ([] : List Keyword).length + (if ([] : List Keyword).isEmpty then 0 else 1) < 30)) = true := by rfl)
    (hline : (apos.endLine == cpos.line) = true := by rfl) (hs : starEach (e :: es) X.env = (false, eval e X.env) :: starEach es X.env := by rfl) (hplain : (backTo cpos (starEach es X.env)).any (·.1) = false := by rfl) :
    PE X (.Call (.Attribute o name apos) (e :: es) [] cpos) (tBM X.K T r to t) := by
  intro pins s σ H Q I h
  refine wpAny_Call_method_late hbase hfew hline rfl (thn (ho pins s σ H _ I h) fun v s1 ⟨x, H1, I1, r1, ty, q1⟩ => ?_)
  obtain ⟨h1, h2⟩ := tyV_is I1 r1 ty
  refine ⟨T, id, pa, slot, hty, h1, h2, ?_⟩
  have hA := ha cpos pins s1 σ H1 _ I1 q1
  rw [hs] at hA ⊢
  refine Calls.callWith_builtin (by show (false || (backTo cpos (starEach es X.env)).any (·.1)) = false; rw [hplain] <;> rfl) (Calls.evalArgs_plain ?_)
  exact thn hA fun us s2 ⟨vs, H2, I2, r2, q2⟩ => hm pins s2 σ H2 x vs v us Q I2 r1 r2 q2
/- xs.append(e), list.index on a module's tuple .. are MtR facts of 06m -/
end
end L2

namespace L2
open PySem PySem.Spec PyProof.Rows

def MtM (X : Cx) (id : String) (r : V → List V → Hp → VK → Prop) : Prop :=
  ∀ (pins : List (Addr × Obj)) (s : Shared) (σ : St) (H : Hp) (x : V) (xs : List V) (v : Value) (us : List Value) (Q : VK), Inv X pins σ H s → RelV x v → Vals xs us → r x xs H Q →
    wpAny (model X.prog X.w) X.A (call (.builtin id) (v :: us)) (EP X pins σ Q) X.xe s

/-! ### lists of values -/
theorem Vals.one : ∀ {x : V} {us : List Value}, Vals [x] us → ∃ u, us = [u] ∧ RelV x u
  | _, _, .cons r .nil => ⟨_, rfl, r⟩
theorem Vals.two : ∀ {x y : V} {us : List Value}, Vals [x, y] us → ∃ u v, us = [u, v] ∧ RelV x u ∧ RelV y v
  | _, _, _, .cons r (.cons q .nil) => ⟨_, _, rfl, r, q⟩
theorem Vals.zero : ∀ {us : List Value}, Vals [] us → us = []
  | _, .nil => rfl
theorem Vals.reverse {xs : List V} {us : List Value} (h : Vals xs us) : Vals xs.reverse us.reverse := by
  induction h with
  | nil => exact .nil
  | cons r t ih => rw [List.reverse_cons, List.reverse_cons]; exact Vals.append ih (.cons r .nil)
theorem Vals.rep {xs : List V} {us : List Value} (h : Vals xs us) : ∀ k : Nat, Vals (List.replicate k xs).flatten (List.replicate k us).flatten
  | 0 => .nil
  | k + 1 => by
    rw [List.replicate_succ, List.replicate_succ, List.flatten_cons, List.flatten_cons]
    exact Vals.append h (Vals.rep h k)
section
variable {X : Cx} {pins : List (Addr × Obj)} {σ : St} {H : Hp} {s : Shared} {l b : Addr} {xs ys zs : List V}

/-! ### the two steps: a tracked list is rewritten, a new list is laid -/
theorem Inv.lset {its its' : List Value} {n : Nat} {f : Array Value → Array Value} {t' : Nat} (I : Inv X pins σ H s) (hH : H l = some (.lst xs))
    (e : s.heap.get? l = some { cls := .type "list", data := .seq its.toArray n }) (hf : f its.toArray = its'.toArray) (hv : Vals ys its') (hz : ys.length ≤ sizeLine) :
    Inv X pins σ (upd H l (.lst ys)) { s with heap := s.heap.update l (Obj.mapSeq f), toks := t' } := by
  have q := PySem.IsL.update e f
  rw [hf] at q
  refine I.write (x := l) (e := l) (by rw [hH]; exact trivial) (.inl rfl) (fun b' u hb hu => (Heap.get?_update_other s.heap (Obj.mapSeq f) (Ne.symm hb)).trans hu) ⟨_, q⟩ ?_
  exact ⟨hz, its', _, hv, q⟩
theorem Inv.lnew {its : List Value} {t' : Nat} (I : Inv X pins σ H s) (hv : Vals ys its) (hz : ys.length ≤ sizeLine) :
    Inv X pins σ (upd H s.heap.objs.size (.lst ys)) { s with heap := s.heap.push { cls := .type "list", data := .seq its.toArray }, toks := t' } :=
  I.laid (fun _ _ q => Heap.get?_push_of_some _ q) (Nat.le_refl _) ⟨hz, its, 0, hv, Heap.get?_push_size _ rfl⟩
theorem Inv.fresh (I : Inv X pins σ H s) : H s.heap.objs.size = none := I.hok.fresh (Nat.le_refl _)
theorem Inv.lstM (I : Inv X pins σ H s) (hH : H l = some (.lst xs)) : xs.length ≤ sizeLine ∧ ∃ (its : List Value) (n : Nat), Vals xs its ∧ xs.length = its.length ∧ s.heap.get? l = some { cls := .type "list", data := .seq its.toArray n } := by
  obtain ⟨z, its, n, r, e⟩ := I.hok l _ hH
  exact ⟨z, its, n, r, r.length, e⟩

end

section
variable {X : Cx}

/-! ### methods -/
def rAppend : V → List V → Hp → VK → Prop := fun x vs H Q => ∃ l xs y, x = .ref l ∧ vs = [y] ∧ H l = some (.lst xs) ∧ xs.length < sizeLine ∧ Q .non (upd H l (.lst (xs ++ [y])))
theorem mt_append : MtM X "list.append" rAppend := by
  intro pins s σ H x vs v us Q I rx rv h
  obtain ⟨l, xs, y, rfl, rfl, hH, hz, q⟩ := h
  cases rx
  obtain ⟨u, rfl, ru⟩ := rv.one
  obtain ⟨z, its, n, r, hl, e⟩ := I.lstM hH
  refine call_meets F.slot_list_append ⟨_, e, rfl⟩ F.entry_list_append (F.args_list_append_2 _ _) (PySem.list_append l its.toArray n u (by rw [List.size_toArray]; omega)) ⟨e, ?_⟩
  refine ⟨.non, _, I.lset (its' := its ++ [u]) hH e (by simp) (r.append (.cons ru .nil)) ?_, rfl, q⟩
  rw [List.length_append, List.length_singleton]
  omega

/-! ### list + list, list += list, list * int -/
def rCat : R2 := fun x y H Q => ∃ l b xs zs, x = .ref l ∧ y = .ref b ∧ H l = some (.lst xs) ∧ H b = some (.lst zs) ∧ xs.length + zs.length ≤ sizeLine ∧ ∀ p, H p = none → Q (.ref p) (upd H p (.lst (xs ++ zs)))
theorem op_cat : OpR X (binaryOp .Add) rCat := by
  intro pins s σ H x y v u Q I rx ry h
  obtain ⟨l, b, xs, zs, rfl, rfl, hH, hB, hz, q⟩ := h
  cases rx
  cases ry
  obtain ⟨z, its, n, r, hl, e⟩ := I.lstM hH
  obtain ⟨z2, its2, n2, r2, hl2, e2⟩ := I.lstM hB
  refine PySem.P.add_list e e2 ?_ (by rw [List.size_toArray, List.size_toArray]; omega)
  have ea : its.toArray ++ its2.toArray = (its ++ its2).toArray := by simp
  rw [ea]
  exact ⟨.ref _, _, I.lnew (t' := s.toks) (r.append r2) (by rw [List.length_append]; omega), rfl, q _ I.fresh⟩
/-! ### del xs[i] -/
end

/-! ### xs[a:b] = ys -/
section
variable {prog : Program} {w : World} {A : Around} {E : Value → Shared → Prop} {s : Shared}
end

section
variable {X : Cx}
end
end L2

namespace Att
open PySem PySem.W PySem.Calls PyProof.Rows

/-! ### the script -/
theorem ints_of_wellAll {P : Params} {h : Heap} : ∀ (ns : List Int) (vs : List Value), WellAll P h vs (ns.map WData.int) → IntsAre vs ns := by
  intro ns
  induction ns with
  | nil =>
    intro vs w
    rw [List.map_nil] at w
    cases w
    exact .nil
  | cons n ns ih =>
    intro vs w
    rw [List.map_cons] at w
    cases w with
    | cons a b =>
      cases a
      exact .cons _ _ (ih _ b)

theorem script_of {l : OpenLaw} {n : Nat} (hn : l.most = some n) {P : Params} {h : Heap} {args : List WData} {vals : List Value}
    (hpre : l.row.toRowW.claim.pre args = true) (hwl : WellAll P h vals args) :
    ∃ a vs ns, vals = [Value.ref a] ∧ args = [WData.list (ns.map WData.int)] ∧ h.get? a = some { cls := .type "list", data := .seq vs.toArray } ∧ IntsAre vs ns ∧ ns.length ≤ n := by
  have hsh : WShape.hasAll [] args [.list .int] = true := (pre_splitW hpre).1
  have hc : l.pre.holds [] { args := args } = true := (pre_splitW hpre).2
  obtain ⟨d, r, rfl, h1, h2⟩ := hasAllW_cons hsh
  obtain rfl := hasAllW_nil h2
  obtain ⟨xs, rfl, h3⟩ := hasW_list h1
  obtain ⟨ns, rfl⟩ := items_int h3
  have hlen : ns.length ≤ n := by
    unfold OpenLaw.pre at hc
    have h4 : (WTm.not (.lt (.lit (.int (n : Int))) (.len (.arg 0)))).holds [] { args := [.list (ns.map .int)] } = true := by
      have h4 := (holds_andW hc).1
      rw [hn] at h4
      exact h4
    have h5 := condW_of h4 (w_not (w_lt w_lit (w_len_list (w_arg rfl))))
    rw [List.length_map] at h5
    refine Nat.le_of_not_lt fun q => ?_
    have q' : (n : Int) < ((ns.length : Nat) : Int) := by omega
    first
      | (rw [decide_eq_true q'] at h5; exact absurd h5 (by decide))
      | (simp at h5; omega)
  cases hwl with
  | cons w1 w2 =>
    cases w2
    cases w1 with
    | list ho hall => exact ⟨_, _, ns, rfl, rfl, ho, ints_of_wellAll ns _ hall, hlen⟩

theorem post_true (l : OpenLaw) (args : List WData) : l.row.toRowW.claim.post args (.bool true) args = true :=
  postW_of (r := l.row.toRowW) (X := (true == true))
    (show WShape.has [] (.bool true) .bool = true by first | rfl | decide | simp [WShape.has, WShape.arms, WShape.armsAll])
    (show (WTm.eq .res (.lit (.bool true))).value [] { args := args, res := some (.bool true), after := args } = some (.bool (true == true)) from w_eq_bool (w_res rfl) w_lit) rfl

/-! ### the attachment: holds_open's last premise (the goal 'hc' behind k_head) from a wpAny of the law's body -/
/-- the same from a codeAny of the CALL (for a layer whose function contracts speak of calls) -/
theorem attach_call {l : OpenLaw} {n : Nat} {q : Program} {loose : List Str} {XP : (Str → Option Value) → Heap → Prop} {YP : World → Heap → Prop} {d : DefRec}
    (hn : l.most = some n) (hdf : d.params.defaults = [])
    (call : ∀ (w : World) (s₀ s₁ : Shared) (mg mb : Str → Option Value) (fa : Addr) (o : Obj) (pm cd doc : Value) (a : Addr) (vs : List Value) (ns : List Int),
      Ground q loose [] XP w s₀ mg mb s₁.heap → YP w s₁.heap →
      s₁.heap.get? fa = some o → o.data = .func (docDef d.name d.params d.body d.scope pm cd doc) → s₁.heap.CodeRec cd d.name → mg d.name = some (.ref fa) →
      s₁.heap.get? a = some { cls := .type "list", data := .seq vs.toArray } → IntsAre vs ns → ns.length ≤ n → s₁.gens = #[] →
      codeAny (model l.prog w) callerA (.call (.ref fa) ⟨[.ref a], []⟩) (fun r s' => r = .ok (.ret (.bool true)) ∧ OldK s₁.heap s'.heap ∧ s'.os = s₁.os ∧ AllBare s'.gens) s₁) :
    WalkO q loose XP YP l.row.toRowW d [] (fun f vs => PySem.call f vs) := by
  intro w s₀ s₁ mg mb G Y fa o pm cd doc dV kV ho hd hcd hD hmg hg args vals as hpre hlay hrd hwl hlo
  obtain rfl : dV = .none := Dflts.none hD hdf
  obtain rfl : kV = .none := Dflts.noKw hD
  obtain ⟨a, vs, ns, rfl, rfl, hobj, hints, hlen⟩ := script_of hn hpre hwl
  refine enter_call (codeAny_mono (call w s₀ s₁ mg mb fa o pm cd doc a vs ns G Y ho (fd_plain hd) hcd hmg hobj hints hlen hg) fun r s' hq => ?_)
  obtain ⟨rfl, h2, h3, h4⟩ := hq
  exact ⟨.inl ⟨.bool true, .bool true, [], rfl, fun _ => rfl, .bool true, post_true l _, fun _ => ⟨List.Pairwise.nil, fun _ hm => (nomatch hm)⟩⟩, h2, h3, h4⟩

/-! ### rules over ANY heap (no ledger) from facts about the written part K: the library's own take a ledger (News) for what they write -/
section
variable {prog : Program} {w : World} {A : Around} {E : Value → Shared → Prop} {s : Shared} {K : Frag}

/-! the whole heap as the ledger: makes every rule that writes through a ledger a rule over any heap -/
def ledger (h : Heap) (L d : Addr) : List (Addr × Obj) := (List.range h.objs.size).filterMap fun a => if a = L ∨ a = d then none else (h.get? a).map fun o => (a, o)
end
end Att

namespace L2
open PySem PySem.Spec PyProof.Rows

theorem vals_ints : ∀ {vs : List Value} {ns : List Int}, IntsAre vs ns → Vals (ns.map V.int) vs
  | _, _, .nil => .nil
  | _, _, .cons n t h => .cons ⟨t, rfl⟩ (vals_ints h)

/-- nothing is tracked but the script, known to the object (or it is an object of the module) -/
def Only (H : Hp) : Prop := ∀ b, H b = none ∨ ∃ o xs, H b = some (.frz o (.lst xs))

/-- THE HEAD: the law's promise, at the heap behind the top. F, the promise of the law's def, may use that base is part of the heap (so K.In base, base.Ns mainGlobals mg stand in Mod) -/
theorem law_call {P : Program} {w : World} {K : PySem.W.Frag} {mg mb : Str → Option Value} {CX : CXT} {k : Nat} {fa a : Addr} {fd : FuncData} {x : Str} {sp : Sp} {s₁ : Shared} {vs : List Value} {ns : List Int}
    (KX : K.In s₁.heap) (hns : s₁.heap.Ns mainGlobals mg) (hb : s₁.heap.Ns builtinsNs mb) (hbb : ∀ x : Str, x ≠ "__name__" → mb x = bootBuiltins x) (hlim : s₁.heap.NoLimit) (hg : s₁.gens = #[])
    (ha : s₁.heap.get? a = some { cls := .type "list", data := .seq vs.toArray }) (hi : IntsAre vs ns) (hl : ns.length ≤ sizeLine) (hr : Room k callerA)
    (F : ∀ base : Heap, K.In base → base.Ns mainGlobals mg → FnOk P w K mg base CX k fa fd [x] sp) (hbind : ∀ (s : Shared) (u : Value), BindsTo s fd ⟨[u], []⟩ [(x, u)])
    (hsp : ∀ H : Hp, Only H → SqL K H a (ns.map V.int) → sp [.ref a] H (fun v _ => v = .bl true) fun _ _ _ => False)
    (hCX : ∀ H e s', CX [] H s₁ (fun _ _ _ => False) e s' → False) :
    codeAny (model P w) callerA (.call (.ref fa) ⟨[.ref a], []⟩) (fun r s' => r = .ok (.ret (.bool true)) ∧ OldK s₁.heap s'.heap ∧ s'.os = s₁.os ∧ AllBare s'.gens) s₁ := by
  have rv := vals_ints hi
  have lenV := hi.length
  -- from an abstract heap in which nothing but the script may be tracked
  have core : ∀ H : Hp, Only H → SqL K H a (ns.map V.int) → HOk P w H s₁.heap → (∀ b, H b ≠ none → b = a) → (H a ≠ none → K.lookup a = none) →
      codeAny (model P w) callerA (.call (.ref fa) ⟨[.ref a], []⟩) (fun r s' => r = .ok (.ret (.bool true)) ∧ OldK s₁.heap s'.heap ∧ s'.os = s₁.os ∧ AllBare s'.gens) s₁ := by
    intro H hO hS hok hA hK
    have base_of : ∀ {b : Addr} {o : Obj}, s₁.heap.get? b = some o → H b = none → (hidT s₁.heap H).get? b = some o := fun e n => hidT_get e n
    have noA : ∀ {b : Addr} {o : Obj} {es : Array DictEntry} {ep : Nat}, s₁.heap.get? b = some o → o.data = .dict es ep → H b = none := fun {b o es ep} e d => by
      cases q : H b with
      | none => rfl
      | some u =>
        have e' : b = a := hA b (by rw [q]; simp)
        subst e'
        rw [ha] at e; cases e
        have d' : Data.seq vs.toArray _ = Data.dict es ep := d
        cases d'
    have nsK : ∀ {b : Addr} {m : Str → Option Value}, s₁.heap.Ns b m → (hidT s₁.heap H).Ns b m := fun {b m} ⟨o, es, ep, e, d, r⟩ => ⟨o, es, ep, base_of e (noA e d), d, r⟩
    have hKb : K.In (hidT s₁.heap H) := fun b o e => base_of (KX b o e) (by
      cases q : H b with
      | none => rfl
      | some u =>
        have e' : b = a := hA b (by rw [q]; simp)
        subst e'
        rw [hK (by rw [q]; simp)] at e; cases e)
    have hM : Mod K mg (hidT s₁.heap H) := ⟨hKb, nsK hns, ⟨mb, nsK hb, hbb⟩, let ⟨mc, h1, h2⟩ := hlim; ⟨mc, nsK h1, h2⟩⟩
    have e0 : Env0 P w K mg (hidT s₁.heap H) callerA [] s₁ H := ⟨rfl, hM, fun b o e => of_hidT e, Nat.le_of_eq (hidT_size _ _), trivial, fun b hb => absurd (show b ∈ ([] : List Addr) from hb) (by simp), hok, .of_eq hg⟩
    refine codeAny_mono ((F _ hKb (nsK hns)).run callerA [] s₁ H ⟨[.ref a], []⟩ [.ref a] [.ref a] _ _ hr e0 (hbind s₁ (.ref a)) (.cons rfl .nil) (hsp H hO hS)) fun r s' h => ?_
    cases r with
    | error e => exact (hCX H e s' h).elim
    | ok fl =>
      cases fl with
      | next => exact False.elim h
      | brk => exact False.elim h
      | cont => exact False.elim h
      | ret u =>
        obtain ⟨v, H', os, bare, un, hok', r', q⟩ := h
        have q' : v = .bl true := q
        subst q'
        obtain rfl : u = Value.bool true := r'
        refine ⟨rfl, OldK.of_keep fun b o e => ?_, os, bare⟩
        cases q : H b with
        | none => exact un.keep b o e q (by intro z; exact absurd (show b ∈ ([] : List Addr) from z) (by simp)) (by simp)
        | some u =>
          rcases hO b with z | ⟨ob, xs, z⟩
          · rw [q] at z; cases z
          · have z2 := un.frzs b ob _ z
            obtain ⟨e1, _⟩ := hok b _ z
            obtain ⟨e2, _⟩ := hok' b _ z2
            rw [e] at e1; cases e1
            exact e2
  cases hk : K.lookup a with
  | some o =>
    -- the script is one of the module's own objects
    have e := KX a o hk
    rw [ha] at e
    cases e
    refine core (fun _ => none) (fun _ => .inl rfl) (.inr ⟨_, vs.toArray, _, hk, rfl, rfl, rfl, by rw [List.size_toArray, lenV]; exact hl, by simpa using rv⟩) (fun b u z => by have z' : (none : Option HO) = some u := z; cases z') (fun b z => absurd rfl z) fun z => absurd rfl z
  | none =>
    refine core (fun b => if b = a then some (.frz { cls := .type "list", data := .seq vs.toArray } (.lst (ns.map V.int))) else none) (fun b => ?_) (.inl (.inr ⟨{ cls := .type "list", data := .seq vs.toArray }, if_pos rfl⟩)) (fun b u z => ?_) (fun b z => ?_) fun _ => hk
    · by_cases hb : b = a
      · exact .inr ⟨_, _, if_pos hb⟩
      · exact .inl (if_neg hb)
    · by_cases hb : b = a
      · have z' := (if_pos hb).symm.trans z
        cases z'
        subst hb
        exact ⟨ha, by rw [List.length_map]; exact hl, vs, _, rv, ha⟩
      · have z' := (if_neg hb).symm.trans z
        cases z'
    · by_cases hb : b = a
      · exact hb
      · exact absurd (if_neg hb) z
end L2

namespace L2
open PySem PySem.Spec PyProof.Rows

abbrev KOf {K : PySem.W.Frag} {h : Heap} (_ : K.In h) : PySem.W.Frag := K

/-- the goal that k_head leaves (case hc), from the law's promise. F gives the function object fd (K's own) once, then the promise over every base -/
theorem walk_of {l : PySem.W.OpenLaw} {n k : Nat} {q : Program} {loose : List Str} {XP : (Str → Option Value) → Heap → Prop} {YP : World → Heap → Prop} {d : DefRec} {K : Params → PySem.W.Frag} {CX : World → CXT} {sp : World → Sp} {x : Str}
    (hn : l.most = some n) (hn2 : n ≤ sizeLine) (hdf : d.params.defaults = []) (hr : Room k callerA)
    (hY : ∀ (w : World) (h : Heap), YP w h → (K w.params).In h)
    (F : ∀ (w : World) (mg : Str → Option Value) (fa : Addr) (h : Heap), (K w.params).In h → h.Ns mainGlobals mg → mg d.name = some (.ref fa) →
      ∃ fd : FuncData, (∀ (s : Shared) (u : Value), BindsTo s fd ⟨[u], []⟩ [(x, u)]) ∧
        ∀ base : Heap, (K w.params).In base → base.Ns mainGlobals mg → FnOk l.prog w (K w.params) mg base (CX w) k fa fd [x] (sp w))
    (hsp : ∀ (w : World) (H : Hp) (a : Addr) (ns : List Int), ns.length ≤ n → Only H → SqL (K w.params) H a (ns.map V.int) → sp w [.ref a] H (fun v _ => v = .bl true) fun _ _ _ => False)
    (hCX : ∀ (w : World) (H : Hp) (s : Shared) (e : Value) (s' : Shared), CX w [] H s (fun _ _ _ => False) e s' → False) :
    PySem.W.WalkO q loose XP YP l.row.toRowW d [] (fun f vs => PySem.call f vs) := by
  refine Att.attach_call hn hdf fun w s₀ s₁ mg mb fa o pm cd doc a vs ns G Y ho hd hcd hmg hobj hints hlen hg => ?_
  have KX := hY w _ Y
  obtain ⟨fd, hb, hF⟩ := F w mg fa _ KX G.T.g hmg
  exact law_call KX G.T.g G.T.b G.T.builtins G.T.nolimit hg hobj hints (Nat.le_trans hlen hn2) hr hF hb (fun H hO hS => hsp w H a ns hlen hO hS) fun H e s' => hCX w H s₁ e s'
end L2

/- THE LAST THEOREM (shape; LID, My.* are yours):
   My.Adr: a structure of the addresses that your layer names (classes, functions); My.Txt K t: a structure (Prop) of the equations over K;
   My.txt_mk : {K} {implicit addresses ..} (e1 : nsIn K mainGlobals "law" = some (some (.ref f))) (e2 : K.lookup f = some ⟨oc, od, .func (fnOf "law" "law" params body scope dV kV doc pm an cdv ct), sl⟩) (e3 : codeIn K cdv "law" = true) .. : ∃ t, My.Txt K t

set_option maxRecDepth 100000 in
set_option maxHeartbeats 0 in
theorem PySem.Challenge.cw_LID_holds : PySem.Challenge.rw_LID.Holds := by
  w_on; o_law; k_head; (case hw => w_witness2)
  k_fill
  refine L2.walk_of (l := PySem.Challenge.rw_LID) (n := 63) (k := 40) (x := "script") (CX := fun w => ..) (sp := fun _ => My.sp_law) rfl (by decide) rfl ⟨rfl, by decide, by decide⟩ (fun w h Y => PySem.W.kIn_of Y) ?F ?S ?C
  case F =>
    intro w mg fa h KX G hmg
    have T : ∃ t, My.Txt (L2.KOf KX) t := by
      dsimp only [L2.KOf]                          -- K must stand as «<heap const> w.params» for k_is
      refine' My.txt_mk ?e1 ?e2 ?e3 ..
      (case e1 => PySem.W.k_is)                    -- in the order: a name -> its address -> its object -> its parts
      (case e2 => PySem.W.k_is)
      ..
    obtain ⟨t, T⟩ := T
    have e0 := hmg.symm.trans (PySem.W.mg_of KX G T.law)
    cases e0                                       -- fa is the law's own address
    exact ⟨_, fun s u => .of_eq rfl, fun base kb nb => My.law_fn T kb nb⟩     -- if «.of_eq rfl» comes too early: refine' ⟨_, ?b, fun base kb nb => My.law_fn T kb nb⟩; exact fun s u => .of_eq rfl
  case S => exact fun w H a ns hl hO hS => ..
  case C => exact ..
(the tactic k_is has no namespace: write k_is) -/

/-! SHORT WORDS over the layer: a def of the text, its body, what a loop and a test want. -/
namespace L2
open PySem PySem.Spec PyProof.Rows

/-! ### the text by places -/
def defArgs (s : Stmt) : Arguments := match s with
  | .FunctionDef _ a _ _ _ _ _ _ _ _ => a
  | _ => { posonlyargs := [], args := [], vararg := none, kwonlyargs := [], kw_defaults := [], kwarg := none, defaults := [] }
def defBody (s : Stmt) : List Stmt := match s with
  | .FunctionDef _ _ b _ _ _ _ _ _ _ => b
  | _ => []
def defScope (s : Stmt) : Scope := match s with
  | .FunctionDef _ _ _ _ _ _ sc _ _ _ => sc
  | _ => { kind := .function, names := [], isGenerator := false, isCoroutine := false }

/-! ### no exception leaves a def -/
abbrev CX0 : CXT := fun _ _ _ _ _ _ => False
abbrev E0 : XK := fun _ _ _ => False
/-! ### a def (or method) of the text as it stands behind the top -/
structure Fun (K : PySem.W.Frag) (x qual : Str) (st : Stmt) (f : Addr) (fd : FuncData) : Prop where
  ex : ∃ (oc : Value) (od : Option Addr) (kV doc pm : Value) (an : Option Addr) (cdv ct : Value) (osl : Array (Option Value)),
    fd = PySem.W.fnOf x qual (defArgs st) (defBody st) (defScope st) .none kV doc pm an cdv ct ∧ K.lookup f = some ⟨oc, od, .func fd, osl⟩ ∧ PySem.W.codeIn K cdv qual = true
  kp : PySem.W.keepIn K (.ref f) = true
section
variable {P : Program} {w : World} {K : PySem.W.Frag} {mg : Str → Option Value} {base : Heap}
/-- THE RULE for a def: its body as a term of rules, and the reading of that term -/
theorem Fun.ok {x qual : Str} {st : Stmt} {f : Addr} {fd : FuncData} {N ps : List Str} {k : Nat} {sp : Sp} (F : Fun K x qual st f fd) (S : FnScope N ps (defScope st)) (len : ∀ vs H Q E, sp vs H Q E → vs.length = ps.length)
    (hbody : ∀ (cdv : Value) (A : Around) (outer : List Env) (s : Shared) (H : Hp) (vs : List V) (Q : VK) (E : XK), Room k (A.deeper (envOfC qual (defScope st) s.heap.objs.size f cdv)) → sp vs H Q E →
      ∃ t, PSs (cxOf CX0 P w K mg base N qual (defScope st) f cdv A outer s H E).nox (defBody st) t ∧ t { nx := fun _ H' => Q .non H', rt := Q } (start N vs) H) : FnOk P w K mg base CX0 (k + 1) f fd ps sp := by
  obtain ⟨oc, od, kV, doc, pm, an, cdv, ct, osl, rfl, lk, hcd⟩ := F.ex
  refine fn_of lk hcd S len fun A outer s H vs Q E hr hsp => ?_
  obtain ⟨t, h, q⟩ := hbody cdv A outer s H vs Q E hr hsp
  exact ⟨t, h.nox, q⟩
/-- how its arguments bind (no defaults): h is «fun _ _ _ _ _ _ us hl => match us, hl with | [_, _], _ => rfl», one _ a parameter -/
theorem Fun.binds {x qual : Str} {st : Stmt} {f : Addr} {fd : FuncData} {ps : List Str} (F : Fun K x qual st f fd)
    (h : ∀ (kV doc pm : Value) (an : Option Addr) (cdv ct : Value) (us : List Value), us.length = ps.length → bindArgs (PySem.W.fnOf x qual (defArgs st) (defBody st) (defScope st) .none kV doc pm an cdv ct) ⟨us, []⟩ = pure (ps.zip us)) : Binds K fd ps [] := by
  obtain ⟨oc, od, kV, doc, pm, an, cdv, ct, osl, rfl, lk, hcd⟩ := F.ex
  exact .all (h kV doc pm an cdv ct)
theorem fun_mk {x qual : Str} {st : Stmt} {f : Addr} {oc : Value} {od an : Option Addr} {osl : Array (Option Value)} {kV doc pm cdv ct : Value} (l : K.lookup f = some ⟨oc, od, .func (PySem.W.fnOf x qual (defArgs st) (defBody st) (defScope st) .none kV doc pm an cdv ct), osl⟩)
    (c : PySem.W.codeIn K cdv qual = true) (k : PySem.W.keepIn K (.ref f) = true) : Fun K x qual st f (PySem.W.fnOf x qual (defArgs st) (defBody st) (defScope st) .none kV doc pm an cdv ct) := ⟨⟨oc, od, kV, doc, pm, an, cdv, ct, osl, rfl, l, c⟩, k⟩
end
theorem hu_of {A : Around} {k : Nat} (hr : Room k A) : A.units + 1 < cLine := Nat.lt_of_le_of_lt (Nat.add_le_add_left (by decide : 1 ≤ 64) _) hr.units
theorem small1000 {n : Nat} (h : n ≤ 1000) : n < sizeLine := Nat.lt_of_le_of_lt h (by decide)

/-! ### expressions in short: the name that stands in the i-th slot -/
section
variable {X : Cx}
theorem pv (i : Nat) {x : Str} {pos : Pos} (hN : X.N[i]? = some x := by rfl) (hv : Vis X.env.scope x := by first | exact Or.inl rfl | exact Or.inr (Or.inl rfl) | exact Or.inr (Or.inr rfl)) (hd : (x == ("__debug__" : Str)) = false := by decide)
    (hcd : (x == ("__classdict__" : Str)) = false := by decide) : PE X (.Name x pos) (tVar i) := pe_var hN hv hd hcd
end

/-! ### tests -/
theorem iteF {A B : Prop} (h : B) : if false = true then A else B := by
  rw [if_neg Bool.false_ne_true]
  exact h
theorem iteT {A B : Prop} (h : A) : if true = true then A else B := by
  rw [if_pos rfl]
  exact h
theorem ite2 {c A B : Prop} [Decidable c] (h1 : c → A) (h2 : ¬ c → B) : if c then A else B := by
  by_cases h : c
  · rw [if_pos h]
    exact h1 h
  · rw [if_neg h]
    exact h2 h
/-! ### heaps -/
/-- all that was tracked is as it was -/
def Same (H H' : Hp) : Prop := ∀ b o, H b = some o → H' b = some o
theorem Same.refl (H : Hp) : Same H H := fun _ _ h => h
theorem Same.trans {H H1 H2 : Hp} (a : Same H H1) (b : Same H1 H2) : Same H H2 := fun c o h => b c o (a c o h)
theorem Same.free {H H' : Hp} (e : Same H H') {l : Addr} (h : H' l = Option.none) : H l = Option.none := by
  cases q : H l with
  | none => rfl
  | some o =>
    rw [e l o q] at h
    cases h
theorem Same.seq {K : PySem.W.Frag} {H H' : Hp} {a : Addr} {xs : List V} (e : Same H H') (h : SqL K H a xs) : SqL K H' a xs := by
  rcases h with (h | ⟨o, h⟩) | h
  · exact .inl (.inl (e _ _ h))
  · exact .inl (.inr ⟨o, e _ _ h⟩)
  · exact .inr h

end L2

set_option Elab.async false
set_option linter.all false
set_option maxRecDepth 100000
/-! A LIST COMPREHENSION of one clause, by the layer's judgements -/
namespace L2
open PySem PySem.Spec PyProof.Rows

/-! ### what a block closes over -/
def clStep (cells : List (Str × Addr)) (acc : List (Str × Addr)) (y : Str × NameKind) : List (Str × Addr) := if y.2 = .free then (y.1, (cells.lookup y.1).getD 0) :: acc else acc
def clOf (cells : List (Str × Addr)) (names : List (Str × NameKind)) : List (Str × Addr) := names.foldl (clStep cells) []
theorem forIn_fold {α β : Type} {f : α → β → Sem (ForInStep β)} {g : β → α → β} : ∀ (l : List α) (c : β), (∀ x ∈ l, ∀ c, f x c = pure (.yield (g c x))) → forIn l c f = (pure (l.foldl g c) : Sem β)
  | [], c, _ => rfl
  | x :: l, c, h => by
    rw [List.forIn_cons, h x List.mem_cons_self, pure_bind]
    exact forIn_fold l (g c x) fun y hy => h y (List.mem_cons_of_mem _ hy)
theorem closure_is {scope : Scope} {env : Env} (h : ∀ y ∈ scope.names, y.2 = .free → ∃ c, env.cells.lookup y.1 = some c) : closureFor scope env = pure (clOf env.cells scope.names) := by
  simp only [closureFor]
  rw [forIn_fold (g := clStep env.cells) scope.names [] (fun x hx c => by
    obtain ⟨n, k⟩ := x
    by_cases hk : k = .free
    · subst hk
      obtain ⟨a, ha⟩ := h _ hx rfl
      have ha' : env.cells.lookup n = some a := ha
      simp only [beq_self_eq_true, if_true, cellOf, ha', clStep, Option.getD_some]
      rfl
    · have hb : (k == NameKind.free) = false := by simpa using hk
      simp only [hb, Bool.false_eq_true, if_false, clStep, hk])]
  rfl
theorem cl_back {cells : List (Str × Addr)} {x : Str} {c : Addr} : ∀ (names : List (Str × NameKind)) (acc : List (Str × Addr)), (names.foldl (clStep cells) acc).lookup x = some c →
    acc.lookup x = some c ∨ (∃ y ∈ names, y.1 = x ∧ y.2 = .free) ∧ c = (cells.lookup x).getD 0
  | [], acc, h => .inl h
  | (n, k) :: r, acc, h => by
    rcases cl_back r _ h with q | ⟨⟨y, hy, e⟩, q⟩
    · unfold clStep at q
      by_cases hk : k = .free
      · rw [if_pos hk] at q
        by_cases hx : x = n
        · subst hx
          simp [List.lookup_cons] at q
          exact .inr ⟨⟨_, List.mem_cons_self, rfl, hk⟩, q.symm⟩
        · have hb : (x == n) = false := by simpa using hx
          simp only [List.lookup_cons, hb] at q
          exact .inl q
      · rw [if_neg hk] at q
        exact .inl q
    · exact .inr ⟨⟨y, List.mem_cons_of_mem _ hy, e⟩, q⟩
theorem cl_there {cells : List (Str × Addr)} {x : Str} : ∀ (names : List (Str × NameKind)) (acc : List (Str × Addr)), ((acc.lookup x).isSome = true ∨ ∃ y ∈ names, y.1 = x ∧ y.2 = .free) → ((names.foldl (clStep cells) acc).lookup x).isSome = true
  | [], acc, h => h.elim id fun ⟨_, hy, _⟩ => nomatch hy
  | (n, k) :: r, acc, h => by
    refine cl_there r _ ?_
    unfold clStep
    rcases h with h | ⟨y, hy, e1, e2⟩
    · refine .inl ?_
      by_cases hk : k = .free
      · rw [if_pos hk]
        cases hb : x == n <;> simp only [List.lookup_cons, hb]
        · exact h
        · rfl
      · rw [if_neg hk]; exact h
    · rcases List.mem_cons.mp hy with e | hy
      · subst e
        have e2' : k = .free := e2
        have e1' : n = x := e1
        refine .inl ?_
        rw [if_pos e2', e1']
        simp [List.lookup_cons]
      · exact .inr ⟨y, hy, e1, e2⟩

/-! ### the block's names: the targets first, then what is taken from around (js: where it stands there) -/
def compOk (sc : Scope) (N : List Str) (scope : Scope) (N' : List Str) (js : List (Option Nat)) : Bool :=
  decide (scope.kind = .function) && scope.names.all (fun y => decide (y.2 ≠ .cell)) && scope.names.all (fun y => decide (y.2 = .local → scope.names.lookup y.1 = some .local)) &&
  scope.names.all (fun y => decide (y.2 = .free → (sc.names.lookup y.1 = some .cell ∨ sc.names.lookup y.1 = some .free))) && decide N'.Nodup && decide (js.length = N'.length) &&
  (List.range js.length).all fun i => match js[i]? with
    | some (some j) => (match N'[i]? with
      | some x => decide (N[j]? = some x) && decide (scope.names.lookup x = some .free)
      | none => false)
    | _ => true
structure CompScope (sc : Scope) (N : List Str) (scope : Scope) (N' : List Str) (js : List (Option Nat)) : Prop where
  kind : scope.kind = .function
  cell : ∀ y ∈ scope.names, y.2 ≠ .cell
  names : ∀ y ∈ scope.names, y.2 = .local → scope.names.lookup y.1 = some .local
  free : ∀ y ∈ scope.names, y.2 = .free → (sc.names.lookup y.1 = some .cell ∨ sc.names.lookup y.1 = some .free)
  nd : N'.Nodup
  len : js.length = N'.length
  cap : ∀ (i j : Nat), js[i]? = some (some j) → ∃ x, N'[i]? = some x ∧ N[j]? = some x ∧ scope.names.lookup x = some .free
theorem compOk.scope {sc : Scope} {N : List Str} {scope : Scope} {N' : List Str} {js : List (Option Nat)} (h : compOk sc N scope N' js = true) : CompScope sc N scope N' js := by
  unfold compOk at h
  simp only [Bool.and_eq_true, decide_eq_true_eq, List.all_eq_true] at h
  obtain ⟨⟨⟨⟨⟨⟨h1, h2⟩, h3⟩, h4⟩, h5⟩, h6⟩, h7⟩ := h
  refine ⟨h1, h2, h3, h4, h5, h6, fun i j e => ?_⟩
  have hi : i < js.length := (List.getElem?_eq_some_iff.mp e).1
  have q := h7 i (List.mem_range.mpr hi)
  rw [e] at q
  cases z : N'[i]? with
  | none => simp [z] at q
  | some x =>
    simp only [z, Bool.and_eq_true, decide_eq_true_eq] at q
    exact ⟨x, rfl, q.1, q.2⟩
def capS (js : List (Option Nat)) (σ : St) : St := js.map fun o => o.bind fun j => (σ[j]?).join

/-- the context of the block -/
def cxComp (X : Cx) (scope : Scope) (N' : List Str) (cl : List (Str × Addr)) (C : Addr) (s : Shared) (H : Hp) (ex : List Addr) : Cx where
  prog := X.prog
  w := X.w
  K := X.K
  mg := X.mg
  base := X.base
  A := X.A
  N := N'
  s₀ := s
  H₀ := H
  env := compEnvC scope cl C X.env
  outer := X.stack
  stack := X.stack
  ex := ex
  fn := fun _ => false
  calm := X.calm
  pn := []
  xe := fun _ _ => False

theorem relabel_look {scope : Scope} {env : Env} {x : Str} {k : NameKind} (h : (relabel scope env).names.lookup x = some k) : ∃ k', scope.names.lookup x = some k' ∧ (k = k' ∨ (k' = .free ∧ k = .cell)) := by
  unfold relabel at h
  dsimp only at h
  generalize scope.names = l at h ⊢
  induction l with
  | nil => simp at h
  | cons y r ih =>
    obtain ⟨n, k0⟩ := y
    rw [List.map_cons] at h
    cases hb : x == n with
    | false =>
      have hk : List.lookup x ((n, k0) :: r) = List.lookup x r := by simp only [List.lookup_cons, hb]
      rw [hk]
      apply ih
      by_cases hc : (k0 == NameKind.free && env.scope.kind == .function && env.kindOf n == some .cell) = true
      · simp only [hc, if_true, List.lookup_cons, hb] at h; exact h
      · simp only [hc, if_false, List.lookup_cons, hb, Bool.false_eq_true] at h; exact h
    | true =>
      refine ⟨k0, by simp only [List.lookup_cons, hb], ?_⟩
      by_cases hc : (k0 == NameKind.free && env.scope.kind == .function && env.kindOf n == some .cell) = true
      · simp only [hc, if_true, List.lookup_cons, hb] at h
        have hf : k0 = .free := by
          simp only [Bool.and_eq_true, beq_iff_eq] at hc
          exact hc.1.1
        exact .inr ⟨hf, (Option.some.inj h).symm⟩
      · simp only [hc, if_false, List.lookup_cons, hb, Bool.false_eq_true] at h
        exact .inl (Option.some.inj h).symm

section
variable {X : Cx} {pins : List (Addr × Obj)} {σ : St} {H : Hp} {s : Shared} {scope : Scope} {N' : List Str} {js : List (Option Nat)} {C : Addr} {fp : List Addr}

theorem lookup_mem {α : Type} {x : Str} {k : α} : ∀ {l : List (Str × α)}, l.lookup x = some k → (x, k) ∈ l
  | [], h => by simp at h
  | (n, k0) :: r, h => by
    cases hb : x == n with
    | true =>
      simp only [List.lookup_cons, hb] at h
      have e : x = n := by simpa using hb
      cases h
      rw [e]
      exact List.mem_cons_self
    | false =>
      simp only [List.lookup_cons, hb] at h
      exact List.mem_cons_of_mem _ (lookup_mem h)

theorem comp_cells (I : Inv X pins σ H s) (S : CompScope X.env.scope X.N scope N' js) : (∀ y ∈ scope.names, y.2 = .free → ∃ c, X.env.cells.lookup y.1 = some c) ∧
    (∀ x c, (clOf X.env.cells scope.names).lookup x = some c → X.env.cells.lookup x = some c) ∧ ∀ x, scope.names.lookup x = some .free → ∃ c, (clOf X.env.cells scope.names).lookup x = some c := by
  have h1 : ∀ y ∈ scope.names, y.2 = .free → ∃ c, X.env.cells.lookup y.1 = some c := fun y hy e => I.ok.has y.1 (S.free y hy e)
  refine ⟨h1, fun x c e => ?_, fun x e => ?_⟩
  · rcases cl_back scope.names [] e with q | ⟨⟨y, hy, e1, e2⟩, q⟩
    · simp at q
    · obtain ⟨c', hc⟩ := h1 y hy e2
      rw [e1] at hc
      rw [hc] at q
      rw [hc, q]
      rfl
  · have q := cl_there (cells := X.env.cells) (x := x) scope.names [] (.inr ⟨_, lookup_mem e, rfl, rfl⟩)
    exact Option.isSome_iff_exists.mp q

theorem comp_ok (I : Inv X pins σ H s) (S : CompScope X.env.scope X.N scope N' js) (hf : ∀ b ∈ fp, FpOk X pins H b) (hfo : ∀ b ∈ fp, ∃ o, s.heap.get? b = some o) (hC : s.heap.objs.size ≤ C) :
    (cxComp X scope N' (clOf X.env.cells scope.names) C s H fp).Ok := by
  obtain ⟨c1, c2, c3⟩ := comp_cells I S
  have ok := I.ok
  refine ⟨ok.mod, S.kind, ok.glob, ok.blt, hC, fun x y c h1 h2 => ok.inj x y c (c2 x c h1) (c2 y c h2), fun x hx => ?_, fun x c h _ => ?_, ok.hd, ok.frames, .inl rfl, fun b hb => ⟨?_, fun x c h => ?_⟩, fun b o e => I.bs b o e,
    Nat.le_trans ok.bsz I.sz, fun b o e hb => ?_, fun b hb z => ?_, I.stack, I.stkFree⟩
  · have hx' : (relabel scope X.env).names.lookup x = some .cell ∨ (relabel scope X.env).names.lookup x = some .free := hx
    refine c3 x ?_
    rcases hx' with q | q
    · obtain ⟨k', e, z | z⟩ := relabel_look q
      · exact absurd z.symm (S.cell _ (lookup_mem e))
      · rw [e, z.1]
    · obtain ⟨k', e, z | z⟩ := relabel_look q
      · rw [e, ← z]
      · rw [e, z.1]
  · cases h
  · obtain ⟨o, e⟩ := hfo b hb
    exact Nat.ne_of_lt (Nat.lt_of_lt_of_le (Heap.lt_size e) hC)
  · exact (hf b hb).2.2.2.2.1 x c (c2 x c h)
  · rcases (hf b hb).2.2.2.1 with z | z
    · exact ok.noex b o e z
    · exact absurd (Nat.lt_of_lt_of_le (Heap.lt_size (ok.bs b o e).1) z) (Nat.lt_irrefl _)
  · rcases List.mem_cons.mp (I.stkSub b z) with q | q
    · exact (hf b hb).2.1 q
    · exact (hf b hb).2.2.1 q

theorem comp_start {h' : Heap} {tk : Nat} {D : Addr} {oD : Obj} (I : Inv X pins σ H s) (S : CompScope X.env.scope X.N scope N' js) (hf : ∀ b ∈ fp, FpOk X pins H b) (hfo : ∀ b ∈ fp, ∃ o, s.heap.get? b = some o) (hC : s.heap.objs.size ≤ C) (hD : s.heap.objs.size ≤ D) (hDC : D ≠ C)
    (old : ∀ b o, s.heap.get? b = some o → h'.get? b = some o) (hns : h'.Ns C fun _ => none) (hoD : h'.get? D = some oD) (hcD : ∀ v, oD.data ≠ .cell v) :
    Inv (cxComp X scope N' (clOf X.env.cells scope.names) C s H fp) [(D, oD)] (capS js σ) H { s with heap := h', toks := tk } := by
  obtain ⟨c1, c2, c3⟩ := comp_cells I S
  refine ⟨comp_ok I S hf hfo hC, rfl, I.bare, Un.kept old, ⟨_, hns, fun i x v e1 e2 e3 => ?_⟩, fun x c e => ?_, I.hok.fresh hC, fun x c e => I.freeC x c (c2 x c e), fun p hp => ?_, I.hok.kept old, ?_⟩
  · have e2' : (capS js σ)[i]? = some (some v) := e2
    unfold capS at e2'
    rw [List.getElem?_map] at e2'
    cases q : js[i]? with
    | none => rw [q] at e2'; cases e2'
    | some o =>
      rw [q] at e2'
      cases o with
      | none => cases e2'
      | some j =>
        obtain ⟨x', a1, a2, a3⟩ := S.cap i j q
        have a0 : N'[i]? = some x := e1
        rw [a0] at a1
        cases a1
        have e4 : σ[j]? = some (some v) := by
          have z := Option.some.inj e2'
          simp only [Option.bind] at z
          cases r : σ[j]? with
          | none => rw [r] at z; cases z
          | some o => rw [r] at z; simpa using z
        obtain ⟨m, hn, hl⟩ := I.loc
        have hk := S.free _ (lookup_mem a3) rfl
        obtain ⟨u, ru, lk⟩ := hl j x v a2 e4 (by rcases hk with z | z; exact .inr (.inl z); exact .inr (.inr z))
        refine ⟨u, ru, .inr ⟨?_, ?_⟩⟩
        · have e3' : (relabel scope X.env).names.lookup x = some .local ∨ (relabel scope X.env).names.lookup x = some .cell ∨ (relabel scope X.env).names.lookup x = some .free := e3
          rcases e3' with z | z | z
          · obtain ⟨k', b1, b2 | b2⟩ := relabel_look z
            · rw [a3] at b1; cases b1; cases b2
            · cases b2.2
          · exact .inl z
          · exact .inr z
        · rcases lk with ⟨z1, _⟩ | ⟨_, c, z1, z2⟩
          · rcases hk with z | z
            · rw [show X.env.kindOf x = some .cell from z] at z1; cases z1
            · rw [show X.env.kindOf x = some .free from z] at z1; cases z1
          · obtain ⟨c', hc'⟩ := c3 x a3
            have hcc := c2 x c' hc'
            rw [z1] at hcc
            cases hcc
            obtain ⟨oc, hoc, hd⟩ := z2
            exact ⟨c, hc', oc, old _ _ hoc, hd⟩
  · obtain ⟨v, o, ho, hd⟩ := I.cell x c (c2 x c e)
    exact ⟨v, o, old _ _ ho, hd⟩
  · have e : p = (D, oD) := List.mem_singleton.mp (show p ∈ [(D, oD)] from hp)
    subst e
    refine ⟨hoD, I.hok.fresh hD, hDC, fun z => ?_, hcD⟩
    have z' : D ∈ frs X.stack := z
    rcases List.mem_cons.mp (I.stkSub D z') with q | q
    · exact absurd (Nat.lt_of_lt_of_le I.lt hD) (by rw [q]; exact Nat.lt_irrefl _)
    · exact I.nofs hD q
  · show (capS js σ).length = N'.length
    unfold capS
    rw [List.length_map, S.len]
end

/-! ### the tests -/
def PIfs (X : Cx) (ifs : List Expr) (t : TT) : Prop :=
  ∀ (pins : List (Addr × Obj)) (s : Shared) (σ : St) (H : Hp) (Q : Bool → Hp → Prop), Inv X pins σ H s → t σ H Q →
    wpAny (model X.prog X.w) X.A (forIn ifs true fun c r => if r = true then do let ok ← isTrue c X.env (eval c X.env); pure (ForInStep.yield ok) else pure (ForInStep.yield r)) (TP X pins σ Q) X.xe s
def tYes : TT := fun _ H Q => Q true H
theorem pif_nil {X : Cx} : PIfs X [] tYes := fun _ _ σ H _ I h => wpAny_tests_nil ⟨H, I, h⟩
theorem pif_one {X : Cx} {c : Expr} {t : TT} (h : PT X c t) : PIfs X [c] t := fun pins s σ H Q I q => wpAny_tests_one (h pins s σ H Q I q)

theorem compLoop_go {prog : Program} {w : World} {A : Around} {R : Result → Shared → Prop} {s : Shared} {elt target iter : Expr} {ifs : List Expr} {scope : Scope} {pos : Pos} {it acc : Value} {env : Env} (I : Nat → Shared → Prop)
    (turn : ∀ n s, I n s → wpAny (model prog w) A (pyNext it) (fun r s₁ => match r with
      | none => R (.ok .next) s₁
      | some v => wpAny (model prog w) A (letOwnedTupleGo target it v) (fun _ s₁' => wpAny (model prog w) A (assign target env v) (fun _ s₂ =>
          wpAny (model prog w) A (forIn ifs true fun c r => if r = true then do let ok ← isTrue c env (eval c env); pure (ForInStep.yield ok) else pure (ForInStep.yield r)) (fun ok s₃ =>
            if ok = true then wpAny (model prog w) A (eval elt env) (fun x s₄ =>
              wpAny (model prog w) A (call (.builtin "list.append") [acc, x]) (fun _ s₅ => ∃ m, m < n ∧ I m s₅) (fun _ _ => False) s₄) (fun _ _ => False) s₃
            else ∃ m, m < n ∧ I m s₃) (fun _ _ => False) s₂) (fun _ _ => False) s₁') (fun _ _ => False) s₁) (fun _ _ => False) s)
    (n : Nat) (h : I n s) : codeAny (model prog w) A (.compLoop (.ListComp elt [⟨target, iter, ifs, 0⟩] scope pos) 0 it acc env) R s := by
  refine codeAny_loop rfl I (fun n s hI => ?_) n h
  show wpAny _ A ((compTurn (.ListComp elt [⟨target, iter, ifs, 0⟩] scope pos) 0 it acc env).onRaise (fun x => do noteFrame x env; theTreesLotGoes x)) _ _ s
  refine wpAny_noted ?_
  rw [compTurn_list]
  refine wpAny_bind (wpAny_standAt (wpAny_bind (wpAny_mono (turn n s hI) (fun r s₁ h₁ => ?_) fun _ _ h' => h'.elim)))
  cases r with
  | none => exact wpAny_pure h₁
  | some v =>
    refine wpAny_bind (wpAny_mono h₁ (fun _ s₁' h₁' => ?_) fun _ _ h' => h'.elim)
    refine wpAny_bind (wpAny_mono h₁' (fun _ s₂ h₂ => wpAny_bind (wpAny_mono h₂ (fun ok s₃ h₃ => ?_) fun _ _ h' => h'.elim)) fun _ _ h' => h'.elim)
    cases ok with
    | false => exact wpAny_pure ⟨rfl, h₃⟩
    | true =>
      exact wpAny_bind (wpAny_bind (wpAny_mono h₃ (fun x s₄ h₄ => wpAny_bind (wpAny_mono h₄ (fun _ s₅ h₅ => wpAny_pure (wpAny_pure ⟨rfl, h₅⟩)) fun _ _ h' => h'.elim)) fun _ _ h' => h'.elim))

/-! ### the reading -/
/-- the block's turns over J, from the state σ0 at each turn; fin: what is wanted of the collected values and the heap -/
def Sub (σ0 σ2 : St) : Prop := ∀ (i : Nat) v, σ0[i]? = some (some v) → σ2[i]? = some (some v)
theorem Sub.refl (σ : St) : Sub σ σ := fun _ _ h => h
theorem Sub.trans {a b c : St} (h : Sub a b) (k : Sub b c) : Sub a c := fun i v e => k i v (h i v e)
theorem Sub.set {σ : St} {i : Nat} {v : V} (h : σ[i]? = some none) : Sub σ (σ.set i (some v)) := fun j u e => by
  by_cases hj : i = j
  · subst hj
    rw [h] at e
    cases e
  · rw [List.getElem?_set_ne hj]
    exact e
def LCr (J : It) (H1 : Hp) (σ0 : St) (g : TG) (tc : TT) (te : TE) (fin : List V → Hp → Prop) : Prop := ∃ W : Nat → Nat → List V → Hp → Prop, (∃ m, W 0 m [] H1) ∧ ∀ i m ys H, W i m ys H →
  (J.stop i H ∧ fin ys H) ∨ (J.go i H ∧ ys.length < sizeLine ∧ ∃ N : List V → Hp → Prop, (∀ ys' H', N ys' H' → ∃ m', m' < m ∧ W (i + 1) m' ys' H') ∧
    ∀ x H', J.yld i H x H' → g x σ0 H' fun σ2 H2 => Sub σ0 σ2 ∧ tc σ2 H2 fun b H3 => if b = true then te σ2 H3 fun v H4 => N (ys ++ [v]) H4 else N ys H3)
def tLC (wi : TI) (js : List (Option Nat)) (g : TG) (tc : TT) (te : TE) : TE := fun σ H Q => wi σ H fun J H1 => LCr J H1 (capS js σ) g tc te fun ys H2 => ∀ p, H2 p = none → Q (.ref p) (upd H2 p (.lst ys))

section
variable {X : Cx} {pins : List (Addr × Obj)} {σ : St} {H : Hp} {s : Shared} {scope : Scope} {N' : List Str} {js : List (Option Nat)} {C : Addr} {fp : List Addr}
abbrev lstO (its : List Value) : Obj := { cls := .type "list", data := .seq its.toArray its.length }
/-- the block's end, seen from around: the list is tracked, the block's frame is pinned -/
theorem comp_end {D : Addr} {its : List Value} {ys : List V} {H' : Hp} {σ' : St} {s' : Shared} (I : Inv X pins σ H s) (hf : ∀ b ∈ fp, FpOk X pins H b) (hC : s.heap.objs.size ≤ C) (hD : s.heap.objs.size ≤ D)
    (J : Inv (cxComp X scope N' (clOf X.env.cells scope.names) C s H fp) [(D, lstO its)] σ' H' s') (rv : Vals ys its) (hz : ys.length ≤ sizeLine) :
    ∃ oC m, s'.heap.get? C = some oC ∧ s'.heap.Ns C m ∧ H' D = none ∧ (∀ h'' : Heap, h''.get? C = some oC → h''.Ns C m) ∧ Inv X (pins ++ [(C, oC)]) σ (upd H' D (.lst ys)) s' := by
  obtain ⟨m, hn, _⟩ := J.loc
  obtain ⟨oC, es, ep, hoC, hdC, hr⟩ := id hn
  have pD := J.pin (D, lstO its) (List.mem_append_right _ (List.mem_singleton.mpr rfl))
  obtain ⟨gD, nD, neD, _, _⟩ := pD
  have oldlt : ∀ b o, s.heap.get? b = some o → b ≠ D := fun b o e z => absurd (Nat.lt_of_lt_of_le (Heap.lt_size e) (by rw [z]; exact hD)) (Nat.lt_irrefl _)
  have trlt : ∀ b o, H b = some o → b ≠ D := fun b o e z => absurd (Nat.lt_of_lt_of_le (I.hok.lt e) (by rw [z]; exact hD)) (Nat.lt_irrefl _)
  have un : Un (frs X.stack) fp H (upd H' D (.lst ys)) s.heap s'.heap := by
    have b := J.base
    refine ⟨b.keep, b.slot, fun c o e n hx => ?_, b.there, fun c xs e => ?_, fun c o u e => ?_, fun c ps e => ?_⟩
    · rw [upd_ne (oldlt c o e)]; exact b.free c o e n hx
    · rw [upd_ne (trlt c _ e)]; exact b.tups c xs e
    · rw [upd_ne (trlt c _ e)]; exact b.frzs c o u e
    · obtain ⟨more, q⟩ := b.tbls c ps e
      exact ⟨more, by rw [upd_ne (trlt c _ e)]; exact q⟩
  have hok : HOk X.prog X.w (upd H' D (.lst ys)) s'.heap := fun b u e => by
    by_cases hb : b = D
    · subst hb
      rw [upd_same] at e
      cases e
      exact ⟨hz, its, _, rv, gD⟩
    · rw [upd_ne hb] at e
      exact (J.hok b u e).stay (fun c v _ q => q) (fun c q => by rw [upd_ne (ne_of_none q nD)]; exact q) fun c xs q => by rw [upd_ne (ne_of_none q nD)]; exact q
  have I2 : Inv X pins σ (upd H' D (.lst ys)) s' := I.call' (ch := fp) J.os un hok J.bare fun b hb => ⟨(hf b hb).2.2.2.1, (hf b hb).2.1, (hf b hb).2.2.2.2.1, (hf b hb).2.2.2.2.2⟩
  refine ⟨oC, m, hoC, hn, nD, fun h'' e => ⟨oC, es, ep, e, hdC, hr⟩, I2.pins_of fun p hp => ?_⟩
  rcases List.mem_append.mp hp with hp | hp
  · exact I2.pin p (List.mem_append_right _ hp)
  · have e := List.mem_singleton.mp hp
    subst e
    refine ⟨hoC, ?_, ?_, ?_, fun v z => ?_⟩
    · show upd H' D (.lst ys) C = none
      have neD' : C ≠ D := fun z => neD z.symm
      rw [upd_ne neD']
      exact J.free
    · exact Nat.ne_of_gt (Nat.lt_of_lt_of_le I.lt hC)
    · exact I.nofs hC
    · rw [hdC] at z; cases z
end

section
variable {X : Cx} {tg iter elt : Expr} {ifs : List Expr} {scope : Scope} {N' : List Str} {js : List (Option Nat)} {wi : TI} {g : TG} {tc : TT} {te : TE} {pos : Pos}

/-- the block runs -/
theorem comp_block {pins : List (Addr × Obj)} {σ : St} {H : Hp} {s : Shared} {E : Value → Shared → Prop} {it : Addr} {fp : List Addr} {tn : Nat → Heap → Prop} {J : It} {fin : List V → Hp → Prop} {RR : Value → Addr → Result → Shared → Prop}
    (hcalm : X.calm = true) (S : CompScope X.env.scope X.N scope N' js)
    (hg : ∀ cl C s H ex, PG (cxComp X scope N' cl C s H ex) tg g) (hc : ∀ cl C s H ex, PIfs (cxComp X scope N' cl C s H ex) ifs tc) (he : ∀ cl C s H ex, PE (cxComp X scope N' cl C s H ex) elt te)
    (I : Inv X pins σ H s) (T : Turn X.prog X.w X.K tg J fp it tn) (st : tn 0 s.heap) (hf : ∀ b ∈ fp, FpOk X pins H b) (L : LCr J H (capS js σ) g tc te fin)
    (hRR : ∀ (D C : Addr) (oC : Obj) (m : Str → Option Value) (H' : Hp) (ys : List V) (s' : Shared), fin ys H' → H' D = none → s.heap.objs.size ≤ C → s'.heap.get? C = some oC → (∀ h'' : Heap, h''.get? C = some oC → h''.Ns C m) → C ≠ D → H' C = none →
      Inv X (pins ++ [(C, oC)]) σ (upd H' D (.lst ys)) s' → RR (.ref D) C (.ok .next) s') :
    wpAny (model X.prog X.w) X.A (newList []) (fun acc s₃ => wpAny (model X.prog X.w) X.A (newFunctionEnv scope X.env.globals (clOf X.env.cells scope.names) [] X.env.qual none .none (some X.env)) (fun cenv s₄ =>
      codeAny (model X.prog X.w) X.A (.compStart (.ListComp elt [⟨tg, iter, ifs, 0⟩] scope pos) 0 (.ref it) acc { cenv with scope := relabel scope X.env }) (RR acc cenv.locals) s₄) E s₃) E s := by
  refine wpAny_newObj_type (wpAny_newFunctionEnv S.cell (by intro y hy; simp at hy) (fun h₁ hns₁ hsb₁ => ?_) S.kind)
  dsimp only at hns₁ hsb₁ ⊢
  generalize hH2 : s.heap.push { cls := .type "list", dict := none, data := .seq ([] : List Value).toArray } = H2 at hns₁ hsb₁ ⊢
  have hC : H2.objs.size = s.heap.objs.size + 1 := by rw [← hH2, Heap.size_push]
  have hDC : s.heap.objs.size ≠ H2.objs.size := by rw [hC]; exact Nat.ne_of_lt (Nat.lt_succ_self _)
  have hCle : s.heap.objs.size ≤ H2.objs.size := by rw [hC]; exact Nat.le_succ _
  have old : ∀ b o, s.heap.get? b = some o → h₁.get? b = some o := fun b o e => hsb₁.extBut b o (by rw [hC]; exact Nat.ne_of_lt (Nat.lt_succ_of_lt (Heap.lt_size e))) (Heap.get?_push_of_some _ (hH2 ▸ Heap.get?_push_of_some _ e))
  have hacc : h₁.get? s.heap.objs.size = some (lstO []) := hsb₁.extBut _ _ hDC (Heap.get?_push_of_some _ (hH2 ▸ Heap.get?_push_size _ rfl))
  have fpo : ∀ b ∈ fp, ∃ o, s.heap.get? b = some o := fun b hb => let ⟨o, e, _⟩ := T.obj _ _ st b hb; ⟨o, e⟩
  have fplt : ∀ b ∈ fp, b < s.heap.objs.size := fun b hb => let ⟨o, e⟩ := fpo b hb; Heap.lt_size e
  obtain ⟨W, ⟨m0, w0⟩, turn⟩ := L
  generalize hs5 : ({ s with heap := h₁, toks := s.toks + ([] : List (Str × Value)).length } : Shared) = s5
  have I5 : Inv (cxComp X scope N' (clOf X.env.cells scope.names) H2.objs.size s H fp) [(s.heap.objs.size, lstO [])] (capS js σ) H s5 := by
    subst hs5
    exact comp_start I S hf fpo hCle (Nat.le_refl _) hDC old (by simpa using hns₁) hacc (fun v z => by cases z)
  have st5 : tn 0 s5.heap := by
    subst hs5
    exact T.keep _ _ _ st fun b hb o e => old b o e
  have stat : ∀ {H' : Hp} {its : List Value}, (∀ b ∈ fp, H' b = none) → ∀ b ∈ fp, FpOk (cxComp X scope N' (clOf X.env.cells scope.names) H2.objs.size s H fp) [(s.heap.objs.size, lstO its)] H' b := fun {H' its} hn b hb => by
    obtain ⟨f0, f1, f2, f3, f4, f5⟩ := hf b hb
    have ok := comp_ok (C := H2.objs.size) I S hf fpo hCle
    refine ⟨hn b hb, (ok.exf b hb).1, ok.exfs b hb, .inl hb, (ok.exf b hb).2, fun p hp => ?_⟩
    have e : p = (s.heap.objs.size, lstO its) := List.mem_singleton.mp (show p ∈ [(s.heap.objs.size, lstO its)] from hp)
    rw [e]
    exact Nat.ne_of_gt (fplt b hb)
  have loop : codeAny (model X.prog X.w) X.A (.compLoop (.ListComp elt [⟨tg, iter, ifs, 0⟩] scope pos) 0 (.ref it) (.ref s.heap.objs.size) (compEnvC scope (clOf X.env.cells scope.names) H2.objs.size X.env)) (RR (.ref s.heap.objs.size) H2.objs.size) s5 := by
    refine compLoop_go (fun n s' => ∃ i H' ys its, Inv (cxComp X scope N' (clOf X.env.cells scope.names) H2.objs.size s H fp) [(s.heap.objs.size, lstO its)] (capS js σ) H' s' ∧ Vals ys its ∧ ys.length ≤ sizeLine ∧ tn i s'.heap ∧ (∀ b ∈ fp, H' b = none) ∧ W i n ys H') ?_ m0
      ⟨0, H, [], [], I5, .nil, Nat.zero_le _, st5, fun b hb => (hf b hb).1, w0⟩
    rintro n s3 ⟨i, H3, ys, its, I3, rv, hz, st3, fr3, w3⟩
    rcases turn i n ys H3 w3 with ⟨stop, qn⟩ | ⟨go, hlt, N, hN, step⟩
    · refine thn (T.done (cxComp X scope N' (clOf X.env.cells scope.names) H2.objs.size s H fp) rfl rfl rfl hcalm i _ s3 _ H3 _ I3 (stat fr3) st3 stop) fun r s4 ⟨hr, I4⟩ => ?_
      subst hr
      obtain ⟨oC, m, e1, e2, e3, e4, I6⟩ := comp_end I hf hCle (Nat.le_refl _) I4 rv hz
      exact hRR _ _ oC m H3 ys s4 qn e3 hCle e1 e4 (Ne.symm hDC) I4.free I6
    · refine thn (T.item (cxComp X scope N' (clOf X.env.cells scope.names) H2.objs.size s H fp) rfl rfl rfl hcalm i _ s3 _ H3 _ I3 (stat fr3) st3 go) fun r s4 ⟨u, hr, h4⟩ => ?_
      subst hr
      refine thn h4 fun _ s5' ⟨x, H5, I5', r5, y5, st5', fr5⟩ => ?_
      have I5'' := I5'.pinned (stat fr5) (T.obj _ _ st5')
      refine thn (hg _ _ _ _ _ _ s5' _ H5 x u _ I5'' r5 (step x H5 y5)) fun _ s6 ⟨σ6, H6, I6, sub6, q6⟩ => ?_
      refine thn (hc _ _ _ _ _ _ s6 σ6 H6 _ I6 q6) fun ok s7 ⟨H7, I7, q7⟩ => ?_
      have back : ∀ {σ7 : St} {H7 : Hp} {s7 : Shared}, Inv (cxComp X scope N' (clOf X.env.cells scope.names) H2.objs.size s H fp) ([(s.heap.objs.size, lstO its)] ++ pinsAt fp s5'.heap) σ7 H7 s7 → σ7.length = (capS js σ).length ∧ tn (i + 1) s7.heap ∧ ∀ b ∈ fp, H7 b = none := fun {σ7 H7 s7} I7 =>
        ⟨by rw [I7.len, I3.len], T.keep _ _ _ st5' fun b hb o e => (I7.pin (b, o) (List.mem_append_right _ (List.mem_append_right _ (mem_pinsAt hb e)))).1, fun b hb => by
          obtain ⟨o, e, d⟩ := T.obj _ _ st5' b hb
          exact (I7.pin (b, o) (List.mem_append_right _ (List.mem_append_right _ (mem_pinsAt hb e)))).2.1⟩
      have down : ∀ {H7 : Hp} {s7 : Shared}, Inv (cxComp X scope N' (clOf X.env.cells scope.names) H2.objs.size s H fp) ([(s.heap.objs.size, lstO its)] ++ pinsAt fp s5'.heap) σ6 H7 s7 →
          Inv (cxComp X scope N' (clOf X.env.cells scope.names) H2.objs.size s H fp) [(s.heap.objs.size, lstO its)] (capS js σ) H7 s7 := fun {H7 s7} I7 => I7.unpinned.weak (back I7).1.symm sub6
      cases ok with
      | false =>
        rw [if_neg Bool.false_ne_true]
        rw [if_neg Bool.false_ne_true] at q7
        obtain ⟨m', hm, w7⟩ := hN _ _ q7
        obtain ⟨b1, b2, b3⟩ := back I7
        exact ⟨m', hm, i + 1, H7, ys, its, down I7, rv, hz, b2, b3, w7⟩
      | true =>
        rw [if_pos rfl]
        rw [if_pos rfl] at q7
        refine thn (he _ _ _ _ _ _ s7 σ6 H7 _ I7 q7) fun y s8 ⟨v8, H8, I8, r8, q8⟩ => ?_
        obtain ⟨m', hm, w8⟩ := hN _ _ q8
        obtain ⟨b1, b2, b3⟩ := back I8
        have I9 := down I8
        obtain ⟨gD, nD, neD, nfD, dD⟩ := I9.pin (s.heap.objs.size, lstO its) (List.mem_append_right _ (List.mem_singleton.mpr rfl))
        have hlen := rv.length
        refine append_at (hsz := by show its.toArray.size ≤ sizeLine; rw [List.size_toArray]; omega) gD fun h₉ hs₉ hD₉ => ?_
        have I10 : Inv (cxComp X scope N' (clOf X.env.cells scope.names) H2.objs.size s H fp) [] (capS js σ) H8 { s8 with heap := h₉ } :=
          (I9.pins_of (pins' := []) fun p hp => nomatch hp).turned (t' := s8.toks) (fun b o hb e => hs₉.extBut b o hb e) nD neD (.inr (Nat.le_refl _)) (fun x c e z => by
            obtain ⟨v, o, ho, hd⟩ := I9.cell x c e
            have gD' : s8.heap.get? s.heap.objs.size = some (lstO its) := gD
            rw [z, gD'] at ho
            cases ho
            exact dD v hd) fun p hp => absurd (show p ∈ ([] : List (Addr × Obj)) from hp) (by simp)
        have eD : h₉.get? s.heap.objs.size = some (lstO (its ++ [y])) := by
          rw [hD₉]
          show some ({ cls := .type "list", data := .seq (its.toArray.push y) (its.length + 1) } : Obj) = some { cls := .type "list", data := .seq (its ++ [y]).toArray (its ++ [y]).length }
          rw [List.length_append, List.length_singleton, List.push_toArray]
        refine ⟨m', hm, i + 1, H8, ys ++ [v8], its ++ [y], I10.pins_of fun p hp => ?_, rv.append (.cons r8 .nil), by rw [List.length_append, List.length_singleton]; omega, T.keep _ _ _ b2 fun b hb o e => hs₉.extBut b o (Nat.ne_of_lt (fplt b hb)) e, b3, w8⟩
        have e := List.mem_singleton.mp hp
        subst e
        exact ⟨eD, nD, neD, nfD, fun v z => by cases z⟩
  have loop' : codeAny (model X.prog X.w) X.A (.compLoop (.ListComp elt [⟨tg, iter, ifs, 0⟩] scope pos) 0 (.ref it) (.ref s.heap.objs.size) { newEnv scope H2.objs.size X.env.globals (clOf X.env.cells scope.names) X.env.qual none .none (some X.env) builtinsNs with scope := relabel scope X.env }) (RR (.ref s.heap.objs.size) H2.objs.size) s5 := loop
  exact codeAny_compStart_list loop' (T.self X.A 0 s5 _ _ st5 loop')

/-- [elt for tg in iter if ..] -/
theorem pe_lc (hcalm : X.calm = true) (S : CompScope X.env.scope X.N scope N' js) (hi : PI X tg iter wi)
    (hg : ∀ cl C s H ex, PG (cxComp X scope N' cl C s H ex) tg g) (hc : ∀ cl C s H ex, PIfs (cxComp X scope N' cl C s H ex) ifs tc) (he : ∀ cl C s H ex, PE (cxComp X scope N' cl C s H ex) elt te)
    (hs : ∀ x, foldedSetIterable iter X.env x = pure x := by intro _; rfl) : PE X (.ListComp elt [⟨tg, iter, ifs, 0⟩] scope pos) (tLC wi js g tc te) := by
  intro pins s σ H Q I h
  rw [eval_ListComp]
  refine wpAny_comprehension_free (use := none) rfl hs (closure_is (comp_cells I S).1) S.kind S.names ?_
  refine thn (hi pins s σ H _ I h) fun xv s₁ h₁ => thn h₁ fun itv s₂ h₂ => ?_
  obtain ⟨it, fp, tn, J, H2, e, I2, T, st2, f2, L⟩ := h₂
  subst e
  refine comp_block (RR := fun acc C => compPost (model X.prog X.w) X.A X.xe none (EP X pins σ Q) acc C) hcalm S hg hc he I2 T st2 f2 L fun D C oC m H' ys s' fn hD hCle gC hNs hCD nC I' => ?_
  refine ⟨m, hNs _ gC, fun h'' hs'' => ?_⟩
  have I3 : Inv X pins σ (upd H' D (.lst ys)) s' := I'.unpinned
  obtain ⟨_, _, pL, pfs, _⟩ := I'.pin (C, oC) (List.mem_append_right _ (List.mem_append_right _ (List.mem_singleton.mpr rfl)))
  have I4 : Inv X pins σ (upd H' D (.lst ys)) { s' with heap := h'' } := I3.turned (t' := s'.toks) (it := C) (fun b o hb e => hs''.extBut b o hb e) (by rw [upd_ne hCD]; exact nC) pL (.inr (Nat.le_trans I2.sz hCle)) (fun x c e z => by
    obtain ⟨v, o, ho, hd⟩ := I2.cell x c e
    exact absurd (Nat.lt_of_lt_of_le (Heap.lt_size ho) (by rw [z]; exact hCle)) (Nat.lt_irrefl _)) fun p hp z => by
    have q := (I2.pin p hp).1
    exact absurd (Nat.lt_of_lt_of_le (Heap.lt_size q) (by rw [z]; exact hCle)) (Nat.lt_irrefl _)
  exact ⟨.ref D, _, I4, rfl, fn D hD⟩

/-- name = [elt for tg in iter if ..], stored ahead of the block's names being let go -/
theorem ps_setlc {i : Nat} {y : Str} {py spos : Pos} (hcalm : X.calm = true) (hN : X.N.Nodup) (hiN : X.N[i]? = some y) (hy : Loc X.env.scope y) (S : CompScope X.env.scope X.N scope N' js) (hi : PI X tg iter wi)
    (hg : ∀ cl C s H ex, PG (cxComp X scope N' cl C s H ex) tg g) (hc : ∀ cl C s H ex, PIfs (cxComp X scope N' cl C s H ex) ifs tc) (he : ∀ cl C s H ex, PE (cxComp X scope N' cl C s H ex) elt te)
    (hsw : swapsWith (.ListComp elt [⟨tg, iter, ifs, 0⟩] scope pos) (some (.Name y py)) spos.line X.env = pure true := by rfl)
    (hf : X.fn y = true ∨ X.env.scope.names.lookup y = some .local := by first | exact .inl rfl | exact .inr rfl | assumption)
    (hs : ∀ x, foldedSetIterable iter X.env x = pure x := by intro _; rfl) : PS X (.Assign [.Name y py] (.ListComp elt [⟨tg, iter, ifs, 0⟩] scope pos) spos) (tAsg (tLC wi js g tc te) (gName i)) := by
  intro pins s σ H D0 I h
  rw [exec_Assign_Name_used _ _ _ _ hsw]
  refine wpAny_bind (wpAny_standAt (wpAny_bind ?_))
  show wpAny _ X.A (do let _ ← comprehension (.ListComp elt [⟨tg, iter, ifs, 0⟩] scope pos) scope X.env _ (newList []) false (eval iter X.env) (some (assign (.Name y py) X.env))) _ _ s
  refine wpAny_bind (thn (wpAny_comprehension_free (use := some (assign (.Name y py) X.env)) (Q := fun _ s' => SP X pins D0 .next s') rfl hs (closure_is (comp_cells I S).1) S.kind S.names ?_) fun _ s' hq => wpAny_pure (wpAny_pure hq))
  refine thn (hi pins s σ H _ I h) fun xv s₁ h₁ => thn h₁ fun itv s₂ h₂ => ?_
  obtain ⟨it, fp, tn, J, H2, e, I2, T, st2, f2, L⟩ := h₂
  subst e
  refine comp_block (RR := fun acc C => compPost (model X.prog X.w) X.A X.xe (some (assign (.Name y py) X.env)) (fun _ s' => SP X pins D0 .next s') acc C) hcalm S hg hc he I2 T st2 f2 L fun D C oC m H' ys s' fn hD hCle gC hNs hCD nC I' => ?_
  show wpAny _ X.A (assign (.Name y py) X.env (.ref D)) _ _ _
  refine wpAny_assign_Name (store_ok I' hN hiN hy (v := .ref D) rfl (fun s'' I'' => ?_) hf)
  obtain ⟨gC', _, pL, pfs, _⟩ := I''.pin (C, oC) (List.mem_append_right _ (List.mem_append_right _ (List.mem_singleton.mpr rfl)))
  refine ⟨m, hNs _ gC', fun h'' hs'' => ?_⟩
  have I3 := I''.unpinned
  have I4 : Inv X pins (σ.set i (some (.ref D))) (upd H' D (.lst ys)) { s'' with heap := h'' } := I3.turned (t' := s''.toks) (it := C) (fun b o hb e => hs''.extBut b o hb e) (by rw [upd_ne hCD]; exact nC) pL (.inr (Nat.le_trans I2.sz hCle)) (fun x c e z => by
    obtain ⟨v, o, ho, hd⟩ := I2.cell x c e
    exact absurd (Nat.lt_of_lt_of_le (Heap.lt_size ho) (by rw [z]; exact hCle)) (Nat.lt_irrefl _)) fun p hp z => by
    have q := (I2.pin p hp).1
    exact absurd (Nat.lt_of_lt_of_le (Heap.lt_size q) (by rw [z]; exact hCle)) (Nat.lt_irrefl _)
  exact ⟨_, _, I4, fn D hD⟩
end
end L2

set_option Elab.async false
set_option linter.all false
set_option maxRecDepth 100000
/-! range as a value, reversed(range), zip, sum, == of data -/
namespace L2
open PySem PySem.Spec PyProof.Rows

/-! ### data -/
mutual
inductive Rep (K : PySem.W.Frag) (H : Hp) : V → PyData → Prop
  | non : Rep K H .non .none
  | bl (b : Bool) : Rep K H (.bl b) (.bool b)
  | int (i : Int) : Rep K H (.int i) (.int i)
  | str (x : Str) : Rep K H (.str x) (.str x)
  | list {a : Addr} {xs : List V} {ds : List PyData} : SqL K H a xs → RepAll K H xs ds → Rep K H (.ref a) (.list ds)
  | tuple {a : Addr} {xs : List V} {ds : List PyData} : SqT K H a xs → RepAll K H xs ds → Rep K H (.ref a) (.tuple ds)
inductive RepAll (K : PySem.W.Frag) (H : Hp) : List V → List PyData → Prop
  | nil : RepAll K H [] []
  | cons {x : V} {d : PyData} {xs : List V} {ds : List PyData} : Rep K H x d → RepAll K H xs ds → RepAll K H (x :: xs) (d :: ds)
end
theorem Same.sqt {K : PySem.W.Frag} {H H' : Hp} {a : Addr} {xs : List V} (e : Same H H') (h : SqT K H a xs) : SqT K H' a xs := by
  rcases h with (h | ⟨o, h⟩) | h
  · exact .inl (.inl (e _ _ h))
  · exact .inl (.inr ⟨o, e _ _ h⟩)
  · exact .inr h
mutual
theorem Rep.same {K : PySem.W.Frag} {H H' : Hp} (e : Same H H') : ∀ {v : V} {d : PyData}, Rep K H v d → Rep K H' v d
  | _, _, .non => .non
  | _, _, .bl b => .bl b
  | _, _, .int i => .int i
  | _, _, .str x => .str x
  | _, _, .list h r => .list (e.seq h) (RepAll.same e r)
  | _, _, .tuple h r => .tuple (e.sqt h) (RepAll.same e r)
theorem RepAll.same {K : PySem.W.Frag} {H H' : Hp} (e : Same H H') : ∀ {vs : List V} {ds : List PyData}, RepAll K H vs ds → RepAll K H' vs ds
  | _, _, .nil => .nil
  | _, _, .cons h r => .cons (Rep.same e h) (RepAll.same e r)
end
theorem RepAll.length {K : PySem.W.Frag} {H : Hp} : ∀ {vs : List V} {ds : List PyData}, RepAll K H vs ds → vs.length = ds.length
  | _, _, .nil => rfl
  | _, _, .cons _ r => by rw [List.length_cons, List.length_cons, RepAll.length r]
theorem RepAll.get {K : PySem.W.Frag} {H : Hp} : ∀ {vs : List V} {ds : List PyData} {i : Nat} {v : V}, RepAll K H vs ds → vs[i]? = some v → ∃ d, ds[i]? = some d ∧ Rep K H v d
  | _, _, _, _, .nil, e => by simp at e
  | _, _, 0, _, .cons h _, e => by simp at e; subst e; exact ⟨_, rfl, h⟩
  | _, _, i + 1, v, .cons _ r, e => by
    obtain ⟨d, h1, h2⟩ := RepAll.get (i := i) (v := v) r (by simpa using e)
    exact ⟨d, by simpa using h1, h2⟩
theorem RepAll.getD {K : PySem.W.Frag} {H : Hp} : ∀ {vs : List V} {ds : List PyData} {i : Nat} {d : PyData}, RepAll K H vs ds → ds[i]? = some d → ∃ v, vs[i]? = some v ∧ Rep K H v d
  | _, _, _, _, .nil, e => by simp at e
  | _, _, 0, _, .cons h _, e => by simp at e; subst e; exact ⟨_, rfl, h⟩
  | _, _, i + 1, v, .cons _ r, e => by
    obtain ⟨d, h1, h2⟩ := RepAll.getD (i := i) (d := v) r (by simpa using e)
    exact ⟨d, by simpa using h1, h2⟩
theorem RepAll.append {K : PySem.W.Frag} {H : Hp} : ∀ {xs ys : List V} {ds es : List PyData}, RepAll K H xs ds → RepAll K H ys es → RepAll K H (xs ++ ys) (ds ++ es)
  | _, _, _, _, .nil, s => s
  | _, _, _, _, .cons h r, s => .cons h (RepAll.append r s)
theorem RepAll.snoc {K : PySem.W.Frag} {H : Hp} {xs : List V} {ds : List PyData} {y : V} {e : PyData} (r : RepAll K H xs ds) (h : Rep K H y e) : RepAll K H (xs ++ [y]) (ds ++ [e]) := r.append (.cons h .nil)
theorem RepAll.ints {K : PySem.W.Frag} {H : Hp} : ∀ (ns : List Int), RepAll K H (ns.map V.int) (ns.map PyData.int)
  | [] => .nil
  | n :: r => .cons (.int n) (RepAll.ints r)
theorem RepAll.strs {K : PySem.W.Frag} {H : Hp} : ∀ (ns : List Str), RepAll K H (ns.map V.str) (ns.map PyData.str)
  | [] => .nil
  | n :: r => .cons (.str n) (RepAll.strs r)
theorem RepAll.strs_inv {K : PySem.W.Frag} {H : Hp} : ∀ {ns : List Str} {xs : List V}, RepAll K H xs (ns.map PyData.str) → xs = ns.map V.str
  | [], _, .nil => rfl
  | n :: r, _, .cons h t => by cases h; rw [RepAll.strs_inv t]; rfl
section
variable {X : Cx} {pins : List (Addr × Obj)} {σ : St} {H : Hp} {s : Shared}
mutual
theorem Inv.reads (I : Inv X pins σ H s) : ∀ {v : V} {d : PyData} {u : Value}, Rep X.K H v d → RelV v u → ∃ as, Reads s.heap u d as
  | _, _, _, .non, r => by obtain rfl : _ = Value.none := r; exact ⟨_, .none⟩
  | _, _, _, .bl b, r => by obtain rfl : _ = Value.bool b := r; exact ⟨_, .bool b⟩
  | _, _, _, .int i, r => by obtain ⟨t, rfl⟩ := r; exact ⟨_, .int i t⟩
  | _, _, _, .str x, r => by obtain ⟨t, rfl⟩ := r; exact ⟨_, .str x t⟩
  | _, _, _, .list (a := a) h q, r => by
    obtain rfl : _ = Value.ref a := r
    obtain ⟨its, rv, ⟨o, n, e, c, d, z⟩, _⟩ := I.list h
    obtain ⟨as, p⟩ := I.readsAll q rv
    exact ⟨_, .list e c z (by simpa using p)⟩
  | _, _, _, .tuple (a := a) h q, r => by
    obtain rfl : _ = Value.ref a := r
    obtain ⟨its, rv, ⟨o, e, c, n, z⟩, _⟩ := I.tuple h
    obtain ⟨as, p⟩ := I.readsAll q rv
    exact ⟨_, .tuple e c z (by simpa using p)⟩
theorem Inv.readsAll (I : Inv X pins σ H s) : ∀ {vs : List V} {ds : List PyData} {us : List Value}, RepAll X.K H vs ds → Vals vs us → ∃ as, ReadsAll s.heap us ds as
  | _, _, _, .nil, .nil => ⟨_, .nil⟩
  | _, _, _, .cons h q, .cons r t => by
    obtain ⟨as, p⟩ := I.reads h r
    obtain ⟨bs, p'⟩ := I.readsAll q t
    exact ⟨_, .cons p p'⟩
end
end
/-- x == y of data -/
def rEqD (K : PySem.W.Frag) : R2 := fun x y H Q => ∃ d e, Rep K H x d ∧ Rep K H y e ∧ SeqAt.shaped d = true ∧ SeqAt.shaped e = true ∧ Q (.bl (PyData.eqv d e)) H
theorem op_eqD {X : Cx} (hu : X.A.units + 64 < cLine) : OpR X (compareOp .Eq) (rEqD X.K) := by
  intro pins s σ H x y v u Q I rx ry h
  obtain ⟨d, e, hd, he, s1, s2, q⟩ := h
  obtain ⟨as, ra⟩ := I.reads hd rx
  obtain ⟨bs, rb⟩ := I.reads he ry
  exact eq_dataH ra rb s1 s2 hu ⟨.bl _, H, I, rfl, q⟩
/-! ### range as a value -/
theorem call_range1 {X : Cx} : CallR X (.type "range") (fun xs H Q => ∃ j : Int, xs = [.int j] ∧ ∀ r, H r = none → Q (.ref r) (upd H r (.rng 0 j))) := by
  intro pins s σ H xs us Q I r h
  obtain ⟨j, rfl, q⟩ := h
  obtain ⟨u, rfl, t, rfl⟩ := vals1 r
  refine call_range_1 ⟨.ref s.heap.objs.size, _, I.laid (a := s.heap.objs.size) (o := .rng 0 j) (fun b o e => Heap.get?_push_of_some _ e) (Nat.le_refl _) ⟨_, _, _, Heap.get?_push_size _ rfl⟩, rfl, q _ (I.hok.fresh (Nat.le_refl _))⟩

/-! ### reversed(range) -/
def Itd (top : Int) (n : Nat) : It := ⟨fun i _ => i < n, fun i H x H' => H' = H ∧ x = .int (top - i), fun i _ => n ≤ i⟩
theorem turn_down {P : Program} {w : World} {K : PySem.W.Frag} {tg : Expr} (it : Addr) (top : Int) (n : Nat) : Turn P w K tg (Itd top n) [it] it (fun i h => IsRangeIter h it (top + (i : Nat) * (-1)) ((n : Int) - (i : Nat)) (-1)) where
  mem := by simp
  obj := fun i h st b hb => by
    have e : b = it := by simpa using hb
    subst e
    exact ⟨_, st, fun v z => by
      have z' : Data.fields _ = Data.cell v := z
      cases z'⟩
  keep := fun i h h' st k => k it (by simp) _ st
  item := by
    intro X hP hw hK hc i pins s σ H E I hf st hg
    subst hP hw hK
    obtain ⟨f0, f1, f2, f3, f4, f5⟩ := hf it (by simp)
    have W := Walks.range (prog := X.prog) (w := X.w) (I.ok.hd hc) it top (-1) n
    refine W.item i s _ _ hg st fun v h' tk hv st' kk => ?_
    obtain ⟨t, rfl⟩ := hv
    have I1 : Inv X pins σ H { s with heap := h', toks := tk } := I.turned (fun b o hb e => kk b o (by simpa using hb) e) f0 f1 f3 f4 f5
    refine ⟨_, rfl, go_of (s := { s with heap := h', toks := tk }) (n := "range_iterator") st' rfl rfl (by decide) ⟨.int (top - i), H, I1, ⟨t, ?_⟩, ⟨rfl, rfl⟩, st', fun b hb => (hf b hb).1⟩⟩
    congr 1
    omega
  done := by
    intro X hP hw hK hc i pins s σ H E I hf st hg
    subst hP hw hK
    obtain ⟨f0, f1, f2, f3, f4, f5⟩ := hf it (by simp)
    exact wpAny_pyNext_range_end (I.ok.hd hc) st (by have : n ≤ i := hg; omega) fun h' eb => ⟨rfl, I.turned (t' := s.toks) (fun b o hb e => eb b o hb e) f0 f1 f3 f4 f5⟩
  self := fun _ _ _ _ _ st h => wpAny_pyIter_rangeiter st h

theorem sub_ri_reversed : isSubtype (.type "range_iterator") (.type "reversed") = pure false := by rw [isSubtype_type]; kernel_rfl
section
variable {prog : Program} {w : World} {A : Around} {E : Value → Shared → Prop} {s : Shared}
theorem fitsL {a : Int} (h1 : -(2 ^ 62) ≤ a) (h2 : a ≤ 2 ^ 62) : Builtin.Range.rangeFitsLong a = true := by
  unfold Builtin.Range.rangeFitsLong
  simp
  omega
/-- reversed.__new__ asks the object's own __reversed__ -/
theorem rev_new {r : Addr} {T id : String} {f : Builtin} {Q : Value → Shared → Prop} (hT : s.TypeIs (.ref r) T) (sl : Slot T "__reversed__" id) (hf : entryFor table id = some f) (ha : argsOk id ⟨[.ref r], []⟩)
    (hc : wpAny (model prog w) A.in1.in1 (f ⟨[.ref r], []⟩) (fun fin s' => ∃ v, fin = .done (.ret v) ∧ Q v s') E s) :
    codeAny (model prog w) A (.call (.builtin "reversed.__new__") ⟨[.type "reversed", .ref r], []⟩) (wants Q E) s := by
  have c := F.newCall_reversed_1 (.ref r)
  have n := newClass_reversed (.ref r)
  have hb := sl.bind (.ref r)
  refine codeAny_of_tree ?_
  show wpAny _ A.in1 (checkBuiltinCall _ _ >>= fun _ => again _) _ _ s
  refine wpAny_bind (wpAny_of_eq c (wpAny_pure ⟨plainId_quiet F.plain_reversed_new _, codeAny_builtin F.entry_reversed_new ?_⟩))
  rw [Around.under_plainId F.plain_reversed_new _]
  unfold Builtin.«reversed.__new__»
  wp_walk using (wpAny_of_eq n), (wpAny_specialOf hT sl.lookup), (wpAny_of_eq hb)
  refine codeAny_call_builtin sl.plain hf (sl.check _ _ _ _ _ _ _ _ hT ha (wpAny_mono hc (fun fin s' q => ?_) fun _ _ q => q))
  obtain ⟨v, rfl, q⟩ := q
  exact wpAny_pure q
/-- what reversed(range(b)) leaves: an iterator over b - 1, .., 0 -/
abbrev downO (b : Int) : Obj := { cls := .type "range_iterator", data := .fields #[rawInt (b - 1), rawInt b, rawInt (-1)] }
theorem range_rev {r : Addr} {b : Int} {t u v : Tok} {Q : Value → Shared → Prop} (hr : IsRange s.heap r 0 b 1 t u v) (h0 : 0 ≤ b) (h1 : b < 2 ^ 60) (h : Q (.ref s.heap.objs.size) { s with heap := s.heap.push (downO b) }) :
    wpAny (model prog w) A (Builtin.«range.__reversed__» ⟨[.ref r], []⟩) (fun fin s' => ∃ v, fin = .done (.ret v) ∧ Q v s') E s := by
  obtain ⟨hp, g, d, tk, os⟩ := s
  have hn : Builtin.Range.rangeSize 0 b 1 = b := by
    rw [rangeSize_one]
    split <;> omega
  have f0 : Builtin.Range.rangeFitsLong 0 = true := fitsL (by omega) (by omega)
  have f1 : Builtin.Range.rangeFitsLong 1 = true := fitsL (by omega) (by omega)
  have f2 : Builtin.Range.rangeFitsLong (-1) = true := fitsL (by omega) (by omega)
  have f3 : Builtin.Range.rangeFitsLong (0 - 1) = true := fitsL (by omega) (by omega)
  have fb : Builtin.Range.rangeFitsLong b = true := fitsL (by omega) (by omega)
  have e1 : (0 : Int) + (b - 1) * 1 = b - 1 := by omega
  wp_walk using wpAny_loadPart' hr
  rw [hn, f0, f1, f2, f3, fb, e1]
  simp only [Bool.and_self, Bool.not_true, Bool.false_eq_true, if_false, if_true]
  exact ⟨_, rfl, h⟩
theorem call_reversed_range {r : Addr} {b : Int} {t u v : Tok} {Q : Value → Shared → Prop} (hr : IsRange s.heap r 0 b 1 t u v) (h0 : 0 ≤ b) (h1 : b < 2 ^ 60) (h : Q (.ref s.heap.objs.size) { s with heap := s.heap.push (downO b) }) :
    wpAny (model prog w) A (call (.type "reversed") [.ref r]) Q E s := by
  have N := rev_new (A := A.in1) (E := E) (Q := fun o s₁ => o = .ref s.heap.objs.size ∧ s₁ = { s with heap := s.heap.push (downO b) }) ⟨_, hr, rfl⟩ F.slot_range_reversed F.entry_range_reversed (F.args_range_reversed_1 _) (range_rev (prog := prog) (w := w) hr h0 h1 ⟨rfl, rfl⟩)
  refine callType_other (by decide +kernel) F.create_reversed ⟨_, _, F.mro_reversed⟩ F.made_reversed sub_ri_reversed (F.typeCall_reversed_1 _) N ?_
  rintro o s₁ ⟨rfl, rfl⟩
  exact ⟨⟨_, Heap.get?_push_size _ rfl, rfl⟩, h⟩
end

section
variable {X : Cx} {tg : Expr}
/-- reversed(e), e a range from 0 -/
def iRev (ta : TA) : TI := fun σ H R => ta σ H fun vs H1 => ∃ (r : Addr) (b : Int), vs = [.ref r] ∧ H1 r = some (.rng 0 b) ∧ 0 ≤ b ∧ b < 2 ^ 60 ∧ R (Itd (b - 1) b.toNat) H1
theorem pi_rev {a : Expr} {ta : TA} {p pos : Pos} (hg : Gl X "reversed") (hm : X.mg "reversed" = none) (ha : PA X [a] ta) (hs : starEach [a] X.env = [(false, eval a X.env)] := by rfl) : PI X tg (.Call (.Name "reversed" p) [a] [] pos) (iRev ta) := by
  intro pins s σ H R I h
  refine Call_ (ld_blt I hg hm boot_reversed (PyProof.Rows.callWith_type1 (thn (ha pos pins s σ H _ I h) fun us s1 ⟨vs, H1, I1, r1, q1⟩ => ?_) hs rfl))
  obtain ⟨r, b, e, hr, h0, h1, q⟩ := q1
  subst e
  obtain ⟨u, rfl, eu⟩ := vals1 r1
  obtain rfl : u = Value.ref r := eu
  obtain ⟨t1, t2, t3, hobj⟩ := I1.hok r _ hr
  refine call_reversed_range hobj h0 h1 ?_
  have I2 : Inv X pins σ H1 { s1 with heap := s1.heap.push { cls := .type "range_iterator", data := .fields #[rawInt (b - 1), rawInt b, rawInt (-1)] } } := I1.kept (t' := s1.toks) fun b o e => Heap.get?_push_of_some _ e
  have ri : IsRangeIter (s1.heap.push { cls := .type "range_iterator", data := .fields #[rawInt (b - 1), rawInt b, rawInt (-1)] }) s1.heap.objs.size (b - 1) b (-1) := Heap.get?_push_size _ rfl
  refine wpAny_pyIter_rangeiter ri ?_
  refine ⟨s1.heap.objs.size, [s1.heap.objs.size], _, _, H1, rfl, I2, turn_down _ (b - 1) b.toNat, ?_, fun c hc => ?_, q⟩
  · have e1 : b - 1 + ((0 : Nat) : Int) * (-1) = b - 1 := by simp
    have e2 : ((b.toNat : Nat) : Int) - ((0 : Nat) : Int) = b := by omega
    show IsRangeIter _ _ (b - 1 + ((0 : Nat) : Int) * (-1)) (((b.toNat : Nat) : Int) - ((0 : Nat) : Int)) (-1)
    rw [e1, e2]
    exact ri
  · have e : c = s1.heap.objs.size := by simpa using hc
    subst e
    exact I1.fpOk (Nat.le_refl _) (I1.hok.fresh (Nat.le_refl _))
/-- a for over it -/
theorem for_down {top : Int} {n : Nat} {g : TG} {tb : TS} {D : Ends} {σ : St} {H : Hp} (Pv : Nat → St → Hp → Prop) (h0 : Pv 0 σ H)
    (hs : ∀ i σ H, i < n → Pv i σ H → g (.int (top - i)) σ H fun σ2 H2 => tb { D with nx := Pv (i + 1), ct := Pv (i + 1), bk := D.nx } σ2 H2) (hd : ∀ σ H, Pv n σ H → D.nx σ H) :
    ∃ W : Nat → Nat → St → Hp → Prop, (∃ m, W 0 m σ H) ∧ ∀ i m σ H, W i m σ H →
      ((Itd top n).stop i H ∧ D.nx σ H) ∨ ((Itd top n).go i H ∧ ∃ N : St → Hp → Prop, (∀ σ' H', N σ' H' → ∃ m', m' < m ∧ W (i + 1) m' σ' H') ∧ ∀ x H', (Itd top n).yld i H x H' → g x σ H' fun σ2 H2 => tb { D with nx := N, ct := N, bk := D.nx } σ2 H2) := by
  refine ⟨fun i m σ H => m = n - i ∧ i ≤ n ∧ Pv i σ H, ⟨n, by simp, Nat.zero_le _, h0⟩, ?_⟩
  rintro i m σ H ⟨rfl, hi, p⟩
  by_cases hlt : i < n
  · refine .inr ⟨hlt, Pv (i + 1), fun σ' H' p' => ⟨n - (i + 1), by omega, rfl, hlt, p'⟩, fun x H' y => ?_⟩
    obtain ⟨e, y⟩ := y
    subst e y
    exact hs i σ _ hlt p
  · have e : i = n := by omega
    subst e
    exact .inl ⟨Nat.le_refl _, hd σ H p⟩
end

/-! ### sum -/
theorem preSum_eq (ns : List Int) : ∀ k, k ≤ ns.length → preSum (fun i => ns.getD i 0) k = (ns.take k).sum
  | 0, _ => by simp [preSum]
  | k + 1, h => by
    have ih := preSum_eq ns k (by omega)
    rw [preSum, ih, List.take_add_one]
    have e : ns[k]? = some (ns.getD k 0) := by
      rw [List.getD_eq_getElem?_getD, List.getElem?_eq_getElem (by omega)]
      rfl
    rw [e]
    simp
theorem Vals.get' : ∀ {xs : List V} {us : List Value} {i : Nat} {u : Value}, Vals xs us → us[i]? = some u → ∃ x, xs[i]? = some x ∧ RelV x u
  | _, _, _, _, .nil, e => by simp at e
  | _, _, 0, _, .cons r _, e => by simp at e; subst e; exact ⟨_, rfl, r⟩
  | _, _, i + 1, x, .cons _ t, e => by
    obtain ⟨u, h1, h2⟩ := Vals.get' (i := i) (u := x) t (by simpa using e)
    exact ⟨u, by simpa using h1, h2⟩
theorem call_sumL {X : Cx} (hc : X.calm = true) : CallR X (.builtin "sum") (fun xs H Q => ∃ (p : Addr) (ns : List Int), xs = [.ref p] ∧ SqL X.K H p (ns.map V.int) ∧ Q (.int ns.sum) H) := by
  intro pins s σ H xs us Q I r h
  obtain ⟨p, ns, rfl, hq, q⟩ := h
  obtain ⟨u, rfl, eu⟩ := vals1 r
  obtain rfl : u = Value.ref p := eu
  obtain ⟨its, rv, pl, hz⟩ := I.list hq
  have hi : IntsAre its ns := intsAre_of rv
  have hl := hi.length
  have plt : p < s.heap.objs.size := let ⟨o, _, e, _⟩ := pl; Heap.lt_size e
  refine call_sum_walkG (wpAny_pyIter_list pl.isList ?_)
  have W := Walks.list (prog := X.prog) (w := X.w) (A := X.A.in1) (by show X.A.in1.handled = none; exact I.ok.hd hc) s.heap.objs.size p (Nat.ne_of_lt plt) its.toArray
  refine ⟨_, _, _, _, _, _, fun i => ns.getD i 0, rfl, W, ⟨⟨_, Heap.get?_push_size _ rfl, rfl, rfl⟩, pl.isList.push _⟩, ?_, ?_, fun h' tk t' kk => ?_⟩
  · intro b hb
    rw [Heap.size_push]
    have hb' : b = s.heap.objs.size ∨ b = p := by simpa using hb
    rcases hb' with z | z
    · rw [z]; exact Nat.lt_succ_self _
    · rw [z]; exact Nat.lt_succ_of_lt plt
  · intro i v hv
    have hv' : its[i]? = some v := by simpa using hv
    obtain ⟨x, hx, rx⟩ := Vals.get' rv hv'
    rw [List.getElem?_map] at hx
    cases e : ns[i]? with
    | none => rw [e] at hx; cases hx
    | some n =>
      rw [e] at hx
      cases hx
      obtain ⟨t, rfl⟩ := rx
      exact ⟨t, by show Value.int n t = Value.int (ns.getD i 0) t; rw [List.getD_eq_getElem?_getD, e]; rfl⟩
  · have e : preSum (fun i => ns.getD i 0) its.toArray.size = ns.sum := by
      have hsz : its.toArray.size = ns.length := by rw [List.size_toArray]; omega
      rw [hsz, preSum_eq ns _ (Nat.le_refl _), List.take_length]
    rw [e]
    refine ⟨.int ns.sum, H, I.kept fun b o e => kk b o (fun z => ?_) (Heap.get?_push_of_some _ e), ⟨t', rfl⟩, q⟩
    have z' : b = s.heap.objs.size := by simpa using z
    exact absurd (Heap.lt_size e) (by rw [z']; exact Nat.lt_irrefl _)
end L2

set_option Elab.async false
set_option linter.all false
set_option maxRecDepth 100000
/-! zip of two, each a list or a tuple -/
namespace L2
open PySem PySem.Spec PyProof.Rows

/-- the names of a list's (true) or a tuple's iterator -/
def itN (kd : Bool) : String := if kd = true then "list_iterator" else "tuple_iterator"
def sqN (kd : Bool) : String := if kd = true then "list" else "tuple"
/-- at `it` stands an iterator over a, at its k-th item -/
def Src (kd : Bool) (h : Heap) (it a : Addr) (k : Nat) : Prop := ∃ o, h.get? it = some o ∧ o.cls = .type (itN kd) ∧ o.data = .fields #[.ref a, .int k 0]
/-- at a stand these items -/
def SqH (kd : Bool) (h : Heap) (a : Addr) (items : Array Value) : Prop := ∃ o, h.get? a = some o ∧ o.cls = .type (sqN kd) ∧ ∃ n, o.data = .seq items n
theorem Src.at {kd : Bool} {h h' : Heap} {it a : Addr} {k : Nat} : Src kd h it a k → (∀ o, h.get? it = some o → h'.get? it = some o) → Src kd h' it a k := fun ⟨o, e, r⟩ f => ⟨o, f o e, r⟩
theorem SqH.at {kd : Bool} {h h' : Heap} {a : Addr} {items : Array Value} : SqH kd h a items → (∀ o, h.get? a = some o → h'.get? a = some o) → SqH kd h' a items := fun ⟨o, e, r⟩ f => ⟨o, f o e, r⟩

section
variable {prog : Program} {w : World} {A : Around} {E : Value → Shared → Prop} {s : Shared}
/-- one draw from such an iterator -/
theorem draw_one {kd : Bool} {it a : Addr} {k : Nat} {items : Array Value} {x : Value} {Q : Value → Shared → Prop} (h1 : Src kd s.heap it a k) (h2 : SqH kd s.heap a items) (hx : items[k]? = some x)
    (hQ : ∀ h', Src kd h' it a (k + 1) → Heap.SameBut it s.heap h' → Q x { s with heap := h' }) : wpAny (model prog w) A (Builtin.SmallTypes.nextOf (.ref it)) Q E s := by
  cases kd with
  | true => exact wpAny_nextOf_list_item h1 h2 hx hQ
  | false =>
    have hit : s.heap.IsTupleIter it a k := h1
    obtain ⟨o, ho, hc, hd⟩ := id h1
    obtain ⟨oa, hoa, _, n, hda⟩ := h2
    have up := Heap.get?_update_self (f := Obj.mapFields fun xs => xs.setIfInBounds 1 (rawInt ((k : Int) + 1))) ho (Obj.isFreed_of_fields (Obj.data_mapFields hd _))
    unfold Builtin.SmallTypes.nextOf
    refine wpAny_bind (wpAny_callSpecial?_slot hit.typeIs F.slot_tuple_iterator_next (wpAny_call_entry F.slot_tuple_iterator_next hit.typeIs F.entry_tuple_iterator_next ?_ (F.args_tuple_iterator_next_1 _)))
    show wpAny _ _ (field (.ref it) 0 >>= fun sq => _) _ _ s
    refine wpAny_bind (wpAny_field ho hd (x := .ref a) rfl ?_)
    have nn : ¬ ((Value.ref a == Value.none) = true) := Bool.false_ne_true
    rw [if_neg nn]
    refine wpAny_bind (wpAny_field ho hd (x := .int k 0) rfl ?_)
    refine wpAny_bind (wpAny_seqItems hoa hda ?_)
    rw [show (k : Int).toNat = k from Int.toNat_natCast k]
    simp only [hx]
    exact wpAny_bind (wpAny_setField ho hd (by simp) (wpAny_pure ⟨x, rfl, wpAny_pure (hQ _ ⟨_, up, (Obj.cls_mapFields ..).trans hc, by rw [Obj.data_mapFields hd]; simp [rawInt]⟩ (Heap.SameBut.update ..))⟩))
/-- a draw behind the last item -/
theorem draw_end {kd : Bool} {it a : Addr} {k : Nat} {items : Array Value} {Q : Value → Shared → Prop} (hh : A.handled = none) (h1 : Src kd s.heap it a k) (h2 : SqH kd s.heap a items) (hx : items[k]? = none)
    (hE : ∀ h' e, Heap.ExtBut it s.heap h' → (∃ o, h'.get? e = some o ∧ o.cls = .type "StopIteration") → E (.ref e) { s with heap := h' }) : wpAny (model prog w) A (Builtin.SmallTypes.nextOf (.ref it)) Q E s := by
  cases kd with
  | true => exact wpAny_nextOf_list_end hh h1 h2 hx hE
  | false =>
    have hit : s.heap.IsTupleIter it a k := h1
    obtain ⟨o, ho, hc, hd⟩ := id h1
    obtain ⟨oa, hoa, _, n, hda⟩ := h2
    unfold Builtin.SmallTypes.nextOf
    refine wpAny_bind (wpAny_callSpecial?_slot hit.typeIs F.slot_tuple_iterator_next (wpAny_call_entry F.slot_tuple_iterator_next hit.typeIs F.entry_tuple_iterator_next ?_ (F.args_tuple_iterator_next_1 _)))
    show wpAny _ _ (field (.ref it) 0 >>= fun sq => _) _ _ s
    refine wpAny_bind (wpAny_field ho hd (x := .ref a) rfl ?_)
    have nn : ¬ ((Value.ref a == Value.none) = true) := Bool.false_ne_true
    rw [if_neg nn]
    refine wpAny_bind (wpAny_field ho hd (x := .int k 0) rfl ?_)
    refine wpAny_bind (wpAny_seqItems hoa hda ?_)
    rw [show (k : Int).toNat = k from Int.toNat_natCast k]
    simp only [hx]
    refine wpAny_bind (wpAny_rule (wpAny_bind (wpAny_setField ho hd (by simp) ?_)))
    have hh' : A.in1.handled = none := hh
    wp_walk
    unfold raiseNew
    refine wpAny_bind (wpAny_handled ?_)
    rw [hh']
    refine wpAny_bind (wpAny_pure (wpAny_throw (hE _ _ (((Heap.SameBut.update ..).extBut.push _).push _) ⟨_, Heap.get?_push_size _ rfl, rfl⟩)))

/-- the records of a zip over l1 and l2; f: its field of the tuple handed out, a, b: the kept pair -/
structure ZS (kd kd2 : Bool) (z TI TO i1 i2 l1 l2 : Addr) (f a b : Value) (k1 k2 : Nat) (h : Heap) : Prop where
  z : IsZip h z TI TO f
  ti : IsPair h TI (.ref i1) (.ref i2)
  to : IsPair h TO a b
  s1 : Src kd h i1 l1 k1
  s2 : Src kd2 h i2 l2 k2
variable {kd kd2 : Bool} {z TI TO i1 i2 l1 l2 : Addr} {f a b : Value} {k1 k2 : Nat} {h h' : Heap}
theorem ZS.turnZ (D : ZipApart z TI TO i1 i2 l1 l2) (x : ZS kd kd2 z TI TO i1 i2 l1 l2 f a b k1 k2 h) {f' : Value} (hz : IsZip h' z TI TO f') (e : Heap.SameBut z h h') : ZS kd kd2 z TI TO i1 i2 l1 l2 f' a b k1 k2 h' :=
  ⟨hz, e.extBut _ _ D.TIz x.ti, e.extBut _ _ D.TOz x.to, x.s1.at fun o q => e.extBut _ _ D.i1z q, x.s2.at fun o q => e.extBut _ _ D.i2z q⟩
theorem ZS.turnO (D : ZipApart z TI TO i1 i2 l1 l2) (x : ZS kd kd2 z TI TO i1 i2 l1 l2 f a b k1 k2 h) {a' b' : Value} (hz : IsPair h' TO a' b') (e : Heap.SameBut TO h h') : ZS kd kd2 z TI TO i1 i2 l1 l2 f a' b' k1 k2 h' :=
  ⟨e.extBut _ _ D.TOz.symm x.z, e.extBut _ _ D.TITO x.ti, hz, x.s1.at fun o q => e.extBut _ _ D.TOi1.symm q, x.s2.at fun o q => e.extBut _ _ D.TOi2.symm q⟩
theorem ZS.turn1 (D : ZipApart z TI TO i1 i2 l1 l2) (x : ZS kd kd2 z TI TO i1 i2 l1 l2 f a b k1 k2 h) {k : Nat} (hz : Src kd h' i1 l1 k) (e : Heap.SameBut i1 h h') : ZS kd kd2 z TI TO i1 i2 l1 l2 f a b k k2 h' :=
  ⟨e.extBut _ _ D.i1z.symm x.z, e.extBut _ _ D.TIi1 x.ti, e.extBut _ _ D.TOi1 x.to, hz, x.s2.at fun o q => e.extBut _ _ D.i12.symm q⟩
theorem ZS.turn2 (D : ZipApart z TI TO i1 i2 l1 l2) (x : ZS kd kd2 z TI TO i1 i2 l1 l2 f a b k1 k2 h) {k : Nat} (hz : Src kd2 h' i2 l2 k) (e : Heap.SameBut i2 h h') : ZS kd kd2 z TI TO i1 i2 l1 l2 f a b k1 k h' :=
  ⟨e.extBut _ _ D.i2z.symm x.z, e.extBut _ _ D.TIi2 x.ti, e.extBut _ _ D.TOi2 x.to, x.s1.at fun o q => e.extBut _ _ D.i12 q, hz⟩
theorem ZS.keeps (x : ZS kd kd2 z TI TO i1 i2 l1 l2 f a b k1 k2 h) (e : ∀ c o, c ∈ [z, TI, TO, i1, i2] → h.get? c = some o → h'.get? c = some o) : ZS kd kd2 z TI TO i1 i2 l1 l2 f a b k1 k2 h' :=
  ⟨e _ _ (by simp) x.z, e _ _ (by simp) x.ti, e _ _ (by simp) x.to, x.s1.at fun o q => e _ _ (by simp) q, x.s2.at fun o q => e _ _ (by simp) q⟩

/-- next of a zip, the first part: up to the draws -/
theorem zip_next {xs ys : Array Value} {Q : Fin → Shared → Prop} (D : ZipApart z TI TO i1 i2 l1 l2) (Z : ZS kd kd2 z TI TO i1 i2 l1 l2 .none a b k1 k2 s.heap) (q1 : SqH kd s.heap l1 xs) (q2 : SqH kd2 s.heap l2 ys)
    (hQ : ∀ x y h', xs[k1]? = some x → ys[k2]? = some y → ZS kd kd2 z TI TO i1 i2 l1 l2 (rawInt s.heap.objs.size) x y (k1 + 1) (k2 + 1) h' → IsPair h' s.heap.objs.size x y →
      (∀ c o, c ∉ [z, TO, i1, i2] → s.heap.get? c = some o → h'.get? c = some o) → Q (.done (.ret (.ref s.heap.objs.size))) { s with heap := h' })
    (hE : xs[k1]? = none ∨ ys[k2]? = none → A.handled = none ∧ ∀ h' e, (∀ c o, c ∉ [z, TO, i1, i2] → s.heap.get? c = some o → h'.get? c = some o) → (∃ o, h'.get? e = some o ∧ o.cls = .type "StopIteration") → E (.ref e) { s with heap := h' }) :
    wpAny (model prog w) A (Builtin.«zip.__next__» ⟨[.ref z], []⟩) Q E s := by
  have no : ∀ {c : Addr}, c ∉ [z, TO, i1, i2] → c ≠ z ∧ c ≠ TO ∧ c ≠ i1 ∧ c ≠ i2 := fun hc => by simpa [not_or] using hc
  show wpAny _ _ (field (.ref z) 2 >>= fun x => _) _ _ _
  refine wpAny_bind (wpAny_field Z.z rfl (x := .bool false) rfl (wpAny_bind (wpAny_field Z.z rfl (x := .ref TI) rfl (wpAny_bind (wpAny_seqItems Z.ti rfl (wpAny_bind ?_))))))
  unfold Builtin.SmallTypes.ownedTupleIsFree
  refine wpAny_bind (wpAny_field Z.z rfl (x := .none) rfl (wpAny_pure ?_))
  rw [if_pos rfl]
  refine wpAny_bind (wpAny_rule (wpAny_bind (wpAny_field Z.z rfl (x := .ref TO) rfl (wpAny_bind (wpAny_setField_rec Z.z (by simp) fun ha za ea => wpAny_bind ?_)))))
  have Za := Z.turnZ D (f' := .ellipsis) za ea
  simp only [List.zipIdx_cons, List.zipIdx_nil, List.forIn_cons, List.forIn_nil]
  refine wpAny_bind (wpAny_bind (wpAny_onRaise ?_))
  show wpAny _ _ (Builtin.SmallTypes.nextOf (.ref i1) >>= fun x => _) _ _ _
  cases ex : xs[k1]? with
  | none =>
    obtain ⟨hh, hE⟩ := hE (.inl ex)
    refine wpAny_bind (draw_end hh Za.s1 (q1.at fun o e => ea.extBut _ _ D.l1z e) ex fun hb e eb he => ?_)
    obtain ⟨oe, he, ce⟩ := he
    have zb : IsZip hb z TI TO .ellipsis := eb _ _ D.i1z.symm Za.z
    have ne : e ≠ z := fun q => by rw [q, zb] at he; cases he; simp at ce
    exact wpAny_setField_rec zb (by simp) fun hc _ ec => hE hc e (fun c o n q => ec.extBut _ _ (no n).1 (eb _ _ (no n).2.2.1 (ea.extBut _ _ (no n).1 q))) ⟨oe, ec.extBut _ _ ne he, ce⟩
  | some x =>
    refine wpAny_bind (draw_one Za.s1 (q1.at fun o e => ea.extBut _ _ D.l1z e) ex fun hb sb eb => wpAny_pure ?_)
    have Zb := Za.turn1 D sb eb
    refine wpAny_bind (wpAny_seqItems Zb.to rfl (wpAny_bind (wpAny_updateSeq_pair Zb.to fun hc oc ec => wpAny_bind (wpAny_letGo (wpAny_pure ?_)))))
    have Zc := Zb.turnO D (a' := x) (b' := b) oc ec
    have kc : ∀ c o, c ∉ [z, TO, i1, i2] → s.heap.get? c = some o → hc.get? c = some o := fun c o n q => ec.extBut _ _ (no n).2.1 (eb.extBut _ _ (no n).2.2.1 (ea.extBut _ _ (no n).1 q))
    have q2c : SqH kd2 hc l2 ys := q2.at fun o e => kc l2 o (by simp [D.l2z, D.l2TO, D.l2i1, D.l2i2]) e
    refine wpAny_bind (wpAny_bind (wpAny_onRaise ?_))
    show wpAny _ _ (Builtin.SmallTypes.nextOf (.ref i2) >>= fun x => _) _ _ _
    cases ey : ys[k2]? with
    | none =>
      obtain ⟨hh, hE⟩ := hE (.inr ey)
      refine wpAny_bind (draw_end hh Zc.s2 q2c ey fun hd e ed he => ?_)
      obtain ⟨oe, he, ce⟩ := he
      have zd : IsZip hd z TI TO .ellipsis := ed _ _ D.i2z.symm Zc.z
      have ne : e ≠ z := fun q => by rw [q, zd] at he; cases he; simp at ce
      exact wpAny_setField_rec zd (by simp) fun hf _ ef => hE hf e (fun c o n q => ef.extBut _ _ (no n).1 (ed _ _ (no n).2.2.2 (kc c o n q))) ⟨oe, ef.extBut _ _ ne he, ce⟩
    | some y =>
      refine wpAny_bind (draw_one Zc.s2 q2c ey fun hd sd ed => wpAny_pure ?_)
      have Zd := Zc.turn2 D sd ed
      refine wpAny_bind (wpAny_seqItems Zd.to rfl (wpAny_bind (wpAny_updateSeq_pair Zd.to fun hf of ef => wpAny_bind (wpAny_letGo (wpAny_pure (wpAny_pure ?_))))))
      have Zf := Zd.turnO D (a' := x) (b' := y) of ef
      have kf : ∀ c o, c ∉ [z, TO, i1, i2] → s.heap.get? c = some o → hf.get? c = some o := fun c o n q => ef.extBut _ _ (no n).2.1 (ed.extBut _ _ (no n).2.2.2 (kc c o n q))
      have sz : hf.objs.size = s.heap.objs.size := by rw [ef.1, ed.1, ec.1, eb.1, ea.1]
      refine wpAny_bind (wpAny_seqItems Zf.to rfl (wpAny_bind (wpAny_newTuple (wpAny_bind ?_))))
      unfold Builtin.SmallTypes.ownedTupleHandOut
      have up : ∀ c o, hf.get? c = some o → (hf.push { cls := .type "tuple", data := .seq #[x, y] }).get? c = some o := fun c o q => Heap.get?_push_of_some _ q
      have Zg := Zf.keeps (h' := hf.push { cls := .type "tuple", data := .seq #[x, y] }) fun c o _ q => up c o q
      have nT : hf.objs.size ≠ z := Nat.ne_of_gt (Heap.lt_size Zf.z)
      refine wpAny_bind (wpAny_setField_rec Zg.z (by simp) fun hi zi ei => ?_)
      have Zi := Zg.turnZ D (f' := rawInt hf.objs.size) zi ei
      refine wpAny_setField_rec Zi.z (by simp) fun hj zj ej => ?_
      have Zj := Zi.turnZ D (f' := rawInt hf.objs.size) zj ej
      have last : ∀ c o, c ≠ z → (hf.push { cls := .type "tuple", data := .seq #[x, y] }).get? c = some o → hj.get? c = some o := fun c o n q => ej.extBut _ _ n (ei.extBut _ _ n q)
      have pT : IsPair hj hf.objs.size x y := last _ _ nT (Heap.get?_push_size _ rfl)
      rw [sz] at Zj pT
      refine wpAny_pure ?_
      show Q (.done (.ret (.ref hf.objs.size))) _
      rw [sz]
      exact hQ x y hj ex ey Zj pT fun c o n q => last c o (no n).1 (up c o (kf c o n q))
theorem pyNext_zip {xs ys : Array Value} {Q : Option Value → Shared → Prop} (D : ZipApart z TI TO i1 i2 l1 l2) (Z : ZS kd kd2 z TI TO i1 i2 l1 l2 .none a b k1 k2 s.heap) (q1 : SqH kd s.heap l1 xs) (q2 : SqH kd2 s.heap l2 ys)
    (hQ : ∀ x y h', xs[k1]? = some x → ys[k2]? = some y → ZS kd kd2 z TI TO i1 i2 l1 l2 (rawInt s.heap.objs.size) x y (k1 + 1) (k2 + 1) h' → IsPair h' s.heap.objs.size x y →
      (∀ c o, c ∉ [z, TO, i1, i2] → s.heap.get? c = some o → h'.get? c = some o) → Q (some (.ref s.heap.objs.size)) { s with heap := h' })
    (hE : xs[k1]? = none ∨ ys[k2]? = none → A.handled = none ∧ ∀ h', (∀ c o, c ∉ [z, TO, i1, i2] → s.heap.get? c = some o → h'.get? c = some o) → Q none { s with heap := h' }) :
    wpAny (model prog w) A (pyNext (.ref z)) Q E s := by
  have hT : s.TypeIs (.ref z) "zip" := ⟨_, Z.z, rfl⟩
  unfold pyNext
  refine wpAny_bind (wpAny_attempt (wpAny_callSpecial?_slot hT F.slot_zip_next (wpAny_call_entry F.slot_zip_next hT F.entry_zip_next (zip_next D Z q1 q2 (fun x y h' e1 e2 Z' p k => ⟨_, rfl, wpAny_pure (hQ x y h' e1 e2 Z' p k)⟩) fun n => ?_) (F.args_zip_next_1 _))))
  obtain ⟨hh, r⟩ := hE n
  refine ⟨hh, fun h' e k ⟨o, ho, hc⟩ => ?_⟩
  exact wpAny_bind (wpAny_isInstance (T := "StopIteration") (b := true) ⟨o, ho, hc⟩ isSubtype_stop (wpAny_pure (r h' k)))

/-- a new iterator over a list or a tuple -/
abbrev itO (kd : Bool) (a : Addr) : Obj := { cls := .type (itN kd), data := .fields #[.ref a, .int 0 0] }
theorem iter_new {kd : Bool} {a : Addr} {xs : Array Value} {Q : Value → Shared → Prop} (h : SqH kd s.heap a xs) (hQ : Q (.ref s.heap.objs.size) { s with heap := s.heap.push (itO kd a) }) : wpAny (model prog w) A (pyIter (.ref a)) Q E s := by
  cases kd with
  | true => exact wpAny_pyIter_list h hQ
  | false => exact wpAny_pyIter_tuple h hQ
/-- what zip(l1, l2) lays: two iterators, their tuple, the kept pair, the zip -/
abbrev zipAll (kd kd2 : Bool) (h : Heap) (l1 l2 : Addr) : Heap :=
  ((((h.push (itO kd l1)).push (itO kd2 l2)).push { cls := .type "tuple", data := .seq #[.ref h.objs.size, .ref (h.objs.size + 1)] }).push { cls := .type "tuple", data := .seq #[.none, .none] }).push
    { cls := .type "zip", data := .fields #[.none, .bool false, .bool false, .ref (h.objs.size + 2), .ref (h.objs.size + 3)] }
theorem zip_made {xs ys : Array Value} : Meets (Builtin.«zip.__new__» ⟨[.type "zip", .ref l1, .ref l2], []⟩) (fun _ R s => SqH kd s.heap l1 xs ∧ SqH kd2 s.heap l2 ys ∧ R (.ok (.ret (.ref (s.heap.objs.size + 4)))) { s with heap := zipAll kd kd2 s.heap l1 l2 }) :=
  .of_wp fun prog w A R s h => by
    obtain ⟨hp, g, d, tk, os⟩ := s
    obtain ⟨h1, h2, h⟩ := h
    have sub := sub_zip
    have g1 : SqH kd (Shared.heap ⟨hp, g, d, tk, os⟩) l1 xs := h1
    have g2 : SqH kd2 (Shared.heap ⟨hp.push (itO kd l1), g, d, tk, os⟩) l2 ys := h2.at fun o e => Heap.get?_push_of_some _ e
    wp_walk using iter_new g1, iter_new g2
    refine ⟨_, rfl, ?_⟩
    simp only [Heap.size_push]
    exact h
theorem zip_apart {n l1 l2 : Addr} (h1 : l1 < n) (h2 : l2 < n) : ZipApart (n + 4) (n + 2) (n + 3) n (n + 1) l1 l2 := zipApart_new h1 h2
theorem call_zip {xs ys : Array Value} {Q : Value → Shared → Prop} (h1 : SqH kd s.heap l1 xs) (h2 : SqH kd2 s.heap l2 ys)
    (h : ∀ h', ZS kd kd2 (s.heap.objs.size + 4) (s.heap.objs.size + 2) (s.heap.objs.size + 3) s.heap.objs.size (s.heap.objs.size + 1) l1 l2 .none .none .none 0 0 h' → (∀ c o, s.heap.get? c = some o → h'.get? c = some o) →
      Q (.ref (s.heap.objs.size + 4)) { s with heap := h' }) : wpAny (model prog w) A (call (.type "zip") [.ref l1, .ref l2]) Q E s := by
  refine callType_new F.called_zip (by decide) (F.typeCall_zip_2 _ _) (F.newCall_zip_2 _ _) (fun obj => F.args_object_init_3 obj _ _) F.entry_zip_new (zip_made (kd := kd) (kd2 := kd2) (xs := xs) (ys := ys)) ⟨h1, h2, ?_⟩
  have at0 : (zipAll kd kd2 s.heap l1 l2).get? s.heap.objs.size = some (itO kd l1) := Heap.get?_push_of_some _ (Heap.get?_push_of_some _ (Heap.get?_push_of_some _ (Heap.get?_push_of_some _ (Heap.get?_push_size _ rfl))))
  have sz1 : (s.heap.push (itO kd l1)).objs.size = s.heap.objs.size + 1 := Heap.size_push ..
  have sz2 : ((s.heap.push (itO kd l1)).push (itO kd2 l2)).objs.size = s.heap.objs.size + 2 := by rw [Heap.size_push, sz1]
  have sz3 : (((s.heap.push (itO kd l1)).push (itO kd2 l2)).push { cls := .type "tuple", data := .seq #[.ref s.heap.objs.size, .ref (s.heap.objs.size + 1)] }).objs.size = s.heap.objs.size + 3 := by rw [Heap.size_push, sz2]
  have sz4 : ((((s.heap.push (itO kd l1)).push (itO kd2 l2)).push { cls := .type "tuple", data := .seq #[.ref s.heap.objs.size, .ref (s.heap.objs.size + 1)] }).push { cls := .type "tuple", data := .seq #[.none, .none] }).objs.size = s.heap.objs.size + 4 := by rw [Heap.size_push, sz3]
  have at1 : (zipAll kd kd2 s.heap l1 l2).get? (s.heap.objs.size + 1) = some (itO kd2 l2) := by rw [← sz1]; exact Heap.get?_push_of_some _ (Heap.get?_push_of_some _ (Heap.get?_push_of_some _ (Heap.get?_push_size _ rfl)))
  have at2 : IsPair (zipAll kd kd2 s.heap l1 l2) (s.heap.objs.size + 2) (.ref s.heap.objs.size) (.ref (s.heap.objs.size + 1)) := by
    have q : (zipAll kd kd2 s.heap l1 l2).get? ((s.heap.push (itO kd l1)).push (itO kd2 l2)).objs.size = some { cls := .type "tuple", data := .seq #[.ref s.heap.objs.size, .ref (s.heap.objs.size + 1)] } := Heap.get?_push_of_some _ (Heap.get?_push_of_some _ (Heap.get?_push_size _ rfl))
    rw [sz2] at q; exact q
  have at3 : IsPair (zipAll kd kd2 s.heap l1 l2) (s.heap.objs.size + 3) .none .none := by
    have q : (zipAll kd kd2 s.heap l1 l2).get? (((s.heap.push (itO kd l1)).push (itO kd2 l2)).push { cls := .type "tuple", data := .seq #[.ref s.heap.objs.size, .ref (s.heap.objs.size + 1)] }).objs.size = some { cls := .type "tuple", data := .seq #[.none, .none] } := Heap.get?_push_of_some _ (Heap.get?_push_size _ rfl)
    rw [sz3] at q; exact q
  have at4 : IsZip (zipAll kd kd2 s.heap l1 l2) (s.heap.objs.size + 4) (s.heap.objs.size + 2) (s.heap.objs.size + 3) .none := by
    have q : (zipAll kd kd2 s.heap l1 l2).get? ((((s.heap.push (itO kd l1)).push (itO kd2 l2)).push { cls := .type "tuple", data := .seq #[.ref s.heap.objs.size, .ref (s.heap.objs.size + 1)] }).push { cls := .type "tuple", data := .seq #[.none, .none] }).objs.size =
      some { cls := .type "zip", data := .fields #[.none, .bool false, .bool false, .ref (s.heap.objs.size + 2), .ref (s.heap.objs.size + 3)] } := Heap.get?_push_size _ rfl
    rw [sz4] at q; exact q
  exact ⟨⟨_, at4, rfl⟩, h _ ⟨at4, at2, at3, ⟨_, at0, rfl, rfl⟩, ⟨_, at1, rfl, rfl⟩⟩ fun c o q => Heap.get?_push_of_some _ (Heap.get?_push_of_some _ (Heap.get?_push_of_some _ (Heap.get?_push_of_some _ (Heap.get?_push_of_some _ q))))⟩
end

/-! ### in the layer -/
/-- a list (true) or a tuple that is read -/
def Sq (kd : Bool) (K : PySem.W.Frag) (H : Hp) (a : Addr) (xs : List V) : Prop := if kd = true then SqL K H a xs else SqT K H a xs
section
variable {X : Cx} {pins : List (Addr × Obj)} {σ : St} {H : Hp} {s : Shared}
theorem Inv.sq {kd : Bool} {a : Addr} {xs : List V} (I : Inv X pins σ H s) (h : Sq kd X.K H a xs) : ∃ its : List Value, Vals xs its ∧ SqH kd s.heap a its.toArray ∧ xs.length ≤ sizeLine := by
  cases kd with
  | true =>
    obtain ⟨its, r, p, z⟩ := I.list h
    exact ⟨its, r, p.isList, z⟩
  | false =>
    obtain ⟨its, r, p, z⟩ := I.tuple h
    exact ⟨its, r, p, z⟩
theorem Inv.sq_inj {kd : Bool} {a : Addr} {xs ys : List V} (I : Inv X pins σ H s) (h : Sq kd X.K H a xs) (h' : Sq kd X.K H a ys) : xs = ys := by
  cases kd with
  | true => exact I.list_inj h h'
  | false => exact I.tuple_inj h h'
theorem Same.sq {kd : Bool} {K : PySem.W.Frag} {H H' : Hp} {a : Addr} {xs : List V} (e : Same H H') (h : Sq kd K H a xs) : Sq kd K H' a xs := by
  cases kd with
  | true => exact e.seq h
  | false => exact e.sqt h
/-- records of ours have turned, and one new object is tracked -/
theorem Inv.turnedLaid {t' : Nat} {h' : Heap} {fp : List Addr} {T : Addr} {o : HO} (I : Inv X pins σ H s) (hf : ∀ b ∈ fp, FpOk X pins H b) (k : ∀ b o, b ∉ fp → s.heap.get? b = some o → h'.get? b = some o) (hT : s.heap.objs.size ≤ T)
    (new : ObjOk X.prog X.w (upd H T o) h' T o) (lo : ∀ ps, o ≠ .tbl ps) : Inv X pins σ (upd H T o) { s with heap := h', toks := t' } := by
  have nT : H T = none := I.hok.fresh hT
  have ne : ∀ b u, H b = some u → b ≠ T := fun b u e => ne_of_none e nT
  have neO : ∀ b o, s.heap.get? b = some o → b ≠ T := fun b o e z => absurd (Nat.lt_of_lt_of_le (Heap.lt_size e) (by rw [z]; exact hT)) (Nat.lt_irrefl _)
  have nf : ∀ b u, H b = some u → b ∉ fp := fun b u e z => by rw [(hf b z).1] at e; cases e
  refine I.step (g' := s.gens) (d' := s.drawn) (ch := fp) (fun b hb => ⟨(hf b hb).2.2.2.1, (hf b hb).2.1, (hf b hb).2.2.2.2.1, (hf b hb).2.2.2.2.2⟩) (fun b o _ _ hc e _ => k b o hc e) (fun b o _ _ hc e _ => ⟨o.slots, k b o hc e⟩)
    (fun b o _ e n => by rw [upd_ne (neO b o e)]; exact n) (fun b o hc e => ⟨o, k b o hc e⟩) (fun b xs e => by rw [upd_ne (ne b _ e)]; exact e) (fun b o u e => by rw [upd_ne (ne b _ e)]; exact e) (fun b ps e => ⟨#[], by rw [upd_ne (ne b _ e), e]; simp⟩) (fun m hm => ?_) (fun b u e => ?_) I.bare
  · obtain ⟨o, es, ep, ho, r⟩ := hm
    exact ⟨o, es, ep, k _ o (fun z => (hf _ z).2.1 rfl) ho, r⟩
  · by_cases hb : b = T
    · subst hb
      rw [upd_same] at e
      cases e
      exact new
    · rw [upd_ne hb] at e
      refine (I.hok b u e).stay (fun c v hc q => k c v ?_ q) (fun c q => by rw [upd_ne (ne c _ q)]; exact q) fun c xs q => by rw [upd_ne (ne c _ q)]; exact q
      rcases hc with z | z
      · rw [z]; exact nf b u e
      · exact nf c _ z
theorem Inv.turnedAll {t' : Nat} {h' : Heap} {fp : List Addr} (I : Inv X pins σ H s) (hf : ∀ b ∈ fp, FpOk X pins H b) (k : ∀ b o, b ∉ fp → s.heap.get? b = some o → h'.get? b = some o) : Inv X pins σ H { s with heap := h', toks := t' } := by
  have nf : ∀ b u, H b = some u → b ∉ fp := fun b u e z => by rw [(hf b z).1] at e; cases e
  refine I.step (g' := s.gens) (d' := s.drawn) (ch := fp) (fun b hb => ⟨(hf b hb).2.2.2.1, (hf b hb).2.1, (hf b hb).2.2.2.2.1, (hf b hb).2.2.2.2.2⟩) (fun b o _ _ hc e _ => k b o hc e) (fun b o _ _ hc e _ => ⟨o.slots, k b o hc e⟩)
    (fun b o _ e n => n) (fun b o hc e => ⟨o, k b o hc e⟩) (fun b xs e => e) (fun b o u e => e) (fun b ps e => ⟨#[], by rw [e]; simp⟩) (fun m hm => ?_) (fun b u e => ?_) I.bare
  · obtain ⟨o, es, ep, ho, r⟩ := hm
    exact ⟨o, es, ep, k _ o (fun z => (hf _ z).2.1 rfl) ho, r⟩
  · refine (I.hok b u e).stay (fun c v hc q => k c v ?_ q) (fun c q => q) fun c xs q => q
    rcases hc with z | z
    · rw [z]; exact nf b u e
    · exact nf c _ z
end
/-- pairs of the items at a1 and a2 -/
def Itz (k1 k2 : Bool) (K : PySem.W.Frag) (a1 a2 : Addr) : It :=
  ⟨fun i H => ∃ xs ys, Sq k1 K H a1 xs ∧ Sq k2 K H a2 ys ∧ i < xs.length ∧ i < ys.length,
   fun i H v H' => ∃ T x y, v = .ref T ∧ H T = none ∧ H' = upd H T (.tup [x, y]) ∧ (∀ xs, Sq k1 K H a1 xs → xs[i]? = some x) ∧ ∀ ys, Sq k2 K H a2 ys → ys[i]? = some y,
   fun i H => ∃ xs ys, Sq k1 K H a1 xs ∧ Sq k2 K H a2 ys ∧ (xs.length ≤ i ∨ ys.length ≤ i)⟩
theorem vals_at {xs : List V} {its : List Value} {i : Nat} {u : Value} (r : Vals xs its) (h : its.toArray[i]? = some u) : ∃ x, xs[i]? = some x ∧ RelV x u := Vals.get' r (by simpa using h)
theorem vals_end {xs : List V} {its : List Value} {i : Nat} (r : Vals xs its) (h : its.toArray[i]? = none) : xs.length ≤ i := by
  have e := r.length
  have q : its.length ≤ i := by simpa using h
  omega
theorem turn_zip {P : Program} {w : World} {K : PySem.W.Frag} {es : List Expr} {ek : Nat} {ep : Pos} {k1 k2 : Bool} {z TI TO i1 i2 l1 l2 : Addr} (D : ZipApart z TI TO i1 i2 l1 l2) : Turn P w K (.Tuple es ek ep) (Itz k1 k2 K l1 l2) [z, TI, TO, i1, i2] z (fun i h => ∃ a b, ZS k1 k2 z TI TO i1 i2 l1 l2 .none a b i i h) where
  mem := by simp
  obj := fun i h ⟨a, b, Z⟩ c hc => by
    have hc' : c = z ∨ c = TI ∨ c = TO ∨ c = i1 ∨ c = i2 := by simpa using hc
    rcases hc' with e | e | e | e | e
    · rw [e]; exact ⟨_, Z.z, fun v q => by cases q⟩
    · rw [e]; exact ⟨_, Z.ti, fun v q => by cases q⟩
    · rw [e]; exact ⟨_, Z.to, fun v q => by cases q⟩
    · rw [e]; obtain ⟨o, ho, _, d⟩ := Z.s1; exact ⟨o, ho, fun v q => by rw [d] at q; cases q⟩
    · rw [e]; obtain ⟨o, ho, _, d⟩ := Z.s2; exact ⟨o, ho, fun v q => by rw [d] at q; cases q⟩
  keep := fun i h h' ⟨a, b, Z⟩ k => ⟨a, b, Z.keeps fun c o hc e => k c hc o e⟩
  item := by
    intro X hP hw hK hcalm i pins s σ H E I hf ⟨a, b, Z⟩ hg
    subst hP hw hK
    obtain ⟨xs, ys, h1, h2, hi1, hi2⟩ := hg
    obtain ⟨its1, r1, p1, z1⟩ := I.sq h1
    obtain ⟨its2, r2, p2, z2⟩ := I.sq h2
    have L1 := r1.length
    have L2 := r2.length
    have sub : ∀ c, c ∉ [z, TI, TO, i1, i2] → c ∉ [z, TO, i1, i2] := fun c n q => n (by simp at q ⊢; rcases q with e | e | e | e <;> simp [e])
    refine pyNext_zip D Z p1 p2 (fun x y h' ex ey Z' pT k => ?_) fun n => ?_
    · obtain ⟨x', ex', rx⟩ := vals_at r1 ex
      obtain ⟨y', ey', ry⟩ := vals_at r2 ey
      refine ⟨_, rfl, wpAny_letOwnedTupleGo_zip Z'.z fun h'' zz e'' => ?_⟩
      have nT : s.heap.objs.size ≠ z := Nat.ne_of_gt (Heap.lt_size Z.z)
      have Z'' := Z'.turnZ D (f' := .none) zz e''
      have pT' : IsPair h'' s.heap.objs.size x y := e''.extBut _ _ nT pT
      have nz : ∀ c, c ∉ [z, TI, TO, i1, i2] → c ≠ z := fun c n q => n (by simp [q])
      have I1 : Inv X pins σ (upd H s.heap.objs.size (.tup [x', y'])) { s with heap := h'' } := I.turnedLaid (t' := s.toks) hf (fun c o n e => e''.extBut _ _ (nz c n) (k c o (sub c n) e)) (Nat.le_refl _)
        ⟨by show 2 ≤ sizeLine; decide, [x, y], .cons rx (.cons ry .nil), ⟨_, pT', rfl, _, rfl⟩⟩ (fun ps q => by cases q)
      refine ⟨.ref s.heap.objs.size, _, I1, rfl, ⟨_, x', y', rfl, I.hok.fresh (Nat.le_refl _), rfl, fun xs' q => by rw [I.sq_inj q h1]; exact ex', fun ys' q => by rw [I.sq_inj q h2]; exact ey'⟩, ⟨_, _, Z''⟩, fun c hc => ?_⟩
      have lt : c < s.heap.objs.size := by
        have hc' : c = z ∨ c = TI ∨ c = TO ∨ c = i1 ∨ c = i2 := by simpa using hc
        rcases hc' with e | e | e | e | e
        · rw [e]; exact Heap.lt_size Z.z
        · rw [e]; exact Heap.lt_size Z.ti
        · rw [e]; exact Heap.lt_size Z.to
        · rw [e]; obtain ⟨o, ho, _⟩ := Z.s1; exact Heap.lt_size ho
        · rw [e]; obtain ⟨o, ho, _⟩ := Z.s2; exact Heap.lt_size ho
      rw [upd_ne (Nat.ne_of_lt lt)]
      exact (hf c hc).1
    · exfalso
      rcases n with n | n
      · have q := vals_end r1 n; omega
      · have q := vals_end r2 n; omega
  done := by
    intro X hP hw hK hcalm i pins s σ H E I hf ⟨a, b, Z⟩ hg
    subst hP hw hK
    obtain ⟨xs, ys, h1, h2, hi⟩ := hg
    obtain ⟨its1, r1, p1, z1⟩ := I.sq h1
    obtain ⟨its2, r2, p2, z2⟩ := I.sq h2
    have sub : ∀ c, c ∉ [z, TI, TO, i1, i2] → c ∉ [z, TO, i1, i2] := fun c n q => n (by simp at q ⊢; rcases q with e | e | e | e <;> simp [e])
    refine pyNext_zip D Z p1 p2 (fun x y h' ex ey Z' pT k => ?_) fun n => ⟨I.ok.hd hcalm, fun h' k => ⟨rfl, I.turnedAll (t' := s.toks) hf fun c o n e => k c o (sub c n) e⟩⟩
    exfalso
    obtain ⟨x', ex', _⟩ := vals_at r1 ex
    obtain ⟨y', ey', _⟩ := vals_at r2 ey
    have q1 := (List.getElem?_eq_some_iff.mp ex').1
    have q2 := (List.getElem?_eq_some_iff.mp ey').1
    omega
  self := fun _ _ _ _ _ ⟨_, _, Z⟩ h => wpAny_pyIter_zip Z.z h

section
variable {X : Cx} {es : List Expr} {ek : Nat} {ep : Pos}
def iZip (k1 k2 : Bool) (K : PySem.W.Frag) (ta : TA) : TI := fun σ H R => ta σ H fun vs H1 => ∃ (a b : Addr) (xs ys : List V), vs = [.ref a, .ref b] ∧ Sq k1 K H1 a xs ∧ Sq k2 K H1 b ys ∧ R (Itz k1 k2 K a b) H1
theorem pi_zip {k1 k2 : Bool} {a b : Expr} {ta : TA} {p pos : Pos} (hg : Gl X "zip") (hm : X.mg "zip" = none) (ha : PA X [a, b] ta) (hs : starEach [a, b] X.env = [(false, eval a X.env), (false, eval b X.env)] := by rfl) (hs2 : starEach [b] X.env = [(false, eval b X.env)] := by rfl) :
    PI X (.Tuple es ek ep) (.Call (.Name "zip" p) [a, b] [] pos) (iZip k1 k2 X.K ta) := by
  intro pins s σ H R I h
  refine Call_ (ld_blt I hg hm (by decide +kernel : bootBuiltins "zip" = some (.type "zip")) (PyProof.Rows.callWith_type1 (thn (ha pos pins s σ H _ I h) fun us s1 ⟨vs, H1, I1, r1, q1⟩ => ?_) (by rw [hs, hs2]) (by rw [hs2]; rfl)))
  obtain ⟨c, d, xs, ys, e, g1, g2, q⟩ := q1
  subst e
  obtain ⟨u1, u2, rfl, e1, e2⟩ := vals2 r1
  obtain rfl : u1 = Value.ref c := e1
  obtain rfl : u2 = Value.ref d := e2
  obtain ⟨its1, _, p1, _⟩ := I1.sq g1
  obtain ⟨its2, _, p2, _⟩ := I1.sq g2
  have lt1 : c < s1.heap.objs.size := let ⟨o, e, _⟩ := p1; Heap.lt_size e
  have lt2 : d < s1.heap.objs.size := let ⟨o, e, _⟩ := p2; Heap.lt_size e
  refine call_zip p1 p2 fun h' Z k => ?_
  have I2 : Inv X pins σ H1 { s1 with heap := h' } := I1.kept (t' := s1.toks) k
  refine wpAny_pyIter_zip Z.z ⟨_, _, _, _, H1, rfl, I2, turn_zip (zip_apart lt1 lt2), ⟨_, _, Z⟩, fun b hb => ?_, q⟩
  have hb' : b = s1.heap.objs.size + 4 ∨ b = s1.heap.objs.size + 2 ∨ b = s1.heap.objs.size + 3 ∨ b = s1.heap.objs.size ∨ b = s1.heap.objs.size + 1 := by simpa using hb
  have le : s1.heap.objs.size ≤ b := by
    rcases hb' with e | e | e | e | e <;> rw [e]
    · exact Nat.le_add_right _ _
    · exact Nat.le_add_right _ _
    · exact Nat.le_add_right _ _
    · exact Nat.le_refl _
    · exact Nat.le_add_right _ _
  exact I1.fpOk le (I1.hok.fresh le)
end
end L2

set_option Elab.async false
set_option linter.all false
set_option maxRecDepth 100000
/-! the forms one uses: comprehensions and loops over ranges, lists, zips; a chain of three; min with a default -/
namespace L2
open PySem PySem.Spec PyProof.Rows

/-- where a def of the text stands, and how it is bound -/
structure FnAt (K : PySem.W.Frag) (mg : Str → Option Value) (x : Str) (ps : List Str) (f : Addr) (fd : FuncData) : Prop where
  m : mg x = some (.ref f)
  k : PySem.W.keepIn K (.ref f) = true
  b : Binds K fd ps []

/-- an object of the module by its name -/
theorem pe_gref {X : Cx} {x : Str} {a : Addr} {pos : Pos} (hg : Gl X x) (hm : X.mg x = some (.ref a)) (hd : (x == ("__debug__" : Str)) = false := by decide) : PE X (.Name x pos) (tC (.ref a)) := pe_glob hg hm rfl hd
theorem Same.new {H : Hp} {a : Addr} {o : HO} (h : H a = none) : Same H (upd H a o) := fun b u e => by rw [upd_ne (ne_of_none e h)]; exact e
/-- a change at an address that is new since H -/
theorem Same.upd {H H' : Hp} {a : Addr} {o : HO} (s : Same H H') (h : H a = none) : Same H (upd H' a o) := fun b u e => by rw [upd_ne (ne_of_none e h)]; exact s b u e

section
variable {g : TG} {tc : TT} {te : TE} {σ0 : St} {H1 : Hp} {fin : List V → Hp → Prop}
theorem lc_of {J : It} {n : Nat} (Pv : Nat → List V → Hp → Prop) (h0 : Pv 0 [] H1) (hn : ∀ ys H, Pv n ys H → J.stop n H ∧ fin ys H)
    (hs : ∀ i ys H, i < n → Pv i ys H → J.go i H ∧ ys.length < sizeLine ∧ ∀ x H', J.yld i H x H' → g x σ0 H' fun σ2 H2 => Sub σ0 σ2 ∧ tc σ2 H2 fun b H3 => if b = true then te σ2 H3 fun v H4 => Pv (i + 1) (ys ++ [v]) H4 else Pv (i + 1) ys H3) :
    LCr J H1 σ0 g tc te fin := by
  refine ⟨fun i m ys H => m = n - i ∧ i ≤ n ∧ Pv i ys H, ⟨n, by simp, Nat.zero_le _, h0⟩, ?_⟩
  rintro i m ys H ⟨rfl, hi, p⟩
  by_cases hlt : i < n
  · obtain ⟨a, b, c⟩ := hs i ys H hlt p
    exact .inr ⟨a, b, Pv (i + 1), fun ys' H' p' => ⟨n - (i + 1), by omega, rfl, hlt, p'⟩, c⟩
  · have e : i = n := by omega
    subst e
    exact .inl (hn ys H p)
/-- over range -/
theorem lc_range {lo : Int} {n : Nat} (Pv : Nat → List V → Hp → Prop) (h0 : Pv 0 [] H1) (hd : ∀ ys H, Pv n ys H → fin ys H)
    (hs : ∀ i ys H, i < n → Pv i ys H → ys.length < sizeLine ∧ g (.int (lo + i)) σ0 H fun σ2 H2 => Sub σ0 σ2 ∧ tc σ2 H2 fun b H3 => if b = true then te σ2 H3 fun v H4 => Pv (i + 1) (ys ++ [v]) H4 else Pv (i + 1) ys H3) :
    LCr (Itr lo n) H1 σ0 g tc te fin := by
  refine lc_of (n := n) Pv h0 (fun ys H p => ⟨Nat.le_refl _, hd ys H p⟩) fun i ys H hi p => ?_
  obtain ⟨a, b⟩ := hs i ys H hi p
  refine ⟨hi, a, fun x H' y => ?_⟩
  obtain ⟨e, y⟩ := y
  subst e y
  exact b
/-- over a list that stays -/
theorem lc_list {K : PySem.W.Frag} {a : Addr} {xs : List V} (Pv : Nat → List V → Hp → Prop) (h0 : Pv 0 [] H1) (hl : ∀ i ys H, Pv i ys H → SqL K H a xs) (hd : ∀ ys H, Pv xs.length ys H → fin ys H)
    (hs : ∀ i x ys H, xs[i]? = some x → Pv i ys H → ys.length < sizeLine ∧ g x σ0 H fun σ2 H2 => Sub σ0 σ2 ∧ tc σ2 H2 fun b H3 => if b = true then te σ2 H3 fun v H4 => Pv (i + 1) (ys ++ [v]) H4 else Pv (i + 1) ys H3) :
    LCr (Itl K a) H1 σ0 g tc te fin := by
  refine lc_of (n := xs.length) Pv h0 (fun ys H p => ⟨⟨xs, hl _ ys H p, Nat.le_refl _⟩, hd ys H p⟩) fun i ys H hi p => ?_
  have e : xs[i]? = some xs[i] := List.getElem?_eq_getElem hi
  obtain ⟨b, c⟩ := hs i _ ys H e p
  refine ⟨⟨xs, _, hl i ys H p, e⟩, b, fun x H' y => ?_⟩
  obtain ⟨z, y⟩ := y
  have q := y xs (hl i ys H p)
  rw [e] at q
  cases q
  subst z
  exact c
/-- over a zip of two that stay and are as long -/
theorem lc_zip {k1 k2 : Bool} {K : PySem.W.Frag} {a b : Addr} {xs zs : List V} (hlen : xs.length = zs.length) (Pv : Nat → List V → Hp → Prop) (h0 : Pv 0 [] H1) (hl : ∀ i ys H, Pv i ys H → Sq k1 K H a xs ∧ Sq k2 K H b zs) (hd : ∀ ys H, Pv xs.length ys H → fin ys H)
    (hs : ∀ i x z T ys H, xs[i]? = some x → zs[i]? = some z → Pv i ys H → H T = none → ys.length < sizeLine ∧ g (.ref T) σ0 (upd H T (.tup [x, z])) fun σ2 H2 => Sub σ0 σ2 ∧ tc σ2 H2 fun b H3 => if b = true then te σ2 H3 fun v H4 => Pv (i + 1) (ys ++ [v]) H4 else Pv (i + 1) ys H3)
    (hz : ∀ i ys H, Pv i ys H → ys.length < sizeLine) : LCr (Itz k1 k2 K a b) H1 σ0 g tc te fin := by
  refine lc_of (n := xs.length) Pv h0 (fun ys H p => ⟨⟨xs, zs, (hl _ ys H p).1, (hl _ ys H p).2, .inl (Nat.le_refl _)⟩, hd ys H p⟩) fun i ys H hi p => ?_
  have e1 : xs[i]? = some xs[i] := List.getElem?_eq_getElem hi
  have e2 : zs[i]? = some (zs[i]'(hlen ▸ hi)) := List.getElem?_eq_getElem (hlen ▸ hi)
  refine ⟨⟨xs, zs, (hl i ys H p).1, (hl i ys H p).2, hi, hlen ▸ hi⟩, hz i ys H p, fun v H' y => ?_⟩
  obtain ⟨T, x, z, rfl, nT, rfl, q1, q2⟩ := y
  exact (hs i x z T ys H (q1 xs (hl i ys H p).1) (q2 zs (hl i ys H p).2) p nT).2
end
/-! ### a op b op c op d, as a test -/
section
variable {X : Cx} {a b c d : Expr} {ta tb tc td : TE} {pos : Pos}
end

/-! ### min(a list of tuples of ints, default=..) -/
section
variable {prog : Program} {w : World} {A : Around} {E : Value → Shared → Prop} {s : Shared} {R : Result → Shared → Prop}
/-- the items, each a tuple of these ints -/
def TupsAt (h : Heap) (its : List Value) (nss : List (List Int)) : Prop := Paired (fun v ns => ∃ t items, v = .ref t ∧ IsTup h t items ∧ IntsAre items.toList ns) its nss
theorem TupsAt.keep {h h' : Heap} {its : List Value} {nss : List (List Int)} (x : TupsAt h its nss) (k : ∀ v ∈ its, ∀ t, v = .ref t → ∀ o, h.get? t = some o → h'.get? t = some o) : TupsAt h' its nss := by
  induction x with
  | nil => exact .nil
  | cons a r ih =>
    obtain ⟨t, items, e, ⟨o, ho, rr⟩, hi⟩ := a
    exact .cons ⟨t, items, e, ⟨o, k _ List.mem_cons_self t e o ho, rr⟩, hi⟩ (ih fun v hv => k v (List.mem_cons_of_mem _ hv))
theorem TupsAt.lt {h : Heap} {its : List Value} {nss : List (List Int)} (x : TupsAt h its nss) : ∀ v ∈ its, ∀ t, v = .ref t → t < h.objs.size := by
  induction x with
  | nil => exact fun v hv => nomatch hv
  | cons a r ih =>
    intro v hv t e
    rcases List.mem_cons.mp hv with z | z
    · obtain ⟨t', items, e', ⟨o, ho, _⟩, _⟩ := a
      have e2 := e'.symm.trans (z.symm.trans e)
      cases e2
      exact Heap.lt_size ho
    · exact ih v z t e
theorem args_minD (a d : Value) : argsOk "min" ⟨[a], [("default", d)]⟩ := by unfold argsOk; kernel_rfl
end

section
variable {X : Cx} {a d : Expr} {ta td : TE} {p pos kp : Pos}
theorem Inv.tups {pins : List (Addr × Obj)} {σ : St} {H : Hp} {s : Shared} (I : Inv X pins σ H s) : ∀ {ts : List Addr} {nss : List (List Int)} {its : List Value}, Paired (fun t ns => SqT X.K H t (ns.map V.int)) ts nss → Vals (ts.map V.ref) its → TupsAt s.heap its nss
  | _, _, _, .nil, .nil => .nil
  | t :: _, _, _, .cons h r, .cons v vs => by
    obtain rfl : _ = Value.ref t := v
    obtain ⟨its, rv, pl, _⟩ := I.tuple h
    exact .cons ⟨t, _, rfl, pl, intsAre_of (by simpa using rv)⟩ (I.tups r vs)
end

/-! ### the same rules with the written part K by its own name (for a comprehension's block) -/
section
variable {X : Cx} {K : PySem.W.Frag}
theorem pg_tupK {es : List Expr} {k : Nat} {t : TGs} {pos : Pos} (n : Nat) (hK : X.K = K) (hc : X.calm = true) (h : PGs X es t) (hn : (assignEach es X.env).length = n := by rfl) (hst : (assignEach es X.env).findIdx? (·.1) = none := by rfl) : PG X (.Tuple es k pos) (gTup K n t) := hK ▸ pg_tup hc h hn hst
theorem ix_listK (hK : X.K = K) : IxR X (rIxL K) := hK ▸ ix_list
theorem op_eqK (hK : X.K = K) (hu : X.A.units + 64 < cLine) : OpR X (compareOp .Eq) (rEqD K) := hK ▸ op_eqD hu
theorem op_inK (hK : X.K = K) : OpR X (compareOp .In) (rIn K false) := hK ▸ op_in_seq
theorem op_notInK (hK : X.K = K) : OpR X (compareOp .NotIn) (rIn K true) := hK ▸ op_notIn_seq
end
end L2

set_option Elab.async false
set_option linter.all false
set_option maxRecDepth 100000
/-! exceptions of the text's own classes: raised in a def, passing its callers, caught by a try -/
namespace L2
open PySem PySem.Spec PyProof.Rows

/-- the bases that all of them have -/
abbrev veB : List Value := [.type "ValueError", .type "Exception", .type "BaseException", .type "object"]
/-- a class of the text that is a ValueError and brings nothing of its own for making one -/
structure ExcC (K : PySem.W.Frag) (C : Addr) : Prop where
  ex : ∃ (nm q : Str) (N : Addr) (bs bm : List Value) (hdct : Bool) (sn : List Str) (sub : List Value) (ab : Bool) (col : Option Bool) (dd : Option Addr) (k0 k1 k2 k3 k5 : Option Value),
    K.lookup C = some (excClassObj nm q C N bs bm hdct sn sub ab col dd k0 k1 k2 k3 k5 "ValueError.__new__") ∧ PySem.W.tailIn K veB bm = true ∧ PySem.W.nsOkIn K N = true ∧ PySem.W.nsIn K N "__init__" = some none

theorem ExcC.of {K : PySem.W.Frag} {C : Addr} (q : PySem.W.excIn K C veB "ValueError.__new__" = true) : ExcC K C := by
  unfold PySem.W.excIn at q
  split at q
  · rename_i dd cd sl ho
    split at q
    · rename_i C' bm k0 k1 k2 k3 n k5 hm hs
      simp only [Bool.and_eq_true, beq_iff_eq, Bool.not_eq_true'] at q
      obtain ⟨⟨⟨⟨⟨rfl, rfl⟩, hdel⟩, ht⟩, hok⟩, hni⟩ := q
      obtain ⟨nm, bs, mro, ns, qn, hd, sn, sub, ab, col, del⟩ := cd
      dsimp only at hm hdel hok hni
      subst hm hdel
      have hsl : sl = #[k0, k1, k2, k3, some (.builtin "ValueError.__new__"), k5] := by
        obtain ⟨l⟩ := sl
        simp only at hs
        rw [hs]
      subst hsl
      exact ⟨⟨nm, qn, ns, bs, bm, hd, sn, sub, ab, col, dd, k0, k1, k2, k3, k5, ho, ht, hok, hni⟩⟩
    · cases q
  · cases q

/-- an exception that flies: the address, its class; what was tracked is tracked and lies still -/
def CX1 (P : Program) (w : World) : CXT := fun outer H s E e s' => ∃ (a C t : Addr) (B : Heap) (H' : Hp), e = .ref a ∧ s'.os = s.os ∧ AllBare s'.gens ∧ Un (frs outer) [] H H' s.heap s'.heap ∧ HOk P w H' s'.heap ∧
  Heap.FlyingW B outer a (.ref C) (.ref t) s'.heap ∧ (∀ b u, H' b = some u → ∃ o, B.get? b = some o) ∧ (∀ b o, s.heap.get? b = some o → b ∉ frs outer → ∃ o', B.get? b = some o') ∧ E (.ref C) none H'

section
variable {P : Program} {w : World} {fs ex : List Addr} {H H' : Hp} {h h1 h2 B : Heap}
theorem objOk_there {a : Addr} {o : HO} (x : ObjOk P w H h a o) : ∃ ob, h.get? a = some ob := by
  cases o with
  | lst xs => obtain ⟨_, _, _, _, e⟩ := x; exact ⟨_, e⟩
  | tup xs => obtain ⟨_, _, _, ob, e, _⟩ := x; exact ⟨_, e⟩
  | dK kvs => obtain ⟨_, _, _, _, ob, _, _, e, _⟩ := x; exact ⟨_, e⟩
  | dT kvs => obtain ⟨_, _, _, _, ob, _, _, e, _⟩ := x; exact ⟨_, e⟩
  | set S n => obtain ⟨ob, _, _, _, e, _⟩ := x; exact ⟨_, e⟩
  | ins C dx fs => obtain ⟨_, _, _, e, _⟩ := x; exact ⟨_, e⟩
  | own y => obtain ⟨_, e⟩ := x; exact ⟨_, e⟩
  | xd fs => obtain ⟨_, ⟨_, _, _, e, _⟩, _⟩ := x; exact ⟨_, e⟩
  | rng lo hi => obtain ⟨_, _, _, e⟩ := x; exact ⟨_, e⟩
  | frz ob u => obtain ⟨e, _⟩ := x; exact ⟨_, e⟩
  | tbl ps => exact ⟨_, (show h.get? a = some _ from x)⟩
  | met f y => exact ⟨_, (show h.get? a = some _ from x)⟩
  | ext φ => obtain ⟨_, e, _⟩ := x; exact e
/-- a step that lets B stand and changes slots alone -/
theorem fly_un (un : Un fs ex H H' h h1) (st : B.StaysIn h1) (st2 : B.StaysIn h2) (sl : h1.UpToSlots h2) (nf : ∀ b ∈ fs, ∀ o, h1.get? b = some o → ∀ vs, o.data ≠ .fields vs)
    (all : ∀ b o, h.get? b = some o → b ∉ fs → ∃ o', B.get? b = some o') : Un fs ex H H' h h2 where
  keep := fun b o e n hb hx => by
    obtain ⟨o', hB⟩ := all b o e hb
    have e1 := un.keep b o e n hb hx
    have e2 := st b o' hB
    rw [e1] at e2
    cases e2
    exact st2 b _ hB
  slot := fun b o e n hb hx => by
    obtain ⟨s1, e1⟩ := un.slot b o e n hb hx
    obtain ⟨s2, e2⟩ := sl b _ e1 (nf b hb _ e1)
    exact ⟨s2, e2⟩
  free := un.free
  there := fun b o e hx => by
    by_cases hb : b ∈ fs
    · obtain ⟨o1, e1⟩ := un.there b o e hx
      obtain ⟨s2, e2⟩ := sl b _ e1 (nf b hb _ e1)
      exact ⟨_, e2⟩
    · obtain ⟨o', hB⟩ := all b o e hb
      exact ⟨o', st2 b o' hB⟩
  tups := un.tups
  frzs := un.frzs
  tbls := un.tbls
theorem fly_hok (hok : HOk P w H' h1) (st : B.StaysIn h1) (st2 : B.StaysIn h2) (trk : ∀ b u, H' b = some u → ∃ o, B.get? b = some o) : HOk P w H' h2 := fun a o e =>
  (hok a o e).stay (fun b u hb q => by
    obtain ⟨o', hB⟩ : ∃ o, B.get? b = some o := by
      rcases hb with rfl | hb
      · exact trk _ _ e
      · exact trk _ _ hb
    have e2 := st b o' hB
    rw [q] at e2
    cases e2
    exact st2 b _ hB) (fun _ q => q) fun _ _ q => q
end

section
variable {P : Program} {w : World} {K : PySem.W.Frag} {mg : Str → Option Value} {base : Heap} {N : List Str} {qual : Str} {scope : Scope} {f : Addr} {cdv : Value} {A : Around} {outer : List Env} {s : Shared} {H : Hp} {E : XK}
/-- it passes a def's frame -/
theorem pass1 : Passes (CX1 P w) (cxOf (CX1 P w) P w K mg base N qual scope f cdv A outer s H E) E := by
  intro pins σ H1 s1 e s' I ⟨a, C, t, B, H', he, os, bare, un, hok, fly, trk, all, q⟩
  subst he
  have J := I.call' (s' := s') (ch := []) os un hok bare fun b z => absurd z (by simp)
  refine wpAny_leaves_onW (e := a) (L := s.heap.objs.size) (outer := outer) I.ok.frames rfl fly fun h' fl sl => ?_
  have nf : ∀ b ∈ frs outer, ∀ o, s'.heap.get? b = some o → ∀ vs, o.data ≠ .fields vs := fun b hb o ho vs hd => by
    obtain ⟨_, o', ho', hn⟩ := fly.2.2.1.mem (b := b) (show b ∈ s.heap.objs.size :: frs outer from List.mem_cons_of_mem _ hb)
    rw [ho] at ho'
    cases ho'
    exact hn vs hd
  have all' : ∀ b o, s.heap.get? b = some o → b ∉ frs outer → ∃ o', B.get? b = some o' := fun b o ho hb => by
    obtain ⟨o1, h1⟩ := I.base.there b o ho (fun z => absurd z (by show b ∉ ([] : List Addr); simp))
    refine all b o1 h1 fun z => ?_
    rcases List.mem_cons.mp (show b ∈ s.heap.objs.size :: frs outer from z) with z | z
    · exact absurd (Heap.lt_size ho) (by rw [z]; exact Nat.lt_irrefl _)
    · exact hb z
  exact ⟨a, C, t, B, H', rfl, J.os, bare, fly_un J.base fly.1 fl.1 sl nf all', fly_hok hok fly.1 fl.1 trk, fl, trk, all', q⟩

/-- raise C(..): the written arguments, then the wish -/
def tRaise (E : XK) (C : Addr) (t : TA) : TS := fun _ σ H => t σ H fun vs H1 => vs.length ≤ sizeLine ∧ E (.ref C) none H1
theorem ps_raise {x : Str} {C : Addr} {np cpos pos : Pos} {e : Expr} {es : List Expr} {t : TA} (c : ExcC K C) (hh : A.handled = none) (hm : mg x = some (.ref C)) (hg : Gl (cxOf (CX1 P w) P w K mg base N qual scope f cdv A outer s H E) x)
    (ha : PA (cxOf (CX1 P w) P w K mg base N qual scope f cdv A outer s H E) (e :: es) t) (hd : (x == ("__debug__" : Str)) = false := by decide)
    (he : starEach (e :: es) (cxOf (CX1 P w) P w K mg base N qual scope f cdv A outer s H E).env = (false, eval e (cxOf (CX1 P w) P w K mg base N qual scope f cdv A outer s H E).env) :: starEach es (cxOf (CX1 P w) P w K mg base N qual scope f cdv A outer s H E).env := by rfl)
    (hpl : (backTo cpos (starEach es (cxOf (CX1 P w) P w K mg base N qual scope f cdv A outer s H E).env)).any (·.1) = false := by rfl) :
    PS (cxOf (CX1 P w) P w K mg base N qual scope f cdv A outer s H E) (.Raise (some (.Call (.Name x np) (e :: es) [] cpos)) none pos) (tRaise E C t) := by
  intro pins s1 σ H1 D I h
  obtain ⟨nm, q, Nn, bs, bm, hdct, sn, sub, ab, col, dd, k0, k1, k2, k3, k5, lk, tl, nok, ini⟩ := c.ex
  have mN : ∀ {g : Heap}, K.In g → g.Ns Nn (g.nsMap Nn) ∧ g.nsMap Nn "__init__" = none := fun X => ⟨.of_isNs (PySem.W.isNs_of_in X nok), PySem.W.nsMap_none_of_in X nok ini⟩
  have T0 := PySem.W.tail_of_in (bmB := veB) I.kIn tl
  refine wpAny_Raise_call_subU (C := C) (nm := nm) (q := q) (N := Nn) (bs := bs) (bm := bm) (hdct := hdct) (sn := sn) (sub := sub) (ab := ab) (col := col) (dd := dd) (k0 := k0) (k1 := k1) (k2 := k2) (k3 := k3) (k5 := k5) (mN := base.nsMap Nn)
    PySem.F.excBase_ValueError (by decide +kernel) PySem.F.excBase_ValueError (T0.hasType PySem.F.excBase_ValueError.hasBase) hh ?_ (mN I.mod.kin).2 (ld_glob I hg hm ⟨rfl, ?_⟩ hd)
  · rw [he]
    show (false || _) = false
    rw [Bool.false_or]
    exact hpl
  rw [he]
  refine Calls.evalArgs_plain ?_
  have ha' := ha cpos pins s1 σ H1 _ I h
  rw [he] at ha'
  refine thn ha' fun us s2 ⟨vs, H2, I2, r, hl, hE⟩ => ?_
  refine ⟨rfl, by show us.length ≤ _; rw [← r.length]; exact hl, I2.kIn _ _ lk, (mN I2.mod.kin).1.keeps I2.bk, PySem.W.tail_of_in I2.kIn tl, fun h' a made => ?_⟩
  -- the raising def's own frame is left
  have fr : ∀ env ∈ (cxOf (CX1 P w) P w K mg base N qual scope f cdv A outer s H E).stack, ∀ b, env.frame = some b → b ∈ frs (cxOf (CX1 P w) P w K mg base N qual scope f cdv A outer s H E).stack := fun env hm b hb => List.mem_filterMap.mpr ⟨env, hm, hb⟩
  have st : (PySem.W.hideAll s2.heap (frs (cxOf (CX1 P w) P w K mg base N qual scope f cdv A outer s H E).stack)).StaysIn s2.heap := fun b o z => PySem.W.of_hideAll _ z
  refine wpAny_leaves_madeW (e := a) (L := s.heap.objs.size) (outer := outer) (h := s2.heap) I2.ok.frames rfl st (PySem.W.funFrames_hide I2.stack fr) made fun h'' t fly _ _ sl => ?_
  have un1 : Un (frs outer) [] H H2 s.heap h' := (show Un (frs outer) [] H H2 s.heap s2.heap from I2.base).trans (Un.kept made.keeps)
  have nf : ∀ b ∈ frs outer, ∀ o, h'.get? b = some o → ∀ vs, o.data ≠ .fields vs := fun b hb o ho vs hd => by
    obtain ⟨_, o', ho', hn⟩ := I2.stack.mem (b := b) (show b ∈ s.heap.objs.size :: frs outer from List.mem_cons_of_mem _ hb)
    have := made.keeps b o' ho'
    rw [ho] at this
    cases this
    exact hn vs hd
  have st1 : (PySem.W.hideAll s2.heap (frs (cxOf (CX1 P w) P w K mg base N qual scope f cdv A outer s H E).stack)).StaysIn h' := fun b o z => made.keeps b o (st b o z)
  have notFrame : ∀ b o, s.heap.get? b = some o → b ∉ frs outer → b ∉ frs (cxOf (CX1 P w) P w K mg base N qual scope f cdv A outer s H E).stack := fun b o ho hb z => by
    rcases List.mem_cons.mp (show b ∈ s.heap.objs.size :: frs outer from z) with z | z
    · exact absurd (Heap.lt_size ho) (by rw [z]; exact Nat.lt_irrefl _)
    · exact hb z
  have all' : ∀ b o, s.heap.get? b = some o → b ∉ frs outer → ∃ o', (PySem.W.hideAll s2.heap (frs (cxOf (CX1 P w) P w K mg base N qual scope f cdv A outer s H E).stack)).get? b = some o' := fun b o ho hb => by
    obtain ⟨o1, h1⟩ := I2.base.there b o ho (fun z => absurd z (by show b ∉ ([] : List Addr); simp))
    exact ⟨o1, PySem.W.hideAll_get _ h1 (notFrame b o ho hb)⟩
  have trk : ∀ b u, H2 b = some u → ∃ o, (PySem.W.hideAll s2.heap (frs (cxOf (CX1 P w) P w K mg base N qual scope f cdv A outer s H E).stack)).get? b = some o := fun b u hu => by
    have lt := I2.hok.lt hu
    have no : b ∉ frs (cxOf (CX1 P w) P w K mg base N qual scope f cdv A outer s H E).stack := fun z => by
      have := I2.stkFree b z
      rw [hu] at this
      cases this
    obtain ⟨o, ho⟩ : ∃ o, s2.heap.get? b = some o := by
      exact objOk_there (I2.hok b u hu)
    exact ⟨o, PySem.W.hideAll_get _ ho no⟩
  exact ⟨a, C, t, _, H2, rfl, I2.os, I2.bare, fly_un un1 st1 fly.1 sl nf all', fly_hok (I2.hok.kept made.keeps) st1 fly.1 trk, fly, trk, all', hE⟩

/-- no exception comes out of this call -/
theorem pass1n {X : Cx} : Passes (CX1 P w) X E0 := fun _ _ _ _ _ _ _ ⟨_, _, _, _, _, _, _, _, _, _, _, _, _, q⟩ => q.elim
/-- THE RULE for a def that none leaves -/
theorem Fun.ok1 {x qual : Str} {st : Stmt} {f : Addr} {fd : FuncData} {N ps : List Str} {k : Nat} {sp : Sp} (F : Fun K x qual st f fd) (S : FnScope N ps (defScope st)) (len : ∀ vs H Q E, sp vs H Q E → vs.length = ps.length)
    (hbody : ∀ (cdv : Value) (A : Around) (outer : List Env) (s : Shared) (H : Hp) (vs : List V) (Q : VK) (E : XK), Room k (A.deeper (envOfC qual (defScope st) s.heap.objs.size f cdv)) → sp vs H Q E →
      ∃ t, PSs (cxOf (CX1 P w) P w K mg base N qual (defScope st) f cdv A outer s H E).nox (defBody st) t ∧ t { nx := fun _ H' => Q .non H', rt := Q } (start N vs) H) : FnOk P w K mg base (CX1 P w) (k + 1) f fd ps sp := by
  obtain ⟨oc, od, kV, doc, pm, an, cdv, ct, osl, rfl, lk, hcd⟩ := F.ex
  refine fn_of lk hcd S len fun A outer s H vs Q E hr hsp => ?_
  obtain ⟨t, h, q⟩ := hbody cdv A outer s H vs Q E hr hsp
  exact ⟨t, h.nox, q⟩
/-- THE RULE for a def that an exception may leave -/
theorem Fun.okX {x qual : Str} {st : Stmt} {f : Addr} {fd : FuncData} {N ps : List Str} {k : Nat} {sp : Sp} {CX : CXT} (F : Fun K x qual st f fd) (S : FnScope N ps (defScope st)) (len : ∀ vs H Q E, sp vs H Q E → vs.length = ps.length)
    (hbody : ∀ (cdv : Value) (A : Around) (outer : List Env) (s : Shared) (H : Hp) (vs : List V) (Q : VK) (E : XK), Room k (A.deeper (envOfC qual (defScope st) s.heap.objs.size f cdv)) → sp vs H Q E →
      ∃ t, PSs (cxOf CX P w K mg base N qual (defScope st) f cdv A outer s H E) (defBody st) t ∧ t { nx := fun _ H' => Q .non H', rt := Q } (start N vs) H) : FnOk P w K mg base CX (k + 1) f fd ps sp := by
  obtain ⟨oc, od, kV, doc, pm, an, cdv, ct, osl, rfl, lk, hcd⟩ := F.ex
  exact fn_of lk hcd S len fun A outer s H vs Q E hr hsp => hbody cdv A outer s H vs Q E hr hsp
end
end L2

set_option Elab.async false
set_option linter.all false
set_option maxRecDepth 100000
/-! a try whose suite catches an exception of the text's own classes; isinstance -/
namespace L2
open PySem PySem.Spec PyProof.Rows

/-! ### a name goes; an object is tracked; slots are written -/
section
variable {X : Cx} {pins : List (Addr × Obj)} {σ : St} {H : Hp} {s : Shared}
theorem Inv.goes {M : Model} {A : Around} {E : Value → Shared → Prop} {i : Nat} {x : Str} {pos : Pos} {Q : Unit → Shared → Prop} (I : Inv X pins σ H s) (hN : X.N.Nodup) (hi : X.N[i]? = some x) (hk : X.env.scope.names.lookup x = some .local)
    (h : ∀ s', Inv X pins (σ.set i none) H s' → Q () s') : wpAny M A (do bindName X.env x .none; unbindBehindTheSuite X.env x pos) Q E s := by
  obtain ⟨m, hn, hl⟩ := id I.loc
  have hcls : (X.env.scope.kind == .class || (X.env.scope.kind == .module && X.env.locals != X.env.globals)) = false := by rw [I.ok.kind]; rfl
  have hiσ : i < σ.length := by rw [I.len]; exact (List.getElem?_eq_some_iff.mp hi).1
  have cne := I.cne
  refine wpAny_nameGoes_keeps hk hn hcls fun h' v hn' hs => ?_
  obtain ⟨oL, _, _, hoL, _⟩ := id hn
  have tracked : HOk X.prog X.w H h' := fun b ob e => by
    refine (I.hok b ob e).stay (fun c w' hc q => (hs.2 c ?_).trans q) (fun _ q => q) fun _ _ q => q
    intro z
    rcases hc with r | r
    · have fr := I.free
      rw [← z, r, e] at fr
      cases fr
    · have fr := I.free
      rw [← z, r] at fr
      cases fr
  refine h _ ⟨I.ok, I.os, I.bare, ⟨fun b o e n hb hx => ?_, fun b o e n hb hx => ?_, I.base.free, fun b o e hx => ?_, I.base.tups, I.base.frzs, I.base.tbls⟩, ⟨_, hn', fun j y v' e1 e2 e3 => ?_⟩, fun y c e => ?_, I.free, I.freeC, fun p hp => ?_, tracked, by simpa using I.len⟩
  · exact (hs.2 b (Nat.ne_of_lt (Nat.lt_of_lt_of_le (Heap.lt_size e) I.ok.above))).trans (I.base.keep b o e n hb hx)
  · obtain ⟨sl, e1⟩ := I.base.slot b o e n hb hx
    exact ⟨sl, (hs.2 b (Nat.ne_of_lt (Nat.lt_of_lt_of_le (Heap.lt_size e) I.ok.above))).trans e1⟩
  · obtain ⟨o', e1⟩ := I.base.there b o e hx
    exact ⟨o', (hs.2 b (Nat.ne_of_lt (Nat.lt_of_lt_of_le (Heap.lt_size e) I.ok.above))).trans e1⟩
  · by_cases hj : j = i
    · subst hj
      rw [List.getElem?_set_self hiσ] at e2
      cases e2
    · rw [List.getElem?_set_ne (Ne.symm hj)] at e2
      obtain ⟨u', r', q⟩ := hl j y v' e1 e2 e3
      refine ⟨u', r', ?_⟩
      rcases q with ⟨k, e⟩ | ⟨k, c, e, z⟩
      · refine .inl ⟨k, ?_⟩
        have : y ≠ x := fun e => hj (nodup_ix hN e1 (e ▸ hi))
        simp [this, e]
      · exact .inr ⟨k, c, e, z.sameBut hs (cne y c e)⟩
  · obtain ⟨w', z⟩ := I.cell y c e
    exact ⟨w', z.sameBut hs (cne y c e)⟩
  · obtain ⟨e, n, ne, nf, d⟩ := I.pin p hp
    exact ⟨(hs.2 p.1 ne).trans e, n, ne, nf, d⟩

/-- an exception of the class at C -/
def excO (a C : Addr) : HO := .ext fun h => ∃ o, h.get? a = some o ∧ o.cls = .ref C
theorem Inv.flown {B h2 : Heap} {t' : Nat} (I : Inv X pins σ H s) (st : B.StaysIn s.heap) (st2 : B.StaysIn h2) (sl : s.heap.UpToSlots h2) (trk : ∀ b u, H b = some u → ∃ o, B.get? b = some o)
    (all : ∀ b o, X.s₀.heap.get? b = some o → b ∉ X.fs → ∃ o', B.get? b = some o') (pb : ∀ p ∈ X.pn ++ pins, ∃ o', B.get? p.1 = some o') : Inv X pins σ H { s with heap := h2, toks := t' } := by
  have nf : ∀ b ∈ X.fs, ∀ o, s.heap.get? b = some o → ∀ vs, o.data ≠ .fields vs := fun b hb o ho vs hd => by
    obtain ⟨_, o', ho', hn⟩ := I.funs.mem (b := b) hb
    rw [ho] at ho'
    cases ho'
    exact hn vs hd
  have cellK : ∀ c v, s.heap.IsCell c v → h2.IsCell c v := fun c v ⟨o, ho, hd⟩ => by
    obtain ⟨s', e⟩ := sl c o ho fun vs q => by rw [hd] at q; cases q
    exact ⟨_, e, hd⟩
  obtain ⟨m, hn, hl⟩ := id I.loc
  refine ⟨I.ok, I.os, I.bare, fly_un I.base st st2 sl nf all, ⟨m, sl.ns hn, fun i x v e1 e2 e3 => ?_⟩, fun x c e => ?_, I.free, I.freeC, fun p hp => ?_, fly_hok I.hok st st2 trk, I.len⟩
  · obtain ⟨u, r, l⟩ := hl i x v e1 e2 e3
    refine ⟨u, r, ?_⟩
    rcases l with l | ⟨k, c, e, z⟩
    · exact .inl l
    · exact .inr ⟨k, c, e, cellK c _ z⟩
  · obtain ⟨v, z⟩ := I.cell x c e
    exact ⟨v, cellK c v z⟩
  · obtain ⟨e, n, ne, nf', d⟩ := I.pin p hp
    obtain ⟨o', hB⟩ := pb p hp
    have e1 := st p.1 o' hB
    rw [e] at e1
    cases e1
    exact ⟨st2 p.1 _ hB, n, ne, nf', d⟩
end

/-! ### the try's body -/
/-- an exception that leaves the body: the state is the one at the try -/
def Thrown (X : Cx) (pins : List (Addr × Obj)) (σ : St) (E1 : XK) (e : Value) (s' : Shared) : Prop :=
  ∃ (a C t : Addr) (B : Heap) (H' : Hp), e = .ref a ∧ Inv X pins σ H' s' ∧ Heap.FlyingW B X.stack a (.ref C) (.ref t) s'.heap ∧ (∀ b u, H' b = some u → ∃ o, B.get? b = some o) ∧
    (∀ b o, X.s₀.heap.get? b = some o → b ∉ X.fs → ∃ o', B.get? b = some o') ∧ (∀ p ∈ X.pn ++ pins, ∃ o', B.get? p.1 = some o') ∧ E1 (.ref C) none H'
def cxTry (X : Cx) (pins : List (Addr × Obj)) (σ : St) (E1 : XK) : Cx := { X with pn := X.pn ++ pins, xe := Thrown X pins σ E1 }
section
variable {X : Cx} {pins pins' : List (Addr × Obj)} {σ σ' : St} {H : Hp} {s : Shared} {E1 : XK}
theorem Inv.inTry (I : Inv X pins σ' H s) : Inv (cxTry X pins σ E1) [] σ' H s :=
  ⟨⟨I.ok.mod, I.ok.kind, I.ok.glob, I.ok.blt, I.ok.above, I.ok.inj, I.ok.has, I.ok.cab, I.ok.hd, I.ok.frames, I.ok.stk, I.ok.exf, I.ok.bs, I.ok.bsz, I.ok.noex, I.ok.exfs, I.ok.funs, I.ok.frf⟩, I.os, I.bare, I.base, I.loc, I.cell, I.free, I.freeC,
    fun p hp => I.pin p (by simpa [cxTry] using hp), I.hok, I.len⟩
theorem Inv.outTry (I : Inv (cxTry X pins σ E1) pins' σ' H s) : Inv X pins σ' H s :=
  ⟨⟨I.ok.mod, I.ok.kind, I.ok.glob, I.ok.blt, I.ok.above, I.ok.inj, I.ok.has, I.ok.cab, I.ok.hd, I.ok.frames, I.ok.stk, I.ok.exf, I.ok.bs, I.ok.bsz, I.ok.noex, I.ok.exfs, I.ok.funs, I.ok.frf⟩, I.os, I.bare, I.base, I.loc, I.cell, I.free, I.freeC,
    fun p hp => I.pin p (List.mem_append_left _ hp), I.hok, I.len⟩
theorem SP.outTry {D : Ends} {f : Flow} {s' : Shared} (h : SP (cxTry X pins σ E1) pins' D f s') : SP X pins D f s' := by
  cases f with
  | next => obtain ⟨σ', H', I, q⟩ := h; exact ⟨σ', H', I.outTry, q⟩
  | brk => obtain ⟨σ', H', I, q⟩ := h; exact ⟨σ', H', I.outTry, q⟩
  | cont => obtain ⟨σ', H', I, q⟩ := h; exact ⟨σ', H', I.outTry, q⟩
  | ret u => obtain ⟨v, σ', H', I, r, q⟩ := h; exact ⟨v, σ', H', I.outTry, r, q⟩
end
/-- an exception of a callee, at this very store of names -/
def PassesAt (CX : CXT) (X : Cx) (E : XK) (σ0 : St) : Prop := ∀ (pins : List (Addr × Obj)) (H : Hp) (s : Shared) (e : Value) (s' : Shared), Inv X pins σ0 H s → CX X.stack H s E e s' → X.xe e s'
def tCallAt (sp : Sp) (σ0 : St) (E : XK) (t : TA) : TE := fun σ H Q => σ = σ0 ∧ t σ H fun vs H1 => sp vs H1 Q E
section
variable {X : Cx} {CX : CXT} {k : Nat} {f C : Addr} {fd : FuncData} {ps : List Str} {sp : Sp} {E : XK} {x m : Str} {p pos apos : Pos} {e o : Expr} {es : List Expr} {ta : TE} {t : TA} {σ0 : St}
theorem pe_callAt (F : FnOk X.prog X.w X.K X.mg X.base CX k f fd ps sp) (hr : Room k X.A) (hg : Gl X x) (hm : X.mg x = some (.ref f)) (hk : PySem.W.keepIn X.K (.ref f) = true) (hb : Binds X.K fd ps []) (hx : PassesAt CX X E σ0)
    (ha : PA X (e :: es) t) (hdb : (x == ("__debug__" : Str)) = false := by decide) (he : starEach (e :: es) X.env = (false, eval e X.env) :: starEach es X.env := by rfl) (hpl : (backTo pos (starEach es X.env)).any (·.1) = false := by rfl) :
    PE X (.Call (.Name x p) (e :: es) [] pos) (tCallAt sp σ0 E t) := by
  intro pins s σ H Q I h
  obtain ⟨hσ, h⟩ := h
  subst hσ
  refine wpAny_Call_Name_kw (ld_glob I hg hm ?_ hdb)
  refine PySem.W.callWith_K (h₀ := X.base) I.ok.mod.kin hk (thn (ha pos pins s σ H _ I h) fun us s1 ⟨vs, H1, I1, r, q⟩ => ⟨I1.kIn, ?_⟩) he hpl
  have hl : us.length = ps.length := by rw [← r.length]; exact F.len _ _ _ _ q
  have hb' := hb s1 us I1.kIn (by rw [List.append_nil]; exact hl)
  rw [List.append_nil] at hb'
  refine wpAny_call (codeAny_mono (F.run X.A X.stack s1 H1 ⟨us, []⟩ us vs Q E hr I1.env0 hb' r q) fun r s' hq => ?_)
  cases r with
  | error e => exact hx pins H1 s1 e s' I1 hq
  | ok fl =>
    cases fl with
    | ret u => exact I1.after hq
    | next => exact False.elim hq
    | brk => exact False.elim hq
    | cont => exact False.elim hq
theorem passT {pins : List (Addr × Obj)} (hex : X.ex = []) : PassesAt (CX1 X.prog X.w) (cxTry X pins σ0 E) E σ0 := by
  intro pins' H s e s' I ⟨a, C, t, B, H', he, os, bare, un, hok, fly, trk, all, q⟩
  have J : Inv X pins σ0 H s := I.outTry
  have J' : Inv X pins σ0 H' s' := J.call' (s' := s') (ch := []) os un hok bare fun b z => absurd z (by simp)
  have noF : ∀ b, b ≠ X.env.locals → b ∉ X.fs → b ∉ frs X.stack := fun b h1 h2 z => by
    rcases List.mem_cons.mp (J.stkSub b z) with r | r
    · exact h1 r
    · exact h2 r
  refine ⟨a, C, t, B, H', he, J', fly, trk, fun b o hb hf => ?_, fun p hp => ?_, q⟩
  · obtain ⟨o1, h1⟩ := J.base.there b o hb (by rw [hex]; simp)
    exact all b o1 h1 (noF b (Nat.ne_of_lt (Nat.lt_of_lt_of_le (Heap.lt_size hb) J.ok.above)) hf)
  · obtain ⟨h1, _, h2, h3, _⟩ := J.pin p hp
    exact all p.1 p.2 h1 (noF p.1 h2 h3)
end

/-! ### the handler -/
def cxHand (X : Cx) (a : Addr) : Cx := { X with A := X.A.mark (some (.ref a)), calm := false, xe := fun _ _ => False }
section
variable {X : Cx} {pins : List (Addr × Obj)} {σ : St} {H : Hp} {s : Shared} {a : Addr}
theorem Inv.inHand (I : Inv X pins σ H s) : Inv (cxHand X a) pins σ H s :=
  ⟨⟨I.ok.mod, I.ok.kind, I.ok.glob, I.ok.blt, I.ok.above, I.ok.inj, I.ok.has, I.ok.cab, (fun z => nomatch z), I.ok.frames, I.ok.stk, I.ok.exf, I.ok.bs, I.ok.bsz, I.ok.noex, I.ok.exfs, I.ok.funs, I.ok.frf⟩, I.os, I.bare, I.base, I.loc, I.cell, I.free, I.freeC, I.pin, I.hok, I.len⟩
theorem Inv.outHand (ok : X.Ok) (I : Inv (cxHand X a) pins σ H s) : Inv X pins σ H s := ⟨ok, I.os, I.bare, I.base, I.loc, I.cell, I.free, I.freeC, I.pin, I.hok, I.len⟩
end
/-- the class that an except names -/
structure CatchC (K : PySem.W.Frag) (L : Addr) : Prop where
  ty : PySem.W.typeIn K (.ref L) = some (.type "type")
  base : PySem.W.mroIn K L (.type "BaseException") = some true
theorem isType_of {K : PySem.W.Frag} {M : Model} {h : Heap} {C : Addr} {b : Value} {r : Bool} (X : K.In h) (e : PySem.W.mroIn K C b = some r) : PySem.W.Looks M h (isType (.ref C)) true := by
  obtain ⟨cd, hc, _⟩ := Option.bind_eq_some_iff.mp e
  unfold PySem.W.clsIn at hc
  split at hc
  · rename_i c' d' cd' sl' ho
    intro A' Q' E' s' k q
    unfold isType loadHead
    exact wpAny_bind (wpAny_loadPart (k _ _ (X _ _ ho)) (wpAny_pure q))
  · cases hc
theorem exc_matches {K : PySem.W.Frag} {M : Model} {A : Around} {E : Value → Shared → Prop} {s : Shared} {e C L : Addr} {Q : Bool → Shared → Prop} (X : K.In s.heap) (c : CatchC K L) (he : ∃ o, s.heap.get? e = some o ∧ o.cls = .ref C)
    (hs : PySem.W.subIn K (.ref C) (.ref L) = some true) (h : Q true s) : wpAny M A (excMatches (.ref e) (.ref L)) Q E s := by
  obtain ⟨hh, g, d, t, os⟩ := s
  obtain ⟨o, ho, hc⟩ := he
  have L0 : PySem.W.Looks M hh (typeOf (.ref e)) (.ref C) := hc ▸ (PySem.W.Looks.ld ho).andThen .now
  have L1 := PySem.W.looks_typeIn (M := M) X c.ty
  have L2 := isType_of (M := M) X c.base
  have L3 := PySem.W.looks_mroIn (M := M) X c.base
  have L4 := PySem.W.looks_subIn (M := M) X hs
  have L5 : PySem.W.Looks M hh (isSubtype (.type "type") (.type "tuple")) false := PySem.W.Looks.of_pure (by rw [isSubtype_type]; kernel_rfl)
  have L6 : PySem.W.Looks M hh (isInstance (.ref L) (.type "tuple")) false := L1.andThen L5
  have L7 : PySem.W.Looks M hh (isExcClass (.ref L)) true := L2.andThen L3
  unfold excMatches
  refine wpAny_bind (L6.at ?_)
  simp only [Bool.false_eq_true, if_false]
  refine wpAny_bind (wpAny_pure ?_)
  simp only [List.forIn_cons, List.forIn_nil]
  refine wpAny_bind (wpAny_bind (wpAny_bind (L7.at ?_)))
  simp only [Bool.not_true, Bool.false_eq_true, if_false]
  refine wpAny_pure (wpAny_pure ?_)
  refine wpAny_bind (L0.at ?_)
  refine wpAny_bind (wpAny_bind (wpAny_bind (L4.at ?_)))
  simp only [if_true]
  exact wpAny_pure (wpAny_pure (wpAny_pure h))

section
variable {X : Cx} {body suite : List Stmt} {b₀ : Stmt} {Ln n : Str} {np hpos pos : Pos} {aL : Addr} {ie : Nat} {tb : St → XK → TS} {th : TS}
end

/-! ### isinstance -/
/-- how an exception's own attributes are looked up -/
structure ExcLk (K : PySem.W.Frag) (C : Addr) : Prop where
  ga : PySem.W.findIn K (.ref C) "__getattribute__" = some (some (.builtin "BaseException.__getattribute__"))
  gh : PySem.W.findIn K (.ref C) "__getattr__" = some none
  ca : PySem.W.findIn K (.ref C) "__class__" = some (some (.builtin "object.__class__"))
  mo : PySem.W.mroIn K C (.type "object") = some true
  mb : PySem.W.mroIn K C (.type "BaseException") = some true
section
variable {prog : Program} {w : World} {A : Around} {E : Value → Shared → Prop} {s : Shared} {K : PySem.W.Frag} {a C : Addr}
end
/-- the class behind a value -/
def clsV : V → Value
  | .ty n => .type n
  | .ref a => .ref a
  | _ => .none
def isCls : V → Bool
  | .ty _ => true
  | .ref _ => true
  | _ => false
def TyX (K : PySem.W.Frag) (H : Hp) (x : V) (t : Value) : Prop := TyOf K H x t ∨ ∃ a C, x = .ref a ∧ H a = some (excO a C) ∧ t = .ref C ∧ ExcLk K C
@[irreducible] def rIsi (K : PySem.W.Frag) : List V → Hp → VK → Prop := fun xs H Q => ∃ x c t b, xs = [x, c] ∧ isCls c = true ∧ TyX K H x t ∧ PySem.W.kitOne K t (clsV c) = some b ∧ Q (.bl b) H
theorem bt_int : bootBuiltins "int" = some (.type "int") := by decide +kernel
theorem bt_str : bootBuiltins "str" = some (.type "str") := by decide +kernel
theorem bt_list : bootBuiltins "list" = some (.type "list") := by decide +kernel
/-! ### the text's own exceptions -/
structure ExcT (K : PySem.W.Frag) (mg : Str → Option Value) (cL cF cN cC cO : Addr) : Prop where
  m_LitError : mg "LitError" = some (.ref cL)
  m_NoFigure : mg "NoFigure" = some (.ref cF)
  m_NoNumber : mg "NoNumber" = some (.ref cN)
  m_Clash : mg "Clash" = some (.ref cC)
  m_NoNote : mg "NoNote" = some (.ref cO)
  cat : CatchC K cL
/-- one of them that is raised: which of the four it is -/
structure RaisedC (K : PySem.W.Frag) (cL cF cN cC cO c : Addr) (bF bN bC bO : Bool) : Prop where
  made : ExcC K c
  lk : ExcLk K c
  sub : PySem.W.subIn K (.ref c) (.ref cL) = some true
  kF : PySem.W.kitOne K (.ref c) (.ref cF) = some bF
  kN : PySem.W.kitOne K (.ref c) (.ref cN) = some bN
  kC : PySem.W.kitOne K (.ref c) (.ref cC) = some bC
  kO : PySem.W.kitOne K (.ref c) (.ref cO) = some bO
  kV : PySem.W.kitOne K (.ref c) (.type "ValueError") = some true
end L2

set_option Elab.async false
set_option linter.all false
set_option maxRecDepth 100000
/-! data that is equal to itself -/
namespace L2
open PySem PySem.Spec PyProof.Rows
theorem can_all : ∀ {ds : List PyData}, (∀ d ∈ ds, d.canLay0 = true) → PyData.canLayAll0 ds = true
  | [], _ => rfl
  | d :: r, h => by simp [PyData.canLayAll0, h d List.mem_cons_self, can_all fun x hx => h x (List.mem_cons_of_mem _ hx)]
theorem depth_all {n : Nat} : ∀ {ds : List PyData}, (∀ d ∈ ds, d.depth ≤ n) → PyData.depthAll ds ≤ n
  | [], _ => by simp [PyData.depthAll]
  | d :: r, h => by
    have h1 := h d List.mem_cons_self
    have h2 := depth_all fun x hx => h x (List.mem_cons_of_mem _ hx)
    simp only [PyData.depthAll]
    omega
theorem eqv_all : ∀ {ds : List PyData}, (∀ d ∈ ds, PyData.eqv d d = true) → PyData.eqvAll ds ds = true
  | [], _ => by simp [PyData.eqvAll]
  | d :: r, h => by simp [PyData.eqvAll, h d List.mem_cons_self, eqv_all fun x hx => h x (List.mem_cons_of_mem _ hx)]
/-- data without floats, of at most this depth -/
structure Plain (n : Nat) (d : PyData) : Prop where
  can : d.canLay0 = true
  dep : d.depth ≤ n
  self : PyData.eqv d d = true
theorem Plain.int (i : Int) : Plain 0 (.int i) := ⟨rfl, by simp [PyData.depth], by simp [PyData.eqv]⟩
theorem Plain.str (x : Str) (h : PyData.strOk x = true) : Plain 0 (.str x) := ⟨by simp [PyData.canLay0, h], by simp [PyData.depth], by simp [PyData.eqv]⟩
theorem Plain.bool (b : Bool) : Plain 0 (.bool b) := ⟨rfl, by simp [PyData.depth], by simp [PyData.eqv]⟩
theorem Plain.none : Plain 0 .none := ⟨rfl, by simp [PyData.depth], by simp [PyData.eqv]⟩
theorem Plain.list {n : Nat} {ds : List PyData} (h : ∀ d ∈ ds, Plain n d) : Plain (n + 1) (.list ds) :=
  ⟨by simp only [PyData.canLay0]; exact can_all fun d hd => (h d hd).can, by simp only [PyData.depth]; have := depth_all fun d hd => (h d hd).dep; omega, by rw [PyData.eqv]; exact eqv_all fun d hd => (h d hd).self⟩
theorem Plain.tuple {n : Nat} {ds : List PyData} (h : ∀ d ∈ ds, Plain n d) : Plain (n + 1) (.tuple ds) :=
  ⟨by simp only [PyData.canLay0]; exact can_all fun d hd => (h d hd).can, by simp only [PyData.depth]; have := depth_all fun d hd => (h d hd).dep; omega, by rw [PyData.eqv]; exact eqv_all fun d hd => (h d hd).self⟩
theorem Plain.shaped {n : Nat} {d : PyData} (h : Plain n d) (hn : n ≤ 64 := by decide) : SeqAt.shaped d = true := by
  have := h.dep
  simp only [SeqAt.shaped, h.can, Bool.true_and]
  exact decide_eq_true (by omega)
theorem Plain.ints (ns : List Int) : Plain 1 (.list (ns.map .int)) := .list fun d hd => by obtain ⟨i, _, rfl⟩ := List.mem_map.mp hd; exact .int i
theorem Plain.strs (ns : List Str) (h : ∀ x ∈ ns, PyData.strOk x = true) : Plain 1 (.list (ns.map .str)) := .list fun d hd => by obtain ⟨i, hi, rfl⟩ := List.mem_map.mp hd; exact .str i (h i hi)
theorem Plain.bools (ns : List Bool) : Plain 1 (.list (ns.map .bool)) := .list fun d hd => by obtain ⟨i, _, rfl⟩ := List.mem_map.mp hd; exact .bool i
section
variable {X : Cx} {K : PySem.W.Frag} {o e : Expr} {es : List Expr} {to : TE} {t : TA} {name : Str} {apos cpos : Pos} {T id : String} {r : V → List V → Hp → VK → Prop}
theorem pe_bmK (hK : X.K = K) (pa : PlainAttrs T) (slot : Slot T name id) (hty : typeOf (.builtin id) = pure (.type "method_descriptor")) (hm : MtR X id r) (ho : PE X o to) (ha : PA X (e :: es) t)
    (hbase : attributeBase o name X.env (eval o X.env) = eval o X.env := by rfl)
    (hfew : ((backTo cpos (starEach (e :: es) X.env)).all (fun x => !x.1) && (backToKw cpos (keywordEach [] X.env)).all (fun x => x.1.isSome)
      && decide ((e :: es).length + ([] : List Keyword).length + (if ([] : List Keyword).isEmpty then 0 else 1) < 30)) = true := by rfl)
    (hline : (apos.endLine == cpos.line) = true := by rfl) (hs : starEach (e :: es) X.env = (false, eval e X.env) :: starEach es X.env := by rfl) (hplain : (backTo cpos (starEach es X.env)).any (·.1) = false := by rfl) :
    PE X (.Call (.Attribute o name apos) (e :: es) [] cpos) (tBM K T r to t) := hK ▸ pe_bm pa slot hty hm ho ha hbase hfew hline hs hplain
end
/-! isinstance, answered -/
section
variable {K : PySem.W.Frag} {H : Hp} {Q : VK}
end
/-! a display of constants -/
def constV : Expr → Option V
  | .Constant (.str x) _ _ => some (.str x)
  | .Constant (.int i) _ _ => some (.int i)
  | .Constant (.bool b) _ _ => some (.bl b)
  | .Constant .none _ _ => some .non
  | _ => none
def constAll : List Expr → Option (List V)
  | [] => some []
  | e :: r => match constV e, constAll r with
    | some v, some vs => some (v :: vs)
    | _, _ => none
def tConsts (vs : List V) : TA := fun _ H Q => Q vs H
theorem constV_pe {X : Cx} {e : Expr} {v : V} (h : constV e = some v) : PE X e (tC v) ∧ ∀ es, starEach (e :: es) X.env = (false, eval e X.env) :: starEach es X.env := by
  unfold constV at h
  split at h <;> cases h
  · exact ⟨pe_str, fun _ => rfl⟩
  · exact ⟨pe_int, fun _ => rfl⟩
  · exact ⟨pe_bl, fun _ => rfl⟩
  · exact ⟨pe_non, fun _ => rfl⟩
theorem pa_const {X : Cx} : ∀ {es : List Expr} {vs : List V}, constAll es = some vs → PA X es (tConsts vs)
  | [], vs, h => by cases h; exact pa_nil
  | e :: r, vs, h => by
    unfold constAll at h
    split at h
    · rename_i v vs' hv hr
      cases h
      obtain ⟨h1, h2⟩ := constV_pe (X := X) hv
      exact pa_cons h1 (pa_const hr) (h2 r)
    · cases h
theorem bt_range : bootBuiltins "range" = some (.type "range") := by decide +kernel
end L2

set_option Elab.async false
set_option linter.all false
set_option maxRecDepth 100000
namespace L2
open PySem PySem.Spec PyProof.Rows

/-! ### lists of pairs as tables -/
section
variable {κ : Type} [DecidableEq κ]
def valV (kvs : List (κ × V)) (k : κ) : Option V := (kvs.find? fun kv => decide (kv.1 = k)).map (·.2)
/-- in its place, or at the end -/
def putK (kvs : List (κ × V)) (k : κ) (v : V) : List (κ × V) :=
  if (kvs.any fun kv => decide (kv.1 = k)) = true then kvs.map (fun kv => if kv.1 = k then (kv.1, v) else kv) else kvs ++ [(k, v)]
def dropK (kvs : List (κ × V)) (k : κ) : List (κ × V) := kvs.filter fun kv => decide (kv.1 ≠ k)

theorem valV_pos {p : κ × V} {r : List (κ × V)} {k : κ} (e : p.1 = k) : valV (p :: r) k = some p.2 := by simp [valV, List.find?_cons, e]
theorem valV_neg {p : κ × V} {r : List (κ × V)} {k : κ} (e : ¬ p.1 = k) : valV (p :: r) k = valV r k := by simp [valV, List.find?_cons, e]
theorem valV_any (k : κ) : ∀ kvs : List (κ × V), (kvs.any fun kv => decide (kv.1 = k)) = (valV kvs k).isSome
  | [] => rfl
  | p :: r => by
    rw [List.any_cons]
    by_cases e : p.1 = k
    · simp only [valV_pos e, decide_eq_true e, Bool.true_or, Option.isSome_some]
    · rw [valV_neg e, decide_eq_false e, Bool.false_or]; exact valV_any k r
theorem length_putK (kvs : List (κ × V)) (k : κ) (v : V) : (putK kvs k v).length ≤ kvs.length + 1 := by
  unfold putK
  split
  · rw [List.length_map]; omega
  · rw [List.length_append, List.length_cons, List.length_nil]; omega
theorem putK_new {kvs : List (κ × V)} {k : κ} (v : V) (h : valV kvs k = none) : putK kvs k v = kvs ++ [(k, v)] := by
  unfold putK
  rw [valV_any, h]
  exact if_neg (by decide)

theorem RelO.isSome_eq {o : Option V} {u : Option Value} (r : RelO o u) : o.isSome = u.isSome := by
  cases o with
  | none => cases u with
    | none => rfl
    | some _ => exact (show False from r).elim
  | some _ => cases u with
    | none => exact (show False from r).elim
    | some _ => rfl
theorem RelO.getD {o : Option V} {u : Option Value} {d : V} {d' : Value} (r : RelO o u) (rd : RelV d d') : RelV (o.getD d) (u.getD d') := by
  cases o with
  | none => cases u with
    | none => exact rd
    | some _ => exact (show False from r).elim
  | some _ => cases u with
    | none => exact (show False from r).elim
    | some _ => exact r

/-- raw tables of the same keys -/
theorem KV.val {kvs : List (κ × V)} {vs : List (κ × Value)} (r : KV kvs vs) (k : κ) : RelO (valV kvs k) (valueAt vs k) := by
  unfold KV at r
  induction r with
  | nil => exact True.intro
  | @cons p q ps qs h t ih =>
    obtain ⟨h1, h2⟩ := h
    by_cases e : p.1 = k
    · have e' : q.1 = k := h1.symm.trans e
      have b : valueAt (q :: qs) k = some q.2 := by simp [valueAt, List.find?_cons, e']
      rw [valV_pos e, b]; exact h2
    · have e' : ¬ q.1 = k := fun z => e (h1.trans z)
      have b : valueAt (q :: qs) k = valueAt qs k := by simp [valueAt, List.find?_cons, e']
      rw [valV_neg e, b]; exact ih
theorem KV.any {kvs : List (κ × V)} {vs : List (κ × Value)} (r : KV kvs vs) (k : κ) : (kvs.any fun kv => decide (kv.1 = k)) = vs.any fun kv => decide (kv.1 = k) := by
  unfold KV at r
  induction r with
  | nil => rfl
  | cons h t ih => rw [List.any_cons, List.any_cons, ih, h.1]
theorem KV.repl {kvs : List (κ × V)} {vs : List (κ × Value)} (r : KV kvs vs) (k : κ) {y : V} {u : Value} (ry : RelV y u) :
    KV (kvs.map fun kv => if kv.1 = k then (kv.1, y) else kv) (vs.map fun kv => if kv.1 = k then (kv.1, u) else kv) := by
  unfold KV at r ⊢
  induction r with
  | nil => exact .nil
  | @cons p q ps qs h t ih =>
    rw [List.map_cons, List.map_cons]
    refine .cons ?_ ih
    obtain ⟨h1, h2⟩ := h
    by_cases e : p.1 = k
    · rw [if_pos e, if_pos (h1.symm.trans e)]; exact ⟨h1, ry⟩
    · rw [if_neg e, if_neg (fun z => e (h1.trans z))]; exact ⟨h1, h2⟩
theorem KV.put {kvs : List (κ × V)} {vs : List (κ × Value)} (r : KV kvs vs) (k : κ) {y : V} {u : Value} (ry : RelV y u) : KV (putK kvs k y) (stored vs k u) := by
  unfold putK stored
  rw [r.any k]
  by_cases e : (vs.any fun kv => decide (kv.1 = k)) = true
  · rw [if_pos e, if_pos e]; exact r.repl k ry
  · rw [if_neg e, if_neg e]; exact Paired.snoc r ⟨rfl, ry⟩
theorem KV.drop {kvs : List (κ × V)} {vs : List (κ × Value)} (r : KV kvs vs) (k : κ) : KV (dropK kvs k) (without vs k) := by
  unfold KV at r ⊢
  unfold dropK without
  induction r with
  | nil => exact .nil
  | @cons p q ps qs h t ih =>
    obtain ⟨h1, h2⟩ := h
    rw [List.filter_cons, List.filter_cons]
    by_cases e : p.1 = k
    · have a : ¬ decide (p.1 ≠ k) = true := by simp [e]
      have b : ¬ decide (q.1 ≠ k) = true := by simp [h1.symm.trans e]
      rw [if_neg a, if_neg b]; exact ih
    · have e' : ¬ q.1 = k := fun z => e (h1.trans z)
      have a : decide (p.1 ≠ k) = true := by simp [e]
      have b : decide (q.1 ≠ k) = true := by simp [e']
      rw [if_pos a, if_pos b]; exact .cons ⟨h1, h2⟩ ih
theorem KV.keys {kvs : List (κ × V)} {vs : List (κ × Value)} (r : KV kvs vs) : kvs.map (·.1) = vs.map (·.1) := by
  unfold KV at r
  induction r with
  | nil => rfl
  | cons h t ih => rw [List.map_cons, List.map_cons, ih, h.1]
theorem KV.length {kvs : List (κ × V)} {vs : List (κ × Value)} (r : KV kvs vs) : kvs.length = vs.length := Paired.length r
end

/-! ### a tracked dict, its keys ints and texts or tuples of these -/
theorem kV_is {P : Program} {w : World} {k : Key} {u : Value} (r : RelV (kV k) u) : (mixKind P w).is k u = true := by
  cases k with
  | inl i => obtain ⟨t, e⟩ := (show ∃ t, u = Value.int i t from r); subst e; exact mixKind_int P w i t
  | inr x => obtain ⟨t, e⟩ := (show ∃ t, u = Value.str x t from r); subst e; exact mixKind_str P w x t
theorem items_are {P : Program} {w : World} : ∀ {ks : List Key} {us : List Value}, Vals (ks.map kV) us → ItemsAre (mixKind P w) ks us
  | [], _, r => by rw [List.map_nil] at r; cases r; exact .nil
  | k :: ks, _, r => by
    rw [List.map_cons] at r
    cases r with
    | cons h t => exact .cons (kV_is h) (items_are t)

/-- raw entries of a dict with tuple keys -/
abbrev KT (H : Hp) : List (List Key × V) → List (List Key × Addr × Value) → Prop := Paired fun p q => p.1 = q.1 ∧ H q.2.1 = some (.tup (p.1.map kV)) ∧ RelV p.2 q.2.2
theorem KT.val {H : Hp} {kvs : List (List Key × V)} {xs : List (List Key × Addr × Value)} (r : KT H kvs xs) (k : List Key) : RelO (valV kvs k) ((atKey xs k).map (·.2)) := by
  induction r with
  | nil => exact True.intro
  | @cons p q ps qs h t ih =>
    obtain ⟨h1, _, h2⟩ := h
    by_cases e : p.1 = k
    · have e' : q.1 = k := h1.symm.trans e
      have b : atKey (q :: qs) k = some q.2 := by simp [atKey, List.find?_cons, e']
      rw [valV_pos e, b]; exact h2
    · have e' : ¬ q.1 = k := fun z => e (h1.trans z)
      have b : atKey (q :: qs) k = atKey qs k := by simp [atKey, List.find?_cons, e']
      rw [valV_neg e, b]; exact ih
theorem KT.repl {H : Hp} {kvs : List (List Key × V)} {xs : List (List Key × Addr × Value)} (r : KT H kvs xs) (k : List Key) {y : V} {u : Value} (ry : RelV y u) :
    KT H (kvs.map fun kv => if kv.1 = k then (kv.1, y) else kv) (xs.map (putAt k u)) := by
  induction r with
  | nil => exact .nil
  | @cons p q ps qs h t ih =>
    rw [List.map_cons, List.map_cons]
    refine .cons ?_ ih
    obtain ⟨h1, h2, h3⟩ := h
    unfold putAt
    by_cases e : p.1 = k
    · rw [if_pos e, if_pos (h1.symm.trans e)]; exact ⟨h1, h2, ry⟩
    · rw [if_neg e, if_neg (fun z => e (h1.trans z))]; exact ⟨h1, h2, h3⟩
theorem KT.put {H : Hp} {kvs : List (List Key × V)} {xs : List (List Key × Addr × Value)} (r : KT H kvs xs) (k : List Key) {b : Addr} {y : V} {u : Value} (hb : H b = some (.tup (k.map kV))) (ry : RelV y u) :
    KT H (putK kvs k y) (storedH xs k b u) := by
  have e : (kvs.any fun kv => decide (kv.1 = k)) = (atKey xs k).isSome := by
    rw [valV_any, (r.val k).isSome_eq, Option.isSome_map]
  unfold putK storedH
  rw [e]
  by_cases q : (atKey xs k).isSome = true
  · rw [if_pos q, if_pos q]; exact r.repl k ry
  · rw [if_neg q, if_neg q]; exact Paired.snoc r ⟨rfl, hb, ry⟩
theorem KT.keeps {H H' : Hp} {kvs : List (List Key × V)} {xs : List (List Key × Addr × Value)} (r : KT H kvs xs) (ht : ∀ b ys, H b = some (.tup ys) → H' b = some (.tup ys)) : KT H' kvs xs :=
  Paired.mapP r fun _ _ z => ⟨z.1, ht _ _ z.2.1, z.2.2⟩

section
variable {P : Program} {w : World} {H : Hp} {h : Heap} {a : Addr}
theorem rd_of {u : HO} (ok : HOk P w H h) (e : Rd H a u) : ObjOk P w H h a u := e.ok ok
theorem dk_rd {kvs : List (Key × V)} (ok : HOk P w H h) (e : Rd H a (.dK kvs)) : kvs.length ≤ sizeLine ∧ (a == sysModules) = false ∧ ∃ vs, KV kvs vs ∧ h.DictOf (mixKind P w) a vs :=
  show ObjOk P w H h a (.dK kvs) from rd_of ok e
theorem dk_of {kvs : List (Key × V)} (ok : HOk P w H h) (e : H a = some (.dK kvs)) : kvs.length ≤ sizeLine ∧ (a == sysModules) = false ∧ ∃ vs, KV kvs vs ∧ h.DictOf (mixKind P w) a vs := dk_rd ok (.inl e)
/-- a tracked tuple of ints and texts is a key -/
theorem key_of {ks : List Key} (ok : HOk P w H h) (e : H a = some (.tup (ks.map kV))) : (tupleKind (mixKind P w)).is h ks a := by
  obtain ⟨_, its, r, o, h1, h2, n, h3⟩ := (show ObjOk P w H h a (.tup (ks.map kV)) from ok a _ e)
  exact ⟨o, its.toArray, n, h1, h2, h3, by simpa using items_are r⟩
theorem dt_rd {kvs : List (List Key × V)} (ok : HOk P w H h) (e : Rd H a (.dT kvs)) : kvs.length ≤ sizeLine ∧ (a == sysModules) = false ∧
    ∃ xs, KT H kvs xs ∧ h.DictOfH (tupleKind (mixKind P w)) a xs := by
  obtain ⟨z, y, xs, r, o, es, ep, h1, h2, h3, h4, h5⟩ := (show ObjOk P w H h a (.dT kvs) from rd_of ok e)
  refine ⟨z, y, xs, r, o, es, ep, h1, h2, h3, h4, fun x hx => ?_, h5⟩
  have all : ∀ {l : List (List Key × V)} {m : List (List Key × Addr × Value)}, KT H l m → ∀ x ∈ m, (tupleKind (mixKind P w)).is h x.1 x.2.1 := by
    intro l m q
    induction q with
    | nil => intro x hx; exact nomatch hx
    | @cons p q ps qs hq t ih =>
      intro x hx
      rcases List.mem_cons.mp hx with e | hx
      · subst e
        exact key_of ok (by rw [← hq.1]; exact hq.2.1)
      · exact ih x hx
  exact all r x hx
theorem dt_of {kvs : List (List Key × V)} (ok : HOk P w H h) (e : H a = some (.dT kvs)) : kvs.length ≤ sizeLine ∧ (a == sysModules) = false ∧
    ∃ xs, KT H kvs xs ∧ h.DictOfH (tupleKind (mixKind P w)) a xs := dt_rd ok (.inl e)
end

/-- what the dict at a holds at the key y -/
def DGet (H : Hp) (a : Addr) (y : V) (r : Option V) : Prop :=
  (∃ kvs k, Rd H a (.dK kvs) ∧ y = kV k ∧ r = valV kvs k) ∨ ∃ kvs k b, Rd H a (.dT kvs) ∧ y = .ref b ∧ H b = some (.tup (k.map kV)) ∧ r = valV kvs k
/-- the heap behind a[y] = v -/
def DPut (H : Hp) (a : Addr) (y v : V) (H' : Hp) : Prop :=
  (∃ kvs k, H a = some (.dK kvs) ∧ y = kV k ∧ kvs.length < sizeLine ∧ H' = upd H a (.dK (putK kvs k v))) ∨
  ∃ kvs k b, H a = some (.dT kvs) ∧ y = .ref b ∧ H b = some (.tup (k.map kV)) ∧ kvs.length < sizeLine ∧ H' = upd H a (.dT (putK kvs k v))
theorem DGet.k {H : Hp} {a : Addr} {kvs : List (Key × V)} {k : Key} (e : H a = some (.dK kvs)) : DGet H a (kV k) (valV kvs k) := .inl ⟨kvs, k, .inl e, rfl, rfl⟩
theorem DGet.t {H : Hp} {a b : Addr} {kvs : List (List Key × V)} {k : List Key} (e : H a = some (.dT kvs)) (eb : H b = some (.tup (k.map kV))) : DGet H a (.ref b) (valV kvs k) := .inr ⟨kvs, k, b, .inl e, rfl, eb, rfl⟩
theorem DPut.k {H : Hp} {a : Addr} {kvs : List (Key × V)} {k : Key} {v : V} (e : H a = some (.dK kvs)) (hl : kvs.length < sizeLine) : DPut H a (kV k) v (upd H a (.dK (putK kvs k v))) := .inl ⟨kvs, k, e, rfl, hl, rfl⟩
theorem DPut.t {H : Hp} {a b : Addr} {kvs : List (List Key × V)} {k : List Key} {v : V} (e : H a = some (.dT kvs)) (eb : H b = some (.tup (k.map kV))) (hl : kvs.length < sizeLine) :
    DPut H a (.ref b) v (upd H a (.dT (putK kvs k v))) := .inr ⟨kvs, k, b, e, rfl, eb, hl, rfl⟩

section
variable {X : Cx} {pins : List (Addr × Obj)} {σ : St} {H : Hp} {s : Shared} {a : Addr} {y v : V} {u r : Value} {o : Option V} {A : Around} {E : Value → Shared → Prop}

theorem Inv.big (I : Inv X pins σ H s) : sysModules < s.heap.objs.size := by
  have h : mainGlobals < s.heap.objs.size := (I.mod.glob.keeps I.bk).lt
  exact Nat.lt_trans (by decide) h

/-- a dict's object is replaced -/
theorem d_write {h' : Heap} {t' : Nat} {ob : HO} (I : Inv X pins σ H s) (mu : Mut (H a)) (hs : Heap.SameBut a s.heap h') (he : ∃ q, h'.get? a = some q) (new : ObjOk X.prog X.w (upd H a ob) h' a ob) :
    Inv X pins σ (upd H a ob) { s with heap := h', toks := t' } :=
  I.write (x := a) (e := a) mu (.inl rfl) (fun b q hb z => (hs.2 b hb).trans z) he new
theorem dk_new {P : Program} {w : World} {H' : Hp} {h' : Heap} {kvs : List (Key × V)} {vs : List (Key × Value)} (z : kvs.length ≤ sizeLine) (hd : (a == sysModules) = false) (rel : KV kvs vs) (dd : h'.DictOf (mixKind P w) a vs) :
    ObjOk P w H' h' a (.dK kvs) := ⟨z, hd, vs, rel, dd⟩
/-- d[y] = v -/
theorem d_setItem {H' : Hp} {Q : Unit → Shared → Prop} (hu : A.units + 1 < cLine) (I : Inv X pins σ H s) (g : DPut H a y v H') (ry : RelV y u) (rv : RelV v r) (h : ∀ s', Inv X pins σ H' s' → Q () s') :
    wpAny (model X.prog X.w) A (setItem (.ref a) u r) Q E s := by
  rcases g with ⟨kvs, k, e, ey, l, eH⟩ | ⟨kvs, k, b, e, ey, eb, l, eH⟩
  · subst ey eH
    obtain ⟨z, hd, vs, rel, dd⟩ := dk_of I.hok e
    have hz : vs.length ≤ sizeLine := by rw [← rel.length]; exact z
    have hl : (putK kvs k v).length ≤ sizeLine := by have := length_putK kvs k v; omega
    refine wpAny_setItem_pairs (hsz := hz) (kV_is ry) dd fun h' dd' hs => h _ ?_
    have he : ∃ q, h'.get? a = some q := let ⟨q, _, _, hq, _⟩ := dd'; ⟨q, hq⟩
    exact d_write I (by rw [e]; exact True.intro) hs he (dk_new hl hd (rel.put k rv) dd')
  · subst ey eH
    cases (show u = Value.ref b from ry)
    obtain ⟨z, hd, xs, rel, dd⟩ := dt_of I.hok e
    have hz : xs.length ≤ sizeLine := by rw [← Paired.length rel]; exact z
    have hl : (putK kvs k v).length ≤ sizeLine := by have := length_putK kvs k v; omega
    refine wpAny_setItem_heap (hsz := hz) (tupleKind_room_in1 hu) (key_of I.hok eb) dd fun h' dd' hs => h _ ?_
    obtain ⟨q, es, ep, hq, h2, h3, h4, _, h5⟩ := dd'
    refine d_write I (by rw [e]; exact True.intro) hs ⟨q, hq⟩ ⟨hl, hd, _, (rel.put k eb rv).keeps fun c ys ec => ?_, q, es, ep, hq, h2, h3, h4, h5⟩
    rw [upd_ne (ne_of ec e (fun z => nomatch z))]
    exact ec
end

section
variable {X : Cx} {pins : List (Addr × Obj)} {σ : St} {H : Hp} {s : Shared} {a : Addr} {kvs : List (Key × V)} {k : Key} {u : Value} {A : Around} {E : Value → Shared → Prop}
end

/-! ### readings and rules -/
/-- d[y] = v -/
def sDPut (td ty tv : TE) : TS := fun D σ H => tv σ H fun v H1 => td σ H1 fun x H2 => ty σ H2 fun y H3 => ∃ a H4, x = .ref a ∧ DPut H3 a y v H4 ∧ D.nx σ H4
section
variable {X : Cx} {o i e value : Expr} {pos pos' tpos : Pos} {td ty tv : TE}
theorem ps_dput (hu : X.A.units + 1 < cLine) (ho : PE X o td) (hi : PE X i ty) (hv : PE X value tv) (hs : swapsWith value (some (.Subscript o i pos')) pos.line X.env = pure false) :
    PS X (.Assign [.Subscript o i pos'] value pos) (sDPut td ty tv) := by
  intro pins s σ H D I h
  refine wpAny_Assign_Subscript (thn (hv pins s σ H _ I h) fun r s1 ⟨v, H1, I1, rv, q1⟩ => thn (ho pins s1 σ H1 _ I1 q1) fun u s2 ⟨x, H2, I2, rx, q2⟩ => thn (hi pins s2 σ H2 _ I2 q2) fun iv s3 ⟨y, H3, I3, ry, a, H4, ex, g, q3⟩ => ?_) hs
  subst ex
  obtain rfl : u = Value.ref a := rx
  exact d_setItem hu I3 g ry rv fun s4 I4 => ⟨σ, H4, I4, q3⟩
end

/-! ### displays -/
theorem dk_empty {P : Program} {w : World} {H : Hp} (h : Heap) (hb : sysModules < h.objs.size) : ObjOk P w H (h.push { cls := .type "dict", data := .dict #[] }) h.objs.size (.dK []) :=
  ⟨Nat.zero_le _, beq_eq_false_iff_ne.mpr (Ne.symm (Nat.ne_of_lt hb)), [], .nil, Heap.DictOf.new h⟩
/-- {}, to be a dict of the kind that is wanted -/
def tDNewK : TE := fun _ H Q => ∀ p, H p = none → Q (.ref p) (upd H p (.dK []))
section
variable {X : Cx} {pos : Pos}
theorem pe_dnewK : PE X (.Dict [] [] pos) tDNewK := fun pins s σ H Q I h =>
  wpAny_Dict_empty ⟨.ref s.heap.objs.size, _, I.laid (a := s.heap.objs.size) (o := .dK []) (t' := s.toks) (fun _ _ q => Heap.get?_push_of_some _ q) (Nat.le_refl _) (dk_empty s.heap I.big), rfl, h _ (I.hok.fresh (Nat.le_refl _))⟩
end

/-! ### methods -/
/-- a method call o.m(e) of a built-in, with one argument: what must be seen of the text -/
structure M1 (X : Cx) (o : Expr) (m : Str) (apos : Pos) (e : Expr) (cpos : Pos) : Prop where
  base : attributeBase o m X.env (eval o X.env) = eval o X.env
  few : ((backTo cpos (starEach [e] X.env)).all (fun x => !x.1) && (backToKw cpos (keywordEach [] X.env)).all (fun x => x.1.isSome)
    && decide (([e] : List Expr).length + ([] : List Keyword).length + (if ([] : List Keyword).isEmpty then 0 else 1) < 30)) = true
  line : (apos.endLine == cpos.line) = true
  trees : backTo cpos (starEach [e] X.env) = [(false, eval e X.env)]
structure M2 (X : Cx) (o : Expr) (m : Str) (apos : Pos) (e f : Expr) (cpos : Pos) : Prop where
  base : attributeBase o m X.env (eval o X.env) = eval o X.env
  few : ((backTo cpos (starEach [e, f] X.env)).all (fun x => !x.1) && (backToKw cpos (keywordEach [] X.env)).all (fun x => x.1.isSome)
    && decide (([e, f] : List Expr).length + ([] : List Keyword).length + (if ([] : List Keyword).isEmpty then 0 else 1) < 30)) = true
  line : (apos.endLine == cpos.line) = true
  trees : backTo cpos (starEach [e, f] X.env) = [(false, eval e X.env), (false, eval f X.env)]

section
variable {X : Cx} {pins : List (Addr × Obj)} {σ : St} {H : Hp} {s : Shared} {a : Addr} {y d : V} {u r : Value} {o : Option V} {A : Around} {E : Value → Shared → Prop}
end

section
variable {X : Cx} {o e f : Expr} {apos cpos : Pos} {td ty tx : TE}
end

/-! ### dict(d): a copy -/
section
variable {X : Cx} {pins : List (Addr × Obj)} {σ : St} {H : Hp} {s : Shared} {a : Addr} {kvs : List (Key × V)} {A : Around} {E : Value → Shared → Prop}
end

section
variable {X : Cx} {pins : List (Addr × Obj)} {σ : St} {H : Hp} {s : Shared} {a : Addr} {y : V} {u : Value} {A : Around} {E : Value → Shared → Prop}
end
end L2

set_option Elab.async false
set_option linter.all false
set_option maxRecDepth 100000
/-! all(list), enumerate, min in general -/
namespace L2
open PySem PySem.Spec PyProof.Rows

theorem all_range (bs : List Bool) : ((List.range bs.length).all fun i => bs.getD i false) = bs.all id := by
  have e : (List.range bs.length).map (fun i => bs.getD i false) = bs := by
    refine List.ext_getElem (by simp) fun i h1 h2 => ?_
    simp [List.getD_eq_getElem?_getD, List.getElem?_eq_getElem h2]
  have q : ((List.range bs.length).all fun i => bs.getD i false) = ((List.range bs.length).map (fun i => bs.getD i false)).all id := by
    rw [List.all_map]
    rfl
  rw [q, e]
theorem call_all {X : Cx} (hc : X.calm = true) : CallR X (.builtin "all") (fun xs H Q => ∃ (p : Addr) (bs : List Bool), xs = [.ref p] ∧ SqL X.K H p (bs.map V.bl) ∧ Q (.bl (bs.all id)) H) := by
  intro pins s σ H xs us Q I r h
  obtain ⟨p, bs, rfl, hq, q⟩ := h
  obtain ⟨u, rfl, eu⟩ := vals1 r
  obtain rfl : u = Value.ref p := eu
  obtain ⟨its, rv, pl, hz⟩ := I.list hq
  have hl := rv.length
  rw [List.length_map] at hl
  have plt : p < s.heap.objs.size := let ⟨o, _, e, _⟩ := pl; Heap.lt_size e
  refine call_all_walk (wpAny_pyIter_list pl.isList ?_)
  have W := Walks.list (prog := X.prog) (w := X.w) (A := X.A.in1) (by show X.A.in1.handled = none; exact I.ok.hd hc) s.heap.objs.size p (Nat.ne_of_lt plt) its.toArray
  refine ⟨_, _, _, _, _, _, fun i => bs.getD i false, rfl, W, ⟨⟨_, Heap.get?_push_size _ rfl, rfl, rfl⟩, pl.isList.push _⟩, ?_, fun h' tk kk => ?_⟩
  · intro i v s' Q' E' hv hQ
    have hv' : its[i]? = some v := by simpa using hv
    obtain ⟨x, hx, rx⟩ := Vals.get' rv hv'
    rw [List.getElem?_map] at hx
    cases e : bs[i]? with
    | none => rw [e] at hx; cases hx
    | some b =>
      rw [e] at hx
      cases hx
      obtain rfl : v = Value.bool b := rx
      have eb : bs.getD i false = b := by rw [List.getD_eq_getElem?_getD, e]; rfl
      have hQ' : Q' (bs.getD i false) s' := hQ
      rw [eb] at hQ'
      exact wpAny_truthy_bool hQ'
  · have e : ((List.range its.toArray.size).all fun i => bs.getD i false) = bs.all id := by
      rw [List.size_toArray, ← hl]
      exact all_range bs
    rw [e]
    refine ⟨.bl _, H, I.kept fun b o e => kk b o (fun z => ?_) (Heap.get?_push_of_some _ e), rfl, q⟩
    have z' : b = s.heap.objs.size := by simpa using z
    exact absurd (Heap.lt_size e) (by rw [z']; exact Nat.lt_irrefl _)
theorem call_allK {X : Cx} {K : PySem.W.Frag} (hK : X.K = K) (hc : X.calm = true) : CallR X (.builtin "all") (fun xs H Q => ∃ (p : Addr) (bs : List Bool), xs = [.ref p] ∧ SqL K H p (bs.map V.bl) ∧ Q (.bl (bs.all id)) H) := hK ▸ call_all hc
theorem bt_all : bootBuiltins "all" = some (.builtin "all") := by decide +kernel
theorem bt_enumerate : bootBuiltins "enumerate" = some (.type "enumerate") := by decide +kernel

/-! ### enumerate(a list) -/
def Ite (K : PySem.W.Frag) (a : Addr) : It :=
  ⟨fun i H => ∃ xs x, SqL K H a xs ∧ xs[i]? = some x,
   fun i H v H' => ∃ T x, v = .ref T ∧ H T = none ∧ H' = upd H T (.tup [.int i, x]) ∧ ∀ xs, SqL K H a xs → xs[i]? = some x,
   fun i H => ∃ xs, SqL K H a xs ∧ xs.length ≤ i⟩
theorem turn_enum {P : Program} {w : World} {K : PySem.W.Frag} {es : List Expr} {ek : Nat} {ep : Pos} {e it a : Addr} (hne : e ≠ it) :
    Turn P w K (.Tuple es ek ep) (Ite K a) [e, it] e (fun i h => ∃ old, IsEnum h e it i old ∧ h.IsListIter it a i) where
  mem := by simp
  obj := fun i h ⟨old, he, hi⟩ c hc => by
    have hc' : c = e ∨ c = it := by simpa using hc
    rcases hc' with z | z
    · rw [z]; exact ⟨_, he, fun v q => by cases q⟩
    · rw [z]; obtain ⟨o, ho, _, d⟩ := hi; exact ⟨o, ho, fun v q => by rw [d] at q; cases q⟩
  keep := fun i h h' ⟨old, he, hi⟩ k => ⟨old, k e (by simp) _ he, hi.at fun o q => k it (by simp) o q⟩
  item := by
    intro X hP hw hK hcalm i pins s σ H E I hf ⟨old, he, hi⟩ hg
    subst hP hw hK
    obtain ⟨xs, x, h1, hx⟩ := hg
    obtain ⟨its, r1, p1, z1⟩ := I.list h1
    obtain ⟨u, hu, ru⟩ := r1.get hx
    have eu : its.toArray[i]? = some u := by simpa using hu
    refine wpAny_pyNext_enum_item he hi p1.isList eu hne fun h' heo hit' ht hz hk => ?_
    refine ⟨_, rfl, wpAny_letOwnedTupleGo_enum heo fun h'' he'' hs'' => ?_⟩
    have elt : e < s.heap.objs.size := Heap.lt_size he
    have nT : s.heap.objs.size ≠ e := Nat.ne_of_gt elt
    have ht' : h''.get? s.heap.objs.size = some { cls := .type "tuple", data := .seq #[.int i s.toks, u] } := (hs''.2 _ nT).trans ht
    have k2 : ∀ c o, c ∉ [e, it] → s.heap.get? c = some o → h''.get? c = some o := fun c o n q => by
      have n' : c ≠ e ∧ c ≠ it := by simpa [not_or] using n
      exact (hs''.2 c n'.1).trans (hk c o n'.1 n'.2 q)
    have I1 : Inv X pins σ (upd H s.heap.objs.size (.tup [.int i, x])) { s with heap := h'', toks := s.toks + 1 } := I.turnedLaid (t' := s.toks + 1) hf (fun c o n q => k2 c o n q) (Nat.le_refl _)
      ⟨by show 2 ≤ sizeLine; decide, [.int i s.toks, u], .cons ⟨_, rfl⟩ (.cons ru .nil), ⟨_, ht', rfl, _, rfl⟩⟩ (fun ps q => by cases q)
    refine ⟨.ref s.heap.objs.size, _, I1, rfl, ⟨_, x, rfl, I.hok.fresh (Nat.le_refl _), rfl, fun xs' q => by rw [I.list_inj q h1]; exact hx⟩, ⟨u, he'', ?_⟩, fun c hc => ?_⟩
    · obtain ⟨o, ho, r⟩ := hit'
      exact ⟨o, (hs''.2 it (Ne.symm hne)).trans ho, r⟩
    · have lt : c < s.heap.objs.size := by
        have hc' : c = e ∨ c = it := by simpa using hc
        rcases hc' with z | z
        · rw [z]; exact elt
        · rw [z]; obtain ⟨o, ho, _⟩ := hi; exact Heap.lt_size ho
      rw [upd_ne (Nat.ne_of_lt lt)]
      exact (hf c hc).1
  done := by
    intro X hP hw hK hcalm i pins s σ H E I hf ⟨old, he, hi⟩ hg
    subst hP hw hK
    obtain ⟨xs, h1, hl⟩ := hg
    obtain ⟨its, r1, p1, z1⟩ := I.list h1
    have L1 := r1.length
    refine wpAny_pyNext_enum_end (I.ok.hd hcalm) he hi p1.isList (by simp; omega) fun h' k => ⟨rfl, I.turnedAll (t' := s.toks) hf fun c o n q => ?_⟩
    have n' : c ≠ e ∧ c ≠ it := by simpa [not_or] using n
    exact k c o n'.2 q
  self := fun _ _ _ _ _ ⟨_, he, _⟩ h => wpAny_pyIter_enum he h
section
variable {X : Cx} {es : List Expr} {ek : Nat} {ep : Pos}
def iEnum (K : PySem.W.Frag) (ta : TA) : TI := fun σ H R => ta σ H fun vs H1 => ∃ (a : Addr) (xs : List V), vs = [.ref a] ∧ H1 a = some (.lst xs) ∧ R (Ite K a) H1
theorem pi_enum {a : Expr} {ta : TA} {p pos : Pos} (hg : Gl X "enumerate") (hm : X.mg "enumerate" = none) (ha : PA X [a] ta) (hs : starEach [a] X.env = [(false, eval a X.env)] := by rfl) :
    PI X (.Tuple es ek ep) (.Call (.Name "enumerate" p) [a] [] pos) (iEnum X.K ta) := by
  intro pins s σ H R I h
  refine Call_ (ld_blt I hg hm bt_enumerate (PyProof.Rows.callWith_type1 (thn (ha pos pins s σ H _ I h) fun us s1 ⟨vs, H1, I1, r1, q1⟩ => ?_) hs rfl))
  obtain ⟨c, xs, e, g1, q⟩ := q1
  subst e
  obtain ⟨u, rfl, e1⟩ := vals1 r1
  obtain rfl : u = Value.ref c := e1
  obtain ⟨_, its, n, rv, _, hob⟩ := I1.lstM g1
  have lt1 : c < s1.heap.objs.size := Heap.lt_size hob
  refine call_enumerate_1 hob fun h' he hi hz k => ?_
  have I2 : Inv X pins σ H1 { s1 with heap := h' } := I1.kept (t' := s1.toks) k
  refine wpAny_pyIter_enum he ⟨_, _, _, _, H1, rfl, I2, turn_enum (e := s1.heap.objs.size + 1) (it := s1.heap.objs.size) (a := c) (Nat.ne_of_gt (Nat.lt_succ_self _)), ⟨_, he, hi⟩, fun b hb => ?_, q⟩
  have hb' : b = s1.heap.objs.size + 1 ∨ b = s1.heap.objs.size := by simpa using hb
  have le : s1.heap.objs.size ≤ b := by
    rcases hb' with e | e <;> rw [e]
    · exact Nat.le_succ _
    · exact Nat.le_refl _
  exact I1.fpOk le (I1.hok.fresh le)
end
section
variable {g : TG} {tc : TT} {te : TE} {σ0 : St} {H1 : Hp} {fin : List V → Hp → Prop}
end
theorem for_enum {K : PySem.W.Frag} {a : Addr} {xs : List V} {g : TG} {tb : TS} {D : Ends} {σ : St} {H : Hp} (Pv : Nat → St → Hp → Prop) (h0 : Pv 0 σ H) (hl : ∀ i σ H, Pv i σ H → SqL K H a xs)
    (hs : ∀ i x T σ H, xs[i]? = some x → Pv i σ H → H T = none → g (.ref T) σ (upd H T (.tup [.int i, x])) fun σ2 H2 => tb { D with nx := Pv (i + 1), ct := Pv (i + 1), bk := D.nx } σ2 H2) (hd : ∀ σ H, Pv xs.length σ H → D.nx σ H) :
    ∃ W : Nat → Nat → St → Hp → Prop, (∃ m, W 0 m σ H) ∧ ∀ i m σ H, W i m σ H →
      ((Ite K a).stop i H ∧ D.nx σ H) ∨ ((Ite K a).go i H ∧ ∃ N : St → Hp → Prop, (∀ σ' H', N σ' H' → ∃ m', m' < m ∧ W (i + 1) m' σ' H') ∧ ∀ x H', (Ite K a).yld i H x H' → g x σ H' fun σ2 H2 => tb { D with nx := N, ct := N, bk := D.nx } σ2 H2) := by
  refine ⟨fun i m σ H => m = xs.length - i ∧ i ≤ xs.length ∧ Pv i σ H, ⟨xs.length, by simp, Nat.zero_le _, h0⟩, ?_⟩
  rintro i m σ H ⟨rfl, hi, p⟩
  have q1 := hl i σ H p
  by_cases hlt : i < xs.length
  · refine .inr ⟨⟨xs, _, q1, List.getElem?_eq_getElem hlt⟩, Pv (i + 1), fun σ' H' p' => ⟨xs.length - (i + 1), by omega, rfl, hlt, p'⟩, fun v H' y => ?_⟩
    obtain ⟨T, x, rfl, nT, rfl, r1⟩ := y
    exact hs i x T σ H (r1 xs q1) p nT
  · have e : i = xs.length := by omega
    subst e
    exact .inl ⟨⟨xs, q1, Nat.le_refl _⟩, hd σ H p⟩
end L2

set_option Elab.async false
set_option linter.all false
set_option maxRecDepth 100000
/-! min(list), min(list, default=..) of ints or tuples of ints -/
namespace L2
open PySem PySem.Spec PyProof.Rows
section
variable {prog : Program} {w : World} {A : Around} {E : Value → Shared → Prop} {s : Shared} {R : Result → Shared → Prop} {α : Type}
/-- what is asked of the items: they stay what they are while only I and S change, and two are compared -/
structure MinOk (prog : Program) (w : World) (A : Around) (lt : α → α → Bool) (I S : Addr) (Rel : Heap → Value → α → Prop) : Prop where
  keep : ∀ h h' v k, Rel h v k → (∀ x o, x ≠ I → x ≠ S → h.get? x = some o → h'.get? x = some o) → Rel h' v k
  cmp : ∀ (s : Shared) (v1 v2 : Value) (k1 k2 : α) (Q : Value → Shared → Prop) (E : Value → Shared → Prop), Rel s.heap v1 k1 → Rel s.heap v2 k2 → (∀ tk, Q (.bool (lt k1 k2)) { s with toks := tk }) → wpAny (model prog w) A (compareOp .Lt v1 v2) Q E s
end
end L2

set_option Elab.async false
set_option linter.all false
set_option maxRecDepth 100000
/-! A LIST COMPREHENSION whose target is a cell: an inner comprehension closes over it; it takes nothing from around -/
namespace L2
open PySem PySem.Spec PyProof.Rows

structure CompScopeC (scope : Scope) (y0 : Str) (N' : List Str) (js : List (Option Nat)) : Prop where
  kind : scope.kind = .function
  names : ∀ y ∈ scope.names, y.2 = .local → scope.names.lookup y.1 = some .local
  free : ∀ y ∈ scope.names, y.2 ≠ .free
  only : ∀ y ∈ scope.names, y.2 = .cell → y.1 = y0
  flt : scope.names.filter (fun y => y.2 == .cell) = [(y0, .cell)]
  nd : N'.Nodup
  len : js.length = N'.length
  cap : ∀ o ∈ js, o = none
def compOkC (scope : Scope) (y0 : Str) (N' : List Str) (js : List (Option Nat)) : Bool :=
  decide (scope.kind = .function) && scope.names.all (fun y => decide (y.2 = .local → scope.names.lookup y.1 = some .local)) && scope.names.all (fun y => decide (y.2 ≠ .free)) && scope.names.all (fun y => decide (y.2 = .cell → y.1 = y0)) &&
  decide (scope.names.filter (fun y => y.2 == .cell) = [(y0, .cell)]) && decide N'.Nodup && decide (js.length = N'.length) && js.all (fun o => decide (o = none))
theorem compOkC.scope {scope : Scope} {y0 : Str} {N' : List Str} {js : List (Option Nat)} (h : compOkC scope y0 N' js = true) : CompScopeC scope y0 N' js := by
  unfold compOkC at h
  simp only [Bool.and_eq_true, decide_eq_true_eq, List.all_eq_true] at h
  obtain ⟨⟨⟨⟨⟨⟨⟨h1, h2⟩, h3⟩, h4⟩, h5⟩, h6⟩, h7⟩, h8⟩ := h
  exact ⟨h1, h2, h3, h4, h5, h6, h7, h8⟩
section
variable {scope : Scope} {y0 : Str} {N' : List Str} {js : List (Option Nat)}
end

section
variable {X : Cx} {pins : List (Addr × Obj)} {σ : St} {H : Hp} {s : Shared} {scope : Scope} {y0 : Str} {N' : List Str} {js : List (Option Nat)} {C : Addr} {fp : List Addr}
end
section
variable {X : Cx} {tg iter elt : Expr} {ifs : List Expr} {scope : Scope} {y0 : Str} {N' : List Str} {js : List (Option Nat)} {wi : TI} {g : TG} {tc : TT} {te : TE} {pos : Pos}

end
end L2

set_option Elab.async false
set_option linter.all false
set_option maxRecDepth 100000
/-! min(list of int tuples), with no default; tuple <, tuple(list) by K's name -/
namespace L2
open PySem PySem.Spec PyProof.Rows
section
variable {prog : Program} {w : World} {A : Around} {E : Value → Shared → Prop} {s : Shared}
end
section
variable {X : Cx} {K : PySem.W.Frag}
end
end L2

set_option Elab.async false
set_option linter.all false
set_option maxRecDepth 100000
/-! a comprehension over a tuple -/
namespace L2
open PySem PySem.Spec PyProof.Rows
section
variable {H1 : Hp} {σ0 : St} {g : TG} {tc : TT} {te : TE} {fin : List V → Hp → Prop}
theorem lc_tup {K : PySem.W.Frag} {a : Addr} {xs : List V} (Pv : Nat → List V → Hp → Prop) (h0 : Pv 0 [] H1) (hl : ∀ i ys H, Pv i ys H → SqT K H a xs) (hd : ∀ ys H, Pv xs.length ys H → fin ys H)
    (hs : ∀ i x ys H, xs[i]? = some x → Pv i ys H → ys.length < sizeLine ∧ g x σ0 H fun σ2 H2 => Sub σ0 σ2 ∧ tc σ2 H2 fun b H3 => if b = true then te σ2 H3 fun v H4 => Pv (i + 1) (ys ++ [v]) H4 else Pv (i + 1) ys H3) :
    LCr (Itt K a) H1 σ0 g tc te fin := by
  refine lc_of (n := xs.length) Pv h0 (fun ys H p => ⟨⟨xs, hl _ ys H p, Nat.le_refl _⟩, hd ys H p⟩) fun i ys H hi p => ?_
  have e : xs[i]? = some xs[i] := List.getElem?_eq_getElem hi
  obtain ⟨b, c⟩ := hs i _ ys H e p
  refine ⟨⟨xs, _, hl i ys H p, e⟩, b, fun x H' y => ?_⟩
  obtain ⟨z, y⟩ := y
  have q := y xs (hl i ys H p)
  rw [e] at q
  cases q
  subst z
  exact c
end
end L2

set_option Elab.async false
set_option linter.all false
set_option maxRecDepth 100000
/-! x in a list of data -/
namespace L2
open PySem PySem.Spec PyProof.Rows
/-- x in y, x not in y: y a list of data -/
def rInD (K : PySem.W.Frag) (neg : Bool) : R2 := fun x y H Q => ∃ d ds, Rep K H x d ∧ Rep K H y (.list ds) ∧ d.canLay0 = true ∧ PyData.canLayAll0 ds = true ∧ d.depth ≤ 60 ∧ Q (.bl (if neg then !(ds.any fun y => PyData.eqv y d) else ds.any fun y => PyData.eqv y d)) H
theorem op_inD {X : Cx} (hu : X.A.units + 64 < cLine) : OpR X (compareOp .In) (rInD X.K false) := by
  intro pins s σ H x y v u Q I rx ry h
  obtain ⟨d, ds, hd, he, c1, c2, dp, q⟩ := h
  obtain ⟨as, ra⟩ := I.reads hd rx
  obtain ⟨bs, rb⟩ := I.reads he ry
  exact SeqAt.in_list_reads rb ra c2 c1 (by omega) ⟨.bl _, H, I, rfl, q⟩
theorem op_inDK {X : Cx} {K : PySem.W.Frag} (hK : X.K = K) (hu : X.A.units + 64 < cLine) : OpR X (compareOp .In) (rInD K false) := hK ▸ op_inD hu
end L2

set_option Elab.async false
set_option linter.all false
set_option maxRecDepth 100000
/-! list.index of flat items -/
namespace L2
open PySem PySem.Spec PyProof.Rows
section
variable {X : Cx}
end
end L2

set_option Elab.async false
set_option linter.all false
set_option maxRecDepth 100000
/-! str.join, str.find -/
namespace L2
open PySem PySem.Spec PyProof.Rows
section
variable {X : Cx} {K : PySem.W.Frag}
end
end L2

set_option Elab.async false
set_option linter.all false
set_option maxRecDepth 100000
/-! the table of a small set: how a key is sought in it -/
namespace TupSet
open PySem PySem.SetTable
def pth (b : Nat) : Nat → Nat × Nat
  | 0 => (b % 8, b)
  | n + 1 => (((pth b n).1 * 5 + 1 + (pth b n).2 / 32) % 8, (pth b n).2 / 32)
/-! ### what stands in a slot -/
def sl (place : Array Nat) (j : Nat) : Option Nat := if place[below place j]? == some j then some (below place j) else none
theorem below1 (p j : Nat) : below #[p] j = if p < j then 1 else 0 := by
  simp [below, below.go]
theorem below2 (p q j : Nat) : below #[p, q] j = if q < j then 2 else if p < j then 1 else 0 := by
  simp [below, below.go]
theorem sl1 (p j : Nat) : sl #[p] j = if j = p then some 0 else none := by
  unfold sl
  rw [below1]
  by_cases e : j = p
  · subst e; simp
  · by_cases l : p < j
    · simp [l, e]
    · simp [l, e, Ne.symm e]
theorem sl2 {p q : Nat} (h : p < q) (j : Nat) : sl #[p, q] j = if j = p then some 0 else if j = q then some 1 else none := by
  unfold sl
  rw [below2]
  by_cases e : j = p
  · subst e
    have l1 : ¬ q < j := by omega
    simp [l1]
  · by_cases e' : j = q
    · subst e'
      simp [e, h]
    · by_cases l : q < j
      · simp [l, e, e']
      · by_cases l' : p < j
        · simp [l, l', e, e', Ne.symm e']
        · simp [l, l', e, e', Ne.symm e]
/-! ### the way of a search -/
section
variable {K : Type} (place : Array Nat) (key : Nat → K) (k : K) (b : Nat)
inductive Trail : Nat → Nat → Option Nat → Prop
  | free {c n : Nat} : sl place (pth b n).1 = none → Trail c n (some (pth b n).1)
  | hit {c n i : Nat} : sl place (pth b n).1 = some i → key i = k → Trail c n none
  | miss {c n i : Nat} {r : Option Nat} : sl place (pth b n).1 = some i → key i ≠ k → Trail c (n + 1) r → Trail (c + 1) n r
variable {place key k b}
end
/-! ### the probe -/
section
variable {K : Type} {t : SetTable} {key : Nat → K} {k : K} {h : Int} {hashAt : Nat → Int}
end
end TupSet
namespace TupSet
open PySem PySem.SetTable
theorem Trail.more {K : Type} {place : Array Nat} {key : Nat → K} {k : K} {b c n : Nat} {r : Option Nat} (T : Trail place key k b c n r) : ∀ {d : Nat}, c ≤ d → Trail place key k b d n r := by
  induction T with
  | free e => intro d _; exact .free e
  | hit e q => intro d _; exact .hit e q
  | @miss c n i r e q _ ih =>
    intro d l
    obtain ⟨d', rfl⟩ : ∃ d', d = d' + 1 := ⟨d - 1, by omega⟩
    exact .miss e q (ih (by omega))
end TupSet

set_option Elab.async false
set_option linter.all false
set_option maxRecDepth 100000
/-! a set of tuples of bools, up to three of them -/
namespace TupSet
open PySem PySem.SetTable
section
variable {prog : Program} {w : World} {A : Around} {E : Value → Shared → Prop} {s : Shared}
def hashB (b : Bool) : Int := if b then 1 else 0
theorem pyHash_bool {b : Bool} {Q : Int → Shared → Prop} (h : Q (hashB b) { s with toks := s.toks + 1 }) : wpAny (model prog w) A (pyHash (.bool b)) Q E s := by
  have hT : s.TypeIs (.bool b) "bool" := rfl
  unfold pyHash
  first | unfold pyHashByItsType | skip
  have hv : [Value.bool b].any Value.onHeap = false := rfl
  refine wpAny_bind ?_
  rw [cRoomFor, if_neg (by rw [hv]; exact Bool.false_ne_true)]; refine wpAny_pure ?_
  refine wpAny_bind (wpAny_specialOf hT F.slot_bool_hash.lookup ?_)
  show wpAny _ _ (if (some (Value.builtin "int.__hash__") == some Value.none) = true then _ else _) Q E s
  rw [if_neg (by rw [beq_builtin_none]; exact Bool.false_ne_true)]
  refine wpAny_bind (wpAny_specialOf hT F.slot_bool_hash.lookup ?_)
  show wpAny _ _ (callSpecialIfBoundUnlessNone? (.bool b) "__hash__" _ >>= _) Q E s
  cases b
  · refine wpAny_bind (wpAny_callSpecialIfBoundUnlessNone?_slot hT F.slot_bool_hash
      (wpAny_call_entry F.slot_bool_hash hT F.entry_int_hash (show wpAny _ _ (do ret (← mkInt 0)) _ _ s from wpAny_ret_mkInt ?_) (F.args_int_hash_1 _)))
    exact wpAny_pure h
  · refine wpAny_bind (wpAny_callSpecialIfBoundUnlessNone?_slot hT F.slot_bool_hash
      (wpAny_call_entry F.slot_bool_hash hT F.entry_int_hash (show wpAny _ _ (do ret (← mkInt 1)) _ _ s from wpAny_ret_mkInt ?_) (F.args_int_hash_1 _)))
    exact wpAny_pure h
def isB (b : Bool) : Value → Bool
  | .bool c => b == c
  | _ => false
theorem isB_shape {b : Bool} {v : Value} (h : isB b v = true) : v = .bool b := by
  cases v with
  | bool c => rw [eq_of_beq (show (b == c) = true from h)]
  | _ => exact nomatch h
def boolKind (prog : Program) (w : World) : KeyKind prog w Bool where
  is := isB
  hash := hashB
  inj := fun v a b ha hb => by
    have e := (isB_shape ha).symm.trans (isB_shape hb)
    injection e
  byValue := fun k v h => by rw [isB_shape h]; rfl
  pyHash := fun hv h => by rw [isB_shape hv]; exact pyHash_bool h
  eqBool := fun {A E s a b u v Q} hu hv h => by
    rw [isB_shape hu, isB_shape hv]
    refine SeqAt.EqAt.bool_bool a b _ _ _ _ ?_
    rw [show (a == b) = decide (a = b) by cases a <;> cases b <;> rfl]
    exact h
  «strs» := fun k x t v h => nomatch h
/-- the key -/
abbrev TK (prog : Program) (w : World) : Heap → List Bool → Addr → Prop := IsTupleKey (boolKind prog w)
def hsh (ks : List Bool) : Int := reduceHash (Builtin.Tuple.tupleHashOf (ks.map hashB))
theorem TK.at {h h' : Heap} {ks : List Bool} {a : Addr} (x : TK prog w h ks a) (k : ∀ o, h.get? a = some o → h'.get? a = some o) : TK prog w h' ks a :=
  let ⟨o, items, n, ho, r⟩ := x
  ⟨o, items, n, k o ho, r⟩
theorem TK.get {h : Heap} {ks : List Bool} {a : Addr} (x : TK prog w h ks a) : ∃ o, h.get? a = some o := let ⟨o, _, _, ho, _⟩ := x; ⟨o, ho⟩
theorem TK.vals {ks : List Bool} {vs : List Value} (x : ItemsAre (boolKind prog w) ks vs) : ∀ v ∈ vs, ∃ b, v = .bool b := by
  induction x with
  | nil => intro v hv; simp at hv
  | @cons k v' ks vs h1 _ ih =>
    intro v hv
    rcases List.mem_cons.mp hv with rfl | hv
    · exact ⟨k, isB_shape h1⟩
    · exact ih v hv
end
end TupSet

set_option Elab.async false
set_option linter.all false
set_option maxRecDepth 100000
namespace TupSet
open PySem PySem.SetTable
def Snd (x : List Bool) (q p : Nat) : Prop := ∃ n, (pth (bits (hsh x)) n).1 = q ∧ ∀ m, m < n → (pth (bits (hsh x)) m).1 = p
def Lay (prog : Program) (w : World) (h0 : Heap) : List (List Bool) → Array (Int × Value) → Array Nat → Prop
  | [], es, pl => es = #[] ∧ pl = #[]
  | [x], es, pl => ∃ a p, TK prog w h0 x a ∧ (pth (bits (hsh x)) 0).1 = p ∧ es = #[(hsh x, .ref a)] ∧ pl = #[p]
  | [x, y], es, pl => ∃ a b p q, TK prog w h0 x a ∧ TK prog w h0 y b ∧ (pth (bits (hsh x)) 0).1 = p ∧ Snd y q p ∧
      ((p < q ∧ es = #[(hsh x, .ref a), (hsh y, .ref b)] ∧ pl = #[p, q]) ∨ (q < p ∧ es = #[(hsh y, .ref b), (hsh x, .ref a)] ∧ pl = #[q, p]))
  | _, _, _ => True
def TS (prog : Program) (w : World) (h0 h : Heap) (S : Addr) (ks : List (List Bool)) : Prop :=
  ∃ o es ep t, h.get? S = some o ∧ o.ExactSet ∧ o.data = .set es ep t ∧ t.mask = 7 ∧ t.dummies = #[] ∧ es.size = ks.length ∧ t.place.size = ks.length ∧ Lay prog w h0 ks es t.place
def ins (ks : List (List Bool)) (x : List Bool) : List (List Bool) := if x ∈ ks then ks else ks ++ [x]
section
variable {x : List Bool}
end
section
variable {prog : Program} {w : World} {A : Around} {E : Value → Shared → Prop} {s : Shared} {h0 : Heap}
end
end TupSet

set_option Elab.async false
set_option linter.all false
set_option maxRecDepth 100000
namespace TupSet
open PySem PySem.SetTable
section
variable {prog : Program} {w : World} {A : Around} {E : Value → Shared → Prop} {s : Shared} {h0 : Heap}
theorem TK.up {h : Heap} {x : List Bool} {a : Addr} (hx : TK prog w h0 x a) (hk : ∀ b o, h0.get? b = some o → h.get? b = some o) : TK prog w h x a := hx.at fun o e => hk a o e
theorem TS.len {h : Heap} {S : Addr} {ks : List (List Bool)} (T : TS prog w h0 h S ks) : ∃ o es ep t, h.get? S = some o ∧ o.ExactSet ∧ o.data = .set es ep t ∧ t.mask = 7 ∧ t.dummies = #[] ∧ es.size = ks.length ∧ t.place.size = ks.length :=
  let ⟨o, es, ep, t, a, b, c, d, e, f, g, _⟩ := T
  ⟨o, es, ep, t, a, b, c, d, e, f, g⟩
theorem TS.at {h h' : Heap} {S : Addr} {ks : List (List Bool)} (T : TS prog w h0 h S ks) (k : ∀ o, h.get? S = some o → h'.get? S = some o) : TS prog w h0 h' S ks :=
  let ⟨o, es, ep, t, a, r⟩ := T
  ⟨o, es, ep, t, k o a, r⟩
end
end TupSet

set_option Elab.async false
set_option linter.all false
set_option maxRecDepth 100000
/-! set(a list of up to three tuples of bools) -/
namespace TupSet
open PySem PySem.Spec PyProof.Rows PySem.SetTable
def dd (rows : List (List Bool)) : List (List Bool) := rows.foldl ins []
section
variable {prog : Program} {w : World} {A : Around} {R : Result → Shared → Prop} {I : Addr} {fp wr : List Addr} {G : Array GenState → Array GenState → Prop} {n : Nat} {P : Nat → Value → Prop} {St : Nat → Shared → Prop}
end
section
variable {prog : Program} {w : World} {A : Around} {E : Value → Shared → Prop} {s : Shared}
end
end TupSet

set_option Elab.async false
set_option linter.all false
set_option maxRecDepth 100000
/-! set(a list of up to three tuples of bools), len of it -/
namespace L2
open PySem PySem.Spec PyProof.Rows
theorem items_bl {P : Program} {w : World} : ∀ {bs : List Bool} {its : List Value}, Vals (bs.map V.bl) its → ItemsAre (TupSet.boolKind P w) bs its
  | [], _, .nil => .nil
  | b :: r, _, .cons h t => by
    obtain rfl : _ = Value.bool b := h
    exact .cons (show (b == b) = true from beq_self_eq_true b) (items_bl t)
section
variable {X : Cx} {K : PySem.W.Frag} {pins : List (Addr × Obj)} {σ : St} {H : Hp} {s : Shared}
theorem Inv.tk (I : Inv X pins σ H s) {t : Addr} {bs : List Bool} (h : SqT X.K H t (bs.map V.bl)) : TupSet.TK X.prog X.w s.heap bs t := by
  obtain ⟨its, r, ⟨o, ho, hc, n, hd⟩, hz⟩ := I.tuple h
  exact ⟨o, its.toArray, n, ho, hc, hd, by simpa using items_bl r⟩
theorem Paired.at1 {α β : Type} {F : α → β → Prop} : ∀ {l₁ : List α} {l₂ : List β} {i : Nat} {a : α}, Paired F l₁ l₂ → l₁[i]? = some a → ∃ b, l₂[i]? = some b ∧ F a b
  | _, _, _, _, .nil, e => by simp at e
  | _, _, 0, _, .cons h _, e => by simp at e; subst e; exact ⟨_, rfl, h⟩
  | _, _, i + 1, a, .cons _ q, e => by
    obtain ⟨t, h1, h2⟩ := Paired.at1 (i := i) (a := a) q (by simpa using e)
    exact ⟨t, by simpa using h1, h2⟩
end
end L2

set_option Elab.async false
set_option linter.all false
set_option maxRecDepth 100000
/-! signs of a text; tables of texts by texts; str.split -/
namespace L2
open PySem PySem.Spec PyProof.Rows
section
variable {X : Cx} {K : PySem.W.Frag} {tg : Expr}
end
section
variable {H1 : Hp} {σ0 : St} {g : TG} {tc : TT} {te : TE} {fin : List V → Hp → Prop}
end
/-! ### a module's table, texts by texts -/
def TabK (K : PySem.W.Frag) (a : Addr) (D : List (Str × Str)) : Prop := KTD.tabLook (KTD.datLooks fun b => K.lookup b) (fun b => K.lookup b) a (D.map fun p => (p.1, KTD.Dat.flat (.str p.2))) = true
section
variable {X : Cx} {K : PySem.W.Frag} {pins : List (Addr × Obj)} {σ : St} {H : Hp} {s : Shared}
theorem Inv.here (I : Inv X pins σ H s) {a : Addr} {D : List (Str × Str)} (h : TabK X.K a D) : KTD.Here s.heap s.heap a (D.map fun p => (p.1, KTD.Dat.flat (.str p.2))) :=
  ⟨KTD.text_of_look (fun b o q => I.kIn b o q) h, fun _ _ e => e⟩
/-! ### text.split(sign) -/
end
end L2

set_option Elab.async false
set_option linter.all false
set_option maxRecDepth 100000
/-! list.count of flat items; is not, of bools -/
namespace L2
open PySem PySem.Spec PyProof.Rows
section
variable {X : Cx}
theorem count_eqU {y : V} : ∀ {xs : List V} {its : List Value}, Vals xs its → xs.all flatV = true → its.countP (eqU y) = xs.countP fun z => eqV z y
  | _, _, .nil, _ => rfl
  | x :: xs, u :: us, .cons h t, f => by
    rw [List.all_cons, Bool.and_eq_true] at f
    rw [List.countP_cons, List.countP_cons, count_eqU t f.2, eqU_of (x := y) h f.1]
def rCount : V → List V → Hp → VK → Prop := fun x vs H Q => ∃ (l : Addr) (xs : List V) (y : V), x = .ref l ∧ vs = [y] ∧ H l = some (.lst xs) ∧ flatV y = true ∧ xs.all flatV = true ∧ Q (.int (xs.countP fun z => eqV z y : Nat)) H
theorem mt_count : MtM X "list.count" rCount := by
  intro pins s σ H x vs v us Q I rx rv h
  obtain ⟨l, xs, y, rfl, rfl, hH, fy, fs, q⟩ := h
  cases rx
  obtain ⟨u, rfl, ru⟩ := rv.one
  obtain ⟨zz, its, n, r, hl, e⟩ := I.lstM hH
  refine call_meets F.slot_list_count ⟨_, e, rfl⟩ F.entry_list_count (F.args_list_count_2 _ _) (SeqAt.list_countAt l its.toArray n none #[] u (eqU y)) ⟨e, fun w hw => mem_eqAt ru fy r fs w (by simpa using hw), ?_⟩
  have ec : its.toArray.toList.countP (eqU y) = xs.countP fun z => eqV z y := by simpa using count_eqU r fs
  exact ⟨.int _, H, I.tok _, ⟨_, by rw [ec]⟩, q⟩
end
end L2

set_option Elab.async false
set_option linter.all false
set_option maxRecDepth 100000
/-! the rules again, over judgements that do not unfold: walks are read much sooner -/
namespace L2
open PySem PySem.Spec PyProof.Rows
structure YPSs (X : Cx) (b : List Stmt) (t : TS) : Prop where
  o : PSs X b t
structure YPS (X : Cx) (b : Stmt) (t : TS) : Prop where
  o : PS X b t
structure YPE (X : Cx) (e : Expr) (t : TE) : Prop where
  o : PE X e t
structure YPT (X : Cx) (e : Expr) (t : TT) : Prop where
  o : PT X e t
structure YPA (X : Cx) (e : List Expr) (t : TA) : Prop where
  o : PA X e t
structure YPI (X : Cx) (g e : Expr) (t : TI) : Prop where
  o : PI X g e t
structure YPG (X : Cx) (e : Expr) (t : TG) : Prop where
  o : PG X e t
structure YPGs (X : Cx) (e : List Expr) (t : TGs) : Prop where
  o : PGs X e t
structure YPIfs (X : Cx) (e : List Expr) (t : TT) : Prop where
  o : PIfs X e t
structure YPC (X : Cx) (op : CmpOp) (a b : Expr) (t : TE) : Prop where
  o : PC X op a b t
structure YPW (X : Cx) (e : Expr) (t : TT) : Prop where
  o : PW X e t
structure YPO (X : Cx) (e : Option Expr) (t : TO) : Prop where
  o : PO X e t
section

theorem zPW_pt {X : Cx}
    {e : Expr}
    {t : TT}
    (h : YPW X e t) : YPT X e t :=
  ⟨PW.pt h.o⟩
end
section
variable {X : Cx}
theorem zpe_int {i j pos} : YPE X (.Constant (.int i) j pos) (tC (.int i)) :=
  ⟨pe_int ⟩
end
section
variable {X : Cx}
theorem zpe_bl {b j pos} : YPE X (.Constant (.bool b) j pos) (tC (.bl b)) :=
  ⟨pe_bl ⟩
end
section
variable {X : Cx}
theorem zpe_non {j pos} : YPE X (.Constant .none j pos) (tC .non) :=
  ⟨pe_non ⟩
end
section
variable {X : Cx}
theorem zpe_str {x j pos} : YPE X (.Constant (.str x) j pos) (tC (.str x)) :=
  ⟨pe_str ⟩
end
section
variable {X : Cx}
theorem zpe_glob {x : Str}
    {v : V}
    {u : Value}
    {pos : Pos}
    (hg : Gl X x)
    (hm : X.mg x = some u)
    (r : RelV v u)
    (hd : (x == ("__debug__" : Str)) = false := by decide) : YPE X (.Name x pos) (tC v) :=
  ⟨pe_glob hg hm r hd⟩
end
section
variable {X : Cx}
variable {a b : Expr} {ta tb : TE} {pos : Pos}
end
section
variable {X : Cx}
variable {a b : Expr} {ta tb : TE} {pos : Pos}
theorem zpc_notN {j pos'}
    (ha : YPE X a ta) : YPC X .IsNot a (.Constant .none j pos') (tNotN ta) :=
  ⟨pc_notN ha.o⟩
end
section
variable {X : Cx}
variable {a b : Expr} {ta tb : TE} {pos : Pos}
theorem zpe_cmp {op : CmpOp}
    {t : TE}
    (h : YPC X op a b t)
    (h1 : behindInMarks op b = false := by first | exact nobehind _ (by decide) (by decide) | rfl) : YPE X (.Compare a [op] [b] pos) t :=
  ⟨pe_cmp h.o h1⟩
end
section
variable {X : Cx}
variable {a b : Expr} {ta tb : TE} {pos : Pos}
end
section
variable {X : Cx}
variable {a b : Expr} {ta tb : TE} {pos : Pos}
theorem zpt_val {e : Expr}
    {t : TE}
    (h : YPE X e t)
    (he : ∀ whole, isTrue e X.env whole = (do let v ← whole; standAt e.pos; holding [v] (truthy v)) := by intro _; rfl) : YPT X e (tB t) :=
  ⟨pt_val h.o he⟩
end
section
variable {X : Cx}
variable {a b : Expr} {ta tb : TE} {pos : Pos}
variable {tA tB' : TT} {rest : List Expr}
theorem zpw_and1 (ha : YPT X a tA) : YPW X (.BoolOp .And [a] pos) tA :=
  ⟨pw_and1 ha.o⟩
end
section
variable {X : Cx}
variable {a b : Expr} {ta tb : TE} {pos : Pos}
variable {tA tB' : TT} {rest : List Expr}
theorem zpw_or1 (ha : YPT X a tA) : YPW X (.BoolOp .Or [a] pos) tA :=
  ⟨pw_or1 ha.o⟩
end
section
variable {X : Cx}
variable {a b : Expr} {ta tb : TE} {pos : Pos}
variable {tA tB' : TT} {rest : List Expr}
theorem zpw_and (ha : YPT X a tA)
    (hb : YPW X (.BoolOp .And (b :: rest) pos) tB') : YPW X (.BoolOp .And (a :: b :: rest) pos) (tAnd tA tB') :=
  ⟨pw_and ha.o hb.o⟩
end
section
variable {X : Cx}
variable {a b : Expr} {ta tb : TE} {pos : Pos}
variable {tA tB' : TT} {rest : List Expr}
theorem zpw_or (ha : YPT X a tA)
    (hb : YPW X (.BoolOp .Or (b :: rest) pos) tB') : YPW X (.BoolOp .Or (a :: b :: rest) pos) (tOr tA tB') :=
  ⟨pw_or ha.o hb.o⟩
end
section
variable {X : Cx}
variable {a b : Expr} {ta tb : TE} {pos : Pos}
variable {tA tB' : TT} {rest : List Expr}
theorem zpt_not (ha : YPT X a tA) : YPT X (.UnaryOp .Not a pos) (tNot tA) :=
  ⟨pt_not ha.o⟩
end
section
variable {X : Cx}
variable {a b : Expr} {ta tb : TE} {pos : Pos}
variable {tA tB' : TT} {rest : List Expr}
end
section
variable {X : Cx}
variable {a b : Expr} {ta tb : TE} {pos : Pos}
variable {tA tB' : TT} {rest : List Expr}
end
section
variable {X : Cx}
variable {a b : Expr} {ta tb : TE} {pos : Pos}
variable {tA tB' : TT} {rest : List Expr}
end
section
variable {X : Cx}
variable {a b : Expr} {ta tb : TE} {pos : Pos}
variable {tA tB' : TT} {rest : List Expr}
end
section
variable {X : Cx}
variable {a b : Expr} {ta tb : TE} {pos : Pos}
variable {tA tB' : TT} {rest : List Expr}
end
section
variable {X : Cx} {st : Stmt} {rest : List Stmt} {t u : TS} {e : Expr} {te : TE} {pos : Pos}
theorem zpss_nil  : YPSs X [] tNext :=
  ⟨pss_nil ⟩
end
section
variable {X : Cx} {st : Stmt} {rest : List Stmt} {t u : TS} {e : Expr} {te : TE} {pos : Pos}
theorem zpss_cons (h1 : YPS X st t)
    (h2 : YPSs X rest u) : YPSs X (st :: rest) (tSeq t u) :=
  ⟨pss_cons h1.o h2.o⟩
end
section
variable {X : Cx} {st : Stmt} {rest : List Stmt} {t u : TS} {e : Expr} {te : TE} {pos : Pos}
theorem zpss_one (h1 : YPS X st t) : YPSs X [st] t :=
  ⟨pss_one h1.o⟩
end
section
variable {X : Cx} {st : Stmt} {rest : List Stmt} {t u : TS} {e : Expr} {te : TE} {pos : Pos}
end
section
variable {X : Cx} {st : Stmt} {rest : List Stmt} {t u : TS} {e : Expr} {te : TE} {pos : Pos}
end
section
variable {X : Cx} {st : Stmt} {rest : List Stmt} {t u : TS} {e : Expr} {te : TE} {pos : Pos}
theorem zps_continue  : YPS X (.Continue pos) tCont :=
  ⟨ps_continue ⟩
end
section
variable {X : Cx} {st : Stmt} {rest : List Stmt} {t u : TS} {e : Expr} {te : TE} {pos : Pos}
theorem zps_expr (he : YPE X e te)
    (hs : swapsWith e none pos.line X.env = pure false := by rfl) : YPS X (.Expr e pos) (tDrop te) :=
  ⟨ps_expr he.o hs⟩
end
section
variable {X : Cx} {st : Stmt} {rest : List Stmt} {t u : TS} {e : Expr} {te : TE} {pos : Pos}
theorem zps_ret (he : YPE X e te) : YPS X (.Return (some e) pos) (tRet te) :=
  ⟨ps_ret he.o⟩
end
section
variable {X : Cx} {st : Stmt} {rest : List Stmt} {t u : TS} {e : Expr} {te : TE} {pos : Pos}
end
section
variable {X : Cx} {st : Stmt} {rest : List Stmt} {t u : TS} {e : Expr} {te : TE} {pos : Pos}
theorem zps_if {c : Expr}
    {a b : List Stmt}
    {tc : TT}
    (hc : YPT X c tc)
    (ha : YPSs X a t)
    (hb : YPSs X b u) : YPS X (.If c a b pos) (tIfS tc t u) :=
  ⟨ps_if hc.o ha.o hb.o⟩
end
section
variable {X : Cx} {st : Stmt} {rest : List Stmt} {t u : TS} {e : Expr} {te : TE} {pos : Pos}
end
section
variable {X : Cx} {pos : Pos}
theorem zpg_name {i : Nat}
    {x : Str}
    (hN : X.N.Nodup)
    (hi : X.N[i]? = some x)
    (hx : Loc X.env.scope x)
    (hf : X.fn x = true ∨ X.env.scope.names.lookup x = some .local := by first | exact .inl rfl | exact .inr rfl | assumption) : YPG X (.Name x pos) (gName i) :=
  ⟨pg_name hN hi hx hf⟩
end
section
variable {X : Cx} {pos : Pos}
theorem zpgs_nil  : YPGs X [] gNil :=
  ⟨pgs_nil ⟩
end
section
variable {X : Cx} {pos : Pos}
theorem zpgs_cons {e : Expr}
    {es : List Expr}
    {t : TG}
    {u : TGs}
    (h1 : YPG X e t)
    (h2 : YPGs X es u)
    (hs : (assignEach (e :: es) X.env).map (·.2) = assign e X.env :: (assignEach es X.env).map (·.2) := by rfl) : YPGs X (e :: es) (gCons t u) :=
  ⟨pgs_cons h1.o h2.o hs⟩
end
section
variable {X : Cx} {pos : Pos}
theorem zpg_tup {es : List Expr}
    {k : Nat}
    {t : TGs}
    {n : Nat}
    (hc : X.calm = true)
    (h : YPGs X es t)
    (hn : (assignEach es X.env).length = n := by rfl)
    (hst : (assignEach es X.env).findIdx? (·.1) = none := by rfl) : YPG X (.Tuple es k pos) (gTup X.K n t) :=
  ⟨pg_tup hc h.o hn hst⟩
end
section
variable {X : Cx} {pos : Pos}
end
section
variable {X : Cx} {pos : Pos}
end
section
variable {X : Cx} {pos : Pos}
theorem zps_set {i : Nat}
    {x : Str}
    {e : Expr}
    {te : TE}
    {pos' : Pos}
    (hN : X.N.Nodup)
    (hi : X.N[i]? = some x)
    (hx : Loc X.env.scope x)
    (he : YPE X e te)
    (hs : swapsWith e (some (.Name x pos')) pos.line X.env = pure false := by rfl)
    (hf : X.fn x = true ∨ X.env.scope.names.lookup x = some .local := by first | exact .inl rfl | exact .inr rfl | assumption) : YPS X (.Assign [.Name x pos'] e pos) (tAsg te (gName i)) :=
  ⟨ps_set hN hi hx he.o hs hf⟩
end
section
variable {X : Cx} {pos : Pos}
end
section
variable {X : Cx} {tg : Expr}
theorem zpi_list {l : Expr}
    {tl : TE}
    (hl : YPE X l tl) : YPI X tg l (iList X.K tl) :=
  ⟨pi_list hl.o⟩
end
section
variable {X : Cx} {tg : Expr}
theorem zpi_tup {l : Expr}
    {tl : TE}
    (hl : YPE X l tl) : YPI X tg l (iTup X.K tl) :=
  ⟨pi_tup hl.o⟩
end
section
variable {X : Cx} {tg : Expr}
theorem zpi_range1 {a : Expr}
    {ta : TA}
    {p pos : Pos}
    (hg : Gl X "range")
    (hm : X.mg "range" = none)
    (ha : YPA X [a] ta)
    (hs : starEach [a] X.env = [(false, eval a X.env)] := by rfl) : YPI X tg (.Call (.Name "range" p) [a] [] pos) (iRng1 ta) :=
  ⟨pi_range1 hg hm ha.o hs⟩
end
section
variable {X : Cx} {tg : Expr}
end
section
variable {X : Cx} {tg : Expr}
theorem zps_for {iter : Expr}
    {body : List Stmt}
    {wi : TI}
    {g : TG}
    {tb : TS}
    {pos : Pos}
    (hp : PassesOwn (model X.prog X.w) X.A X.env X.xe)
    (hc : X.calm = true)
    (hi : YPI X tg iter wi)
    (hg : YPG X tg g)
    (hb : YPSs X body tb)
    (hs : ∀ x, foldedSetIterable iter X.env x = pure x := by intro _; rfl) : YPS X (.For tg iter body [] pos) (tFor wi g tb) :=
  ⟨ps_for hp hc hi.o hg.o hb.o hs⟩
end
section
variable {X : Cx} {a b c : Expr} {ta tb tc : TE} {pos : Pos}
theorem zpe_op {op : Operator}
    {r : R2}
    (ho : OpR X (binaryOp op) r)
    (ha : YPE X a ta)
    (hb : YPE X b tb) : YPE X (.BinOp a op b pos) (tOp r ta tb) :=
  ⟨pe_op ho ha.o hb.o⟩
end
section
variable {X : Cx} {a b c : Expr} {ta tb tc : TE} {pos : Pos}
end
section
variable {X : Cx} {a b c : Expr} {ta tb tc : TE} {pos : Pos}
theorem zpe_cmpR {op : CmpOp}
    {r : R2}
    (ho : OpR X (compareOp op) r)
    (ha : YPE X a ta)
    (hb : YPE X b tb)
    (hm : behindInMarks op b = false) : YPE X (.Compare a [op] [b] pos) (tOp r ta tb) :=
  ⟨pe_cmpR ho ha.o hb.o hm⟩
end
section
variable {X : Cx} {a b c : Expr} {ta tb tc : TE} {pos : Pos}
theorem zpt_cmpR {op : CmpOp}
    {r : R2}
    (ho : OpR X (compareOp op) r)
    (ha : YPE X a ta)
    (hb : YPE X b tb)
    (hm : behindInMarks op b = false) : YPT X (.Compare a [op] [b] pos) (tTest (tOp r ta tb)) :=
  ⟨pt_cmpR ho ha.o hb.o hm⟩
end
section
variable {X : Cx} {a b c : Expr} {ta tb tc : TE} {pos : Pos}
end
section
variable {X : Cx} {a b c : Expr} {ta tb tc : TE} {pos : Pos}
end
section
variable {X : Cx} {a b c : Expr} {ta tb tc : TE} {pos : Pos}
end
section
variable {X : Cx} {e : Expr} {es : List Expr} {te : TE} {t : TA} {pos : Pos}
theorem zpa_nil  : YPA X [] tNil :=
  ⟨pa_nil ⟩
end
section
variable {X : Cx} {e : Expr} {es : List Expr} {te : TE} {t : TA} {pos : Pos}
theorem zpa_cons (ha : YPE X e te)
    (hr : YPA X es t)
    (hs : starEach (e :: es) X.env = (false, eval e X.env) :: starEach es X.env := by rfl) : YPA X (e :: es) (tCons te t) :=
  ⟨pa_cons ha.o hr.o hs⟩
end
section
variable {X : Cx} {e : Expr} {es : List Expr} {te : TE} {t : TA} {pos : Pos}
theorem zpe_tup {x1}
    (h : YPA X es t) : YPE X (.Tuple es x1 pos) (tTup t) :=
  ⟨pe_tup h.o⟩
end
section
variable {X : Cx} {e : Expr} {es : List Expr} {te : TE} {t : TA} {pos : Pos}
theorem zpe_lst (h : YPA X es t) : YPE X (.List es pos) (tLst t) :=
  ⟨pe_lst h.o⟩
end
section
variable {X : Cx} {CX : CXT} {k : Nat} {f C : Addr} {fd : FuncData} {ps : List Str} {sp : Sp} {dvs : List V} {ds : List Value} {E : XK} {x m : Str} {p pos apos : Pos} {e o : Expr} {es : List Expr} {ta : TE} {t : TA}
theorem zpe_call (F : FnOk X.prog X.w X.K X.mg X.base CX k f fd ps sp)
    (hr : Room k X.A)
    (hg : Gl X x)
    (hm : X.mg x = some (.ref f))
    (hk : PySem.W.keepIn X.K (.ref f) = true)
    (hb : Binds X.K fd ps ds)
    (hd : Vals dvs ds)
    (hx : Passes CX X E)
    (ha : YPA X (e :: es) t)
    (hdb : (x == ("__debug__" : Str)) = false := by decide)
    (he : starEach (e :: es) X.env = (false, eval e X.env) :: starEach es X.env := by rfl)
    (hpl : (backTo pos (starEach es X.env)).any (·.1) = false := by rfl) : YPE X (.Call (.Name x p) (e :: es) [] pos) (tCall sp dvs E t) :=
  ⟨pe_call F hr hg hm hk hb hd hx ha.o hdb he hpl⟩
end
section
variable {X : Cx} {x : Str} {p pos : Pos} {e : Expr} {es : List Expr} {t : TA} {id T : String} {r : List V → Hp → VK → Prop}
theorem zpe_callB (hc : CallR X (.builtin id) r)
    (hg : Gl X x)
    (hm : X.mg x = none)
    (hv : bootBuiltins x = some (.builtin id))
    (ha : YPA X (e :: es) t)
    (hn : x ≠ "__name__" := by decide)
    (hdb : (x == ("__debug__" : Str)) = false := by decide)
    (he : starEach (e :: es) X.env = (false, eval e X.env) :: starEach es X.env := by rfl)
    (hpl : (backTo pos (starEach es X.env)).any (·.1) = false := by rfl) : YPE X (.Call (.Name x p) (e :: es) [] pos) (tCB r t) :=
  ⟨pe_callB hc hg hm hv ha.o hn hdb he hpl⟩
end
section
variable {X : Cx} {x : Str} {p pos : Pos} {e : Expr} {es : List Expr} {t : TA} {id T : String} {r : List V → Hp → VK → Prop}
theorem zpe_callTy (hc : CallR X (.type T) r)
    (hg : Gl X x)
    (hm : X.mg x = none)
    (hv : bootBuiltins x = some (.type T))
    (ha : YPA X (e :: es) t)
    (hn : x ≠ "__name__" := by decide)
    (hdb : (x == ("__debug__" : Str)) = false := by decide)
    (he : starEach (e :: es) X.env = (false, eval e X.env) :: starEach es X.env := by rfl)
    (hpl : (backTo pos (starEach es X.env)).any (·.1) = false := by rfl) : YPE X (.Call (.Name x p) (e :: es) [] pos) (tCB r t) :=
  ⟨pe_callTy hc hg hm hv ha.o hn hdb he hpl⟩
end
section
variable {X : Cx} {e : Expr} {te : TE} {lo hi : Option Expr} {tl th : TO} {pos p2 : Pos}
theorem zpo_none  : YPO X none tNoPart :=
  ⟨po_none ⟩
end
section
variable {X : Cx} {e : Expr} {te : TE} {lo hi : Option Expr} {tl th : TO} {pos p2 : Pos}
theorem zpo_some (h : YPE X e te) : YPO X (some e) (tPart te) :=
  ⟨po_some h.o⟩
end
section
variable {X : Cx} {e : Expr} {te : TE} {lo hi : Option Expr} {tl th : TO} {pos p2 : Pos}
theorem zpe_slice {r : V → Option Int → Option Int → Hp → VK → Prop}
    (hr : SlR X r)
    (he : YPE X e te)
    (hl : YPO X lo tl)
    (hu : YPO X hi th) : YPE X (.Subscript e (.Slice lo hi none p2) pos) (tSl r te tl th) :=
  ⟨pe_slice hr he.o hl.o hu.o⟩
end
section
variable {X : Cx} {a b : Expr} {ta tb : TE} {pos : Pos}
theorem zpe_ix {r : R2}
    (hr : IxR X r)
    (ha : YPE X a ta)
    (hb : YPE X b tb)
    (hs : PlainIx b) : YPE X (.Subscript a b pos) (tOp r ta tb) :=
  ⟨pe_ix hr ha.o hb.o hs⟩
end
section
variable {X : Cx} {a b : Expr} {ta tb : TE} {pos : Pos}
variable {o e : Expr} {es : List Expr} {to : TE} {t : TA} {name : Str} {apos cpos : Pos} {T id : String} {r : V → List V → Hp → VK → Prop}
theorem zpe_bm (pa : PlainAttrs T)
    (slot : Slot T name id)
    (hty : typeOf (.builtin id) = pure (.type "method_descriptor"))
    (hm : MtR X id r)
    (ho : YPE X o to)
    (ha : YPA X (e :: es) t)
    (hbase : attributeBase o name X.env (eval o X.env) = eval o X.env := by rfl)
    (hfew : ((backTo cpos (starEach (e :: es) X.env)).all (fun x => !x.1) && (backToKw cpos (keywordEach [] X.env)).all (fun x => x.1.isSome)
      && decide ((e :: es).length + ([] : List Keyword).length + (if ([] : List Keyword).isEmpty then 0 else 1) < 30)) = true := by rfl)
    (hline : (apos.endLine == cpos.line) = true := by rfl)
    (hs : starEach (e :: es) X.env = (false, eval e X.env) :: starEach es X.env := by rfl)
    (hplain : (backTo cpos (starEach es X.env)).any (·.1) = false := by rfl) : YPE X (.Call (.Attribute o name apos) (e :: es) [] cpos) (tBM X.K T r to t) :=
  ⟨pe_bm pa slot hty hm ho.o ha.o hbase hfew hline hs hplain⟩
end
section
variable {X : Cx}
theorem zpv (i : Nat)
    {x : Str}
    {pos : Pos}
    (hN : X.N[i]? = some x := by rfl)
    (hv : Vis X.env.scope x := by first | exact Or.inl rfl | exact Or.inr (Or.inl rfl) | exact Or.inr (Or.inr rfl))
    (hd : (x == ("__debug__" : Str)) = false := by decide)
    (hcd : (x == ("__classdict__" : Str)) = false := by decide) : YPE X (.Name x pos) (tVar i) :=
  ⟨pv i hN hv hd hcd⟩
end
section

theorem zpif_nil {X : Cx} : YPIfs X [] tYes :=
  ⟨pif_nil ⟩
end
section

theorem zpif_one {X : Cx}
    {c : Expr}
    {t : TT}
    (h : YPT X c t) : YPIfs X [c] t :=
  ⟨pif_one h.o⟩
end
section
variable {X : Cx} {tg iter elt : Expr} {ifs : List Expr} {scope : Scope} {N' : List Str} {js : List (Option Nat)} {wi : TI} {g : TG} {tc : TT} {te : TE} {pos : Pos}
theorem zpe_lc (hcalm : X.calm = true)
    (S : CompScope X.env.scope X.N scope N' js)
    (hi : YPI X tg iter wi)
    (hg : ∀ cl C s H ex, YPG (cxComp X scope N' cl C s H ex) tg g)
    (hc : ∀ cl C s H ex, YPIfs (cxComp X scope N' cl C s H ex) ifs tc)
    (he : ∀ cl C s H ex, YPE (cxComp X scope N' cl C s H ex) elt te)
    (hs : ∀ x, foldedSetIterable iter X.env x = pure x := by intro _; rfl) : YPE X (.ListComp elt [⟨tg, iter, ifs, 0⟩] scope pos) (tLC wi js g tc te) :=
  ⟨pe_lc hcalm S hi.o (fun cl C s H ex => (hg cl C s H ex).o) (fun cl C s H ex => (hc cl C s H ex).o) (fun cl C s H ex => (he cl C s H ex).o) hs⟩
end
section
variable {X : Cx} {tg iter elt : Expr} {ifs : List Expr} {scope : Scope} {N' : List Str} {js : List (Option Nat)} {wi : TI} {g : TG} {tc : TT} {te : TE} {pos : Pos}
theorem zps_setlc {i : Nat}
    {y : Str}
    {py spos : Pos}
    (hcalm : X.calm = true)
    (hN : X.N.Nodup)
    (hiN : X.N[i]? = some y)
    (hy : Loc X.env.scope y)
    (S : CompScope X.env.scope X.N scope N' js)
    (hi : YPI X tg iter wi)
    (hg : ∀ cl C s H ex, YPG (cxComp X scope N' cl C s H ex) tg g)
    (hc : ∀ cl C s H ex, YPIfs (cxComp X scope N' cl C s H ex) ifs tc)
    (he : ∀ cl C s H ex, YPE (cxComp X scope N' cl C s H ex) elt te)
    (hsw : swapsWith (.ListComp elt [⟨tg, iter, ifs, 0⟩] scope pos) (some (.Name y py)) spos.line X.env = pure true := by rfl)
    (hf : X.fn y = true ∨ X.env.scope.names.lookup y = some .local := by first | exact .inl rfl | exact .inr rfl | assumption)
    (hs : ∀ x, foldedSetIterable iter X.env x = pure x := by intro _; rfl) : YPS X (.Assign [.Name y py] (.ListComp elt [⟨tg, iter, ifs, 0⟩] scope pos) spos) (tAsg (tLC wi js g tc te) (gName i)) :=
  ⟨ps_setlc hcalm hN hiN hy S hi.o (fun cl C s H ex => (hg cl C s H ex).o) (fun cl C s H ex => (hc cl C s H ex).o) (fun cl C s H ex => (he cl C s H ex).o) hsw hf hs⟩
end
section
variable {X : Cx} {tg : Expr}
theorem zpi_rev {a : Expr}
    {ta : TA}
    {p pos : Pos}
    (hg : Gl X "reversed")
    (hm : X.mg "reversed" = none)
    (ha : YPA X [a] ta)
    (hs : starEach [a] X.env = [(false, eval a X.env)] := by rfl) : YPI X tg (.Call (.Name "reversed" p) [a] [] pos) (iRev ta) :=
  ⟨pi_rev hg hm ha.o hs⟩
end
section
variable {X : Cx} {es : List Expr} {ek : Nat} {ep : Pos}
theorem zpi_zip {k1 k2 : Bool}
    {a b : Expr}
    {ta : TA}
    {p pos : Pos}
    (hg : Gl X "zip")
    (hm : X.mg "zip" = none)
    (ha : YPA X [a, b] ta)
    (hs : starEach [a, b] X.env = [(false, eval a X.env), (false, eval b X.env)] := by rfl)
    (hs2 : starEach [b] X.env = [(false, eval b X.env)] := by rfl) : YPI X (.Tuple es ek ep) (.Call (.Name "zip" p) [a, b] [] pos) (iZip k1 k2 X.K ta) :=
  ⟨pi_zip hg hm ha.o hs hs2⟩
end
section

theorem zpe_gref {X : Cx}
    {x : Str}
    {a : Addr}
    {pos : Pos}
    (hg : Gl X x)
    (hm : X.mg x = some (.ref a))
    (hd : (x == ("__debug__" : Str)) = false := by decide) : YPE X (.Name x pos) (tC (.ref a)) :=
  ⟨pe_gref hg hm hd⟩
end
section
variable {X : Cx} {a b c d : Expr} {ta tb tc td : TE} {pos : Pos}
end
section
variable {X : Cx} {a d : Expr} {ta td : TE} {p pos kp : Pos}
end
section
variable {X : Cx} {K : PySem.W.Frag}
theorem zpg_tupK {es : List Expr}
    {k : Nat}
    {t : TGs}
    {pos : Pos}
    (n : Nat)
    (hK : X.K = K)
    (hc : X.calm = true)
    (h : YPGs X es t)
    (hn : (assignEach es X.env).length = n := by rfl)
    (hst : (assignEach es X.env).findIdx? (·.1) = none := by rfl) : YPG X (.Tuple es k pos) (gTup K n t) :=
  ⟨pg_tupK n hK hc h.o hn hst⟩
end
section
variable {P : Program} {w : World} {K : PySem.W.Frag} {mg : Str → Option Value} {base : Heap} {N : List Str} {qual : Str} {scope : Scope} {f : Addr} {cdv : Value} {A : Around} {outer : List Env} {s : Shared} {H : Hp} {E : XK}
theorem zps_raise {x : Str}
    {C : Addr}
    {np cpos pos : Pos}
    {e : Expr}
    {es : List Expr}
    {t : TA}
    (c : ExcC K C)
    (hh : A.handled = none)
    (hm : mg x = some (.ref C))
    (hg : Gl (cxOf (CX1 P w) P w K mg base N qual scope f cdv A outer s H E) x)
    (ha : YPA (cxOf (CX1 P w) P w K mg base N qual scope f cdv A outer s H E) (e :: es) t)
    (hd : (x == ("__debug__" : Str)) = false := by decide)
    (he : starEach (e :: es) (cxOf (CX1 P w) P w K mg base N qual scope f cdv A outer s H E).env = (false, eval e (cxOf (CX1 P w) P w K mg base N qual scope f cdv A outer s H E).env) :: starEach es (cxOf (CX1 P w) P w K mg base N qual scope f cdv A outer s H E).env := by rfl)
    (hpl : (backTo cpos (starEach es (cxOf (CX1 P w) P w K mg base N qual scope f cdv A outer s H E).env)).any (·.1) = false := by rfl) : YPS (cxOf (CX1 P w) P w K mg base N qual scope f cdv A outer s H E) (.Raise (some (.Call (.Name x np) (e :: es) [] cpos)) none pos) (tRaise E C t) :=
  ⟨ps_raise c hh hm hg ha.o hd he hpl⟩
end
section
variable {X : Cx} {CX : CXT} {k : Nat} {f C : Addr} {fd : FuncData} {ps : List Str} {sp : Sp} {E : XK} {x m : Str} {p pos apos : Pos} {e o : Expr} {es : List Expr} {ta : TE} {t : TA} {σ0 : St}
theorem zpe_callAt (F : FnOk X.prog X.w X.K X.mg X.base CX k f fd ps sp)
    (hr : Room k X.A)
    (hg : Gl X x)
    (hm : X.mg x = some (.ref f))
    (hk : PySem.W.keepIn X.K (.ref f) = true)
    (hb : Binds X.K fd ps [])
    (hx : PassesAt CX X E σ0)
    (ha : YPA X (e :: es) t)
    (hdb : (x == ("__debug__" : Str)) = false := by decide)
    (he : starEach (e :: es) X.env = (false, eval e X.env) :: starEach es X.env := by rfl)
    (hpl : (backTo pos (starEach es X.env)).any (·.1) = false := by rfl) : YPE X (.Call (.Name x p) (e :: es) [] pos) (tCallAt sp σ0 E t) :=
  ⟨pe_callAt F hr hg hm hk hb hx ha.o hdb he hpl⟩
end
section
variable {X : Cx} {body suite : List Stmt} {b₀ : Stmt} {Ln n : Str} {np hpos pos : Pos} {aL : Addr} {ie : Nat} {tb : St → XK → TS} {th : TS}
end
section

end
section
variable {X : Cx} {K : PySem.W.Frag} {o e : Expr} {es : List Expr} {to : TE} {t : TA} {name : Str} {apos cpos : Pos} {T id : String} {r : V → List V → Hp → VK → Prop}
theorem zpe_bmK (hK : X.K = K)
    (pa : PlainAttrs T)
    (slot : Slot T name id)
    (hty : typeOf (.builtin id) = pure (.type "method_descriptor"))
    (hm : MtR X id r)
    (ho : YPE X o to)
    (ha : YPA X (e :: es) t)
    (hbase : attributeBase o name X.env (eval o X.env) = eval o X.env := by rfl)
    (hfew : ((backTo cpos (starEach (e :: es) X.env)).all (fun x => !x.1) && (backToKw cpos (keywordEach [] X.env)).all (fun x => x.1.isSome)
      && decide ((e :: es).length + ([] : List Keyword).length + (if ([] : List Keyword).isEmpty then 0 else 1) < 30)) = true := by rfl)
    (hline : (apos.endLine == cpos.line) = true := by rfl)
    (hs : starEach (e :: es) X.env = (false, eval e X.env) :: starEach es X.env := by rfl)
    (hplain : (backTo cpos (starEach es X.env)).any (·.1) = false := by rfl) : YPE X (.Call (.Attribute o name apos) (e :: es) [] cpos) (tBM K T r to t) :=
  ⟨pe_bmK hK pa slot hty hm ho.o ha.o hbase hfew hline hs hplain⟩
end
theorem zpa_const {X : Cx} {es : List Expr} {vs : List V} (h : constAll es = some vs) : YPA X es (tConsts vs) :=
  ⟨pa_const h⟩
section
variable {X : Cx} {o i e value : Expr} {pos pos' tpos : Pos} {td ty tv : TE}
end
section
variable {X : Cx} {o i e value : Expr} {pos pos' tpos : Pos} {td ty tv : TE}
end
section
variable {X : Cx} {o i e value : Expr} {pos pos' tpos : Pos} {td ty tv : TE}
end
section
variable {X : Cx} {o i e value : Expr} {pos pos' tpos : Pos} {td ty tv : TE}
theorem zps_dput (hu : X.A.units + 1 < cLine)
    (ho : YPE X o td)
    (hi : YPE X i ty)
    (hv : YPE X value tv)
    (hs : swapsWith value (some (.Subscript o i pos')) pos.line X.env = pure false) : YPS X (.Assign [.Subscript o i pos'] value pos) (sDPut td ty tv) :=
  ⟨ps_dput hu ho.o hi.o hv.o hs⟩
end
section
variable {X : Cx} {pos : Pos}
end
section
variable {X : Cx} {es : List Expr} {ek : Nat} {ep : Pos}
theorem zpi_enum {a : Expr}
    {ta : TA}
    {p pos : Pos}
    (hg : Gl X "enumerate")
    (hm : X.mg "enumerate" = none)
    (ha : YPA X [a] ta)
    (hs : starEach [a] X.env = [(false, eval a X.env)] := by rfl) : YPI X (.Tuple es ek ep) (.Call (.Name "enumerate" p) [a] [] pos) (iEnum X.K ta) :=
  ⟨pi_enum hg hm ha.o hs⟩
end
section
variable {X : Cx} {tg iter elt : Expr} {ifs : List Expr} {scope : Scope} {y0 : Str} {N' : List Str} {js : List (Option Nat)} {wi : TI} {g : TG} {tc : TT} {te : TE} {pos : Pos}
end
section
variable {X : Cx} {K : PySem.W.Frag} {tg : Expr}
end
section
variable {P : Program} {w : World} {K : PySem.W.Frag} {mg : Str → Option Value} {base : Heap}
theorem Fun.zok1 {x qual : Str} {st : Stmt} {f : Addr} {fd : FuncData} {N ps : List Str} {k : Nat} {sp : Sp} (F : Fun K x qual st f fd) (S : FnScope N ps (defScope st)) (len : ∀ vs H Q E, sp vs H Q E → vs.length = ps.length)
    (hb : ∀ (cdv : Value) (A : Around) (outer : List Env) (s : Shared) (H : Hp) (vs : List V) (Q : VK) (E : XK), Room k (A.deeper (envOfC qual (defScope st) s.heap.objs.size f cdv)) → sp vs H Q E →
      ∃ t, YPSs (cxOf (CX1 P w) P w K mg base N qual (defScope st) f cdv A outer s H E).nox (defBody st) t ∧ t { nx := fun _ H' => Q .non H', rt := Q } (start N vs) H) : FnOk P w K mg base (CX1 P w) (k + 1) f fd ps sp :=
  F.ok1 S len fun cdv A outer s H vs Q E hr h => by
    obtain ⟨t, a, b⟩ := hb cdv A outer s H vs Q E hr h
    exact ⟨t, a.o, b⟩
theorem Fun.zokX {x qual : Str} {st : Stmt} {f : Addr} {fd : FuncData} {N ps : List Str} {k : Nat} {sp : Sp} {CX : CXT} (F : Fun K x qual st f fd) (S : FnScope N ps (defScope st)) (len : ∀ vs H Q E, sp vs H Q E → vs.length = ps.length)
    (hb : ∀ (cdv : Value) (A : Around) (outer : List Env) (s : Shared) (H : Hp) (vs : List V) (Q : VK) (E : XK), Room k (A.deeper (envOfC qual (defScope st) s.heap.objs.size f cdv)) → sp vs H Q E →
      ∃ t, YPSs (cxOf CX P w K mg base N qual (defScope st) f cdv A outer s H E) (defBody st) t ∧ t { nx := fun _ H' => Q .non H', rt := Q } (start N vs) H) : FnOk P w K mg base CX (k + 1) f fd ps sp :=
  F.okX S len fun cdv A outer s H vs Q E hr h => by
    obtain ⟨t, a, b⟩ := hb cdv A outer s H vs Q E hr h
    exact ⟨t, a.o, b⟩
end
end L2

set_option Elab.async false
set_option linter.all false
set_option maxRecDepth 100000
/-! a list comprehension that an exception may leave -/
namespace L2
open PySem PySem.Spec PyProof.Rows

section
variable {M : Model} {A : Around} {Ex : Value → Shared → Prop} {s : Shared} {B : Heap} {ev : Env} {rest l : List Env} {F x : Addr} {kc ka fl : Value}
/-- what is no record is another than a record -/
theorem rec_ne {h : Heap} {b c : Addr} {ob oc : Obj} {fs : Array Value} (e1 : h.get? b = some ob) (n : ∀ vs, ob.data ≠ .fields vs) (e2 : h.get? c = some oc) (d : oc.data = .fields fs) : b ≠ c := fun z => by
  subst z
  rw [e1] at e2
  cases e2
  exact n fs d
theorem flight_any {Q : Unit → Shared → Prop} (fr : Option Addr) (st : B.StaysIn s.heap) (ff : s.heap.FunFrames B l) (tr : s.heap.TracedAtW B x kc ka fl)
    (k : ∀ h', B.StaysIn h' → h'.FunFrames B l → (∃ fl', h'.TracedAtW B x kc ka fl') → (∀ b o, s.heap.get? b = some o → (∀ vs, o.data ≠ .fields vs) → h'.get? b = some o) → Q () { s with heap := h' }) :
    wpAny M A (setFlight (.ref x) fr) Q Ex s := by
  obtain ⟨ox, xs, tb, ot, tf, g1, g2, g3, g4, g5, g6, g7, g8, g9⟩ := tr
  have room : 3 < tf.size := (Array.getElem?_eq_some_iff.mp g9).1
  have els : ∀ b, b ≠ tb → (s.heap.update tb (Obj.mapFields (·.setIfInBounds 3 (fr.elim Value.none fun f => rawInt f)))).get? b = s.heap.get? b := fun b nb => Heap.get?_update_other _ _ nb.symm
  unfold setFlight
  refine wpAny_bind (wpAny_field g1 g3 g4 ?_)
  rw [if_pos (by simp)]
  refine wpAny_setField g7 g8 room (k _ (fun b o e => (els b fun z => by rw [z, g5] at e; cases e).trans (st b o e)) (ff.of_keeps fun b o e n => ⟨o, (els b (rec_ne e n g7 g8)).trans e, rfl⟩) ⟨(fr.elim Value.none fun f => rawInt f), ?_⟩ fun b o e n => (els b (rec_ne e n g7 g8)).trans e)
  exact ⟨ox, xs, tb, _, _, (els x g6.symm).trans g1, g2, g3, g4, g5, g6, Heap.get?_update_self _ g7 (Obj.isFreed_of_fields (Obj.data_mapFields g8 _)), Obj.data_mapFields g8 _, by rw [Array.getElem?_setIfInBounds_self_of_lt room]⟩
theorem leaves_any {Q : Unit → Shared → Prop} (fr : A.frames = some (ev :: rest)) (st : B.StaysIn s.heap) (nx : B.get? x = none) (ff : s.heap.FunFrames B (ev :: rest)) (tr : s.heap.TracedAtW B x kc ka fl) (hF : ev.frame = some F)
    (k : ∀ h', Heap.LeftW B (ev :: rest) x kc ka s.heap h' → Q () { s with heap := h' }) : wpAny M A (leaving ev (.ref x)) Q Ex s := by
  by_cases q : fl = rawInt F
  · subst q
    unfold leaving
    refine wpAny_bind (wpAny_noteFrame_againW hF tr ?_)
    exact wpAny_setFlight_noneW st ff tr fun h' a1 a2 a3 a4 => k h' ⟨a1, a2, a3, fun b o e n => ⟨o.slots, a4 b o e n⟩⟩
  · obtain ⟨ox, xs, tb, ot, tf, g1, ⟨gc, g2⟩, g3, g4, g5, g6, g7, g8, g9⟩ := tr
    cases gc
    unfold leaving noteFrame
    simp only [hF]
    refine wpAny_bind (wpAny_bind (wpAny_field g1 g3 g4 ?_))
    rw [if_pos (by simp)]
    refine wpAny_bind (wpAny_field g7 g8 g9 ?_)
    rw [if_neg (by simpa using q)]
    refine wpAny_bind (wpAny_setField g7 g8 (Array.getElem?_eq_some_iff.mp g9).1 ?_)
    have els : ∀ b, b ≠ tb → (s.heap.update tb (Obj.mapFields (·.setIfInBounds 3 Value.none))).get? b = s.heap.get? b := fun b nb => Heap.get?_update_other _ _ nb.symm
    refine wpAny_newEntryW fr (ff.of_keeps fun b o e n => ⟨o, (els b (rec_ne e n g7 g8)).trans e, rfl⟩) hF ((els x g6.symm).trans g1) (fun b o e => (els b fun z => by rw [z, g5] at e; cases e).trans (st b o e)) nx g3 (Array.getElem?_eq_some_iff.mp g4).1 g2 fun h' ⟨a1, a2, a3, a4⟩ => k h' ⟨a1, a2, a3, fun b o e n => a4 b o ((els b (rec_ne e n g7 g8)).trans e) n⟩
/-- fewer lie still -/
theorem FunFrames.less {h B B' : Heap} (sub : ∀ b, B.get? b = none → B'.get? b = none) : ∀ {l : List Env}, h.FunFrames B l → h.FunFrames B' l
  | [], _ => trivial
  | _ :: _, ⟨a, ⟨L, o, e1, e2, e3, e4⟩, r⟩ => ⟨a, ⟨L, o, e1, sub L e2, e3, e4⟩, FunFrames.less sub r⟩
theorem hide_none {B : Heap} {b c : Addr} (e : B.get? b = none) : (B.hide c).get? b = none := by
  cases z : (B.hide c).get? b with
  | none => rfl
  | some o => rw [Heap.of_hide z] at e; cases e
end

/-- what leaves the element: it flies above the frames around, the block's own frame is whole -/
def XEc (X : Cx) (scope : Scope) (N' : List Str) (E : XK) (cl : List (Str × Addr)) (C : Addr) (s : Shared) (H : Hp) (fp : List Addr) (e : Value) (s' : Shared) : Prop :=
  ∃ (a Cc t : Addr) (B : Heap) (pins : List (Addr × Obj)) (σ : St) (H' : Hp), e = .ref a ∧ Inv (cxComp X scope N' cl C s H fp) pins σ H' s' ∧ Heap.FlyingW B X.stack a (.ref Cc) (.ref t) s'.heap ∧ (∀ b u, H' b = some u → ∃ o, B.get? b = some o) ∧
    (∀ b o, s.heap.get? b = some o → b ∉ frs X.stack → b ∉ fp → ∃ o', B.get? b = some o') ∧ E (.ref Cc) none H'
/-- the block's context -/
abbrev cxCompX (X : Cx) (scope : Scope) (N' : List Str) (E : XK) (cl : List (Str × Addr)) (C : Addr) (s : Shared) (H : Hp) (fp : List Addr) : Cx := (cxComp X scope N' cl C s H fp).wish (XEc X scope N' E cl C s H fp)
theorem passC {X : Cx} {scope : Scope} {N' : List Str} {E : XK} {cl : List (Str × Addr)} {C : Addr} {s : Shared} {H : Hp} {fp : List Addr} : Passes (CX1 X.prog X.w) (cxCompX X scope N' E cl C s H fp) E := by
  intro pins σ H1 s1 e s' I ⟨a, Cc, t, B, H', he, os, bare, un, hok, fly, trk, all, q⟩
  have J : Inv (cxComp X scope N' cl C s H fp) pins σ H' s' := I.unwish.call' (s' := s') (ch := []) os un hok bare fun b z => absurd z (by simp)
  refine ⟨a, Cc, t, B, pins, σ, H', he, J, fly, trk, fun b o hb hf hx => ?_, q⟩
  obtain ⟨o1, h1⟩ := I.base.there b o hb hx
  exact all b o1 h1 hf

section
variable {P : Program} {w : World} {K : PySem.W.Frag} {mg : Str → Option Value} {base : Heap} {N : List Str} {qual : Str} {sc : Scope} {f : Addr} {cdv : Value} {A : Around} {outer : List Env} {s0 : Shared} {H0 : Hp} {E : XK}
theorem comp_err {pins : List (Addr × Obj)} {σ : St} {H : Hp} {s : Shared} {scope : Scope} {N' : List Str} {C : Addr} {fp : List Addr} {cl : List (Str × Addr)} {e acc : Value} {s' : Shared} {Q : Value → Shared → Prop}
    (I : Inv (cxOf (CX1 P w) P w K mg base N qual sc f cdv A outer s0 H0 E) pins σ H s) (hf : ∀ b ∈ fp, FpOk (cxOf (CX1 P w) P w K mg base N qual sc f cdv A outer s0 H0 E) pins H b) (hC : s.heap.objs.size ≤ C) (x : XEc (cxOf (CX1 P w) P w K mg base N qual sc f cdv A outer s0 H0 E) scope N' E cl C s H fp e s') :
    notedBy (model P w) (cxOf (CX1 P w) P w K mg base N qual sc f cdv A outer s0 H0 E).A (compEnvC scope cl C (cxOf (CX1 P w) P w K mg base N qual sc f cdv A outer s0 H0 E).env) (fun x s'' => compPost (model P w) (cxOf (CX1 P w) P w K mg base N qual sc f cdv A outer s0 H0 E).A (cxOf (CX1 P w) P w K mg base N qual sc f cdv A outer s0 H0 E).xe none Q acc C (.error x) s'') e s' := by
  obtain ⟨a, Cc, t, B, pins', σ', H', rfl, J, fly, trk, all, q⟩ := x
  have J2 : Inv (cxOf (CX1 P w) P w K mg base N qual sc f cdv A outer s0 H0 E) pins σ H' s' := I.call' (ch := fp) J.os J.base J.hok J.bare fun b hb => ⟨(hf b hb).2.2.2.1, (hf b hb).2.1, (hf b hb).2.2.2.2.1, (hf b hb).2.2.2.2.2⟩
  obtain ⟨m, hm, _⟩ := J.loc
  have hm : s'.heap.Ns C m := hm
  have nC : H' C = none := J.free
  have fC : C ∉ frs (cxOf (CX1 P w) P w K mg base N qual sc f cdv A outer s0 H0 E).stack := fun z => by
    rcases List.mem_cons.mp (I.stkSub C z) with r | r
    · exact absurd (Nat.lt_of_lt_of_le I.lt hC) (by rw [r]; exact Nat.lt_irrefl _)
    · exact I.nofs hC r
  have flB : Heap.FlyingW (B.hide C) (cxOf (CX1 P w) P w K mg base N qual sc f cdv A outer s0 H0 E).stack a (.ref Cc) (.ref t) s'.heap := by
    obtain ⟨f1, f2, f3, ox, xs, tb, ot, tf, g1, g2, g3, g4, g5, g6⟩ := fly
    exact ⟨fun b o z => f1 b o (Heap.of_hide z), hide_none f2, FunFrames.less (fun b z => hide_none z) f3, ox, xs, tb, ot, tf, g1, g2, g3, g4, hide_none g5, g6⟩
  have nf : ∀ b ∈ frs outer, ∀ o, s'.heap.get? b = some o → ∀ vs, o.data ≠ .fields vs := fun b hb o ho vs hd => by
    obtain ⟨_, o', ho', hn⟩ := fly.2.2.1.mem (b := b) (show b ∈ s0.heap.objs.size :: frs outer from List.mem_cons_of_mem _ hb)
    rw [ho] at ho'
    cases ho'
    exact hn vs hd
  have fO : ∀ b ∈ frs outer, b ≠ C := fun b hb z => fC (by rw [← z]; exact List.mem_cons_of_mem _ hb)
  have all' : ∀ b o, s0.heap.get? b = some o → b ∉ frs outer → ∃ o', (B.hide C).get? b = some o' := fun b o ho hb => by
    have lt0 := Heap.lt_size ho
    obtain ⟨o1, h1⟩ := I.base.there b o ho (fun z => absurd z (by show b ∉ ([] : List Addr); simp))
    obtain ⟨o2, h2⟩ := all b o1 h1 (fun z => by
      rcases List.mem_cons.mp (show b ∈ s0.heap.objs.size :: frs outer from z) with z | z
      · exact absurd lt0 (by rw [z]; exact Nat.lt_irrefl _)
      · exact hb z) (fun z => by
      rcases (hf b z).2.2.2.1 with r | r
      · exact absurd r (by show b ∉ ([] : List Addr); simp)
      · exact absurd (Nat.lt_of_lt_of_le lt0 r) (Nat.lt_irrefl _))
    exact ⟨o2, (Heap.hide_ne B (fun z => absurd (Nat.lt_of_lt_of_le (Heap.lt_size h1) (by rw [z]; exact hC)) (Nat.lt_irrefl _))).trans h2⟩
  have trk' : ∀ b u, H' b = some u → ∃ o, (B.hide C).get? b = some o := fun b u hu => by
    obtain ⟨o, ho⟩ := trk b u hu
    exact ⟨o, (Heap.hide_ne B (fun z => by rw [z, nC] at hu; cases hu)).trans ho⟩
  have same : noteFrame (.ref a) (compEnvC scope cl C (cxOf (CX1 P w) P w K mg base N qual sc f cdv A outer s0 H0 E).env) = noteFrame (.ref a) (cxOf (CX1 P w) P w K mg base N qual sc f cdv A outer s0 H0 E).env := by
    unfold noteFrame PySem.frameOf compEnvC
    rfl
  unfold notedBy
  rw [same]
  refine wpAny_looks_onW (L := s0.heap.objs.size) (outer := outer) I.ok.frames rfl flB fun h1 held sl1 => ?_
  refine ⟨m, sl1.ns hm, fun h2 sb cenv _ => ?_⟩
  obtain ⟨oC, es, ep, gC, dC, _⟩ := sl1.ns hm
  have oC' : ∀ vs, oC.data ≠ .fields vs := fun vs z => by rw [dC] at z; cases z
  obtain ⟨k1, k2, k3, ox, xs, tb, ot, tf, g1, g2, g3, g4, g5, g6, g7, g8, g9⟩ := held
  have nx : a ≠ C := (rec_ne gC oC' g1 g3).symm
  have nt : tb ≠ C := (rec_ne gC oC' g7 g8).symm
  have st2 : (B.hide C).StaysIn h2 := fun b o z => (sb.2 b fun r => by rw [r, Heap.hide_self] at z; cases z).trans (k1 b o z)
  have ff2 : h2.FunFrames (B.hide C) (cxOf (CX1 P w) P w K mg base N qual sc f cdv A outer s0 H0 E).stack := by
    have go : ∀ l : List Env, (∀ b ∈ frs l, b ≠ C) → h1.FunFrames (B.hide C) l → h2.FunFrames (B.hide C) l := fun l => by
      induction l with
      | nil => exact fun _ _ => trivial
      | cons v r ih =>
        rintro hn ⟨a1, ⟨L, o, e1, e2, e3, e4⟩, rr⟩
        exact ⟨a1, ⟨L, o, e1, e2, (sb.2 L (hn L (List.mem_filterMap.mpr ⟨v, List.mem_cons_self, e1⟩))).trans e3, e4⟩, ih (fun b hb => hn b (by
          obtain ⟨y, hy, ey⟩ := List.mem_filterMap.mp hb
          exact List.mem_filterMap.mpr ⟨y, List.mem_cons_of_mem _ hy, ey⟩)) rr⟩
    exact go _ (fun b hb z => fC (by rw [← z]; exact hb)) k3
  have tr2 : h2.TracedAtW (B.hide C) a (.ref Cc) (.ref t) (rawInt s0.heap.objs.size) := ⟨ox, xs, tb, ot, tf, (sb.2 a nx).trans g1, g2, g3, g4, g5, g6, (sb.2 tb nt).trans g7, g8, g9⟩
  unfold PySem.passOn
  refine wpAny_bind (wpAny_field (s := { s' with heap := h2 }) ((sb.2 a nx).trans g1) g3 g4 ?_)
  rw [if_neg (by simp)]
  refine wpAny_bind (flight_any (s := { s' with heap := h2 }) cenv.frame st2 ff2 tr2 fun h3 st3 ff3 ⟨fl3, tr3⟩ kp3 => ?_)
  refine wpAny_throw ?_
  show wpAny _ _ (leaving _ (.ref a)) _ _ _
  refine leaves_any (s := { s' with heap := h3 }) (F := s0.heap.objs.size) (rest := outer) I.ok.frames st3 k2 ff3 tr3 rfl fun h4 ⟨st4, ⟨_, _, ff4⟩, tr4, sl4⟩ => ?_
  have slots : ∀ b ∈ frs outer, ∀ o, s'.heap.get? b = some o → ∃ sl, h4.get? b = some { o with slots := sl } := fun b hb o ho => by
    obtain ⟨sa, ea⟩ := sl1 b o ho (nf b hb o ho)
    have eb : h3.get? b = some { o with slots := sa } := kp3 b _ ((sb.2 b (fO b hb)).trans ea) (nf b hb o ho)
    obtain ⟨sc', ec⟩ := sl4 b _ eb (nf b hb o ho)
    exact ⟨sc', ec⟩
  have un : Un (frs outer) [] H0 H' s0.heap h4 := by
    have u := (show Un (frs outer) [] H0 H' s0.heap s'.heap from J2.base)
    refine ⟨fun b o e n hb hx => ?_, fun b o e n hb hx => ?_, u.free, fun b o e hx => ?_, u.tups, u.frzs, u.tbls⟩
    · obtain ⟨o', hB⟩ := all' b o e hb
      have e1 := u.keep b o e n hb hx
      have e2 := flB.1 b o' hB
      rw [e1] at e2
      cases e2
      exact st4 b _ hB
    · obtain ⟨s1, e1⟩ := u.slot b o e n hb hx
      obtain ⟨s2, e2⟩ := slots b hb _ e1
      exact ⟨s2, e2⟩
    · by_cases hb : b ∈ frs outer
      · obtain ⟨o1, e1⟩ := u.there b o e hx
        obtain ⟨s2, e2⟩ := slots b hb _ e1
        exact ⟨_, e2⟩
      · obtain ⟨o', hB⟩ := all' b o e hb
        exact ⟨o', st4 b o' hB⟩
  exact ⟨a, Cc, t, B.hide C, H', rfl, J2.os, J2.bare, un, fly_hok J2.hok flB.1 st4 trk', ⟨st4, k2, ff4, tr4⟩, trk', all', q⟩
end
theorem compLoop_goX {prog : Program} {w : World} {A : Around} {R : Result → Shared → Prop} {s : Shared} {elt target iter : Expr} {ifs : List Expr} {scope : Scope} {pos : Pos} {it acc : Value} {env : Env} (I : Nat → Shared → Prop)
    (turn : ∀ n s, I n s → wpAny (model prog w) A (pyNext it) (fun r s₁ => match r with
      | none => R (.ok .next) s₁
      | some v => wpAny (model prog w) A (letOwnedTupleGo target it v) (fun _ s₁' => wpAny (model prog w) A (assign target env v) (fun _ s₂ =>
          wpAny (model prog w) A (forIn ifs true fun c r => if r = true then do let ok ← isTrue c env (eval c env); pure (ForInStep.yield ok) else pure (ForInStep.yield r)) (fun ok s₃ =>
            if ok = true then wpAny (model prog w) A (eval elt env) (fun x s₄ =>
              wpAny (model prog w) A (call (.builtin "list.append") [acc, x]) (fun _ s₅ => ∃ m, m < n ∧ I m s₅) (fun _ _ => False) s₄) (notedBy (model prog w) A env fun x s' => R (.error x) s') s₃
            else ∃ m, m < n ∧ I m s₃) (fun _ _ => False) s₂) (fun _ _ => False) s₁') (fun _ _ => False) s₁) (fun _ _ => False) s)
    (n : Nat) (h : I n s) : codeAny (model prog w) A (.compLoop (.ListComp elt [⟨target, iter, ifs, 0⟩] scope pos) 0 it acc env) R s := by
  refine codeAny_loop rfl I (fun n s hI => ?_) n h
  show wpAny _ A ((compTurn (.ListComp elt [⟨target, iter, ifs, 0⟩] scope pos) 0 it acc env).onRaise (fun x => do noteFrame x env; theTreesLotGoes x)) _ _ s
  refine wpAny_noted ?_
  rw [compTurn_list]
  refine wpAny_bind (wpAny_standAt (wpAny_bind (wpAny_mono (turn n s hI) (fun r s₁ h₁ => ?_) fun _ _ h' => h'.elim)))
  cases r with
  | none => exact wpAny_pure h₁
  | some v =>
    refine wpAny_bind (wpAny_mono h₁ (fun _ s₁' h₁' => ?_) fun _ _ h' => h'.elim)
    refine wpAny_bind (wpAny_mono h₁' (fun _ s₂ h₂ => wpAny_bind (wpAny_mono h₂ (fun ok s₃ h₃ => ?_) fun _ _ h' => h'.elim)) fun _ _ h' => h'.elim)
    cases ok with
    | false => exact wpAny_pure ⟨rfl, h₃⟩
    | true =>
      exact wpAny_bind (wpAny_bind (wpAny_mono h₃ (fun x s₄ h₄ => wpAny_bind (wpAny_mono h₄ (fun _ s₅ h₅ => wpAny_pure (wpAny_pure ⟨rfl, h₅⟩)) fun _ _ h' => h'.elim)) fun _ _ h' => h'))

section
variable {X : Cx} {tg iter elt : Expr} {ifs : List Expr} {scope : Scope} {N' : List Str} {js : List (Option Nat)} {wi : TI} {g : TG} {tc : TT} {te : TE} {pos : Pos}
/-- the block runs, and may be left -/
theorem comp_blockX {pins : List (Addr × Obj)} {σ : St} {H : Hp} {s : Shared} {E : Value → Shared → Prop} {E0 : XK} {it : Addr} {fp : List Addr} {tn : Nat → Heap → Prop} {J : It} {fin : List V → Hp → Prop} {RR : Value → Addr → Result → Shared → Prop}
    (hcalm : X.calm = true) (S : CompScope X.env.scope X.N scope N' js)
    (hg : ∀ cl C s H ex, PG (cxComp X scope N' cl C s H ex) tg g) (hc : ∀ cl C s H ex, PIfs (cxComp X scope N' cl C s H ex) ifs tc) (he : ∀ cl C s H ex, PE (cxCompX X scope N' E0 cl C s H ex) elt te)
    (I : Inv X pins σ H s) (T : Turn X.prog X.w X.K tg J fp it tn) (st : tn 0 s.heap) (hf : ∀ b ∈ fp, FpOk X pins H b) (L : LCr J H (capS js σ) g tc te fin)
    (hRR : ∀ (D C : Addr) (oC : Obj) (m : Str → Option Value) (H' : Hp) (ys : List V) (s' : Shared), fin ys H' → H' D = none → s.heap.objs.size ≤ C → s'.heap.get? C = some oC → (∀ h'' : Heap, h''.get? C = some oC → h''.Ns C m) → C ≠ D → H' C = none →
      Inv X (pins ++ [(C, oC)]) σ (upd H' D (.lst ys)) s' → RR (.ref D) C (.ok .next) s')
    (hRE : ∀ (acc : Value) (C : Addr) (e : Value) (s' : Shared), s.heap.objs.size ≤ C → XEc X scope N' E0 (clOf X.env.cells scope.names) C s H fp e s' → notedBy (model X.prog X.w) X.A (compEnvC scope (clOf X.env.cells scope.names) C X.env) (fun x s'' => RR acc C (.error x) s'') e s') :
    wpAny (model X.prog X.w) X.A (newList []) (fun acc s₃ => wpAny (model X.prog X.w) X.A (newFunctionEnv scope X.env.globals (clOf X.env.cells scope.names) [] X.env.qual none .none (some X.env)) (fun cenv s₄ =>
      codeAny (model X.prog X.w) X.A (.compStart (.ListComp elt [⟨tg, iter, ifs, 0⟩] scope pos) 0 (.ref it) acc { cenv with scope := relabel scope X.env }) (RR acc cenv.locals) s₄) E s₃) E s := by
  refine wpAny_newObj_type (wpAny_newFunctionEnv S.cell (by intro y hy; simp at hy) (fun h₁ hns₁ hsb₁ => ?_) S.kind)
  dsimp only at hns₁ hsb₁ ⊢
  generalize hH2 : s.heap.push { cls := .type "list", dict := none, data := .seq ([] : List Value).toArray } = H2 at hns₁ hsb₁ ⊢
  have hC : H2.objs.size = s.heap.objs.size + 1 := by rw [← hH2, Heap.size_push]
  have hDC : s.heap.objs.size ≠ H2.objs.size := by rw [hC]; exact Nat.ne_of_lt (Nat.lt_succ_self _)
  have hCle : s.heap.objs.size ≤ H2.objs.size := by rw [hC]; exact Nat.le_succ _
  have old : ∀ b o, s.heap.get? b = some o → h₁.get? b = some o := fun b o e => hsb₁.extBut b o (by rw [hC]; exact Nat.ne_of_lt (Nat.lt_succ_of_lt (Heap.lt_size e))) (Heap.get?_push_of_some _ (hH2 ▸ Heap.get?_push_of_some _ e))
  have hacc : h₁.get? s.heap.objs.size = some (lstO []) := hsb₁.extBut _ _ hDC (Heap.get?_push_of_some _ (hH2 ▸ Heap.get?_push_size _ rfl))
  have fpo : ∀ b ∈ fp, ∃ o, s.heap.get? b = some o := fun b hb => let ⟨o, e, _⟩ := T.obj _ _ st b hb; ⟨o, e⟩
  have fplt : ∀ b ∈ fp, b < s.heap.objs.size := fun b hb => let ⟨o, e⟩ := fpo b hb; Heap.lt_size e
  obtain ⟨W, ⟨m0, w0⟩, turn⟩ := L
  generalize hs5 : ({ s with heap := h₁, toks := s.toks + ([] : List (Str × Value)).length } : Shared) = s5
  have I5 : Inv (cxComp X scope N' (clOf X.env.cells scope.names) H2.objs.size s H fp) [(s.heap.objs.size, lstO [])] (capS js σ) H s5 := by
    subst hs5
    exact comp_start I S hf fpo hCle (Nat.le_refl _) hDC old (by simpa using hns₁) hacc (fun v z => by cases z)
  have st5 : tn 0 s5.heap := by
    subst hs5
    exact T.keep _ _ _ st fun b hb o e => old b o e
  have stat : ∀ {H' : Hp} {its : List Value}, (∀ b ∈ fp, H' b = none) → ∀ b ∈ fp, FpOk (cxComp X scope N' (clOf X.env.cells scope.names) H2.objs.size s H fp) [(s.heap.objs.size, lstO its)] H' b := fun {H' its} hn b hb => by
    obtain ⟨f0, f1, f2, f3, f4, f5⟩ := hf b hb
    have ok := comp_ok (C := H2.objs.size) I S hf fpo hCle
    refine ⟨hn b hb, (ok.exf b hb).1, ok.exfs b hb, .inl hb, (ok.exf b hb).2, fun p hp => ?_⟩
    have e : p = (s.heap.objs.size, lstO its) := List.mem_singleton.mp (show p ∈ [(s.heap.objs.size, lstO its)] from hp)
    rw [e]
    exact Nat.ne_of_gt (fplt b hb)
  have loop : codeAny (model X.prog X.w) X.A (.compLoop (.ListComp elt [⟨tg, iter, ifs, 0⟩] scope pos) 0 (.ref it) (.ref s.heap.objs.size) (compEnvC scope (clOf X.env.cells scope.names) H2.objs.size X.env)) (RR (.ref s.heap.objs.size) H2.objs.size) s5 := by
    refine compLoop_goX (fun n s' => ∃ i H' ys its, Inv (cxComp X scope N' (clOf X.env.cells scope.names) H2.objs.size s H fp) [(s.heap.objs.size, lstO its)] (capS js σ) H' s' ∧ Vals ys its ∧ ys.length ≤ sizeLine ∧ tn i s'.heap ∧ (∀ b ∈ fp, H' b = none) ∧ W i n ys H') ?_ m0
      ⟨0, H, [], [], I5, .nil, Nat.zero_le _, st5, fun b hb => (hf b hb).1, w0⟩
    rintro n s3 ⟨i, H3, ys, its, I3, rv, hz, st3, fr3, w3⟩
    rcases turn i n ys H3 w3 with ⟨stop, qn⟩ | ⟨go, hlt, N, hN, step⟩
    · refine thn (T.done (cxComp X scope N' (clOf X.env.cells scope.names) H2.objs.size s H fp) rfl rfl rfl hcalm i _ s3 _ H3 _ I3 (stat fr3) st3 stop) fun r s4 ⟨hr, I4⟩ => ?_
      subst hr
      obtain ⟨oC, m, e1, e2, e3, e4, I6⟩ := comp_end I hf hCle (Nat.le_refl _) I4 rv hz
      exact hRR _ _ oC m H3 ys s4 qn e3 hCle e1 e4 (Ne.symm hDC) I4.free I6
    · refine thn (T.item (cxComp X scope N' (clOf X.env.cells scope.names) H2.objs.size s H fp) rfl rfl rfl hcalm i _ s3 _ H3 _ I3 (stat fr3) st3 go) fun r s4 ⟨u, hr, h4⟩ => ?_
      subst hr
      refine thn h4 fun _ s5' ⟨x, H5, I5', r5, y5, st5', fr5⟩ => ?_
      have I5'' := I5'.pinned (stat fr5) (T.obj _ _ st5')
      refine thn (hg _ _ _ _ _ _ s5' _ H5 x u _ I5'' r5 (step x H5 y5)) fun _ s6 ⟨σ6, H6, I6, sub6, q6⟩ => ?_
      refine thn (hc _ _ _ _ _ _ s6 σ6 H6 _ I6 q6) fun ok s7 ⟨H7, I7, q7⟩ => ?_
      have back : ∀ {σ7 : St} {H7 : Hp} {s7 : Shared}, Inv (cxComp X scope N' (clOf X.env.cells scope.names) H2.objs.size s H fp) ([(s.heap.objs.size, lstO its)] ++ pinsAt fp s5'.heap) σ7 H7 s7 → σ7.length = (capS js σ).length ∧ tn (i + 1) s7.heap ∧ ∀ b ∈ fp, H7 b = none := fun {σ7 H7 s7} I7 =>
        ⟨by rw [I7.len, I3.len], T.keep _ _ _ st5' fun b hb o e => (I7.pin (b, o) (List.mem_append_right _ (List.mem_append_right _ (mem_pinsAt hb e)))).1, fun b hb => by
          obtain ⟨o, e, d⟩ := T.obj _ _ st5' b hb
          exact (I7.pin (b, o) (List.mem_append_right _ (List.mem_append_right _ (mem_pinsAt hb e)))).2.1⟩
      have down : ∀ {H7 : Hp} {s7 : Shared}, Inv (cxComp X scope N' (clOf X.env.cells scope.names) H2.objs.size s H fp) ([(s.heap.objs.size, lstO its)] ++ pinsAt fp s5'.heap) σ6 H7 s7 →
          Inv (cxComp X scope N' (clOf X.env.cells scope.names) H2.objs.size s H fp) [(s.heap.objs.size, lstO its)] (capS js σ) H7 s7 := fun {H7 s7} I7 => I7.unpinned.weak (back I7).1.symm sub6
      cases ok with
      | false =>
        rw [if_neg Bool.false_ne_true]
        rw [if_neg Bool.false_ne_true] at q7
        obtain ⟨m', hm, w7⟩ := hN _ _ q7
        obtain ⟨b1, b2, b3⟩ := back I7
        exact ⟨m', hm, i + 1, H7, ys, its, down I7, rv, hz, b2, b3, w7⟩
      | true =>
        rw [if_pos rfl]
        rw [if_pos rfl] at q7
        refine wpAny_mono (he _ _ _ _ _ _ s7 σ6 H7 _ (I7.wish _) q7) (fun y s8 ⟨v8, H8, I8w, r8, q8⟩ => ?_) fun e s' z => hRE _ _ e s' hCle z
        have I8 := I8w.unwish
        obtain ⟨m', hm, w8⟩ := hN _ _ q8
        obtain ⟨b1, b2, b3⟩ := back I8
        have I9 := down I8
        obtain ⟨gD, nD, neD, nfD, dD⟩ := I9.pin (s.heap.objs.size, lstO its) (List.mem_append_right _ (List.mem_singleton.mpr rfl))
        have hlen := rv.length
        refine append_at (hsz := by show its.toArray.size ≤ sizeLine; rw [List.size_toArray]; omega) gD fun h₉ hs₉ hD₉ => ?_
        have I10 : Inv (cxComp X scope N' (clOf X.env.cells scope.names) H2.objs.size s H fp) [] (capS js σ) H8 { s8 with heap := h₉ } :=
          (I9.pins_of (pins' := []) fun p hp => nomatch hp).turned (t' := s8.toks) (fun b o hb e => hs₉.extBut b o hb e) nD neD (.inr (Nat.le_refl _)) (fun x c e z => by
            obtain ⟨v, o, ho, hd⟩ := I9.cell x c e
            have gD' : s8.heap.get? s.heap.objs.size = some (lstO its) := gD
            rw [z, gD'] at ho
            cases ho
            exact dD v hd) fun p hp => absurd (show p ∈ ([] : List (Addr × Obj)) from hp) (by simp)
        have eD : h₉.get? s.heap.objs.size = some (lstO (its ++ [y])) := by
          rw [hD₉]
          show some ({ cls := .type "list", data := .seq (its.toArray.push y) (its.length + 1) } : Obj) = some { cls := .type "list", data := .seq (its ++ [y]).toArray (its ++ [y]).length }
          rw [List.length_append, List.length_singleton, List.push_toArray]
        refine ⟨m', hm, i + 1, H8, ys ++ [v8], its ++ [y], I10.pins_of fun p hp => ?_, rv.append (.cons r8 .nil), by rw [List.length_append, List.length_singleton]; omega, T.keep _ _ _ b2 fun b hb o e => hs₉.extBut b o (Nat.ne_of_lt (fplt b hb)) e, b3, w8⟩
        have e := List.mem_singleton.mp hp
        subst e
        exact ⟨eD, nD, neD, nfD, fun v z => by cases z⟩
  have loop' : codeAny (model X.prog X.w) X.A (.compLoop (.ListComp elt [⟨tg, iter, ifs, 0⟩] scope pos) 0 (.ref it) (.ref s.heap.objs.size) { newEnv scope H2.objs.size X.env.globals (clOf X.env.cells scope.names) X.env.qual none .none (some X.env) builtinsNs with scope := relabel scope X.env }) (RR (.ref s.heap.objs.size) H2.objs.size) s5 := loop
  exact codeAny_compStart_list loop' (T.self X.A 0 s5 _ _ st5 loop')

end
section
variable {P : Program} {w : World} {K : PySem.W.Frag} {mg : Str → Option Value} {base : Heap} {N : List Str} {qual : Str} {sc : Scope} {f : Addr} {cdv : Value} {A : Around} {outer : List Env} {s0 : Shared} {H0 : Hp} {E : XK}
variable {tg iter elt : Expr} {ifs : List Expr} {scope : Scope} {N' : List Str} {js : List (Option Nat)} {wi : TI} {g : TG} {tc : TT} {te : TE} {pos : Pos}
/-- [elt for tg in iter if ..] in a def that an exception may leave -/
theorem pe_lcX (S : CompScope (cxOf (CX1 P w) P w K mg base N qual sc f cdv A outer s0 H0 E).env.scope (cxOf (CX1 P w) P w K mg base N qual sc f cdv A outer s0 H0 E).N scope N' js) (hi : PI (cxOf (CX1 P w) P w K mg base N qual sc f cdv A outer s0 H0 E) tg iter wi)
    (hg : ∀ cl C s H ex, PG (cxComp (cxOf (CX1 P w) P w K mg base N qual sc f cdv A outer s0 H0 E) scope N' cl C s H ex) tg g) (hc : ∀ cl C s H ex, PIfs (cxComp (cxOf (CX1 P w) P w K mg base N qual sc f cdv A outer s0 H0 E) scope N' cl C s H ex) ifs tc) (he : ∀ cl C s H ex, PE (cxCompX (cxOf (CX1 P w) P w K mg base N qual sc f cdv A outer s0 H0 E) scope N' E cl C s H ex) elt te)
    (hs : ∀ x, foldedSetIterable iter (cxOf (CX1 P w) P w K mg base N qual sc f cdv A outer s0 H0 E).env x = pure x := by intro _; rfl) : PE (cxOf (CX1 P w) P w K mg base N qual sc f cdv A outer s0 H0 E) (.ListComp elt [⟨tg, iter, ifs, 0⟩] scope pos) (tLC wi js g tc te) := by
  intro pins s σ H Q I h
  rw [eval_ListComp]
  refine wpAny_comprehension_free (use := none) rfl hs (closure_is (comp_cells I S).1) S.kind S.names ?_
  refine thn (hi pins s σ H _ I h) fun xv s₁ h₁ => thn h₁ fun itv s₂ h₂ => ?_
  obtain ⟨it, fp, tn, J, H2, e, I2, T, st2, f2, L⟩ := h₂
  subst e
  refine comp_blockX (RR := fun acc C => compPost (model P w) (cxOf (CX1 P w) P w K mg base N qual sc f cdv A outer s0 H0 E).A (cxOf (CX1 P w) P w K mg base N qual sc f cdv A outer s0 H0 E).xe none (EP (cxOf (CX1 P w) P w K mg base N qual sc f cdv A outer s0 H0 E) pins σ Q) acc C) rfl S hg hc he I2 T st2 f2 L (fun D C oC m H' ys s' fn hD hCle gC hNs hCD nC I' => ?_) fun acc C e s' hCle z => comp_err I2 f2 hCle z
  refine ⟨m, hNs _ gC, fun h'' hs'' => ?_⟩
  have I3 : Inv (cxOf (CX1 P w) P w K mg base N qual sc f cdv A outer s0 H0 E) pins σ (upd H' D (.lst ys)) s' := I'.unpinned
  obtain ⟨_, _, pL, pfs, _⟩ := I'.pin (C, oC) (List.mem_append_right _ (List.mem_append_right _ (List.mem_singleton.mpr rfl)))
  have I4 : Inv (cxOf (CX1 P w) P w K mg base N qual sc f cdv A outer s0 H0 E) pins σ (upd H' D (.lst ys)) { s' with heap := h'' } := I3.turned (t' := s'.toks) (it := C) (fun b o hb e => hs''.extBut b o hb e) (by rw [upd_ne hCD]; exact nC) pL (.inr (Nat.le_trans I2.sz hCle)) (fun x c e z => by
    obtain ⟨v, o, ho, hd⟩ := I2.cell x c e
    exact absurd (Nat.lt_of_lt_of_le (Heap.lt_size ho) (by rw [z]; exact hCle)) (Nat.lt_irrefl _)) fun p hp z => by
    have q := (I2.pin p hp).1
    exact absurd (Nat.lt_of_lt_of_le (Heap.lt_size q) (by rw [z]; exact hCle)) (Nat.lt_irrefl _)
  exact ⟨.ref D, _, I4, rfl, fn D hD⟩
end
end L2

set_option Elab.async false
set_option linter.all false
set_option maxRecDepth 100000
/-! a part of a text (only its length is told); text.find; a for over a text -/
namespace L2
open PySem PySem.Spec PyProof.Rows
section
variable {X : Cx}
end
end L2

set_option Elab.async false
set_option linter.all false
set_option maxRecDepth 100000
namespace L2
open PySem PySem.Spec PyProof.Rows
section
variable {P : Program} {w : World} {K : PySem.W.Frag} {mg : Str → Option Value} {base : Heap} {N : List Str} {qual : Str} {sc : Scope} {f : Addr} {cdv : Value} {A : Around} {outer : List Env} {s0 : Shared} {H0 : Hp} {E : XK}
variable {tg iter elt : Expr} {ifs : List Expr} {scope : Scope} {N' : List Str} {js : List (Option Nat)} {wi : TI} {g : TG} {tc : TT} {te : TE} {pos : Pos}
theorem zpe_lcX (S : CompScope (cxOf (CX1 P w) P w K mg base N qual sc f cdv A outer s0 H0 E).env.scope (cxOf (CX1 P w) P w K mg base N qual sc f cdv A outer s0 H0 E).N scope N' js) (hi : YPI (cxOf (CX1 P w) P w K mg base N qual sc f cdv A outer s0 H0 E) tg iter wi)
    (hg : ∀ cl C s H ex, YPG (cxComp (cxOf (CX1 P w) P w K mg base N qual sc f cdv A outer s0 H0 E) scope N' cl C s H ex) tg g) (hc : ∀ cl C s H ex, YPIfs (cxComp (cxOf (CX1 P w) P w K mg base N qual sc f cdv A outer s0 H0 E) scope N' cl C s H ex) ifs tc) (he : ∀ cl C s H ex, YPE (cxCompX (cxOf (CX1 P w) P w K mg base N qual sc f cdv A outer s0 H0 E) scope N' E cl C s H ex) elt te)
    (hs : ∀ x, foldedSetIterable iter (cxOf (CX1 P w) P w K mg base N qual sc f cdv A outer s0 H0 E).env x = pure x := by intro _; rfl) : YPE (cxOf (CX1 P w) P w K mg base N qual sc f cdv A outer s0 H0 E) (.ListComp elt [⟨tg, iter, ifs, 0⟩] scope pos) (tLC wi js g tc te) :=
  ⟨pe_lcX S hi.o (fun cl C s H ex => (hg cl C s H ex).o) (fun cl C s H ex => (hc cl C s H ex).o) (fun cl C s H ex => (he cl C s H ex).o) hs⟩
end
end L2

set_option Elab.async false
set_option linter.all false
set_option maxRecDepth 100000
/-! a try whose handler takes no name -/
namespace L2
open PySem PySem.Spec PyProof.Rows
section
variable {X : Cx} {body suite : List Stmt} {b₀ : Stmt} {Ln : Str} {np hpos pos : Pos} {aL : Addr} {tb : St → XK → TS} {th : TS}
/-- try: body / except Ln: suite -/
def tTryN (K : PySem.W.Frag) (aL : Addr) (tb : St → XK → TS) (th : TS) : TS := fun D σ H =>
  tb σ (fun Cv _ H2 => ∃ C, Cv = .ref C ∧ PySem.W.subIn K (.ref C) (.ref aL) = some true ∧ th D σ H2) D σ H
theorem ps_tryN (hcalm : X.calm = true) (hstk : X.stack = X.env :: X.outer) (hfr : X.env.frame = some X.env.locals)
    (hg : Gl X Ln) (hm : X.mg Ln = some (.ref aL)) (cl : CatchC X.K aL) (hb : ∀ pins σ E1, PSs (cxTry X pins σ E1) body (tb σ E1)) (hs : ∀ a, PSs (cxHand X a) (b₀ :: suite) th) (hd : (Ln == ("__debug__" : Str)) = false := by decide) :
    PS X (.Try body [.ExceptHandler (some (.Name Ln np)) none (b₀ :: suite) hpos] [] [] pos) (tTryN X.K aL tb th) := by
  intro pins s σ H D I h
  refine wpAny_Try_except (wpAny_mono (hb pins σ _ [] s σ H D I.inTry h) (fun f s1 q => ?_) fun e s1 q => ?_)
  · have q' := SP.outTry q
    cases f with
    | next => exact wpAny_execs_nil q'
    | brk => exact q'
    | cont => exact q'
    | ret u => exact q'
  · obtain ⟨a, C, t, B, H', rfl, J, fly, trk, all, pb, C', eC, hsub, hth⟩ := q
    cases eC
    rw [hstk] at fly
    refine wpAny_looks_onW (L := X.env.locals) (outer := X.outer) (by rw [J.ok.frames, hstk]) hfr fly fun h4 held sl4 => ?_
    refine wpAny_landsW held fun h5 fly5 sl5 => ?_
    have J5 : Inv X pins σ H' { s1 with heap := h5 } := J.flown (t' := s1.toks) fly.1 fly5.1 (sl4.trans sl5) trk all pb
    have J5h : Inv (cxHand X a) pins σ H' { s1 with heap := h5 } := J5.inHand
    refine wpAny_handleBy_cons (codeAny_handlers_test ?_) (by intro q; cases q)
    refine ld_glob (X := cxHand X a) J5h hg hm ?_ hd
    refine exc_matches J5.kIn cl fly5.there hsub (codeAny_handlers_suite ?_)
    refine lands_againW fly5 fun h6 fly6 sl6 => ?_
    have J6 : Inv X pins σ H' { s1 with heap := h6 } := J5.flown (t' := s1.toks) fly5.1 fly6.1 sl6 trk all pb
    refine wpAny_mono (hs a pins _ _ _ _ J6.inHand hth) (fun f s9 q9 => ?_) fun _ _ z => False.elim z
    cases f with
    | next => obtain ⟨σ9, H9, I9, q⟩ := q9; exact ⟨_, _, Inv.outHand I.ok I9, q⟩
    | brk => obtain ⟨σ9, H9, I9, q⟩ := q9; exact ⟨_, _, Inv.outHand I.ok I9, q⟩
    | cont => obtain ⟨σ9, H9, I9, q⟩ := q9; exact ⟨_, _, Inv.outHand I.ok I9, q⟩
    | ret u => obtain ⟨v, σ9, H9, I9, r, q⟩ := q9; exact ⟨v, _, _, Inv.outHand I.ok I9, r, q⟩
end
end L2

set_option Elab.async false
set_option linter.all false
set_option maxRecDepth 100000
/-! list(d), list(d.values()) of a dict by ints -/
namespace L2
open PySem PySem.Spec PyProof.Rows
section
variable {prog : Program} {w : World} {A : Around} {E : Value → Shared → Prop} {s : Shared} {r : Addr}
theorem hint_dict {Q : Bool → Shared → Prop} (hT : s.TypeIs (.ref r) "dict") (h : Q false s) : wpAny (model prog w) A (Builtin.List.listLengthHint (.ref r)) Q E s := by
  unfold Builtin.List.listLengthHint
  refine wpAny_bind (wpAny_specialOf hT F.slot_dict_len.lookup ?_)
  generalize hid : ("dict.__len__" : String) = id0
  wp_delta
  rw [show splitId id0 = some ("dict", "__len__") from by subst hid; decide +kernel]
  subst hid
  refine wpAny_bind (wpAny_isInstance (T := "dict") (b := true) hT (by rw [isSubtype_type]; kernel_rfl) ?_)
  refine wpAny_ite_split (fun z => absurd z (by decide)) (fun _ => ?_)
  refine wpAny_ite_split (fun _ => ?_) (fun z => absurd (by decide +kernel) z)
  exact wpAny_bind (wpAny_typeOf hT (wpAny_pure h))
theorem hint_values {Q : Bool → Shared → Prop} (hT : s.TypeIs (.ref r) "dict_values") (h : Q false s) : wpAny (model prog w) A (Builtin.List.listLengthHint (.ref r)) Q E s := by
  unfold Builtin.List.listLengthHint
  refine wpAny_bind (wpAny_specialOf hT F.slot_dict_values_len.lookup ?_)
  generalize hid : ("dict_values.__len__" : String) = id0
  wp_delta
  rw [show splitId id0 = some ("dict_values", "__len__") from by subst hid; decide +kernel]
  subst hid
  refine wpAny_bind (wpAny_isInstance (T := "dict_values") (b := true) hT (by rw [isSubtype_type]; kernel_rfl) ?_)
  refine wpAny_ite_split (fun z => absurd z (by decide)) (fun _ => ?_)
  refine wpAny_ite_split (fun _ => ?_) (fun z => absurd (by decide +kernel) z)
  exact wpAny_bind (wpAny_typeOf hT (wpAny_pure h))

/-- what list() wants of what it goes through -/
structure Listed (prog : Program) (w : World) (s : Shared) (r : Addr) (T : String) (I : Addr) (oI : Obj) (fp : List Addr) (n : Nat) (Pi : Nat → Value → Prop) (St : Nat → Heap → Prop) : Prop where
  ty : ∀ s' : Shared, (∀ b o, s.heap.get? b = some o → s'.heap.get? b = some o) → s'.TypeIs (.ref r) T
  nl : (Value.type T == Value.type "list") = false
  nt : (Value.type T == Value.type "tuple") = false
  iter : ∀ (A : Around) (Q : Value → Shared → Prop) (E : Value → Shared → Prop) (s' : Shared), (∀ b o, s.heap.get? b = some o → s'.heap.get? b = some o) → s'.heap.objs.size = I → Q (.ref I) { s' with heap := s'.heap.push oI } → wpAny (model prog w) A (pyIter (.ref r)) Q E s'
  hint : ∀ (A : Around) (Q : Bool → Shared → Prop) (E : Value → Shared → Prop) (s' : Shared), s'.TypeIs (.ref r) T → Q false s' → wpAny (model prog w) A (Builtin.List.listLengthHint (.ref r)) Q E s'
  walk : ∀ A : Around, A.handled = none → Walks prog w A I fp [I] n Pi St
  start : ∀ h : Heap, (∀ b o, s.heap.get? b = some o → h.get? b = some o) → h.get? I = some oI → St 0 h
  few : n ≤ sizeLine
  fpo : ∀ b ∈ fp, b = I ∨ b < s.heap.objs.size
  rI : I = s.heap.objs.size + 1
theorem list_init_walk {R : Result → Shared → Prop} {T : String} {I : Addr} {oI : Obj} {fp : List Addr} {n : Nat} {Pi : Nat → Value → Prop} {St : Nat → Heap → Prop} {s0 : Shared} (L : Listed prog w s0 r T I oI fp n Pi St) (hh : A.handled = none) (hr : r < s0.heap.objs.size) (fI : oI.isFreed = false)
    (old : ∀ b o, s0.heap.get? b = some o → s.heap.get? b = some o) (sz : s.heap.objs.size = I) (hS : s.heap.get? s0.heap.objs.size = some { cls := .type "list", data := .seq #[] })
    (hR : ∀ h' tk acc' c', (∀ b o, b ≠ s0.heap.objs.size → s.heap.get? b = some o → h'.get? b = some o) → h'.get? s0.heap.objs.size = some { cls := .type "list", dict := none, data := .seq acc' c', slots := #[] } → ItemsOf Pi acc' n → R (.ok (.ret .none)) { s with heap := h', toks := tk }) :
    wpAny (model prog w) A.in1 (Builtin.«list.__init__» ⟨[.ref s0.heap.objs.size, .ref r], []⟩)
      (fun fin s' => match fin with | .done f => R (.ok f) s' | .again c' => c'.quiet = true ∧ codeAny (model prog w) A c' R s') (fun e s' => R (.error e) s') s := by
  generalize hSe : s0.heap.objs.size = S at *
  have hSr : S ≠ r := fun z => absurd hr (by rw [z]; exact Nat.lt_irrefl _)
  have hSI : S ≠ I := by rw [L.rI, hSe]; exact Nat.ne_of_lt (Nat.lt_succ_self _)
  have hSf : S ∉ fp := fun z => by
    rcases L.fpo S z with q | q
    · exact hSI q
    · rw [hSe] at q; exact absurd q (Nat.lt_irrefl _)
  have W := (L.walk A.in1 hh).toS
  have key : ∀ (h : Heap) (c₁ tk : Nat), (∀ b o, s0.heap.get? b = some o → h.get? b = some o) → h.get? I = some oI → (∀ b o, b ≠ S → s.heap.get? b = some o → h.get? b = some o) →
      h.get? S = some { cls := .type "list", data := .seq #[] c₁ } → codeAny (model prog w) A (.builtin "list.extend.loop" ⟨[.ref S, .ref I, .none], []⟩) R { s with heap := h, toks := tk } := by
    intro h c₁ tk hk0 hI hk hS₁
    refine codeAny_extend_loopS W L.few S hSf .none n 0 _ #[] c₁ rfl (Nat.zero_le _) (L.start h hk0 hI) hS₁ (ItemsOf.nil _) fun s' acc' c' hm hS' hacc => ?_
    rw [Moved.eq_with hm]
    refine hR s'.heap s'.toks acc' c' (fun b o hb e => hm.heap b o (fun hmem => ?_) (hk b o hb e)) hS' hacc
    rcases List.mem_cons.mp hmem with e' | hmem
    · exact hb e'
    · exact absurd (Heap.lt_size e) (by rw [List.mem_singleton.mp hmem, sz]; exact Nat.lt_irrefl _)
  show wpAny _ _ (do let old ← Builtin.List.listItems (.ref S); Builtin.List.listUpdate (.ref S) (fun _ => #[]); letGo old.toList.reverse; Builtin.List.listExtendWith (.ref S) (.ref r) .none) _ _ s
  refine wpAny_bind ?_
  unfold Builtin.List.listItems
  refine wpAny_bind (wpAny_seqItems hS rfl (wpAny_pure ?_))
  show wpAny _ _ (updateSeq S (fun _ => #[]) >>= fun _ => letGo (#[] : Array Value).toList.reverse >>= fun _ => Builtin.List.listExtendWith (.ref S) (.ref r) .none) _ _ s
  refine wpAny_bind (wpAny_updateSeq hS rfl ?_)
  have hS₂ := Heap.get?_update_self (Obj.mapSeq (fun _ => (#[] : Array Value))) hS rfl
  have oth : ∀ b o, b ≠ S → s.heap.get? b = some o → (s.heap.update S (Obj.mapSeq (fun _ => (#[] : Array Value)))).get? b = some o := fun b o hb e => (Heap.get?_update_other _ _ (Ne.symm hb)).trans e
  have sz₂ : (s.heap.update S (Obj.mapSeq (fun _ => (#[] : Array Value)))).objs.size = I := by rw [← sz]; exact (Heap.SameBut.update s.heap S _).1
  refine wpAny_bind (wpAny_letGo ?_)
  generalize s.heap.update S (Obj.mapSeq (fun _ => (#[] : Array Value))) = h2 at *
  have old2 : ∀ b o, s0.heap.get? b = some o → h2.get? b = some o := fun b o e => oth b o (fun z => absurd (Heap.lt_size e) (by rw [z, hSe]; exact Nat.lt_irrefl _)) (old b o e)
  unfold Builtin.List.listExtendWith
  refine wpAny_bind (wpAny_typeOf (L.ty { s with heap := h2 } old2) ?_)
  have h1 : Builtin.List.listSameRef (.ref S) (.ref r) = false := by simp [Builtin.List.listSameRef, hSr]
  simp only [h1, L.nl, L.nt, Bool.or_false, Bool.false_eq_true, if_false]
  refine wpAny_bind (L.iter _ _ _ { s with heap := h2 } old2 sz₂ ?_)
  have old3 : ∀ b o, s0.heap.get? b = some o → (h2.push oI).get? b = some o := fun b o e => Heap.get?_push_of_some _ (old2 b o e)
  have hI3 : (h2.push oI).get? I = some oI := by rw [← sz₂]; exact Heap.get?_push_size _ fI
  refine wpAny_bind (wpAny_holding (L.hint _ _ _ { s with heap := h2.push oI } (L.ty _ old3) ?_))
  have hS₃ := Heap.get?_push_of_some oI hS₂
  refine wpAny_ite_split (fun _ => ?_) (fun _ => wpAny_pure ⟨plainId_quiet F.plain_extend_loop _, key _ _ _ old3 hI3 (fun b o hb e => Heap.get?_push_of_some _ (oth b o hb e)) hS₃⟩)
  refine wpAny_bind (wpAny_rule ?_)
  refine wpAny_bind ?_
  show wpAny _ _ (updateSeq S (·.push .none) >>= fun _ => updateSeq S (·.pop)) _ _ _
  refine wpAny_bind (wpAny_updateSeq hS₃ rfl ?_)
  have hS₄ := Heap.get?_update_self (Obj.mapSeq (·.push Value.none)) hS₃ rfl
  refine wpAny_updateSeq (hz := by seq_fits) hS₄ rfl ?_
  have hS₅ := Heap.get?_update_self (Obj.mapSeq (·.pop)) hS₄ rfl
  have up : ∀ b o, b ≠ S → (h2.push oI).get? b = some o → (((h2.push oI).update S (Obj.mapSeq (·.push Value.none))).update S (Obj.mapSeq (·.pop))).get? b = some o := fun b o hb e =>
    (Heap.get?_update_other _ _ (Ne.symm hb)).trans ((Heap.get?_update_other _ _ (Ne.symm hb)).trans e)
  exact wpAny_pure ⟨plainId_quiet F.plain_extend_loop _, key _ _ _ (fun b o e => up b o (fun z => absurd (Heap.lt_size e) (by rw [z, hSe]; exact Nat.lt_irrefl _)) (old3 b o e)) (up I _ (Ne.symm hSI) hI3) (fun b o hb e => up b o hb (Heap.get?_push_of_some _ (oth b o hb e))) hS₅⟩

theorem call_list_walk {Q : Value → Shared → Prop} {T : String} {I : Addr} {oI : Obj} {fp : List Addr} {n : Nat} {Pi : Nat → Value → Prop} {St : Nat → Heap → Prop} (L : Listed prog w s r T I oI fp n Pi St) (hh : A.handled = none) (hr : r < s.heap.objs.size) (fI : oI.isFreed = false)
    (hQ : ∀ h' tk acc' c', (∀ b o, s.heap.get? b = some o → h'.get? b = some o) → h'.get? s.heap.objs.size = some { cls := .type "list", dict := none, data := .seq acc' c', slots := #[] } → ItemsOf Pi acc' n → Q (.ref s.heap.objs.size) { s with heap := h', toks := tk }) :
    wpAny (model prog w) A (call (.type "list") [.ref r]) Q E s := by
  refine callType_codes (Q₁ := fun ob s1 => ob = .ref s.heap.objs.size ∧ s1 = { s with heap := s.heap.push { cls := .type "list", data := .seq #[] } }) F.called_list (F.typeCall_list_1 _) F.entry_list_init (code_list_new _ ⟨rfl, rfl⟩) fun ob s1 h1 => ?_
  obtain ⟨rfl, rfl⟩ := h1
  have hS : (s.heap.push { cls := .type "list", data := .seq #[] }).get? s.heap.objs.size = some { cls := .type "list", data := .seq #[] } := Heap.get?_push_size _ rfl
  refine ⟨⟨_, hS, rfl⟩, F.args_list_init_2 _ _, list_init_walk (A := A.in1) (s0 := s) L hh hr fI (fun b o e => Heap.get?_push_of_some _ e) (by show (s.heap.push _).objs.size = I; rw [Heap.size_push, L.rI]) hS fun h' tk acc' c' hk hS' hacc => ?_⟩
  exact ⟨rfl, hQ h' tk acc' c' (fun b o e => hk b o (Nat.ne_of_lt (Heap.lt_size e)) (Heap.get?_push_of_some _ e)) hS' hacc⟩
end
section
variable {X : Cx} {K : PySem.W.Frag}
theorem vals_pt : ∀ {xs : List V} {us : List Value}, xs.length = us.length → (∀ (i : Nat) (x : V) (u : Value), xs[i]? = some x → us[i]? = some u → RelV x u) → Vals xs us
  | [], [], _, _ => .nil
  | [], _ :: _, h, _ => by simp at h
  | _ :: _, [], h, _ => by simp at h
  | x :: xs, u :: us, h, k => .cons (k 0 x u rfl rfl) (vals_pt (by simpa using h) fun i y v e1 e2 => k (i + 1) y v (by simpa using e1) (by simpa using e2))
theorem key_rel {k : Key} {v : Value} (h : keyIs k v = true) : RelV (kV k) v := by
  rcases keyIs_shape h with ⟨i, t, rfl, rfl⟩ | ⟨x, t, rfl, rfl⟩
  · exact ⟨t, rfl⟩
  · exact ⟨t, rfl⟩
theorem kv_at : ∀ {kvs : List (Key × V)} {vs : List (Key × Value)} {i : Nat} {p : Key × V} {q : Key × Value}, KV kvs vs → kvs[i]? = some p → vs[i]? = some q → p.1 = q.1 ∧ RelV p.2 q.2
  | _, _, _, _, _, .nil, e, _ => by simp at e
  | _, _, 0, _, _, .cons h _, e1, e2 => by simp at e1 e2; subst e1 e2; exact h
  | _, _, i + 1, p, q, .cons _ t, e1, e2 => kv_at (i := i) t (by simpa using e1) (by simpa using e2)
/-- list(d) -/
theorem call_listD (hc : X.calm = true) : CallR X (.type "list") (fun xs H Q => ∃ a kvs, xs = [.ref a] ∧ H a = some (.dK kvs) ∧ ∀ l, H l = none → Q (.ref l) (upd H l (.lst (kvs.map fun p => kV p.1)))) := by
  intro pins s σ H xs us Q I r h
  obtain ⟨a, kvs, rfl, ha, q⟩ := h
  obtain ⟨u, rfl, rx⟩ := vals1 r
  cases rx
  obtain ⟨z, nm, vs, rel, dd⟩ := dk_of I.hok ha
  obtain ⟨ep, da⟩ := dd.dictAt
  have hl := rel.length
  have alt := da.lt_size
  have L : Listed X.prog X.w s a "dict" (s.heap.objs.size + 1) { cls := .type "dict_keyiterator", data := .fields #[.ref a, .int 0 0, .int vs.length 0, .int ep 0] } [s.heap.objs.size + 1, a] vs.length
      (fun i v => ∃ k x, vs[i]? = some (k, x) ∧ (mixKind X.prog X.w).is k v = true) (fun i h => h.IsKeyIter (s.heap.objs.size + 1) a i vs.length ep ∧ h.DictAt (mixKind X.prog X.w) a vs ep) :=
    { ty := fun s' k => (da.keep k).dictOf.typeIs
      nl := by decide
      nt := by decide
      iter := fun A Q E s' k e hq => wpAny_pyIter_dict nm (da.keep k) (by rw [e]; exact hq)
      hint := fun A Q E s' hT hq => hint_dict hT hq
      walk := fun A hh => Walks.dictKeys hh _ _ (Nat.ne_of_lt (Nat.lt_succ_of_lt alt)) vs ep
      start := fun h k e => ⟨⟨_, e, rfl, rfl⟩, da.keep k⟩
      few := by omega
      fpo := fun b hb => by
        rcases List.mem_cons.mp hb with e | hb
        · exact .inl e
        · rw [List.mem_singleton.mp hb]; exact .inr alt
      rI := rfl }
  refine call_list_walk L (I.ok.hd hc) alt rfl fun h' tk acc' c' kp e it => ?_
  refine ⟨.ref s.heap.objs.size, _, I.laid (t' := tk) kp (Nat.le_refl _) (show ObjOk X.prog X.w _ h' _ (.lst (kvs.map fun p => kV p.1)) from ⟨by rw [List.length_map]; exact z, acc'.toList, c', vals_pt ?_ ?_, by simpa using e⟩), rfl, q _ (I.hok.fresh (Nat.le_refl _))⟩
  · have := it.1
    rw [List.length_map, hl, ← this]
    simp
  · intro i x u e1 e2
    obtain ⟨k, y, e3, e4⟩ := it.2 i u (by simpa using e2)
    rw [List.getElem?_map] at e1
    cases e5 : kvs[i]? with
    | none => rw [e5] at e1; cases e1
    | some p =>
      rw [e5] at e1
      cases e1
      have e6 : p.1 = k := by
        have e7 := congrArg (fun l : List Key => l[i]?) rel.keys
        simp only [List.getElem?_map, e5, e3, Option.map_some] at e7
        exact Option.some.inj e7
      show RelV (kV p.1) u
      rw [e6]
      exact key_rel e4
/-- the values of a dict, looked at through a view -/
def viewO (v d : Addr) : HO := .ext fun h => h.IsValuesView v d
theorem view_ok {P : Program} {w : World} {H : Hp} {h : Heap} {v d : Addr} (x : h.IsValuesView v d) : ObjOk P w H h v (viewO v d) := by
  obtain ⟨o, e, r⟩ := id x
  exact ⟨x, ⟨o, e⟩, fun h1 h2 ⟨o1, e1, r1⟩ k => ⟨o1, k o1 e1, r1⟩⟩
/-- d.values() -/
theorem mt_values : MtR X "dict.values" (fun x vs H Q => ∃ a kvs, x = .ref a ∧ vs = [] ∧ H a = some (.dK kvs) ∧ ∀ p, H p = none → Q (.ref p) (upd H p (viewO p a))) := by
  intro pins s σ H x vs v us Q I rx rv h
  obtain ⟨a, kvs, rfl, rfl, ha, q⟩ := h
  cases rx
  cases rv
  obtain ⟨z, nm, ws, rel, dd⟩ := dk_of I.hok ha
  refine call_meetsIn F.slot_dict_values dd.typeIs F.entry_dict_values (F.args_dict_values_1 _) (meets_dict_values (mixKind X.prog X.w) a nm) ⟨⟨ws, dd⟩, ?_⟩
  exact ⟨.ref s.heap.objs.size, _, I.laid (t' := s.toks) (fun b o e => Heap.get?_push_of_some _ e) (Nat.le_refl _) (view_ok ⟨_, Heap.get?_push_size _ rfl, rfl, rfl⟩), rfl, q _ (I.hok.fresh (Nat.le_refl _))⟩
/-- list(d.values()) -/
theorem call_listV (hc : X.calm = true) : CallR X (.type "list") (fun xs H Q => ∃ p a kvs, xs = [.ref p] ∧ H p = some (viewO p a) ∧ H a = some (.dK kvs) ∧ ∀ l, H l = none → Q (.ref l) (upd H l (.lst (kvs.map (·.2))))) := by
  intro pins s σ H xs us Q I r h
  obtain ⟨p, a, kvs, rfl, hp, ha, q⟩ := h
  obtain ⟨u, rfl, rx⟩ := vals1 r
  cases rx
  obtain ⟨z, nm, vs, rel, dd⟩ := dk_of I.hok ha
  obtain ⟨ep, da⟩ := dd.dictAt
  have hl := rel.length
  have alt := da.lt_size
  obtain ⟨vw, _, _⟩ : ObjOk X.prog X.w H s.heap p (viewO p a) := I.hok p _ hp
  have vw : s.heap.IsValuesView p a := vw
  have plt : p < s.heap.objs.size := by obtain ⟨o, e, _⟩ := vw; exact Heap.lt_size e
  have vk : ∀ h' : Heap, (∀ b o, s.heap.get? b = some o → h'.get? b = some o) → h'.IsValuesView p a := fun h' k => by obtain ⟨o, e, r⟩ := id vw; exact ⟨o, k _ _ e, r⟩
  have L : Listed X.prog X.w s p "dict_values" (s.heap.objs.size + 1) { cls := .type "dict_valueiterator", data := .fields #[.ref a, .int 0 0, .int vs.length 0, .int ep 0] } [s.heap.objs.size + 1, a] vs.length
      (fun i v => ∃ k, vs[i]? = some (k, v)) (fun i h => h.IsValIter (s.heap.objs.size + 1) a i vs.length ep ∧ h.DictAt (mixKind X.prog X.w) a vs ep) :=
    { ty := fun s' k => (vk s'.heap k).typeIs
      nl := by decide
      nt := by decide
      iter := fun A Q E s' k e hq => wpAny_pyIter_values (vk s'.heap k) (da.keep k) (by rw [e]; exact hq)
      hint := fun A Q E s' hT hq => hint_values hT hq
      walk := fun A hh => Walks.dictValues hh _ _ (Nat.ne_of_lt (Nat.lt_succ_of_lt alt)) vs ep
      start := fun h k e => ⟨⟨_, e, rfl, rfl⟩, da.keep k⟩
      few := by omega
      fpo := fun b hb => by
        rcases List.mem_cons.mp hb with e | hb
        · exact .inl e
        · rw [List.mem_singleton.mp hb]; exact .inr alt
      rI := rfl }
  refine call_list_walk L (I.ok.hd hc) plt rfl fun h' tk acc' c' kp e it => ?_
  refine ⟨.ref s.heap.objs.size, _, I.laid (t' := tk) kp (Nat.le_refl _) (show ObjOk X.prog X.w _ h' _ (.lst (kvs.map (·.2))) from ⟨by rw [List.length_map]; exact z, acc'.toList, c', vals_pt ?_ ?_, by simpa using e⟩), rfl, q _ (I.hok.fresh (Nat.le_refl _))⟩
  · have := it.1
    rw [List.length_map, hl, ← this]
    simp
  · intro i x u e1 e2
    obtain ⟨k, e3⟩ := it.2 i u (by simpa using e2)
    rw [List.getElem?_map] at e1
    cases e5 : kvs[i]? with
    | none => rw [e5] at e1; cases e1
    | some p' =>
      rw [e5] at e1
      cases e1
      exact (kv_at rel e5 e3).2
end
end L2

set_option Elab.async false
set_option linter.all false
set_option maxRecDepth 100000
/-! min(list, default=..) of ints -/
namespace L2
open PySem PySem.Spec PyProof.Rows
section
variable {prog : Program} {w : World} {A : Around} {R : Result → Shared → Prop} {it S : Addr} {fp wr : List Addr} {n : Nat} {Pi : Nat → Value → Prop} {St : Nat → Heap → Prop} {d : Value}
theorem minW_go (W : Walks prog w A.in1 it fp wr n Pi St) (bt : Nat → Nat → Bool) (cmp : CmpOf prog w A.in1 .Lt Pi bt) (off : S ∉ fp) : ∀ (k j : Nat) (s : Shared) (bv : Value) (c : Nat), n - (j + 1) = k → j + 1 ≤ n → St (j + 1) s.heap → Pi (argBest bt j) bv →
    s.heap.get? S = some { cls := .type "list", data := .seq #[bv, bv] c } →
    (∀ v h' tk, Pi (argBest bt (n - 1)) v → (∀ b o, b ∉ wr → b ≠ S → s.heap.get? b = some o → h'.get? b = some o) → R (.ok (.ret v)) { s with heap := h', toks := tk }) →
    codeAny (model prog w) A (.builtin "min.loop" ⟨[.ref it, .none, .ref S], [("default", d)]⟩) R s := by
  have offw : S ∉ wr := fun z => off (W.sub _ z)
  have nm : (toString "min" ++ toString ".loop" : String) = "min.loop" := by decide
  intro k
  induction k with
  | zero =>
    intro j s bv c hk hj st pb eS fin
    have hin : j + 1 = n := by omega
    refine codeAny_builtin F.entry_min_loop ?_
    rw [Around.under_plainId F.plain_min_loop _]
    show wpAny _ A.in1 (seqItems? (.ref S) >>= fun _ => _) _ _ s
    refine wpAny_bind (wpAny_seqItems eS rfl ?_)
    show wpAny _ A.in1 (tryCatch (pyNext (.ref it)) _ >>= fun _ => _) _ _ s
    refine wpAny_bind (wpAny_tryCatch (W.done s _ _ (hin ▸ st) fun h' tk kp => ?_))
    have eS' := kp S _ offw eS
    show wpAny _ A.in1 (updateSeq S (fun _ => #[]) >>= fun _ => _) _ _ _
    refine wpAny_bind (wpAny_updateSeq eS' rfl (wpAny_bind (wpAny_letGo (wpAny_pure (fin bv _ tk (by rw [← hin]; exact pb) fun b o bw bS e => ?_)))))
    exact (Heap.get?_update_other _ _ (Ne.symm bS)).trans (kp b o bw e)
  | succ k ih =>
    intro j s bv c hk hj st pb eS fin
    have hlt : j + 1 < n := by omega
    refine codeAny_builtin F.entry_min_loop ?_
    rw [Around.under_plainId F.plain_min_loop _]
    show wpAny _ A.in1 (seqItems? (.ref S) >>= fun _ => _) _ _ s
    refine wpAny_bind (wpAny_seqItems eS rfl ?_)
    show wpAny _ A.in1 (tryCatch (pyNext (.ref it)) _ >>= fun _ => _) _ _ s
    refine wpAny_bind (wpAny_tryCatch (W.item (j + 1) s _ _ hlt st fun v h' tk pv st' kp => ?_))
    have eS' := kp S _ offw eS
    show wpAny _ A.in1 (tryCatch (holding [v, v] (richCompare .Lt v bv >>= fun _ => _)) _ >>= fun _ => _) _ _ _
    refine wpAny_bind (wpAny_tryCatch (wpAny_holding (wpAny_bind (cmp (j + 1) (argBest bt j) v bv _ _ _ pv pb ?_))))
    refine wpAny_bind (wpAny_holding (wpAny_truthy_bool (wpAny_bind (wpAny_letGo (wpAny_pure ?_)))))
    cases eb : bt (j + 1) (argBest bt j) with
    | true =>
      simp only [if_true]
      refine wpAny_bind (wpAny_updateSeq eS' rfl (wpAny_bind (wpAny_letGo ?_)))
      rw [nm]
      refine wpAny_pure ⟨plainId_quiet F.plain_min_loop _, ih (j + 1) _ v _ (by omega) hlt (W.frame _ _ _ st' fun b bf o e => ?_) (by simp only [argBest, eb, if_true]; exact pv) (Heap.get?_update_self _ eS' rfl) fun v2 h2 tk2 p2 k2 => ?_⟩
      · exact (Heap.get?_update_other _ _ (fun z : S = b => off (by rw [z]; exact bf))).trans e
      · exact fin v2 h2 tk2 p2 fun b o bw bS e => k2 b o bw bS ((Heap.get?_update_other _ _ (Ne.symm bS)).trans (kp b o bw e))
    | false =>
      simp only [Bool.false_eq_true, if_false]
      refine wpAny_bind (wpAny_letGo ?_)
      rw [nm]
      exact wpAny_pure ⟨plainId_quiet F.plain_min_loop _, ih (j + 1) _ bv c (by omega) hlt st' (by simp only [argBest, eb, Bool.false_eq_true, if_false]; exact pb) eS' fun v2 h2 tk2 p2 k2 => fin v2 h2 tk2 p2 fun b o bw bS e => k2 b o bw bS (kp b o bw e)⟩
end
section
variable {prog : Program} {w : World} {A : Around} {E : Value → Shared → Prop} {s : Shared}
theorem call_minDI {l : Addr} {its : List Value} {d : Value} {Q : Value → Shared → Prop} (val : Nat → Int) (hh : A.handled = none) (hl : s.heap.IsList l its.toArray) (hints : ∀ (i : Nat) (v : Value), its.toArray[i]? = some v → ∃ t, v = Value.int (val i) t)
    (h0 : its = [] → ∀ h', (∀ b o, s.heap.get? b = some o → h'.get? b = some o) → Q d { s with heap := h' })
    (h1 : ∀ v h' tk, its ≠ [] → its.toArray[argBest (fun i j => decide (val i < val j)) (its.length - 1)]? = some v → (∀ b o, s.heap.get? b = some o → h'.get? b = some o) → Q v { s with heap := h', toks := tk }) :
    wpAny (model prog w) A (call (.builtin "min") [.ref l] [("default", d)]) Q E s := by
  refine wpAny_call (codeAny_call_builtin F.plain_min F.entry_min ?_)
  have ck : checkBuiltinCall "min" ⟨[.ref l], [("default", d)]⟩ = pure () := by
    have ha := args_minD (.ref l) d
    simp only [checkBuiltinCall, F.kind_min]
    cases hsig : Manifest.signature? "min" with
    | none => rfl
    | some sig =>
      have q : Bind.checkArgs "min" sig ⟨[.ref l], [("default", d)]⟩ = pure () := by simpa only [argsOk, hsig] using ha
      simp only [q]
  refine wpAny_of_eq ck ?_
  have hname : (toString "min" ++ toString ".loop" : String) = "min.loop" := by decide
  show wpAny _ A.in1 (Builtin.Builtins.bindParams "min" ["key", "default"] 0 ⟨[], [("default", d)]⟩ >>= fun _ => _) _ _ s
  refine wpAny_bind (wpAny_of_eq (show Builtin.Builtins.bindParams "min" ["key", "default"] 0 ⟨[], [("default", d)]⟩ = pure [none, some d] from by kernel_rfl) ?_)
  refine wpAny_bind (wpAny_pure (wpAny_bind (wpAny_pyIter_list hl (wpAny_bind (wpAny_newObj_type ?_)))))
  rw [hname]
  have lt : l < s.heap.objs.size := let ⟨o, e, _⟩ := hl; Heap.lt_size e
  have old : ∀ b o, s.heap.get? b = some o → ((s.heap.push { cls := .type "list_iterator", data := .fields #[.ref l, .int 0 0] }).push { cls := .type "list", data := .seq ([] : List Value).toArray }).get? b = some o := fun b o e => Heap.get?_push_of_some _ (Heap.get?_push_of_some _ e)
  have sz : (s.heap.push { cls := .type "list_iterator", data := .fields #[.ref l, .int 0 0] }).objs.size = s.heap.objs.size + 1 := Heap.size_push ..
  have hit : ((s.heap.push { cls := .type "list_iterator", data := .fields #[.ref l, .int 0 0] }).push { cls := .type "list", data := .seq ([] : List Value).toArray }).IsListIter s.heap.objs.size l 0 := ⟨_, Heap.get?_push_of_some _ (Heap.get?_push_size _ rfl), rfl, rfl⟩
  have hS := Heap.get?_push_size (s.heap.push { cls := .type "list_iterator", data := .fields #[.ref l, .int 0 0] }) (o := { cls := .type "list", data := .seq ([] : List Value).toArray }) rfl
  rw [sz] at hS
  generalize hH : ((s.heap.push { cls := .type "list_iterator", data := .fields #[.ref l, .int 0 0] }).push { cls := .type "list", data := .seq ([] : List Value).toArray }) = H2 at *
  have hl2 : H2.IsList l its.toArray := hl.at fun o e => old _ _ e
  have hSl : s.heap.objs.size + 1 ≠ l := Nat.ne_of_gt (Nat.lt_succ_of_lt lt)
  have hIl : l ≠ s.heap.objs.size := Nat.ne_of_lt lt
  have hSI : s.heap.objs.size + 1 ≠ s.heap.objs.size := Nat.ne_of_gt (Nat.lt_succ_self _)
  rw [sz]
  refine wpAny_pure ⟨plainId_quiet F.plain_min_loop _, codeAny_builtin F.entry_min_loop ?_⟩
  rw [Around.under_plainId F.plain_min_loop _]
  show wpAny _ A.in1 (seqItems? (.ref (s.heap.objs.size + 1)) >>= fun _ => _) _ _ _
  refine wpAny_bind (wpAny_seqItems hS rfl ?_)
  show wpAny _ A.in1 (tryCatch (pyNext (.ref s.heap.objs.size)) _ >>= fun _ => _) _ _ _
  have keep : ∀ {h' : Heap}, (∀ x o, x ≠ s.heap.objs.size → x ≠ s.heap.objs.size + 1 → H2.get? x = some o → h'.get? x = some o) → ∀ b o, s.heap.get? b = some o → h'.get? b = some o := fun k b o e => k b o (Nat.ne_of_lt (Heap.lt_size e)) (Nat.ne_of_lt (Nat.lt_succ_of_lt (Heap.lt_size e))) (old b o e)
  cases its with
  | nil =>
    refine wpAny_bind (wpAny_tryCatch (wpAny_pyNext_list_end (show A.in1.handled = none from hh) hit hl2 (by simp) fun h' eb => ?_))
    refine wpAny_bind (wpAny_rule (wpAny_pure ?_))
    exact h0 rfl h' (keep fun x o n1 _ e => eb _ _ n1 e)
  | cons v rest =>
    refine wpAny_bind (wpAny_tryCatch (wpAny_pyNext_list_item hit hl2 (x := v) (by simp) fun h' hit' hs' => ?_))
    refine wpAny_bind (wpAny_pure ?_)
    have hS' : h'.get? (s.heap.objs.size + 1) = some { cls := .type "list", data := .seq ([] : List Value).toArray } := hs'.extBut _ _ hSI hS
    have upS := Heap.get?_update_self (Obj.mapSeq fun _ => #[v, v]) hS' rfl
    refine wpAny_bind (wpAny_updateSeq hS' rfl ?_)
    rw [hname]
    have oth : ∀ x o, x ≠ s.heap.objs.size → x ≠ s.heap.objs.size + 1 → H2.get? x = some o → (h'.update (s.heap.objs.size + 1) (Obj.mapSeq fun _ => #[v, v])).get? x = some o := fun x o n1 n2 e => (Heap.get?_update_other _ _ (Ne.symm n2)).trans (hs'.extBut _ _ n1 e)
    have W := Walks.list (prog := prog) (w := w) (A := A.in1) hh s.heap.objs.size l hIl (v :: rest).toArray
    refine wpAny_pure ⟨plainId_quiet F.plain_min_loop _, minW_go (A := A) (n := (v :: rest).toArray.size) (fp := [s.heap.objs.size, l]) (wr := [s.heap.objs.size]) W (fun i j => decide (val i < val j)) (CmpOf.ints_lt val hints) (fun z => ?_) _ 0 _ v _ rfl (by simp)
      ⟨hit'.at fun o e => (Heap.get?_update_other _ _ hSI).trans e, (hl2.extBut hs'.extBut hIl).at fun o e => (Heap.get?_update_other _ _ hSl).trans e⟩ (by simp [argBest]) upS fun u h2 tk2 p2 k2 => ?_⟩
    · rcases List.mem_cons.mp z with z | z
      · exact hSI z
      · exact hSl (List.mem_singleton.mp z)
    · refine h1 u h2 tk2 (by simp) (by simpa using p2) (keep fun x o n1 n2 q => k2 x o (fun z => n1 (List.mem_singleton.mp z)) n2 (oth x o n1 n2 q))
end
section
theorem best_least (val : Nat → Int) : ∀ k, argBest (fun i j => decide (val i < val j)) k ≤ k ∧ ∀ i, i ≤ k → val (argBest (fun i j => decide (val i < val j)) k) ≤ val i
  | 0 => ⟨Nat.le_refl _, fun i h => by rw [Nat.le_zero.mp h]; exact Int.le_refl _⟩
  | k + 1 => by
    obtain ⟨h1, h2⟩ := best_least val k
    unfold argBest
    by_cases c : val (k + 1) < val (argBest (fun i j => decide (val i < val j)) k)
    · simp only [decide_eq_true c, if_true]
      refine ⟨Nat.le_refl _, fun i hi => ?_⟩
      rcases Nat.lt_or_ge i (k + 1) with q | q
      · have := h2 i (by omega); omega
      · rw [show i = k + 1 by omega]; exact Int.le_refl _
    · simp only [decide_eq_false c, Bool.false_eq_true, if_false]
      refine ⟨by omega, fun i hi => ?_⟩
      rcases Nat.lt_or_ge i (k + 1) with q | q
      · exact h2 i (by omega)
      · rw [show i = k + 1 by omega]; omega
variable {X : Cx} {a d : Expr} {ta td : TE} {p pos kp : Pos}
def tMinDI (K : PySem.W.Frag) (ta td : TE) : TE := fun σ H Q => ta σ H fun x H1 => td σ H1 fun y H2 => ∃ (l : Addr) (ns : List Int), x = .ref l ∧ SqL K H2 l (ns.map V.int) ∧ (ns = [] → Q y H2) ∧ ∀ m, m ∈ ns → (∀ z ∈ ns, m ≤ z) → Q (.int m) H2
theorem pe_minDI (hc : X.calm = true) (hg : Gl X "min") (hm : X.mg "min" = none) (ha : PE X a ta) (hd : PE X d td)
    (he : starEach [a] X.env = [(false, eval a X.env)] := by rfl) : PE X (.Call (.Name "min" p) [a] [⟨some "default", d, kp⟩] pos) (tMinDI X.K ta td) := by
  intro pins s σ H Q I h
  refine wpAny_Call_Name_kw (ld_blt I hg hm boot_min ?_)
  have hA : PA X [a] (tCons ta tNil) := pa_cons ha pa_nil he
  refine callWith_kw (thn (hA pos pins s σ H (fun vs H1 => match vs with
    | [x] => td σ H1 fun y H2 => ∃ (l : Addr) (ns : List Int), x = .ref l ∧ SqL X.K H2 l (ns.map V.int) ∧ (ns = [] → Q y H2) ∧ ∀ m, m ∈ ns → (∀ z ∈ ns, m ≤ z) → Q (.int m) H2
    | _ => False) I h) fun us s1 ⟨vs, H1, I1, r1, q1⟩ => ?_) (by rw [he]; rfl) (by rw [he]; rfl)
  match vs, q1 with
  | [x], q1 =>
    obtain ⟨u, rfl, ru⟩ := vals1 r1
    refine kws_cons (thn (hd pins s1 σ H1 _ I1 q1) fun dv s2 ⟨y, H2, I2, r2, l, ns, ex, hl, g0, g1⟩ => kws_nil ?_)
    subst ex
    obtain rfl : u = Value.ref l := ru
    obtain ⟨its, rv, pl, _⟩ := I2.list hl
    have len := rv.length
    rw [List.length_map] at len
    have at' : ∀ (i : Nat) (v : Value), its.toArray[i]? = some v → ∃ t, v = Value.int (ns.getD i 0) t := fun i v e => by
      obtain ⟨x, hx, rx⟩ := Vals.get' rv (by simpa using e)
      rw [List.getElem?_map] at hx
      cases en : ns[i]? with
      | none => rw [en] at hx; cases hx
      | some m =>
        rw [en] at hx
        cases hx
        obtain ⟨t, rfl⟩ := rx
        exact ⟨t, by rw [List.getD_eq_getElem?_getD, en]; rfl⟩
    refine call_minDI (fun i => ns.getD i 0) (I2.ok.hd hc) pl.isList at' (fun e h' k => ⟨y, H2, I2.kept (t' := s2.toks) k, r2, g0 ?_⟩) fun v h' tk ne ev k => ?_
    · rw [e] at len
      exact List.length_eq_zero_iff.mp len
    · obtain ⟨t, rfl⟩ := at' _ _ ev
      obtain ⟨b1, b2⟩ := best_least (fun i => ns.getD i 0) (its.length - 1)
      have pos : 0 < its.length := List.length_pos_iff.mpr ne
      refine ⟨.int _, H2, I2.kept (t' := tk) k, ⟨t, rfl⟩, g1 _ ?_ fun z hz => ?_⟩
      · rw [List.getD_eq_getElem?_getD, List.getElem?_eq_getElem (by omega)]
        exact List.getElem_mem _
      · obtain ⟨i, hi⟩ := List.getElem?_of_mem hz
        have hi' := (List.getElem?_eq_some_iff.mp hi).1
        have := b2 i (by omega)
        simp only [List.getD_eq_getElem?_getD, hi, Option.getD_some] at this
        simpa only [List.getD_eq_getElem?_getD] using this
end
end L2

set_option Elab.async false
set_option linter.all false
set_option maxRecDepth 100000
/-! going through d.items() of a dict by ints or texts -/
namespace L2
open PySem PySem.Spec PyProof.Rows
theorem entry_items_iter : entryFor table "dict_itemiterator.__iter__" = some Builtin.«dict_keyiterator.__iter__» :=
  entryFor_alias (id' := "dict_keyiterator.__iter__") (by kernel_rfl) rfl (by decide +kernel) (by kernel_rfl)
/-- what is gone through: the dict at d lies as φ says -/
def Itdi (d : Addr) (φ : Heap → Prop) (kvs : List (Key × V)) : It where
  go := fun i H => H d = some (.ext φ) ∧ i < kvs.length
  stop := fun i H => H d = some (.ext φ) ∧ kvs.length ≤ i
  yld := fun i H x H' => ∃ (p : Key × V) (t : Addr), kvs[i]? = some p ∧ x = .ref t ∧ H t = none ∧ H' = upd H t (.tup [kV p.1, p.2])
section
variable {P : Program} {w : World} {K : PySem.W.Frag} {es : List Expr} {ek : Nat} {epos : Pos} {it d : Addr} {kvs : List (Key × V)} {vs : List (Key × Value)} {ep : Nat}
theorem turn_items (rel : KV kvs vs) (hne : d ≠ it) : Turn P w K (.Tuple es ek epos) (Itdi d (fun h => h.DictAt (mixKind P w) d vs ep) kvs) [it] it (fun i h => ∃ ok ov, IsItemIter h it d i vs.length ep ok ov) where
  mem := by simp
  obj := fun i h ⟨ok, ov, e⟩ b hb => by
    rw [List.mem_singleton.mp hb]
    exact ⟨_, e, fun v z => by cases z⟩
  keep := fun i h h' ⟨ok, ov, e⟩ k => ⟨ok, ov, k it (by simp) _ e⟩
  item := by
    intro X hP hw hK hc i pins s σ H E I hf ⟨ok, ov, st⟩ hg
    subst hP hw hK
    obtain ⟨f0, f1, f2, f3, f4, f5⟩ := hf it (by simp)
    obtain ⟨hd, hi⟩ := hg
    obtain ⟨da, _, _⟩ : ObjOk X.prog X.w H s.heap d (.ext fun h => h.DictAt (mixKind X.prog X.w) d vs ep) := I.hok d _ hd
    have da : s.heap.DictAt (mixKind X.prog X.w) d vs ep := da
    have hl := rel.length
    obtain ⟨p, ep1⟩ : ∃ p, kvs[i]? = some p := ⟨kvs[i], List.getElem?_eq_getElem hi⟩
    obtain ⟨⟨k, v⟩, ev⟩ : ∃ q, vs[i]? = some q := ⟨vs[i]'(by omega), List.getElem?_eq_getElem (by omega)⟩
    obtain ⟨r1, r2⟩ := kv_at rel ep1 ev
    refine wpAny_pyNext_items_item st da ev fun key h' hkey out tup sz kp => ?_
    refine ⟨_, rfl, wpAny_letOwnedTupleGo_items (s := { s with heap := h' }) out fun h2 st2 sb => ?_⟩
    have nf : s.heap.objs.size ≠ it := fun z => by
      have := Heap.lt_size st
      rw [← z] at this
      exact absurd this (Nat.lt_irrefl _)
    have tup2 : h2.get? s.heap.objs.size = some { cls := .type "tuple", data := .seq #[key, v] } := (sb.2 _ nf).trans tup
    have I1 : Inv X pins σ (upd H s.heap.objs.size (.tup [kV p.1, p.2])) { s with heap := h2 } := I.turnedLaid (t' := s.toks) hf (fun c o n e => (sb.2 c (fun z => n (by rw [z]; simp))).trans (kp c o (fun z => n (by rw [z]; simp)) e)) (Nat.le_refl _)
      ⟨by show 2 ≤ sizeLine; decide, [key, v], .cons (by rw [r1]; exact key_rel hkey) (.cons r2 .nil), ⟨_, tup2, rfl, _, rfl⟩⟩ (fun ps q => by cases q)
    refine ⟨.ref s.heap.objs.size, _, I1, rfl, ⟨p, _, ep1, rfl, I.hok.fresh (Nat.le_refl _), rfl⟩, ⟨_, _, st2⟩, fun c hc => ?_⟩
    rw [List.mem_singleton.mp hc, upd_ne (Ne.symm nf)]
    exact f0
  done := by
    intro X hP hw hK hc i pins s σ H E I hf ⟨ok, ov, st⟩ hg
    subst hP hw hK
    obtain ⟨f0, f1, f2, f3, f4, f5⟩ := hf it (by simp)
    obtain ⟨hd, hi⟩ := hg
    obtain ⟨da, _, _⟩ : ObjOk X.prog X.w H s.heap d (.ext fun h => h.DictAt (mixKind X.prog X.w) d vs ep) := I.hok d _ hd
    have da : s.heap.DictAt (mixKind X.prog X.w) d vs ep := da
    have hl := rel.length
    exact wpAny_pyNext_items_end (I.ok.hd hc) st da (List.getElem?_eq_none_iff.mpr (by omega)) fun h' eb => ⟨rfl, I.turned (t' := s.toks) (fun b o hb e => eb b o hb e) f0 f1 f3 f4 f5⟩
  self := fun A i s Q E ⟨ok, ov, st⟩ h => by
    have hT : s.TypeIs (.ref it) "dict_itemiterator" := ⟨_, st, rfl⟩
    refine wpAny_pyIter_slot hT F.slot_dict_itemiterator_iter (wpAny_call_entry F.slot_dict_itemiterator_iter hT entry_items_iter ?_ (F.args_dict_itemiterator_iter_1 _))
    show wpAny _ _ (ret (.ref it)) _ _ s
    exact wpAny_pure ⟨_, rfl, "dict_itemiterator", _, hT, F.slot_dict_itemiterator_next.lookup, h⟩
end
section
variable {X : Cx} {o : Expr} {to : TE} {apos cpos : Pos} {es : List Expr} {ek : Nat} {epos : Pos}
def iItems (to : TE) : TI := fun σ H R => to σ H fun x H1 => ∃ a kvs, x = .ref a ∧ H1 a = some (.dK kvs) ∧ ∀ φ, R (Itdi a φ kvs) (upd H1 a (.ext φ))
theorem pi_items (ho : PE X o to) (hbase : attributeBase o "items" X.env (eval o X.env) = eval o X.env := by rfl) (hline : (apos.endLine == cpos.line) = true := by rfl) :
    PI X (.Tuple es ek epos) (.Call (.Attribute o "items" apos) [] [] cpos) (iItems to) := by
  intro pins s σ H R I h
  refine wpAny_Call_method0_late hbase hline (thn (ho pins s σ H _ I h) fun v s1 ⟨x, H1, I1, r1, a, kvs, ex, ha, q⟩ => ?_)
  subst ex
  obtain ⟨h1, h2⟩ := tyV_is I1 r1 (T := "dict") (.inr (.inr (.inl ⟨rfl, .inl ⟨_, ha⟩⟩)))
  obtain rfl : v = Value.ref a := r1
  obtain ⟨z, nm, vs, rel, dd⟩ := dk_of I1.hok ha
  obtain ⟨ep, da⟩ := dd.dictAt
  refine ⟨"dict", "dict.items", PySem.F.plainAttrs_dict, PySem.F.slot_dict_items, PySem.F.type_dict_items, h1, h2, Calls.callWith_builtin rfl (PySem.evalArgs_none ?_)⟩
  refine call_meetsIn F.slot_dict_items dd.typeIs F.entry_dict_items (F.args_dict_items_1 _) (meets_dict_items (mixKind X.prog X.w) a nm) ⟨⟨vs, dd⟩, ?_⟩
  have alt := da.lt_size
  refine wpAny_pyIter_items (s := { s1 with heap := s1.heap.push { cls := .type "dict_items", data := .fields #[.ref a] } }) (d := a) ⟨_, Heap.get?_push_size _ rfl, rfl, rfl⟩ (da.push _) ?_
  have sz : (s1.heap.push { cls := .type "dict_items", data := .fields #[.ref a] }).objs.size = s1.heap.objs.size + 1 := Heap.size_push ..
  have it0 := Heap.get?_push_size (s1.heap.push { cls := .type "dict_items", data := .fields #[.ref a] }) (o := { cls := .type "dict_itemiterator", data := .fields #[.none, .bool false, .ref a, .int 0 0, .int vs.length 0, .int ep 0, .none, .none] }) rfl
  have I2 : Inv X pins σ H1 { s1 with heap := (s1.heap.push { cls := .type "dict_items", data := .fields #[.ref a] }).push { cls := .type "dict_itemiterator", data := .fields #[.none, .bool false, .ref a, .int 0 0, .int vs.length 0, .int ep 0, .none, .none] } } :=
    I1.kept (t' := s1.toks) fun b o e => Heap.get?_push_of_some _ (Heap.get?_push_of_some _ e)
  have da2 := (da.push { cls := .type "dict_items", data := .fields #[.ref a] }).push { cls := .type "dict_itemiterator", data := .fields #[.none, .bool false, .ref a, .int 0 0, .int vs.length 0, .int ep 0, .none, .none] }
  have there : ∃ ob, ((s1.heap.push { cls := .type "dict_items", data := .fields #[.ref a] }).push { cls := .type "dict_itemiterator", data := .fields #[.none, .bool false, .ref a, .int 0 0, .int vs.length 0, .int ep 0, .none, .none] }).get? a = some ob := by
    obtain ⟨ob, es', e, _⟩ := id da2
    exact ⟨ob, e⟩
  have I3 := I2.write (x := a) (e := a) (o := .ext fun h => h.DictAt (mixKind X.prog X.w) a vs ep) (t' := s1.toks) (h' := (s1.heap.push { cls := .type "dict_items", data := .fields #[.ref a] }).push { cls := .type "dict_itemiterator", data := .fields #[.none, .bool false, .ref a, .int 0 0, .int vs.length 0, .int ep 0, .none, .none] })
    (by rw [ha]; trivial) (.inl rfl) (fun b u _ e => e) there ⟨da2, there, fun g1 g2 x k => x.at' k⟩
  have fresh : H1 (s1.heap.objs.size + 1) = none := I1.hok.fresh (Nat.le_succ _)
  refine ⟨s1.heap.objs.size + 1, [s1.heap.objs.size + 1], _, _, _, by rw [sz], I3, turn_items rel (Nat.ne_of_lt (Nat.lt_succ_of_lt alt)), ⟨_, _, by rw [← sz]; exact it0⟩, fun b hb => ?_, q _⟩
  rw [List.mem_singleton.mp hb]
  exact I1.fpOk (Nat.le_succ _) (by rw [upd_ne (Nat.ne_of_gt (Nat.lt_succ_of_lt alt))]; exact fresh)
end
section
variable {H1 : Hp} {σ0 : St} {g : TG} {tc : TT} {te : TE} {fin : List V → Hp → Prop}
theorem lc_items {d : Addr} {φ : Heap → Prop} {kvs : List (Key × V)} (Pv : Nat → List V → Hp → Prop) (h0 : Pv 0 [] H1) (hl : ∀ i ys H, Pv i ys H → H d = some (.ext φ)) (hd : ∀ ys H, Pv kvs.length ys H → fin ys H)
    (hs : ∀ i p t ys H, kvs[i]? = some p → H t = none → Pv i ys H → ys.length < sizeLine ∧ g (.ref t) σ0 (upd H t (.tup [kV p.1, p.2])) fun σ2 H2 => Sub σ0 σ2 ∧ tc σ2 H2 fun b H3 => if b = true then te σ2 H3 fun v H4 => Pv (i + 1) (ys ++ [v]) H4 else Pv (i + 1) ys H3)
    (hy : ∀ i ys H, Pv i ys H → ys.length < sizeLine) : LCr (Itdi d φ kvs) H1 σ0 g tc te fin := by
  refine lc_of (n := kvs.length) Pv h0 (fun ys H p => ⟨⟨hl _ _ _ p, Nat.le_refl _⟩, hd ys H p⟩) fun i ys H hi p => ?_
  refine ⟨⟨hl _ _ _ p, hi⟩, hy _ _ _ p, fun v H' y => ?_⟩
  obtain ⟨q, t, e, rfl, nt, rfl⟩ := y
  exact (hs i q t ys H e nt p).2
end
end L2

set_option Elab.async false
set_option linter.all false
set_option maxRecDepth 100000
namespace L2
open PySem PySem.Spec PyProof.Rows
section
variable {X : Cx} {body suite : List Stmt} {b₀ : Stmt} {Ln : Str} {np hpos pos : Pos} {aL : Addr} {tb : St → XK → TS} {th : TS}
theorem zps_tryN (hcalm : X.calm = true) (hstk : X.stack = X.env :: X.outer) (hfr : X.env.frame = some X.env.locals)
    (hg : Gl X Ln) (hm : X.mg Ln = some (.ref aL)) (cl : CatchC X.K aL) (hb : ∀ pins σ E1, YPSs (cxTry X pins σ E1) body (tb σ E1)) (hs : ∀ a, YPSs (cxHand X a) (b₀ :: suite) th) (hd : (Ln == ("__debug__" : Str)) = false := by decide) :
    YPS X (.Try body [.ExceptHandler (some (.Name Ln np)) none (b₀ :: suite) hpos] [] [] pos) (tTryN X.K aL tb th) :=
  ⟨ps_tryN hcalm hstk hfr hg hm cl (fun p s e => (hb p s e).o) (fun a => (hs a).o) hd⟩
theorem zpe_bm0 {o : Expr} {to : TE} {name : Str} {apos cpos : Pos} {T id : String} {r : V → List V → Hp → VK → Prop} (pa : PlainAttrs T) (slot : Slot T name id) (hty : typeOf (.builtin id) = pure (.type "method_descriptor")) (hm : MtR X id r) (ho : YPE X o to)
    (hbase : attributeBase o name X.env (eval o X.env) = eval o X.env := by rfl) (hline : (apos.endLine == cpos.line) = true := by rfl) : YPE X (.Call (.Attribute o name apos) [] [] cpos) (tBM0 X.K T r to) :=
  ⟨pe_bm0 pa slot hty hm ho.o hbase hline⟩
theorem zpi_items {o : Expr} {to : TE} {apos cpos : Pos} {es : List Expr} {ek : Nat} {epos : Pos} (ho : YPE X o to) (hbase : attributeBase o "items" X.env (eval o X.env) = eval o X.env := by rfl) (hline : (apos.endLine == cpos.line) = true := by rfl) :
    YPI X (.Tuple es ek epos) (.Call (.Attribute o "items" apos) [] [] cpos) (iItems to) := ⟨pi_items ho.o hbase hline⟩
theorem zpe_minDI {a d : Expr} {ta td : TE} {p kp : Pos} (hc : X.calm = true) (hg : Gl X "min") (hm : X.mg "min" = none) (ha : YPE X a ta) (hd : YPE X d td)
    (he : starEach [a] X.env = [(false, eval a X.env)] := by rfl) : YPE X (.Call (.Name "min" p) [a] [⟨some "default", d, kp⟩] pos) (tMinDI X.K ta td) := ⟨pe_minDI hc hg hm ha.o hd.o he⟩
theorem zpe_dnewK : YPE X (.Dict [] [] pos) tDNewK := ⟨pe_dnewK⟩
end
end L2

set_option Elab.async false
set_option linter.all false
set_option maxRecDepth 100000
namespace Lit
open PySem L2
/-! ### the mirror: each def's value over plain lists -/
def shapes : List Int := [63, 6, 91, 79, 102, 109, 125, 7, 127, 111]
def strokes : List Int := [1, 2, 4, 8, 16, 32, 64]
def isLit (stroke : Int) (mark : Str) (whole : Int) : Bool := if mark = "good" then !decide (Builtin.bitAnd whole stroke = 0) else decide (mark = "stuck")
def shapeM (f : Int) : Int := shapes.getD f.toNat 0
def litAt (whole : Int) (p : Int × Str) : Bool := isLit p.1 p.2 whole
def seenM (f : Int) (ms : List Str) : Int := (((strokes.zip ms).filter (litAt (shapeM f))).map (·.1)).sum
def worthsM (n : Nat) : List Int := (List.range n).map fun k => (10 : Int) ^ (n - 1 - k)
def mixM (cell k : Int) : Int :=
  let a := (cell * 69621 + 7001 * k + 3) % 2147483629
  let b := (a * a + 39373 * a + k) % 2147483647
  (b * b + 16807 * b + 7 * k) % 2147483587
/-! ### data -/
abbrev dP (ms : List Str) : PyData := .list (ms.map .str)
abbrev dPs (pn : List (List Str)) : List PyData := pn.map dP
theorem rep_place {K : PySem.W.Frag} {H : Hp} {v : V} {ms : List Str} (h : Rep K H v (dP ms)) : ∃ a, v = .ref a ∧ SqL K H a (ms.map V.str) := by
  cases h with
  | list q r => exact ⟨_, rfl, by rw [← RepAll.strs_inv r]; exact q⟩
theorem rep_list {K : PySem.W.Frag} {H : Hp} {v : V} {ds : List PyData} (h : Rep K H v (.list ds)) : ∃ a xs, v = .ref a ∧ SqL K H a xs ∧ RepAll K H xs ds := by
  cases h with
  | list q r => exact ⟨_, _, rfl, q, r⟩
/-! ### the text -/
def top (i : Nat) : Stmt := PySem.Challenge.pw_litfigures_k08_whole_counters.main.body.getD i (.Pass ⟨0, 0, 0, 0⟩)
/-- Python's own names, and the module's tables -/
structure Txt (K : PySem.W.Frag) (mg : Str → Option Value) (aS aT : Addr) : Prop where
  range : mg "range" = none
  len : mg "len" = none
  zip : mg "zip" = none
  sum : mg "sum" = none
  min : mg "min" = none
  max : mg "max" = none
  list : mg "list" = none
  int : mg "int" = none
  str : mg "str" = none
  bool : mg "bool" = none
  isinstance : mg "isinstance" = none
  reversed : mg "reversed" = none
  tuple : mg "tuple" = none
  all : mg "all" = none
  enumerate : mg "enumerate" = none
  ValueError : mg "ValueError" = none
  SHAPES : mg "SHAPES" = some (.ref aS)
  STROKES : mg "STROKES" = some (.ref aT)
  shapes : ∀ H : Hp, SqT K H aS (shapes.map V.int)
  strokes : ∀ H : Hp, SqT K H aT (strokes.map V.int)
theorem dec_str' (x y : Str) : decide (V.str x = V.str y) = decide (x = y) := by
  by_cases e : x = y
  · subst e; simp
  · rw [decide_eq_false e, decide_eq_false fun q => e (V.str.inj q)]
theorem dec_int' (x y : Int) : decide (V.int x = V.int y) = decide (x = y) := by
  by_cases e : x = y
  · subst e; simp
  · rw [decide_eq_false e, decide_eq_false fun q => e (V.int.inj q)]
theorem filter_take {α : Type} (p : α → Bool) (xs : List α) (i : Nat) (x : α) (h : xs[i]? = some x) : (xs.take (i + 1)).filter p = (xs.take i).filter p ++ (if p x = true then [x] else []) := by
  rw [List.take_add_one, h, List.filter_append]
  cases e : p x <;> simp [e]
/-- a new list of these ints is handed out, all else stays -/
def Gives (H : Hp) (Q : VK) (ns : List Int) : Prop := ∀ l H', Same H H' → H l = none → H' l = some (.lst (ns.map V.int)) → Q (.ref l) H'
theorem map_take {α β : Type} (f : α → β) (xs : List α) (i : Nat) (x : α) (h : xs[i]? = some x) : (xs.take (i + 1)).map f = (xs.take i).map f ++ [f x] := by
  rw [List.take_add_one, h, List.map_append]
  rfl
theorem int_get {ns : List Int} {i : Nat} {x : V} (h : (ns.map V.int)[i]? = some x) : ∃ n, ns[i]? = some n ∧ x = .int n := by
  rw [List.getElem?_map] at h
  cases q : ns[i]? with
  | none => rw [q] at h; cases h
  | some n => rw [q] at h; cases h; exact ⟨n, rfl, rfl⟩
def cellM (ns : List Int) (k : Nat) : Int := ns.getD k 0
def pickM (ns : List Int) (k : Nat) : Int := if k < ns.length then ns.getD k 0 else (cellM ns 0 + 7 * (k : Int) + 3) * 48271 % 2147483647 / 13
theorem mod64 (x m : Int) (h : 0 < m) (h2 : m < 2 ^ 63) : -(2 ^ 64) < x % m ∧ x % m < 2 ^ 64 := ⟨by have := Int.emod_nonneg x (show m ≠ 0 by omega); omega, by have := Int.emod_lt_of_pos x h; omega⟩
/-- a mark -/
def IsMark (m : Str) : Prop := m = "good" ∨ m = "dead" ∨ m = "stuck"
def GoodPlace (ms : List Str) : Prop := ms.length = 7 ∧ ∀ m ∈ ms, IsMark m
theorem mark_ok {m : Str} (h : IsMark m) : PyData.strOk m = true := by rcases h with rfl | rfl | rfl <;> decide +kernel
def spLaw (K : PySem.W.Frag) : Sp := fun vs H Q _ => ∃ (a : Addr) (ns : List Int), vs = [.ref a] ∧ SqL K H a (ns.map V.int) ∧ ns.length ≤ 63 ∧ ∀ H', Q (.bl true) H'
def litL (m : Str) (has : Bool) : Bool := if m = "good" then has else decide (m = "stuck")
def hasT : List (List Bool) := [[true, true, true, true, true, true, false], [false, true, true, false, false, false, false], [true, true, false, true, true, false, true], [true, true, true, true, false, false, true], [false, true, true, false, false, true, true],
  [true, false, true, true, false, true, true], [true, false, true, true, true, true, true], [true, true, true, false, false, false, false], [true, true, true, true, true, true, true], [true, true, true, true, false, true, true]]
def hasM (f s : Nat) : Bool := (hasT.getD f []).getD s false
def b2n (b : Bool) : Int := if b = true then 1 else 0
def lseenTo (f : Nat) (ms : List Str) : Nat → Int
  | 0 => 0
  | i + 1 => 2 * lseenTo f ms i + b2n (litL (ms.getD (6 - i) "") (hasM f (6 - i)))
def lseenM (f : Nat) (ms : List Str) : Int := lseenTo f ms 7
theorem has_bits : ∀ f, f < 10 → ∀ s, s < 7 → (!decide (Builtin.bitAnd (shapeM (f : Nat)) (strokes.getD s 0) = 0)) = hasM f s := by decide +kernel
theorem filter_sum (p : Int × Str → Bool) : ∀ l : List (Int × Str), ((l.filter p).map (·.1)).sum = (l.map fun x => x.1 * b2n (p x)).sum
  | [] => rfl
  | x :: l => by
    rw [List.filter_cons, List.map_cons, List.sum_cons, ← filter_sum p l]
    unfold b2n
    split
    · simp
    · simp
theorem lit_bits {f s : Nat} (hf : f < 10) (hs : s < 7) (m : Str) : isLit (strokes.getD s 0) m (shapeM f) = litL m (hasM f s) := by
  unfold isLit litL
  rw [has_bits f hf s hs]
theorem seen_law {f : Nat} (hf : f < 10) {ms : List Str} (hm : ms.length = 7) : seenM f ms = lseenM f ms := by
  match ms, hm with
  | [m0, m1, m2, m3, m4, m5, m6], _ =>
    unfold seenM lseenM
    rw [filter_sum]
    simp only [strokes, List.zip_cons_cons, List.zip_nil_right, List.map_cons, List.map_nil, List.sum_cons, List.sum_nil, litAt, lseenTo]
    have h0 := lit_bits hf (show 0 < 7 by decide) m0
    have h1 := lit_bits hf (show 1 < 7 by decide) m1
    have h2 := lit_bits hf (show 2 < 7 by decide) m2
    have h3 := lit_bits hf (show 3 < 7 by decide) m3
    have h4 := lit_bits hf (show 4 < 7 by decide) m4
    have h5 := lit_bits hf (show 5 < 7 by decide) m5
    have h6 := lit_bits hf (show 6 < 7 by decide) m6
    simp only [strokes, List.getD_cons_zero, List.getD_cons_succ] at h0 h1 h2 h3 h4 h5 h6
    rw [h0, h1, h2, h3, h4, h5, h6]
    simp only [List.getD_cons_zero, List.getD_cons_succ, Nat.sub_zero, Nat.reduceSub]
    omega
theorem worths_len (n : Nat) : (worthsM n).length = n := by simp [worthsM]
theorem worths_at {n i : Nat} (h : i < n) : (worthsM n)[i]? = some ((10 : Int) ^ (n - 1 - i)) := by simp [worthsM, h]
theorem dPs_get {K : PySem.W.Frag} {H : Hp} {xs : List V} {pn : List (List Str)} {i : Nat} {x : V} (h : RepAll K H xs (dPs pn)) (e : xs[i]? = some x) : ∃ ms, pn[i]? = some ms ∧ Rep K H x (dP ms) := by
  obtain ⟨d, e1, e2⟩ := h.get e
  rw [List.getElem?_map] at e1
  cases q : pn[i]? with
  | none => rw [q] at e1; cases e1
  | some ms => rw [q] at e1; cases e1; exact ⟨ms, rfl, e2⟩
theorem p10 {k : Nat} (h : k ≤ 8) : (0 : Int) < 10 ^ k ∧ (10 : Int) ^ k < 1073741824 := by
  have : k = 0 ∨ k = 1 ∨ k = 2 ∨ k = 3 ∨ k = 4 ∨ k = 5 ∨ k = 6 ∨ k = 7 ∨ k = 8 := by omega
  rcases this with rfl | rfl | rfl | rfl | rfl | rfl | rfl | rfl | rfl <;> decide
/-- a panel of few whole places -/
structure PanelAt (K : PySem.W.Frag) (H : Hp) (v : V) (pn : List (List Str)) : Prop where
  rep : Rep K H v (.list (dPs pn))
  few : pn.length ≤ 4
  whole : ∀ (i : Nat) (ms : List Str), pn[i]? = some ms → ms.length = 7
theorem PanelAt.same {K : PySem.W.Frag} {H H' : Hp} {v : V} {pn : List (List Str)} (h : PanelAt K H v pn) (s : Same H H') : PanelAt K H' v pn := ⟨h.rep.same s, h.few, h.whole⟩
abbrev s_shape : Stmt := top 8
abbrev s_ten_to : Stmt := top 17
abbrev s_worths : Stmt := top 18
abbrev s_check_number : Stmt := top 19
abbrev s_figures_of : Stmt := top 20
abbrev s_l_cell_at : Stmt := top 30
abbrev s_l_pick : Stmt := top 31
abbrev s_l_mix : Stmt := top 32
abbrev s_l_place : Stmt := top 36
abbrev s_misfits : Stmt := top 12
abbrev s_fitting_marks : Stmt := top 13
abbrev s_open_marks : Stmt := top 14
abbrev s_fewest : Stmt := top 15
abbrev s_counted : Stmt := top 22
abbrev s_showings_at : Stmt := top 23
abbrev s_fewest_from : Stmt := top 24
abbrev s_fewest_by_start : Stmt := top 25
abbrev s_starts : Stmt := top 26
abbrev s_least : Stmt := top 27
abbrev s_best : Stmt := top 28
section
variable {P : Program} {w : World} {K : PySem.W.Frag} {mg : Str → Option Value} {base : Heap} {aS aT : Addr}
theorem sc_shape : FnScope ["figure"] ["figure"] (defScope s_shape) := ⟨rfl, rfl, rfl, by decide +kernel, rfl, by decide +kernel, by decide +kernel⟩
def sp_shape : Sp := fun vs H Q _ => ∃ n : Nat, vs = [.int n] ∧ n < 10 ∧ Q (.int (shapeM n)) H
def spx_shape (cF : Addr) : Sp := fun vs H Q E => sp_shape vs H Q E ∨ ∃ i : Int, vs = [.int i] ∧ (i < 0 ∨ 10 ≤ i) ∧ E (.ref cF) none H
theorem ok_shape {cF : Addr} {f : Addr} {fd : FuncData} (F : Fun K "shape" "shape" s_shape f fd) (T : Txt K mg aS aT) (mk_NoFigure : ExcC K cF) (m_NoFigure : mg "NoFigure" = some (.ref cF)) : FnOk P w K mg base (CX1 P w) 1 f fd ["figure"] (spx_shape cF) := by
  refine F.zokX sc_shape (fun vs H Q E h => ?_) (fun cdv A outer s H vs Q E hr h => ?_)
  · rcases h with ⟨n, rfl, _⟩ | ⟨i, rfl, _⟩ <;> rfl
  · refine ⟨_, (zpss_cons (zps_if (zPW_pt (zpw_or (zpt_cmpR op_lt (zpv 0) zpe_int (nomark _)) (zpw_or1 (zpt_cmpR op_ge (zpv 0) (zpe_callB call_len_seq rfl T.len PySem.boot_len (zpa_cons (zpe_gref rfl T.SHAPES) zpa_nil)) (nomark _))))) (zpss_one (zps_raise mk_NoFigure hr.hd m_NoFigure rfl (zpa_const (vs := [.str "a figure is a number from 0 to 9"]) rfl))) zpss_nil) (zpss_one (zps_ret (zpe_ix ix_tup (zpe_gref rfl T.SHAPES) (zpv 0) (fun _ _ => rfl))))), ?_⟩
    rcases h with ⟨n, rfl, hn, k⟩ | ⟨i, rfl, bad, k⟩
    · refine ⟨_, rfl, _, _, rfl, rfl, _, rfl, ?_⟩
      rw [decide_eq_false (by omega)]
      refine iteF ⟨_, rfl, aS, _, rfl, .inr (T.shapes H), _, _, rfl, rfl, _, rfl, ?_⟩
      rw [decide_eq_false (by show ¬ ((10 : Int) ≤ (n : Int)); omega)]
      refine iteF ⟨_, rfl, aS, _, _, _, rfl, rfl, T.shapes H, atI_nat (v := .int (shapeM n)) ?_, k⟩
      have e : shapes[n]? = some (shapeM n) := by
        unfold shapeM
        rw [List.getD_eq_getElem?_getD, Int.toNat_natCast, List.getElem?_eq_getElem (by show n < 10; exact hn)]
        rfl
      rw [List.getElem?_map, e]
      rfl
    · refine ⟨_, rfl, _, _, rfl, rfl, _, rfl, ?_⟩
      by_cases neg : i < 0
      · rw [decide_eq_true neg]
        exact iteT (iteT ⟨by show 1 ≤ sizeLine; decide, k⟩)
      · rw [decide_eq_false neg]
        refine iteF ⟨_, rfl, aS, _, rfl, .inr (T.shapes H), _, _, rfl, rfl, _, rfl, ?_⟩
        rw [decide_eq_true (by show (10 : Int) ≤ i; omega)]
        exact iteT ⟨by show 1 ≤ sizeLine; decide, k⟩

theorem sc_ten_to : FnScope ["power", "worth", "step"] ["power"] (defScope s_ten_to) := ⟨rfl, rfl, rfl, by decide +kernel, rfl, by decide +kernel, by decide +kernel⟩
def sp_ten_to : Sp := fun vs H Q _ => ∃ n : Nat, vs = [.int n] ∧ n ≤ 1000 ∧ Q (.int (10 ^ n)) H
theorem ok_ten_to {f : Addr} {fd : FuncData} (F : Fun K "ten_to" "ten_to" s_ten_to f fd) (T : Txt K mg aS aT) : FnOk P w K mg base (CX1 P w) 1 f fd ["power"] sp_ten_to := by
  refine F.zok1 sc_ten_to (fun vs H Q E h => ?_) (fun cdv A outer s H vs Q E hr h => ?_)
  · obtain ⟨n, rfl, _⟩ := h
    rfl
  · obtain ⟨n, rfl, hn, k⟩ := h
    refine ⟨_, (zpss_cons (zps_set (i := 1) sc_ten_to.nd rfl (Or.inl rfl) zpe_int) (zpss_cons (zps_for PassesOwn.never rfl (zpi_range1 rfl T.range (zpa_cons (zpv 0) zpa_nil)) (zpg_name (i := 2) sc_ten_to.nd rfl (Or.inl rfl)) (zpss_one (zps_set (i := 1) sc_ten_to.nd rfl (Or.inl rfl) (zpe_op op_mul (zpv 1) zpe_int)))) (zpss_one (zps_ret (zpv 1))))), ?_⟩
    refine ⟨_, rfl, (n : Int), rfl, by omega, by omega, for_range (n := (n : Int).toNat) (fun i σ H' => H' = H ∧ ∃ v, σ = [some (.int n), some (.int (10 ^ i)), v]) ⟨rfl, none, rfl⟩ ?_ ?_⟩
    · rintro i σ H' hi ⟨rfl, v, rfl⟩
      refine ⟨_, rfl, _, _, rfl, rfl, .inr ⟨by decide, by decide⟩, ?_⟩
      exact ⟨rfl, _, rfl⟩
    · rintro σ H' ⟨rfl, v, rfl⟩
      exact ⟨_, rfl, by simpa using k⟩
theorem sc_worths : FnScope ["places"] ["places"] (defScope s_worths) := ⟨rfl, rfl, rfl, by decide +kernel, rfl, by decide +kernel, by decide +kernel⟩
def sp_worths : Sp := fun vs H Q _ => ∃ n : Nat, vs = [.int n] ∧ n ≤ 100 ∧ Gives H Q (worthsM n)
theorem ok_worths {f f1 : Addr} {fd fd1 : FuncData} (F : Fun K "worths" "worths" s_worths f fd) (T : Txt K mg aS aT) (T_ten_to : FnAt K mg "ten_to" ["power"] f1 fd1) (G_ten_to : FnOk P w K mg base (CX1 P w) 1 f1 fd1 ["power"] sp_ten_to) :
    FnOk P w K mg base (CX1 P w) 2 f fd ["places"] sp_worths := by
  refine F.zok1 sc_worths (fun vs H Q E h => ?_) (fun cdv A outer s H vs Q E hr h => ?_)
  · obtain ⟨n, rfl, _⟩ := h
    rfl
  · obtain ⟨n, rfl, hl, k⟩ := h
    refine ⟨_, (zpss_one (zps_ret (zpe_lc (N' := ["k", "places"]) (js := [none, some 0]) rfl (compOk.scope (sc := defScope s_worths) (N := ["places"]) (by decide +kernel)) (zpi_range1 rfl T.range (zpa_cons (zpv 0) zpa_nil)) (fun _ _ _ _ _ => (zpg_name (i := 0) (show (["k", "places"] : List Str).Nodup from by decide +kernel) rfl (Or.inl rfl))) (fun _ _ _ _ _ => zpif_nil) (fun _ _ _ _ _ => (zpe_call G_ten_to (hr.mono (by decide)) rfl T_ten_to.m T_ten_to.k T_ten_to.b .nil pass1n (zpa_cons (zpe_op op_sub (zpe_op op_sub (zpv 1) zpe_int) (zpv 0)) zpa_nil)))))), ?_⟩
    refine ⟨_, rfl, (n : Int), rfl, by omega, by omega, lc_range (n := (n : Int).toNat) (fun i ys H' => Same H H' ∧ ys.length ≤ i ∧ i ≤ n ∧ ys = ((List.range i).map fun k => (10 : Int) ^ (n - 1 - k)).map V.int) ⟨Same.refl H, by decide, Nat.zero_le _, rfl⟩ ?_ ?_⟩
    · rintro ys H' ⟨s1, _, _, rfl⟩ l nl
      refine k l _ (s1.upd (s1.free nl)) (s1.free nl) ?_
      rw [upd_same, Int.toNat_natCast]
      rfl
    · rintro i ys H' hi ⟨s1, hy, hi2, rfl⟩
      have hi3 : i < n := by simpa using hi
      refine ⟨Nat.lt_of_le_of_lt hy (small1000 (by omega)), Sub.set rfl, _, rfl, _, _, rfl, rfl, _, rfl, _, _, rfl, rfl, n - 1 - i, ?_, by omega, ?_⟩
      · have e : ((n : Int) - 1 - (0 + (i : Int))) = ((n - 1 - i : Nat) : Int) := by omega
        show [V.int ((n : Int) - 1 - (0 + (i : Int)))] = _
        rw [e]
      · refine ⟨s1, by rw [List.length_append, List.length_singleton]; omega, by omega, ?_⟩
        rw [List.range_succ, List.map_append, List.map_append]
        rfl

theorem sc_check_number : FnScope ["number", "places"] ["number", "places"] (defScope s_check_number) := ⟨rfl, rfl, rfl, by decide +kernel, rfl, by decide +kernel, by decide +kernel⟩
def sp_check_number : Sp := fun vs H Q _ => ∃ (n k : Nat), vs = [.int n, .int k] ∧ k ≤ 100 ∧ n < 10 ^ k ∧ Q .non H
def spx_check_number (cN : Addr) : Sp := fun vs H Q E => sp_check_number vs H Q E ∨ ∃ (i : Int) (k : Nat), vs = [.int i, .int k] ∧ k ≤ 100 ∧ (i < 0 ∨ (10 : Int) ^ k ≤ i) ∧ E (.ref cN) none H
theorem ok_check_number {cN f f1 : Addr} {fd fd1 : FuncData} (F : Fun K "check_number" "check_number" s_check_number f fd) (T : Txt K mg aS aT) (mk_NoNumber : ExcC K cN) (m_NoNumber : mg "NoNumber" = some (.ref cN))
    (T_ten_to : FnAt K mg "ten_to" ["power"] f1 fd1) (G_ten_to : FnOk P w K mg base (CX1 P w) 1 f1 fd1 ["power"] sp_ten_to) :
    FnOk P w K mg base (CX1 P w) 2 f fd ["number", "places"] (spx_check_number cN) := by
  refine F.zokX sc_check_number (fun vs H Q E h => ?_) (fun cdv A outer s H vs Q E hr h => ?_)
  · rcases h with ⟨n, p, rfl, _⟩ | ⟨i, p, rfl, _⟩ <;> rfl
  · refine ⟨_, (zpss_one (zps_if (zPW_pt (zpw_or (zpt_cmpR op_lt (zpv 0) zpe_int (nomark _)) (zpw_or1 (zpt_cmpR op_ge (zpv 0) (zpe_call G_ten_to (hr.mono (by decide)) rfl T_ten_to.m T_ten_to.k T_ten_to.b .nil pass1n (zpa_cons (zpv 1) zpa_nil)) (nomark _))))) (zpss_one (zps_raise mk_NoNumber hr.hd m_NoNumber rfl (zpa_const (vs := [.str "there are too few places for this number, or it is below 0"]) rfl))) zpss_nil)), ?_⟩
    rcases h with ⟨n, j, rfl, hj, hn, k⟩ | ⟨i, j, rfl, hj, bad, k⟩
    case inr =>
      refine ⟨_, rfl, _, _, rfl, rfl, _, rfl, ?_⟩
      by_cases neg : i < 0
      · rw [decide_eq_true neg]
        exact iteT (iteT ⟨by show 1 ≤ sizeLine; decide, k⟩)
      · rw [decide_eq_false neg]
        refine iteF ⟨_, rfl, _, rfl, j, rfl, by omega, _, _, rfl, rfl, _, rfl, ?_⟩
        rw [decide_eq_true (by show (10 : Int) ^ j ≤ i; omega)]
        exact iteT ⟨by show 1 ≤ sizeLine; decide, k⟩
    refine ⟨_, rfl, _, _, rfl, rfl, _, rfl, ?_⟩
    rw [decide_eq_false (by omega)]
    refine iteF ⟨_, rfl, _, rfl, j, rfl, by omega, _, _, rfl, rfl, _, rfl, ?_⟩
    have big : ¬ ((10 : Int) ^ j ≤ (n : Int)) := by
      have q : ((10 ^ j : Nat) : Int) = (10 : Int) ^ j := by simp
      omega
    rw [decide_eq_false big]
    exact iteF k

theorem sc_figures_of : FnScope ["number", "places"] ["number", "places"] (defScope s_figures_of) := ⟨rfl, rfl, rfl, by decide +kernel, rfl, by decide +kernel, by decide +kernel⟩
def figsOfM (n k : Nat) : List Int := (worthsM k).map fun p => (n : Int) / p % 10
def sp_figures_of : Sp := fun vs H Q _ => ∃ n k : Nat, vs = [.int n, .int k] ∧ k ≤ 8 ∧ Gives H Q (figsOfM n k)
theorem ok_figures_of {f f1 : Addr} {fd fd1 : FuncData} (F : Fun K "figures_of" "figures_of" s_figures_of f fd) (T : Txt K mg aS aT) (T_worths : FnAt K mg "worths" ["places"] f1 fd1) (G_worths : FnOk P w K mg base (CX1 P w) 2 f1 fd1 ["places"] sp_worths) :
    FnOk P w K mg base (CX1 P w) 3 f fd ["number", "places"] sp_figures_of := by
  refine F.zok1 sc_figures_of (fun vs H Q E h => ?_) (fun cdv A outer s H vs Q E hr h => ?_)
  · obtain ⟨n, j, rfl, _⟩ := h
    rfl
  · obtain ⟨n, j, rfl, hl, k⟩ := h
    refine ⟨_, (zpss_one (zps_ret (zpe_lc (N' := ["worth", "number"]) (js := [none, some 0]) rfl (compOk.scope (sc := defScope s_figures_of) (N := ["number", "places"]) (by decide +kernel)) (zpi_list (zpe_call G_worths (hr.mono (by decide)) rfl T_worths.m T_worths.k T_worths.b .nil pass1n (zpa_cons (zpv 1) zpa_nil))) (fun _ _ _ _ _ => (zpg_name (i := 0) (show (["worth", "number"] : List Str).Nodup from by decide +kernel) rfl (Or.inl rfl))) (fun _ _ _ _ _ => zpif_nil) (fun _ _ _ _ _ => (zpe_op op_mod (zpe_op op_fdiv (zpv 1) (zpv 0)) zpe_int))))), ?_⟩
    refine ⟨_, rfl, j, rfl, by omega, fun l H1 s1 nl hl1 => ⟨l, rfl, ⟨(worthsM j).map V.int, SqL.of hl1⟩, lc_list (xs := (worthsM j).map V.int) (fun i ys H' => Same H1 H' ∧ ys.length ≤ i ∧ i ≤ j ∧ ys = (((worthsM j).take i).map fun p => (n : Int) / p % 10).map V.int) ⟨Same.refl _, Nat.le_refl _, Nat.zero_le _, rfl⟩ (fun i ys H' p => p.1.seq (SqL.of hl1)) ?_ ?_⟩⟩
    · rintro ys H' ⟨s2, hy, hi, rfl⟩ l2 nl2
      have s3 := s1.trans s2
      refine k l2 _ (s3.upd (s3.free nl2)) (s3.free nl2) ?_
      rw [upd_same, List.length_map, List.take_length]
      rfl
    · rintro i x ys H' ex ⟨s2, hy, hi, rfl⟩
      obtain ⟨wo, ew, rfl⟩ := int_get ex
      have hi' : i < j := by have q := (List.getElem?_eq_some_iff.mp ew).1; rw [worths_len] at q; exact q
      have e10 := worths_at hi'
      rw [ew] at e10
      cases e10
      refine ⟨Nat.lt_of_le_of_lt hy (small1000 (by omega)), Sub.set rfl, _, rfl, _, rfl, _, _, rfl, rfl, p10 (by omega), _, _, rfl, rfl, (by show (0 : Int) < 10; decide), s2, ?_, hi', ?_⟩
      · rw [List.length_append, List.length_singleton]; omega
      · rw [map_take _ _ _ _ ew, List.map_append]
        rfl
theorem sc_l_cell_at : FnScope ["script", "k"] ["script", "k"] (defScope s_l_cell_at) := ⟨rfl, rfl, rfl, by decide +kernel, rfl, by decide +kernel, by decide +kernel⟩
def sp_l_cell_at (K : PySem.W.Frag) : Sp := fun vs H Q _ => ∃ (a : Addr) (ns : List Int) (k : Nat), vs = [.ref a, .int k] ∧ SqL K H a (ns.map V.int) ∧ Q (.int (cellM ns k)) H
theorem ok_l_cell_at {f : Addr} {fd : FuncData} (F : Fun K "_law_cell_at" "_law_cell_at" s_l_cell_at f fd) (T : Txt K mg aS aT) : FnOk P w K mg base (CX1 P w) 1 f fd ["script", "k"] (sp_l_cell_at K) := by
  refine F.zok1 sc_l_cell_at (fun vs H Q E h => ?_) (fun cdv A outer s H vs Q E hr h => ?_)
  · obtain ⟨a, ns, k, rfl, _⟩ := h
    rfl
  · obtain ⟨a, ns, k, rfl, ha, q⟩ := h
    refine ⟨_, (zpss_cons (zps_if (zpt_cmpR op_lt (zpv 1) (zpe_callB call_len_seq rfl T.len PySem.boot_len (zpa_cons (zpv 0) zpa_nil)) (nomark _)) (zpss_one (zps_ret (zpe_ix ix_list (zpv 0) (zpv 1) (fun _ _ => rfl)))) zpss_nil) (zpss_one (zps_ret zpe_int))), ?_⟩
    refine ⟨_, rfl, _, rfl, a, _, rfl, .inl ha, _, _, rfl, rfl, _, rfl, ?_⟩
    rw [List.length_map]
    unfold cellM at q
    by_cases h : k < ns.length
    · rw [decide_eq_true (by omega)]
      rw [List.getD_eq_getElem?_getD, List.getElem?_eq_getElem h] at q
      refine iteT ⟨_, rfl, _, rfl, a, _, _, .int ns[k], rfl, rfl, ha, atI_nat ?_, q⟩
      rw [List.getElem?_map, List.getElem?_eq_getElem h]
      rfl
    · rw [decide_eq_false (by omega)]
      rw [List.getD_eq_getElem?_getD, List.getElem?_eq_none (by omega)] at q
      exact iteF q

theorem sc_l_pick : FnScope ["script", "k"] ["script", "k"] (defScope s_l_pick) := ⟨rfl, rfl, rfl, by decide +kernel, rfl, by decide +kernel, by decide +kernel⟩
def sp_l_pick (K : PySem.W.Frag) : Sp := fun vs H Q _ => ∃ (a : Addr) (ns : List Int) (k : Nat), vs = [.ref a, .int k] ∧ SqL K H a (ns.map V.int) ∧ Q (.int (pickM ns k)) H
theorem ok_l_pick {f f1 : Addr} {fd fd1 : FuncData} (F : Fun K "_law_pick" "_law_pick" s_l_pick f fd) (T : Txt K mg aS aT) (T_l_cell_at : FnAt K mg "_law_cell_at" ["script", "k"] f1 fd1) (G_l_cell_at : FnOk P w K mg base (CX1 P w) 1 f1 fd1 ["script", "k"] (sp_l_cell_at K)) :
    FnOk P w K mg base (CX1 P w) 2 f fd ["script", "k"] (sp_l_pick K) := by
  refine F.zok1 sc_l_pick (fun vs H Q E h => ?_) (fun cdv A outer s H vs Q E hr h => ?_)
  · obtain ⟨a, ns, k, rfl, _⟩ := h
    rfl
  · obtain ⟨a, ns, k, rfl, ha, q⟩ := h
    refine ⟨_, (zpss_cons (zps_if (zpt_cmpR op_lt (zpv 1) (zpe_callB call_len_seq rfl T.len PySem.boot_len (zpa_cons (zpv 0) zpa_nil)) (nomark _)) (zpss_one (zps_ret (zpe_ix ix_list (zpv 0) (zpv 1) (fun _ _ => rfl)))) zpss_nil) (zpss_one (zps_ret (zpe_op op_fdiv (zpe_op op_mod (zpe_op op_mul (zpe_op op_add (zpe_op op_add (zpe_call G_l_cell_at (hr.mono (by decide)) rfl T_l_cell_at.m T_l_cell_at.k T_l_cell_at.b .nil pass1n (zpa_cons (zpv 0) (zpa_cons zpe_int zpa_nil))) (zpe_op op_mul zpe_int (zpv 1))) zpe_int) zpe_int) zpe_int) zpe_int)))), ?_⟩
    refine ⟨_, rfl, _, rfl, a, _, rfl, .inl ha, _, _, rfl, rfl, _, rfl, ?_⟩
    rw [List.length_map]
    unfold pickM at q
    by_cases h : k < ns.length
    · rw [if_pos h] at q
      rw [decide_eq_true (by omega)]
      rw [List.getD_eq_getElem?_getD, List.getElem?_eq_getElem h] at q
      refine iteT ⟨_, rfl, _, rfl, a, _, _, .int ns[k], rfl, rfl, ha, atI_nat ?_, q⟩
      rw [List.getElem?_map, List.getElem?_eq_getElem h]
      rfl
    · rw [if_neg h] at q
      rw [decide_eq_false (by omega)]
      refine iteF ⟨_, rfl, a, ns, 0, rfl, ha, _, rfl, _, _, rfl, rfl, .inl ⟨by decide, by decide⟩, _, _, rfl, rfl, _, _, rfl, rfl, _, _, rfl, rfl, .inr ⟨by decide, by decide⟩, _, _, rfl, rfl, (by show (0 : Int) < 2147483647; decide), _, _, rfl, rfl, ⟨by decide, by decide⟩, q⟩

theorem sc_l_mix : FnScope ["cell", "k", "mixed"] ["cell", "k"] (defScope s_l_mix) := ⟨rfl, rfl, rfl, by decide +kernel, rfl, by decide +kernel, by decide +kernel⟩
def sp_l_mix : Sp := fun vs H Q _ => ∃ (c : Int) (k : Nat), vs = [.int c, .int k] ∧ Q (.int (mixM c k)) H
theorem ok_l_mix {f : Addr} {fd : FuncData} (F : Fun K "_law_mix" "_law_mix" s_l_mix f fd) (T : Txt K mg aS aT) : FnOk P w K mg base (CX1 P w) 1 f fd ["cell", "k"] sp_l_mix := by
  refine F.zok1 sc_l_mix (fun vs H Q E h => ?_) (fun cdv A outer s H vs Q E hr h => ?_)
  · obtain ⟨c, k, rfl, _⟩ := h
    rfl
  · obtain ⟨c, k, rfl, q⟩ := h
    refine ⟨_, (zpss_cons (zps_set (i := 2) sc_l_mix.nd rfl (Or.inl rfl) (zpe_op op_mod (zpe_op op_add (zpe_op op_add (zpe_op op_mul (zpv 0) zpe_int) (zpe_op op_mul zpe_int (zpv 1))) zpe_int) zpe_int)) (zpss_cons (zps_set (i := 2) sc_l_mix.nd rfl (Or.inl rfl) (zpe_op op_mod (zpe_op op_add (zpe_op op_add (zpe_op op_mul (zpv 2) (zpv 2)) (zpe_op op_mul zpe_int (zpv 2))) (zpv 1)) zpe_int)) (zpss_one (zps_ret (zpe_op op_mod (zpe_op op_add (zpe_op op_add (zpe_op op_mul (zpv 2) (zpv 2)) (zpe_op op_mul zpe_int (zpv 2))) (zpe_op op_mul zpe_int (zpv 1))) zpe_int))))), ?_⟩
    refine ⟨_, rfl, _, _, rfl, rfl, .inr ⟨by decide, by decide⟩, _, rfl, _, _, rfl, rfl, .inl ⟨by decide, by decide⟩, _, _, rfl, rfl, _, _, rfl, rfl, _, _, rfl, rfl, (by show (0 : Int) < 2147483629; decide), ?_⟩
    refine ⟨_, rfl, _, rfl, _, _, rfl, rfl, .inl (mod64 _ _ (by decide) (by decide)), _, rfl, _, _, rfl, rfl, .inl ⟨by decide, by decide⟩, _, _, rfl, rfl, _, rfl, _, _, rfl, rfl, _, _, rfl, rfl, (by show (0 : Int) < 2147483647; decide), ?_⟩
    refine ⟨_, rfl, _, rfl, _, _, rfl, rfl, .inl (mod64 _ _ (by decide) (by decide)), _, rfl, _, _, rfl, rfl, .inl ⟨by decide, by decide⟩, _, _, rfl, rfl, _, rfl, _, _, rfl, rfl, .inl ⟨by decide, by decide⟩, _, _, rfl, rfl, _, _, rfl, rfl, (by show (0 : Int) < 2147483587; decide), q⟩

theorem sc_l_place : FnScope ["cell", "rare", "found", "stroke", "mixed", "mark"] ["cell"] (defScope s_l_place) := ⟨rfl, rfl, rfl, by decide +kernel, rfl, by decide +kernel, by decide +kernel⟩
def sp_l_place : Sp := fun vs H Q _ => ∃ c : Int, vs = [.int c] ∧ ∀ (ms : List Str) (l : Addr) (H' : Hp), GoodPlace ms → Same H H' → H l = none → H' l = some (.lst (ms.map V.str)) → Q (.ref l) H'
theorem ok_l_place {f f1 : Addr} {fd fd1 : FuncData} (F : Fun K "_law_place" "_law_place" s_l_place f fd) (T : Txt K mg aS aT) (T_l_mix : FnAt K mg "_law_mix" ["cell", "k"] f1 fd1) (G_l_mix : FnOk P w K mg base (CX1 P w) 1 f1 fd1 ["cell", "k"] sp_l_mix) :
    FnOk P w K mg base (CX1 P w) 2 f fd ["cell"] sp_l_place := by
  refine F.zok1 sc_l_place (fun vs H Q E h => ?_) (fun cdv A outer s H vs Q E hr h => ?_)
  · obtain ⟨c, rfl, _⟩ := h
    rfl
  · obtain ⟨c, rfl, q⟩ := h
    refine ⟨_, (zpss_cons (zps_set (i := 1) sc_l_place.nd rfl (Or.inl rfl) (zpe_ix ix_list (zpe_lst (zpa_const (vs := [.int 3, .int 6, .int 20]) rfl)) (zpe_op op_mod (zpe_call G_l_mix (hr.mono (by decide)) rfl T_l_mix.m T_l_mix.k T_l_mix.b .nil pass1n (zpa_cons (zpv 0) (zpa_cons zpe_int zpa_nil))) zpe_int) (fun _ _ => rfl))) (zpss_cons (zps_set (i := 2) sc_l_place.nd rfl (Or.inl rfl) (zpe_lst zpa_nil)) (zpss_cons (zps_for PassesOwn.never rfl (zpi_range1 rfl T.range (zpa_cons zpe_int zpa_nil)) (zpg_name (i := 3) sc_l_place.nd rfl (Or.inl rfl)) (zpss_cons (zps_set (i := 4) sc_l_place.nd rfl (Or.inl rfl) (zpe_op op_fdiv (zpe_call G_l_mix (hr.mono (by decide)) rfl T_l_mix.m T_l_mix.k T_l_mix.b .nil pass1n (zpa_cons (zpv 0) (zpa_cons (zpe_op op_add zpe_int (zpv 3)) zpa_nil))) zpe_int)) (zpss_cons (zps_set (i := 5) sc_l_place.nd rfl (Or.inl rfl) zpe_str) (zpss_cons (zps_if (zpt_cmpR op_eq (zpe_op op_mod (zpv 4) (zpv 1)) zpe_int (nomark _)) (zpss_one (zps_set (i := 5) sc_l_place.nd rfl (Or.inl rfl) (zpe_ix ix_list (zpe_lst (zpa_const (vs := [.str "dead", .str "stuck"]) rfl)) (zpe_op op_mod (zpe_op op_fdiv (zpv 4) (zpv 1)) zpe_int) (fun _ _ => rfl)))) zpss_nil) (zpss_one (zps_expr (zpe_bm PySem.F.plainAttrs_list PySem.F.slot_list_append PySem.F.type_list_append mt_append (zpv 2) (zpa_cons (zpv 5) zpa_nil)))))))) (zpss_one (zps_ret (zpv 2)))))), ?_⟩
    refine ⟨by show 3 ≤ sizeLine; decide, fun l0 n0 => ⟨_, rfl, c, 9, rfl, _, _, rfl, rfl, (by show (0 : Int) < 3; decide), ?_⟩⟩
    have s0 : Same H (upd H l0 (.lst [.int 3, .int 6, .int 20])) := Same.new n0
    obtain ⟨i, hi, ei⟩ : ∃ i : Nat, i < 3 ∧ mixM c 9 % 3 = (i : Int) := ⟨(mixM c 9 % 3).toNat, by omega, by omega⟩
    obtain ⟨ra, hra, era⟩ : ∃ ra : Int, (ra = 3 ∨ ra = 6 ∨ ra = 20) ∧ ([V.int 3, V.int 6, V.int 20])[i]? = some (.int ra) := by
      have : i = 0 ∨ i = 1 ∨ i = 2 := by omega
      rcases this with rfl | rfl | rfl
      · exact ⟨3, .inl rfl, rfl⟩
      · exact ⟨6, .inr (.inl rfl), rfl⟩
      · exact ⟨20, .inr (.inr rfl), rfl⟩
    have rpos : 0 < ra ∧ ra < 1073741824 := by rcases hra with rfl | rfl | rfl <;> decide
    refine ⟨l0, _, _, .int ra, rfl, rfl, SqL.of upd_same, (by show atI _ (mixM c 9 % 3) = _; rw [ei]; exact atI_nat era), ?_⟩
    refine ⟨Nat.zero_le _, fun lf nf => ?_⟩
    have nfH : H lf = none := s0.free nf
    refine ⟨7, rfl, by decide, by decide, for_range (n := 7) (fun i σ H' => Same H H' ∧ ∃ (ms : List Str) (v1 v2 v3 : Option V), ms.length = i ∧ (∀ m ∈ ms, IsMark m) ∧ H' lf = some (.lst (ms.map V.str)) ∧ σ = [some (.int c), some (.int ra), some (.ref lf), v1, v2, v3]) ⟨s0.upd nfH, [], none, none, none, rfl, (fun m h => nomatch h), upd_same, rfl⟩ ?_ ?_⟩
    · rintro j σ H' hj ⟨s1, ms, v1, v2, v3, hlen, hm, hlf, rfl⟩
      have fin : ∀ (m : Str) (H2 : Hp) (x1 x2 : Option V), IsMark m → Same H H2 → H2 lf = some (.lst (ms.map V.str)) → Same H (upd H2 lf (.lst (ms.map V.str ++ [.str m]))) ∧ ∃ (ms' : List Str) (v1 v2 v3 : Option V), ms'.length = j + 1 ∧ (∀ m ∈ ms', IsMark m) ∧ (upd H2 lf (.lst (ms.map V.str ++ [.str m]))) lf = some (.lst (ms'.map V.str)) ∧ [some (V.int c), some (.int ra), some (.ref lf), x1, x2, some (.str m)] = [some (.int c), some (.int ra), some (.ref lf), v1, v2, v3] := fun m H2 x1 x2 im s2 h2 => by
        refine ⟨s2.upd nfH, ms ++ [m], x1, x2, _, by rw [List.length_append, hlen]; rfl, fun y hy => ?_, ?_, rfl⟩
        · rcases List.mem_append.mp hy with z | z
          · exact hm y z
          · rw [List.mem_singleton.mp z]; exact im
        · rw [upd_same, List.map_append]; rfl
      have hsz : (ms.map V.str).length < sizeLine := by rw [List.length_map]; exact small1000 (by omega)
      refine ⟨_, rfl, _, rfl, _, _, rfl, rfl, c, 10 + j, ?_, _, _, rfl, rfl, ⟨by decide, by decide⟩, ?_⟩
      · show [V.int c, V.int (10 + (0 + (j : Int)))] = _
        rw [Int.zero_add]
        rfl
      refine ⟨_, rfl, _, rfl, _, _, rfl, rfl, rpos.1, rfl, _, rfl, ?_⟩
      refine ite2 (fun _ => ?_) fun _ => ?_
      · refine ⟨by show 2 ≤ sizeLine; decide, fun l2 n2 => ⟨_, rfl, _, rfl, _, _, rfl, rfl, rpos, _, _, rfl, rfl, (by show (0 : Int) < 2; decide), ?_⟩⟩
        have t2 : Same H' (upd H' l2 (.lst [.str "dead", .str "stuck"])) := Same.new n2
        generalize hx : mixM c ((10 + j : Nat) : Int) / 7 / ra = x
        obtain ⟨b, hb, eb⟩ : ∃ b : Nat, b < 2 ∧ x % 2 = (b : Int) := ⟨(x % 2).toNat, by omega, by omega⟩
        have hb' : b = 0 ∨ b = 1 := by omega
        rcases hb' with rfl | rfl
        · refine ⟨l2, _, _, .str "dead", rfl, rfl, SqL.of upd_same, (by show atI _ (x % 2) = _; rw [eb]; exact atI_nat rfl), ?_⟩
          refine ⟨_, rfl, .inl ⟨rfl, _, SqL.of (t2 _ _ hlf)⟩, _, rfl, lf, _, _, rfl, rfl, t2 _ _ hlf, hsz, ?_⟩
          exact fin "dead" _ _ _ (.inr (.inl rfl)) (s1.trans t2) (t2 _ _ hlf)
        · refine ⟨l2, _, _, .str "stuck", rfl, rfl, SqL.of upd_same, (by show atI _ (x % 2) = _; rw [eb]; exact atI_nat rfl), ?_⟩
          refine ⟨_, rfl, .inl ⟨rfl, _, SqL.of (t2 _ _ hlf)⟩, _, rfl, lf, _, _, rfl, rfl, t2 _ _ hlf, hsz, ?_⟩
          exact fin "stuck" _ _ _ (.inr (.inr rfl)) (s1.trans t2) (t2 _ _ hlf)
      · refine ⟨_, rfl, .inl ⟨rfl, _, SqL.of hlf⟩, _, rfl, lf, _, _, rfl, rfl, hlf, hsz, ?_⟩
        exact fin "good" _ _ _ (.inl rfl) s1 hlf
    · rintro σ H' ⟨s1, ms, v1, v2, v3, hlen, hm, hlf, rfl⟩
      exact ⟨_, rfl, q ms lf H' ⟨hlen, hm⟩ s1 nfH hlf⟩
end
end Lit

set_option Elab.async false
set_option linter.all false
set_option maxRecDepth 100000
namespace Lit
open PySem L2
/-- lists of marks stand at ts -/
def MarksAt (H : Hp) (ts : List Addr) (mk : List (List Str)) : Prop := Paired (fun t one => H t = some (.lst (one.map V.str))) ts mk
theorem MarksAt.same {H H' : Hp} (s : Same H H') {ts : List Addr} {mk : List (List Str)} (h : MarksAt H ts mk) : MarksAt H' ts mk := Paired.mapP h fun t q e => s _ _ e
theorem MarksAt.off {H : Hp} {a : Addr} {o : HO} : ∀ {ts : List Addr} {mk : List (List Str)}, MarksAt H ts mk → H a = none → MarksAt (upd H a o) ts mk
  | _, _, .nil, _ => .nil
  | _, _, .cons e r, h => .cons (by rw [upd_ne (ne_of_none e h)]; exact e) (MarksAt.off r h)
theorem MarksAt.get {H : Hp} : ∀ {ts : List Addr} {mk : List (List Str)} {j : Nat} {one : List Str}, MarksAt H ts mk → mk[j]? = some one → ∃ t, ts[j]? = some t ∧ H t = some (.lst (one.map V.str))
  | _, _, _, _, .nil, e => by simp at e
  | _, _, 0, _, .cons h _, e => by simp at e; subst e; exact ⟨_, rfl, h⟩
  | _, _, j + 1, one, .cons _ r, e => by
    obtain ⟨q, h1, h2⟩ := MarksAt.get (j := j) (one := one) r (by simpa using e)
    exact ⟨q, by simpa using h1, h2⟩
/-- showings stand at ts -/
def ShowsAt (H : Hp) (ts : List Addr) (qs : List (Int × Int)) : Prop := Paired (fun t q => H t = some (.tup [.int q.1, .int q.2])) ts qs
theorem ShowsAt.same {H H' : Hp} (s : Same H H') {ts : List Addr} {qs : List (Int × Int)} (h : ShowsAt H ts qs) : ShowsAt H' ts qs := Paired.mapP h fun t q e => s _ _ e
theorem ShowsAt.off {H : Hp} {a : Addr} {o : HO} : ∀ {ts : List Addr} {qs : List (Int × Int)}, ShowsAt H ts qs → (∀ t ∈ ts, t ≠ a) → ShowsAt (upd H a o) ts qs
  | _, _, .nil, _ => .nil
  | _, _, .cons e r, h => .cons (by rw [upd_ne (h _ List.mem_cons_self)]; exact e) (ShowsAt.off r fun t ht => h t (List.mem_cons_of_mem _ ht))
theorem ShowsAt.get {H : Hp} : ∀ {ts : List Addr} {qs : List (Int × Int)} {j : Nat} {t : Addr}, ShowsAt H ts qs → ts[j]? = some t → ∃ q, qs[j]? = some q ∧ H t = some (.tup [.int q.1, .int q.2])
  | _, _, _, _, .nil, e => by simp at e
  | _, _, 0, _, .cons h _, e => by simp at e; subst e; exact ⟨_, rfl, h⟩
  | _, _, j + 1, t, .cons _ r, e => by
    obtain ⟨q, h1, h2⟩ := ShowsAt.get (j := j) (t := t) r (by simpa using e)
    exact ⟨q, by simpa using h1, h2⟩
theorem ref_get {ts : List Addr} {i : Nat} {x : V} (h : (ts.map V.ref)[i]? = some x) : ∃ t, ts[i]? = some t ∧ x = .ref t := by
  rw [List.getElem?_map] at h
  cases q : ts[i]? with
  | none => rw [q] at h; cases h
  | some n => rw [q] at h; cases h; exact ⟨n, rfl, rfl⟩
theorem MarksAt.offs {H : Hp} {a : Addr} {o : HO} : ∀ {ts : List Addr} {mk : List (List Str)}, MarksAt H ts mk → (∀ t ∈ ts, t ≠ a) → MarksAt (upd H a o) ts mk
  | _, _, .nil, _ => .nil
  | _, _, .cons e r, h => .cons (by rw [upd_ne (h _ List.mem_cons_self)]; exact e) (MarksAt.offs r fun t ht => h t (List.mem_cons_of_mem _ ht))
theorem MarksAt.at {H : Hp} : ∀ {ts : List Addr} {mk : List (List Str)} {j : Nat} {t : Addr}, MarksAt H ts mk → ts[j]? = some t → ∃ one, mk[j]? = some one ∧ H t = some (.lst (one.map V.str))
  | _, _, _, _, .nil, e => by simp at e
  | _, _, 0, _, .cons h _, e => by simp at e; subst e; exact ⟨_, rfl, h⟩
  | _, _, j + 1, t, .cons _ r, e => by
    obtain ⟨q, h1, h2⟩ := MarksAt.at (j := j) (t := t) r (by simpa using e)
    exact ⟨q, by simpa using h1, h2⟩
/-- is the stroke lit in the look -/
def bitM (look : Int) (s : Nat) : Bool := decide (look / 2 ^ s % 2 = 1)
def wrongM (m : Str) (s : Nat) (q : Int × Int) : Bool := litL m (hasM q.1.toNat s) != bitM q.2 s
abbrev marks3 : List Str := ["good", "dead", "stuck"]
def openAt (qs : List (Int × Int)) (s : Nat) : List Str := marks3.filter fun m => !qs.any (wrongM m s)
def openM (qs : List (Int × Int)) : List (List Str) := (List.range 7).map (openAt qs)
def showsM (figs : List Nat) (ms : List Str) : List (Int × Int) := figs.map fun (f : Nat) => (((f : Nat) : Int), seenM ((f : Nat) : Int) ms)
theorem str_get {ms : List Str} {q : Nat} {x : V} (h : (ms.map V.str)[q]? = some x) : ∃ m, ms[q]? = some m ∧ x = .str m := by
  rw [List.getElem?_map] at h
  cases z : ms[q]? with
  | none => rw [z] at h; cases h
  | some m => rw [z] at h; cases h; exact ⟨m, rfl, rfl⟩
theorem and_nat (a b : Nat) : Builtin.bitAnd (a : Int) (b : Int) = ((a &&& b : Nat) : Int) := by
  unfold Builtin.bitAnd
  rw [decide_eq_true (Int.natCast_nonneg a), decide_eq_true (Int.natCast_nonneg b)]
  rfl
theorem or_nat (a b : Nat) : Builtin.bitOr (a : Int) (b : Int) = ((a ||| b : Nat) : Int) := by
  have n : ∀ c : Nat, ¬ (0 ≤ Builtin.bitNot (c : Int)) := fun c => by unfold Builtin.bitNot; omega
  have nn : ∀ i : Int, Builtin.bitNot (Builtin.bitNot i) = i := fun i => by unfold Builtin.bitNot; omega
  unfold Builtin.bitOr Builtin.bitAnd
  rw [decide_eq_false (n a), decide_eq_false (n b)]
  show Builtin.bitNot (Builtin.bitNot _) = _
  rw [nn, nn, nn]
  rfl
theorem xor128 : ∀ a, a < 128 → ∀ b, b < 128 → Builtin.bitXor ((a : Nat) : Int) ((b : Nat) : Int) = ((a ^^^ b : Nat) : Int) := by decide +kernel
theorem and_bit (x s : Nat) : (Builtin.bitAnd (x : Int) ((2 ^ s : Nat) : Int) = 0) ↔ x.testBit s = false := by
  rw [and_nat]
  constructor
  · intro h
    have h' : x &&& 2 ^ s = 0 := by omega
    have q : (x &&& 2 ^ s).testBit s = x.testBit s := by rw [Nat.testBit_and, Nat.testBit_two_pow_self, Bool.and_true]
    rw [← q, h', Nat.zero_testBit]
  · intro h
    have h' : x &&& 2 ^ s = 0 := by
      refine Nat.eq_of_testBit_eq fun i => ?_
      rw [Nat.testBit_and, Nat.testBit_two_pow, Nat.zero_testBit]
      by_cases e : s = i
      · subst e; rw [h]; rfl
      · rw [decide_eq_false e, Bool.and_false]
    rw [h']
    rfl
theorem fold_bit {α : Type} (h : α → Nat) (s : Nat) : ∀ (qs : List α) (a : Nat), (qs.foldl (fun g q => g ||| h q) a).testBit s = (a.testBit s || qs.any fun q => (h q).testBit s)
  | [], a => by simp
  | q :: r, a => by rw [List.foldl_cons, fold_bit h s r, Nat.testBit_or, List.any_cons, Bool.or_assoc]
theorem bit_has : ∀ f, f < 10 → ∀ s, s < 7 → (shapeM (f : Nat)).toNat.testBit s = hasM f s := by decide +kernel
theorem bit_all : ∀ s, s < 7 → (127 : Nat).testBit s = true := by decide
theorem bit_look (n s : Nat) : bitM ((n : Nat) : Int) s = n.testBit s := by
  unfold bitM
  rw [Nat.testBit_eq_decide_div_mod_eq]
  refine decide_eq_decide.mpr ?_
  have e : ((n : Nat) : Int) / 2 ^ s % 2 = ((n / 2 ^ s % 2 : Nat) : Int) := by simp
  rw [e]
  omega
section
variable {P : Program} {w : World} {K : PySem.W.Frag} {mg : Str → Option Value} {base : Heap} {aS aT : Addr}
def FigOk (q : Int × Int) : Prop := 0 ≤ q.1 ∧ q.1 < 10
instance (q : Int × Int) : Decidable (FigOk q) := inferInstanceAs (Decidable (0 ≤ q.1 ∧ q.1 < 10))
def misG (qs : List (Int × Int)) : Nat := qs.foldl (fun g q => g ||| (q.2.toNat ^^^ (shapeM q.1).toNat)) 0
def misD (qs : List (Int × Int)) : Nat := qs.foldl (fun g q => g ||| q.2.toNat) 0
def misS (qs : List (Int × Int)) : Nat := qs.foldl (fun g q => g ||| (q.2.toNat ^^^ 127)) 0
/-- showings at a -/
structure Shown (K : PySem.W.Frag) (H : Hp) (a : Addr) (ts : List Addr) (qs : List (Int × Int)) : Prop where
  sq : SqL K H a (ts.map V.ref)
  ats : ShowsAt H ts qs
  few : qs.length ≤ 100
  looks : ∀ q ∈ qs, 0 ≤ q.2 ∧ q.2 < 128
theorem Shown.same {K : PySem.W.Frag} {H H' : Hp} {a : Addr} {ts : List Addr} {qs : List (Int × Int)} (h : Shown K H a ts qs) (s : Same H H') : Shown K H' a ts qs := ⟨s.seq h.sq, h.ats.same s, h.few, h.looks⟩
theorem sc_misfits : FnScope ["showings", "good", "dead", "stuck", "figure", "look"] ["showings"] (defScope s_misfits) := ⟨rfl, rfl, rfl, by decide +kernel, rfl, by decide +kernel, by decide +kernel⟩
def spx_misfits (K : PySem.W.Frag) (cF : Addr) : Sp := fun vs H Q E => ∃ (a : Addr) (ts : List Addr) (qs : List (Int × Int)), vs = [.ref a] ∧ Shown K H a ts qs ∧
  ((∀ q ∈ qs, FigOk q) → ∀ t H', Same H H' → H t = none → H' t = some (.tup [.int (misG qs), .int (misD qs), .int (misS qs)]) → Q (.ref t) H') ∧ ((¬ ∀ q ∈ qs, FigOk q) → ∀ H', Same H H' → E (.ref cF) none H')
theorem mis_snoc (qs : List (Int × Int)) (q : Int × Int) : misG (qs ++ [q]) = misG qs ||| (q.2.toNat ^^^ (shapeM q.1).toNat) ∧ misD (qs ++ [q]) = misD qs ||| q.2.toNat ∧ misS (qs ++ [q]) = misS qs ||| (q.2.toNat ^^^ 127) := by
  unfold misG misD misS
  rw [List.foldl_append, List.foldl_append, List.foldl_append]
  exact ⟨rfl, rfl, rfl⟩
theorem shape_lt : ∀ f, f < 10 → (shapeM ((f : Nat) : Int)).toNat < 128 ∧ (((shapeM ((f : Nat) : Int)).toNat : Nat) : Int) = shapeM ((f : Nat) : Int) := by decide +kernel
set_option maxHeartbeats 2000000 in
theorem ok_misfits {cF f f1 : Addr} {fd fd1 : FuncData} {t7 : Tok} (F : Fun K "misfits" "misfits" s_misfits f fd) (T : Txt K mg aS aT) (T_ALL_LIT : mg "ALL_LIT" = some (.int 127 t7)) (T_shape : FnAt K mg "shape" ["figure"] f1 fd1) (G_shape : FnOk P w K mg base (CX1 P w) 1 f1 fd1 ["figure"] (spx_shape cF)) :
    FnOk P w K mg base (CX1 P w) 2 f fd ["showings"] (spx_misfits K cF) := by
  refine F.zokX sc_misfits (fun vs H Q E h => ?_) (fun cdv A outer s H vs Q E hr h => ?_)
  · obtain ⟨a, ts, qs, rfl, _⟩ := h
    rfl
  · refine ⟨_, (zpss_cons (zps_set (i := 1) sc_misfits.nd rfl (Or.inl rfl) zpe_int) (zpss_cons (zps_set (i := 2) sc_misfits.nd rfl (Or.inl rfl) zpe_int) (zpss_cons (zps_set (i := 3) sc_misfits.nd rfl (Or.inl rfl) zpe_int) (zpss_cons (zps_for PassesOwn.leaving rfl (zpi_list (zpv 0)) (zpg_tup rfl (zpgs_cons (zpg_name (i := 4) sc_misfits.nd rfl (Or.inl rfl)) (zpgs_cons (zpg_name (i := 5) sc_misfits.nd rfl (Or.inl rfl)) zpgs_nil))) (zpss_cons (zps_set (i := 1) sc_misfits.nd rfl (Or.inl rfl) (zpe_op op_or (zpv 1) (zpe_op op_xor (zpv 5) (zpe_call G_shape (hr.mono (by decide)) rfl T_shape.m T_shape.k T_shape.b .nil pass1 (zpa_cons (zpv 4) zpa_nil))))) (zpss_cons (zps_set (i := 2) sc_misfits.nd rfl (Or.inl rfl) (zpe_op op_or (zpv 2) (zpv 5))) (zpss_one (zps_set (i := 3) sc_misfits.nd rfl (Or.inl rfl) (zpe_op op_or (zpv 3) (zpe_op op_xor (zpv 5) (zpe_glob (v := .int 127) rfl T_ALL_LIT ⟨_, rfl⟩)))))))) (zpss_one (zps_ret (zpe_tup (zpa_cons (zpv 1) (zpa_cons (zpv 2) (zpa_cons (zpv 3) zpa_nil)))))))))), ?_⟩
    obtain ⟨a, ts, qs, rfl, hs, kQ, kE⟩ := h
    have tl := hs.ats.length
    refine ⟨_, rfl, a, rfl, ⟨_, hs.sq⟩, for_list (xs := ts.map V.ref) (fun i σ H' => Same H H' ∧ i ≤ qs.length ∧ (∀ q ∈ qs.take i, FigOk q) ∧ ∃ v4 v5, σ = [some (.ref a), some (.int (misG (qs.take i))), some (.int (misD (qs.take i))), some (.int (misS (qs.take i))), v4, v5])
      ⟨Same.refl _, Nat.zero_le _, (fun q h => nomatch h), none, none, rfl⟩ (fun i σ H' _ p => p.1.seq hs.sq) ?_ ?_⟩
    · rintro i x σ H1 ex ⟨s1, hi, hok, v4, v5, rfl⟩
      obtain ⟨t, et, rfl⟩ := ref_get ex
      obtain ⟨sh, esh, ht⟩ := (hs.ats.same s1).get et
      have hi' : i < qs.length := (List.getElem?_eq_some_iff.mp esh).1
      obtain ⟨l0, l1⟩ := hs.looks sh (List.mem_of_getElem? esh)
      refine ⟨t, _, rfl, SqT.of ht, rfl, _, _, rfl, _, _, rfl, rfl, ?_⟩
      by_cases fo : FigOk sh
      · have fo' := fo
        obtain ⟨f0, f1⟩ := fo'
        have e1 : sh.1 = ((sh.1.toNat : Nat) : Int) := by omega
        have e2 : sh.2 = ((sh.2.toNat : Nat) : Int) := by omega
        obtain ⟨g1, g2⟩ := shape_lt sh.1.toNat (by omega)
        rw [← e1] at g1 g2
        obtain ⟨m1, m2, m3⟩ := mis_snoc (qs.take i) sh
        have et1 : qs.take (i + 1) = qs.take i ++ [sh] := by rw [List.take_add_one, esh]; rfl
        have x1 : Builtin.bitXor sh.2 (shapeM sh.1) = ((sh.2.toNat ^^^ (shapeM sh.1).toNat : Nat) : Int) := by
          rw [← xor128 sh.2.toNat (by omega) (shapeM sh.1).toNat g1, g2, ← e2]
        have x2 : Builtin.bitXor sh.2 127 = ((sh.2.toNat ^^^ 127 : Nat) : Int) := by
          rw [← xor128 sh.2.toNat (by omega) 127 (by decide), ← e2]
          rfl
        refine ⟨_, rfl, _, rfl, _, rfl, .inl ⟨sh.1.toNat, by rw [← e1]; rfl, by omega, _, _, rfl, rfl, _, _, rfl, rfl, ?_⟩⟩
        refine ⟨_, rfl, _, rfl, _, _, rfl, rfl, _, rfl, _, rfl, _, _, rfl, rfl, _, _, rfl, rfl, s1, hi', ?_, some (.int sh.1), some (.int sh.2), ?_⟩
        · rw [et1]
          intro q hq
          rcases List.mem_append.mp hq with z | z
          · exact hok q z
          · rw [List.mem_singleton.mp z]; exact fo
        · rw [et1, m1, m2, m3]
          show [some (V.ref a), some (V.int (Builtin.bitOr (misG (qs.take i) : Nat) (Builtin.bitXor sh.2 (shapeM (sh.1.toNat : Nat))))), some (V.int (Builtin.bitOr (misD (qs.take i) : Nat) sh.2)), some (V.int (Builtin.bitOr (misS (qs.take i) : Nat) (Builtin.bitXor sh.2 127))), some (V.int sh.1), some (V.int sh.2)] = _
          rw [← e1, x1, x2, or_nat, or_nat, e2, or_nat, Int.toNat_natCast]
      · refine ⟨_, rfl, _, rfl, _, rfl, .inr ⟨sh.1, rfl, ?_, kE (fun z => fo (z sh (List.mem_of_getElem? esh))) H1 s1⟩⟩
        unfold FigOk at fo
        omega
    · rintro σ H1 ⟨s1, hi, hok, v4, v5, rfl⟩
      rw [List.take_of_length_le (by rw [List.length_map]; omega)] at hok ⊢
      refine ⟨_, rfl, _, rfl, _, rfl, by show 3 ≤ sizeLine; decide, fun t nt => kQ hok t _ (s1.upd (s1.free nt)) (s1.free nt) upd_same⟩

theorem sc_fitting_marks : FnScope ["stroke", "missed"] ["stroke", "missed"] (defScope s_fitting_marks) := ⟨rfl, rfl, rfl, by decide +kernel, rfl, by decide +kernel, by decide +kernel⟩
def missM (qs : List (Int × Int)) : List Int := [(misG qs : Nat), (misD qs : Nat), (misS qs : Nat)]
def fitsM (st : Int) (p : Str × Int) : Bool := decide (Builtin.bitAnd p.2 st = 0)
def fitM (st : Int) (qs : List (Int × Int)) : List Str := ((marks3.zip (missM qs)).filter (fitsM st)).map (·.1)
def sp_fitting_marks (K : PySem.W.Frag) : Sp := fun vs H Q _ => ∃ (st : Int) (t : Addr) (qs : List (Int × Int)), vs = [.int st, .ref t] ∧ SqT K H t ((missM qs).map V.int) ∧ ∀ l H', Same H H' → H l = none → H' l = some (.lst ((fitM st qs).map V.str)) → Q (.ref l) H'
theorem ok_fitting_marks {f aM : Addr} {fd : FuncData} (F : Fun K "fitting_marks" "fitting_marks" s_fitting_marks f fd) (T : Txt K mg aS aT) (T_MARKS : mg "MARKS" = some (.ref aM)) (D_MARKS : ∀ H : Hp, SqT K H aM (marks3.map V.str)) :
    FnOk P w K mg base (CX1 P w) 1 f fd ["stroke", "missed"] (sp_fitting_marks K) := by
  refine F.zok1 sc_fitting_marks (fun vs H Q E h => ?_) (fun cdv A outer s H vs Q E hr h => ?_)
  · obtain ⟨st, t, qs, rfl, _⟩ := h
    rfl
  · obtain ⟨st, t, qs, rfl, ht, k⟩ := h
    refine ⟨_, (zpss_one (zps_ret (zpe_lc (N' := ["mark", "strokes", "stroke"]) (js := [none, none, some 0]) rfl (compOk.scope (sc := defScope s_fitting_marks) (N := ["stroke", "missed"]) (by decide +kernel)) (zpi_zip (k1 := false) (k2 := false) rfl T.zip (zpa_cons (zpe_gref rfl T_MARKS) (zpa_cons (zpv 1) zpa_nil))) (fun _ _ _ _ _ => (zpg_tupK (K := K) 2 rfl rfl (zpgs_cons (zpg_name (i := 0) (show (["mark", "strokes", "stroke"] : List Str).Nodup from by decide +kernel) rfl (Or.inl rfl)) (zpgs_cons (zpg_name (i := 1) (show (["mark", "strokes", "stroke"] : List Str).Nodup from by decide +kernel) rfl (Or.inl rfl)) zpgs_nil)))) (fun _ _ _ _ _ => (zpif_one (zpt_cmpR op_eq (zpe_op op_and (zpv 1) (zpv 2)) zpe_int (nomark _)))) (fun _ _ _ _ _ => (zpv 0))))), ?_⟩
    refine ⟨_, rfl, aM, t, marks3.map V.str, (missM qs).map V.int, rfl, D_MARKS H, ht, lc_zip (xs := marks3.map V.str) (zs := (missM qs).map V.int) rfl
      (fun i ys H' => Same H H' ∧ ys.length ≤ i ∧ i ≤ 3 ∧ ys = ((((marks3.zip (missM qs)).take i).filter (fitsM st)).map fun p => V.str p.1)) ⟨Same.refl H, Nat.le_refl _, by decide, rfl⟩ (fun i ys H' p => ⟨D_MARKS H', p.1.sqt ht⟩) ?_ ?_ ?_⟩
    · rintro ys H' ⟨s1, hy, hi, rfl⟩ p np
      refine k p _ (s1.upd (s1.free np)) (s1.free np) ?_
      rw [upd_same]
      unfold fitM
      rw [List.map_map]
      rfl
    · rintro i x z Tt ys H' ex ez ⟨s1, hy, hi, rfl⟩ nT
      refine ⟨Nat.lt_of_le_of_lt hy (small1000 (by omega)), _, _, rfl, SqT.of upd_same, rfl, _, _, rfl, _, _, rfl, rfl, ?_⟩
      obtain ⟨m, em, rfl⟩ := str_get ex
      obtain ⟨n, en, rfl⟩ := int_get ez
      have hi' : i < 3 := by have q := (List.getElem?_eq_some_iff.mp em).1; exact q
      have e3 : (marks3.zip (missM qs))[i]? = some (m, n) := PyProof.Rows.zip_get em en
      have s2 : Same H (upd H' Tt (.tup [.str m, .int n])) := s1.upd (s1.free nT)
      have ft := filter_take (fitsM st) (marks3.zip (missM qs)) i (m, n) e3
      refine ⟨(Sub.set rfl).trans (Sub.set rfl), _, rfl, _, rfl, _, _, rfl, rfl, rfl, _, rfl, ?_⟩
      rw [dec_int']
      cases eb : fitsM st (m, n) with
      | true =>
        rw [show decide (Builtin.bitAnd n st = 0) = true from eb]
        rw [eb, if_pos rfl] at ft
        refine iteT ⟨_, rfl, s2, ?_, hi', ?_⟩
        · rw [List.length_append, List.length_singleton]; omega
        · rw [ft, List.map_append]; rfl
      | false =>
        rw [show decide (Builtin.bitAnd n st = 0) = false from eb]
        rw [eb, if_neg Bool.false_ne_true, List.append_nil] at ft
        refine iteF ⟨s2, by omega, hi', ?_⟩
        rw [ft]
    · rintro i ys H' ⟨_, hy, hi, _⟩
      exact Nat.lt_of_le_of_lt hy (small1000 (by omega))

theorem fit_law {qs : List (Int × Int)} (hl : ∀ q ∈ qs, 0 ≤ q.2 ∧ q.2 < 128) (hf : ∀ q ∈ qs, FigOk q) {i : Nat} (hi : i < 7) : fitM (strokes.getD i 0) qs = openAt qs i := by
  have e2 : strokes.getD i 0 = ((2 ^ i : Nat) : Int) := by
    have : ∀ i, i < 7 → strokes.getD i 0 = ((2 ^ i : Nat) : Int) := by decide
    exact this i hi
  have bG : ∀ q ∈ qs, (q.2.toNat ^^^ (shapeM q.1).toNat).testBit i = wrongM "good" i q := fun q hq => by
    obtain ⟨f0, f1⟩ := hf q hq
    obtain ⟨l0, l1⟩ := hl q hq
    have e1 : q.1 = ((q.1.toNat : Nat) : Int) := by omega
    have e3 : q.2 = ((q.2.toNat : Nat) : Int) := by omega
    have h1 := bit_has q.1.toNat (by omega) i hi
    rw [← e1] at h1
    have h2 := bit_look q.2.toNat i
    rw [← e3] at h2
    unfold wrongM
    rw [Nat.testBit_xor, h1, h2, show litL "good" (hasM q.1.toNat i) = hasM q.1.toNat i from rfl]
    cases hasM q.1.toNat i <;> cases q.2.toNat.testBit i <;> rfl
  have bD : ∀ q ∈ qs, q.2.toNat.testBit i = wrongM "dead" i q := fun q hq => by
    obtain ⟨l0, l1⟩ := hl q hq
    have e3 : q.2 = ((q.2.toNat : Nat) : Int) := by omega
    have h2 := bit_look q.2.toNat i
    rw [← e3] at h2
    unfold wrongM
    rw [h2, show litL "dead" (hasM q.1.toNat i) = false from rfl]
    cases q.2.toNat.testBit i <;> rfl
  have bS : ∀ q ∈ qs, (q.2.toNat ^^^ 127).testBit i = wrongM "stuck" i q := fun q hq => by
    obtain ⟨l0, l1⟩ := hl q hq
    have e3 : q.2 = ((q.2.toNat : Nat) : Int) := by omega
    have h2 := bit_look q.2.toNat i
    rw [← e3] at h2
    unfold wrongM
    rw [Nat.testBit_xor, bit_all i hi, h2, show litL "stuck" (hasM q.1.toNat i) = true from rfl]
    cases q.2.toNat.testBit i <;> rfl
  have anyE : ∀ (g : Int × Int → Bool) (k : Int × Int → Bool), (∀ q ∈ qs, g q = k q) → qs.any g = qs.any k := fun g k e => by
    rw [Bool.eq_iff_iff, List.any_eq_true, List.any_eq_true]
    exact ⟨fun ⟨q, hq, z⟩ => ⟨q, hq, by rw [← e q hq]; exact z⟩, fun ⟨q, hq, z⟩ => ⟨q, hq, by rw [e q hq]; exact z⟩⟩
  have F : ∀ (n : Nat) (m : Str), n.testBit i = qs.any (wrongM m i) → fitsM (strokes.getD i 0) (m, (n : Int)) = !qs.any (wrongM m i) := fun n m e => by
    unfold fitsM
    rw [e2, ← e]
    cases q : n.testBit i with
    | false => exact decide_eq_true ((and_bit n i).mpr q)
    | true => exact decide_eq_false fun z => by rw [(and_bit n i).mp z] at q; cases q
  have g1 := F (misG qs) "good" (by unfold misG; rw [fold_bit, Nat.zero_testBit, Bool.false_or]; exact anyE _ _ bG)
  have g2 := F (misD qs) "dead" (by unfold misD; rw [fold_bit, Nat.zero_testBit, Bool.false_or]; exact anyE _ _ bD)
  have g3 := F (misS qs) "stuck" (by unfold misS; rw [fold_bit, Nat.zero_testBit, Bool.false_or]; exact anyE _ _ bS)
  unfold fitM openAt missM
  simp only [List.zip_cons_cons, List.zip_nil_right, List.filter_cons, List.filter_nil, g1, g2, g3]
  cases qs.any (wrongM "good" i) <;> cases qs.any (wrongM "dead" i) <;> cases qs.any (wrongM "stuck" i) <;> rfl
theorem sc_open_marks : FnScope ["showings", "missed", "told"] ["showings"] (defScope s_open_marks) := ⟨rfl, rfl, rfl, by decide +kernel, rfl, by decide +kernel, by decide +kernel⟩
def clashM (qs : List (Int × Int)) : Bool := (openM qs).any (·.isEmpty)
def spx_open_marks (K : PySem.W.Frag) (cF cC : Addr) : Sp := fun vs H Q E => ∃ (a : Addr) (ts : List Addr) (qs : List (Int × Int)), vs = [.ref a] ∧ Shown K H a ts qs ∧
  ((∀ q ∈ qs, FigOk q) → clashM qs = false → ∀ (l : Addr) (us : List Addr) (H' : Hp), Same H H' → H l = none → H' l = some (.lst (us.map V.ref)) → MarksAt H' us (openM qs) → (∀ u ∈ us, u ≠ l ∧ H u = none) → us.Nodup → Q (.ref l) H') ∧
  ((∀ q ∈ qs, FigOk q) → clashM qs = true → ∀ H', Same H H' → E (.ref cC) none H') ∧ ((¬ ∀ q ∈ qs, FigOk q) → ∀ H', Same H H' → E (.ref cF) none H')
theorem any_nil : ∀ rows : List (List Str), ((rows.map dP).any fun y => PyData.eqv y (.list [])) = rows.any (·.isEmpty)
  | [] => rfl
  | r :: rows => by
    rw [List.map_cons, List.any_cons, List.any_cons, any_nil rows]
    congr 1
    cases r with
    | nil => simp [PyData.eqv, PyData.eqvAll]
    | cons x r => simp [PyData.eqv, PyData.eqvAll]
theorem lay_marks : ∀ rows : List (List Str), (∀ r ∈ rows, ∀ m ∈ r, IsMark m) → PyData.canLayAll0 (rows.map dP) = true
  | [], _ => rfl
  | r :: rows, h => by
    simp only [List.map_cons, PyData.canLayAll0, lay_marks rows (fun q hq => h q (List.mem_cons_of_mem _ hq)), (Plain.strs r fun x hx => mark_ok (h r List.mem_cons_self x hx)).can, Bool.and_self]
theorem open_mark {qs : List (Int × Int)} : ∀ r ∈ openM qs, ∀ m ∈ r, IsMark m := fun r hr m hm => by
  obtain ⟨i, _, rfl⟩ := List.mem_map.mp hr
  have := (List.mem_filter.mp hm).1
  have q : ∀ m ∈ marks3, IsMark m := fun m hm => by
    simp at hm
    exact hm
  exact q m this
theorem MarksAt.rep {K : PySem.W.Frag} {H : Hp} : ∀ {ts : List Addr} {mk : List (List Str)}, MarksAt H ts mk → RepAll K H (ts.map V.ref) (dPs mk)
  | _, _, .nil => .nil
  | _, _, .cons e r => .cons (.list (SqL.of e) (RepAll.strs _)) (MarksAt.rep r)
set_option maxHeartbeats 2000000 in
theorem ok_open_marks {cF cC f f1 f2 : Addr} {fd fd1 fd2 : FuncData} (F : Fun K "open_marks" "open_marks" s_open_marks f fd) (T : Txt K mg aS aT) (mk_Clash : ExcC K cC) (m_Clash : mg "Clash" = some (.ref cC)) (T_misfits : FnAt K mg "misfits" ["showings"] f1 fd1) (G_misfits : FnOk P w K mg base (CX1 P w) 2 f1 fd1 ["showings"] (spx_misfits K cF))
    (T_fitting_marks : FnAt K mg "fitting_marks" ["stroke", "missed"] f2 fd2) (G_fitting_marks : FnOk P w K mg base (CX1 P w) 1 f2 fd2 ["stroke", "missed"] (sp_fitting_marks K)) : FnOk P w K mg base (CX1 P w) 3 f fd ["showings"] (spx_open_marks K cF cC) := by
  refine F.zokX sc_open_marks (fun vs H Q E h => ?_) (fun cdv A outer s H vs Q E hr h => ?_)
  · obtain ⟨a, ts, qs, rfl, _⟩ := h
    rfl
  · refine ⟨_, (zpss_cons (zps_set (i := 1) sc_open_marks.nd rfl (Or.inr rfl) (zpe_call G_misfits (hr.mono (by decide)) rfl T_misfits.m T_misfits.k T_misfits.b .nil pass1 (zpa_cons (zpv 0) zpa_nil))) (zpss_cons (zps_setlc (i := 2) (N' := ["stroke", "missed"]) (js := [none, some 1]) rfl sc_open_marks.nd rfl (Or.inl rfl) (compOk.scope (sc := defScope s_open_marks) (N := ["showings", "missed", "told"]) (by decide +kernel)) (zpi_tup (zpe_gref rfl T.STROKES)) (fun _ _ _ _ _ => (zpg_name (i := 0) (show (["stroke", "missed"] : List Str).Nodup from by decide +kernel) rfl (Or.inl rfl))) (fun _ _ _ _ _ => zpif_nil) (fun _ _ _ _ _ => (zpe_call G_fitting_marks (hr.mono (by decide)) rfl T_fitting_marks.m T_fitting_marks.k T_fitting_marks.b .nil pass1n (zpa_cons (zpv 0) (zpa_cons (zpv 1) zpa_nil))))) (zpss_cons (zps_if (zpt_cmpR (op_inDK (K := K) rfl hr.units) (zpe_lst zpa_nil) (zpv 2) rfl) (zpss_one (zps_raise mk_Clash hr.hd m_Clash rfl (zpa_const (vs := [.str "a stroke was seen as no mark lets it be seen"]) rfl))) zpss_nil) (zpss_one (zps_ret (zpv 2)))))), ?_⟩
    obtain ⟨a, ts, qs, rfl, hs, kQ, kC, kF⟩ := h
    refine ⟨_, rfl, a, ts, qs, rfl, hs, fun ok t H1 s1 nt ht => ?_, fun bad H1 s1 => kF bad H1 s1⟩
    have ht' : SqT K H1 t ((missM qs).map V.int) := SqT.of ht
    refine ⟨aT, rfl, ⟨_, T.strokes H1⟩, lc_tup (xs := strokes.map V.int) (fun i ys H' => Same H1 H' ∧ i ≤ 7 ∧ ∃ us, MarksAt H' us ((List.range i).map (openAt qs)) ∧ ys = us.map V.ref ∧ (∀ u ∈ us, H u = none) ∧ us.Nodup) ⟨Same.refl _, by decide, [], .nil, rfl, (fun u h => nomatch h), .nil⟩ (fun i ys H' p => T.strokes H') ?_ ?_⟩
    · rintro ys H2 ⟨s2, _, us, hus, rfl, hn, hnd⟩ l nl
      have s02 := s1.trans s2
      have hus : MarksAt H2 us (openM qs) := hus
      have s3 : Same H2 (upd H2 l (.lst (us.map V.ref))) := Same.new nl
      have hl : (upd H2 l (.lst (us.map V.ref))) l = some (.lst (us.map V.ref)) := upd_same
      have hus3 := hus.same s3
      have s03 := s02.trans s3
      have nl0 := s02.free nl
      have une : ∀ u ∈ us, u ≠ l := fun u hu z => by
        obtain ⟨i, hi⟩ := List.getElem?_of_mem hu
        obtain ⟨one, _, hu2⟩ := hus.at hi
        rw [z, nl] at hu2
        cases hu2
      generalize upd H2 l (.lst (us.map V.ref)) = H3 at *
      refine ⟨Nat.zero_le _, fun ln nn => ?_⟩
      have s4 : Same H3 (upd H3 ln (.lst [])) := Same.new nn
      have hus4 := hus3.same s4
      have s04 := s03.trans s4
      refine ⟨_, rfl, .list [], dPs (openM qs), .list (SqL.of upd_same) .nil, .list (SqL.of (s4 _ _ hl)) hus4.rep, by decide, lay_marks _ open_mark, by decide, _, rfl, ?_⟩
      rw [show ((dPs (openM qs)).any fun y => PyData.eqv y (.list [])) = clashM qs from any_nil _]
      cases ec : clashM qs with
      | true => exact iteT ⟨by show 1 ≤ sizeLine; decide, kC ok ec _ s04⟩
      | false => exact iteF ⟨_, rfl, kQ ok ec l us _ s04 nl0 (s4 _ _ hl) hus4 (fun u hu => ⟨une u hu, hn u hu⟩) hnd⟩
    · rintro i x ys H2 ex ⟨s2, hi, us, hus, rfl, hn, hnd⟩
      obtain ⟨st, est, rfl⟩ := int_get ex
      have hi' : i < 7 := by have q := (List.getElem?_eq_some_iff.mp est).1; exact q
      have e1 : st = strokes.getD i 0 := by rw [List.getD_eq_getElem?_getD, est]; rfl
      have ul := hus.length
      rw [List.length_map, List.length_range] at ul
      refine ⟨by rw [List.length_map]; exact small1000 (by omega), Sub.set rfl, _, rfl, _, rfl, st, t, qs, rfl, s2.sqt ht', fun l H3 s3 nl hl => ⟨s2.trans s3, hi', us ++ [l], ?_, by rw [List.map_append]; rfl, fun u hu => ?_, ?_⟩⟩
      · rw [List.range_succ, List.map_append]
        refine Paired.snoc (hus.same s3) ?_
        rw [hl, e1, fit_law hs.looks ok hi']
      · rcases List.mem_append.mp hu with z | z
        · exact hn u z
        · rw [List.mem_singleton.mp z]; exact (s1.trans s2).free nl
      · rw [List.nodup_append]
        refine ⟨hnd, by simp, fun a ha b hb => ?_⟩
        rw [List.mem_singleton.mp hb]
        intro z
        obtain ⟨j, hj⟩ := List.getElem?_of_mem ha
        obtain ⟨one, _, ha2⟩ := hus.at hj
        rw [z, nl] at ha2
        cases ha2

theorem sc_fewest : FnScope ["showings"] ["showings"] (defScope s_fewest) := ⟨rfl, rfl, rfl, by decide +kernel, rfl, by decide +kernel, by decide +kernel⟩
def noGood (ms : List Str) : Bool := !decide (("good" : Str) ∈ ms)
def fewestM (qs : List (Int × Int)) : Nat := ((openM qs).filter noGood).length
def spx_fewest (K : PySem.W.Frag) (cF cC : Addr) : Sp := fun vs H Q E => ∃ (a : Addr) (ts : List Addr) (qs : List (Int × Int)), vs = [.ref a] ∧ Shown K H a ts qs ∧
  ((∀ q ∈ qs, FigOk q) → clashM qs = false → ∀ H', Same H H' → Q (.int (fewestM qs : Nat)) H') ∧ ((∀ q ∈ qs, FigOk q) → clashM qs = true → ∀ H', Same H H' → E (.ref cC) none H') ∧ ((¬ ∀ q ∈ qs, FigOk q) → ∀ H', Same H H' → E (.ref cF) none H')
theorem all_flat (ms : List Str) : (ms.map V.str).all flatV = true := by
  rw [List.all_map, List.all_eq_true]
  intro m _
  rfl
theorem in_strs (x : Str) (ms : List Str) : inV (.str x) (ms.map V.str) = decide (x ∈ ms) := by
  unfold inV
  rw [List.any_map]
  show (ms.any fun y => y == x) = _
  rw [Bool.eq_iff_iff, List.any_eq_true, decide_eq_true_iff]
  exact ⟨fun ⟨y, hy, e⟩ => by rw [← eq_of_beq e]; exact hy, fun h => ⟨x, h, beq_self_eq_true x⟩⟩
theorem ok_fewest {cF cC f f1 : Addr} {fd fd1 : FuncData} (F : Fun K "fewest" "fewest" s_fewest f fd) (T : Txt K mg aS aT) (T_open_marks : FnAt K mg "open_marks" ["showings"] f1 fd1) (G_open_marks : FnOk P w K mg base (CX1 P w) 3 f1 fd1 ["showings"] (spx_open_marks K cF cC)) :
    FnOk P w K mg base (CX1 P w) 4 f fd ["showings"] (spx_fewest K cF cC) := by
  refine F.zokX sc_fewest (fun vs H Q E h => ?_) (fun cdv A outer s H vs Q E hr h => ?_)
  · obtain ⟨a, ts, qs, rfl, _⟩ := h
    rfl
  · refine ⟨_, (zpss_one (zps_ret (zpe_callB call_len_seq rfl T.len PySem.boot_len (zpa_cons (zpe_lc (N' := ["marks"]) (js := [none]) rfl (compOk.scope (sc := defScope s_fewest) (N := ["showings"]) (by decide +kernel)) (zpi_list (zpe_call G_open_marks (hr.mono (by decide)) rfl T_open_marks.m T_open_marks.k T_open_marks.b .nil pass1 (zpa_cons (zpv 0) zpa_nil))) (fun _ _ _ _ _ => (zpg_name (i := 0) (show (["marks"] : List Str).Nodup from by decide +kernel) rfl (Or.inl rfl))) (fun _ _ _ _ _ => (zpif_one (zpt_cmpR (op_notInK (K := K) rfl) zpe_str (zpv 0) rfl))) (fun _ _ _ _ _ => (zpv 0))) zpa_nil)))), ?_⟩
    obtain ⟨a, ts, qs, rfl, hs, kQ, kC, kF⟩ := h
    refine ⟨_, rfl, a, ts, qs, rfl, hs, fun ok ec l us H1 s1 nl hl hus une hnd => ?_, kC, kF⟩
    refine ⟨l, rfl, ⟨_, SqL.of hl⟩, lc_list (xs := us.map V.ref) (fun i ys H' => Same H1 H' ∧ i ≤ 7 ∧ ys.length = (((openM qs).take i).filter noGood).length) ⟨Same.refl _, by decide, rfl⟩ (fun i ys H' p => SqL.of (p.1 _ _ hl)) ?_ ?_⟩
    · rintro ys H2 ⟨s2, _, hy⟩ l2 nl2
      have ul := hus.length
      rw [List.take_of_length_le (by rw [List.length_map]; omega)] at hy
      refine ⟨l2, ys, rfl, .inl (SqL.of upd_same), ?_⟩
      rw [hy]
      exact kQ ok ec _ ((s1.trans s2).upd ((s1.trans s2).free nl2))
    · rintro i x ys H2 ex ⟨s2, hi, hy⟩
      obtain ⟨t, et, rfl⟩ := ref_get ex
      obtain ⟨one, eo, ht⟩ := hus.at et
      have hi' : i < 7 := by
        have q := (List.getElem?_eq_some_iff.mp eo).1
        unfold openM at q
        rw [List.length_map, List.length_range] at q
        exact q
      have ft := filter_take noGood (openM qs) i one eo
      have hle : (((openM qs).take i).filter noGood).length ≤ 7 := Nat.le_trans (List.length_filter_le _ _) (by rw [List.length_take]; omega)
      refine ⟨by rw [hy]; exact small1000 (by omega), Sub.set rfl, _, rfl, t, one.map V.str, rfl, .inl (SqL.of (s2 _ _ ht)), rfl, all_flat one, _, rfl, ?_⟩
      rw [if_pos rfl, in_strs]
      cases eg : noGood one with
      | true =>
        rw [show (!decide (("good" : Str) ∈ one)) = true from eg]
        rw [eg, if_pos rfl] at ft
        refine iteT ⟨_, rfl, s2, hi', ?_⟩
        rw [ft, List.length_append, List.length_append, hy]
        rfl
      | false =>
        rw [show (!decide (("good" : Str) ∈ one)) = false from eg]
        rw [eg, if_neg Bool.false_ne_true, List.append_nil] at ft
        refine iteF ⟨s2, hi', ?_⟩
        rw [ft]
        exact hy
end
end Lit

set_option Elab.async false
set_option linter.all false
set_option maxRecDepth 100000
namespace Lit
open PySem L2
theorem repAll_ints {K : PySem.W.Frag} {H : Hp} : ∀ {r : List Int} {ys : List V}, RepAll K H ys (r.map .int) → ys = r.map V.int
  | [], _, h => by cases h; rfl
  | n :: r, _, h => by
    cases h with
    | cons a t =>
      cases a
      rw [repAll_ints t]
      rfl
theorem sum_cast {α : Type} (g : α → Nat) : ∀ l : List α, (l.map fun p => ((g p : Nat) : Int)).sum = (((l.map g).sum : Nat) : Int)
  | [] => rfl
  | a :: r => by
    rw [List.map_cons, List.sum_cons, sum_cast g r, List.map_cons, List.sum_cons]
    omega
/-- lists of numbers stand at ts -/
def IntsAt (H : Hp) (ts : List Addr) (rs : List (List Int)) : Prop := Paired (fun t r => H t = some (.lst (r.map V.int))) ts rs
theorem IntsAt.same {H H' : Hp} (s : Same H H') {ts : List Addr} {rs : List (List Int)} (h : IntsAt H ts rs) : IntsAt H' ts rs := Paired.mapP h fun t q e => s _ _ e
theorem IntsAt.at {H : Hp} : ∀ {ts : List Addr} {rs : List (List Int)} {j : Nat} {t : Addr}, IntsAt H ts rs → ts[j]? = some t → ∃ r, rs[j]? = some r ∧ H t = some (.lst (r.map V.int))
  | _, _, _, _, .nil, e => by simp at e
  | _, _, 0, _, .cons h _, e => by simp at e; subst e; exact ⟨_, rfl, h⟩
  | _, _, j + 1, t, .cons _ r, e => by
    obtain ⟨q, h1, h2⟩ := IntsAt.at (j := j) (t := t) r (by simpa using e)
    exact ⟨q, by simpa using h1, h2⟩
/-- rows of looks, as data -/
abbrev dRow (r : List Int) : PyData := .list (r.map .int)
abbrev dRows (rs : List (List Int)) : List PyData := rs.map dRow
theorem dRows_get {K : PySem.W.Frag} {H : Hp} {xs : List V} {rs : List (List Int)} {i : Nat} {x : V} (h : RepAll K H xs (dRows rs)) (e : xs[i]? = some x) : ∃ (t : Addr) (r : List Int), rs[i]? = some r ∧ x = .ref t ∧ SqL K H t (r.map V.int) := by
  obtain ⟨d, e1, e2⟩ := h.get e
  rw [List.getElem?_map] at e1
  cases q : rs[i]? with
  | none => rw [q] at e1; cases e1
  | some r =>
    rw [q] at e1
    cases e1
    obtain ⟨t, ys, rfl, hq, hy⟩ := rep_list e2
    obtain rfl := repAll_ints hy
    exact ⟨t, r, rfl, rfl, hq⟩
/-- rows of a counter of k places -/
structure RowsAt (K : PySem.W.Frag) (H : Hp) (v : V) (rs : List (List Int)) (k : Nat) : Prop where
  rep : Rep K H v (.list (dRows rs))
  few : rs.length ≤ 100
  wide : ∀ r ∈ rs, r.length = k
  looks : ∀ r ∈ rs, ∀ x ∈ r, 0 ≤ x ∧ x < 128
theorem RowsAt.same {K : PySem.W.Frag} {H H' : Hp} {v : V} {rs : List (List Int)} {k : Nat} (h : RowsAt K H v rs k) (s : Same H H') : RowsAt K H' v rs k := ⟨h.rep.same s, h.few, h.wide, h.looks⟩
def countedM (st n k : Nat) : List (List Int) := (List.range n).map fun i => figsOfM ((st + i) % 10 ^ k) k
/-- what is shown and seen at a place -/
def showsP (p : Nat) (fs rs : List (List Int)) : List (Int × Int) := (fs.zip rs).map fun q => (q.1.getD p 0, q.2.getD p 0)
def showsFrom (st : Nat) (rs : List (List Int)) (k p : Nat) : List (Int × Int) := showsP p (countedM st rs.length k) rs
def priceM (st : Nat) (rs : List (List Int)) (k : Nat) : Option Nat := if ((List.range k).any fun p => clashM (showsFrom st rs k p)) = true then none else some (((List.range k).map fun p => fewestM (showsFrom st rs k p)).sum)
theorem figsOf_len (n k : Nat) : (figsOfM n k).length = k := by unfold figsOfM; rw [List.length_map, worths_len]
theorem figsOf_ok (n k : Nat) : ∀ x ∈ figsOfM n k, 0 ≤ x ∧ x < 10 := fun x hx => by
  unfold figsOfM at hx
  obtain ⟨p, _, rfl⟩ := List.mem_map.mp hx
  omega
section
variable {P : Program} {w : World} {K : PySem.W.Frag} {mg : Str → Option Value} {base : Heap} {aS aT : Addr}
theorem sc_counted : FnScope ["start", "steps", "places", "beyond"] ["start", "steps", "places"] (defScope s_counted) := ⟨rfl, rfl, rfl, by decide +kernel, rfl, by decide +kernel, by decide +kernel⟩
def sp_counted : Sp := fun vs H Q _ => ∃ st n k : Nat, vs = [.int st, .int n, .int k] ∧ n ≤ 100 ∧ k ≤ 8 ∧ ∀ (l : Addr) (ts : List Addr) (H' : Hp), Same H H' → H l = none → H' l = some (.lst (ts.map V.ref)) → IntsAt H' ts (countedM st n k) → Q (.ref l) H'
theorem ok_counted {f f1 f2 : Addr} {fd fd1 fd2 : FuncData} (F : Fun K "counted" "counted" s_counted f fd) (T : Txt K mg aS aT) (T_ten_to : FnAt K mg "ten_to" ["power"] f1 fd1) (G_ten_to : FnOk P w K mg base (CX1 P w) 1 f1 fd1 ["power"] sp_ten_to)
    (T_figures_of : FnAt K mg "figures_of" ["number", "places"] f2 fd2) (G_figures_of : FnOk P w K mg base (CX1 P w) 3 f2 fd2 ["number", "places"] sp_figures_of) : FnOk P w K mg base (CX1 P w) 4 f fd ["start", "steps", "places"] sp_counted := by
  refine F.zok1 sc_counted (fun vs H Q E h => ?_) (fun cdv A outer s H vs Q E hr h => ?_)
  · obtain ⟨st, n, k, rfl, _⟩ := h
    rfl
  · obtain ⟨st, n, k, rfl, hn, hk, kq⟩ := h
    refine ⟨_, (zpss_cons (zps_set (i := 3) sc_counted.nd rfl (Or.inr rfl) (zpe_call G_ten_to (hr.mono (by decide)) rfl T_ten_to.m T_ten_to.k T_ten_to.b .nil pass1n (zpa_cons (zpv 2) zpa_nil))) (zpss_one (zps_ret (zpe_lc (N' := ["step", "places", "beyond", "start"]) (js := [none, some 2, some 3, some 0]) rfl (compOk.scope (sc := defScope s_counted) (N := ["start", "steps", "places", "beyond"]) (by decide +kernel)) (zpi_range1 rfl T.range (zpa_cons (zpv 1) zpa_nil)) (fun _ _ _ _ _ => (zpg_name (i := 0) (show (["step", "places", "beyond", "start"] : List Str).Nodup from by decide +kernel) rfl (Or.inl rfl))) (fun _ _ _ _ _ => zpif_nil) (fun _ _ _ _ _ => (zpe_call G_figures_of (hr.mono (by decide)) rfl T_figures_of.m T_figures_of.k T_figures_of.b .nil pass1n (zpa_cons (zpe_op op_mod (zpe_op op_add (zpv 3) (zpv 0)) (zpv 2)) (zpa_cons (zpv 1) zpa_nil)))))))), ?_⟩
    refine ⟨_, rfl, k, rfl, by omega, ?_⟩
    refine ⟨_, rfl, (n : Int), rfl, by omega, by omega, lc_range (n := (n : Int).toNat) (fun i ys H' => Same H H' ∧ i ≤ n ∧ ∃ ts, ys = ts.map V.ref ∧ IntsAt H' ts ((List.range i).map fun i => figsOfM ((st + i) % 10 ^ k) k)) ⟨Same.refl _, Nat.zero_le _, [], rfl, .nil⟩ ?_ ?_⟩
    · rintro ys H1 ⟨s1, _, ts, rfl, hts⟩ l nl
      rw [Int.toNat_natCast] at hts
      exact kq l ts _ (s1.upd (s1.free nl)) (s1.free nl) upd_same (hts.same (Same.new nl))
    · rintro i ys H1 hi ⟨s1, hi2, ts, rfl, hts⟩
      have hi3 : i < n := by simpa using hi
      have tl := hts.length
      rw [List.length_map, List.length_range] at tl
      have pos : (0 : Int) < 10 ^ k := (p10 (by omega)).1
      refine ⟨by rw [List.length_map]; exact small1000 (by omega), Sub.set rfl, _, rfl, _, rfl, _, _, rfl, rfl, _, rfl, _, _, rfl, rfl, pos, _, rfl, (st + i) % 10 ^ k, k, ?_, hk, fun l H2 s2 nl hl => ?_⟩
      · show [V.int (((st : Int) + (0 + (i : Int))) % 10 ^ k), V.int (k : Int)] = _
        simp
      · refine ⟨s1.trans s2, hi3, ts ++ [l], by rw [List.map_append]; rfl, ?_⟩
        rw [List.range_succ, List.map_append]
        exact Paired.snoc (hts.same s2) hl

theorem sc_showings_at : FnScope ["place", "shown_figures", "rows"] ["place", "shown_figures", "rows"] (defScope s_showings_at) := ⟨rfl, rfl, rfl, by decide +kernel, rfl, by decide +kernel, by decide +kernel⟩
def sp_showings_at (K : PySem.W.Frag) : Sp := fun vs H Q _ => ∃ (p : Nat) (a : Addr) (v : V) (ts : List Addr) (fs rs : List (List Int)) (k : Nat), vs = [.int p, .ref a, v] ∧ p < k ∧ k ≤ 8 ∧ SqL K H a (ts.map V.ref) ∧ IntsAt H ts fs ∧ (∀ x ∈ fs, x.length = k) ∧ fs.length = rs.length ∧ RowsAt K H v rs k ∧
  ∀ (l : Addr) (us : List Addr) (H' : Hp), Same H H' → H l = none → H' l = some (.lst (us.map V.ref)) → ShowsAt H' us (showsP p fs rs) → Q (.ref l) H'
theorem ok_showings_at {f : Addr} {fd : FuncData} (F : Fun K "showings_at" "showings_at" s_showings_at f fd) (T : Txt K mg aS aT) : FnOk P w K mg base (CX1 P w) 1 f fd ["place", "shown_figures", "rows"] (sp_showings_at K) := by
  refine F.zok1 sc_showings_at (fun vs H Q E h => ?_) (fun cdv A outer s H vs Q E hr h => ?_)
  · obtain ⟨p, a, v, ts, fs, rs, k, rfl, _⟩ := h
    rfl
  · obtain ⟨p, a, v, ts, fs, rs, k, rfl, hp, hk, ha, hts, fw, el, hv, kq⟩ := h
    obtain ⟨b, xs, rfl, hb, hx⟩ := rep_list hv.rep
    have few := hv.few
    have xl : xs.length = rs.length := by rw [hx.length, List.length_map]
    have tl := hts.length
    refine ⟨_, (zpss_one (zps_ret (zpe_lc (N' := ["figures", "looks", "place"]) (js := [none, none, some 0]) rfl (compOk.scope (sc := defScope s_showings_at) (N := ["place", "shown_figures", "rows"]) (by decide +kernel)) (zpi_zip (k1 := true) (k2 := true) rfl T.zip (zpa_cons (zpv 1) (zpa_cons (zpv 2) zpa_nil))) (fun _ _ _ _ _ => (zpg_tupK (K := K) 2 rfl rfl (zpgs_cons (zpg_name (i := 0) (show (["figures", "looks", "place"] : List Str).Nodup from by decide +kernel) rfl (Or.inl rfl)) (zpgs_cons (zpg_name (i := 1) (show (["figures", "looks", "place"] : List Str).Nodup from by decide +kernel) rfl (Or.inl rfl)) zpgs_nil)))) (fun _ _ _ _ _ => zpif_nil) (fun _ _ _ _ _ => (zpe_tup (zpa_cons (zpe_ix (ix_listK (K := K) rfl) (zpv 0) (zpv 2) (fun _ _ => rfl)) (zpa_cons (zpe_ix (ix_listK (K := K) rfl) (zpv 1) (zpv 2) (fun _ _ => rfl)) zpa_nil))))))), ?_⟩
    refine ⟨_, rfl, _, rfl, a, b, ts.map V.ref, xs, rfl, ha, hb, lc_zip (xs := ts.map V.ref) (zs := xs) (by rw [List.length_map]; omega)
      (fun i ys H' => Same H H' ∧ i ≤ rs.length ∧ ∃ us, ys = us.map V.ref ∧ ShowsAt H' us (((fs.zip rs).take i).map fun q => (q.1.getD p 0, q.2.getD p 0))) ⟨Same.refl _, Nat.zero_le _, [], rfl, .nil⟩ (fun i ys H' q => ⟨q.1.seq ha, q.1.seq hb⟩) ?_ ?_ ?_⟩
    · rintro ys H1 ⟨s1, _, us, rfl, hus⟩ l nl
      rw [List.length_map, List.take_of_length_le (by rw [List.length_zip]; omega)] at hus
      exact kq l us _ (s1.upd (s1.free nl)) (s1.free nl) upd_same (hus.same (Same.new nl))
    · rintro i x z Tt ys H1 ex ez ⟨s1, hi, us, rfl, hus⟩ nT
      obtain ⟨t, et, rfl⟩ := ref_get ex
      obtain ⟨fg, efg, hfg⟩ := hts.at et
      obtain ⟨t2, r, er, rfl, hr2⟩ := dRows_get hx ez
      have hi' : i < rs.length := (List.getElem?_eq_some_iff.mp er).1
      have ul := hus.length
      rw [List.length_map, List.length_take, List.length_zip] at ul
      have s2 : Same H1 (upd H1 Tt (.tup [.ref t, .ref t2])) := Same.new nT
      have s12 := s1.trans s2
      have fl := fw fg (List.mem_of_getElem? efg)
      have rl := hv.wide r (List.mem_of_getElem? er)
      have at1 : atI (fg.map V.int) (p : Int) = some (.int (fg.getD p 0)) := atI_nat (by
        rw [List.getElem?_map, List.getD_eq_getElem?_getD, List.getElem?_eq_getElem (show p < fg.length by omega)]
        rfl)
      have at2 : atI (r.map V.int) (p : Int) = some (.int (r.getD p 0)) := atI_nat (by
        rw [List.getElem?_map, List.getD_eq_getElem?_getD, List.getElem?_eq_getElem (show p < r.length by omega)]
        rfl)
      refine ⟨by rw [List.length_map]; exact small1000 (by omega), _, _, rfl, SqT.of upd_same, rfl, _, _, rfl, _, _, rfl, rfl, (Sub.set rfl).trans (Sub.set rfl), ?_⟩
      refine ⟨_, rfl, _, rfl, t, _, _, _, rfl, rfl, SqL.of (s12 _ _ hfg), at1, _, rfl, _, rfl, t2, _, _, _, rfl, rfl, s12.seq hr2, at2, by show 2 ≤ sizeLine; decide, fun tn ntn => ?_⟩
      refine ⟨s12.upd (s12.free ntn), hi', us ++ [tn], by rw [List.map_append]; rfl, ?_⟩
      rw [map_take _ _ _ _ (PyProof.Rows.zip_get efg er)]
      exact Paired.snoc (hus.same (s2.trans (Same.new ntn))) upd_same
    · rintro i ys H1 ⟨_, hi, us, rfl, hus⟩
      have ul := hus.length
      rw [List.length_map, List.length_take, List.length_zip] at ul
      rw [List.length_map]
      exact small1000 (by omega)

theorem sc_fewest_from : FnScope ["start", "rows", "places", "shown_figures"] ["start", "rows", "places"] (defScope s_fewest_from) := ⟨rfl, rfl, rfl, by decide +kernel, rfl, by decide +kernel, by decide +kernel⟩
def spx_fewest_from (K : PySem.W.Frag) (cC : Addr) : Sp := fun vs H Q E => ∃ (st : Nat) (v : V) (rs : List (List Int)) (k : Nat), vs = [.int st, v, .int k] ∧ k ≤ 8 ∧ RowsAt K H v rs k ∧
  (∀ n, priceM st rs k = some n → ∀ H', Same H H' → Q (.int (n : Nat)) H') ∧ (priceM st rs k = none → ∀ H', Same H H' → E (.ref cC) none H')
theorem ok_fewest_from {cF cC f f1 f2 f3 : Addr} {fd fd1 fd2 fd3 : FuncData} (F : Fun K "fewest_from" "fewest_from" s_fewest_from f fd) (T : Txt K mg aS aT) (T_counted : FnAt K mg "counted" ["start", "steps", "places"] f1 fd1) (G_counted : FnOk P w K mg base (CX1 P w) 4 f1 fd1 ["start", "steps", "places"] sp_counted)
    (T_showings_at : FnAt K mg "showings_at" ["place", "shown_figures", "rows"] f2 fd2) (G_showings_at : FnOk P w K mg base (CX1 P w) 1 f2 fd2 ["place", "shown_figures", "rows"] (sp_showings_at K))
    (T_fewest : FnAt K mg "fewest" ["showings"] f3 fd3) (G_fewest : FnOk P w K mg base (CX1 P w) 4 f3 fd3 ["showings"] (spx_fewest K cF cC)) : FnOk P w K mg base (CX1 P w) 5 f fd ["start", "rows", "places"] (spx_fewest_from K cC) := by
  refine F.zokX sc_fewest_from (fun vs H Q E h => ?_) (fun cdv A outer s H vs Q E hr h => ?_)
  · obtain ⟨st, v, rs, k, rfl, _⟩ := h
    rfl
  · obtain ⟨st, v, rs, k, rfl, hk, hv, kQ, kE⟩ := h
    obtain ⟨b, xs, rfl, hb, hx⟩ := rep_list hv.rep
    have few := hv.few
    have xl : xs.length = rs.length := by rw [hx.length, List.length_map]
    refine ⟨_, (zpss_cons (zps_set (i := 3) sc_fewest_from.nd rfl (Or.inr rfl) (zpe_call G_counted (hr.mono (by decide)) rfl T_counted.m T_counted.k T_counted.b .nil pass1n (zpa_cons (zpv 0) (zpa_cons (zpe_callB call_len_seq rfl T.len PySem.boot_len (zpa_cons (zpv 1) zpa_nil)) (zpa_cons (zpv 2) zpa_nil))))) (zpss_one (zps_ret (zpe_callB (call_sumL rfl) rfl T.sum PyProof.Rows.boot_sum (zpa_cons (zpe_lcX (N' := ["place", "shown_figures", "rows"]) (js := [none, some 3, some 1])  (compOk.scope (sc := defScope s_fewest_from) (N := ["start", "rows", "places", "shown_figures"]) (by decide +kernel)) (zpi_range1 rfl T.range (zpa_cons (zpv 2) zpa_nil)) (fun _ _ _ _ _ => (zpg_name (i := 0) (show (["place", "shown_figures", "rows"] : List Str).Nodup from by decide +kernel) rfl (Or.inl rfl))) (fun _ _ _ _ _ => zpif_nil) (fun _ _ _ _ _ => (zpe_call G_fewest (hr.mono (by decide)) rfl T_fewest.m T_fewest.k T_fewest.b .nil passC (zpa_cons (zpe_call G_showings_at (hr.mono (by decide)) rfl T_showings_at.m T_showings_at.k T_showings_at.b .nil pass1n (zpa_cons (zpv 0) (zpa_cons (zpv 1) (zpa_cons (zpv 2) zpa_nil)))) zpa_nil)))) zpa_nil))))), ?_⟩
    refine ⟨_, rfl, _, rfl, b, xs, rfl, .inl hb, _, rfl, st, rs.length, k, by rw [xl]; rfl, by omega, hk, fun lc ts H1 s1 nlc hlc hts => ?_⟩
    have cl : (countedM st rs.length k).length = rs.length := by unfold countedM; rw [List.length_map, List.length_range]
    have cw : ∀ x ∈ countedM st rs.length k, x.length = k := fun x hx => by
      unfold countedM at hx
      obtain ⟨i, _, rfl⟩ := List.mem_map.mp hx
      exact figsOf_len _ _
    have good : ∀ p, p < k → (showsFrom st rs k p).length ≤ 100 ∧ (∀ q ∈ showsFrom st rs k p, 0 ≤ q.2 ∧ q.2 < 128) ∧ ∀ q ∈ showsFrom st rs k p, FigOk q := fun p hp => by
      refine ⟨by unfold showsFrom showsP; rw [List.length_map, List.length_zip]; omega, fun q hq => ?_, fun q hq => ?_⟩
      · unfold showsFrom showsP at hq
        obtain ⟨⟨u, r⟩, hz, rfl⟩ := List.mem_map.mp hq
        have hr2 := (List.of_mem_zip hz).2
        have rl := hv.wide r hr2
        refine hv.looks r hr2 _ ?_
        show r.getD p 0 ∈ r
        rw [List.getD_eq_getElem?_getD, List.getElem?_eq_getElem (show p < r.length by omega)]
        exact List.getElem_mem _
      · unfold showsFrom showsP at hq
        obtain ⟨⟨u, r⟩, hz, rfl⟩ := List.mem_map.mp hq
        have hu := (List.of_mem_zip hz).1
        have ul := cw u hu
        unfold countedM at hu
        obtain ⟨i, _, rfl⟩ := List.mem_map.mp hu
        have := figsOf_ok ((st + i) % 10 ^ k) k ((figsOfM ((st + i) % 10 ^ k) k).getD p 0) (by
          rw [List.getD_eq_getElem?_getD, List.getElem?_eq_getElem (show p < (figsOfM ((st + i) % 10 ^ k) k).length by omega)]
          exact List.getElem_mem _)
        exact this
    refine ⟨_, rfl, (k : Int), rfl, by omega, by omega, lc_range (n := (k : Int).toNat) (fun i ys H' => Same H1 H' ∧ i ≤ k ∧ ((List.range i).any fun p => clashM (showsFrom st rs k p)) = false ∧ ys = ((List.range i).map fun p => ((fewestM (showsFrom st rs k p) : Nat) : Int)).map V.int) ⟨Same.refl _, Nat.zero_le _, rfl, rfl⟩ ?_ ?_⟩
    · rintro ys H2 ⟨s2, _, al, rfl⟩ l nl
      rw [Int.toNat_natCast] at al
      refine ⟨l, _, rfl, .inl (.inl upd_same), ?_⟩
      rw [Int.toNat_natCast, sum_cast]
      exact kQ _ (by unfold priceM; rw [if_neg (by rw [al]; decide)]) _ ((s1.trans s2).upd ((s1.trans s2).free nl))
    · rintro i ys H2 hi ⟨s2, hi2, al, rfl⟩
      have hi3 : i < k := by simpa using hi
      obtain ⟨g1, g2, g3⟩ := good i hi3
      refine ⟨by rw [List.length_map, List.length_map, List.length_range]; exact small1000 (by omega), Sub.set rfl, _, rfl, _, rfl, _, rfl, i, lc, .ref b, ts, countedM st rs.length k, rs, k, ?_, hi3, hk, SqL.of (s2 _ _ hlc), hts.same s2, cw, cl, hv.same (s1.trans s2), fun l us H3 s3 nl hl hus => ?_⟩
      · show [V.int (0 + (i : Int)), _, _] = _
        rw [Int.zero_add]
      refine ⟨l, us, showsFrom st rs k i, rfl, ⟨SqL.of hl, hus, g1, g2⟩, fun _ ec H4 s4 => ⟨s2.trans (s3.trans s4), hi3, ?_, ?_⟩, fun _ ec H4 s4 => kE ?_ H4 (s1.trans (s2.trans (s3.trans s4))), fun bad => absurd g3 bad⟩
      · rw [List.range_succ, List.any_append, al]
        show (false || (clashM (showsFrom st rs k i) || false)) = false
        rw [ec]
        rfl
      · rw [List.range_succ, List.map_append, List.map_append]
        rfl
      · unfold priceM
        rw [if_pos (List.any_eq_true.mpr ⟨i, List.mem_range.mpr hi3, ec⟩)]
end
end Lit

set_option Elab.async false
set_option linter.all false
set_option maxRecDepth 100000
namespace Lit
open PySem L2
section
variable {P : Program} {w : World} {K : PySem.W.Frag} {mg : Str → Option Value} {base : Heap} {aS aT : Addr}
theorem sc_fewest_by_start : FnScope ["rows", "places", "found", "start"] ["rows", "places"] (defScope s_fewest_by_start) := ⟨rfl, rfl, rfl, by decide +kernel, rfl, by decide +kernel, by decide +kernel⟩
/-- the open starts below n, with their prices -/
def openTo (rs : List (List Int)) (k n : Nat) : List (Nat × Nat) := (List.range n).filterMap fun st => (priceM st rs k).map fun p => (st, p)
def kvsOf (ps : List (Nat × Nat)) : List (Key × V) := ps.map fun q => ((Sum.inl (q.1 : Int) : Key), V.int (q.2 : Nat))
theorem openTo_succ (rs : List (List Int)) (k n : Nat) : openTo rs k (n + 1) = openTo rs k n ++ ((priceM n rs k).map fun p => (n, p)).toList := by
  unfold openTo
  rw [List.range_succ, List.filterMap_append]
  cases e : priceM n rs k <;> simp [e]
theorem openTo_lt {rs : List (List Int)} {k n : Nat} : ∀ q ∈ openTo rs k n, q.1 < n := fun q hq => by
  unfold openTo at hq
  obtain ⟨st, hs, e⟩ := List.mem_filterMap.mp hq
  cases z : priceM st rs k with
  | none => rw [z] at e; cases e
  | some p => rw [z] at e; cases e; exact List.mem_range.mp hs
theorem openTo_len (rs : List (List Int)) (k n : Nat) : (openTo rs k n).length ≤ n := by
  unfold openTo
  exact Nat.le_trans (List.length_filterMap_le ..) (by rw [List.length_range]; exact Nat.le_refl _)
theorem val_new {ps : List (Nat × Nat)} {n : Nat} (h : ∀ q ∈ ps, q.1 < n) : valV (kvsOf ps) (Sum.inl (n : Int) : Key) = none := by
  unfold kvsOf
  induction ps with
  | nil => rfl
  | cons a r ih =>
    have ha := h a List.mem_cons_self
    have ne : ¬ ((Sum.inl ((a.1 : Nat) : Int) : Key) = Sum.inl ((n : Nat) : Int)) := fun z => by
      have := Sum.inl.inj z
      omega
    rw [List.map_cons]
    have r' := ih fun q hq => h q (List.mem_cons_of_mem _ hq)
    unfold valV at r' ⊢
    simp only [List.find?_cons, ne, decide_false]
    exact r'
def sp_fewest_by_start (K : PySem.W.Frag) : Sp := fun vs H Q _ => ∃ (v : V) (rs : List (List Int)) (k : Nat), vs = [v, .int k] ∧ k ≤ 3 ∧ RowsAt K H v rs k ∧ ∀ (a : Addr) (H' : Hp), Same H H' → H a = none → H' a = some (.dK (kvsOf (openTo rs k (10 ^ k)))) → Q (.ref a) H'
theorem ok_fewest_by_start {cC f f1 f2 : Addr} {fd fd1 fd2 : FuncData} (F : Fun K "fewest_by_start" "fewest_by_start" s_fewest_by_start f fd) (T : Txt K mg aS aT) (m_Clash : mg "Clash" = some (.ref cC)) (cat_Clash : CatchC K cC) (sub_Clash : PySem.W.subIn K (.ref cC) (.ref cC) = some true)
    (T_ten_to : FnAt K mg "ten_to" ["power"] f1 fd1) (G_ten_to : FnOk P w K mg base (CX1 P w) 1 f1 fd1 ["power"] sp_ten_to)
    (T_fewest_from : FnAt K mg "fewest_from" ["start", "rows", "places"] f2 fd2) (G_fewest_from : FnOk P w K mg base (CX1 P w) 5 f2 fd2 ["start", "rows", "places"] (spx_fewest_from K cC)) : FnOk P w K mg base (CX1 P w) 6 f fd ["rows", "places"] (sp_fewest_by_start K) := by
  refine F.zok1 sc_fewest_by_start (fun vs H Q E h => ?_) (fun cdv A outer s H vs Q E hr h => ?_)
  · obtain ⟨v, rs, k, rfl, _⟩ := h
    rfl
  · obtain ⟨v, rs, k, rfl, hk, hv, kq⟩ := h
    have ten : (10 : Int) ^ k = ((10 ^ k : Nat) : Int) := by simp
    have t1000 : 10 ^ k ≤ 1000 := by
      have : k = 0 ∨ k = 1 ∨ k = 2 ∨ k = 3 := by omega
      rcases this with rfl | rfl | rfl | rfl <;> decide
    have tI : ((10 ^ k : Nat) : Int) ≤ 1000 := Int.ofNat_le.mpr t1000
    have t0 : (0 : Int) ≤ ((10 ^ k : Nat) : Int) := Int.natCast_nonneg _
    refine ⟨_, (zpss_cons (zps_set (i := 2) sc_fewest_by_start.nd rfl (Or.inl rfl) zpe_dnewK) (zpss_cons (zps_for PassesOwn.never rfl (zpi_range1 rfl T.range (zpa_cons (zpe_call G_ten_to (hr.mono (by decide)) rfl T_ten_to.m T_ten_to.k T_ten_to.b .nil pass1n (zpa_cons (zpv 1) zpa_nil)) zpa_nil)) (zpg_name (i := 3) sc_fewest_by_start.nd rfl (Or.inl rfl)) (zpss_one (zps_tryN rfl rfl rfl rfl m_Clash cat_Clash (fun _ _ _ => (zpss_one (zps_dput (hu_of hr) (zpv 2) (zpv 3) (zpe_callAt G_fewest_from (hr.mono (by decide)) rfl T_fewest_from.m T_fewest_from.k T_fewest_from.b (passT rfl) (zpa_cons (zpv 3) (zpa_cons (zpv 0) (zpa_cons (zpv 1) zpa_nil)))) rfl))) (fun _ => (zpss_one zps_continue))))) (zpss_one (zps_ret (zpv 2))))), ?_⟩
    intro d nd
    refine ⟨_, rfl, k, rfl, by omega, (10 ^ k : Nat), ?_, by omega, by omega, for_range (n := ((10 ^ k : Nat) : Int).toNat) (fun i σ H' => Same H H' ∧ i ≤ 10 ^ k ∧ ∃ v3, H' d = some (.dK (kvsOf (openTo rs k i))) ∧ σ = [some v, some (.int k), some (.ref d), v3]) ⟨Same.new nd, Nat.zero_le _, none, upd_same, rfl⟩ ?_ ?_⟩
    · show [V.int ((10 : Int) ^ k)] = _
      rw [ten]
    · rintro i σ H1 hi ⟨s1, hi2, v3, hd, rfl⟩
      have hi3 : i < 10 ^ k := by rwa [Int.toNat_natCast] at hi
      refine ⟨rfl, _, rfl, _, rfl, _, rfl, i, v, rs, k, ?_, by omega, hv.same s1, fun n en H2 s2 => ?_, fun en H2 s2 => ⟨cC, rfl, sub_Clash, ?_⟩⟩
      · show [V.int (0 + (i : Int)), _, _] = _
        rw [Int.zero_add]
      · have hd2 := s2 _ _ hd
        refine ⟨_, rfl, _, rfl, d, _, rfl, DPut.k (k := (Sum.inl (0 + (i : Int)) : Key)) hd2 ?_, (s1.trans s2).upd nd, hi3, _, ?_, rfl⟩
        · unfold kvsOf
          rw [List.length_map]
          have := openTo_len rs k i
          exact small1000 (by omega)
        · rw [upd_same, openTo_succ, en, Int.zero_add, putK_new _ (val_new openTo_lt)]
          unfold kvsOf
          rw [List.map_append]
          rfl
      · refine ⟨s1.trans s2, hi3, _, ?_, rfl⟩
        rw [openTo_succ, en]
        show _ = some (HO.dK (kvsOf (openTo rs k i ++ [])))
        rw [List.append_nil]
        exact s2 _ _ hd
    · rintro σ H1 ⟨s1, _, v3, hd, rfl⟩
      rw [Int.toNat_natCast] at hd
      exact ⟨_, rfl, kq d H1 s1 nd hd⟩

theorem sc_starts : FnScope ["rows", "places"] ["rows", "places"] (defScope s_starts) := ⟨rfl, rfl, rfl, by decide +kernel, rfl, by decide +kernel, by decide +kernel⟩
def startsM (rs : List (List Int)) (k : Nat) : List Int := (openTo rs k (10 ^ k)).map fun q => (q.1 : Int)
def sp_starts (K : PySem.W.Frag) : Sp := fun vs H Q _ => ∃ (v : V) (rs : List (List Int)) (k : Nat), vs = [v, .int k] ∧ k ≤ 3 ∧ RowsAt K H v rs k ∧ Gives H Q (startsM rs k)
theorem ok_starts {f f1 : Addr} {fd fd1 : FuncData} (F : Fun K "starts" "starts" s_starts f fd) (T : Txt K mg aS aT) (T_fewest_by_start : FnAt K mg "fewest_by_start" ["rows", "places"] f1 fd1) (G_fewest_by_start : FnOk P w K mg base (CX1 P w) 6 f1 fd1 ["rows", "places"] (sp_fewest_by_start K)) :
    FnOk P w K mg base (CX1 P w) 7 f fd ["rows", "places"] (sp_starts K) := by
  refine F.zok1 sc_starts (fun vs H Q E h => ?_) (fun cdv A outer s H vs Q E hr h => ?_)
  · obtain ⟨v, rs, k, rfl, _⟩ := h
    rfl
  · obtain ⟨v, rs, k, rfl, hk, hv, kq⟩ := h
    refine ⟨_, (zpss_one (zps_ret (zpe_callTy (call_listD rfl) rfl T.list bt_list (zpa_cons (zpe_call G_fewest_by_start (hr.mono (by decide)) rfl T_fewest_by_start.m T_fewest_by_start.k T_fewest_by_start.b .nil pass1n (zpa_cons (zpv 0) (zpa_cons (zpv 1) zpa_nil))) zpa_nil)))), ?_⟩
    refine ⟨_, rfl, _, rfl, v, rs, k, rfl, hk, hv, fun a H1 s1 na ha => ⟨a, _, rfl, ha, fun l nl => kq l _ (s1.upd (s1.free nl)) (s1.free nl) ?_⟩⟩
    rw [upd_same]
    unfold kvsOf startsM
    rw [List.map_map, List.map_map]
    rfl

theorem sc_least : FnScope ["rows", "start", "places"] ["rows", "start"] (defScope s_least) := ⟨rfl, rfl, rfl, by decide +kernel, rfl, by decide +kernel, by decide +kernel⟩
def spx_least (K : PySem.W.Frag) (cN cC : Addr) : Sp := fun vs H Q E => ∃ (v : V) (i : Int) (rs : List (List Int)) (k : Nat), vs = [v, .int i] ∧ 1 ≤ rs.length ∧ k ≤ 3 ∧ RowsAt K H v rs k ∧
  (∀ st : Nat, i = st → st < 10 ^ k → ∀ n, priceM st rs k = some n → ∀ H', Same H H' → Q (.int (n : Nat)) H') ∧ (∀ st : Nat, i = st → st < 10 ^ k → priceM st rs k = none → ∀ H', Same H H' → E (.ref cC) none H') ∧ ((i < 0 ∨ (10 : Int) ^ k ≤ i) → ∀ H', Same H H' → E (.ref cN) none H')
theorem ok_least {cN cC f f1 f2 : Addr} {fd fd1 fd2 : FuncData} (F : Fun K "least" "least" s_least f fd) (T : Txt K mg aS aT) (T_check_number : FnAt K mg "check_number" ["number", "places"] f1 fd1) (G_check_number : FnOk P w K mg base (CX1 P w) 2 f1 fd1 ["number", "places"] (spx_check_number cN))
    (T_fewest_from : FnAt K mg "fewest_from" ["start", "rows", "places"] f2 fd2) (G_fewest_from : FnOk P w K mg base (CX1 P w) 5 f2 fd2 ["start", "rows", "places"] (spx_fewest_from K cC)) : FnOk P w K mg base (CX1 P w) 6 f fd ["rows", "start"] (spx_least K cN cC) := by
  refine F.zokX sc_least (fun vs H Q E h => ?_) (fun cdv A outer s H vs Q E hr h => ?_)
  · obtain ⟨v, i, rs, k, rfl, _⟩ := h
    rfl
  · obtain ⟨v, i, rs, k, rfl, h1, hk, hv, kQ, kC, kN⟩ := h
    obtain ⟨b, xs, rfl, hb, hx⟩ := rep_list hv.rep
    have xl : xs.length = rs.length := by rw [hx.length, List.length_map]
    obtain ⟨x0, ex⟩ : ∃ x0, xs[0]? = some x0 := ⟨xs[0], List.getElem?_eq_getElem (by omega)⟩
    obtain ⟨t0, r0, er, rfl, hr0⟩ := dRows_get hx ex
    have rl := hv.wide r0 (List.mem_of_getElem? er)
    refine ⟨_, (zpss_cons (zps_set (i := 2) sc_least.nd rfl (Or.inl rfl) (zpe_callB call_len_seq rfl T.len PySem.boot_len (zpa_cons (zpe_ix ix_list (zpv 0) zpe_int (fun _ _ => rfl)) zpa_nil))) (zpss_cons (zps_expr (zpe_call G_check_number (hr.mono (by decide)) rfl T_check_number.m T_check_number.k T_check_number.b .nil pass1 (zpa_cons (zpv 1) (zpa_cons (zpv 2) zpa_nil)))) (zpss_one (zps_ret (zpe_call G_fewest_from (hr.mono (by decide)) rfl T_fewest_from.m T_fewest_from.k T_fewest_from.b .nil pass1 (zpa_cons (zpv 1) (zpa_cons (zpv 0) (zpa_cons (zpv 2) zpa_nil)))))))), ?_⟩
    refine ⟨_, rfl, b, xs, 0, .ref t0, rfl, rfl, hb, atI_nat (j := 0) ex, t0, r0.map V.int, rfl, .inl hr0, ?_⟩
    rw [List.length_map, rl]
    have st : ∃ st : Nat, i = st ∧ st < 10 ^ k ∨ (i < 0 ∨ (10 : Int) ^ k ≤ i) := by
      by_cases c : i < 0 ∨ (10 : Int) ^ k ≤ i
      · exact ⟨0, .inr c⟩
      · have q : ((10 ^ k : Nat) : Int) = (10 : Int) ^ k := by simp
        refine ⟨i.toNat, .inl ⟨by omega, ?_⟩⟩
        have : ((i.toNat : Nat) : Int) < ((10 ^ k : Nat) : Int) := by rw [q]; omega
        exact Int.ofNat_lt.mp this
    obtain ⟨st, ⟨ei, hst⟩ | bad⟩ := st
    · subst ei
      refine ⟨_, rfl, _, rfl, .inl ⟨st, k, rfl, by omega, hst, ?_⟩⟩
      exact ⟨_, rfl, _, rfl, _, rfl, st, .ref b, rs, k, rfl, by omega, hv, fun n en H1 s1 => kQ st rfl hst n en H1 s1, fun en H1 s1 => kC st rfl hst en H1 s1⟩
    · exact ⟨_, rfl, _, rfl, .inr ⟨i, k, rfl, by omega, bad, kN bad H (Same.refl _)⟩⟩

theorem sc_best : FnScope ["rows", "places", "found", "lowest"] ["rows", "places"] (defScope s_best) := ⟨rfl, rfl, rfl, by decide +kernel, rfl, by decide +kernel, by decide +kernel⟩
/-- the starts of the least price -/
def IsBest (ps : List (Nat × Nat)) (bs : List Int) : Prop := ∃ lo : Int, (∀ q ∈ ps, lo ≤ (q.2 : Int)) ∧ (ps ≠ [] → ∃ q ∈ ps, (q.2 : Int) = lo) ∧ (ps = [] → lo = 0) ∧ bs = (ps.filter fun q => decide ((q.2 : Int) = lo)).map fun q => (q.1 : Int)
theorem kvs_get {ps : List (Nat × Nat)} {i : Nat} {p : Key × V} (h : (kvsOf ps)[i]? = some p) : ∃ q, ps[i]? = some q ∧ p = ((Sum.inl (q.1 : Int) : Key), V.int (q.2 : Nat)) := by
  unfold kvsOf at h
  rw [List.getElem?_map] at h
  cases e : ps[i]? with
  | none => rw [e] at h; cases h
  | some q => rw [e] at h; cases h; exact ⟨q, rfl, rfl⟩
def sp_best (K : PySem.W.Frag) : Sp := fun vs H Q _ => ∃ (v : V) (rs : List (List Int)) (k : Nat), vs = [v, .int k] ∧ k ≤ 3 ∧ RowsAt K H v rs k ∧ ∀ bs, IsBest (openTo rs k (10 ^ k)) bs → Gives H Q bs
theorem ok_best {f f1 : Addr} {fd fd1 : FuncData} (F : Fun K "best" "best" s_best f fd) (T : Txt K mg aS aT) (T_fewest_by_start : FnAt K mg "fewest_by_start" ["rows", "places"] f1 fd1) (G_fewest_by_start : FnOk P w K mg base (CX1 P w) 6 f1 fd1 ["rows", "places"] (sp_fewest_by_start K)) :
    FnOk P w K mg base (CX1 P w) 7 f fd ["rows", "places"] (sp_best K) := by
  refine F.zok1 sc_best (fun vs H Q E h => ?_) (fun cdv A outer s H vs Q E hr h => ?_)
  · obtain ⟨v, rs, k, rfl, _⟩ := h
    rfl
  · obtain ⟨v, rs, k, rfl, hk, hv, kq⟩ := h
    have t1000 : 10 ^ k ≤ 1000 := by
      have : k = 0 ∨ k = 1 ∨ k = 2 ∨ k = 3 := by omega
      rcases this with rfl | rfl | rfl | rfl <;> decide
    have pl := openTo_len rs k (10 ^ k)
    generalize ep : openTo rs k (10 ^ k) = ps at *
    refine ⟨_, (zpss_cons (zps_set (i := 2) sc_best.nd rfl (Or.inl rfl) (zpe_call G_fewest_by_start (hr.mono (by decide)) rfl T_fewest_by_start.m T_fewest_by_start.k T_fewest_by_start.b .nil pass1n (zpa_cons (zpv 0) (zpa_cons (zpv 1) zpa_nil)))) (zpss_cons (zps_set (i := 3) sc_best.nd rfl (Or.inr rfl) (zpe_minDI rfl rfl T.min (zpe_callTy (call_listV rfl) rfl T.list bt_list (zpa_cons (zpe_bm0 PySem.F.plainAttrs_dict PySem.F.slot_dict_values PySem.F.type_dict_values mt_values (zpv 2)) zpa_nil)) zpe_int)) (zpss_one (zps_ret (zpe_lc (N' := ["start", "broken", "lowest"]) (js := [none, none, some 3]) rfl (compOk.scope (sc := defScope s_best) (N := ["rows", "places", "found", "lowest"]) (by decide +kernel)) (zpi_items (zpv 2)) (fun _ _ _ _ _ => (zpg_tupK (K := K) 2 rfl rfl (zpgs_cons (zpg_name (i := 0) (show (["start", "broken", "lowest"] : List Str).Nodup from by decide +kernel) rfl (Or.inl rfl)) (zpgs_cons (zpg_name (i := 1) (show (["start", "broken", "lowest"] : List Str).Nodup from by decide +kernel) rfl (Or.inl rfl)) zpgs_nil)))) (fun _ _ _ _ _ => (zpif_one (zpt_cmpR op_eq (zpv 1) (zpv 2) (nomark _)))) (fun _ _ _ _ _ => (zpv 0))))))), ?_⟩
    refine ⟨_, rfl, _, rfl, v, rs, k, rfl, hk, hv, fun a H1 s1 na ha => ?_⟩
    rw [ep] at ha
    refine ⟨_, rfl, .inr (.inr (.inl ⟨rfl, .inl ⟨_, ha⟩⟩)), a, _, rfl, rfl, ha, fun p np => ?_⟩
    have s2 : Same H1 (upd H1 p (viewO p a)) := Same.new np
    refine ⟨p, a, _, rfl, upd_same, s2 _ _ ha, fun l nl => ?_⟩
    have ha2 := s2 _ _ ha
    generalize upd H1 p (viewO p a) = H2 at *
    have s3 : Same H2 (upd H2 l (.lst ((kvsOf ps).map (·.2)))) := Same.new nl
    have hl : (upd H2 l (.lst ((kvsOf ps).map (·.2)))) l = some (.lst ((ps.map fun q => (q.2 : Int)).map V.int)) := by
      rw [upd_same]
      unfold kvsOf
      rw [List.map_map, List.map_map]
      rfl
    have ha3 := s3 _ _ ha2
    generalize upd H2 l (.lst ((kvsOf ps).map (·.2))) = H3 at *
    have s13 := s1.trans (s2.trans s3)
    have kl : (kvsOf ps).length = ps.length := by unfold kvsOf; rw [List.length_map]
    refine ⟨l, ps.map fun q => (q.2 : Int), rfl, SqL.of hl, fun e => ?_, fun lo hm hle => ?_⟩
    · have e' : ps = [] := by simpa using e
      refine ⟨_, rfl, a, _, rfl, ha3, fun φ => lc_items (kvs := kvsOf ps) (fun i ys H' => Same H H' ∧ H' a = some (.ext φ) ∧ ys.length ≤ i ∧ i ≤ ps.length ∧ ys = ((ps.take i).filter fun q => decide ((q.2 : Int) = 0)).map fun q => V.int (q.1 : Int)) ⟨s13.upd na, upd_same, Nat.le_refl _, Nat.zero_le _, rfl⟩ (fun i ys H' p => p.2.1) ?_ ?_ (fun i ys H' p => Nat.lt_of_le_of_lt p.2.2.1 (small1000 (by have := p.2.2.2.1; omega)))⟩
      · rintro ys H4 ⟨s4, _, _, _, rfl⟩ l2 nl2
        refine kq _ ⟨0, fun q _ => Int.natCast_nonneg _, fun z => absurd e' z, fun _ => rfl, rfl⟩ l2 _ (s4.upd (s4.free nl2)) (s4.free nl2) ?_
        rw [upd_same, kl, List.take_length, List.map_map]
        rfl
      · rintro i p t ys H4 ei nt ⟨s4, ha4, hy, hi, rfl⟩
        obtain ⟨q, eq, rfl⟩ := kvs_get ei
        have hi' : i < ps.length := (List.getElem?_eq_some_iff.mp eq).1
        have ft := filter_take (fun q : Nat × Nat => decide ((q.2 : Int) = 0)) ps i q eq
        have hat : (upd H4 t (.tup [kV (Sum.inl (q.1 : Int)), V.int (q.2 : Nat)])) a = some (.ext φ) := by rw [upd_ne (ne_of_none ha4 nt)]; exact ha4
        refine ⟨Nat.lt_of_le_of_lt hy (small1000 (by omega)), _, _, rfl, SqT.of upd_same, rfl, _, _, rfl, _, _, rfl, rfl, (Sub.set rfl).trans (Sub.set rfl), ?_⟩
        refine ⟨_, rfl, _, rfl, rfl, _, rfl, ?_⟩
        by_cases c : (q.2 : Int) = 0
        · rw [decide_eq_true (show V.int (q.2 : Nat) = V.int 0 by rw [c])]
          rw [decide_eq_true c] at ft
          refine iteT ⟨_, rfl, s4.upd (s4.free nt), hat, ?_, hi', ?_⟩
          · rw [List.length_append, List.length_singleton]; omega
          · rw [ft, List.map_append]
            rfl
        · rw [decide_eq_false (show ¬ V.int (q.2 : Nat) = V.int 0 from fun z => c (V.int.inj z))]
          rw [decide_eq_false c] at ft
          refine iteF ⟨s4.upd (s4.free nt), hat, by omega, hi', ?_⟩
          rw [ft]
          simp
    · refine ⟨_, rfl, a, _, rfl, ha3, fun φ => lc_items (kvs := kvsOf ps) (fun i ys H' => Same H H' ∧ H' a = some (.ext φ) ∧ ys.length ≤ i ∧ i ≤ ps.length ∧ ys = ((ps.take i).filter fun q => decide ((q.2 : Int) = lo)).map fun q => V.int (q.1 : Int)) ⟨s13.upd na, upd_same, Nat.le_refl _, Nat.zero_le _, rfl⟩ (fun i ys H' p => p.2.1) ?_ ?_ (fun i ys H' p => Nat.lt_of_le_of_lt p.2.2.1 (small1000 (by have := p.2.2.2.1; omega)))⟩
      · rintro ys H4 ⟨s4, _, _, _, rfl⟩ l2 nl2
        refine kq _ ⟨lo, fun q hq => hle _ (List.mem_map.mpr ⟨q, hq, rfl⟩), fun _ => (by obtain ⟨q, hq, e⟩ := List.mem_map.mp hm; exact ⟨q, hq, e⟩), fun z => (by rw [z] at hm; cases hm), rfl⟩ l2 _ (s4.upd (s4.free nl2)) (s4.free nl2) ?_
        rw [upd_same, kl, List.take_length, List.map_map]
        rfl
      · rintro i p t ys H4 ei nt ⟨s4, ha4, hy, hi, rfl⟩
        obtain ⟨q, eq, rfl⟩ := kvs_get ei
        have hi' : i < ps.length := (List.getElem?_eq_some_iff.mp eq).1
        have ft := filter_take (fun q : Nat × Nat => decide ((q.2 : Int) = lo)) ps i q eq
        have hat : (upd H4 t (.tup [kV (Sum.inl (q.1 : Int)), V.int (q.2 : Nat)])) a = some (.ext φ) := by rw [upd_ne (ne_of_none ha4 nt)]; exact ha4
        refine ⟨Nat.lt_of_le_of_lt hy (small1000 (by omega)), _, _, rfl, SqT.of upd_same, rfl, _, _, rfl, _, _, rfl, rfl, (Sub.set rfl).trans (Sub.set rfl), ?_⟩
        refine ⟨_, rfl, _, rfl, rfl, _, rfl, ?_⟩
        by_cases c : (q.2 : Int) = lo
        · rw [decide_eq_true (show V.int (q.2 : Nat) = V.int lo by rw [c])]
          rw [decide_eq_true c] at ft
          refine iteT ⟨_, rfl, s4.upd (s4.free nt), hat, ?_, hi', ?_⟩
          · rw [List.length_append, List.length_singleton]; omega
          · rw [ft, List.map_append]
            rfl
        · rw [decide_eq_false (show ¬ V.int (q.2 : Nat) = V.int lo from fun z => c (V.int.inj z))]
          rw [decide_eq_false c] at ft
          refine iteF ⟨s4.upd (s4.free nt), hat, by omega, hi', ?_⟩
          rw [ft]
          simp
end
end Lit

set_option Elab.async false
set_option linter.all false
set_option maxRecDepth 100000
namespace Lit
open PySem L2
abbrev s_l_has : Stmt := top 33
abbrev s_l_lit : Stmt := top 34
abbrev s_l_seen : Stmt := top 35
abbrev s_l_figures : Stmt := top 38
abbrev s_l_open : Stmt := top 40
abbrev s_l_panel : Stmt := top 37
abbrev s_l_rows : Stmt := top 39
abbrev s_l_price : Stmt := top 41
abbrev s_l_three : Stmt := top 42
abbrev s_law : Stmt := top 43
section
variable {P : Program} {w : World} {K : PySem.W.Frag} {mg : Str → Option Value} {base : Heap} {aS aT : Addr}
def strsL : List Str := ["012345", "12", "01346", "01236", "1256", "02356", "023456", "012", "0123456", "012356"]
theorem has_ok : ∀ f, f < 10 → ∀ s, s < 7 → (!(Builtin.Str.occurrences (strsL.getD f "") (toString ((s : Nat) : Int) : String) 0 (strsL.getD f "").length 1).isEmpty) = hasM f s := by decide +kernel
theorem sc_l_has : FnScope ["figure", "stroke", "strokes"] ["figure", "stroke"] (defScope s_l_has) := ⟨rfl, rfl, rfl, by decide +kernel, rfl, by decide +kernel, by decide +kernel⟩
def sp_l_has : Sp := fun vs H Q _ => ∃ f s : Nat, vs = [.int f, .int s] ∧ f < 10 ∧ s < 7 ∧ ∀ H', Same H H' → Q (.bl (hasM f s)) H'
set_option maxHeartbeats 4000000 in
theorem ok_l_has {f : Addr} {fd : FuncData} (F : Fun K "_law_has" "_law_has" s_l_has f fd) (T : Txt K mg aS aT) : FnOk P w K mg base (CX1 P w) 1 f fd ["figure", "stroke"] sp_l_has := by
  refine F.zok1 sc_l_has (fun vs H Q E h => ?_) (fun cdv A outer s H vs Q E hr h => ?_)
  · obtain ⟨f, s, rfl, _⟩ := h
    rfl
  · obtain ⟨f, st, rfl, hf, hs, k⟩ := h
    refine ⟨_, (zpss_cons (zps_set (i := 2) sc_l_has.nd rfl (Or.inl rfl) (zpe_lst (zpa_const (vs := [.str "012345", .str "12", .str "01346", .str "01236", .str "1256", .str "02356", .str "023456", .str "012", .str "0123456", .str "012356"]) rfl))) (zpss_one (zps_ret (zpe_cmpR op_in_str (zpe_callTy call_str_int rfl T.str bt_str (zpa_cons (zpv 1) zpa_nil)) (zpe_ix ix_list (zpv 2) (zpv 0) (fun _ _ => rfl)) rfl)))), ?_⟩
    have hlog : ((st : Nat) : Int).natAbs.log2 < 1920 := by
      have : st = 0 ∨ st = 1 ∨ st = 2 ∨ st = 3 ∨ st = 4 ∨ st = 5 ∨ st = 6 := by omega
      rcases this with rfl | rfl | rfl | rfl | rfl | rfl | rfl <;> decide +kernel
    refine ⟨by show 10 ≤ sizeLine; decide, fun l nl => ?_⟩
    refine ⟨_, rfl, ?_⟩
    refine ⟨(st : Int), rfl, hlog, ?_⟩
    refine ⟨_, rfl, _, rfl, l, _, _, .str (strsL.getD f ""), rfl, rfl, SqL.of upd_same, ?_, ?_⟩
    · refine atI_nat ?_
      have : f = 0 ∨ f = 1 ∨ f = 2 ∨ f = 3 ∨ f = 4 ∨ f = 5 ∨ f = 6 ∨ f = 7 ∨ f = 8 ∨ f = 9 := by omega
      rcases this with rfl | rfl | rfl | rfl | rfl | rfl | rfl | rfl | rfl | rfl <;> rfl
    · refine ⟨_, _, rfl, rfl, ?_⟩
      rw [has_ok f hf st hs]
      exact k _ (Same.new nl)

theorem sc_l_lit : FnScope ["mark", "has"] ["mark", "has"] (defScope s_l_lit) := ⟨rfl, rfl, rfl, by decide +kernel, rfl, by decide +kernel, by decide +kernel⟩
def sp_l_lit : Sp := fun vs H Q _ => ∃ (m : Str) (b : Bool), vs = [.str m, .bl b] ∧ Q (.bl (litL m b)) H
theorem ok_l_lit {f : Addr} {fd : FuncData} (F : Fun K "_law_lit" "_law_lit" s_l_lit f fd) (T : Txt K mg aS aT) : FnOk P w K mg base (CX1 P w) 1 f fd ["mark", "has"] sp_l_lit := by
  refine F.zok1 sc_l_lit (fun vs H Q E h => ?_) (fun cdv A outer s H vs Q E hr h => ?_)
  · obtain ⟨m, b, rfl, _⟩ := h
    rfl
  · obtain ⟨m, b, rfl, k⟩ := h
    refine ⟨_, (zpss_cons (zps_if (zpt_cmpR op_eq (zpv 0) zpe_str (nomark _)) (zpss_one (zps_ret (zpv 1))) zpss_nil) (zpss_one (zps_ret (zpe_cmpR op_eq (zpv 0) zpe_str (nomark _))))), ?_⟩
    refine ⟨_, rfl, rfl, _, rfl, ?_⟩
    rw [dec_str']
    unfold litL at k
    by_cases e : m = "good"
    · rw [if_pos e] at k
      rw [decide_eq_true e]
      exact iteT ⟨_, rfl, k⟩
    · rw [if_neg e] at k
      rw [decide_eq_false e]
      refine iteF ⟨_, rfl, rfl, ?_⟩
      rw [dec_str']
      exact k

theorem sc_l_seen : FnScope ["figure", "place", "found", "stroke"] ["figure", "place"] (defScope s_l_seen) := ⟨rfl, rfl, rfl, by decide +kernel, rfl, by decide +kernel, by decide +kernel⟩
def sp_l_seen (K : PySem.W.Frag) : Sp := fun vs H Q _ => ∃ (n : Nat) (p : V) (ms : List Str), vs = [.int n, p] ∧ n < 10 ∧ Rep K H p (dP ms) ∧ ms.length = 7 ∧ ∀ H', Same H H' → Q (.int (lseenM n ms)) H'
theorem ok_l_seen {f f1 f2 : Addr} {fd fd1 fd2 : FuncData} (F : Fun K "_law_seen" "_law_seen" s_l_seen f fd) (T : Txt K mg aS aT) (T_l_lit : FnAt K mg "_law_lit" ["mark", "has"] f1 fd1) (G_l_lit : FnOk P w K mg base (CX1 P w) 1 f1 fd1 ["mark", "has"] sp_l_lit)
    (T_l_has : FnAt K mg "_law_has" ["figure", "stroke"] f2 fd2) (G_l_has : FnOk P w K mg base (CX1 P w) 1 f2 fd2 ["figure", "stroke"] sp_l_has) : FnOk P w K mg base (CX1 P w) 2 f fd ["figure", "place"] (sp_l_seen K) := by
  refine F.zok1 sc_l_seen (fun vs H Q E h => ?_) (fun cdv A outer s H vs Q E hr h => ?_)
  · obtain ⟨n, p, ms, rfl, _⟩ := h
    rfl
  · obtain ⟨n, p, ms, rfl, hn, hp, hl, k⟩ := h
    obtain ⟨a, rfl, hq⟩ := rep_place hp
    refine ⟨_, (zpss_cons (zps_set (i := 2) sc_l_seen.nd rfl (Or.inl rfl) zpe_int) (zpss_cons (zps_for PassesOwn.never rfl (zpi_rev rfl T.reversed (zpa_cons (zpe_callTy call_range1 rfl T.range bt_range (zpa_cons zpe_int zpa_nil)) zpa_nil)) (zpg_name (i := 3) sc_l_seen.nd rfl (Or.inl rfl)) (zpss_one (zps_set (i := 2) sc_l_seen.nd rfl (Or.inl rfl) (zpe_op op_add (zpe_op op_mul zpe_int (zpv 2)) (zpe_callTy call_int1 rfl T.int bt_int (zpa_cons (zpe_call G_l_lit (hr.mono (by decide)) rfl T_l_lit.m T_l_lit.k T_l_lit.b .nil pass1n (zpa_cons (zpe_ix ix_list (zpv 1) (zpv 3) (fun _ _ => rfl)) (zpa_cons (zpe_call G_l_has (hr.mono (by decide)) rfl T_l_has.m T_l_has.k T_l_has.b .nil pass1n (zpa_cons (zpv 0) (zpa_cons (zpv 3) zpa_nil))) zpa_nil))) zpa_nil)))))) (zpss_one (zps_ret (zpv 2))))), ?_⟩
    refine ⟨7, rfl, fun r nr => ⟨r, 7, rfl, upd_same, by decide, by decide, ?_⟩⟩
    refine for_down (top := 6) (n := 7) (fun i σ H' => Same H H' ∧ i ≤ 7 ∧ ∃ v, σ = [some (.int n), some (.ref a), some (.int (lseenTo n ms i)), v]) ⟨Same.new nr, by decide, none, rfl⟩ ?_ ?_
    · rintro i σ H' hi ⟨s1, _, v, rfl⟩
      have e6 : (6 : Int) - (i : Int) = ((6 - i : Nat) : Int) := by omega
      have em : (ms.map V.str)[6 - i]? = some (.str (ms.getD (6 - i) "")) := by
        rw [List.getElem?_map, List.getD_eq_getElem?_getD, List.getElem?_eq_getElem (by omega)]
        rfl
      rw [e6]
      refine ⟨_, rfl, _, _, rfl, rfl, .inl ⟨by decide, by decide⟩, _, rfl, _, rfl, a, _, _, .str (ms.getD (6 - i) ""), rfl, rfl, s1.seq hq, atI_nat em, _, rfl, _, rfl, n, 6 - i, rfl, hn, by omega, fun H2 s2 => ?_⟩
      exact ⟨_, _, rfl, .inr ⟨_, rfl, _, _, rfl, rfl, s1.trans s2, by omega, _, rfl⟩⟩
    · rintro σ H' ⟨s1, _, v, rfl⟩
      exact ⟨_, rfl, k H' s1⟩

def figuresM (n k : Nat) : List Int := (List.range k).map fun j => ((n / 10 ^ (k - 1 - j) % 10 : Nat) : Int)
theorem figures_succ (n i : Nat) : figuresM n (i + 1) = ((n / 10 ^ i % 10 : Nat) : Int) :: figuresM n i := by
  unfold figuresM
  rw [List.range_succ_eq_map, List.map_cons, List.map_map]
  congr 1
  refine List.map_congr_left fun j hj => ?_
  have h := List.mem_range.mp hj
  show ((n / 10 ^ (i + 1 - 1 - (j + 1)) % 10 : Nat) : Int) = _
  rw [show i + 1 - 1 - (j + 1) = i - 1 - j by omega]
theorem figures_len (n k : Nat) : (figuresM n k).length = k := by simp [figuresM]
theorem sc_l_figures : FnScope ["number", "places", "found", "k"] ["number", "places"] (defScope s_l_figures) := ⟨rfl, rfl, rfl, by decide +kernel, rfl, by decide +kernel, by decide +kernel⟩
def sp_l_figures : Sp := fun vs H Q _ => ∃ n pl : Nat, vs = [.int n, .int pl] ∧ pl ≤ 100 ∧ Gives H Q (figuresM n pl)
theorem ok_l_figures {f : Addr} {fd : FuncData} (F : Fun K "_law_figures" "_law_figures" s_l_figures f fd) (T : Txt K mg aS aT) : FnOk P w K mg base (CX1 P w) 1 f fd ["number", "places"] sp_l_figures := by
  refine F.zok1 sc_l_figures (fun vs H Q E h => ?_) (fun cdv A outer s H vs Q E hr h => ?_)
  · obtain ⟨n, pl, rfl, _⟩ := h
    rfl
  · obtain ⟨n, pl, rfl, hp, k⟩ := h
    refine ⟨_, (zpss_cons (zps_set (i := 2) sc_l_figures.nd rfl (Or.inl rfl) (zpe_lst zpa_nil)) (zpss_cons (zps_for PassesOwn.never rfl (zpi_range1 rfl T.range (zpa_cons (zpv 1) zpa_nil)) (zpg_name (i := 3) sc_l_figures.nd rfl (Or.inl rfl)) (zpss_cons (zps_set (i := 2) sc_l_figures.nd rfl (Or.inl rfl) (zpe_op op_cat (zpe_lst (zpa_cons (zpe_op op_mod (zpv 0) zpe_int) zpa_nil)) (zpv 2))) (zpss_one (zps_set (i := 0) sc_l_figures.nd rfl (Or.inl rfl) (zpe_op op_fdiv (zpv 0) zpe_int))))) (zpss_one (zps_ret (zpv 2))))), ?_⟩
    refine ⟨Nat.zero_le _, fun l0 n0 => ⟨_, rfl, (pl : Int), rfl, by omega, by omega, for_range (n := (pl : Int).toNat) (fun i σ H' => Same H H' ∧ i ≤ pl ∧ ∃ lf v, H lf = none ∧ H' lf = some (.lst ((figuresM n i).map V.int)) ∧ σ = [some (.int ((n / 10 ^ i : Nat) : Int)), some (.int pl), some (.ref lf), v]) ⟨Same.new n0, Nat.zero_le _, l0, none, n0, upd_same, by rw [Nat.pow_zero, Nat.div_one]; rfl⟩ ?_ ?_⟩⟩
    · rintro i σ H' hi ⟨s1, hi2, lf, v, nf, hf, rfl⟩
      have hi3 : i < pl := by simpa using hi
      refine ⟨_, rfl, _, _, rfl, rfl, (by show (0 : Int) < 10; decide), by show 1 ≤ sizeLine; decide, fun l1 n1 => ⟨_, rfl, l1, lf, [.int (((n / 10 ^ i : Nat) : Int) % 10)], (figuresM n i).map V.int, rfl, rfl, upd_same, ?_, ?_, fun p np => ?_⟩⟩
      · rw [upd_ne (ne_of_none hf n1)]
        exact hf
      · rw [List.length_map, figures_len]
        exact Nat.le_of_lt (small1000 (by simp only [List.length_cons, List.length_nil]; omega))
      · have s2 := s1.upd (a := l1) (o := .lst [.int (((n / 10 ^ i : Nat) : Int) % 10)]) (s1.free n1)
        refine ⟨_, rfl, _, _, rfl, rfl, ⟨by decide, by decide⟩, s2.upd (s2.free np), by omega, p, some (.int (0 + (i : Int))), s2.free np, ?_, ?_⟩
        · rw [upd_same, figures_succ]
          show some (HO.lst (V.int (((n / 10 ^ i : Nat) : Int) % 10) :: (figuresM n i).map V.int)) = _
          rw [List.map_cons]
          simp
        · have e : ((n / 10 ^ i : Nat) : Int) / 10 = ((n / 10 ^ (i + 1) : Nat) : Int) := by
            rw [Nat.pow_succ, ← Nat.div_div_eq_div_mul]
            simp
          show [some (V.int (((n / 10 ^ i : Nat) : Int) / 10)), _, _, _] = _
          rw [e]
    · rintro σ H' ⟨s1, hi2, lf, v, nf, hf, rfl⟩
      refine ⟨_, rfl, k lf H' s1 nf ?_⟩
      rw [hf, Int.toNat_natCast]
theorem sc_l_open : FnScope ["showings", "found", "stroke", "marks", "mark", "wrong", "figure", "look"] ["showings"] (defScope s_l_open) := ⟨rfl, rfl, rfl, by decide +kernel, rfl, by decide +kernel, by decide +kernel⟩
/-- is the stroke lit in the look -/
def sp_l_open (K : PySem.W.Frag) : Sp := fun vs H Q _ => ∃ (a : Addr) (ts : List Addr) (qs : List (Int × Int)), vs = [.ref a] ∧ SqL K H a (ts.map V.ref) ∧ ShowsAt H ts qs ∧ qs.length ≤ 100 ∧ (∀ q ∈ qs, 0 ≤ q.1 ∧ q.1 < 10) ∧
  ∀ (l : Addr) (us : List Addr) (H' : Hp), Same H H' → H l = none → H' l = some (.lst (us.map V.ref)) → MarksAt H' us (openM qs) → (∀ u ∈ us, u ≠ l ∧ H u = none) → Q (.ref l) H'
theorem dec_bl (x y : Bool) : (!decide (V.bl x = V.bl y)) = (x != y) := by cases x <;> cases y <;> decide
set_option maxHeartbeats 2000000 in
theorem ok_l_open {f f1 f2 : Addr} {fd fd1 fd2 : FuncData} (F : Fun K "_law_open" "_law_open" s_l_open f fd) (T : Txt K mg aS aT) (T_l_lit : FnAt K mg "_law_lit" ["mark", "has"] f1 fd1) (G_l_lit : FnOk P w K mg base (CX1 P w) 1 f1 fd1 ["mark", "has"] sp_l_lit)
    (T_l_has : FnAt K mg "_law_has" ["figure", "stroke"] f2 fd2) (G_l_has : FnOk P w K mg base (CX1 P w) 1 f2 fd2 ["figure", "stroke"] sp_l_has) : FnOk P w K mg base (CX1 P w) 2 f fd ["showings"] (sp_l_open K) := by
  refine F.zok1 sc_l_open (fun vs H Q E h => ?_) (fun cdv A outer s H vs Q E hr h => ?_)
  · obtain ⟨a, ts, qs, rfl, _⟩ := h
    rfl
  · obtain ⟨a, ts, qs, rfl, ha, hts, h100, hq10, k⟩ := h
    have tl := hts.length
    refine ⟨_, (zpss_cons (zps_set (i := 1) sc_l_open.nd rfl (Or.inl rfl) (zpe_lst zpa_nil)) (zpss_cons (zps_for PassesOwn.never rfl (zpi_range1 rfl T.range (zpa_cons zpe_int zpa_nil)) (zpg_name (i := 2) sc_l_open.nd rfl (Or.inl rfl)) (zpss_cons (zps_set (i := 3) sc_l_open.nd rfl (Or.inl rfl) (zpe_lst zpa_nil)) (zpss_cons (zps_for PassesOwn.never rfl (zpi_list (zpe_lst (zpa_const (vs := [.str "good", .str "dead", .str "stuck"]) rfl))) (zpg_name (i := 4) sc_l_open.nd rfl (Or.inl rfl)) (zpss_cons (zps_set (i := 5) sc_l_open.nd rfl (Or.inl rfl) zpe_int) (zpss_cons (zps_for PassesOwn.never rfl (zpi_list (zpv 0)) (zpg_tup rfl (zpgs_cons (zpg_name (i := 6) sc_l_open.nd rfl (Or.inl rfl)) (zpgs_cons (zpg_name (i := 7) sc_l_open.nd rfl (Or.inl rfl)) zpgs_nil))) (zpss_one (zps_if (zpt_cmpR op_ne (zpe_call G_l_lit (hr.mono (by decide)) rfl T_l_lit.m T_l_lit.k T_l_lit.b .nil pass1n (zpa_cons (zpv 4) (zpa_cons (zpe_call G_l_has (hr.mono (by decide)) rfl T_l_has.m T_l_has.k T_l_has.b .nil pass1n (zpa_cons (zpv 6) (zpa_cons (zpv 2) zpa_nil))) zpa_nil))) (zpe_cmpR op_eq (zpe_op op_mod (zpe_op op_shr (zpv 7) (zpv 2)) zpe_int) zpe_int (nomark _)) (nomark _)) (zpss_one (zps_set (i := 5) sc_l_open.nd rfl (Or.inl rfl) (zpe_op op_add (zpv 5) zpe_int))) zpss_nil))) (zpss_one (zps_if (zpt_cmpR op_eq (zpv 5) zpe_int (nomark _)) (zpss_one (zps_expr (zpe_bm PySem.F.plainAttrs_list PySem.F.slot_list_append PySem.F.type_list_append mt_append (zpv 3) (zpa_cons (zpv 4) zpa_nil)))) zpss_nil))))) (zpss_one (zps_expr (zpe_bm PySem.F.plainAttrs_list PySem.F.slot_list_append PySem.F.type_list_append mt_append (zpv 1) (zpa_cons (zpv 3) zpa_nil))))))) (zpss_one (zps_ret (zpv 1))))), ?_⟩
    refine ⟨Nat.zero_le _, fun l nl => ⟨7, rfl, by decide, by decide, for_range (n := 7) (fun i σ H' => Same H H' ∧ i ≤ 7 ∧ ∃ (us : List Addr) (v2 v3 v4 v5 v6 v7 : Option V), H' l = some (.lst (us.map V.ref)) ∧ MarksAt H' us ((List.range i).map (openAt qs)) ∧ (∀ u ∈ us, u ≠ l ∧ H u = none) ∧ σ = [some (.ref a), some (.ref l), v2, v3, v4, v5, v6, v7])
      ⟨Same.new nl, by decide, [], none, none, none, none, none, none, upd_same, .nil, (fun u h => nomatch h), rfl⟩ ?_ ?_⟩⟩
    · rintro i σ H1 hi ⟨s1, hi7, us, v2, v3, v4, v5, v6, v7, hl, hus, hne, rfl⟩
      rw [Int.zero_add]
      have ul : us.length = i := by rw [hus.length, List.length_map, List.length_range]
      refine ⟨Nat.zero_le _, fun lm nm => ?_⟩
      have t1 : Same H1 (upd H1 lm (.lst [])) := Same.new nm
      have hlm : (upd H1 lm (.lst [])) lm = some (.lst []) := upd_same
      refine ⟨by show 3 ≤ sizeLine; decide, fun l3 n3 => ?_⟩
      have t2 : Same (upd H1 lm (.lst [])) (upd (upd H1 lm (.lst [])) l3 (.lst [.str "good", .str "dead", .str "stuck"])) := Same.new n3
      have hl3 : (upd (upd H1 lm (.lst [])) l3 (.lst [.str "good", .str "dead", .str "stuck"])) l3 = some (.lst [.str "good", .str "dead", .str "stuck"]) := upd_same
      have n3' : H1 l3 = none := t1.free n3
      have hlm2 := t2 _ _ hlm
      have nlm3 : l3 ≠ lm := fun z => by rw [z, hlm] at n3; cases n3
      have t12 := t1.trans t2
      generalize upd (upd H1 lm (.lst [])) l3 (.lst [.str "good", .str "dead", .str "stuck"]) = H2 at *
      have nlm : lm ≠ l := fun z => by rw [z, hl] at nm; cases nm
      have nHm : H lm = none := s1.free nm
      refine ⟨l3, rfl, ⟨_, SqL.of hl3⟩, for_list (xs := [.str "good", .str "dead", .str "stuck"]) (fun j σ H' => Same H1 H' ∧ H' l3 = some (.lst [.str "good", .str "dead", .str "stuck"]) ∧ j ≤ 3 ∧ ∃ v4 v5 v6 v7, H' lm = some (.lst (((marks3.take j).filter fun m => !qs.any (wrongM m i)).map V.str)) ∧ σ = [some (.ref a), some (.ref l), some (.int i), some (.ref lm), v4, v5, v6, v7])
        ⟨t12, hl3, by decide, _, _, _, _, hlm2, rfl⟩ (fun j σ H' _ p => SqL.of p.2.1) ?_ ?_⟩
      · rintro j x σ H3 ex ⟨s3, hl33, hj3, w4, w5, w6, w7, hlm3, rfl⟩
        obtain ⟨m, emk, rfl⟩ : ∃ m, marks3[j]? = some m ∧ x = .str m := by
          match j, ex with
          | 0, ex => exact ⟨_, rfl, (Option.some.inj ex).symm⟩
          | 1, ex => exact ⟨_, rfl, (Option.some.inj ex).symm⟩
          | 2, ex => exact ⟨_, rfl, (Option.some.inj ex).symm⟩
        have hj' : j < 3 := (List.getElem?_eq_some_iff.mp ex).1
        have s03 := s1.trans s3
        have ft := filter_take (fun m => !qs.any (wrongM m i)) marks3 j m emk
        refine ⟨_, rfl, a, rfl, ⟨_, s03.seq ha⟩, for_list (xs := ts.map V.ref) (fun q σ H' => Same H3 H' ∧ ∃ (n : Nat) (v6 v7 : Option V), n ≤ q ∧ q ≤ ts.length ∧ (n = 0 ↔ (qs.take q).any (wrongM m i) = false) ∧ σ = [some (.ref a), some (.ref l), some (.int i), some (.ref lm), some (.str m), some (.int (n : Nat)), v6, v7])
          ⟨Same.refl _, 0, w6, w7, Nat.le_refl _, Nat.zero_le _, by simp, rfl⟩ (fun q σ H' _ p => (s03.trans p.1).seq ha) ?_ ?_⟩
        · rintro q x σ H4 exq ⟨s4, n, u6, u7, hnq, hqt, hn, rfl⟩
          obtain ⟨t, et, rfl⟩ := ref_get exq
          have hq' : q < ts.length := (List.getElem?_eq_some_iff.mp et).1
          have s04 := s03.trans s4
          obtain ⟨sh, esh, ht⟩ := (hts.same s04).get et
          obtain ⟨p0, p10⟩ := hq10 sh (List.mem_of_getElem? esh)
          have at1 : (qs.take (q + 1)).any (wrongM m i) = ((qs.take q).any (wrongM m i) || wrongM m i sh) := by
            rw [List.take_add_one, esh, List.any_append]
            simp
          have e1 : sh.1 = ((sh.1.toNat : Nat) : Int) := by omega
          refine ⟨t, _, rfl, SqT.of ht, rfl, _, _, rfl, _, _, rfl, rfl, ?_⟩
          refine ⟨_, rfl, _, rfl, _, rfl, sh.1.toNat, i, (by show [V.int sh.1, V.int (i : Nat)] = _; rw [← e1]), by omega, by omega, fun H5 s5 => ⟨m, _, rfl, _, rfl, _, rfl, _, _, rfl, rfl, Int.natCast_nonneg _, _, _, rfl, rfl, (by show (0 : Int) < 2; decide), rfl, rfl, _, rfl, ?_⟩⟩
          have eb : (decide (V.int (sh.2 / 2 ^ ((i : Nat) : Int).toNat % 2) = V.int 1)) = bitM sh.2 i := by
            rw [dec_int', Int.toNat_natCast]
            rfl
          show if (!decide (V.bl (litL m (hasM sh.1.toNat i)) = V.bl (decide (V.int (sh.2 / 2 ^ ((i : Nat) : Int).toNat % 2) = V.int 1)))) = true then _ else _
          rw [eb, dec_bl]
          show if wrongM m i sh = true then _ else _
          have s45 := s4.trans s5
          cases ew : wrongM m i sh with
          | true =>
            rw [ew, Bool.or_true] at at1
            refine iteT ⟨_, rfl, _, _, rfl, rfl, s45, n + 1, _, _, by omega, by omega, ?_, rfl⟩
            rw [at1]
            simp
          | false =>
            rw [ew, Bool.or_false] at at1
            refine iteF ⟨s45, n, _, _, by omega, by omega, ?_, rfl⟩
            rw [at1]
            exact hn
        · rintro σ H4 ⟨s4, n, u6, u7, hnq, hqt, hn, rfl⟩
          rw [List.take_of_length_le (by rw [List.length_map]; omega)] at hn
          have s14 := s3.trans s4
          refine ⟨_, rfl, rfl, _, rfl, ?_⟩
          rw [dec_int']
          cases ea : qs.any (wrongM m i) with
          | false =>
            have hn0 : n = 0 := hn.mpr ea
            rw [decide_eq_true (by rw [hn0]; rfl)]
            rw [ea] at ft
            refine iteT ⟨_, rfl, .inl ⟨rfl, _, SqL.of (s4 _ _ hlm3)⟩, _, rfl, lm, _, _, rfl, rfl, s4 _ _ hlm3, ?_, ?_⟩
            · rw [List.length_map]
              refine small1000 (Nat.le_trans (List.length_filter_le _ _) ?_)
              rw [List.length_take]
              omega
            · refine ⟨s14.upd nm, by rw [upd_ne nlm3]; exact s4 _ _ hl33, by omega, _, _, _, _, ?_, rfl⟩
              rw [upd_same, ft, List.map_append]
              rfl
          | true =>
            have hn0 : ¬ n = 0 := fun z => by rw [hn.mp z] at ea; cases ea
            rw [decide_eq_false (by omega)]
            rw [ea] at ft
            refine iteF ⟨s14, s4 _ _ hl33, by omega, _, _, _, _, ?_, rfl⟩
            rw [s4 _ _ hlm3, ft]
            simp
      · rintro σ H3 ⟨s3, hl33, hj3, w4, w5, w6, w7, hlm3, rfl⟩
        have e3 : ((marks3.take [V.str "good", V.str "dead", V.str "stuck"].length).filter fun m => !qs.any (wrongM m i)) = openAt qs i := rfl
        rw [e3] at hlm3
        refine ⟨_, rfl, .inl ⟨rfl, _, SqL.of (s3 _ _ hl)⟩, _, rfl, l, _, _, rfl, rfl, s3 _ _ hl, by rw [List.length_map]; exact small1000 (by omega), ?_⟩
        refine ⟨(s1.trans s3).upd nl, by omega, us ++ [lm], _, _, _, _, _, _, by rw [upd_same, List.map_append]; rfl, ?_, fun u hu => ?_, rfl⟩
        · rw [List.range_succ, List.map_append]
          exact Paired.snoc ((hus.same s3).offs fun u hu => (hne u hu).1) (by rw [upd_ne nlm]; exact hlm3)
        · rcases List.mem_append.mp hu with z | z
          · exact hne u z
          · rw [List.mem_singleton.mp z]; exact ⟨nlm, nHm⟩
    · rintro σ H1 ⟨s1, _, us, v2, v3, v4, v5, v6, v7, hl, hus, hne, rfl⟩
      exact ⟨_, rfl, k l us H1 s1 nl hl hus hne⟩
theorem sc_l_panel : FnScope ["script", "start", "places"] ["script", "start", "places"] (defScope s_l_panel) := ⟨rfl, rfl, rfl, by decide +kernel, rfl, by decide +kernel, by decide +kernel⟩
def sp_l_panel (K : PySem.W.Frag) : Sp := fun vs H Q _ => ∃ (a : Addr) (ns : List Int) (st pl : Nat), vs = [.ref a, .int st, .int pl] ∧ SqL K H a (ns.map V.int) ∧ pl ≤ 100 ∧ ∀ (pn : List (List Str)) (l : Addr) (ts : List Addr) (H' : Hp), pn.length = pl → (∀ ms ∈ pn, GoodPlace ms) → Same H H' → H l = none → H' l = some (.lst (ts.map V.ref)) → MarksAt H' ts pn → Q (.ref l) H'
theorem ok_l_panel {f f1 f2 : Addr} {fd fd1 fd2 : FuncData} (F : Fun K "_law_panel" "_law_panel" s_l_panel f fd) (T : Txt K mg aS aT) (T_l_pick : FnAt K mg "_law_pick" ["script", "k"] f1 fd1) (G_l_pick : FnOk P w K mg base (CX1 P w) 2 f1 fd1 ["script", "k"] (sp_l_pick K))
    (T_l_place : FnAt K mg "_law_place" ["cell"] f2 fd2) (G_l_place : FnOk P w K mg base (CX1 P w) 2 f2 fd2 ["cell"] sp_l_place) : FnOk P w K mg base (CX1 P w) 3 f fd ["script", "start", "places"] (sp_l_panel K) := by
  refine F.zok1 sc_l_panel (fun vs H Q E h => ?_) (fun cdv A outer s H vs Q E hr h => ?_)
  · obtain ⟨a, ns, st, pl, rfl, _⟩ := h
    rfl
  · obtain ⟨a, ns, st, pl, rfl, ha, hpl, q⟩ := h
    refine ⟨_, (zpss_one (zps_ret (zpe_lc (N' := ["k", "script", "start"]) (js := [none, some 0, some 1]) rfl (compOk.scope (sc := defScope s_l_panel) (N := ["script", "start", "places"]) (by decide +kernel)) (zpi_range1 rfl T.range (zpa_cons (zpv 2) zpa_nil)) (fun _ _ _ _ _ => (zpg_name (i := 0) (show (["k", "script", "start"] : List Str).Nodup from by decide +kernel) rfl (Or.inl rfl))) (fun _ _ _ _ _ => zpif_nil) (fun _ _ _ _ _ => (zpe_call G_l_place (hr.mono (by decide)) rfl T_l_place.m T_l_place.k T_l_place.b .nil pass1n (zpa_cons (zpe_call G_l_pick (hr.mono (by decide)) rfl T_l_pick.m T_l_pick.k T_l_pick.b .nil pass1n (zpa_cons (zpv 1) (zpa_cons (zpe_op op_add (zpv 2) (zpv 0)) zpa_nil))) zpa_nil)))))), ?_⟩
    refine ⟨_, rfl, (pl : Int), rfl, by omega, by omega, lc_range (n := (pl : Int).toNat) (fun i ys H' => Same H H' ∧ ys.length = i ∧ i ≤ pl ∧ ∃ (pn : List (List Str)) (ts : List Addr), pn.length = i ∧ (∀ ms ∈ pn, GoodPlace ms) ∧ ys = ts.map V.ref ∧ MarksAt H' ts pn) ⟨Same.refl H, rfl, Nat.zero_le _, [], [], rfl, (fun ms h => nomatch h), rfl, .nil⟩ ?_ ?_⟩
    · rintro ys H' ⟨s1, hy, _, pn, ts, hn, hg, rfl, hr⟩ l nl
      have s2 : Same H' (upd H' l (.lst (ts.map V.ref))) := Same.new nl
      exact q pn l ts _ (by rw [hn]; simp) hg (s1.trans s2) (s1.free nl) upd_same (hr.same s2)
    · rintro i ys H' hi ⟨s1, hy, hi2, pn, ts, hn, hg, rfl, hr⟩
      refine ⟨by rw [hy]; exact small1000 (by omega), Sub.set rfl, _, rfl, _, rfl, _, rfl, _, _, rfl, rfl, a, ns, st + i, ?_, s1.seq ha, _, rfl, fun ms l H2 gm s2 nl hl => ?_⟩
      · show [V.ref a, V.int ((st : Int) + (0 + (i : Int)))] = _
        rw [Int.zero_add]
        rfl
      · refine ⟨s1.trans s2, by rw [List.length_append, hy]; rfl, by simp at hi; omega, pn ++ [ms], ts ++ [l], by rw [List.length_append, hn]; rfl, fun m hm => ?_, by rw [List.map_append]; rfl, Paired.snoc (hr.same s2) hl⟩
        rcases List.mem_append.mp hm with z | z
        · exact hg m z
        · rw [List.mem_singleton.mp z]; exact gm
theorem marks_rep {H : Hp} : ∀ {us : List Addr} {mk : List (List Str)}, MarksAt H us mk → RepAll K H (us.map V.ref) (dPs mk)
  | _, _, .nil => .nil
  | _, _, .cons (b := one) e r => .cons (.list (SqL.of e) (RepAll.strs one)) (marks_rep r)
theorem lseen_lt (f : Nat) (ms : List Str) : ∀ i, 0 ≤ lseenTo f ms i ∧ lseenTo f ms i < 2 ^ i
  | 0 => ⟨by show (0 : Int) ≤ 0; decide, by show (0 : Int) < 2 ^ 0; decide⟩
  | i + 1 => by
    obtain ⟨a, b⟩ := lseen_lt f ms i
    have e : lseenTo f ms (i + 1) = 2 * lseenTo f ms i + b2n (litL (ms.getD (6 - i) "") (hasM f (6 - i))) := rfl
    have c : 0 ≤ b2n (litL (ms.getD (6 - i) "") (hasM f (6 - i))) ∧ b2n (litL (ms.getD (6 - i) "") (hasM f (6 - i))) ≤ 1 := by
      unfold b2n
      split <;> omega
    have p : (2 : Int) ^ (i + 1) = 2 * 2 ^ i := by rw [Int.pow_succ]; omega
    rw [e, p]
    omega
theorem seen_look {f : Nat} (hf : f < 10) {ms : List Str} (hm : ms.length = 7) : 0 ≤ seenM (f : Nat) ms ∧ seenM (f : Nat) ms < 128 := by
  rw [seen_law hf hm]
  have := lseen_lt f ms 7
  unfold lseenM
  exact ⟨this.1, Int.lt_of_lt_of_le this.2 (by decide)⟩
theorem most_at {k : Nat} (h1 : 1 ≤ k) (h3 : k ≤ 3) : atI [V.int 10, .int 100, .int 1000] ((k : Int) - 1) = some (.int ((10 ^ k : Nat) : Int)) := by
  have : k = 1 ∨ k = 2 ∨ k = 3 := by omega
  rcases this with rfl | rfl | rfl <;> rfl
theorem ten_le {k : Nat} (h3 : k ≤ 3) : 10 ^ k ≤ 1000 := by
  have : k = 0 ∨ k = 1 ∨ k = 2 ∨ k = 3 := by omega
  rcases this with rfl | rfl | rfl | rfl <;> decide
theorem IntsAt.offs {H : Hp} {a : Addr} {o : HO} : ∀ {ts : List Addr} {rs : List (List Int)}, IntsAt H ts rs → (∀ t ∈ ts, t ≠ a) → IntsAt (upd H a o) ts rs
  | _, _, .nil, _ => .nil
  | _, _, .cons e r, h => .cons (by rw [upd_ne (h _ List.mem_cons_self)]; exact e) (IntsAt.offs r fun t ht => h t (List.mem_cons_of_mem _ ht))
theorem IntsAt.alive {H : Hp} : ∀ {ts : List Addr} {rs : List (List Int)}, IntsAt H ts rs → ∀ t ∈ ts, H t ≠ none
  | _, _, .nil, t, h => nomatch h
  | _, _, .cons e r, t, h => by
    rcases List.mem_cons.mp h with rfl | h
    · rw [e]; exact fun z => nomatch z
    · exact IntsAt.alive r t h
/-- what a panel shows of a number -/
def rowM (n : Nat) (pn : List (List Str)) : List Int := ((figuresM n pn.length).zip pn).map fun q => lseenM q.1.toNat q.2
def rowsM (pn : List (List Str)) (first size : Nat) : List (List Int) := (List.range size).map fun i => rowM ((first + i) % 10 ^ pn.length) pn
theorem row_len (n : Nat) (pn : List (List Str)) : (rowM n pn).length = pn.length := by
  unfold rowM
  rw [List.length_map, List.length_zip, figures_len, Nat.min_self]
theorem row_look (n : Nat) (pn : List (List Str)) : ∀ x ∈ rowM n pn, 0 ≤ x ∧ x < 128 := fun x hx => by
  unfold rowM at hx
  obtain ⟨q, _, rfl⟩ := List.mem_map.mp hx
  have := lseen_lt q.1.toNat q.2 7
  unfold lseenM
  exact ⟨this.1, Int.lt_of_lt_of_le this.2 (by decide)⟩
theorem figures_ok (n k : Nat) : ∀ x ∈ figuresM n k, 0 ≤ x ∧ x < 10 := fun x hx => by
  unfold figuresM at hx
  obtain ⟨j, _, rfl⟩ := List.mem_map.mp hx
  omega
theorem sc_l_rows : FnScope ["script", "start", "panel", "first", "size", "places", "most", "found", "turn", "figures"] ["script", "start", "panel", "first", "size"] (defScope s_l_rows) := ⟨rfl, rfl, rfl, by decide +kernel, rfl, by decide +kernel, by decide +kernel⟩
def sp_l_rows (K : PySem.W.Frag) : Sp := fun vs H Q _ => ∃ (u0 u1 p : V) (pn : List (List Str)) (first size : Nat), vs = [u0, u1, p, .int first, .int size] ∧ Rep K H p (.list (dPs pn)) ∧ 1 ≤ pn.length ∧ pn.length ≤ 3 ∧ (∀ ms ∈ pn, ms.length = 7) ∧ size ≤ 100 ∧
  ∀ (l : Addr) (ts : List Addr) (H' : Hp), Same H H' → H l = none → H' l = some (.lst (ts.map V.ref)) → IntsAt H' ts (rowsM pn first size) → (∀ t ∈ ts, t ≠ l ∧ H t = none) → ts.Nodup → Q (.ref l) H'
set_option maxHeartbeats 2000000 in
theorem ok_l_rows {f f1 f2 : Addr} {fd fd1 fd2 : FuncData} (F : Fun K "_law_rows" "_law_rows" s_l_rows f fd) (T : Txt K mg aS aT) (T_l_figures : FnAt K mg "_law_figures" ["number", "places"] f1 fd1) (G_l_figures : FnOk P w K mg base (CX1 P w) 1 f1 fd1 ["number", "places"] sp_l_figures)
    (T_l_seen : FnAt K mg "_law_seen" ["figure", "place"] f2 fd2) (G_l_seen : FnOk P w K mg base (CX1 P w) 2 f2 fd2 ["figure", "place"] (sp_l_seen K)) : FnOk P w K mg base (CX1 P w) 3 f fd ["script", "start", "panel", "first", "size"] (sp_l_rows K) := by
  refine F.zok1 sc_l_rows (fun vs H Q E h => ?_) (fun cdv A outer s H vs Q E hr h => ?_)
  · obtain ⟨u0, u1, p, pn, first, size, rfl, _⟩ := h
    rfl
  · obtain ⟨u0, u1, p, pn, first, size, rfl, hp, l1, l3, h7, hz, kq⟩ := h
    obtain ⟨a, xs, rfl, hq, hx⟩ := rep_list hp
    have xl : xs.length = pn.length := by rw [hx.length, List.length_map]
    have t0 : (0 : Int) < ((10 ^ pn.length : Nat) : Int) := Int.natCast_pos.mpr (Nat.pow_pos (by decide))
    refine ⟨_, (zpss_cons (zps_set (i := 5) sc_l_rows.nd rfl (Or.inl rfl) (zpe_callB call_len_seq rfl T.len PySem.boot_len (zpa_cons (zpv 2) zpa_nil))) (zpss_cons (zps_set (i := 6) sc_l_rows.nd rfl (Or.inl rfl) (zpe_ix ix_list (zpe_lst (zpa_const (vs := [.int 10, .int 100, .int 1000]) rfl)) (zpe_op op_sub (zpv 5) zpe_int) (fun _ _ => rfl))) (zpss_cons (zps_set (i := 7) sc_l_rows.nd rfl (Or.inl rfl) (zpe_lst zpa_nil)) (zpss_cons (zps_for PassesOwn.never rfl (zpi_range1 rfl T.range (zpa_cons (zpv 4) zpa_nil)) (zpg_name (i := 8) sc_l_rows.nd rfl (Or.inl rfl)) (zpss_cons (zps_set (i := 9) sc_l_rows.nd rfl (Or.inl rfl) (zpe_call G_l_figures (hr.mono (by decide)) rfl T_l_figures.m T_l_figures.k T_l_figures.b .nil pass1n (zpa_cons (zpe_op op_mod (zpe_op op_add (zpv 3) (zpv 8)) (zpv 6)) (zpa_cons (zpv 5) zpa_nil)))) (zpss_one (zps_expr (zpe_bm PySem.F.plainAttrs_list PySem.F.slot_list_append PySem.F.type_list_append mt_append (zpv 7) (zpa_cons (zpe_lc (N' := ["figure", "place"]) (js := [none, none]) rfl (compOk.scope (sc := defScope s_l_rows) (N := ["script", "start", "panel", "first", "size", "places", "most", "found", "turn", "figures"]) (by decide +kernel)) (zpi_zip (k1 := true) (k2 := true) rfl T.zip (zpa_cons (zpv 9) (zpa_cons (zpv 2) zpa_nil))) (fun _ _ _ _ _ => (zpg_tupK (K := K) 2 rfl rfl (zpgs_cons (zpg_name (i := 0) (show (["figure", "place"] : List Str).Nodup from by decide +kernel) rfl (Or.inl rfl)) (zpgs_cons (zpg_name (i := 1) (show (["figure", "place"] : List Str).Nodup from by decide +kernel) rfl (Or.inl rfl)) zpgs_nil)))) (fun _ _ _ _ _ => zpif_nil) (fun _ _ _ _ _ => (zpe_call G_l_seen (hr.mono (by decide)) rfl T_l_seen.m T_l_seen.k T_l_seen.b .nil pass1n (zpa_cons (zpv 0) (zpa_cons (zpv 1) zpa_nil))))) zpa_nil)))))) (zpss_one (zps_ret (zpv 7))))))), ?_⟩
    refine ⟨_, rfl, a, xs, rfl, .inl hq, by show 3 ≤ sizeLine; decide, fun l3' n3 => ⟨_, rfl, _, _, rfl, rfl, l3', _, _, .int ((10 ^ pn.length : Nat) : Int), rfl, rfl, SqL.of upd_same, (by rw [xl]; exact most_at l1 l3), Nat.zero_le _, fun lf nf => ?_⟩⟩
    rw [xl]
    have s0 : Same H (upd H l3' (.lst [.int 10, .int 100, .int 1000])) := Same.new n3
    have nf0 : H lf = none := s0.free nf
    have sf : Same H (upd (upd H l3' (.lst [.int 10, .int 100, .int 1000])) lf (.lst [])) := s0.upd nf0
    refine ⟨_, rfl, (size : Int), rfl, by omega, by omega, for_range (n := (size : Int).toNat) (fun i σ H' => Same H H' ∧ i ≤ size ∧ ∃ (ts : List Addr) (v8 v9 : Option V), H' lf = some (.lst (ts.map V.ref)) ∧ IntsAt H' ts (rowsM pn first i) ∧ (∀ t ∈ ts, t ≠ lf ∧ H t = none) ∧ ts.Nodup ∧ σ = [some u0, some u1, some (.ref a), some (.int first), some (.int size), some (.int (pn.length : Int)), some (.int ((10 ^ pn.length : Nat) : Int)), some (.ref lf), v8, v9])
      ⟨sf, Nat.zero_le _, [], none, none, upd_same, .nil, (fun t h => nomatch h), List.nodup_nil, rfl⟩ ?_ ?_⟩
    · rintro i σ H1 hi ⟨s1, hi2, ts, v8, v9, hlf, hts, hne, hnd, rfl⟩
      have hi3 : i < size := by simpa using hi
      have tl := hts.length
      unfold rowsM at tl
      rw [List.length_map, List.length_range] at tl
      refine ⟨_, rfl, _, rfl, _, _, rfl, rfl, _, rfl, _, _, rfl, rfl, t0, _, rfl, (first + i) % 10 ^ pn.length, pn.length, ?_, by omega, fun lg H2 s2 nlg hlg => ?_⟩
      · show [V.int (((first : Int) + (0 + (i : Int))) % ((10 ^ pn.length : Nat) : Int)), V.int (pn.length : Int)] = _
        simp
      generalize eN : (first + i) % 10 ^ pn.length = N at *
      have s12 := s1.trans s2
      have hlf2 := s2 _ _ hlf
      refine ⟨_, rfl, .inl ⟨rfl, _, SqL.of hlf2⟩, _, rfl, _, rfl, lg, a, (figuresM N pn.length).map V.int, xs, rfl, SqL.of hlg, s12.seq hq, lc_zip (xs := (figuresM N pn.length).map V.int) (zs := xs) (by rw [List.length_map, figures_len, xl])
        (fun j ys H' => Same H2 H' ∧ j ≤ pn.length ∧ ys = ((((figuresM N pn.length).zip pn).take j).map fun q => lseenM q.1.toNat q.2).map V.int) ⟨Same.refl _, Nat.zero_le _, rfl⟩ (fun j ys H' q => ⟨SqL.of (q.1 _ _ hlg), (s12.trans q.1).seq hq⟩) ?_ ?_ ?_⟩
      · rintro ys H3 ⟨s3, _, rfl⟩ lr nlr
        rw [List.length_map, figures_len, List.take_of_length_le (by rw [List.length_zip, figures_len]; omega)]
        have s23 := s2.trans s3
        have hlf3 := s23 _ _ hlf
        have hts3 := hts.same s23
        have s13 := s1.trans s23
        have ner : lr ≠ lf := fun z => by rw [z, hlf3] at nlr; cases nlr
        have s4 : Same H3 (upd H3 lr (.lst ((rowM N pn).map V.int))) := Same.new nlr
        have hts4 := hts3.same s4
        have hlf4 := s4 _ _ hlf3
        have hlr4 : (upd H3 lr (.lst ((rowM N pn).map V.int))) lr = some (.lst ((rowM N pn).map V.int)) := upd_same
        show ∃ _, _
        refine ⟨lf, _, _, rfl, rfl, hlf4, by rw [List.length_map]; exact small1000 (by omega), ?_⟩
        refine ⟨(s13.trans s4).upd nf0, hi3, ts ++ [lr], _, _, by rw [upd_same, List.map_append]; rfl, ?_, fun t ht => ?_, ?_, rfl⟩
        · unfold rowsM
          rw [List.range_succ, List.map_append]
          show Paired _ (ts ++ [lr]) (_ ++ [rowM ((first + i) % 10 ^ pn.length) pn])
          rw [eN]
          exact Paired.snoc (hts4.offs fun t ht => (hne t ht).1) (by rw [upd_ne ner]; exact hlr4)
        · rcases List.mem_append.mp ht with z | z
          · exact hne t z
          · rw [List.mem_singleton.mp z]; exact ⟨ner, s13.free nlr⟩
        · rw [List.nodup_append]
          refine ⟨hnd, by simp, fun x hx y hy e => ?_⟩
          rw [List.mem_singleton.mp hy] at e
          subst e
          exact hts3.alive x hx nlr
      · rintro j x z Tt ys H3 ex ez ⟨s3, hj, rfl⟩ nT
        obtain ⟨fg, efg, rfl⟩ := int_get ex
        obtain ⟨ms, em, hm⟩ := dPs_get hx ez
        have hj' : j < pn.length := (List.getElem?_eq_some_iff.mp em).1
        obtain ⟨f0, f10⟩ := figures_ok N pn.length fg (List.mem_of_getElem? efg)
        have ef : fg = ((fg.toNat : Nat) : Int) := by omega
        have s4 : Same H3 (upd H3 Tt (.tup [.int fg, z])) := Same.new nT
        have s34 := s3.trans s4
        refine ⟨by rw [List.length_map, List.length_map, List.length_take]; exact small1000 (by omega), _, _, rfl, SqT.of upd_same, rfl, _, _, rfl, _, _, rfl, rfl, (Sub.set rfl).trans (Sub.set rfl), ?_⟩
        refine ⟨_, rfl, _, rfl, fg.toNat, z, ms, ?_, by omega, hm.same ((s12.trans s3).trans s4), h7 ms (List.mem_of_getElem? em), fun H5 s5 => ⟨s34.trans s5, hj', ?_⟩⟩
        · rw [← ef]; rfl
        · rw [map_take _ _ _ _ (PyProof.Rows.zip_get efg em), List.map_append]
          rfl
      · rintro j ys H3 ⟨_, hj, rfl⟩
        rw [List.length_map, List.length_map, List.length_take]
        exact small1000 (by omega)
    · rintro σ H1 ⟨s1, _, ts, v8, v9, hlf, hts, hne, hnd, rfl⟩
      rw [Int.toNat_natCast] at hts
      exact ⟨_, rfl, kq lf ts H1 s1 nf0 hlf hts hne hnd⟩

theorem figs_eq (n k : Nat) : figuresM n k = figsOfM n k := by
  refine List.ext_getElem? fun i => ?_
  unfold figuresM figsOfM
  by_cases h : i < k
  · rw [List.getElem?_map, List.getElem?_map, worths_at h, List.getElem?_range h]
    simp
  · rw [List.getElem?_eq_none (by rw [List.length_map, List.length_range]; omega), List.getElem?_eq_none (by rw [List.length_map, worths_len]; omega)]
theorem shows_len {st k p : Nat} {rs : List (List Int)} : (showsFrom st rs k p).length = rs.length := by
  unfold showsFrom showsP countedM
  rw [List.length_map, List.length_zip, List.length_map, List.length_range, Nat.min_self]
theorem shows_at {st k p i : Nat} {rs : List (List Int)} {r : List Int} (e : rs[i]? = some r) : (showsFrom st rs k p)[i]? = some ((figuresM ((st + i) % 10 ^ k) k).getD p 0, r.getD p 0) := by
  have hi : i < rs.length := (List.getElem?_eq_some_iff.mp e).1
  have ec : (countedM st rs.length k)[i]? = some (figuresM ((st + i) % 10 ^ k) k) := by
    unfold countedM
    rw [List.getElem?_map, List.getElem?_range hi, figs_eq]
    rfl
  unfold showsFrom showsP
  rw [List.getElem?_map, PyProof.Rows.zip_get ec e]
  rfl
theorem shows_ok {st k p : Nat} {rs : List (List Int)} (hp : p < k) : ∀ q ∈ showsFrom st rs k p, 0 ≤ q.1 ∧ q.1 < 10 := fun q hq => by
  unfold showsFrom showsP at hq
  obtain ⟨⟨u, r⟩, hz, rfl⟩ := List.mem_map.mp hq
  have hu := (List.of_mem_zip hz).1
  unfold countedM at hu
  obtain ⟨i, _, rfl⟩ := List.mem_map.mp hu
  refine figsOf_ok ((st + i) % 10 ^ k) k _ ?_
  show (figsOfM ((st + i) % 10 ^ k) k).getD p 0 ∈ _
  rw [List.getD_eq_getElem?_getD, List.getElem?_eq_getElem (show p < (figsOfM ((st + i) % 10 ^ k) k).length by rw [figsOf_len]; exact hp)]
  exact List.getElem_mem _
theorem eqv_nil : ∀ one : List Str, PyData.eqv (dP one) (.list []) = one.isEmpty
  | [] => by simp [PyData.eqv, PyData.eqvAll]
  | x :: r => by simp [PyData.eqv, PyData.eqvAll]
theorem sc_l_price : FnScope ["rows", "first", "places", "most", "total", "k", "showings", "turn", "row", "marks"] ["rows", "first"] (defScope s_l_price) := ⟨rfl, rfl, rfl, by decide +kernel, rfl, by decide +kernel, by decide +kernel⟩
/-- the rows as the law has them -/
structure LRows (H : Hp) (a : Addr) (ts : List Addr) (rs : List (List Int)) (k : Nat) : Prop where
  lst : H a = some (.lst (ts.map V.ref))
  nums : IntsAt H ts rs
  one : 1 ≤ rs.length
  few : rs.length ≤ 100
  wide : ∀ r ∈ rs, r.length = k
  looks : ∀ r ∈ rs, ∀ x ∈ r, 0 ≤ x ∧ x < 128
theorem LRows.same {H H' : Hp} {a : Addr} {ts : List Addr} {rs : List (List Int)} {k : Nat} (h : LRows H a ts rs k) (s : Same H H') : LRows H' a ts rs k := ⟨s _ _ h.lst, h.nums.same s, h.one, h.few, h.wide, h.looks⟩
theorem ints_rep {H : Hp} : ∀ {ts : List Addr} {rs : List (List Int)}, IntsAt H ts rs → RepAll K H (ts.map V.ref) (dRows rs)
  | _, _, .nil => .nil
  | _, _, .cons (b := r) e t => .cons (.list (SqL.of e) (RepAll.ints r)) (ints_rep t)
theorem LRows.rows {H : Hp} {a : Addr} {ts : List Addr} {rs : List (List Int)} {k : Nat} (h : LRows H a ts rs k) : RowsAt K H (.ref a) rs k := ⟨.list (SqL.of h.lst) (ints_rep h.nums), h.few, h.wide, h.looks⟩
def sp_l_price : Sp := fun vs H Q _ => ∃ (a : Addr) (ts : List Addr) (rs : List (List Int)) (k first : Nat), vs = [.ref a, .int first] ∧ LRows H a ts rs k ∧ 1 ≤ k ∧ k ≤ 3 ∧
  (∀ n, priceM first rs k = some n → ∀ H', Same H H' → Q (.int (n : Nat)) H') ∧ (priceM first rs k = none → ∀ H', Same H H' → Q .non H')
set_option maxHeartbeats 4000000 in
theorem ok_l_price {f f1 f2 : Addr} {fd fd1 fd2 : FuncData} (F : Fun K "_law_price" "_law_price" s_l_price f fd) (T : Txt K mg aS aT) (T_l_figures : FnAt K mg "_law_figures" ["number", "places"] f1 fd1) (G_l_figures : FnOk P w K mg base (CX1 P w) 1 f1 fd1 ["number", "places"] sp_l_figures)
    (T_l_open : FnAt K mg "_law_open" ["showings"] f2 fd2) (G_l_open : FnOk P w K mg base (CX1 P w) 2 f2 fd2 ["showings"] (sp_l_open K)) : FnOk P w K mg base (CX1 P w) 3 f fd ["rows", "first"] sp_l_price := by
  refine F.zok1 sc_l_price (fun vs H Q E h => ?_) (fun cdv A outer s H vs Q E hr h => ?_)
  · obtain ⟨a, ts, rs, k, first, rfl, _⟩ := h
    rfl
  · obtain ⟨a, ts, rs, k, first, rfl, hv, k1, k3, kQ, kN⟩ := h
    have tl := hv.nums.length
    have few := hv.few
    have one := hv.one
    have t0 : (0 : Int) < ((10 ^ k : Nat) : Int) := Int.natCast_pos.mpr (Nat.pow_pos (by decide))
    obtain ⟨x0, ex⟩ : ∃ x0, ts[0]? = some x0 := ⟨ts[0], List.getElem?_eq_getElem (by omega)⟩
    obtain ⟨r0, er, hr0⟩ := hv.nums.at ex
    have rl := hv.wide r0 (List.mem_of_getElem? er)
    refine ⟨_, (zpss_cons (zps_set (i := 2) sc_l_price.nd rfl (Or.inl rfl) (zpe_callB call_len_seq rfl T.len PySem.boot_len (zpa_cons (zpe_ix ix_list (zpv 0) zpe_int (fun _ _ => rfl)) zpa_nil))) (zpss_cons (zps_set (i := 3) sc_l_price.nd rfl (Or.inl rfl) (zpe_ix ix_list (zpe_lst (zpa_const (vs := [.int 10, .int 100, .int 1000]) rfl)) (zpe_op op_sub (zpv 2) zpe_int) (fun _ _ => rfl))) (zpss_cons (zps_set (i := 4) sc_l_price.nd rfl (Or.inl rfl) zpe_int) (zpss_cons (zps_for PassesOwn.never rfl (zpi_range1 rfl T.range (zpa_cons (zpv 2) zpa_nil)) (zpg_name (i := 5) sc_l_price.nd rfl (Or.inl rfl)) (zpss_cons (zps_set (i := 6) sc_l_price.nd rfl (Or.inl rfl) (zpe_lst zpa_nil)) (zpss_cons (zps_for PassesOwn.never rfl (zpi_enum rfl T.enumerate (zpa_cons (zpv 0) zpa_nil)) (zpg_tup rfl (zpgs_cons (zpg_name (i := 7) sc_l_price.nd rfl (Or.inl rfl)) (zpgs_cons (zpg_name (i := 8) sc_l_price.nd rfl (Or.inl rfl)) zpgs_nil))) (zpss_one (zps_expr (zpe_bm PySem.F.plainAttrs_list PySem.F.slot_list_append PySem.F.type_list_append mt_append (zpv 6) (zpa_cons (zpe_tup (zpa_cons (zpe_ix ix_list (zpe_call G_l_figures (hr.mono (by decide)) rfl T_l_figures.m T_l_figures.k T_l_figures.b .nil pass1n (zpa_cons (zpe_op op_mod (zpe_op op_add (zpv 1) (zpv 7)) (zpv 3)) (zpa_cons (zpv 2) zpa_nil))) (zpv 5) (fun _ _ => rfl)) (zpa_cons (zpe_ix ix_list (zpv 8) (zpv 5) (fun _ _ => rfl)) zpa_nil))) zpa_nil))))) (zpss_one (zps_for PassesOwn.never rfl (zpi_list (zpe_call G_l_open (hr.mono (by decide)) rfl T_l_open.m T_l_open.k T_l_open.b .nil pass1n (zpa_cons (zpv 6) zpa_nil))) (zpg_name (i := 9) sc_l_price.nd rfl (Or.inl rfl)) (zpss_cons (zps_if (zpt_cmpR (op_eqK (K := K) rfl hr.units) (zpv 9) (zpe_lst zpa_nil) (nomark _)) (zpss_one (zps_ret zpe_non)) zpss_nil) (zpss_one (zps_set (i := 4) sc_l_price.nd rfl (Or.inl rfl) (zpe_op op_add (zpv 4) (zpe_callTy call_int1 rfl T.int bt_int (zpa_cons (zpe_cmpR op_notIn_seq zpe_str (zpv 9) rfl) zpa_nil))))))))))) (zpss_one (zps_ret (zpv 4))))))), ?_⟩
    refine ⟨_, rfl, a, _, 0, .ref x0, rfl, rfl, SqL.of hv.lst, atI_nat (j := 0) (by rw [List.getElem?_map, ex]; rfl), x0, r0.map V.int, rfl, .inl (SqL.of hr0), ?_⟩
    rw [List.length_map, rl]
    refine ⟨by show 3 ≤ sizeLine; decide, fun l3 n3 => ⟨_, rfl, _, _, rfl, rfl, l3, _, _, .int ((10 ^ k : Nat) : Int), rfl, rfl, SqL.of upd_same, most_at k1 k3, ?_⟩⟩
    have s3 : Same H (upd H l3 (.lst [.int 10, .int 100, .int 1000])) := Same.new n3
    generalize upd H l3 (.lst [.int 10, .int 100, .int 1000]) = H3 at *
    refine ⟨_, rfl, (k : Int), rfl, by omega, by omega, for_range (n := (k : Int).toNat) (fun i σ H' => Same H H' ∧ i ≤ k ∧ ((List.range i).any fun p => clashM (showsFrom first rs k p)) = false ∧ ∃ (v5 v6 v7 v8 v9 : Option V), σ = [some (.ref a), some (.int first), some (.int (k : Int)), some (.int ((10 ^ k : Nat) : Int)), some (.int ((((List.range i).map fun p => fewestM (showsFrom first rs k p)).sum : Nat) : Int)), v5, v6, v7, v8, v9])
      ⟨s3, Nat.zero_le _, rfl, none, none, none, none, none, rfl⟩ ?_ ?_⟩
    · rintro i σ H4 hi ⟨s4, hi2, al, v5, v6, v7, v8, v9, rfl⟩
      have hi3 : i < k := by simpa using hi
      have ok10 := shows_ok (st := first) (rs := rs) hi3
      have sl := shows_len (st := first) (k := k) (p := i) (rs := rs)
      have sa : ∀ {j : Nat} {r : List Int}, rs[j]? = some r → (showsFrom first rs k i)[j]? = some ((figuresM ((first + j) % 10 ^ k) k).getD i 0, r.getD i 0) := fun e => shows_at e
      rw [Int.zero_add]
      refine ⟨Nat.zero_le _, fun ls nls => ?_⟩
      have nls0 : H ls = none := s4.free nls
      have s5 : Same H (upd H4 ls (.lst [])) := s4.upd nls0
      have hls5 : (upd H4 ls (.lst [])) ls = some (.lst []) := upd_same
      generalize upd H4 ls (.lst []) = H5 at *
      refine ⟨_, rfl, a, ts.map V.ref, rfl, s5 _ _ hv.lst, for_enum (xs := ts.map V.ref) (fun j σ H' => Same H H' ∧ j ≤ rs.length ∧ ∃ (us : List Addr) (v7 v8 : Option V), H' ls = some (.lst (us.map V.ref)) ∧ ShowsAt H' us ((showsFrom first rs k i).take j) ∧ (∀ t ∈ us, t ≠ ls) ∧ σ = [some (.ref a), some (.int first), some (.int (k : Int)), some (.int ((10 ^ k : Nat) : Int)), some (.int ((((List.range i).map fun p => fewestM (showsFrom first rs k p)).sum : Nat) : Int)), some (.int i), some (.ref ls), v7, v8, v9])
        ⟨s5, Nat.zero_le _, [], v7, v8, hls5, .nil, (fun t h => nomatch h), rfl⟩ (fun j σ H' p => SqL.of (p.1 _ _ hv.lst)) ?_ ?_⟩
      · rintro j x Tt σ H6 exj ⟨s6, hj, us, w7, w8, hls, hus, hne, rfl⟩ nT
        obtain ⟨t, et, rfl⟩ := ref_get exj
        obtain ⟨r, er2, ht⟩ := hv.nums.at et
        have hj' : j < rs.length := (List.getElem?_eq_some_iff.mp er2).1
        have ul := hus.length
        rw [List.length_take, sl] at ul
        have rl2 := hv.wide r (List.mem_of_getElem? er2)
        have s7 : Same H6 (upd H6 Tt (.tup [.int j, .ref t])) := Same.new nT
        refine ⟨_, _, rfl, SqT.of upd_same, rfl, _, _, rfl, _, _, rfl, rfl, ?_⟩
        have hls7 := s7 _ _ hls
        have hus7 := hus.same s7
        have s07 := s6.trans s7
        generalize upd H6 Tt (.tup [.int j, .ref t]) = H7 at *
        refine ⟨_, rfl, .inl ⟨rfl, _, SqL.of hls7⟩, _, rfl, _, rfl, _, _, rfl, rfl, _, rfl, _, _, rfl, rfl, t0, _, rfl, (first + j) % 10 ^ k, k, ?_, by omega, fun lg H8 s8 nlg hlg => ?_⟩
        · show [V.int (((first : Int) + (j : Int)) % ((10 ^ k : Nat) : Int)), V.int (k : Int)] = _
          simp
        have at1 : atI ((figuresM ((first + j) % 10 ^ k) k).map V.int) (i : Int) = some (.int ((figuresM ((first + j) % 10 ^ k) k).getD i 0)) := atI_nat (by
          rw [List.getElem?_map, List.getD_eq_getElem?_getD, List.getElem?_eq_getElem (show i < (figuresM ((first + j) % 10 ^ k) k).length by rw [figures_len]; exact hi3)]
          rfl)
        have at2 : atI (r.map V.int) (i : Int) = some (.int (r.getD i 0)) := atI_nat (by
          rw [List.getElem?_map, List.getD_eq_getElem?_getD, List.getElem?_eq_getElem (show i < r.length by omega)]
          rfl)
        have s08 := s07.trans s8
        refine ⟨_, rfl, lg, _, _, _, rfl, rfl, SqL.of hlg, at1, _, rfl, _, rfl, t, _, _, _, rfl, rfl, SqL.of (s08 _ _ ht), at2, by show 2 ≤ sizeLine; decide, fun tn ntn => ?_⟩
        have hls8 := s8 _ _ hls7
        have s9 : Same H8 (upd H8 tn (.tup [.int ((figuresM ((first + j) % 10 ^ k) k).getD i 0), .int (r.getD i 0)])) := Same.new ntn
        have ht9 : (upd H8 tn (.tup [.int ((figuresM ((first + j) % 10 ^ k) k).getD i 0), .int (r.getD i 0)])) tn = some (.tup [.int ((figuresM ((first + j) % 10 ^ k) k).getD i 0), .int (r.getD i 0)]) := upd_same
        have ne9 : tn ≠ ls := fun z => by rw [z, hls8] at ntn; cases ntn
        have hls9 := s9 _ _ hls8
        have hus9 := hus7.same (s8.trans s9)
        have s09 := s08.trans s9
        generalize upd H8 tn (.tup [.int ((figuresM ((first + j) % 10 ^ k) k).getD i 0), .int (r.getD i 0)]) = H9 at *
        refine ⟨ls, _, _, rfl, rfl, hls9, by rw [List.length_map]; exact small1000 (by omega), ?_⟩
        refine ⟨s09.upd nls0, hj', us ++ [tn], _, _, by rw [upd_same, List.map_append]; rfl, ?_, fun u hu => ?_, rfl⟩
        · rw [List.take_add_one, sa er2]
          exact Paired.snoc (hus9.off hne) (by rw [upd_ne ne9]; exact ht9)
        · rcases List.mem_append.mp hu with z | z
          · exact hne u z
          · rw [List.mem_singleton.mp z]; exact ne9
      · rintro σ H6 ⟨s6, _, us, w7, w8, hls, hus, hne, rfl⟩
        rw [List.length_map, List.take_of_length_le (by omega)] at hus
        generalize eq : showsFrom first rs k i = qs at *
        refine ⟨_, rfl, ls, us, qs, rfl, SqL.of hls, hus, by omega, ok10, fun lo os H7 s7 nlo hlo hos hone => ?_⟩
        have s07 := s6.trans s7
        have ol := hos.length
        have ol7 : (openM qs).length = 7 := by unfold openM; rw [List.length_map, List.length_range]
        refine ⟨lo, rfl, ⟨_, SqL.of hlo⟩, for_list (xs := os.map V.ref) (fun j σ H' => Same H7 H' ∧ j ≤ 7 ∧ ((openM qs).take j).any (·.isEmpty) = false ∧ ∃ (v9 : Option V), σ = [some (.ref a), some (.int first), some (.int (k : Int)), some (.int ((10 ^ k : Nat) : Int)), some (.int (((((List.range i).map fun p => fewestM (showsFrom first rs k p)).sum + (((openM qs).take j).filter noGood).length : Nat)) : Int)), some (.int i), some (.ref ls), w7, w8, v9])
          ⟨Same.refl _, Nat.zero_le _, rfl, v9, rfl⟩ (fun j σ H' _ p => SqL.of (p.1 _ _ hlo)) ?_ ?_⟩
        · rintro j x σ H8 exj ⟨s8, hj, ae, v9, rfl⟩
          obtain ⟨t, et, rfl⟩ := ref_get exj
          obtain ⟨one, eo, ht⟩ := hos.at et
          have hj' : j < 7 := by have q := (List.getElem?_eq_some_iff.mp eo).1; omega
          have ft := filter_take noGood (openM qs) j one eo
          have at1 : ((openM qs).take (j + 1)).any (·.isEmpty) = one.isEmpty := by
            rw [List.take_add_one, eo, List.any_append, ae]
            simp
          have okm : ∀ x ∈ one, PyData.strOk x = true := fun x hx => by
            unfold openM at eo
            obtain ⟨sx, _, rfl⟩ := List.mem_map.mp (List.mem_of_getElem? eo)
            unfold openAt at hx
            have := (List.mem_filter.mp hx).1
            simp only [marks3, List.mem_cons, List.not_mem_nil, or_false] at this
            rcases this with rfl | rfl | rfl <;> decide +kernel
          refine ⟨_, rfl, Nat.zero_le _, fun le nle => ?_⟩
          have s9 : Same H8 (upd H8 le (.lst [])) := Same.new nle
          have hle : (upd H8 le (.lst [])) le = some (.lst []) := upd_same
          generalize upd H8 le (.lst []) = H9 at *
          have ht9 := s9 _ _ (s8 _ _ ht)
          refine ⟨dP one, .list [], .list (SqL.of ht9) (RepAll.strs one), .list (SqL.of hle) .nil, (Plain.strs one okm).shaped, by decide, ?_⟩
          rw [eqv_nil]
          cases ee : one.isEmpty with
          | true =>
            refine ⟨_, rfl, iteT ?_⟩
            refine kN ?_ H9 (s07.trans (s8.trans s9))
            unfold priceM
            rw [if_pos (List.any_eq_true.mpr ⟨i, List.mem_range.mpr hi3, ?_⟩)]
            rw [eq]
            exact List.any_eq_true.mpr ⟨one, List.mem_of_getElem? eo, ee⟩
          | false =>
            refine ⟨_, rfl, iteF ?_⟩
            refine ⟨_, rfl, _, rfl, t, one.map V.str, rfl, .inl (SqL.of ht9), rfl, all_flat one, ?_⟩
            refine .inr ⟨_, rfl, _, _, rfl, rfl, s8.trans s9, hj', by rw [at1, ee], some (.ref t), ?_⟩
            rw [ft, if_pos rfl, in_strs, List.length_append]
            have eg : (!decide (Str.ofString "good" ∈ one)) = noGood one := rfl
            rw [eg]
            cases noGood one with
            | true => rfl
            | false => rfl
        · rintro σ H8 ⟨s8, _, ae, v9', rfl⟩
          rw [List.length_map, List.take_of_length_le (by omega)] at ae
          refine ⟨s07.trans s8, hi3, ?_, some (.int i), some (.ref ls), w7, w8, v9', ?_⟩
          · rw [List.range_succ, List.any_append, al]
            show (false || (clashM (showsFrom first rs k i) || false)) = false
            rw [eq]
            unfold clashM
            rw [ae]
            rfl
          · rw [List.length_map, List.take_of_length_le (by omega), List.range_succ, List.map_append, List.sum_append]
            simp only [List.map_cons, List.map_nil, List.sum_cons, List.sum_nil, Nat.add_zero, eq]
            rfl
    · rintro σ H4 ⟨s4, _, al, v5, v6, v7, v8, v9, rfl⟩
      rw [Int.toNat_natCast] at al
      refine ⟨_, rfl, ?_⟩
      rw [Int.toNat_natCast]
      exact kQ _ (by unfold priceM; rw [if_neg (by rw [al]; decide)]) _ s4
end
end Lit

set_option Elab.async false
set_option linter.all false
set_option maxRecDepth 100000
namespace Lit
open PySem L2
/-- what is seen of a stroke -/
theorem lseen_bit {f : Nat} {ms : List Str} (h : ms.length = 7) {s : Nat} (hs : s < 7) : bitM (lseenM f ms) s = litL (ms.getD s "") (hasM f s) := by
  match ms, h with
  | [m0, m1, m2, m3, m4, m5, m6], _ =>
    unfold bitM lseenM
    simp only [lseenTo, List.getD_cons_zero, List.getD_cons_succ, Nat.sub_zero, Nat.reduceSub]
    have key : ∀ b0 b1 b2 b3 b4 b5 b6 : Bool, ∀ s, s < 7 → decide ((2 * (2 * (2 * (2 * (2 * (2 * (2 * (0 : Int) + b2n b6) + b2n b5) + b2n b4) + b2n b3) + b2n b2) + b2n b1) + b2n b0) / 2 ^ s % 2 = 1) = [b0, b1, b2, b3, b4, b5, b6].getD s false := by decide +kernel
    rw [key _ _ _ _ _ _ _ s hs]
    have : s = 0 ∨ s = 1 ∨ s = 2 ∨ s = 3 ∨ s = 4 ∨ s = 5 ∨ s = 6 := by omega
    rcases this with rfl | rfl | rfl | rfl | rfl | rfl | rfl <;> rfl
theorem seen_bit {f : Nat} (hf : f < 10) {ms : List Str} (h : ms.length = 7) {s : Nat} (hs : s < 7) : bitM (seenM (f : Nat) ms) s = litL (ms.getD s "") (hasM f s) := by
  rw [seen_law hf h]
  exact lseen_bit h hs
def b2 (a s : Nat) : Nat := if bitM ((a : Nat) : Int) s = true then 1 else 0
theorem mark_at {ms : List Str} (h : GoodPlace ms) {s : Nat} (hs : s < 7) : IsMark (ms.getD s "") := by
  rw [List.getD_eq_getElem?_getD, List.getElem?_eq_getElem (by rw [h.1]; exact hs)]
  exact h.2 _ (List.getElem_mem _)
theorem mem_marks3 {m : Str} (h : IsMark m) : m ∈ marks3 := by rcases h with rfl | rfl | rfl <;> simp
theorem open_iff {qs : List (Int × Int)} {s : Nat} {m : Str} : m ∈ openAt qs s ↔ m ∈ marks3 ∧ ∀ q ∈ qs, wrongM m s q = false := by
  unfold openAt
  rw [List.mem_filter]
  constructor
  · rintro ⟨a, b⟩
    refine ⟨a, fun q hq => ?_⟩
    cases e : wrongM m s q with
    | false => rfl
    | true =>
      have : qs.any (wrongM m s) = true := List.any_eq_true.mpr ⟨q, hq, e⟩
      rw [this] at b; cases b
  · rintro ⟨a, b⟩
    refine ⟨a, ?_⟩
    have : qs.any (wrongM m s) = false := by
      rw [Bool.eq_false_iff]
      intro z
      obtain ⟨q, hq, e⟩ := List.any_eq_true.mp z
      rw [b q hq] at e; cases e
    rw [this]; rfl
/-- showings of a place -/
def Truly (qs : List (Int × Int)) (ms : List Str) : Prop := ∀ q ∈ qs, FigOk q ∧ q.2 = seenM q.1 ms
theorem Truly.wrong {qs : List (Int × Int)} {ms : List Str} (h : Truly qs ms) (g : GoodPlace ms) {s : Nat} (hs : s < 7) (m : Str) {q : Int × Int} (hq : q ∈ qs) : wrongM m s q = (litL m (hasM q.1.toNat s) != litL (ms.getD s "") (hasM q.1.toNat s)) := by
  obtain ⟨⟨f0, f1⟩, e⟩ := h q hq
  have e1 : q.1 = ((q.1.toNat : Nat) : Int) := by omega
  unfold wrongM
  rw [e, e1, seen_bit (by omega) g.1 hs]
  rfl
theorem Truly.own {qs : List (Int × Int)} {ms : List Str} (h : Truly qs ms) (g : GoodPlace ms) {s : Nat} (hs : s < 7) : ms.getD s "" ∈ openAt qs s := by
  rw [open_iff]
  refine ⟨mem_marks3 (mark_at g hs), fun q hq => ?_⟩
  rw [h.wrong g hs _ hq]
  simp
theorem Truly.clash {qs : List (Int × Int)} {ms : List Str} (h : Truly qs ms) (g : GoodPlace ms) : clashM qs = false := by
  unfold clashM
  rw [Bool.eq_false_iff]
  intro z
  obtain ⟨one, ho, e⟩ := List.any_eq_true.mp z
  obtain ⟨s, hs, rfl⟩ := List.mem_map.mp ho
  have := h.own g (List.mem_range.mp hs)
  rw [List.isEmpty_iff.mp e] at this
  cases this
theorem Truly.shows {figs : List Nat} {ms : List Str} (h : ∀ f ∈ figs, f < 10) : Truly (showsM figs ms) ms := fun q hq => by
  obtain ⟨f, hf, rfl⟩ := List.mem_map.mp hq
  exact ⟨⟨by show (0 : Int) ≤ ((f : Nat) : Int); omega, by show ((f : Nat) : Int) < 10; have := h f hf; omega⟩, rfl⟩
theorem Truly.looks {qs : List (Int × Int)} {ms : List Str} (h : Truly qs ms) (g : GoodPlace ms) : ∀ q ∈ qs, 0 ≤ q.2 ∧ q.2 < 128 := fun q hq => by
  obtain ⟨⟨f0, f1⟩, e⟩ := h q hq
  have e1 : q.1 = ((q.1.toNat : Nat) : Int) := by omega
  rw [e, e1]
  exact seen_look (by omega) g.1
theorem filter_range_le (p q : Nat → Bool) : ∀ n, (∀ s, s < n → p s = true → q s = true) → ((List.range n).filter p).length ≤ ((List.range n).filter q).length
  | 0, _ => Nat.le_refl _
  | n + 1, h => by
    rw [List.range_succ, List.filter_append, List.filter_append, List.length_append, List.length_append]
    have ih := filter_range_le p q n fun s hs => h s (by omega)
    have : ([n].filter p).length ≤ ([n].filter q).length := by
      cases e : p n with
      | false => simp [e]
      | true => simp [e, h n (by omega) e]
    omega
theorem count_good {ms : List Str} (h : ms.length = 7) : ((ms.map V.str).countP fun z => eqV z (.str "good")) + ((List.range 7).filter fun s => !decide (ms.getD s "" = "good")).length = 7 := by
  match ms, h with
  | [m0, m1, m2, m3, m4, m5, m6], _ =>
    have e : ∀ m : Str, eqV (.str m) (.str "good") = decide (m = "good") := fun m => by
      show (m == ("good" : Str)) = _
      by_cases z : m = "good"
      · subst z; rfl
      · rw [decide_eq_false z]; simpa using z
    simp only [List.map_cons, List.map_nil, List.countP_cons, List.countP_nil, e, List.range, List.range.loop, List.filter_cons, List.filter_nil, List.getD_cons_zero, List.getD_cons_succ]
    by_cases h0 : m0 = "good" <;> by_cases h1 : m1 = "good" <;> by_cases h2 : m2 = "good" <;> by_cases h3 : m3 = "good" <;> by_cases h4 : m4 = "good" <;> by_cases h5 : m5 = "good" <;> by_cases h6 : m6 = "good" <;> simp [h0, h1, h2, h3, h4, h5, h6]
theorem few_broken {qs : List (Int × Int)} {ms : List Str} (h : Truly qs ms) (g : GoodPlace ms) : ((fewestM qs : Nat) : Int) ≤ 7 - ((ms.map V.str).countP fun z => eqV z (.str "good") : Nat) := by
  have c := count_good g.1
  have e : fewestM qs = ((List.range 7).filter fun s => noGood (openAt qs s)).length := by
    unfold fewestM openM
    rw [List.filter_map, List.length_map]
    rfl
  have l : ((List.range 7).filter fun s => noGood (openAt qs s)).length ≤ ((List.range 7).filter fun s => !decide (ms.getD s "" = "good")).length := filter_range_le _ _ 7 fun s hs z => by
    have own := h.own g hs
    unfold noGood at z
    by_cases e : ms.getD s "" = "good"
    · rw [e] at own
      rw [decide_eq_true own] at z; cases z
    · rw [decide_eq_false e]; rfl
  omega
/-- the broken strokes of a place -/
def brokenI (ms : List Str) : Int := 7 - ((ms.map V.str).countP fun z => eqV z (.str "good") : Nat)
theorem rows_len (pn : List (List Str)) (st size : Nat) : (rowsM pn st size).length = size := by unfold rowsM; rw [List.length_map, List.length_range]
theorem rows_at {pn : List (List Str)} {st size j : Nat} (h : j < size) : (rowsM pn st size)[j]? = some (rowM ((st + j) % 10 ^ pn.length) pn) := by
  unfold rowsM
  rw [List.getElem?_map, List.getElem?_range h]
  rfl
theorem rows_succ (pn : List (List Str)) (st size : Nat) : rowsM pn st (size + 1) = rowsM pn st size ++ [rowM ((st + size) % 10 ^ pn.length) pn] := by
  unfold rowsM
  rw [List.range_succ, List.map_append]
  rfl
theorem row_at {pn : List (List Str)} {n p : Nat} {ms : List Str} (e : pn[p]? = some ms) : (rowM n pn).getD p 0 = lseenM ((figuresM n pn.length).getD p 0).toNat ms := by
  have hp : p < pn.length := (List.getElem?_eq_some_iff.mp e).1
  have ef : (figuresM n pn.length)[p]? = some ((figuresM n pn.length).getD p 0) := by
    rw [List.getD_eq_getElem?_getD, List.getElem?_eq_getElem (show p < (figuresM n pn.length).length by rw [figures_len]; exact hp)]
    rfl
  have er : (rowM n pn)[p]? = some (lseenM ((figuresM n pn.length).getD p 0).toNat ms) := by
    unfold rowM
    rw [List.getElem?_map, PyProof.Rows.zip_get ef e]
    rfl
  rw [List.getD_eq_getElem?_getD, er]
  rfl
theorem shows_true {pn : List (List Str)} (g : ∀ ms ∈ pn, GoodPlace ms) {st size p : Nat} {ms : List Str} (e : pn[p]? = some ms) : Truly (showsFrom st (rowsM pn st size) pn.length p) ms := fun q hq => by
  have hp : p < pn.length := (List.getElem?_eq_some_iff.mp e).1
  have ok := shows_ok hp q hq
  refine ⟨ok, ?_⟩
  obtain ⟨j, hj⟩ := List.mem_iff_getElem?.mp hq
  have hj' : j < size := by
    have := (List.getElem?_eq_some_iff.mp hj).1
    rw [shows_len, rows_len] at this
    exact this
  rw [shows_at (rows_at hj')] at hj
  cases hj
  obtain ⟨f0, f1⟩ := ok
  show (rowM ((st + j) % 10 ^ pn.length) pn).getD p 0 = seenM ((figuresM ((st + j) % 10 ^ pn.length) pn.length).getD p 0) ms
  rw [row_at e]
  have f0' : 0 ≤ (figuresM ((st + j) % 10 ^ pn.length) pn.length).getD p 0 := f0
  have f1' : (figuresM ((st + j) % 10 ^ pn.length) pn.length).getD p 0 < 10 := f1
  generalize (figuresM ((st + j) % 10 ^ pn.length) pn.length).getD p 0 = x at *
  have ex : x = ((x.toNat : Nat) : Int) := by omega
  have := seen_law (f := x.toNat) (by omega) (g ms (List.mem_of_getElem? e)).1
  rw [← this, ← ex]
theorem sum_le' {f : Nat → Nat} {h : Nat → Int} : ∀ l : List Nat, (∀ p ∈ l, ((f p : Nat) : Int) ≤ h p) → (((l.map f).sum : Nat) : Int) ≤ (l.map h).sum
  | [], _ => Int.le_refl _
  | a :: r, q => by
    have i := sum_le' r fun p hp => q p (List.mem_cons_of_mem _ hp)
    have j := q a List.mem_cons_self
    rw [List.map_cons, List.map_cons, List.sum_cons, List.sum_cons]
    omega
theorem broken_range (pn : List (List Str)) : pn.map brokenI = (List.range pn.length).map fun p => brokenI (pn.getD p []) := by
  refine List.ext_getElem? fun i => ?_
  by_cases h : i < pn.length
  · rw [List.getElem?_map, List.getElem?_map, List.getElem?_range h, List.getElem?_eq_getElem h]
    simp [List.getD_eq_getElem?_getD, List.getElem?_eq_getElem h]
  · rw [List.getElem?_eq_none (by rw [List.length_map]; omega), List.getElem?_eq_none (by rw [List.length_map, List.length_range]; omega)]
/-- the start that was is open, with no more broken strokes than there are -/
theorem price_true {pn : List (List Str)} (g : ∀ ms ∈ pn, GoodPlace ms) (st size : Nat) : ∃ n, priceM st (rowsM pn st size) pn.length = some n ∧ ((n : Nat) : Int) ≤ (pn.map brokenI).sum := by
  have tr : ∀ p, p < pn.length → Truly (showsFrom st (rowsM pn st size) pn.length p) (pn.getD p []) ∧ GoodPlace (pn.getD p []) := fun p hp => by
    have e : pn[p]? = some (pn.getD p []) := by
      rw [List.getD_eq_getElem?_getD, List.getElem?_eq_getElem hp]
      rfl
    exact ⟨shows_true g e, g _ (List.mem_of_getElem? e)⟩
  have no : ((List.range pn.length).any fun p => clashM (showsFrom st (rowsM pn st size) pn.length p)) = false := by
    rw [Bool.eq_false_iff]
    intro z
    obtain ⟨p, hp, c⟩ := List.any_eq_true.mp z
    obtain ⟨t, gp⟩ := tr p (List.mem_range.mp hp)
    rw [t.clash gp] at c
    cases c
  refine ⟨_, by unfold priceM; rw [if_neg (by rw [no]; decide)], ?_⟩
  rw [broken_range]
  refine sum_le' _ fun p hp => ?_
  obtain ⟨t, gp⟩ := tr p (List.mem_range.mp hp)
  exact few_broken t gp
theorem mem_open {rs : List (List Int)} {k N st n : Nat} (h : st < N) (e : priceM st rs k = some n) : (st, n) ∈ openTo rs k N := by
  unfold openTo
  exact List.mem_filterMap.mpr ⟨st, List.mem_range.mpr h, by rw [e]; rfl⟩
theorem open_mem {rs : List (List Int)} {k n : Nat} {q : Nat × Nat} (h : q ∈ openTo rs k n) : q.1 < n ∧ priceM q.1 rs k = some q.2 := by
  refine ⟨openTo_lt q h, ?_⟩
  unfold openTo at h
  obtain ⟨st, _, e⟩ := List.mem_filterMap.mp h
  cases z : priceM st rs k with
  | none => rw [z] at e; cases e
  | some p => rw [z] at e; cases e; exact z
theorem starts_iff {rs : List (List Int)} {k st : Nat} : ((st : Nat) : Int) ∈ startsM rs k ↔ st < 10 ^ k ∧ ∃ n, priceM st rs k = some n := by
  unfold startsM
  rw [List.mem_map]
  constructor
  · rintro ⟨q, hq, e⟩
    have e' : q.1 = st := Int.ofNat_inj.mp e
    obtain ⟨a, b⟩ := open_mem hq
    rw [← e']
    exact ⟨a, q.2, b⟩
  · rintro ⟨h, n, e⟩
    exact ⟨(st, n), mem_open h e, rfl⟩
/-- what is best when some start is open -/
theorem best_of {rs : List (List Int)} {k st n : Nat} {bs : List Int} (h : IsBest (openTo rs k (10 ^ k)) bs) (hs : st < 10 ^ k) (e : priceM st rs k = some n) :
    ∃ lo : Nat, (∃ b r, bs = b :: r) ∧ lo ≤ n ∧ ∀ b ∈ bs, ∃ i : Nat, b = (i : Int) ∧ i < 10 ^ k ∧ priceM i rs k = some lo := by
  obtain ⟨lo, a1, a2, _, rfl⟩ := h
  have m := mem_open hs e
  obtain ⟨q, hq, eq⟩ := a2 (fun z => by rw [z] at m; cases m)
  refine ⟨q.2, ?_, ?_, ?_⟩
  · cases z : ((openTo rs k (10 ^ k)).filter fun q => decide ((q.2 : Int) = lo)).map fun q => (q.1 : Int) with
    | cons b r => exact ⟨b, r, rfl⟩
    | nil =>
      have : ((q.1 : Nat) : Int) ∈ ((openTo rs k (10 ^ k)).filter fun q => decide ((q.2 : Int) = lo)).map fun q => (q.1 : Int) := List.mem_map.mpr ⟨q, List.mem_filter.mpr ⟨hq, decide_eq_true eq⟩, rfl⟩
      rw [z] at this
      cases this
  · have := a1 _ m
    have t : lo ≤ ((n : Nat) : Int) := this
    omega
  · intro b hb
    obtain ⟨p, hp, rfl⟩ := List.mem_map.mp hb
    obtain ⟨p1, p2⟩ := List.mem_filter.mp hp
    have p3 : (p.2 : Int) = lo := of_decide_eq_true p2
    obtain ⟨c, d⟩ := open_mem p1
    refine ⟨p.1, rfl, c, ?_⟩
    rw [d]
    congr 1
    omega
theorem clash_mono {qs qs' : List (Int × Int)} (h : ∀ q ∈ qs, q ∈ qs') (c : clashM qs' = false) : clashM qs = false := by
  rw [Bool.eq_false_iff] at c ⊢
  intro z
  apply c
  unfold clashM at z ⊢
  obtain ⟨one, ho, e⟩ := List.any_eq_true.mp z
  unfold openM at ho
  obtain ⟨s, hs, rfl⟩ := List.mem_map.mp ho
  refine List.any_eq_true.mpr ⟨openAt qs' s, List.mem_map.mpr ⟨s, hs, rfl⟩, ?_⟩
  have e' : openAt qs s = [] := List.isEmpty_iff.mp e
  cases w : openAt qs' s with
  | nil => rfl
  | cons m r =>
    have mm : m ∈ openAt qs' s := by rw [w]; exact List.mem_cons_self
    rw [open_iff] at mm
    have : m ∈ openAt qs s := open_iff.mpr ⟨mm.1, fun q hq => mm.2 q (h q hq)⟩
    rw [e'] at this
    cases this
theorem price_mono {rs : List (List Int)} {r : List Int} {st k n : Nat} (h : priceM st (rs ++ [r]) k = some n) : ∃ n', priceM st rs k = some n' := by
  unfold priceM at h ⊢
  split at h
  · cases h
  · rename_i c
    refine ⟨_, if_neg fun z => c ?_⟩
    obtain ⟨p, hp, e⟩ := List.any_eq_true.mp z
    refine List.any_eq_true.mpr ⟨p, hp, ?_⟩
    cases w : clashM (showsFrom st (rs ++ [r]) k p) with
    | true => rfl
    | false =>
      rw [clash_mono (qs := showsFrom st rs k p) (fun q hq => ?_) w] at e
      · cases e
      · obtain ⟨j, hj⟩ := List.mem_iff_getElem?.mp hq
        have hj' : j < rs.length := by
          have := (List.getElem?_eq_some_iff.mp hj).1
          rw [shows_len] at this
          exact this
        have e1 : rs[j]? = some rs[j] := List.getElem?_eq_getElem hj'
        have e2 : (rs ++ [r])[j]? = some rs[j] := by rw [List.getElem?_append_left hj']; exact e1
        rw [shows_at e1] at hj
        refine List.mem_iff_getElem?.mpr ⟨j, ?_⟩
        rw [shows_at e2]
        exact hj
theorem starts_mono {rs : List (List Int)} {r : List Int} {k : Nat} : ∀ x ∈ startsM (rs ++ [r]) k, x ∈ startsM rs k := fun x hx => by
  obtain ⟨q, hq, rfl⟩ := List.mem_map.mp hx
  obtain ⟨a, b⟩ := open_mem hq
  exact starts_iff.mpr ⟨a, price_mono b⟩
theorem inV_int (n : Int) (ns : List Int) : inV (.int n) (ns.map V.int) = decide (n ∈ ns) := by
  unfold inV
  rw [List.any_map]
  show (ns.any fun y => y == n) = _
  rw [Bool.eq_iff_iff, List.any_eq_true, decide_eq_true_iff]
  exact ⟨fun ⟨y, hy, e⟩ => by rw [← eq_of_beq e]; exact hy, fun h => ⟨n, h, beq_self_eq_true n⟩⟩
theorem all_flatI (ns : List Int) : (ns.map V.int).all flatV = true := by
  rw [List.all_map, List.all_eq_true]
  intro m _
  rfl
end Lit

set_option Elab.async false
set_option linter.all false
set_option maxRecDepth 100000
namespace Lit
open PySem L2
section
variable {P : Program} {w : World} {K : PySem.W.Frag} {mg : Str → Option Value} {base : Heap} {aS aT : Addr}
def sp_least (K : PySem.W.Frag) : Sp := fun vs H Q _ => ∃ (v : V) (st : Nat) (rs : List (List Int)) (k n : Nat), vs = [v, .int st] ∧ 1 ≤ rs.length ∧ k ≤ 3 ∧ RowsAt K H v rs k ∧ st < 10 ^ k ∧ priceM st rs k = some n ∧ ∀ H', Same H H' → Q (.int (n : Nat)) H'
theorem least_imp {cN cC : Addr} {vs : List V} {H : Hp} {Q : VK} {E : XK} (h : sp_least K vs H Q E) : spx_least K cN cC vs H Q E := by
  obtain ⟨v, st, rs, k, n, e, h1, h3, hv, hs, en, q⟩ := h
  have z : ((10 ^ k : Nat) : Int) = (10 : Int) ^ k := by simp
  refine ⟨v, st, rs, k, e, h1, h3, hv, fun st' e' _ n' en' => ?_, fun st' e' _ en' => ?_, fun bad => ?_⟩
  · have : st = st' := Int.ofNat_inj.mp e'
    subst this
    rw [en] at en'
    cases en'
    exact q
  · have : st = st' := Int.ofNat_inj.mp e'
    subst this
    rw [en] at en'
    cases en'
  · rw [← z] at bad
    have := Int.ofNat_lt.mpr hs
    omega
theorem lrows_of {H : Hp} {lr : Addr} {ts : List Addr} {pn : List (List Str)} {fi sz k : Nat} (hlr : H lr = some (.lst (ts.map V.ref))) (hts : IntsAt H ts (rowsM pn fi sz)) (z1 : 1 ≤ sz) (z2 : sz ≤ 100) (hk : pn.length = k) : LRows H lr ts (rowsM pn fi sz) k := by
  have rl := rows_len pn fi sz
  refine ⟨hlr, hts, by omega, by omega, fun r hr => ?_, fun r hr x hx => ?_⟩
  · unfold rowsM at hr
    obtain ⟨i, _, rfl⟩ := List.mem_map.mp hr
    rw [row_len, hk]
  · unfold rowsM at hr
    obtain ⟨i, _, rfl⟩ := List.mem_map.mp hr
    exact row_look _ _ x hx
theorem eqv_cons (x : Int) (r : List Int) : PyData.eqv (.list ((x :: r).map .int)) (.list []) = false := by simp [PyData.eqv, PyData.eqvAll]
theorem starts_len (rs : List (List Int)) (k : Nat) : (startsM rs k).length ≤ 10 ^ k := by
  unfold startsM
  rw [List.length_map]
  exact openTo_len rs k _
theorem sc_l_three : FnScope ["script", "cell", "panel", "first", "rows", "found", "cost", "some", "other"] ["script"] (defScope s_l_three) := ⟨rfl, rfl, rfl, by decide +kernel, rfl, by decide +kernel, by decide +kernel⟩
def sp_l_three (K : PySem.W.Frag) : Sp := fun vs H Q _ => ∃ (a : Addr) (ns : List Int), vs = [.ref a] ∧ SqL K H a (ns.map V.int) ∧ ∀ H', Same H H' → Q (.bl true) H'
set_option maxHeartbeats 4000000 in
theorem ok_l_three {f f1 f2 f3 f4 f5 f6 f7 : Addr} {fd fd1 fd2 fd3 fd4 fd5 fd6 fd7 : FuncData} (F : Fun K "_law_three" "_law_three" s_l_three f fd) (T : Txt K mg aS aT)
    (T_l_cell_at : FnAt K mg "_law_cell_at" ["script", "k"] f1 fd1) (G_l_cell_at : FnOk P w K mg base (CX1 P w) 1 f1 fd1 ["script", "k"] (sp_l_cell_at K))
    (T_l_panel : FnAt K mg "_law_panel" ["script", "start", "places"] f2 fd2) (G_l_panel : FnOk P w K mg base (CX1 P w) 3 f2 fd2 ["script", "start", "places"] (sp_l_panel K))
    (T_l_rows : FnAt K mg "_law_rows" ["script", "start", "panel", "first", "size"] f3 fd3) (G_l_rows : FnOk P w K mg base (CX1 P w) 3 f3 fd3 ["script", "start", "panel", "first", "size"] (sp_l_rows K))
    (T_l_price : FnAt K mg "_law_price" ["rows", "first"] f4 fd4) (G_l_price : FnOk P w K mg base (CX1 P w) 3 f4 fd4 ["rows", "first"] sp_l_price)
    (T_starts : FnAt K mg "starts" ["rows", "places"] f5 fd5) (G_starts : FnOk P w K mg base (CX1 P w) 7 f5 fd5 ["rows", "places"] (sp_starts K))
    (T_best : FnAt K mg "best" ["rows", "places"] f6 fd6) (G_best : FnOk P w K mg base (CX1 P w) 7 f6 fd6 ["rows", "places"] (sp_best K))
    (T_least : FnAt K mg "least" ["rows", "start"] f7 fd7) (G_least : FnOk P w K mg base (CX1 P w) 6 f7 fd7 ["rows", "start"] (sp_least K)) : FnOk P w K mg base (CX1 P w) 9 f fd ["script"] (sp_l_three K) := by
  refine F.zok1 sc_l_three (fun vs H Q E h => ?_) (fun cdv A outer s H vs Q E hr h => ?_)
  · obtain ⟨a, ns, rfl, _⟩ := h
    rfl
  · obtain ⟨a, ns, rfl, ha, k⟩ := h
    refine ⟨_, (zpss_cons (zps_set (i := 1) sc_l_three.nd rfl (Or.inl rfl) (zpe_call G_l_cell_at (hr.mono (by decide)) rfl T_l_cell_at.m T_l_cell_at.k T_l_cell_at.b .nil pass1n (zpa_cons (zpv 0) (zpa_cons zpe_int zpa_nil)))) (zpss_cons (zps_set (i := 2) sc_l_three.nd rfl (Or.inl rfl) (zpe_call G_l_panel (hr.mono (by decide)) rfl T_l_panel.m T_l_panel.k T_l_panel.b .nil pass1n (zpa_cons (zpv 0) (zpa_cons zpe_int (zpa_cons zpe_int zpa_nil))))) (zpss_cons (zps_set (i := 3) sc_l_three.nd rfl (Or.inl rfl) (zpe_op op_mod (zpe_call G_l_cell_at (hr.mono (by decide)) rfl T_l_cell_at.m T_l_cell_at.k T_l_cell_at.b .nil pass1n (zpa_cons (zpv 0) (zpa_cons zpe_int zpa_nil))) zpe_int)) (zpss_cons (zps_set (i := 4) sc_l_three.nd rfl (Or.inl rfl) (zpe_call G_l_rows (hr.mono (by decide)) rfl T_l_rows.m T_l_rows.k T_l_rows.b .nil pass1n (zpa_cons (zpv 0) (zpa_cons zpe_int (zpa_cons (zpv 2) (zpa_cons (zpv 3) (zpa_cons (zpe_op op_add zpe_int (zpe_op op_mod (zpe_op op_fdiv (zpv 1) zpe_int) zpe_int)) zpa_nil))))))) (zpss_cons (zps_set (i := 5) sc_l_three.nd rfl (Or.inl rfl) (zpe_call G_starts (hr.mono (by decide)) rfl T_starts.m T_starts.k T_starts.b .nil pass1n (zpa_cons (zpv 4) (zpa_cons zpe_int zpa_nil)))) (zpss_cons (zps_set (i := 6) sc_l_three.nd rfl (Or.inl rfl) (zpe_call G_least (hr.mono (by decide)) rfl T_least.m T_least.k T_least.b .nil pass1n (zpa_cons (zpv 4) (zpa_cons (zpv 3) zpa_nil)))) (zpss_cons (zps_if (zPW_pt (zpw_or (zpt_cmpR op_notIn_seq (zpv 3) (zpv 5) rfl) (zpw_or1 (zpt_cmpR op_gt (zpv 6) (zpe_callB (call_sumL rfl) rfl T.sum PyProof.Rows.boot_sum (zpa_cons (zpe_lc (N' := ["place"]) (js := [none]) rfl (compOk.scope (sc := defScope s_l_three) (N := ["script", "cell", "panel", "first", "rows", "found", "cost", "some", "other"]) (by decide +kernel)) (zpi_list (zpv 2)) (fun _ _ _ _ _ => (zpg_name (i := 0) (show (["place"] : List Str).Nodup from by decide +kernel) rfl (Or.inl rfl))) (fun _ _ _ _ _ => zpif_nil) (fun _ _ _ _ _ => (zpe_op op_sub zpe_int (zpe_bmK (K := K) rfl PySem.F.plainAttrs_list PySem.F.slot_list_count PySem.F.type_list_count mt_count (zpv 0) (zpa_const (vs := [.str "good"]) rfl))))) zpa_nil)) (nomark _))))) (zpss_one (zps_ret zpe_bl)) zpss_nil) (zpss_cons (zps_set (i := 7) sc_l_three.nd rfl (Or.inl rfl) (zpe_call G_best (hr.mono (by decide)) rfl T_best.m T_best.k T_best.b .nil pass1n (zpa_cons (zpv 4) (zpa_cons zpe_int zpa_nil)))) (zpss_cons (zps_if (zPW_pt (zpw_or (zpt_cmpR (op_eqK (K := K) rfl hr.units) (zpv 7) (zpe_lst zpa_nil) (nomark _)) (zpw_or (zpt_cmpR op_notIn_seq (zpe_ix ix_list (zpv 7) zpe_int (fun _ _ => rfl)) (zpv 5) rfl) (zpw_or1 (zpt_cmpR op_gt (zpe_call G_least (hr.mono (by decide)) rfl T_least.m T_least.k T_least.b .nil pass1n (zpa_cons (zpv 4) (zpa_cons (zpe_ix ix_list (zpv 7) zpe_int (fun _ _ => rfl)) zpa_nil))) (zpv 6) (nomark _)))))) (zpss_one (zps_ret zpe_bl)) zpss_nil) (zpss_cons (zps_set (i := 8) sc_l_three.nd rfl (Or.inl rfl) (zpe_op op_mod (zpe_op op_add (zpv 3) (zpe_ix ix_list (zpe_lst (zpa_const (vs := [.int 1, .int 10, .int 100, .int 99, .int 991, .int 0]) rfl)) (zpe_op op_mod (zpe_op op_fdiv (zpv 1) zpe_int) zpe_int) (fun _ _ => rfl))) zpe_int)) (zpss_one (zps_ret (zpe_cmpR op_eq (zpe_cmpR op_in_seq (zpv 8) (zpv 5) rfl) (zpe_cmp (zpc_notN (zpe_call G_l_price (hr.mono (by decide)) rfl T_l_price.m T_l_price.k T_l_price.b .nil pass1n (zpa_cons (zpv 4) (zpa_cons (zpv 8) zpa_nil))))) (nomark _)))))))))))))), ?_⟩
    refine ⟨_, rfl, a, ns, 0, rfl, ha, ?_⟩
    refine ⟨_, rfl, a, ns, 6, 3, rfl, ha, by omega, fun pn lq qs H1 hpn hgood s1 nlq hlq hqs => ?_⟩
    refine ⟨_, rfl, a, ns, 1, rfl, s1.seq ha, _, _, rfl, rfl, (by show (0 : Int) < 1000; decide), ?_⟩
    obtain ⟨fi, hfi, efi⟩ : ∃ fi : Nat, fi < 10 ^ 3 ∧ cellM ns 1 % 1000 = (fi : Int) := ⟨(cellM ns 1 % 1000).toNat, by omega, by omega⟩
    obtain ⟨sz, z1, z12, esz⟩ : ∃ sz : Nat, 1 ≤ sz ∧ sz ≤ 12 ∧ 1 + cellM ns 0 / 4 % 12 = (sz : Int) := ⟨(1 + cellM ns 0 / 4 % 12).toNat, by omega, by omega, by omega⟩
    simp only [efi]
    refine ⟨_, rfl, _, rfl, _, rfl, _, rfl, _, _, rfl, rfl, ⟨by decide, by decide⟩, _, _, rfl, rfl, (by show (0 : Int) < 12; decide), _, _, rfl, rfl, ?_⟩
    refine ⟨.ref a, .int 0, .ref lq, pn, fi, sz, ?_, .list (SqL.of hlq) (marks_rep hqs), by omega, by omega, fun ms h => (hgood ms h).1, by omega, fun lr ts H2 s2 nlr hlr hts hne hnd => ?_⟩
    · show [V.ref a, V.int 0, V.ref lq, V.int (fi : Int), V.int (1 + cellM ns 0 / 4 % 12)] = _
      rw [esz]
    have LR := lrows_of hlr hts z1 (by omega) hpn
    obtain ⟨n, en, nle⟩ := price_true hgood fi sz
    rw [hpn] at en
    generalize rowsM pn fi sz = rs at *
    refine ⟨_, rfl, .ref lr, rs, 3, rfl, by decide, LR.rows, fun lf H3 s3 nlf hlf => ?_⟩
    refine ⟨_, rfl, _, rfl, .ref lr, fi, rs, 3, n, rfl, LR.one, by decide, (LR.same s3).rows, hfi, en, fun H4 s4 => ?_⟩
    have s24 := s3.trans s4
    have s14 := s2.trans s24
    have hlf4 := s4 _ _ hlf
    have ql := hqs.length
    refine ⟨_, rfl, _, rfl, lf, _, rfl, .inl (SqL.of hlf4), rfl, all_flatI _, _, rfl, ?_⟩
    rw [if_pos rfl, inV_int, decide_eq_true (starts_iff.mpr ⟨hfi, n, en⟩)]
    refine iteF ⟨_, rfl, _, rfl, lq, rfl, ⟨_, SqL.of (s14 _ _ hlq)⟩, lc_list (xs := qs.map V.ref) (fun i ys H' => Same H4 H' ∧ i ≤ pn.length ∧ ys = ((pn.take i).map brokenI).map V.int) ⟨Same.refl _, Nat.zero_le _, rfl⟩ (fun i ys H' p => SqL.of (p.1 _ _ (s14 _ _ hlq))) ?_ ?_⟩
    · rintro ys H5 ⟨s5, _, rfl⟩ ls nls
      rw [List.length_map, List.take_of_length_le (by omega)]
      have s6 : Same H4 (upd H5 ls (.lst ((pn.map brokenI).map V.int))) := s5.upd (s5.free nls)
      refine ⟨ls, pn.map brokenI, rfl, SqL.of upd_same, _, _, rfl, rfl, _, rfl, ?_⟩
      rw [decide_eq_false (show ¬ ((n : Nat) : Int) > (pn.map brokenI).sum by omega)]
      generalize upd H5 ls (.lst ((pn.map brokenI).map V.int)) = H6 at *
      have s26 := s24.trans s6
      refine iteF ⟨_, rfl, .ref lr, rs, 3, rfl, by decide, (LR.same s26).rows, fun bs hbs lb H7 s7 nlb hlb => ?_⟩
      obtain ⟨lo, ⟨b, r, rfl⟩, hlo, hall⟩ := best_of hbs hfi en
      obtain ⟨i, rfl, hi, ei⟩ := hall b List.mem_cons_self
      have s27 := s26.trans s7
      have hlf7 := s7 _ _ (s6 _ _ hlf4)
      refine ⟨_, rfl, Nat.zero_le _, fun le nle' => ?_⟩
      have s8 : Same H7 (upd H7 le (.lst [])) := Same.new nle'
      have hle : (upd H7 le (.lst [])) le = some (.lst []) := upd_same
      generalize upd H7 le (.lst []) = H8 at *
      have s28 := s27.trans s8
      have hlf8 := s8 _ _ hlf7
      have hlb8 := s8 _ _ hlb
      refine ⟨.list (((i : Int) :: r).map .int), .list [], .list (SqL.of hlb8) (RepAll.ints _), .list (SqL.of hle) .nil, (Plain.ints _).shaped, by decide, ?_⟩
      rw [eqv_cons]
      refine ⟨_, rfl, iteF ⟨_, rfl, lb, _, 0, .int (i : Int), rfl, rfl, SqL.of hlb8, atI_nat (j := 0) rfl, _, rfl, lf, _, rfl, .inl (SqL.of hlf8), rfl, all_flatI _, _, rfl, ?_⟩⟩
      rw [if_pos rfl, inV_int, decide_eq_true (starts_iff.mpr ⟨hi, lo, ei⟩)]
      refine iteF ⟨_, rfl, _, rfl, lb, _, 0, .int (i : Int), rfl, rfl, SqL.of hlb8, atI_nat (j := 0) rfl, .ref lr, i, rs, 3, lo, rfl, LR.one, by decide, (LR.same s28).rows, hi, ei, fun H9 s9 => ⟨_, rfl, _, _, rfl, rfl, _, rfl, ?_⟩⟩
      rw [decide_eq_false (show ¬ ((lo : Nat) : Int) > ((n : Nat) : Int) by omega)]
      have s29 := s28.trans s9
      have hlf9 := s9 _ _ hlf8
      refine iteF ⟨_, rfl, by show 6 ≤ sizeLine; decide, fun l6 n6 => ?_⟩
      obtain ⟨c, hc, ec⟩ : ∃ c : Nat, c < 6 ∧ cellM ns 0 / 576 % 6 = (c : Int) := ⟨(cellM ns 0 / 576 % 6).toNat, by omega, by omega⟩
      obtain ⟨d, ed⟩ : ∃ d : Int, [V.int 1, V.int 10, V.int 100, V.int 99, V.int 991, V.int 0][c]? = some (.int d) := by
        have : c = 0 ∨ c = 1 ∨ c = 2 ∨ c = 3 ∨ c = 4 ∨ c = 5 := by omega
        rcases this with rfl | rfl | rfl | rfl | rfl | rfl <;> exact ⟨_, rfl⟩
      have s10 : Same H9 (upd H9 l6 (.lst [V.int 1, V.int 10, V.int 100, V.int 99, V.int 991, V.int 0])) := Same.new n6
      refine ⟨_, rfl, _, _, rfl, rfl, ⟨by decide, by decide⟩, _, _, rfl, rfl, (by show (0 : Int) < 6; decide), l6, _, _, .int d, rfl, rfl, SqL.of upd_same, (by show atI _ (cellM ns 0 / 576 % 6) = _; rw [ec]; exact atI_nat ed), _, _, rfl, rfl, _, _, rfl, rfl, (by show (0 : Int) < 1000; decide), ?_⟩
      generalize upd H9 l6 (.lst [V.int 1, V.int 10, V.int 100, V.int 99, V.int 991, V.int 0]) = H10 at *
      have s210 := s29.trans s10
      have hlf10 := s10 _ _ hlf9
      obtain ⟨ot, hot, eot⟩ : ∃ ot : Nat, ot < 10 ^ 3 ∧ ((fi : Int) + d) % 1000 = (ot : Int) := ⟨(((fi : Int) + d) % 1000).toNat, by omega, by omega⟩
      refine ⟨_, rfl, _, rfl, lf, _, rfl, .inl (SqL.of hlf10), rfl, all_flatI _, _, rfl, _, rfl, lr, ts, rs, 3, ot, ?_, LR.same s210, by decide, by decide, fun n' en' H11 s11 => ⟨rfl, ?_⟩, fun en' H11 s11 => ⟨rfl, ?_⟩⟩
      · show [V.ref lr, V.int (((fi : Int) + d) % 1000)] = _
        rw [eot]
      · have iv : inV (V.int (((fi : Int) + d) % 1000)) ((startsM rs 3).map V.int) = true := by rw [eot, inV_int]; exact decide_eq_true (starts_iff.mpr ⟨hot, n', en'⟩)
        have e2 : (!decide (V.int ((n' : Nat) : Int) = V.non)) = true := by rw [decide_eq_false fun z => nomatch z]; rfl
        rw [if_neg Bool.false_ne_true, iv, e2, decide_eq_true rfl]
        exact k _ (s1.trans (s2.trans (s210.trans s11)))
      · have iv : inV (V.int (((fi : Int) + d) % 1000)) ((startsM rs 3).map V.int) = false := by
          rw [eot, inV_int]
          refine decide_eq_false fun z => ?_
          obtain ⟨_, n', e'⟩ := starts_iff.mp z
          rw [en'] at e'
          cases e'
        have e2 : (!decide (V.non = V.non)) = false := by rw [decide_eq_true rfl]; rfl
        rw [if_neg Bool.false_ne_true, iv, e2, decide_eq_true rfl]
        exact k _ (s1.trans (s2.trans (s210.trans s11)))
    · rintro i x ys H5 ex ⟨s5, hi, rfl⟩
      obtain ⟨t, et, rfl⟩ := ref_get ex
      obtain ⟨ms, em, ht⟩ := hqs.at et
      have hi' : i < pn.length := (List.getElem?_eq_some_iff.mp em).1
      have ht5 := s5 _ _ (s14 _ _ ht)
      refine ⟨by rw [List.length_map, List.length_map, List.length_take]; exact small1000 (by omega), Sub.set rfl, _, rfl, .inl ⟨rfl, _, SqL.of ht5⟩, t, _, _, rfl, rfl, ht5, rfl, all_flat ms, _, _, rfl, rfl, s5, hi', ?_⟩
      rw [map_take _ _ _ _ em, List.map_append]
      rfl
end
end Lit

set_option Elab.async false
set_option linter.all false
set_option maxRecDepth 100000
namespace Lit
open PySem L2
abbrev lawN : List Str := ["script", "cell", "places", "size", "panel", "first", "rows", "found", "broken", "cost", "some", "one", "more"]
theorem cutV_mem {xs : List V} {lo hi : Option Int} {x : V} (h : x ∈ cutV xs lo hi) : x ∈ xs := by
  unfold cutV at h
  first
    | exact List.mem_of_mem_drop (List.mem_of_mem_take h)
    | exact List.mem_of_mem_take (List.mem_of_mem_drop h)
theorem int_mem {ns : List Int} {x : V} (h : x ∈ ns.map V.int) : ∃ n ∈ ns, x = .int n := by
  obtain ⟨n, hn, rfl⟩ := List.mem_map.mp h
  exact ⟨n, hn, rfl⟩
section
variable {P : Program} {w : World} {K : PySem.W.Frag} {mg : Str → Option Value} {base : Heap} {aS aT : Addr}
theorem sc_law : FnScope lawN ["script"] (defScope s_law) := ⟨rfl, rfl, rfl, by decide +kernel, rfl, by decide +kernel, by decide +kernel⟩
set_option maxHeartbeats 8000000 in
theorem ok_law {f f1 f2 f3 f4 f5 f6 f7 : Addr} {fd fd1 fd2 fd3 fd4 fd5 fd6 fd7 : FuncData} (F : Fun K "law" "law" s_law f fd) (T : Txt K mg aS aT)
    (T_l_cell_at : FnAt K mg "_law_cell_at" ["script", "k"] f1 fd1) (G_l_cell_at : FnOk P w K mg base (CX1 P w) 1 f1 fd1 ["script", "k"] (sp_l_cell_at K))
    (T_l_panel : FnAt K mg "_law_panel" ["script", "start", "places"] f2 fd2) (G_l_panel : FnOk P w K mg base (CX1 P w) 3 f2 fd2 ["script", "start", "places"] (sp_l_panel K))
    (T_l_rows : FnAt K mg "_law_rows" ["script", "start", "panel", "first", "size"] f3 fd3) (G_l_rows : FnOk P w K mg base (CX1 P w) 3 f3 fd3 ["script", "start", "panel", "first", "size"] (sp_l_rows K))
    (T_l_three : FnAt K mg "_law_three" ["script"] f4 fd4) (G_l_three : FnOk P w K mg base (CX1 P w) 9 f4 fd4 ["script"] (sp_l_three K))
    (T_starts : FnAt K mg "starts" ["rows", "places"] f5 fd5) (G_starts : FnOk P w K mg base (CX1 P w) 7 f5 fd5 ["rows", "places"] (sp_starts K))
    (T_best : FnAt K mg "best" ["rows", "places"] f6 fd6) (G_best : FnOk P w K mg base (CX1 P w) 7 f6 fd6 ["rows", "places"] (sp_best K))
    (T_least : FnAt K mg "least" ["rows", "start"] f7 fd7) (G_least : FnOk P w K mg base (CX1 P w) 6 f7 fd7 ["rows", "start"] (sp_least K)) : FnOk P w K mg base (CX1 P w) 11 f fd ["script"] (spLaw K) := by
  refine F.zok1 sc_law (fun vs H Q E h => ?_) (fun cdv A outer s H vs Q E hr h => ?_)
  · obtain ⟨a, ns, rfl, _⟩ := h
    rfl
  · obtain ⟨a, ns, rfl, ha, hlen, k⟩ := h
    have t7 : ∃ tl, YPSs (cxOf (CX1 P w) P w K mg base lawN "law" (defScope s_law) f cdv A outer s H E).nox ((defBody s_law).drop 7) tl ∧
        ∀ (H3 : Hp) (lq lr : Addr) (qs ts : List Addr) (pn : List (List Str)) (kk fi sz : Nat) (v1 : Option V), H3 lq = some (.lst (qs.map V.ref)) → MarksAt H3 qs pn → (∀ ms ∈ pn, GoodPlace ms) → pn.length = kk → LRows H3 lr ts (rowsM pn fi sz) kk → fi < 10 ^ kk → (kk = 1 ∨ kk = 2) → sz ≤ 12 →
          tl { nx := fun _ H' => Q .non H', rt := Q } [some (.ref a), v1, some (.int (kk : Nat)), some (.int (sz : Nat)), some (.ref lq), some (.int (fi : Nat)), some (.ref lr), none, none, none, none, none, none] H3 := by
      refine ⟨_, (zpss_cons (zps_set (i := 7) sc_law.nd rfl (Or.inr rfl) (zpe_call G_starts (hr.mono (by decide)) rfl T_starts.m T_starts.k T_starts.b .nil pass1n (zpa_cons (zpv 6) (zpa_cons (zpv 2) zpa_nil)))) (zpss_cons (zps_set (i := 8) sc_law.nd rfl (Or.inl rfl) (zpe_callB (call_sumL rfl) rfl T.sum PyProof.Rows.boot_sum (zpa_cons (zpe_lc (N' := ["place"]) (js := [none]) rfl (compOk.scope (sc := defScope s_law) (N := ["script", "cell", "places", "size", "panel", "first", "rows", "found", "broken", "cost", "some", "one", "more"]) (by decide +kernel)) (zpi_list (zpv 4)) (fun _ _ _ _ _ => (zpg_name (i := 0) (show (["place"] : List Str).Nodup from by decide +kernel) rfl (Or.inl rfl))) (fun _ _ _ _ _ => zpif_nil) (fun _ _ _ _ _ => (zpe_op op_sub zpe_int (zpe_bmK (K := K) rfl PySem.F.plainAttrs_list PySem.F.slot_list_count PySem.F.type_list_count mt_count (zpv 0) (zpa_const (vs := [.str "good"]) rfl))))) zpa_nil))) (zpss_cons (zps_set (i := 9) sc_law.nd rfl (Or.inl rfl) (zpe_call G_least (hr.mono (by decide)) rfl T_least.m T_least.k T_least.b .nil pass1n (zpa_cons (zpv 6) (zpa_cons (zpv 5) zpa_nil)))) (zpss_cons (zps_if (zPW_pt (zpw_or (zpt_cmpR op_notIn_seq (zpv 5) (zpv 7) rfl) (zpw_or1 (zpt_cmpR op_gt (zpv 9) (zpv 8) (nomark _))))) (zpss_one (zps_ret zpe_bl)) zpss_nil) (zpss_cons (zps_set (i := 10) sc_law.nd rfl (Or.inl rfl) (zpe_call G_best (hr.mono (by decide)) rfl T_best.m T_best.k T_best.b .nil pass1n (zpa_cons (zpv 6) (zpa_cons (zpv 2) zpa_nil)))) (zpss_cons (zps_if (zPW_pt (zpw_or (zpt_cmpR (op_eqK (K := K) rfl hr.units) (zpv 10) (zpe_lst zpa_nil) (nomark _)) (zpw_or1 (zpt_not (zpt_val (zpe_callB (call_allK (K := K) rfl rfl) rfl T.all bt_all (zpa_cons (zpe_lc (N' := ["one", "found"]) (js := [none, some 7]) rfl (compOk.scope (sc := defScope s_law) (N := ["script", "cell", "places", "size", "panel", "first", "rows", "found", "broken", "cost", "some", "one", "more"]) (by decide +kernel)) (zpi_list (zpv 10)) (fun _ _ _ _ _ => (zpg_name (i := 0) (show (["one", "found"] : List Str).Nodup from by decide +kernel) rfl (Or.inl rfl))) (fun _ _ _ _ _ => zpif_nil) (fun _ _ _ _ _ => (zpe_cmpR (op_inK (K := K) rfl) (zpv 0) (zpv 1) rfl))) zpa_nil))))))) (zpss_one (zps_ret zpe_bl)) zpss_nil) (zpss_cons (zps_for PassesOwn.never rfl (zpi_list (zpe_slice sl_list (zpv 10) zpo_none (zpo_some zpe_int))) (zpg_name (i := 11) sc_law.nd rfl (Or.inl rfl)) (zpss_one (zps_if (zPW_pt (zpw_or (zpt_cmpR op_ne (zpe_call G_least (hr.mono (by decide)) rfl T_least.m T_least.k T_least.b .nil pass1n (zpa_cons (zpv 6) (zpa_cons (zpv 11) zpa_nil))) (zpe_call G_least (hr.mono (by decide)) rfl T_least.m T_least.k T_least.b .nil pass1n (zpa_cons (zpv 6) (zpa_cons (zpe_ix ix_list (zpv 10) zpe_int (fun _ _ => rfl)) zpa_nil))) (nomark _)) (zpw_or1 (zpt_cmpR op_gt (zpe_call G_least (hr.mono (by decide)) rfl T_least.m T_least.k T_least.b .nil pass1n (zpa_cons (zpv 6) (zpa_cons (zpv 11) zpa_nil))) (zpv 9) (nomark _))))) (zpss_one (zps_ret zpe_bl)) zpss_nil))) (zpss_cons (zps_set (i := 12) sc_law.nd rfl (Or.inl rfl) (zpe_call G_l_rows (hr.mono (by decide)) rfl T_l_rows.m T_l_rows.k T_l_rows.b .nil pass1n (zpa_cons (zpv 0) (zpa_cons zpe_int (zpa_cons (zpv 4) (zpa_cons (zpv 5) (zpa_cons (zpe_op op_add (zpv 3) zpe_int) zpa_nil))))))) (zpss_one (zps_ret (zpe_callB (call_allK (K := K) rfl rfl) rfl T.all bt_all (zpa_cons (zpe_lc (N' := ["one", "found"]) (js := [none, some 7]) rfl (compOk.scope (sc := defScope s_law) (N := ["script", "cell", "places", "size", "panel", "first", "rows", "found", "broken", "cost", "some", "one", "more"]) (by decide +kernel)) (zpi_list (zpe_call G_starts (hr.mono (by decide)) rfl T_starts.m T_starts.k T_starts.b .nil pass1n (zpa_cons (zpv 12) (zpa_cons (zpv 2) zpa_nil)))) (fun _ _ _ _ _ => (zpg_name (i := 0) (show (["one", "found"] : List Str).Nodup from by decide +kernel) rfl (Or.inl rfl))) (fun _ _ _ _ _ => zpif_nil) (fun _ _ _ _ _ => (zpe_cmpR (op_inK (K := K) rfl) (zpv 0) (zpv 1) rfl))) zpa_nil)))))))))))), fun H3 lq lr qs ts pn kk fi sz v1 hlq hqs hgood hpn LR hfi h12 hsz => ?_⟩
      obtain ⟨n, en, nle⟩ := price_true hgood fi sz
      rw [hpn] at en
      have k3 : kk ≤ 3 := by omega
      have t1000 := ten_le k3
      have mono := starts_mono (rs := rowsM pn fi sz) (r := rowM ((fi + sz) % 10 ^ pn.length) pn) (k := kk)
      rw [← rows_succ] at mono
      have sl := starts_len (rowsM pn fi (sz + 1)) kk
      generalize ers : rowsM pn fi sz = rs at *
      refine ⟨_, rfl, _, rfl, .ref lr, rs, kk, rfl, k3, LR.rows, fun lf H4 s4 nlf hlf => ?_⟩
      have ql := hqs.length
      refine ⟨_, rfl, lq, rfl, ⟨_, SqL.of (s4 _ _ hlq)⟩, lc_list (xs := qs.map V.ref) (fun i ys H' => Same H4 H' ∧ i ≤ pn.length ∧ ys = ((pn.take i).map brokenI).map V.int) ⟨Same.refl _, Nat.zero_le _, rfl⟩ (fun i ys H' p => SqL.of (p.1 _ _ (s4 _ _ hlq))) ?_ ?_⟩
      · rintro ys H5 ⟨s5, _, rfl⟩ ls nls
        rw [List.length_map, List.take_of_length_le (by omega)]
        have s6 : Same H4 (upd H5 ls (.lst ((pn.map brokenI).map V.int))) := s5.upd (s5.free nls)
        refine ⟨ls, pn.map brokenI, rfl, SqL.of upd_same, ?_⟩
        generalize upd H5 ls (.lst ((pn.map brokenI).map V.int)) = H6 at *
        have s36 := s4.trans s6
        have hlf6 := s6 _ _ hlf
        refine ⟨_, rfl, _, rfl, .ref lr, fi, rs, kk, n, rfl, LR.one, k3, (LR.same s36).rows, hfi, en, fun H7 s7 => ?_⟩
        have s37 := s36.trans s7
        have hlf7 := s7 _ _ hlf6
        refine ⟨_, rfl, _, rfl, lf, _, rfl, .inl (SqL.of hlf7), rfl, all_flatI _, _, rfl, ?_⟩
        rw [if_pos rfl, inV_int, decide_eq_true (starts_iff.mpr ⟨hfi, n, en⟩)]
        refine iteF ⟨_, rfl, _, rfl, _, _, rfl, rfl, _, rfl, ?_⟩
        rw [decide_eq_false (show ¬ ((n : Nat) : Int) > (pn.map brokenI).sum by omega)]
        refine iteF ⟨_, rfl, _, rfl, .ref lr, rs, kk, rfl, k3, (LR.same s37).rows, fun bs hbs lb H8 s8 nlb hlb => ?_⟩
        have bl : bs.length ≤ 1000 := by
          obtain ⟨_, _, _, _, rfl⟩ := hbs
          rw [List.length_map]
          have := openTo_len rs kk (10 ^ kk)
          exact Nat.le_trans (List.length_filter_le _ _) (by omega)
        obtain ⟨lo, ⟨b, r, eb⟩, hlo, hall⟩ := best_of hbs hfi en
        obtain ⟨i0, ei0, hi0, pi0⟩ := hall b (by rw [eb]; exact List.mem_cons_self)
        subst ei0
        have s38 := s37.trans s8
        have hlf8 := s8 _ _ hlf7
        refine ⟨_, rfl, Nat.zero_le _, fun le nle' => ?_⟩
        have s9 : Same H8 (upd H8 le (.lst [])) := Same.new nle'
        have hle : (upd H8 le (.lst [])) le = some (.lst []) := upd_same
        generalize upd H8 le (.lst []) = H9 at *
        have s39 := s38.trans s9
        have hlf9 := s9 _ _ hlf8
        have hlb9 := s9 _ _ hlb
        refine ⟨.list (bs.map .int), .list [], .list (SqL.of hlb9) (RepAll.ints _), .list (SqL.of hle) .nil, (Plain.ints _).shaped, by decide, ?_⟩
        rw [show PyData.eqv (.list (bs.map .int)) (.list []) = false by rw [eb]; exact eqv_cons _ _]
        refine ⟨_, rfl, iteF ?_⟩
        refine ⟨_, rfl, lb, rfl, ⟨_, SqL.of hlb9⟩, lc_list (xs := bs.map V.int) (fun i ys H' => Same H9 H' ∧ i ≤ bs.length ∧ ys = ((bs.take i).map fun _ => true).map V.bl) ⟨Same.refl _, Nat.zero_le _, rfl⟩ (fun i ys H' p => SqL.of (p.1 _ _ hlb9)) ?_ ?_⟩
        · rintro ys H10 ⟨s10, _, rfl⟩ lw nlw
          have s11 : Same H9 (upd H10 lw (.lst (((bs.take (bs.map V.int).length).map fun _ => true).map V.bl))) := s10.upd (s10.free nlw)
          refine ⟨lw, (bs.take (bs.map V.int).length).map fun _ => true, rfl, SqL.of upd_same, _, rfl, ?_⟩
          rw [show ((bs.take (bs.map V.int).length).map fun _ => true).all id = true by simp]
          generalize upd H10 lw (.lst (((bs.take (bs.map V.int).length).map fun _ => true).map V.bl)) = H11 at *
          have s311 := s39.trans s11
          have hlb11 := s11 _ _ hlb9
          refine iteF ⟨_, rfl, _, rfl, lb, _, rfl, SqL.of hlb11, fun lc nlc => ?_⟩
          have s12 : Same H11 (upd H11 lc (.lst (cutV (bs.map V.int) none (some 5)))) := Same.new nlc
          have hlc : (upd H11 lc (.lst (cutV (bs.map V.int) none (some 5)))) lc = some (.lst (cutV (bs.map V.int) none (some 5))) := upd_same
          have cm : ∀ x ∈ cutV (bs.map V.int) none (some 5), x ∈ bs.map V.int := fun x hx => cutV_mem hx
          generalize upd H11 lc (.lst (cutV (bs.map V.int) none (some 5))) = H12 at *
          generalize cutV (bs.map V.int) none (some 5) = cs at *
          have s312 := s311.trans s12
          have at0 : atI (bs.map V.int) 0 = some (.int (i0 : Int)) := by rw [eb]; exact atI_nat (j := 0) rfl
          refine ⟨lc, rfl, ⟨_, SqL.of hlc⟩, for_list (xs := cs) (fun j σ H' => Same H12 H' ∧ ∃ v11, σ = [some (.ref a), v1, some (.int (kk : Nat)), some (.int (sz : Nat)), some (.ref lq), some (.int (fi : Nat)), some (.ref lr), some (.ref lf), some (.int (pn.map brokenI).sum), some (.int (n : Nat)), some (.ref lb), v11, none]) ⟨Same.refl _, none, rfl⟩ (fun j σ H' _ p => SqL.of (p.1 _ _ hlc)) ?_ ?_⟩
          · rintro j x σ H13 ex ⟨s13, v11, rfl⟩
            obtain ⟨b', hb', rfl⟩ := int_mem (cm x (List.mem_of_getElem? ex))
            obtain ⟨i, rfl, hi, pi⟩ := hall b' hb'
            have s313 := s312.trans s13
            refine ⟨_, rfl, _, rfl, .ref lr, i, rs, kk, lo, rfl, LR.one, k3, (LR.same s313).rows, hi, pi, fun H14 s14 => ?_⟩
            have s314 := s313.trans s14
            have hlb14 := s14 _ _ (s13 _ _ (s12 _ _ hlb11))
            refine ⟨_, rfl, _, rfl, lb, _, 0, .int (i0 : Int), rfl, rfl, SqL.of hlb14, at0, .ref lr, i0, rs, kk, lo, rfl, LR.one, k3, (LR.same s314).rows, hi0, pi0, fun H15 s15 => ⟨rfl, _, rfl, ?_⟩⟩
            rw [decide_eq_true rfl]
            have s315 := s314.trans s15
            refine iteF ⟨_, rfl, _, rfl, .ref lr, i, rs, kk, lo, rfl, LR.one, k3, (LR.same s315).rows, hi, pi, fun H16 s16 => ⟨_, rfl, _, _, rfl, rfl, _, rfl, ?_⟩⟩
            rw [decide_eq_false (show ¬ ((lo : Nat) : Int) > ((n : Nat) : Int) by omega)]
            exact iteF ⟨s13.trans (s14.trans (s15.trans s16)), _, rfl⟩
          · rintro σ H13 ⟨s13, v11, rfl⟩
            have s313 := s312.trans s13
            have hlf13 := s13 _ _ (s12 _ _ (s11 _ _ hlf9))
            refine ⟨_, rfl, _, rfl, _, rfl, _, rfl, _, _, rfl, rfl, .ref a, .int 0, .ref lq, pn, fi, sz + 1, rfl, .list (SqL.of (s313 _ _ hlq)) (marks_rep (hqs.same s313)), by omega, by omega, fun ms h => (hgood ms h).1, by omega, fun lm us H14 s14 nlm hlm hus _ _ => ?_⟩
            have LM := lrows_of (k := kk) hlm hus (by omega) (by omega) hpn
            refine ⟨_, rfl, _, rfl, .ref lm, rowsM pn fi (sz + 1), kk, rfl, k3, LM.rows, fun lt H15 s15 nlt hlt => ?_⟩
            have hlf15 := s15 _ _ (s14 _ _ hlf13)
            generalize startsM (rowsM pn fi (sz + 1)) kk = ms at *
            refine ⟨lt, rfl, ⟨_, SqL.of hlt⟩, lc_list (xs := ms.map V.int) (fun i ys H' => Same H15 H' ∧ i ≤ ms.length ∧ ys = ((ms.take i).map fun _ => true).map V.bl) ⟨Same.refl _, Nat.zero_le _, rfl⟩ (fun i ys H' p => SqL.of (p.1 _ _ hlt)) ?_ ?_⟩
            · rintro ys H16 ⟨s16, _, rfl⟩ lw nlw
              refine ⟨lw, (ms.take (ms.map V.int).length).map fun _ => true, rfl, SqL.of upd_same, ?_⟩
              rw [show ((ms.take (ms.map V.int).length).map fun _ => true).all id = true by simp]
              exact k _
            · rintro i x ys H16 ex ⟨s16, hi, rfl⟩
              obtain ⟨x', ex', rfl⟩ := int_get ex
              have hi' : i < ms.length := (List.getElem?_eq_some_iff.mp ex').1
              refine ⟨by rw [List.length_map, List.length_map, List.length_take]; exact small1000 (by omega), Sub.set rfl, _, rfl, _, rfl, lf, _, rfl, .inl (SqL.of (s16 _ _ hlf15)), rfl, all_flatI _, s16, hi', ?_⟩
              rw [if_neg Bool.false_ne_true, inV_int, decide_eq_true (mono x' (List.mem_of_getElem? ex')), map_take _ _ _ _ ex', List.map_append]
              rfl
        · rintro i x ys H10 ex ⟨s10, hi, rfl⟩
          obtain ⟨x', ex', rfl⟩ := int_get ex
          have hi' : i < bs.length := (List.getElem?_eq_some_iff.mp ex').1
          obtain ⟨i1, rfl, hi1, pi1⟩ := hall x' (List.mem_of_getElem? ex')
          refine ⟨by rw [List.length_map, List.length_map, List.length_take]; exact small1000 (by omega), Sub.set rfl, _, rfl, _, rfl, lf, _, rfl, .inl (SqL.of (s10 _ _ hlf9)), rfl, all_flatI _, s10, hi', ?_⟩
          rw [if_neg Bool.false_ne_true, inV_int, decide_eq_true (starts_iff.mpr ⟨hi1, lo, pi1⟩), map_take _ _ _ _ ex', List.map_append]
          rfl
      · rintro i x ys H5 ex ⟨s5, hi, rfl⟩
        obtain ⟨t, et, rfl⟩ := ref_get ex
        obtain ⟨ms, em, ht⟩ := hqs.at et
        have hi' : i < pn.length := (List.getElem?_eq_some_iff.mp em).1
        have ht5 := s5 _ _ (s4 _ _ ht)
        refine ⟨by rw [List.length_map, List.length_map, List.length_take]; exact small1000 (by omega), Sub.set rfl, _, rfl, .inl ⟨rfl, _, SqL.of ht5⟩, t, _, _, rfl, rfl, ht5, rfl, all_flat ms, _, _, rfl, rfl, s5, hi', ?_⟩
        rw [map_take _ _ _ _ em, List.map_append]
        rfl
    obtain ⟨tl7, tl7_h, tl7_q⟩ := t7
    refine ⟨_, (zpss_cons (zps_set (i := 1) sc_law.nd rfl (Or.inl rfl) (zpe_call G_l_cell_at (hr.mono (by decide)) rfl T_l_cell_at.m T_l_cell_at.k T_l_cell_at.b .nil pass1n (zpa_cons (zpv 0) (zpa_cons zpe_int zpa_nil)))) (zpss_cons (zps_set (i := 2) sc_law.nd rfl (Or.inl rfl) (zpe_ix ix_list (zpe_lst (zpa_const (vs := [.int 1, .int 1, .int 1, .int 2]) rfl)) (zpe_op op_mod (zpv 1) zpe_int) (fun _ _ => rfl))) (zpss_cons (zps_set (i := 3) sc_law.nd rfl (Or.inl rfl) (zpe_op op_add zpe_int (zpe_op op_mod (zpe_op op_fdiv (zpv 1) zpe_int) (zpe_ix ix_list (zpe_lst (zpa_cons zpe_int (zpa_cons zpe_int zpa_nil))) (zpe_op op_sub (zpv 2) zpe_int) (fun _ _ => rfl))))) (zpss_cons (zps_set (i := 4) sc_law.nd rfl (Or.inl rfl) (zpe_call G_l_panel (hr.mono (by decide)) rfl T_l_panel.m T_l_panel.k T_l_panel.b .nil pass1n (zpa_cons (zpv 0) (zpa_cons zpe_int (zpa_cons (zpv 2) zpa_nil))))) (zpss_cons (zps_set (i := 5) sc_law.nd rfl (Or.inl rfl) (zpe_op op_mod (zpe_call G_l_cell_at (hr.mono (by decide)) rfl T_l_cell_at.m T_l_cell_at.k T_l_cell_at.b .nil pass1n (zpa_cons (zpv 0) (zpa_cons zpe_int zpa_nil))) (zpe_ix ix_list (zpe_lst (zpa_const (vs := [.int 10, .int 100, .int 1000]) rfl)) (zpe_op op_sub (zpv 2) zpe_int) (fun _ _ => rfl)))) (zpss_cons (zps_set (i := 6) sc_law.nd rfl (Or.inl rfl) (zpe_call G_l_rows (hr.mono (by decide)) rfl T_l_rows.m T_l_rows.k T_l_rows.b .nil pass1n (zpa_cons (zpv 0) (zpa_cons zpe_int (zpa_cons (zpv 4) (zpa_cons (zpv 5) (zpa_cons (zpv 3) zpa_nil))))))) (zpss_cons (zps_if (zPW_pt (zpw_and (zpt_cmpR op_eq (zpe_op op_mod (zpe_op op_fdiv (zpv 1) zpe_int) zpe_int) zpe_int (nomark _)) (zpw_and1 (zpt_not (zpt_val (zpe_call G_l_three (hr.mono (by decide)) rfl T_l_three.m T_l_three.k T_l_three.b .nil pass1n (zpa_cons (zpv 0) zpa_nil))))))) (zpss_one (zps_ret zpe_bl)) zpss_nil) tl7_h))))))), ?_⟩
    obtain ⟨c, hc, ec⟩ : ∃ c : Nat, c < 4 ∧ cellM ns 0 % 4 = (c : Int) := ⟨(cellM ns 0 % 4).toNat, by omega, by omega⟩
    obtain ⟨kk, h12, ek⟩ : ∃ kk : Nat, (kk = 1 ∨ kk = 2) ∧ [V.int 1, V.int 1, V.int 1, V.int 2][c]? = some (.int (kk : Nat)) := by
      have : c = 0 ∨ c = 1 ∨ c = 2 ∨ c = 3 := by omega
      rcases this with rfl | rfl | rfl | rfl
      · exact ⟨1, .inl rfl, rfl⟩
      · exact ⟨1, .inl rfl, rfl⟩
      · exact ⟨1, .inl rfl, rfl⟩
      · exact ⟨2, .inr rfl, rfl⟩
    refine ⟨_, rfl, a, ns, 0, rfl, ha, ?_⟩
    refine ⟨by show 4 ≤ sizeLine; decide, fun l0 n0 => ⟨_, rfl, _, _, rfl, rfl, (by show (0 : Int) < 4; decide), l0, _, _, .int (kk : Nat), rfl, rfl, SqL.of upd_same, (by show atI _ (cellM ns 0 % 4) = _; rw [ec]; exact atI_nat ek), ?_⟩⟩
    have s0 : Same H (upd H l0 (.lst [.int 1, .int 1, .int 1, .int 2])) := Same.new n0
    generalize upd H l0 (.lst [.int 1, .int 1, .int 1, .int 2]) = H0 at *
    obtain ⟨z, hz0, hz6, ez⟩ : ∃ z : Int, 0 < z ∧ z ≤ 12 ∧ atI [V.int 12, V.int 3] ((kk : Int) - 1) = some (.int z) := by
      rcases h12 with rfl | rfl
      · exact ⟨12, by decide, by decide, rfl⟩
      · exact ⟨3, by decide, by decide, rfl⟩
    refine ⟨_, rfl, _, _, rfl, rfl, ⟨by decide, by decide⟩, by show 2 ≤ sizeLine; decide, fun l4 n4 => ⟨_, rfl, _, _, rfl, rfl, l4, _, _, .int z, rfl, rfl, SqL.of upd_same, ez, _, _, rfl, rfl, hz0, _, _, rfl, rfl, ?_⟩⟩
    obtain ⟨sz, z1, z7, esz⟩ : ∃ sz : Nat, 1 ≤ sz ∧ sz ≤ 12 ∧ 1 + cellM ns 0 / 4 % z = (sz : Int) := by
      have h1 := Int.emod_nonneg (cellM ns 0 / 4) (Int.ne_of_gt hz0)
      have h2 := Int.emod_lt_of_pos (cellM ns 0 / 4) hz0
      exact ⟨(1 + cellM ns 0 / 4 % z).toNat, by omega, by omega, by omega⟩
    simp only [esz]
    have s4 : Same H0 (upd H0 l4 (.lst [.int 12, .int 3])) := Same.new n4
    generalize upd H0 l4 (.lst [.int 12, .int 3]) = H1 at *
    have s01 := s0.trans s4
    refine ⟨_, rfl, _, rfl, a, ns, 6, kk, rfl, s01.seq ha, by omega, fun pn lq qs H2 hpn hgood s2 nlq hlq hqs => ?_⟩
    have s02 := s01.trans s2
    have tpos : (0 : Int) < ((10 ^ kk : Nat) : Int) := Int.natCast_pos.mpr (Nat.pow_pos (by decide))
    refine ⟨_, rfl, a, ns, 1, rfl, s02.seq ha, by show 3 ≤ sizeLine; decide, fun l5 n5 => ⟨_, rfl, _, _, rfl, rfl, l5, _, _, .int ((10 ^ kk : Nat) : Int), rfl, rfl, SqL.of upd_same, most_at (by omega) (by omega), _, _, rfl, rfl, tpos, ?_⟩⟩
    obtain ⟨fi, hfi, efi⟩ : ∃ fi : Nat, fi < 10 ^ kk ∧ cellM ns 1 % ((10 ^ kk : Nat) : Int) = (fi : Int) := by
      have h1 := Int.emod_nonneg (cellM ns 1) (Int.ne_of_gt tpos)
      have h2 := Int.emod_lt_of_pos (cellM ns 1) tpos
      exact ⟨(cellM ns 1 % ((10 ^ kk : Nat) : Int)).toNat, by omega, by omega⟩
    simp only [efi]
    have s5 : Same H2 (upd H2 l5 (.lst [.int 10, .int 100, .int 1000])) := Same.new n5
    generalize upd H2 l5 (.lst [.int 10, .int 100, .int 1000]) = H5 at *
    have s05 := s02.trans s5
    refine ⟨_, rfl, _, rfl, _, rfl, _, rfl, .ref a, .int 0, .ref lq, pn, fi, sz, rfl, .list (SqL.of (s5 _ _ hlq)) (marks_rep (hqs.same s5)), by omega, by omega, fun ms h => (hgood ms h).1, by omega, fun lr ts H6 s6 nlr hlr hts hne hnd => ?_⟩
    have s06 := s05.trans s6
    have s26 := s5.trans s6
    have LR := lrows_of (k := kk) hlr hts z1 (by omega) hpn
    refine ⟨_, rfl, _, _, rfl, rfl, ⟨by decide, by decide⟩, _, _, rfl, rfl, (by show (0 : Int) < 9; decide), rfl, _, rfl, ?_⟩
    by_cases e : V.int (cellM ns 0 / 64 % 9) = V.int 1
    · rw [decide_eq_true e]
      refine iteT ⟨_, rfl, a, ns, rfl, s06.seq ha, fun H7 s7 => ⟨_, rfl, iteF ?_⟩⟩
      exact tl7_q H7 lq lr qs ts pn kk fi sz _ (s7 _ _ (s26 _ _ hlq)) (hqs.same (s26.trans s7)) hgood hpn (LR.same s7) hfi h12 z7
    · rw [decide_eq_false e]
      exact iteF (iteF (tl7_q H6 lq lr qs ts pn kk fi sz _ (s26 _ _ hlq) (hqs.same s26) hgood hpn LR hfi h12 z7))
end
end Lit

set_option Elab.async false
set_option linter.all false
set_option maxRecDepth 100000
namespace Lit
open PySem L2
theorem vals_shapes {t0 t1 t2 t3 t4 t5 t6 t7 t8 t9} : Vals (shapes.map V.int) [.int 63 t0, .int 6 t1, .int 91 t2, .int 79 t3, .int 102 t4, .int 109 t5, .int 125 t6, .int 7 t7, .int 127 t8, .int 111 t9] := .cons ⟨_, rfl⟩ (.cons ⟨_, rfl⟩ (.cons ⟨_, rfl⟩ (.cons ⟨_, rfl⟩ (.cons ⟨_, rfl⟩ (.cons ⟨_, rfl⟩ (.cons ⟨_, rfl⟩ (.cons ⟨_, rfl⟩ (.cons ⟨_, rfl⟩ (.cons ⟨_, rfl⟩ .nil)))))))))
theorem vals_strokes {t0 t1 t2 t3 t4 t5 t6} : Vals (strokes.map V.int) [.int 1 t0, .int 2 t1, .int 4 t2, .int 8 t3, .int 16 t4, .int 32 t5, .int 64 t6] := .cons ⟨_, rfl⟩ (.cons ⟨_, rfl⟩ (.cons ⟨_, rfl⟩ (.cons ⟨_, rfl⟩ (.cons ⟨_, rfl⟩ (.cons ⟨_, rfl⟩ (.cons ⟨_, rfl⟩ .nil))))))
theorem vals_marks {t0 t1 t2} : Vals (marks3.map V.str) [.str "good" t0, .str "dead" t1, .str "stuck" t2] := .cons ⟨_, rfl⟩ (.cons ⟨_, rfl⟩ (.cons ⟨_, rfl⟩ .nil))
set_option maxHeartbeats 8000000 in
theorem all_mk {l : PySem.W.OpenLaw} {w : World} {K : PySem.W.Frag} {h : Heap} {mg : Str → Option Value} {fa aS aT aM cF cN cC f1 f2 f3 f4 f5 f6 f7 f8 f9 f10 f11 f12 f13 f14 f15 f16 f17 f18 f19 f20 f21 f22 f23 f24 f25 f26 f27 f28 f29 f30 : Addr} (X : K.In h) (G : h.Ns mainGlobals mg) (hfa : mg "law" = some (.ref fa))
    {od1 an1 od2 an2 od3 an3 od4 an4 od5 an5 od6 an6 od7 an7 od8 an8 od9 an9 od10 an10 od11 an11 od12 an12 od13 an13 od14 an14 od15 an15 od16 an16 od17 an17 od18 an18 od19 an19 od20 an20 od21 an21 od22 an22 od23 an23 od24 an24 od25 an25 od26 an26 od27 an27 od28 an28 od29 an29 od30 an30 : Option Addr} {sl1 sl2 sl3 sl4 sl5 sl6 sl7 sl8 sl9 sl10 sl11 sl12 sl13 sl14 sl15 sl16 sl17 sl18 sl19 sl20 sl21 sl22 sl23 sl24 sl25 sl26 sl27 sl28 sl29 sl30 : Array (Option Value)} {oc1 kV1 dc1 pm1 cd1 ct1 oc2 kV2 dc2 pm2 cd2 ct2 oc3 kV3 dc3 pm3 cd3 ct3 oc4 kV4 dc4 pm4 cd4 ct4 oc5 kV5 dc5 pm5 cd5 ct5 oc6 kV6 dc6 pm6 cd6 ct6 oc7 kV7 dc7 pm7 cd7 ct7 oc8 kV8 dc8 pm8 cd8 ct8 oc9 kV9 dc9 pm9 cd9 ct9 oc10 kV10 dc10 pm10 cd10 ct10 oc11 kV11 dc11 pm11 cd11 ct11 oc12 kV12 dc12 pm12 cd12 ct12 oc13 kV13 dc13 pm13 cd13 ct13 oc14 kV14 dc14 pm14 cd14 ct14 oc15 kV15 dc15 pm15 cd15 ct15 oc16 kV16 dc16 pm16 cd16 ct16 oc17 kV17 dc17 pm17 cd17 ct17 oc18 kV18 dc18 pm18 cd18 ct18 oc19 kV19 dc19 pm19 cd19 ct19 oc20 kV20 dc20 pm20 cd20 ct20 oc21 kV21 dc21 pm21 cd21 ct21 oc22 kV22 dc22 pm22 cd22 ct22 oc23 kV23 dc23 pm23 cd23 ct23 oc24 kV24 dc24 pm24 cd24 ct24 oc25 kV25 dc25 pm25 cd25 ct25 oc26 kV26 dc26 pm26 cd26 ct26 oc27 kV27 dc27 pm27 cd27 ct27 oc28 kV28 dc28 pm28 cd28 ct28 oc29 kV29 dc29 pm29 cd29 ct29 oc30 kV30 dc30 pm30 cd30 ct30 : Value}
    (a1 : PySem.W.nsIn K mainGlobals "shape" = some (some (.ref f1)))
    (l1 : K.lookup f1 = some ⟨oc1, od1, .func (PySem.W.fnOf "shape" "shape" (defArgs s_shape) (defBody s_shape) (defScope s_shape) .none kV1 dc1 pm1 an1 cd1 ct1), sl1⟩)
    (c1 : PySem.W.codeIn K cd1 "shape" = true)
    (k1 : PySem.W.keepIn K (.ref f1) = true)
    (a2 : PySem.W.nsIn K mainGlobals "ten_to" = some (some (.ref f2)))
    (l2 : K.lookup f2 = some ⟨oc2, od2, .func (PySem.W.fnOf "ten_to" "ten_to" (defArgs s_ten_to) (defBody s_ten_to) (defScope s_ten_to) .none kV2 dc2 pm2 an2 cd2 ct2), sl2⟩)
    (c2 : PySem.W.codeIn K cd2 "ten_to" = true)
    (k2 : PySem.W.keepIn K (.ref f2) = true)
    (a3 : PySem.W.nsIn K mainGlobals "worths" = some (some (.ref f3)))
    (l3 : K.lookup f3 = some ⟨oc3, od3, .func (PySem.W.fnOf "worths" "worths" (defArgs s_worths) (defBody s_worths) (defScope s_worths) .none kV3 dc3 pm3 an3 cd3 ct3), sl3⟩)
    (c3 : PySem.W.codeIn K cd3 "worths" = true)
    (k3 : PySem.W.keepIn K (.ref f3) = true)
    (a4 : PySem.W.nsIn K mainGlobals "check_number" = some (some (.ref f4)))
    (l4 : K.lookup f4 = some ⟨oc4, od4, .func (PySem.W.fnOf "check_number" "check_number" (defArgs s_check_number) (defBody s_check_number) (defScope s_check_number) .none kV4 dc4 pm4 an4 cd4 ct4), sl4⟩)
    (c4 : PySem.W.codeIn K cd4 "check_number" = true)
    (k4 : PySem.W.keepIn K (.ref f4) = true)
    (a5 : PySem.W.nsIn K mainGlobals "figures_of" = some (some (.ref f5)))
    (l5 : K.lookup f5 = some ⟨oc5, od5, .func (PySem.W.fnOf "figures_of" "figures_of" (defArgs s_figures_of) (defBody s_figures_of) (defScope s_figures_of) .none kV5 dc5 pm5 an5 cd5 ct5), sl5⟩)
    (c5 : PySem.W.codeIn K cd5 "figures_of" = true)
    (k5 : PySem.W.keepIn K (.ref f5) = true)
    (a6 : PySem.W.nsIn K mainGlobals "misfits" = some (some (.ref f6)))
    (l6 : K.lookup f6 = some ⟨oc6, od6, .func (PySem.W.fnOf "misfits" "misfits" (defArgs s_misfits) (defBody s_misfits) (defScope s_misfits) .none kV6 dc6 pm6 an6 cd6 ct6), sl6⟩)
    (c6 : PySem.W.codeIn K cd6 "misfits" = true)
    (k6 : PySem.W.keepIn K (.ref f6) = true)
    (a7 : PySem.W.nsIn K mainGlobals "fitting_marks" = some (some (.ref f7)))
    (l7 : K.lookup f7 = some ⟨oc7, od7, .func (PySem.W.fnOf "fitting_marks" "fitting_marks" (defArgs s_fitting_marks) (defBody s_fitting_marks) (defScope s_fitting_marks) .none kV7 dc7 pm7 an7 cd7 ct7), sl7⟩)
    (c7 : PySem.W.codeIn K cd7 "fitting_marks" = true)
    (k7 : PySem.W.keepIn K (.ref f7) = true)
    (a8 : PySem.W.nsIn K mainGlobals "open_marks" = some (some (.ref f8)))
    (l8 : K.lookup f8 = some ⟨oc8, od8, .func (PySem.W.fnOf "open_marks" "open_marks" (defArgs s_open_marks) (defBody s_open_marks) (defScope s_open_marks) .none kV8 dc8 pm8 an8 cd8 ct8), sl8⟩)
    (c8 : PySem.W.codeIn K cd8 "open_marks" = true)
    (k8 : PySem.W.keepIn K (.ref f8) = true)
    (a9 : PySem.W.nsIn K mainGlobals "fewest" = some (some (.ref f9)))
    (l9 : K.lookup f9 = some ⟨oc9, od9, .func (PySem.W.fnOf "fewest" "fewest" (defArgs s_fewest) (defBody s_fewest) (defScope s_fewest) .none kV9 dc9 pm9 an9 cd9 ct9), sl9⟩)
    (c9 : PySem.W.codeIn K cd9 "fewest" = true)
    (k9 : PySem.W.keepIn K (.ref f9) = true)
    (a10 : PySem.W.nsIn K mainGlobals "counted" = some (some (.ref f10)))
    (l10 : K.lookup f10 = some ⟨oc10, od10, .func (PySem.W.fnOf "counted" "counted" (defArgs s_counted) (defBody s_counted) (defScope s_counted) .none kV10 dc10 pm10 an10 cd10 ct10), sl10⟩)
    (c10 : PySem.W.codeIn K cd10 "counted" = true)
    (k10 : PySem.W.keepIn K (.ref f10) = true)
    (a11 : PySem.W.nsIn K mainGlobals "showings_at" = some (some (.ref f11)))
    (l11 : K.lookup f11 = some ⟨oc11, od11, .func (PySem.W.fnOf "showings_at" "showings_at" (defArgs s_showings_at) (defBody s_showings_at) (defScope s_showings_at) .none kV11 dc11 pm11 an11 cd11 ct11), sl11⟩)
    (c11 : PySem.W.codeIn K cd11 "showings_at" = true)
    (k11 : PySem.W.keepIn K (.ref f11) = true)
    (a12 : PySem.W.nsIn K mainGlobals "fewest_from" = some (some (.ref f12)))
    (l12 : K.lookup f12 = some ⟨oc12, od12, .func (PySem.W.fnOf "fewest_from" "fewest_from" (defArgs s_fewest_from) (defBody s_fewest_from) (defScope s_fewest_from) .none kV12 dc12 pm12 an12 cd12 ct12), sl12⟩)
    (c12 : PySem.W.codeIn K cd12 "fewest_from" = true)
    (k12 : PySem.W.keepIn K (.ref f12) = true)
    (a13 : PySem.W.nsIn K mainGlobals "fewest_by_start" = some (some (.ref f13)))
    (l13 : K.lookup f13 = some ⟨oc13, od13, .func (PySem.W.fnOf "fewest_by_start" "fewest_by_start" (defArgs s_fewest_by_start) (defBody s_fewest_by_start) (defScope s_fewest_by_start) .none kV13 dc13 pm13 an13 cd13 ct13), sl13⟩)
    (c13 : PySem.W.codeIn K cd13 "fewest_by_start" = true)
    (k13 : PySem.W.keepIn K (.ref f13) = true)
    (a14 : PySem.W.nsIn K mainGlobals "starts" = some (some (.ref f14)))
    (l14 : K.lookup f14 = some ⟨oc14, od14, .func (PySem.W.fnOf "starts" "starts" (defArgs s_starts) (defBody s_starts) (defScope s_starts) .none kV14 dc14 pm14 an14 cd14 ct14), sl14⟩)
    (c14 : PySem.W.codeIn K cd14 "starts" = true)
    (k14 : PySem.W.keepIn K (.ref f14) = true)
    (a15 : PySem.W.nsIn K mainGlobals "least" = some (some (.ref f15)))
    (l15 : K.lookup f15 = some ⟨oc15, od15, .func (PySem.W.fnOf "least" "least" (defArgs s_least) (defBody s_least) (defScope s_least) .none kV15 dc15 pm15 an15 cd15 ct15), sl15⟩)
    (c15 : PySem.W.codeIn K cd15 "least" = true)
    (k15 : PySem.W.keepIn K (.ref f15) = true)
    (a16 : PySem.W.nsIn K mainGlobals "best" = some (some (.ref f16)))
    (l16 : K.lookup f16 = some ⟨oc16, od16, .func (PySem.W.fnOf "best" "best" (defArgs s_best) (defBody s_best) (defScope s_best) .none kV16 dc16 pm16 an16 cd16 ct16), sl16⟩)
    (c16 : PySem.W.codeIn K cd16 "best" = true)
    (k16 : PySem.W.keepIn K (.ref f16) = true)
    (a17 : PySem.W.nsIn K mainGlobals "_law_cell_at" = some (some (.ref f17)))
    (l17 : K.lookup f17 = some ⟨oc17, od17, .func (PySem.W.fnOf "_law_cell_at" "_law_cell_at" (defArgs s_l_cell_at) (defBody s_l_cell_at) (defScope s_l_cell_at) .none kV17 dc17 pm17 an17 cd17 ct17), sl17⟩)
    (c17 : PySem.W.codeIn K cd17 "_law_cell_at" = true)
    (k17 : PySem.W.keepIn K (.ref f17) = true)
    (a18 : PySem.W.nsIn K mainGlobals "_law_pick" = some (some (.ref f18)))
    (l18 : K.lookup f18 = some ⟨oc18, od18, .func (PySem.W.fnOf "_law_pick" "_law_pick" (defArgs s_l_pick) (defBody s_l_pick) (defScope s_l_pick) .none kV18 dc18 pm18 an18 cd18 ct18), sl18⟩)
    (c18 : PySem.W.codeIn K cd18 "_law_pick" = true)
    (k18 : PySem.W.keepIn K (.ref f18) = true)
    (a19 : PySem.W.nsIn K mainGlobals "_law_mix" = some (some (.ref f19)))
    (l19 : K.lookup f19 = some ⟨oc19, od19, .func (PySem.W.fnOf "_law_mix" "_law_mix" (defArgs s_l_mix) (defBody s_l_mix) (defScope s_l_mix) .none kV19 dc19 pm19 an19 cd19 ct19), sl19⟩)
    (c19 : PySem.W.codeIn K cd19 "_law_mix" = true)
    (k19 : PySem.W.keepIn K (.ref f19) = true)
    (a20 : PySem.W.nsIn K mainGlobals "_law_place" = some (some (.ref f20)))
    (l20 : K.lookup f20 = some ⟨oc20, od20, .func (PySem.W.fnOf "_law_place" "_law_place" (defArgs s_l_place) (defBody s_l_place) (defScope s_l_place) .none kV20 dc20 pm20 an20 cd20 ct20), sl20⟩)
    (c20 : PySem.W.codeIn K cd20 "_law_place" = true)
    (k20 : PySem.W.keepIn K (.ref f20) = true)
    (a21 : PySem.W.nsIn K mainGlobals "_law_panel" = some (some (.ref f21)))
    (l21 : K.lookup f21 = some ⟨oc21, od21, .func (PySem.W.fnOf "_law_panel" "_law_panel" (defArgs s_l_panel) (defBody s_l_panel) (defScope s_l_panel) .none kV21 dc21 pm21 an21 cd21 ct21), sl21⟩)
    (c21 : PySem.W.codeIn K cd21 "_law_panel" = true)
    (k21 : PySem.W.keepIn K (.ref f21) = true)
    (a22 : PySem.W.nsIn K mainGlobals "_law_has" = some (some (.ref f22)))
    (l22 : K.lookup f22 = some ⟨oc22, od22, .func (PySem.W.fnOf "_law_has" "_law_has" (defArgs s_l_has) (defBody s_l_has) (defScope s_l_has) .none kV22 dc22 pm22 an22 cd22 ct22), sl22⟩)
    (c22 : PySem.W.codeIn K cd22 "_law_has" = true)
    (k22 : PySem.W.keepIn K (.ref f22) = true)
    (a23 : PySem.W.nsIn K mainGlobals "_law_lit" = some (some (.ref f23)))
    (l23 : K.lookup f23 = some ⟨oc23, od23, .func (PySem.W.fnOf "_law_lit" "_law_lit" (defArgs s_l_lit) (defBody s_l_lit) (defScope s_l_lit) .none kV23 dc23 pm23 an23 cd23 ct23), sl23⟩)
    (c23 : PySem.W.codeIn K cd23 "_law_lit" = true)
    (k23 : PySem.W.keepIn K (.ref f23) = true)
    (a24 : PySem.W.nsIn K mainGlobals "_law_seen" = some (some (.ref f24)))
    (l24 : K.lookup f24 = some ⟨oc24, od24, .func (PySem.W.fnOf "_law_seen" "_law_seen" (defArgs s_l_seen) (defBody s_l_seen) (defScope s_l_seen) .none kV24 dc24 pm24 an24 cd24 ct24), sl24⟩)
    (c24 : PySem.W.codeIn K cd24 "_law_seen" = true)
    (k24 : PySem.W.keepIn K (.ref f24) = true)
    (a25 : PySem.W.nsIn K mainGlobals "_law_figures" = some (some (.ref f25)))
    (l25 : K.lookup f25 = some ⟨oc25, od25, .func (PySem.W.fnOf "_law_figures" "_law_figures" (defArgs s_l_figures) (defBody s_l_figures) (defScope s_l_figures) .none kV25 dc25 pm25 an25 cd25 ct25), sl25⟩)
    (c25 : PySem.W.codeIn K cd25 "_law_figures" = true)
    (k25 : PySem.W.keepIn K (.ref f25) = true)
    (a26 : PySem.W.nsIn K mainGlobals "_law_open" = some (some (.ref f26)))
    (l26 : K.lookup f26 = some ⟨oc26, od26, .func (PySem.W.fnOf "_law_open" "_law_open" (defArgs s_l_open) (defBody s_l_open) (defScope s_l_open) .none kV26 dc26 pm26 an26 cd26 ct26), sl26⟩)
    (c26 : PySem.W.codeIn K cd26 "_law_open" = true)
    (k26 : PySem.W.keepIn K (.ref f26) = true)
    (a27 : PySem.W.nsIn K mainGlobals "_law_rows" = some (some (.ref f27)))
    (l27 : K.lookup f27 = some ⟨oc27, od27, .func (PySem.W.fnOf "_law_rows" "_law_rows" (defArgs s_l_rows) (defBody s_l_rows) (defScope s_l_rows) .none kV27 dc27 pm27 an27 cd27 ct27), sl27⟩)
    (c27 : PySem.W.codeIn K cd27 "_law_rows" = true)
    (k27 : PySem.W.keepIn K (.ref f27) = true)
    (a28 : PySem.W.nsIn K mainGlobals "_law_price" = some (some (.ref f28)))
    (l28 : K.lookup f28 = some ⟨oc28, od28, .func (PySem.W.fnOf "_law_price" "_law_price" (defArgs s_l_price) (defBody s_l_price) (defScope s_l_price) .none kV28 dc28 pm28 an28 cd28 ct28), sl28⟩)
    (c28 : PySem.W.codeIn K cd28 "_law_price" = true)
    (k28 : PySem.W.keepIn K (.ref f28) = true)
    (a29 : PySem.W.nsIn K mainGlobals "_law_three" = some (some (.ref f29)))
    (l29 : K.lookup f29 = some ⟨oc29, od29, .func (PySem.W.fnOf "_law_three" "_law_three" (defArgs s_l_three) (defBody s_l_three) (defScope s_l_three) .none kV29 dc29 pm29 an29 cd29 ct29), sl29⟩)
    (c29 : PySem.W.codeIn K cd29 "_law_three" = true)
    (k29 : PySem.W.keepIn K (.ref f29) = true)
    (a30 : PySem.W.nsIn K mainGlobals "law" = some (some (.ref f30)))
    (l30 : K.lookup f30 = some ⟨oc30, od30, .func (PySem.W.fnOf "law" "law" (defArgs s_law) (defBody s_law) (defScope s_law) .none kV30 dc30 pm30 an30 cd30 ct30), sl30⟩)
    (c30 : PySem.W.codeIn K cd30 "law" = true)
    (k30 : PySem.W.keepIn K (.ref f30) = true)
    {oaS : Obj} {itaS : Array Value} {naS : Nat}
    (aaS : PySem.W.nsIn K mainGlobals "SHAPES" = some (some (.ref aS)))
    (laS : K.lookup aS = some oaS)
    (qaS : oaS.cls = .type "tuple")
    (daS : oaS.data = .seq itaS naS)
    (zaS : itaS.size ≤ sizeLine)
    (vaS : Vals (shapes.map V.int) itaS.toList)
    {oaT : Obj} {itaT : Array Value} {naT : Nat}
    (aaT : PySem.W.nsIn K mainGlobals "STROKES" = some (some (.ref aT)))
    (laT : K.lookup aT = some oaT)
    (qaT : oaT.cls = .type "tuple")
    (daT : oaT.data = .seq itaT naT)
    (zaT : itaT.size ≤ sizeLine)
    (vaT : Vals (strokes.map V.int) itaT.toList)
    {oaM : Obj} {itaM : Array Value} {naM : Nat}
    (aaM : PySem.W.nsIn K mainGlobals "MARKS" = some (some (.ref aM)))
    (laM : K.lookup aM = some oaM)
    (qaM : oaM.cls = .type "tuple")
    (daM : oaM.data = .seq itaM naM)
    (zaM : itaM.size ≤ sizeLine)
    (vaM : Vals (marks3.map V.str) itaM.toList)
    {kALL_LIT : Tok}
    (gALL_LIT : PySem.W.nsIn K mainGlobals "ALL_LIT" = some (some (.int 127 kALL_LIT)))
    (b1 : PySem.W.nsIn K mainGlobals "range" = some none)
    (b2 : PySem.W.nsIn K mainGlobals "len" = some none)
    (b3 : PySem.W.nsIn K mainGlobals "zip" = some none)
    (b4 : PySem.W.nsIn K mainGlobals "sum" = some none)
    (b5 : PySem.W.nsIn K mainGlobals "min" = some none)
    (b6 : PySem.W.nsIn K mainGlobals "max" = some none)
    (b7 : PySem.W.nsIn K mainGlobals "list" = some none)
    (b8 : PySem.W.nsIn K mainGlobals "int" = some none)
    (b9 : PySem.W.nsIn K mainGlobals "str" = some none)
    (b10 : PySem.W.nsIn K mainGlobals "bool" = some none)
    (b11 : PySem.W.nsIn K mainGlobals "isinstance" = some none)
    (b12 : PySem.W.nsIn K mainGlobals "reversed" = some none)
    (b13 : PySem.W.nsIn K mainGlobals "tuple" = some none)
    (b14 : PySem.W.nsIn K mainGlobals "all" = some none)
    (b15 : PySem.W.nsIn K mainGlobals "enumerate" = some none)
    (b16 : PySem.W.nsIn K mainGlobals "ValueError" = some none)
    (ncF : PySem.W.nsIn K mainGlobals "NoFigure" = some (some (.ref cF)))
    (qcF : PySem.W.excIn K cF [.type "ValueError", .type "Exception", .type "BaseException", .type "object"] "ValueError.__new__" = true)
    (ncN : PySem.W.nsIn K mainGlobals "NoNumber" = some (some (.ref cN)))
    (qcN : PySem.W.excIn K cN [.type "ValueError", .type "Exception", .type "BaseException", .type "object"] "ValueError.__new__" = true)
    (ncC : PySem.W.nsIn K mainGlobals "Clash" = some (some (.ref cC)))
    (qcC : PySem.W.excIn K cC [.type "ValueError", .type "Exception", .type "BaseException", .type "object"] "ValueError.__new__" = true)
    (tycC : PySem.W.typeIn K (.ref cC) = some (.type "type"))
    (sscC : PySem.W.subIn K (.ref cC) (.ref cC) = some true)
    (mbcC : PySem.W.mroIn K cC (.type "BaseException") = some true)
    : ∃ fd : FuncData, (∀ (s : Shared) (v : Value), BindsTo s fd ⟨[v], []⟩ [("script", v)]) ∧ ∀ base : Heap, K.In base → base.Ns mainGlobals mg → FnOk l.prog w K mg base (CX1 l.prog w) 11 fa fd ["script"] (spLaw K) := by
  have e := hfa.symm.trans (PySem.W.mg_of X G a30)
  cases e
  have T : Txt K mg aS aT := ⟨PySem.W.mg_none_of X G b1, PySem.W.mg_none_of X G b2, PySem.W.mg_none_of X G b3, PySem.W.mg_none_of X G b4, PySem.W.mg_none_of X G b5, PySem.W.mg_none_of X G b6, PySem.W.mg_none_of X G b7, PySem.W.mg_none_of X G b8, PySem.W.mg_none_of X G b9, PySem.W.mg_none_of X G b10, PySem.W.mg_none_of X G b11, PySem.W.mg_none_of X G b12, PySem.W.mg_none_of X G b13, PySem.W.mg_none_of X G b14, PySem.W.mg_none_of X G b15, PySem.W.mg_none_of X G b16, PySem.W.mg_of X G aaS, PySem.W.mg_of X G aaT, fun H => .inr ⟨_, _, _, laS, qaS, daS, zaS, vaS⟩, fun H => .inr ⟨_, _, _, laT, qaT, daT, zaT, vaT⟩⟩
  have F1 := fun_mk (st := s_shape) l1 c1 k1
  have T1 : FnAt K mg "shape" ["figure"] f1 _ := ⟨PySem.W.mg_of X G a1, k1, F1.binds (ps := ["figure"]) fun _ _ _ _ _ _ us hl => match us, hl with | [_], _ => rfl⟩
  have F2 := fun_mk (st := s_ten_to) l2 c2 k2
  have T2 : FnAt K mg "ten_to" ["power"] f2 _ := ⟨PySem.W.mg_of X G a2, k2, F2.binds (ps := ["power"]) fun _ _ _ _ _ _ us hl => match us, hl with | [_], _ => rfl⟩
  have F3 := fun_mk (st := s_worths) l3 c3 k3
  have T3 : FnAt K mg "worths" ["places"] f3 _ := ⟨PySem.W.mg_of X G a3, k3, F3.binds (ps := ["places"]) fun _ _ _ _ _ _ us hl => match us, hl with | [_], _ => rfl⟩
  have F4 := fun_mk (st := s_check_number) l4 c4 k4
  have T4 : FnAt K mg "check_number" ["number", "places"] f4 _ := ⟨PySem.W.mg_of X G a4, k4, F4.binds (ps := ["number", "places"]) fun _ _ _ _ _ _ us hl => match us, hl with | [_, _], _ => rfl⟩
  have F5 := fun_mk (st := s_figures_of) l5 c5 k5
  have T5 : FnAt K mg "figures_of" ["number", "places"] f5 _ := ⟨PySem.W.mg_of X G a5, k5, F5.binds (ps := ["number", "places"]) fun _ _ _ _ _ _ us hl => match us, hl with | [_, _], _ => rfl⟩
  have F6 := fun_mk (st := s_misfits) l6 c6 k6
  have T6 : FnAt K mg "misfits" ["showings"] f6 _ := ⟨PySem.W.mg_of X G a6, k6, F6.binds (ps := ["showings"]) fun _ _ _ _ _ _ us hl => match us, hl with | [_], _ => rfl⟩
  have F7 := fun_mk (st := s_fitting_marks) l7 c7 k7
  have T7 : FnAt K mg "fitting_marks" ["stroke", "missed"] f7 _ := ⟨PySem.W.mg_of X G a7, k7, F7.binds (ps := ["stroke", "missed"]) fun _ _ _ _ _ _ us hl => match us, hl with | [_, _], _ => rfl⟩
  have F8 := fun_mk (st := s_open_marks) l8 c8 k8
  have T8 : FnAt K mg "open_marks" ["showings"] f8 _ := ⟨PySem.W.mg_of X G a8, k8, F8.binds (ps := ["showings"]) fun _ _ _ _ _ _ us hl => match us, hl with | [_], _ => rfl⟩
  have F9 := fun_mk (st := s_fewest) l9 c9 k9
  have T9 : FnAt K mg "fewest" ["showings"] f9 _ := ⟨PySem.W.mg_of X G a9, k9, F9.binds (ps := ["showings"]) fun _ _ _ _ _ _ us hl => match us, hl with | [_], _ => rfl⟩
  have F10 := fun_mk (st := s_counted) l10 c10 k10
  have T10 : FnAt K mg "counted" ["start", "steps", "places"] f10 _ := ⟨PySem.W.mg_of X G a10, k10, F10.binds (ps := ["start", "steps", "places"]) fun _ _ _ _ _ _ us hl => match us, hl with | [_, _, _], _ => rfl⟩
  have F11 := fun_mk (st := s_showings_at) l11 c11 k11
  have T11 : FnAt K mg "showings_at" ["place", "shown_figures", "rows"] f11 _ := ⟨PySem.W.mg_of X G a11, k11, F11.binds (ps := ["place", "shown_figures", "rows"]) fun _ _ _ _ _ _ us hl => match us, hl with | [_, _, _], _ => rfl⟩
  have F12 := fun_mk (st := s_fewest_from) l12 c12 k12
  have T12 : FnAt K mg "fewest_from" ["start", "rows", "places"] f12 _ := ⟨PySem.W.mg_of X G a12, k12, F12.binds (ps := ["start", "rows", "places"]) fun _ _ _ _ _ _ us hl => match us, hl with | [_, _, _], _ => rfl⟩
  have F13 := fun_mk (st := s_fewest_by_start) l13 c13 k13
  have T13 : FnAt K mg "fewest_by_start" ["rows", "places"] f13 _ := ⟨PySem.W.mg_of X G a13, k13, F13.binds (ps := ["rows", "places"]) fun _ _ _ _ _ _ us hl => match us, hl with | [_, _], _ => rfl⟩
  have F14 := fun_mk (st := s_starts) l14 c14 k14
  have T14 : FnAt K mg "starts" ["rows", "places"] f14 _ := ⟨PySem.W.mg_of X G a14, k14, F14.binds (ps := ["rows", "places"]) fun _ _ _ _ _ _ us hl => match us, hl with | [_, _], _ => rfl⟩
  have F15 := fun_mk (st := s_least) l15 c15 k15
  have T15 : FnAt K mg "least" ["rows", "start"] f15 _ := ⟨PySem.W.mg_of X G a15, k15, F15.binds (ps := ["rows", "start"]) fun _ _ _ _ _ _ us hl => match us, hl with | [_, _], _ => rfl⟩
  have F16 := fun_mk (st := s_best) l16 c16 k16
  have T16 : FnAt K mg "best" ["rows", "places"] f16 _ := ⟨PySem.W.mg_of X G a16, k16, F16.binds (ps := ["rows", "places"]) fun _ _ _ _ _ _ us hl => match us, hl with | [_, _], _ => rfl⟩
  have F17 := fun_mk (st := s_l_cell_at) l17 c17 k17
  have T17 : FnAt K mg "_law_cell_at" ["script", "k"] f17 _ := ⟨PySem.W.mg_of X G a17, k17, F17.binds (ps := ["script", "k"]) fun _ _ _ _ _ _ us hl => match us, hl with | [_, _], _ => rfl⟩
  have F18 := fun_mk (st := s_l_pick) l18 c18 k18
  have T18 : FnAt K mg "_law_pick" ["script", "k"] f18 _ := ⟨PySem.W.mg_of X G a18, k18, F18.binds (ps := ["script", "k"]) fun _ _ _ _ _ _ us hl => match us, hl with | [_, _], _ => rfl⟩
  have F19 := fun_mk (st := s_l_mix) l19 c19 k19
  have T19 : FnAt K mg "_law_mix" ["cell", "k"] f19 _ := ⟨PySem.W.mg_of X G a19, k19, F19.binds (ps := ["cell", "k"]) fun _ _ _ _ _ _ us hl => match us, hl with | [_, _], _ => rfl⟩
  have F20 := fun_mk (st := s_l_place) l20 c20 k20
  have T20 : FnAt K mg "_law_place" ["cell"] f20 _ := ⟨PySem.W.mg_of X G a20, k20, F20.binds (ps := ["cell"]) fun _ _ _ _ _ _ us hl => match us, hl with | [_], _ => rfl⟩
  have F21 := fun_mk (st := s_l_panel) l21 c21 k21
  have T21 : FnAt K mg "_law_panel" ["script", "start", "places"] f21 _ := ⟨PySem.W.mg_of X G a21, k21, F21.binds (ps := ["script", "start", "places"]) fun _ _ _ _ _ _ us hl => match us, hl with | [_, _, _], _ => rfl⟩
  have F22 := fun_mk (st := s_l_has) l22 c22 k22
  have T22 : FnAt K mg "_law_has" ["figure", "stroke"] f22 _ := ⟨PySem.W.mg_of X G a22, k22, F22.binds (ps := ["figure", "stroke"]) fun _ _ _ _ _ _ us hl => match us, hl with | [_, _], _ => rfl⟩
  have F23 := fun_mk (st := s_l_lit) l23 c23 k23
  have T23 : FnAt K mg "_law_lit" ["mark", "has"] f23 _ := ⟨PySem.W.mg_of X G a23, k23, F23.binds (ps := ["mark", "has"]) fun _ _ _ _ _ _ us hl => match us, hl with | [_, _], _ => rfl⟩
  have F24 := fun_mk (st := s_l_seen) l24 c24 k24
  have T24 : FnAt K mg "_law_seen" ["figure", "place"] f24 _ := ⟨PySem.W.mg_of X G a24, k24, F24.binds (ps := ["figure", "place"]) fun _ _ _ _ _ _ us hl => match us, hl with | [_, _], _ => rfl⟩
  have F25 := fun_mk (st := s_l_figures) l25 c25 k25
  have T25 : FnAt K mg "_law_figures" ["number", "places"] f25 _ := ⟨PySem.W.mg_of X G a25, k25, F25.binds (ps := ["number", "places"]) fun _ _ _ _ _ _ us hl => match us, hl with | [_, _], _ => rfl⟩
  have F26 := fun_mk (st := s_l_open) l26 c26 k26
  have T26 : FnAt K mg "_law_open" ["showings"] f26 _ := ⟨PySem.W.mg_of X G a26, k26, F26.binds (ps := ["showings"]) fun _ _ _ _ _ _ us hl => match us, hl with | [_], _ => rfl⟩
  have F27 := fun_mk (st := s_l_rows) l27 c27 k27
  have T27 : FnAt K mg "_law_rows" ["script", "start", "panel", "first", "size"] f27 _ := ⟨PySem.W.mg_of X G a27, k27, F27.binds (ps := ["script", "start", "panel", "first", "size"]) fun _ _ _ _ _ _ us hl => match us, hl with | [_, _, _, _, _], _ => rfl⟩
  have F28 := fun_mk (st := s_l_price) l28 c28 k28
  have T28 : FnAt K mg "_law_price" ["rows", "first"] f28 _ := ⟨PySem.W.mg_of X G a28, k28, F28.binds (ps := ["rows", "first"]) fun _ _ _ _ _ _ us hl => match us, hl with | [_, _], _ => rfl⟩
  have F29 := fun_mk (st := s_l_three) l29 c29 k29
  have T29 : FnAt K mg "_law_three" ["script"] f29 _ := ⟨PySem.W.mg_of X G a29, k29, F29.binds (ps := ["script"]) fun _ _ _ _ _ _ us hl => match us, hl with | [_], _ => rfl⟩
  have F30 := fun_mk (st := s_law) l30 c30 k30
  refine ⟨PySem.W.fnOf "law" "law" (defArgs s_law) (defBody s_law) (defScope s_law) .none kV30 dc30 pm30 an30 cd30 ct30, fun s v => .of_eq rfl, fun base _ _ => ?_⟩
  have G1 := ok_shape (P := l.prog) (w := w) (mg := mg) (base := base) F1 T (ExcC.of qcF) (PySem.W.mg_of X G ncF)
  have G2 := ok_ten_to (P := l.prog) (w := w) (mg := mg) (base := base) F2 T
  have G3 := ok_worths (P := l.prog) (w := w) (mg := mg) (base := base) F3 T T2 G2
  have G4 := ok_check_number (P := l.prog) (w := w) (mg := mg) (base := base) F4 T (ExcC.of qcN) (PySem.W.mg_of X G ncN) T2 G2
  have G5 := ok_figures_of (P := l.prog) (w := w) (mg := mg) (base := base) F5 T T3 G3
  have G6 := ok_misfits (P := l.prog) (w := w) (mg := mg) (base := base) F6 T (PySem.W.mg_of X G gALL_LIT) T1 G1
  have G7 := ok_fitting_marks (P := l.prog) (w := w) (mg := mg) (base := base) F7 T (PySem.W.mg_of X G aaM) (fun H => .inr ⟨_, _, _, laM, qaM, daM, zaM, vaM⟩)
  have G8 := ok_open_marks (P := l.prog) (w := w) (mg := mg) (base := base) F8 T (ExcC.of qcC) (PySem.W.mg_of X G ncC) T6 G6 T7 G7
  have G9 := ok_fewest (P := l.prog) (w := w) (mg := mg) (base := base) F9 T T8 G8
  have G10 := ok_counted (P := l.prog) (w := w) (mg := mg) (base := base) F10 T T2 G2 T5 G5
  have G11 := ok_showings_at (P := l.prog) (w := w) (mg := mg) (base := base) F11 T
  have G12 := ok_fewest_from (P := l.prog) (w := w) (mg := mg) (base := base) F12 T T10 G10 T11 G11 T9 G9
  have G13 := ok_fewest_by_start (P := l.prog) (w := w) (mg := mg) (base := base) F13 T (PySem.W.mg_of X G ncC) ⟨tycC, mbcC⟩ sscC T2 G2 T12 G12
  have G14 := ok_starts (P := l.prog) (w := w) (mg := mg) (base := base) F14 T T13 G13
  have G15 := ok_least (P := l.prog) (w := w) (mg := mg) (base := base) F15 T T4 G4 T12 G12
  have GS15 := G15.imp (sp' := sp_least K) fun _ _ _ _ h => least_imp h
  have G16 := ok_best (P := l.prog) (w := w) (mg := mg) (base := base) F16 T T13 G13
  have G17 := ok_l_cell_at (P := l.prog) (w := w) (mg := mg) (base := base) F17 T
  have G18 := ok_l_pick (P := l.prog) (w := w) (mg := mg) (base := base) F18 T T17 G17
  have G19 := ok_l_mix (P := l.prog) (w := w) (mg := mg) (base := base) F19 T
  have G20 := ok_l_place (P := l.prog) (w := w) (mg := mg) (base := base) F20 T T19 G19
  have G21 := ok_l_panel (P := l.prog) (w := w) (mg := mg) (base := base) F21 T T18 G18 T20 G20
  have G22 := ok_l_has (P := l.prog) (w := w) (mg := mg) (base := base) F22 T
  have G23 := ok_l_lit (P := l.prog) (w := w) (mg := mg) (base := base) F23 T
  have G24 := ok_l_seen (P := l.prog) (w := w) (mg := mg) (base := base) F24 T T23 G23 T22 G22
  have G25 := ok_l_figures (P := l.prog) (w := w) (mg := mg) (base := base) F25 T
  have G26 := ok_l_open (P := l.prog) (w := w) (mg := mg) (base := base) F26 T T23 G23 T22 G22
  have G27 := ok_l_rows (P := l.prog) (w := w) (mg := mg) (base := base) F27 T T25 G25 T24 G24
  have G28 := ok_l_price (P := l.prog) (w := w) (mg := mg) (base := base) F28 T T25 G25 T26 G26
  have G29 := ok_l_three (P := l.prog) (w := w) (mg := mg) (base := base) F29 T T17 G17 T21 G21 T27 G27 T28 G28 T14 G14 T16 G16 T15 GS15
  exact ok_law F30 T T17 G17 T21 G21 T27 G27 T29 G29 T14 G14 T16 G16 T15 GS15
theorem walk {l : PySem.W.OpenLaw} {q : Program} {loose : List Str} {XP : (Str → Option Value) → Heap → Prop} {YP : World → Heap → Prop} {d : DefRec} {K : Params → PySem.W.Frag} (hn : l.most = some 63) (hdf : d.params.defaults = [])
    (hY : ∀ (w : World) (h : Heap), YP w h → (K w.params).In h)
    (F : ∀ (w : World) (mg : Str → Option Value) (fa : Addr) (h : Heap), (K w.params).In h → h.Ns mainGlobals mg → mg d.name = some (.ref fa) →
      ∃ fd : FuncData, (∀ (s : Shared) (u : Value), BindsTo s fd ⟨[u], []⟩ [("script", u)]) ∧ ∀ base : Heap, (K w.params).In base → base.Ns mainGlobals mg → FnOk l.prog w (K w.params) mg base (CX1 l.prog w) 11 fa fd ["script"] (spLaw (K w.params))) :
    PySem.W.WalkO q loose XP YP l.row.toRowW d [] (fun f vs => PySem.call f vs) :=
  L2.walk_of (n := 63) (k := 11) (x := "script") (CX := fun w => CX1 l.prog w) (sp := fun w => spLaw (K w.params)) hn (by decide) hdf ⟨rfl, by decide, by decide⟩ hY F (fun _ _ a ns hl _ hS => ⟨a, ns, rfl, hS, hl, fun _ => rfl⟩) fun _ _ _ _ _ ⟨_, _, _, _, _, _, _, _, _, _, _, _, _, z⟩ => z
end Lit
open PySem PySem.W PyProof.Rows
set_option maxRecDepth 100000 in
set_option maxHeartbeats 0 in
theorem PySem.Challenge.cw_litfigures_k08_whole_counters_holds : PySem.Challenge.rw_litfigures_k08_whole_counters.Holds := by
  w_on; o_law; k_head; (case hw => w_witness2)
  k_fill
  refine Lit.walk (l := PySem.Challenge.rw_litfigures_k08_whole_counters) rfl rfl (fun w h Y => PySem.W.kIn_of Y) ?F
  case F =>
    intro w mg fa h KX G hmg
    refine' Lit.all_mk KX G hmg ?a1 ?l1 ?c1 ?k1 ?a2 ?l2 ?c2 ?k2 ?a3 ?l3 ?c3 ?k3 ?a4 ?l4 ?c4 ?k4 ?a5 ?l5 ?c5 ?k5 ?a6 ?l6 ?c6 ?k6 ?a7 ?l7 ?c7 ?k7 ?a8 ?l8 ?c8 ?k8 ?a9 ?l9 ?c9 ?k9 ?a10 ?l10 ?c10 ?k10 ?a11 ?l11 ?c11 ?k11 ?a12 ?l12 ?c12 ?k12 ?a13 ?l13 ?c13 ?k13 ?a14 ?l14 ?c14 ?k14 ?a15 ?l15 ?c15 ?k15 ?a16 ?l16 ?c16 ?k16 ?a17 ?l17 ?c17 ?k17 ?a18 ?l18 ?c18 ?k18 ?a19 ?l19 ?c19 ?k19 ?a20 ?l20 ?c20 ?k20 ?a21 ?l21 ?c21 ?k21 ?a22 ?l22 ?c22 ?k22 ?a23 ?l23 ?c23 ?k23 ?a24 ?l24 ?c24 ?k24 ?a25 ?l25 ?c25 ?k25 ?a26 ?l26 ?c26 ?k26 ?a27 ?l27 ?c27 ?k27 ?a28 ?l28 ?c28 ?k28 ?a29 ?l29 ?c29 ?k29 ?a30 ?l30 ?c30 ?k30 ?aaS ?laS ?qaS ?daS ?zaS ?vaS ?aaT ?laT ?qaT ?daT ?zaT ?vaT ?aaM ?laM ?qaM ?daM ?zaM ?vaM ?gALL_LIT ?b1 ?b2 ?b3 ?b4 ?b5 ?b6 ?b7 ?b8 ?b9 ?b10 ?b11 ?b12 ?b13 ?b14 ?b15 ?b16 ?ncF ?qcF ?ncN ?qcN ?ncC ?qcC ?tycC ?sscC ?mbcC
    (case a1 => k_is)
    (case l1 => k_is)
    (case c1 => k_is)
    (case k1 => k_is)
    (case a2 => k_is)
    (case l2 => k_is)
    (case c2 => k_is)
    (case k2 => k_is)
    (case a3 => k_is)
    (case l3 => k_is)
    (case c3 => k_is)
    (case k3 => k_is)
    (case a4 => k_is)
    (case l4 => k_is)
    (case c4 => k_is)
    (case k4 => k_is)
    (case a5 => k_is)
    (case l5 => k_is)
    (case c5 => k_is)
    (case k5 => k_is)
    (case a6 => k_is)
    (case l6 => k_is)
    (case c6 => k_is)
    (case k6 => k_is)
    (case a7 => k_is)
    (case l7 => k_is)
    (case c7 => k_is)
    (case k7 => k_is)
    (case a8 => k_is)
    (case l8 => k_is)
    (case c8 => k_is)
    (case k8 => k_is)
    (case a9 => k_is)
    (case l9 => k_is)
    (case c9 => k_is)
    (case k9 => k_is)
    (case a10 => k_is)
    (case l10 => k_is)
    (case c10 => k_is)
    (case k10 => k_is)
    (case a11 => k_is)
    (case l11 => k_is)
    (case c11 => k_is)
    (case k11 => k_is)
    (case a12 => k_is)
    (case l12 => k_is)
    (case c12 => k_is)
    (case k12 => k_is)
    (case a13 => k_is)
    (case l13 => k_is)
    (case c13 => k_is)
    (case k13 => k_is)
    (case a14 => k_is)
    (case l14 => k_is)
    (case c14 => k_is)
    (case k14 => k_is)
    (case a15 => k_is)
    (case l15 => k_is)
    (case c15 => k_is)
    (case k15 => k_is)
    (case a16 => k_is)
    (case l16 => k_is)
    (case c16 => k_is)
    (case k16 => k_is)
    (case a17 => k_is)
    (case l17 => k_is)
    (case c17 => k_is)
    (case k17 => k_is)
    (case a18 => k_is)
    (case l18 => k_is)
    (case c18 => k_is)
    (case k18 => k_is)
    (case a19 => k_is)
    (case l19 => k_is)
    (case c19 => k_is)
    (case k19 => k_is)
    (case a20 => k_is)
    (case l20 => k_is)
    (case c20 => k_is)
    (case k20 => k_is)
    (case a21 => k_is)
    (case l21 => k_is)
    (case c21 => k_is)
    (case k21 => k_is)
    (case a22 => k_is)
    (case l22 => k_is)
    (case c22 => k_is)
    (case k22 => k_is)
    (case a23 => k_is)
    (case l23 => k_is)
    (case c23 => k_is)
    (case k23 => k_is)
    (case a24 => k_is)
    (case l24 => k_is)
    (case c24 => k_is)
    (case k24 => k_is)
    (case a25 => k_is)
    (case l25 => k_is)
    (case c25 => k_is)
    (case k25 => k_is)
    (case a26 => k_is)
    (case l26 => k_is)
    (case c26 => k_is)
    (case k26 => k_is)
    (case a27 => k_is)
    (case l27 => k_is)
    (case c27 => k_is)
    (case k27 => k_is)
    (case a28 => k_is)
    (case l28 => k_is)
    (case c28 => k_is)
    (case k28 => k_is)
    (case a29 => k_is)
    (case l29 => k_is)
    (case c29 => k_is)
    (case k29 => k_is)
    (case a30 => k_is)
    (case l30 => k_is)
    (case c30 => k_is)
    (case k30 => k_is)
    (case aaS => k_is)
    (case laS => k_is)
    (case qaS => rfl)
    (case daS => rfl)
    (case zaS => decide)
    (case vaS => exact Lit.vals_shapes)
    (case aaT => k_is)
    (case laT => k_is)
    (case qaT => rfl)
    (case daT => rfl)
    (case zaT => decide)
    (case vaT => exact Lit.vals_strokes)
    (case aaM => k_is)
    (case laM => k_is)
    (case qaM => rfl)
    (case daM => rfl)
    (case zaM => decide)
    (case vaM => exact Lit.vals_marks)
    (case gALL_LIT => k_is)
    (case b1 => k_is)
    (case b2 => k_is)
    (case b3 => k_is)
    (case b4 => k_is)
    (case b5 => k_is)
    (case b6 => k_is)
    (case b7 => k_is)
    (case b8 => k_is)
    (case b9 => k_is)
    (case b10 => k_is)
    (case b11 => k_is)
    (case b12 => k_is)
    (case b13 => k_is)
    (case b14 => k_is)
    (case b15 => k_is)
    (case b16 => k_is)
    (case ncF => k_is)
    (case qcF => k_exc)
    (case ncN => k_is)
    (case qcN => k_exc)
    (case ncC => k_is)
    (case qcC => k_exc)
    (case tycC => k_is)
    (case sscC => k_is)
    (case mbcC => k_is)
