import PyProof.Rows.All
import Wide.All
import OpenK.AllK
import Wide.FinOn
import Lean
import PyProof.EqAt
import PyProof.EqKinds
import PyProof.TupleCall
import PySem.SetOps
import PyProof.SetKind
import PyProof.TupleKey
import PyProof.IsRules
import PyProof.Rows.SetFrom
import PySem.Challenge.RW_litfigures_k13_read



set_option Elab.async false
set_option linter.all false
set_option maxRecDepth 100000
/-! THE HAND LAYER, for ints, bools, texts, own classes, LISTS and tuples (index, slices, in, append, pop ..), calls, loops. Paste it whole ahead of your own text; what your proof does not reach may be deleted. -/
namespace L2
open PySem PySem.Spec PyProof.Rows

/-- a key: an int or a str -/
abbrev Key := Sum Int Str
def keyIs : Key → Value → Bool
  | .inl k, v => Value.isInt k v
  | .inr x, v => Value.isStrOf x v
def keyH (w : World) : Key → Int
  | .inl k => hashInt k
  | .inr x => hashStr w x
theorem keyIs_shape : ∀ {k : Key} {v : Value}, keyIs k v = true → (∃ i t, k = Sum.inl i ∧ v = Value.int i t) ∨ (∃ x t, k = Sum.inr x ∧ v = Value.str x t)
  | .inl i, v, h => by
    obtain ⟨t, e⟩ := Value.isInt_shape (k := i) (v := v) h
    exact .inl ⟨i, t, rfl, e⟩
  | .inr x, v, h => by
    obtain ⟨t, e⟩ := Value.isStrOf_shape (x := x) (v := v) h
    exact .inr ⟨x, t, rfl, e⟩
theorem keyIs_int (i : Int) (t : Tok) : keyIs (.inl i) (.int i t) = true := by simp [keyIs, Value.isInt]
theorem keyIs_str (x : Str) (t : Tok) : keyIs (.inr x) (.str x t) = true := by simp [keyIs, Value.isStrOf]
theorem key_ll (a b : Int) : decide ((Sum.inl a : Key) = Sum.inl b) = (a == b) := by
  by_cases e : a = b
  · subst e; simp
  · have h : ¬ (Sum.inl a : Key) = Sum.inl b := fun q => e (Sum.inl.inj q)
    rw [decide_eq_false h]
    exact (beq_eq_false_iff_ne.mpr e).symm
theorem key_rr (a b : Str) : decide ((Sum.inr a : Key) = Sum.inr b) = decide (a = b) := by
  by_cases e : a = b
  · subst e; simp
  · have h : ¬ (Sum.inr a : Key) = Sum.inr b := fun q => e (Sum.inr.inj q)
    rw [decide_eq_false h, decide_eq_false e]
theorem key_lr (a : Int) (b : Str) : decide ((Sum.inl a : Key) = Sum.inr b) = false := decide_eq_false (fun q => nomatch q)
theorem key_rl (a : Str) (b : Int) : decide ((Sum.inr a : Key) = Sum.inl b) = false := decide_eq_false (fun q => nomatch q)

def mixKind (prog : Program) (w : World) : PySem.KeyKind prog w Key where
  is := keyIs
  hash := keyH w
  inj := fun v a b ha hb => by
    rcases keyIs_shape ha with ⟨i, t, rfl, rfl⟩ | ⟨x, t, rfl, rfl⟩
    · rcases keyIs_shape hb with ⟨j, u, rfl, e⟩ | ⟨y, u, rfl, e⟩
      · injection e with e1 _; rw [e1]
      · exact nomatch e
    · rcases keyIs_shape hb with ⟨j, u, rfl, e⟩ | ⟨y, u, rfl, e⟩
      · exact nomatch e
      · injection e with e1 _; rw [e1]
  byValue := fun k v h => by
    rcases keyIs_shape h with ⟨i, t, rfl, rfl⟩ | ⟨x, t, rfl, rfl⟩ <;> rfl
  pyHash := fun hv h => by
    rcases keyIs_shape hv with ⟨i, t, rfl, rfl⟩ | ⟨x, t, rfl, rfl⟩
    · exact wpAny_pyHash_int h
    · exact wpAny_pyHash_str h
  eqBool := fun hu hv h => by
    rcases keyIs_shape hu with ⟨i, t, rfl, rfl⟩ | ⟨x, t, rfl, rfl⟩
    · rcases keyIs_shape hv with ⟨j, u, rfl, rfl⟩ | ⟨y, u, rfl, rfl⟩
      · rw [key_ll] at h; exact wpAny_eqBool_int h
      · rw [key_lr] at h; exact SeqAt.EqAt.int_str i t y u _ _ _ _ h
    · rcases keyIs_shape hv with ⟨j, u, rfl, rfl⟩ | ⟨y, u, rfl, rfl⟩
      · rw [key_rl] at h; exact SeqAt.EqAt.str_int x t j u _ _ _ _ h
      · rw [key_rr] at h; exact wpAny_eqBool_str h
  «strs» := fun k x t v h => by
    rcases keyIs_shape h with ⟨i, u, rfl, e⟩ | ⟨y, u, rfl, e⟩
    · exact nomatch e
    · injection e with e1 _
      subst e1
      cases v <;> rfl

theorem mixKind_is (prog : Program) (w : World) (k : Key) (v : Value) : (mixKind prog w).is k v = keyIs k v := rfl
theorem mixKind_int (prog : Program) (w : World) (i : Int) (t : Tok) : (mixKind prog w).is (.inl i) (.int i t) = true := keyIs_int i t
theorem mixKind_str (prog : Program) (w : World) (x : Str) (t : Tok) : (mixKind prog w).is (.inr x) (.str x t) = true := keyIs_str x t
end L2

namespace L2
open PySem PySem.Spec PyProof.Rows

/-- a value, without the heap -/
inductive V where
  | non | bl (b : Bool) | int (i : Int) | str (x : Str) | byt (b : Array UInt8) | flt (b : UInt64) | ref (a : Addr) | ty (n : String)
  deriving DecidableEq

def RelV : V → Value → Prop
  | .non, u => u = Value.none
  | .bl b, u => u = Value.bool b
  | .int i, u => ∃ t, u = Value.int i t
  | .str x, u => ∃ t, u = Value.str x t
  | .byt b, u => ∃ t, u = Value.bytes b t
  | .flt b, u => ∃ t, u = Value.float b t
  | .ref a, u => u = Value.ref a
  | .ty n, u => u = Value.type n

abbrev Vals : List V → List Value → Prop := Paired RelV
theorem Vals.length {xs : List V} {us : List Value} (r : Vals xs us) : xs.length = us.length := Paired.length r
theorem Vals.get : ∀ {xs : List V} {us : List Value} {i : Nat} {x : V}, Vals xs us → xs[i]? = some x → ∃ u, us[i]? = some u ∧ RelV x u
  | _, _, _, _, .nil, e => by simp at e
  | _, _, 0, _, .cons r _, e => by simp at e; subst e; exact ⟨_, rfl, r⟩
  | _, _, i + 1, x, .cons _ t, e => by
    obtain ⟨u, h1, h2⟩ := Vals.get (i := i) (x := x) t (by simpa using e)
    exact ⟨u, by simpa using h1, h2⟩
theorem Vals.set {x : V} {u : Value} (r : RelV x u) : ∀ {xs : List V} {us : List Value} (i : Nat), Vals xs us → Vals (xs.set i x) (us.set i u)
  | _, _, _, .nil => .nil
  | _, _, 0, .cons _ t => .cons r t
  | _, _, i + 1, .cons q t => .cons q (Vals.set r i t)
theorem Vals.append : ∀ {xs ys : List V} {us ws : List Value}, Vals xs us → Vals ys ws → Vals (xs ++ ys) (us ++ ws)
  | _, _, _, _, .nil, s => s
  | _, _, _, _, .cons r t, s => .cons r (Vals.append t s)
theorem Vals.take : ∀ {xs : List V} {us : List Value} (n : Nat), Vals xs us → Vals (xs.take n) (us.take n)
  | _, _, 0, _ => .nil
  | _, _, _ + 1, .nil => .nil
  | _, _, n + 1, .cons r t => .cons r (Vals.take n t)
theorem Vals.drop : ∀ {xs : List V} {us : List Value} (n : Nat), Vals xs us → Vals (xs.drop n) (us.drop n)
  | _, _, 0, r => r
  | _, _, _ + 1, .nil => .nil
  | _, _, n + 1, .cons _ t => Vals.drop n t
theorem Vals.none_of : ∀ {xs : List V} {us : List Value} {i : Nat}, Vals xs us → xs[i]? = none → us[i]? = none := fun {xs us i} r e => by
  have h1 := r.length
  have h2 : xs.length ≤ i := List.getElem?_eq_none_iff.mp e
  exact List.getElem?_eq_none_iff.mpr (by omega)

def RelO : Option V → Option Value → Prop
  | some v, some u => RelV v u
  | none, none => True
  | _, _ => False
def KV {κ : Type} : List (κ × V) → List (κ × Value) → Prop := Paired fun (p : κ × V) (q : κ × Value) => p.1 = q.1 ∧ RelV p.2 q.2

/-- a key of a dict (00_mix): an int or a text -/
def kV : Key → V
  | .inl i => .int i
  | .inr x => .str x

/-- what stands at a tracked address -/
inductive HO where
  /-- a list -/
  | lst (xs : List V)
  /-- a tuple (never changes) -/
  | tup (xs : List V)
  /-- a dict whose keys are ints and texts; one whose keys are tuples of ints and texts (the empty one is both) -/
  | dK (kvs : List (Key × V)) | dT (kvs : List (List Key × V))
  /-- a set of ints: its members, its size -/
  | set (S : Int → Bool) (n : Nat)
  /-- an instance of the class at C, its dict at dx, its attributes -/
  | ins (C dx : Addr) (fs : List (Str × V))
  /-- the dict of the instance at x -/
  | own (x : Addr)
  /-- the dict of an exception -/
  | xd (fs : List (Str × V))
  /-- a bound method, f of x -/
  | met (f x : Addr)
  /-- a range object lo, lo + 1, .. below hi -/
  | rng (lo hi : Int)
  /-- a thing that is known to the object (the script; a dict while a loop walks it): read, never written while it is so -/
  | frz (o : Obj) (u : HO)
  /-- a code object's table -/
  | tbl (ps : Array Value)
  /-- any other thing, by what is true of its one object (a def of one's own: SetO a S n := HO.ext fun h => ..) -/
  | ext (φ : Heap → Prop)

abbrev Hp := Addr → Option HO
def upd (H : Hp) (a : Addr) (o : HO) : Hp := fun b => if b = a then some o else H b
theorem upd_same {H : Hp} {a : Addr} {o : HO} : upd H a o a = some o := by unfold upd; rw [if_pos rfl]
theorem upd_ne {H : Hp} {a b : Addr} {o : HO} (h : b ≠ a) : upd H a o b = H b := by unfold upd; rw [if_neg h]
theorem upd_upd {H : Hp} {a : Addr} {o u : HO} : upd (upd H a o) a u = upd H a u := by
  funext b; unfold upd; split <;> rfl
/-- two objects of different content stand apart -/
theorem ne_of {H : Hp} {a b : Addr} {o u : HO} (h : H a = some o) (h' : H b = some u) (d : o ≠ u) : a ≠ b := by
  intro e; subst e; rw [h] at h'; exact d (Option.some.inj h')
theorem ne_of_none {H : Hp} {a b : Addr} {o : HO} (h : H a = some o) (h' : H b = none) : a ≠ b := by
  intro e; subst e; rw [h] at h'; cases h'

section
variable (P : Program) (w : World)
def ObjOk (H : Hp) (h : Heap) (a : Addr) : HO → Prop
  | .lst xs => xs.length ≤ sizeLine ∧ ∃ (its : List Value) (n : Nat), Vals xs its ∧ h.get? a = some { cls := .type "list", data := .seq its.toArray n }
  | .tup xs => xs.length ≤ sizeLine ∧ ∃ its : List Value, Vals xs its ∧ IsTup h a its.toArray
  | .dK kvs => kvs.length ≤ sizeLine ∧ (a == sysModules) = false ∧ ∃ vs, KV kvs vs ∧ h.DictOf (mixKind P w) a vs
  | .dT kvs => kvs.length ≤ sizeLine ∧ (a == sysModules) = false ∧ ∃ xs : List (List Key × Addr × Value),
      Paired (fun (p : List Key × V) (q : List Key × Addr × Value) => p.1 = q.1 ∧ H q.2.1 = some (.tup (p.1.map kV)) ∧ RelV p.2 q.2.2) kvs xs ∧
      ∃ o es ep, h.get? a = some o ∧ o.ExactDict ∧ o.data = .dict es ep ∧ es.toList = xs.map (entryOfKey (tupleKind (mixKind P w))) ∧ (xs.map (·.1)).Nodup
  | .set S n => h.SetOf (intKind P w) a S n
  | .ins C dx fs => H dx = some (.own a) ∧ fs.length ≤ 1000 ∧ dx ≠ a ∧ h.get? a = some (PySem.W.instObj C dx) ∧
      ∃ mA, h.Ns1 dx mA ∧ (∀ f, RelO (fs.lookup f) (mA f)) ∧ PySem.Within mA (fs.map (·.1))
  | .own _ => ∃ o, h.get? a = some o
  | .xd fs => ∃ mA, h.Ns1 a mA ∧ ∀ f, RelO (fs.lookup f) (mA f)
  | .rng lo hi => ∃ t u v, h.get? a = some { cls := .type "range", data := .fields #[.int lo t, .int hi u, .int 1 v] }
  | .frz o u => h.get? a = some o ∧ ObjOk H h a u
  | .tbl ps => h.get? a = some { cls := .none, data := .fields ps }
  | .met f x => h.get? a = some (PySem.W.methodObj (.ref f) (.ref x))
  | .ext φ => φ h ∧ (∃ o, h.get? a = some o) ∧ ∀ h1 h2 : Heap, φ h1 → (∀ o, h1.get? a = some o → h2.get? a = some o) → φ h2
/-- the abstract heap is held -/
def HOk (H : Hp) (h : Heap) : Prop := ∀ a o, H a = some o → ObjOk P w H h a o
end

section
variable {P : Program} {w : World} {H H' : Hp} {h h' : Heap} {a : Addr} {o : HO}
theorem ObjOk.lt (x : ObjOk P w H h a o) : a < h.objs.size := by
  cases o with
  | lst xs => obtain ⟨_, _, _, _, e⟩ := x; exact Heap.lt_size e
  | tup xs => obtain ⟨_, _, _, p⟩ := x; exact p.lt
  | dK kvs => obtain ⟨_, _, _, _, o, _, _, e, _⟩ := x; exact Heap.lt_size e
  | dT kvs => obtain ⟨_, _, _, _, o, _, _, e, _⟩ := x; exact Heap.lt_size e
  | set S n => obtain ⟨o, _, _, _, e, _⟩ := x; exact Heap.lt_size e
  | ins C dx fs => obtain ⟨_, _, _, e, _⟩ := x; exact Heap.lt_size e
  | own y => obtain ⟨_, e⟩ := x; exact Heap.lt_size e
  | xd fs => obtain ⟨_, ⟨_, _, _, e, _⟩, _⟩ := x; exact Heap.lt_size e
  | rng lo hi => obtain ⟨_, _, _, e⟩ := x; exact Heap.lt_size e
  | frz ob u => obtain ⟨e, _⟩ := x; exact Heap.lt_size e
  | tbl ps => exact Heap.lt_size (show h.get? a = some _ from x)
  | met f y => exact Heap.lt_size (show h.get? a = some _ from x)
  | ext φ => obtain ⟨_, ⟨_, e⟩, _⟩ := x; exact Heap.lt_size e
theorem Paired.mapP {α β : Type} {F G : α → β → Prop} : ∀ {l₁ : List α} {l₂ : List β}, Paired F l₁ l₂ → (∀ a b, F a b → G a b) → Paired G l₁ l₂
  | _, _, .nil, _ => .nil
  | _, _, .cons r t, f => .cons (f _ _ r) (Paired.mapP t f)
theorem Paired.imp' {α β : Type} {F G : α → β → Prop} (f : ∀ a b, F a b → G a b) {l₁ : List α} {l₂ : List β} (r : Paired F l₁ l₂) : Paired G l₁ l₂ := Paired.mapP r f
/-- what an object's description leans on: its own object, its own dict, the tuples -/
theorem ObjOk.stay (x : ObjOk P w H h a o) (k : ∀ b u, (b = a ∨ H b = some (.own a)) → h.get? b = some u → h'.get? b = some u)
    (ho : ∀ b, H b = some (.own a) → H' b = some (.own a)) (ht : ∀ b xs, H b = some (.tup xs) → H' b = some (.tup xs)) : ObjOk P w H' h' a o := by
  induction o with
  | lst xs => obtain ⟨z, its, n, r, e⟩ := x; exact ⟨z, its, n, r, k _ _ (.inl rfl) e⟩
  | tup xs => obtain ⟨z, its, r, ob, e, c⟩ := x; exact ⟨z, its, r, ob, k _ _ (.inl rfl) e, c⟩
  | dK kvs => obtain ⟨z, y, vs, r, ob, es, ep, e, c⟩ := x; exact ⟨z, y, vs, r, ob, es, ep, k _ _ (.inl rfl) e, c⟩
  | dT kvs =>
    obtain ⟨z, y, xs, r, ob, es, ep, e, c⟩ := x
    exact ⟨z, y, xs, Paired.mapP r fun p q z => ⟨z.1, ht _ _ z.2.1, z.2.2⟩, ob, es, ep, k _ _ (.inl rfl) e, c⟩
  | set S n => obtain ⟨ob, es, ep, t, e, c⟩ := x; exact ⟨ob, es, ep, t, k _ _ (.inl rfl) e, c⟩
  | ins C dx fs =>
    obtain ⟨d, z, ne, e, mA, ⟨od, es, ep, e2, c⟩, r⟩ := x
    exact ⟨ho _ d, z, ne, k _ _ (.inl rfl) e, mA, ⟨od, es, ep, k _ _ (.inr d) e2, c⟩, r⟩
  | own y => obtain ⟨ob, e⟩ := x; exact ⟨ob, k _ _ (.inl rfl) e⟩
  | xd fs => obtain ⟨mA, ⟨od, es, ep, e, c⟩, r⟩ := x; exact ⟨mA, ⟨od, es, ep, k _ _ (.inl rfl) e, c⟩, r⟩
  | rng lo hi => obtain ⟨t, u, v, e⟩ := x; exact ⟨t, u, v, k _ _ (.inl rfl) e⟩
  | frz ob u ih => obtain ⟨e, q⟩ := x; exact ⟨k _ _ (.inl rfl) e, ih q⟩
  | tbl ps =>
    have e : h.get? a = some { cls := .none, data := .fields ps } := x
    show h'.get? a = some { cls := .none, data := .fields ps }
    exact k a _ (.inl rfl) e
  | met f y =>
    have e : h.get? a = some (PySem.W.methodObj (.ref f) (.ref y)) := x
    show h'.get? a = some (PySem.W.methodObj (.ref f) (.ref y))
    exact k a _ (.inl rfl) e
  | ext φ => obtain ⟨p, ⟨o, e⟩, st⟩ := x; exact ⟨st _ _ p fun o q => k _ _ (.inl rfl) q, ⟨o, k _ _ (.inl rfl) e⟩, st⟩
theorem HOk.lt (x : HOk P w H h) (e : H a = some o) : a < h.objs.size := (x a o e).lt
theorem HOk.fresh (x : HOk P w H h) (e : h.objs.size ≤ a) : H a = none := by
  cases q : H a with
  | none => rfl
  | some u => exact absurd (Nat.lt_of_lt_of_le (x.lt q) e) (Nat.lt_irrefl _)
/-- every object of the heap is kept -/
theorem HOk.kept (x : HOk P w H h) (k : ∀ b u, h.get? b = some u → h'.get? b = some u) : HOk P w H h' := fun a o e =>
  (x a o e).stay (fun b u _ q => k b u q) (fun _ q => q) fun _ _ q => q
/-- a new object is laid and tracked -/
theorem HOk.laid (x : HOk P w H h) (k : ∀ b u, h.get? b = some u → h'.get? b = some u) (hp : h.objs.size ≤ a) (new : ObjOk P w (upd H a o) h' a o) : HOk P w (upd H a o) h' := fun b u e => by
  have hn := x.fresh hp
  by_cases hb : b = a
  · subst hb; rw [upd_same] at e; cases e; exact new
  · rw [upd_ne hb] at e
    exact (x b u e).stay (fun c v _ q => k c v q) (fun c q => by rw [upd_ne (ne_of_none q hn)]; exact q) fun c xs q => by rw [upd_ne (ne_of_none q hn)]; exact q
end

/-- what may be read as u: it is u, or a known u -/
def Rd (H : Hp) (a : Addr) (u : HO) : Prop := H a = some u ∨ ∃ o, H a = some (.frz o u)
theorem Rd.of {H : Hp} {a : Addr} {u : HO} (h : H a = some u) : Rd H a u := .inl h
theorem Rd.ok {P : Program} {w : World} {H : Hp} {h : Heap} {a : Addr} {u : HO} (r : Rd H a u) (x : HOk P w H h) : ObjOk P w H h a u := by
  rcases r with r | ⟨o, r⟩
  · exact x a u r
  · obtain ⟨_, q⟩ := x a _ r
    exact q
/-- what may be written -/
def Mut : Option HO → Prop
  | some (.lst _) => True
  | some (.dK _) => True
  | some (.dT _) => True
  | some (.set _ _) => True
  | some (.ins _ _ _) => True
  | some (.ext _) => True
  | _ => False
section
variable {P : Program} {w : World} {H : Hp} {h h' : Heap} {x e : Addr} {o' : HO}
/-- the object at e is changed: x itself, or the dict of the instance x -/
theorem HOk.write (ok : HOk P w H h) (mu : Mut (H x)) (he : e = x ∨ H e = some (.own x)) (k : ∀ b u, b ≠ e → h.get? b = some u → h'.get? b = some u) (heo : ∃ u, h'.get? e = some u)
    (new : ObjOk P w (upd H x o') h' x o') : HOk P w (upd H x o') h' := fun b u q => by
  have nown : ∀ c y, H c = some (.own y) → c ≠ x := fun c y r z => by subst z; rw [r] at mu; exact mu
  have ntup : ∀ c xs, H c = some (.tup xs) → c ≠ x := fun c xs r z => by subst z; rw [r] at mu; exact mu
  by_cases hb : b = x
  · subst hb; rw [upd_same] at q; cases q; exact new
  · rw [upd_ne hb] at q
    by_cases hbe : b = e
    · have q' : H b = some (.own x) := by
        rcases he with z | z
        · exact absurd (hbe.trans z) hb
        · rw [hbe]; exact z
      rw [q] at q'; cases q'
      obtain ⟨v, hv⟩ := heo
      exact ⟨v, by rw [hbe]; exact hv⟩
    · refine (ok b u q).stay (fun c v hc r => k c v ?_ r) (fun c r => by rw [upd_ne (nown c b r)]; exact r) fun c xs r => by rw [upd_ne (ntup c xs r)]; exact r
      rcases hc with rfl | hc
      · exact hbe
      · rintro rfl
        rcases he with z | z
        · exact nown c b hc z
        · rw [hc] at z; cases z; exact hb rfl
end

/-! ### kept unless tracked; of the frames at fs (the callers') the slots may change (an exception that passes writes there); of the records at ex (iterators) nothing is said -/
structure Un (fs ex : List Addr) (H H' : Hp) (h h' : Heap) : Prop where
  keep : ∀ b o, h.get? b = some o → H b = none → b ∉ fs → b ∉ ex → h'.get? b = some o
  slot : ∀ b o, h.get? b = some o → H b = none → b ∈ fs → b ∉ ex → ∃ sl, h'.get? b = some { o with slots := sl }
  free : ∀ b o, h.get? b = some o → H b = none → b ∉ ex → H' b = none
  there : ∀ b o, h.get? b = some o → b ∉ ex → ∃ o', h'.get? b = some o'
  tups : ∀ b xs, H b = some (.tup xs) → H' b = some (.tup xs)
  frzs : ∀ b o u, H b = some (.frz o u) → H' b = some (.frz o u)
  tbls : ∀ b ps, H b = some (.tbl ps) → ∃ more, H' b = some (.tbl (ps ++ more))
section
variable {fs fs' ex ex' : List Addr} {H H1 H2 : Hp} {h h1 h2 h' : Heap} {a x e : Addr} {o : HO}
theorem Un.any (u : Un fs ex H H1 h h1) {b : Addr} {ob : Obj} (q : h.get? b = some ob) (n : H b = none) (hx : b ∉ ex) : ∃ sl, h1.get? b = some { ob with slots := sl } := by
  by_cases hb : b ∈ fs
  · exact u.slot b ob q n hb hx
  · exact ⟨ob.slots, u.keep b ob q n hb hx⟩
theorem Un.trans (a : Un fs ex H H1 h h1) (b : Un fs ex H1 H2 h1 h2) : Un fs ex H H2 h h2 where
  keep := fun c ob q n hc hx => b.keep c ob (a.keep c ob q n hc hx) (a.free c ob q n hx) hc hx
  slot := fun c ob q n hc hx => by
    obtain ⟨sl, e1⟩ := a.slot c ob q n hc hx
    obtain ⟨sl', e2⟩ := b.slot c _ e1 (a.free c ob q n hx) hc hx
    exact ⟨sl', e2⟩
  free := fun c ob q n hx => by
    obtain ⟨o', e1⟩ := a.there c ob q hx
    exact b.free c o' e1 (a.free c ob q n hx) hx
  there := fun c ob q hx => by
    obtain ⟨o', e1⟩ := a.there c ob q hx
    exact b.there c o' e1 hx
  tups := fun c xs q => b.tups c xs (a.tups c xs q)
  frzs := fun c ob xs q => b.frzs c ob xs (a.frzs c ob xs q)
  tbls := fun c ps q => by
    obtain ⟨m1, e1⟩ := a.tbls c ps q
    obtain ⟨m2, e2⟩ := b.tbls c _ e1
    exact ⟨m1 ++ m2, by rw [e2, Array.append_assoc]⟩
theorem Un.kept (k : ∀ b u, h.get? b = some u → h'.get? b = some u) : Un fs ex H H h h' :=
  ⟨fun b ob q _ _ _ => k b ob q, fun b ob q _ _ _ => ⟨ob.slots, k b ob q⟩, fun _ _ _ n _ => n, fun b ob q _ => ⟨ob, k b ob q⟩, fun _ _ q => q, fun _ _ _ q => q, fun _ ps q => ⟨#[], by rw [q]; simp⟩⟩
theorem Un.refl : Un fs ex H H h h := Un.kept fun _ _ q => q
theorem Un.laid (k : ∀ b u, h.get? b = some u → h'.get? b = some u) (hp : h.objs.size ≤ a) (hn : H a = none) : Un fs ex H (upd H a o) h h' where
  keep := fun b u q _ _ _ => k b u q
  slot := fun b u q _ _ _ => ⟨u.slots, k b u q⟩
  free := fun b u q n _ => by rw [upd_ne (Nat.ne_of_lt (Nat.lt_of_lt_of_le (Heap.lt_size q) hp))]; exact n
  there := fun b u q _ => ⟨u, k b u q⟩
  tups := fun b xs q => by rw [upd_ne (ne_of_none q hn)]; exact q
  frzs := fun b u xs q => by rw [upd_ne (ne_of_none q hn)]; exact q
  tbls := fun b ps q => ⟨#[], by rw [upd_ne (ne_of_none q hn), q]; simp⟩
theorem Un.write (mu : Mut (H x)) (he : e = x ∨ H e = some (.own x)) (k : ∀ b u, b ≠ e → h.get? b = some u → h'.get? b = some u) (heo : ∃ u, h'.get? e = some u) : Un fs ex H (upd H x o) h h' := by
  have hx : ∀ b, H b = none → b ≠ x := fun b n z => by subst z; rw [n] at mu; exact mu
  have hb : ∀ b, H b = none → b ≠ e := fun b n z => by
    subst z
    rcases he with r | r
    · exact hx b n r
    · rw [n] at r; cases r
  have hm : ∀ b u, H b = some u → ¬ Mut (some u) → b ≠ x := fun b u q nm z => by subst z; rw [q] at mu; exact nm mu
  refine ⟨fun b u q n _ _ => k b u (hb b n) q, fun b u q n _ _ => ⟨u.slots, k b u (hb b n) q⟩, fun b u q n _ => by rw [upd_ne (hx b n)]; exact n, fun b u q _ => ?_,
    fun b xs q => by rw [upd_ne (hm b _ q fun z => z)]; exact q, fun b u xs q => by rw [upd_ne (hm b _ q fun z => z)]; exact q, fun b ps q => ⟨#[], by rw [upd_ne (hm b _ q fun z => z), q]; simp⟩⟩
  by_cases hbe : b = e
  · subst hbe; exact heo
  · exact ⟨u, k b u hbe q⟩
theorem Un.mono (u : Un fs ex H H1 h h1) (hs : ∀ b ∈ fs, b ∈ fs') (hx : ∀ b ∈ ex, b ∈ ex') : Un fs' ex' H H1 h h1 :=
  ⟨fun b ob q n hb he => u.keep b ob q n (fun z => hb (hs b z)) fun z => he (hx b z), fun _ _ q n _ he => u.any q n fun z => he (hx _ z), fun b ob q n he => u.free b ob q n fun z => he (hx b z), fun b ob q he => u.there b ob q fun z => he (hx b z), u.tups, u.frzs, u.tbls⟩
end

/-! ### the heap without what is tracked -/
def trk (h : Heap) (H : Hp) : List Addr := (List.range h.objs.size).filter fun a => (H a).isSome
def hidT (h : Heap) (H : Hp) : Heap := PySem.W.hideAll h (trk h H)
theorem hidT_size (h : Heap) (H : Hp) : (hidT h H).objs.size = h.objs.size := PySem.W.hideAll_size _ _
theorem hidT_get {h : Heap} {H : Hp} {b : Addr} {o : Obj} (e : h.get? b = some o) (n : H b = none) : (hidT h H).get? b = some o :=
  PySem.W.hideAll_get _ e fun hm => by
    have q : (H b).isSome = true := (List.mem_filter.mp hm).2
    rw [n] at q; simp at q
theorem of_hidT {h : Heap} {H : Hp} {b : Addr} {o : Obj} (e : (hidT h H).get? b = some o) : h.get? b = some o ∧ H b = none := by
  have e' : h.get? b = some o := PySem.W.of_hideAll (trk h H) e
  refine ⟨e', ?_⟩
  cases q : H b with
  | none => rfl
  | some x =>
    have hm : b ∈ trk h H := List.mem_filter.mpr ⟨List.mem_range.mpr (Heap.lt_size e'), by simp [q]⟩
    have z : (hidT h H).get? b = none := PySem.W.hideAll_none (trk h H) hm
    rw [z] at e; cases e

/-! ### OpenK's ledger, filled with every new object but one -/
def allNews (g h : Heap) (L : Addr) : List (Addr × Obj) := (List.range h.objs.size).filterMap fun a => if a = L ∨ (g.get? a).isSome = true then none else (h.get? a).map fun o => (a, o)
theorem mem_allNews {g h : Heap} {L a : Addr} {o : Obj} (h1 : a ≠ L) (h2 : g.get? a = none) (h3 : h.get? a = some o) : (a, o) ∈ allNews g h L :=
  List.mem_filterMap.mpr ⟨a, List.mem_range.mpr (Heap.lt_size h3), by simp [h1, h2, h3]⟩
theorem of_mem_allNews {g h : Heap} {L : Addr} {p : Addr × Obj} (hp : p ∈ allNews g h L) : p.1 ≠ L ∧ g.get? p.1 = none ∧ h.get? p.1 = some p.2 := by
  obtain ⟨b, _, e⟩ := List.mem_filterMap.mp hp
  split at e
  · cases e
  · rename_i hn
    cases q : h.get? b with
    | none => rw [q] at e; simp at e
    | some u =>
      rw [q] at e
      simp only [Option.map_some, Option.some.injEq] at e
      subst e
      refine ⟨fun z => hn (.inl z), ?_, q⟩
      show g.get? b = none
      cases r : g.get? b with
      | none => rfl
      | some v => exact (hn (.inr (by simp [r]))).elim
def rest (g h : Heap) (L d : Addr) : List (Addr × Obj) := (allNews g h L).filter fun p => decide (p.1 ≠ d)
theorem rest_ne {g h : Heap} {L d : Addr} : ∀ p ∈ rest g h L d, p.1 ≠ d := fun p hp => of_decide_eq_true (List.mem_filter.mp hp).2
theorem mem_rest {g h : Heap} {L d a : Addr} {o : Obj} (h1 : a ≠ L) (h2 : g.get? a = none) (h3 : h.get? a = some o) (h4 : a ≠ d) : (a, o) ∈ rest g h L d :=
  List.mem_filter.mpr ⟨mem_allNews h1 h2 h3, decide_eq_true h4⟩
theorem news_all {g h : Heap} {L : Addr} : News g L h (allNews g h L) := fun p hp => let ⟨a, b, c⟩ := of_mem_allNews hp; ⟨c, a, b⟩
theorem news_at {g h : Heap} {L d : Addr} {o : Obj} (h1 : d ≠ L) (h2 : g.get? d = none) (h3 : h.get? d = some o) : News g L h ((d, o) :: rest g h L d) := fun p hp => by
  rcases List.mem_cons.mp hp with rfl | hp
  · exact ⟨h3, h1, h2⟩
  · exact news_all p (List.mem_filter.mp hp).1
/-- behind a rule that changed d alone: all else but the frame is kept -/
theorem kept_of_news {g h h' : Heap} {L d : Addr} {m : Str → Option Value} (k : ∀ b o, g.get? b = some o → h.get? b = some o) (F : Fr g L h' m) (N : News g L h' (rest g h L d)) :
    ∀ b o, b ≠ L → b ≠ d → h.get? b = some o → h'.get? b = some o := fun b o h1 h2 e => by
  cases q : g.get? b with
  | some u =>
    have := k b u q
    rw [e] at this; cases this
    exact F.keep b _ q
  | none => exact (N (b, o) (mem_rest h1 q e h2)).1
end L2

namespace L2
open PySem PySem.Spec PyProof.Rows

/-- the module's facts, over the base: the heap at the law's entry without what is tracked there -/
structure Mod (K : PySem.W.Frag) (mg : Str → Option Value) (base : Heap) : Prop where
  kin : K.In base
  glob : base.Ns mainGlobals mg
  blt : ∃ mb, base.Ns builtinsNs mb ∧ ∀ x : Str, x ≠ "__name__" → mb x = bootBuiltins x
  nolimit : base.NoLimit

/-- the context: a def's body (or a comprehension's block) running. base: fixed through the whole law; s₀, H₀: the entry; outer: the frames whose slots others may change (a def's callers); stack: all frames that run;
   ex: iterators that were made ahead of the entry and are walked here (a comprehension's); fn: the names whose cells were made at the entry (a def: all; a comprehension's block: its own); calm: not within an except suite; pn: pins that every state bears; xe: what is wanted of an exception that leaves the code -/
structure Cx where
  prog : Program
  w : World
  K : PySem.W.Frag
  mg : Str → Option Value
  base : Heap
  A : Around
  N : List Str
  s₀ : Shared
  H₀ : Hp
  env : Env
  outer : List Env
  stack : List Env
  ex : List Addr
  fn : Str → Bool
  calm : Bool
  pn : List (Addr × Obj)
  xe : Value → Shared → Prop
/-- the callers' frames -/
def frs (l : List Env) : List Addr := l.filterMap (·.frame)
abbrev Cx.fs (X : Cx) : List Addr := frs X.outer

def Vis (sc : Scope) (x : Str) : Prop := sc.names.lookup x = some .local ∨ sc.names.lookup x = some .cell ∨ sc.names.lookup x = some .free
def Loc (sc : Scope) (x : Str) : Prop := sc.names.lookup x = some .local ∨ sc.names.lookup x = some .cell
def Look (env : Env) (h : Heap) (m : Str → Option Value) (x : Str) (u : Value) : Prop :=
  (env.kindOf x = some .local ∧ m x = some u) ∨ ((env.kindOf x = some .cell ∨ env.kindOf x = some .free) ∧ ∃ c, env.cells.lookup x = some c ∧ h.IsCell c (some u))

structure Cx.Ok (X : Cx) : Prop where
  mod : Mod X.K X.mg X.base
  kind : X.env.scope.kind = .function
  glob : X.env.globals = mainGlobals
  blt : X.env.builtins = builtinsNs
  above : X.s₀.heap.objs.size ≤ X.env.locals
  inj : ∀ x y c, X.env.cells.lookup x = some c → X.env.cells.lookup y = some c → x = y
  has : ∀ x, (X.env.kindOf x = some .cell ∨ X.env.kindOf x = some .free) → ∃ c, X.env.cells.lookup x = some c
  cab : ∀ x c, X.fn x = true → X.env.cells.lookup x = some c → X.s₀.heap.objs.size ≤ c
  hd : X.calm = true → X.A.handled = none
  frames : X.A.frames = some X.stack
  stk : X.stack = X.outer ∨ (X.stack = X.env :: X.outer ∧ X.env.frame = some X.env.locals)
  exf : ∀ b ∈ X.ex, b ≠ X.env.locals ∧ ∀ x c, X.env.cells.lookup x = some c → c ≠ b
  bs : ∀ b o, X.base.get? b = some o → X.s₀.heap.get? b = some o ∧ X.H₀ b = none
  bsz : X.base.objs.size ≤ X.s₀.heap.objs.size
  noex : ∀ b o, X.base.get? b = some o → b ∉ X.ex
  exfs : ∀ b ∈ X.ex, b ∉ X.fs
  funs : X.s₀.heap.FunFrames X.base X.outer
  frf : ∀ b ∈ X.fs, X.H₀ b = none

structure Inv (X : Cx) (pins : List (Addr × Obj)) (σ : List (Option V)) (H : Hp) (s : Shared) : Prop where
  ok : X.Ok
  os : s.os = X.s₀.os
  bare : AllBare s.gens
  base : Un X.fs X.ex X.H₀ H X.s₀.heap s.heap
  loc : ∃ m, s.heap.Ns X.env.locals m ∧ ∀ (i : Nat) (x : Str) (v : V), X.N[i]? = some x → σ[i]? = some (some v) → Vis X.env.scope x → ∃ u, RelV v u ∧ Look X.env s.heap m x u
  cell : ∀ x c, X.env.cells.lookup x = some c → ∃ v, s.heap.IsCell c v
  free : H X.env.locals = none
  freeC : ∀ x c, X.env.cells.lookup x = some c → H c = none
  pin : ∀ p ∈ X.pn ++ pins, s.heap.get? p.1 = some p.2 ∧ H p.1 = none ∧ p.1 ≠ X.env.locals ∧ p.1 ∉ X.fs ∧ ∀ v, p.2.data ≠ .cell v
  hok : HOk X.prog X.w H s.heap
  len : σ.length = X.N.length

section
variable {X : Cx} {pins : List (Addr × Obj)} {σ : List (Option V)} {H H' : Hp} {s : Shared} {h' : Heap}

theorem Cx.Ok.nofr (ok : X.Ok) {b : Addr} {o : Obj} (e : X.base.get? b = some o) : b ∉ X.fs := fun hb => by
  have := (ok.funs.mem hb).1
  rw [e] at this; cases this
theorem Inv.bs (I : Inv X pins σ H s) : ∀ b o, X.base.get? b = some o → s.heap.get? b = some o ∧ H b = none := fun b o e =>
  ⟨I.base.keep b o (I.ok.bs b o e).1 (I.ok.bs b o e).2 (I.ok.nofr e) (I.ok.noex b o e), I.base.free b o (I.ok.bs b o e).1 (I.ok.bs b o e).2 (I.ok.noex b o e)⟩
theorem Inv.bk (I : Inv X pins σ H s) : ∀ b o, X.base.get? b = some o → s.heap.get? b = some o := fun b o e => (I.bs b o e).1
theorem Inv.mod (I : Inv X pins σ H s) : Mod X.K X.mg X.base := I.ok.mod
theorem Inv.kIn (I : Inv X pins σ H s) : X.K.In s.heap := I.ok.mod.kin.keeps I.bk
theorem Inv.nolimit (I : Inv X pins σ H s) : s.heap.NoLimit := I.ok.mod.nolimit.keeps I.bk
/-- the frame over the base: for OpenK's rules (K.In X.base is I.mod.kin) -/
theorem Inv.fr (I : Inv X pins σ H s) : ∃ m, Fr X.base X.env.locals s.heap m :=
  let ⟨m, hn, _⟩ := I.loc
  ⟨m, hn, I.bk, Nat.le_trans I.ok.bsz I.ok.above⟩
theorem Inv.lt (I : Inv X pins σ H s) : X.env.locals < s.heap.objs.size := let ⟨_, hn, _⟩ := I.loc; hn.lt
theorem Inv.sz (I : Inv X pins σ H s) : X.s₀.heap.objs.size ≤ s.heap.objs.size := Nat.le_trans I.ok.above (Nat.le_of_lt I.lt)
theorem Inv.nofs (I : Inv X pins σ H s) {a : Addr} (h : s.heap.objs.size ≤ a) : a ∉ X.fs := fun hb => by
  obtain ⟨_, o, ho, _⟩ := I.ok.funs.mem hb
  exact absurd (Nat.lt_of_lt_of_le (Heap.lt_size ho) (Nat.le_trans I.sz h)) (Nat.lt_irrefl _)
theorem Inv.cne (I : Inv X pins σ H s) : ∀ x c, X.env.cells.lookup x = some c → c ≠ X.env.locals := fun x c e z => by
  obtain ⟨v, o, ho, hd⟩ := I.cell x c e
  obtain ⟨m, ⟨o', es, ep, ho', hd', _⟩, _⟩ := I.loc
  rw [z, ho'] at ho; cases ho; rw [hd'] at hd; cases hd
theorem Inv.funs (I : Inv X pins σ H s) : s.heap.FunFrames X.base X.outer := by
  have all : ∀ (l : List Env), (∀ b ∈ frs l, b ∈ X.fs) → X.s₀.heap.FunFrames X.base l → s.heap.FunFrames X.base l := by
    intro l
    induction l with
    | nil => intro _ _; trivial
    | cons env r ih =>
      intro hs hl
      obtain ⟨hk, ⟨L, o, hf, hn, ho, hd⟩, hr⟩ := hl
      have hL : L ∈ X.fs := hs L (by unfold frs; rw [List.filterMap_cons, hf]; exact List.mem_cons_self)
      obtain ⟨sl, e⟩ := I.base.slot L o ho (I.ok.frf L hL) hL fun z => I.ok.exfs L z hL
      exact ⟨hk, ⟨L, _, hf, hn, e, hd⟩, ih (fun b hb => hs b (by unfold frs; rw [List.filterMap_cons, hf]; exact List.mem_cons_of_mem _ hb)) hr⟩
  exact all X.outer (fun _ hb => hb) I.ok.funs

/-- the frames that run, for a call -/
theorem Inv.stack (I : Inv X pins σ H s) : s.heap.FunFrames X.base X.stack := by
  rcases I.ok.stk with e | ⟨e, hf⟩
  · rw [e]; exact I.funs
  · rw [e]
    obtain ⟨m, hn, _⟩ := I.loc
    refine .cons (by rw [I.ok.kind]; decide) hf hn ?_ I.funs
    exact Heap.get?_none_of_le (Nat.le_trans I.ok.bsz I.ok.above)
theorem Inv.stkSub (I : Inv X pins σ H s) : ∀ b ∈ frs X.stack, b ∈ X.env.locals :: X.fs := fun b hb => by
  rcases I.ok.stk with e | ⟨e, hf⟩
  · rw [e] at hb; exact List.mem_cons_of_mem _ hb
  · rw [e] at hb
    unfold frs at hb
    rw [List.filterMap_cons, hf] at hb
    exact hb
theorem Inv.stkFree (I : Inv X pins σ H s) : ∀ b ∈ frs X.stack, H b = none := fun b hb => by
  rcases List.mem_cons.mp (I.stkSub b hb) with e | hb
  · rw [e]; exact I.free
  · obtain ⟨_, o, ho, _⟩ := I.ok.funs.mem hb
    exact I.base.free b o ho (I.ok.frf b hb) fun z => I.ok.exfs b z hb

/-- THE STEP: the untracked objects but the frame and the records at ch are kept (the callers' frames up to slots), the frame's map is kept, the new abstract heap is held -/
theorem Inv.step {g' : Array GenState} {t' : Nat} {d' : Drawn} {ch : List Addr} (I : Inv X pins σ H s)
    (hch : ∀ b ∈ ch, (b ∈ X.ex ∨ X.s₀.heap.objs.size ≤ b) ∧ b ≠ X.env.locals ∧ (∀ x c, X.env.cells.lookup x = some c → c ≠ b) ∧ ∀ p ∈ X.pn ++ pins, p.1 ≠ b)
    (keep : ∀ b o, b ≠ X.env.locals → b ∉ X.fs → b ∉ ch → s.heap.get? b = some o → H b = none → h'.get? b = some o)
    (slot : ∀ b o, b ≠ X.env.locals → b ∈ X.fs → b ∉ ch → s.heap.get? b = some o → H b = none → ∃ sl, h'.get? b = some { o with slots := sl }) (free : ∀ b o, b ∉ ch → s.heap.get? b = some o → H b = none → H' b = none)
    (there : ∀ b o, b ∉ ch → s.heap.get? b = some o → ∃ o', h'.get? b = some o')
    (tups : ∀ b xs, H b = some (.tup xs) → H' b = some (.tup xs)) (frzs : ∀ b o u, H b = some (.frz o u) → H' b = some (.frz o u)) (tbls : ∀ b ps, H b = some (.tbl ps) → ∃ more, H' b = some (.tbl (ps ++ more)))
    (ns : ∀ m, s.heap.Ns X.env.locals m → h'.Ns X.env.locals m) (hok : HOk X.prog X.w H' h') (hg : AllBare g') :
    Inv X pins σ H' { s with heap := h', gens := g', drawn := d', toks := t' } := by
  have neL : ∀ b o, X.s₀.heap.get? b = some o → b ≠ X.env.locals := fun b o e => Nat.ne_of_lt (Nat.lt_of_lt_of_le (Heap.lt_size e) I.ok.above)
  have neC : ∀ b o, X.s₀.heap.get? b = some o → b ∉ X.ex → b ∉ ch := fun b o e hx hb => by
    rcases (hch b hb).1 with z | z
    · exact hx z
    · exact absurd (Nat.lt_of_lt_of_le (Heap.lt_size e) z) (Nat.lt_irrefl _)
  have cellK : ∀ x c, X.env.cells.lookup x = some c → ∀ v, s.heap.IsCell c v → h'.IsCell c v := fun x c e v ⟨o, ho, hd⟩ => by
    have nch : c ∉ ch := fun z => (hch c z).2.2.1 x c e rfl
    by_cases hc : c ∈ X.fs
    · obtain ⟨sl, q⟩ := slot c o (I.cne x c e) hc nch ho (I.freeC x c e)
      exact ⟨_, q, hd⟩
    · exact ⟨o, keep c o (I.cne x c e) hc nch ho (I.freeC x c e), hd⟩
  refine ⟨I.ok, I.os, hg, ⟨fun b o e n hb hx => ?_, fun b o e n hb hx => ?_, fun b o e n hx => ?_, fun b o e hx => ?_, fun b xs e => tups b xs (I.base.tups b xs e), fun b o xs e => frzs b o xs (I.base.frzs b o xs e), fun b ps e => ?_⟩, ?_, fun x c e => ?_, ?_, fun x c e => ?_, fun p hp => ?_, hok, I.len⟩
  · exact keep b o (neL b o e) hb (neC b o e hx) (I.base.keep b o e n hb hx) (I.base.free b o e n hx)
  · obtain ⟨sl, e1⟩ := I.base.slot b o e n hb hx
    obtain ⟨sl', e2⟩ := slot b _ (neL b o e) hb (neC b o e hx) e1 (I.base.free b o e n hx)
    exact ⟨sl', e2⟩
  · obtain ⟨o', e1⟩ := I.base.there b o e hx
    exact free b o' (neC b o e hx) e1 (I.base.free b o e n hx)
  · obtain ⟨o', e1⟩ := I.base.there b o e hx
    exact there b o' (neC b o e hx) e1
  · obtain ⟨m1, e1⟩ := I.base.tbls b ps e
    obtain ⟨m2, e2⟩ := tbls b _ e1
    exact ⟨m1 ++ m2, by rw [e2, Array.append_assoc]⟩
  · obtain ⟨m, hn, hl⟩ := I.loc
    refine ⟨m, ns m hn, fun i x v e1 e2 e3 => ?_⟩
    obtain ⟨u, r, l⟩ := hl i x v e1 e2 e3
    refine ⟨u, r, ?_⟩
    rcases l with l | ⟨k, c, e, z⟩
    · exact .inl l
    · exact .inr ⟨k, c, e, cellK x c e _ z⟩
  · obtain ⟨v, z⟩ := I.cell x c e
    exact ⟨v, cellK x c e v z⟩
  · obtain ⟨m, ⟨o, _, _, ho, _⟩, _⟩ := I.loc
    exact free _ o (fun z => (hch _ z).2.1 rfl) ho I.free
  · obtain ⟨v, o, ho, hd⟩ := I.cell x c e
    exact free c o (fun z => (hch c z).2.2.1 x c e rfl) ho (I.freeC x c e)
  · obtain ⟨e, n, ne, nf, d⟩ := I.pin p hp
    have nch : p.1 ∉ ch := fun z => (hch p.1 z).2.2.2 p hp rfl
    exact ⟨keep p.1 p.2 ne nf nch e n, free p.1 p.2 nch e n, ne, nf, d⟩
/-- .. where the frame's own object is kept too -/
theorem Inv.un {t' : Nat} (I : Inv X pins σ H s) (u : Un X.fs [] H H' s.heap h') (hok : HOk X.prog X.w H' h') : Inv X pins σ H' { s with heap := h', toks := t' } := by
  obtain ⟨m, ⟨o, es, ep, ho, r⟩, _⟩ := id I.loc
  obtain ⟨sl, hL⟩ := u.any ho I.free (by simp)
  exact I.step (g' := s.gens) (d' := s.drawn) (ch := []) (fun _ z => nomatch z) (fun b o _ hb _ e n => u.keep b o e n hb (by simp)) (fun b o _ hb _ e n => u.slot b o e n hb (by simp)) (fun b o _ e n => u.free b o e n (by simp)) (fun b o _ e => u.there b o e (by simp)) u.tups u.frzs u.tbls (fun m' hm => by
    obtain ⟨o', es', ep', ho', r'⟩ := hm
    rw [ho] at ho'; cases ho'
    exact ⟨_, es', ep', hL, r'⟩) hok I.bare
/-- behind a call (or a comprehension's block): the slots of this frame may have changed too, the records at ch may have turned -/
theorem Inv.call {g' : Array GenState} {t' : Nat} {d' : Drawn} {ch : List Addr} (I : Inv X pins σ H s) (u : Un (frs X.stack) ch H H' s.heap h') (hok : HOk X.prog X.w H' h') (hg : AllBare g')
    (hch : ∀ b ∈ ch, (b ∈ X.ex ∨ X.s₀.heap.objs.size ≤ b) ∧ b ≠ X.env.locals ∧ (∀ x c, X.env.cells.lookup x = some c → c ≠ b) ∧ ∀ p ∈ X.pn ++ pins, p.1 ≠ b) :
    Inv X pins σ H' { s with heap := h', gens := g', drawn := d', toks := t' } := by
  obtain ⟨m, ⟨o, es, ep, ho, r⟩, _⟩ := id I.loc
  obtain ⟨sl, hL⟩ := u.any ho I.free fun z => (hch _ z).2.1 rfl
  exact I.step (ch := ch) hch (fun b o hL hb hc e n => u.keep b o e n (fun z => (List.mem_cons.mp (I.stkSub b z)).elim hL hb) hc) (fun b o _ _ hc e n => u.any e n hc) (fun b o hc e n => u.free b o e n hc) (fun b o hc e => u.there b o e hc) u.tups u.frzs u.tbls (fun m' hm => by
    obtain ⟨o', es', ep', ho', r'⟩ := hm
    rw [ho] at ho'; cases ho'
    exact ⟨_, es', ep', hL, r'⟩) hok hg
/-- an untracked record of ours (an iterator) has turned -/
theorem Inv.turned {t' : Nat} {it : Addr} (I : Inv X pins σ H s) (k : ∀ b o, b ≠ it → s.heap.get? b = some o → h'.get? b = some o) (hn : H it = none) (hL : it ≠ X.env.locals)
    (h1 : it ∈ X.ex ∨ X.s₀.heap.objs.size ≤ it) (h2 : ∀ x c, X.env.cells.lookup x = some c → c ≠ it) (h3 : ∀ p ∈ X.pn ++ pins, p.1 ≠ it) : Inv X pins σ H { s with heap := h', toks := t' } := by
  have nit : ∀ b u, H b = some u → b ≠ it := fun b u e z => by rw [z, hn] at e; cases e
  refine I.step (g' := s.gens) (d' := s.drawn) (ch := [it]) (fun b hb => ?_) (fun b o _ _ hc e _ => k b o (fun z => hc (by simp [z])) e) (fun b o _ _ hc e _ => ⟨o.slots, k b o (fun z => hc (by simp [z])) e⟩) (fun _ _ _ _ n => n)
    (fun b o hc e => ⟨o, k b o (fun z => hc (by simp [z])) e⟩) (fun _ _ e => e) (fun _ _ _ e => e) (fun b ps e => ⟨#[], by rw [e]; simp⟩) (fun m hm => ?_) (fun b u e => ?_) I.bare
  · have e : b = it := by simpa using hb
    subst e
    exact ⟨h1, hL, h2, h3⟩
  · obtain ⟨o, es, ep, ho, r⟩ := hm
    exact ⟨o, es, ep, k _ o (Ne.symm hL) ho, r⟩
  · refine (I.hok b u e).stay (fun c v hc q => k c v ?_ q) (fun _ q => q) fun _ _ q => q
    rcases hc with z | z
    · rw [z]; exact nit b u e
    · exact nit c _ z
theorem Inv.tok (I : Inv X pins σ H s) (t : Nat) : Inv X pins σ H { s with toks := t } := I.un (h' := s.heap) (t' := t) Un.refl I.hok
/-- all objects kept -/
theorem Inv.kept {t' : Nat} (I : Inv X pins σ H s) (k : ∀ b u, s.heap.get? b = some u → h'.get? b = some u) : Inv X pins σ H { s with heap := h', toks := t' } := I.un (Un.kept k) (I.hok.kept k)
/-- a new object laid and tracked -/
theorem Inv.laid {a : Addr} {o : HO} {t' : Nat} (I : Inv X pins σ H s) (k : ∀ b u, s.heap.get? b = some u → h'.get? b = some u) (hp : s.heap.objs.size ≤ a) (new : ObjOk X.prog X.w (upd H a o) h' a o) :
    Inv X pins σ (upd H a o) { s with heap := h', toks := t' } := I.un (Un.laid k hp (I.hok.fresh hp)) (I.hok.laid k hp new)
/-- an object written -/
theorem Inv.write {x e : Addr} {o : HO} {t' : Nat} (I : Inv X pins σ H s) (mu : Mut (H x)) (he : e = x ∨ H e = some (.own x)) (k : ∀ b u, b ≠ e → s.heap.get? b = some u → h'.get? b = some u) (heo : ∃ u, h'.get? e = some u)
    (new : ObjOk X.prog X.w (upd H x o) h' x o) : Inv X pins σ (upd H x o) { s with heap := h', toks := t' } := I.un (Un.write mu he k heo) (I.hok.write mu he k heo new)
/-- forgetting slots, pins -/
theorem Inv.weak {σ' : List (Option V)} (I : Inv X pins σ H s) (hl : σ'.length = σ.length) (w : ∀ (i : Nat) v, σ'[i]? = some (some v) → σ[i]? = some (some v)) : Inv X pins σ' H s :=
  ⟨I.ok, I.os, I.bare, I.base, let ⟨m, hn, hl'⟩ := I.loc; ⟨m, hn, fun i x v e1 e2 e3 => hl' i x v e1 (w i v e2) e3⟩, I.cell, I.free, I.freeC, I.pin, I.hok, hl.trans I.len⟩
theorem Inv.pins_of {pins' : List (Addr × Obj)} (I : Inv X pins σ H s) (h : ∀ p ∈ pins', s.heap.get? p.1 = some p.2 ∧ H p.1 = none ∧ p.1 ≠ X.env.locals ∧ p.1 ∉ X.fs ∧ ∀ v, p.2.data ≠ .cell v) : Inv X pins' σ H s :=
  ⟨I.ok, I.os, I.bare, I.base, I.loc, I.cell, I.free, I.freeC, fun p hp => (List.mem_append.mp hp).elim (fun z => I.pin p (List.mem_append_left _ z)) (h p), I.hok, I.len⟩

theorem nodup_ix {N : List Str} (hN : N.Nodup) {i j : Nat} {x : Str} (a : N[i]? = some x) (b : N[j]? = some x) : i = j := by
  obtain ⟨h1, e1⟩ := List.getElem?_eq_some_iff.mp a
  obtain ⟨h2, e2⟩ := List.getElem?_eq_some_iff.mp b
  exact (List.getElem_inj hN).mp (e1.trans e2.symm)

/-- a name is stored; what changed -/
theorem store_ok2 {M : Model} {A : Around} {E : Value → Shared → Prop} {i : Nat} {x : Str} {v : V} {u : Value} {Q : Unit → Shared → Prop} (I : Inv X pins σ H s) (hN : X.N.Nodup) (hi : X.N[i]? = some x) (hx : Loc X.env.scope x) (r : RelV v u)
    (h : ∀ s', Inv X pins (σ.set i (some v)) H s' → (∃ a, Heap.SameBut a s.heap s'.heap ∧ (a = X.env.locals ∨ X.env.cells.lookup x = some a)) → Q () s') (hf : X.fn x = true ∨ X.env.scope.names.lookup x = some .local := by first | exact .inl rfl | exact .inr rfl | assumption) : wpAny M A (storeName X.env x u) Q E s := by
  obtain ⟨m, hn, hl⟩ := id I.loc
  have hcls : (X.env.scope.kind == .class || (X.env.scope.kind == .module && X.env.locals != X.env.globals)) = false := by rw [I.ok.kind]; rfl
  have hiσ : i < σ.length := by rw [I.len]; exact (List.getElem?_eq_some_iff.mp hi).1
  have cne := I.cne
  have tracked : ∀ {a : Addr} {h' : Heap}, (∃ o, s.heap.get? a = some o ∧ H a = none) → Heap.SameBut a s.heap h' → HOk X.prog X.w H h' := fun {a h'} ha hs b ob e => by
    obtain ⟨_, _, hfree⟩ := ha
    refine (I.hok b ob e).stay (fun c w' hc q => (hs.2 c ?_).trans q) (fun _ q => q) fun _ _ q => q
    rintro rfl
    rcases hc with rfl | hc
    · rw [hfree] at e; cases e
    · rw [hfree] at hc; cases hc
  rcases hx with hk | hk
  · refine wpAny_storeName_local hk hn (fun h' hn' hs => ?_) hcls
    obtain ⟨oL, _, _, hoL, _⟩ := id hn
    refine h _ ⟨I.ok, I.os, I.bare, ⟨fun b o e n hb hx => ?_, fun b o e n hb hx => ?_, I.base.free, fun b o e hx => ?_, I.base.tups, I.base.frzs, I.base.tbls⟩, ⟨_, hn', fun j y v' e1 e2 e3 => ?_⟩, fun y c e => ?_, I.free, I.freeC, fun p hp => ?_, tracked ⟨oL, hoL, I.free⟩ hs, by simpa using I.len⟩ ⟨_, hs, .inl rfl⟩
    · exact (hs.2 b (Nat.ne_of_lt (Nat.lt_of_lt_of_le (Heap.lt_size e) I.ok.above))).trans (I.base.keep b o e n hb hx)
    · obtain ⟨sl, e1⟩ := I.base.slot b o e n hb hx
      exact ⟨sl, (hs.2 b (Nat.ne_of_lt (Nat.lt_of_lt_of_le (Heap.lt_size e) I.ok.above))).trans e1⟩
    · obtain ⟨o', e1⟩ := I.base.there b o e hx
      exact ⟨o', (hs.2 b (Nat.ne_of_lt (Nat.lt_of_lt_of_le (Heap.lt_size e) I.ok.above))).trans e1⟩
    · by_cases hj : j = i
      · subst hj
        rw [hi] at e1; cases e1
        rw [List.getElem?_set_self hiσ] at e2
        cases e2
        exact ⟨u, r, .inl ⟨hk, by simp⟩⟩
      · rw [List.getElem?_set_ne (Ne.symm hj)] at e2
        obtain ⟨u', r', q⟩ := hl j y v' e1 e2 e3
        refine ⟨u', r', ?_⟩
        rcases q with ⟨k, e⟩ | ⟨k, c, e, z⟩
        · refine .inl ⟨k, ?_⟩
          have : y ≠ x := fun e => hj (nodup_ix hN e1 (e ▸ hi))
          simp [this, e]
        · exact .inr ⟨k, c, e, z.sameBut hs (cne y c e)⟩
    · obtain ⟨w', z⟩ := I.cell y c e
      exact ⟨w', z.sameBut hs (cne y c e)⟩
    · obtain ⟨e, n, ne, nf, d⟩ := I.pin p hp
      exact ⟨(hs.2 p.1 ne).trans e, n, ne, nf, d⟩
  · have hfn : X.fn x = true := by
      rcases hf with z | z
      · exact z
      · rw [z] at hk; cases hk
    obtain ⟨c, hc⟩ := I.ok.has x (.inl hk)
    obtain ⟨w', z⟩ := I.cell x c hc
    refine wpAny_storeName_cell I.ok.kind hk hc z (fun h' hc' hs => ?_)
    obtain ⟨oc, hoc, hocd⟩ := id z
    refine h { s with heap := h' } ⟨I.ok, I.os, I.bare, ⟨fun b o e n hb hx => ?_, fun b o e n hb hx => ?_, I.base.free, fun b o e hx => ?_, I.base.tups, I.base.frzs, I.base.tbls⟩, ⟨m, hn.sameBut hs (Ne.symm (cne x c hc)), fun j y v' e1 e2 e3 => ?_⟩, fun y c' e => ?_, I.free, I.freeC, fun p hp => ?_, tracked ⟨oc, hoc, I.freeC x c hc⟩ hs, by simpa using I.len⟩ ⟨c, hs, .inr hc⟩
    · exact (hs.2 b (Nat.ne_of_lt (Nat.lt_of_lt_of_le (Heap.lt_size e) (I.ok.cab x c hfn hc)))).trans (I.base.keep b o e n hb hx)
    · obtain ⟨sl, e1⟩ := I.base.slot b o e n hb hx
      exact ⟨sl, (hs.2 b (Nat.ne_of_lt (Nat.lt_of_lt_of_le (Heap.lt_size e) (I.ok.cab x c hfn hc)))).trans e1⟩
    · obtain ⟨o', e1⟩ := I.base.there b o e hx
      exact ⟨o', (hs.2 b (Nat.ne_of_lt (Nat.lt_of_lt_of_le (Heap.lt_size e) (I.ok.cab x c hfn hc)))).trans e1⟩
    · by_cases hj : j = i
      · subst hj
        rw [hi] at e1; cases e1
        rw [List.getElem?_set_self hiσ] at e2
        cases e2
        exact ⟨u, r, .inr ⟨.inl hk, c, hc, hc'⟩⟩
      · rw [List.getElem?_set_ne (Ne.symm hj)] at e2
        obtain ⟨u', r', q⟩ := hl j y v' e1 e2 e3
        refine ⟨u', r', ?_⟩
        rcases q with q | ⟨k, c', e, z'⟩
        · exact .inl q
        · refine .inr ⟨k, c', e, z'.sameBut hs ?_⟩
          rintro rfl
          exact hj (nodup_ix hN e1 (I.ok.inj _ _ _ e hc ▸ hi))
    · by_cases hcc : c' = c
      · subst hcc; exact ⟨_, hc'⟩
      · obtain ⟨w2, z2⟩ := I.cell y c' e
        exact ⟨w2, z2.sameBut hs hcc⟩
    · obtain ⟨e, n, ne, nf, d⟩ := I.pin p hp
      refine ⟨(hs.2 p.1 ?_).trans e, n, ne, nf, d⟩
      intro q
      rw [q, hoc] at e
      have q' : oc = p.2 := Option.some.inj e
      exact d w' (by rw [← q']; exact hocd)
theorem store_ok {M : Model} {A : Around} {E : Value → Shared → Prop} {i : Nat} {x : Str} {v : V} {u : Value} {Q : Unit → Shared → Prop} (I : Inv X pins σ H s) (hN : X.N.Nodup) (hi : X.N[i]? = some x) (hx : Loc X.env.scope x) (r : RelV v u)
    (h : ∀ s', Inv X pins (σ.set i (some v)) H s' → Q () s') (hf : X.fn x = true ∨ X.env.scope.names.lookup x = some .local := by first | exact .inl rfl | exact .inr rfl | assumption) : wpAny M A (storeName X.env x u) Q E s :=
  store_ok2 I hN hi hx r (fun s' I' _ => h s' I') hf
/-- behind a call or a block, the state as it is -/
theorem Inv.call' {s' : Shared} {ch : List Addr} (I : Inv X pins σ H s) (ho : s'.os = s.os) (u : Un (frs X.stack) ch H H' s.heap s'.heap) (hok : HOk X.prog X.w H' s'.heap) (hg : AllBare s'.gens)
    (hch : ∀ b ∈ ch, (b ∈ X.ex ∨ X.s₀.heap.objs.size ≤ b) ∧ b ≠ X.env.locals ∧ (∀ x c, X.env.cells.lookup x = some c → c ≠ b) ∧ ∀ p ∈ X.pn ++ pins, p.1 ≠ b) : Inv X pins σ H' s' := by
  obtain ⟨h', g', d', t', o'⟩ := s'
  have e : o' = s.os := ho
  subst e
  exact I.call (g' := g') (t' := t') (d' := d') u hok hg hch
end

/-! ### the judgements -/
/-- an exception: its class, its own dict's address (where it has one), the abstract heap behind it -/
abbrev XK := Value → Option Addr → Hp → Prop
abbrev St := List (Option V)
abbrev VK := V → Hp → Prop
/-- an expression's reading; a test's; an argument list's -/
abbrev TE := St → Hp → VK → Prop
abbrev TT := St → Hp → (Bool → Hp → Prop) → Prop
abbrev TA := St → Hp → (List V → Hp → Prop) → Prop
/-- what is wanted behind a statement -/
structure Ends where
  nx : St → Hp → Prop
  rt : VK
  bk : St → Hp → Prop := fun _ _ => False
  ct : St → Hp → Prop := fun _ _ => False
abbrev TS := Ends → St → Hp → Prop

def EP (X : Cx) (pins : List (Addr × Obj)) (σ : St) (Q : VK) (u : Value) (s' : Shared) : Prop := ∃ v H', Inv X pins σ H' s' ∧ RelV v u ∧ Q v H'
def TP (X : Cx) (pins : List (Addr × Obj)) (σ : St) (Q : Bool → Hp → Prop) (b : Bool) (s' : Shared) : Prop := ∃ H', Inv X pins σ H' s' ∧ Q b H'
def AP (X : Cx) (pins : List (Addr × Obj)) (σ : St) (Q : List V → Hp → Prop) (us : List Value) (s' : Shared) : Prop := ∃ vs H', Inv X pins σ H' s' ∧ Vals vs us ∧ Q vs H'
def SP (X : Cx) (pins : List (Addr × Obj)) (D : Ends) (f : Flow) (s' : Shared) : Prop :=
  match f with
  | .next => ∃ σ' H', Inv X pins σ' H' s' ∧ D.nx σ' H'
  | .brk => ∃ σ' H', Inv X pins σ' H' s' ∧ D.bk σ' H'
  | .cont => ∃ σ' H', Inv X pins σ' H' s' ∧ D.ct σ' H'
  | .ret u => ∃ v σ' H', Inv X pins σ' H' s' ∧ RelV v u ∧ D.rt v H'

def PE (X : Cx) (e : Expr) (t : TE) : Prop :=
  ∀ (pins : List (Addr × Obj)) (s : Shared) (σ : St) (H : Hp) (Q : VK), Inv X pins σ H s → t σ H Q → wpAny (model X.prog X.w) X.A (eval e X.env) (EP X pins σ Q) X.xe s
def PT (X : Cx) (e : Expr) (t : TT) : Prop :=
  ∀ (pins : List (Addr × Obj)) (s : Shared) (σ : St) (H : Hp) (Q : Bool → Hp → Prop), Inv X pins σ H s → t σ H Q → wpAny (model X.prog X.w) X.A (isTrue e X.env (eval e X.env)) (TP X pins σ Q) X.xe s
/-- a test whatever its 'whole' is (and, or) -/
def PW (X : Cx) (e : Expr) (t : TT) : Prop :=
  ∀ (whole : Sem Value) (pins : List (Addr × Obj)) (s : Shared) (σ : St) (H : Hp) (Q : Bool → Hp → Prop), Inv X pins σ H s → t σ H Q → wpAny (model X.prog X.w) X.A (isTrue e X.env whole) (TP X pins σ Q) X.xe s
theorem PW.pt {X : Cx} {e : Expr} {t : TT} (h : PW X e t) : PT X e t := h _
/-- an argument list (no star), from the left -/
def PA (X : Cx) (es : List Expr) (t : TA) : Prop :=
  ∀ (pos : Pos) (pins : List (Addr × Obj)) (s : Shared) (σ : St) (H : Hp) (Q : List V → Hp → Prop), Inv X pins σ H s → t σ H Q → wpAny (model X.prog X.w) X.A (spliced (backTo pos (starEach es X.env))) (AP X pins σ Q) X.xe s
def PS (X : Cx) (st : Stmt) (t : TS) : Prop :=
  ∀ (pins : List (Addr × Obj)) (s : Shared) (σ : St) (H : Hp) (D : Ends), Inv X pins σ H s → t D σ H → wpAny (model X.prog X.w) X.A (exec st X.env) (SP X pins D) X.xe s
def PSs (X : Cx) (st : List Stmt) (t : TS) : Prop :=
  ∀ (pins : List (Addr × Obj)) (s : Shared) (σ : St) (H : Hp) (D : Ends), Inv X pins σ H s → t D σ H → wpAny (model X.prog X.w) X.A (execs st X.env) (SP X pins D) X.xe s
/-- weaken the end -/
theorem thn {α : Type} {t : Sem α} {Q Q' : α → Shared → Prop} {M : Model} {A : Around} {E : Value → Shared → Prop} {s : Shared} (h : wpAny M A t Q E s) (hQ : ∀ a s, Q a s → Q' a s) : wpAny M A t Q' E s := wpAny_mono h hQ fun _ _ x => x
end L2

namespace L2
open PySem PySem.Spec PyProof.Rows
section
variable {X : Cx}

/-- two expressions in a row -/
theorem bin {a b : Expr} {ta tb : TE} (ha : PE X a ta) (hb : PE X b tb) {pins : List (Addr × Obj)} {s : Shared} {σ : St} {H : Hp} {R : V → V → Hp → Prop} (I : Inv X pins σ H s) (h : ta σ H fun x H1 => tb σ H1 fun y H2 => R x y H2)
    {α : Type} {Q : α → Shared → Prop} {f : Value → Value → Sem α}
    (hf : ∀ v u s2 x y H2, Inv X pins σ H2 s2 → RelV x v → RelV y u → R x y H2 → wpAny (model X.prog X.w) X.A (f v u) Q X.xe s2) :
    wpAny (model X.prog X.w) X.A (eval a X.env) (fun v s₁ => wpAny (model X.prog X.w) X.A (eval b X.env) (fun u s₂ => wpAny (model X.prog X.w) X.A (f v u) Q X.xe s₂) X.xe s₁) X.xe s := by
  refine thn (ha pins s σ H _ I h) fun v s1 ⟨x, H1, I1, r1, q1⟩ => ?_
  refine thn (hb pins s1 σ H1 _ I1 q1) fun u s2 ⟨y, H2, I2, r2, q2⟩ => ?_
  exact hf v u s2 x y H2 I2 r1 r2 q2

/-! ### names and constants -/
def tVar (i : Nat) : TE := fun σ H Q => ∃ v, σ[i]? = some (some v) ∧ Q v H
def tC (v : V) : TE := fun _ H Q => Q v H
theorem pe_var {i : Nat} {x : Str} {pos : Pos} (hN : X.N[i]? = some x) (hv : Vis X.env.scope x) (hd : (x == ("__debug__" : Str)) = false := by decide) (hcd : (x == ("__classdict__" : Str)) = false := by decide) : PE X (.Name x pos) (tVar i) := by
  intro pins s σ H Q I h
  obtain ⟨v, e, h⟩ := h
  obtain ⟨m, hn, hl⟩ := I.loc
  obtain ⟨u, r, l⟩ := hl i x v hN e hv
  have fin : EP X pins σ Q u s := ⟨v, H, I, r, h⟩
  rcases l with ⟨hk, hm⟩ | ⟨hk, c, hc, hcell⟩
  · exact wpAny_Name (wpAny_loadName_local I.ok.kind hk hn hm fin) hd
  · rcases hk with hk | hk
    · exact wpAny_Name (wpAny_loadName_cell I.ok.kind hk hc hcell fin) hd
    · exact wpAny_Name (wpAny_loadName_free I.ok.kind hk hc hcell fin hcd) hd
theorem pe_int {i j pos} : PE X (.Constant (.int i) j pos) (tC (.int i)) := fun _ _ _ H _ I h => wpAny_Constant_int ⟨.int i, H, I.tok _, ⟨_, rfl⟩, h⟩
theorem pe_bl {b j pos} : PE X (.Constant (.bool b) j pos) (tC (.bl b)) := fun _ _ _ H _ I h => Constant_bool ⟨.bl b, H, I, rfl, h⟩
theorem pe_non {j pos} : PE X (.Constant .none j pos) (tC .non) := fun _ _ _ H _ I h => Constant_none ⟨.non, H, I, rfl, h⟩
theorem pe_str {x j pos} : PE X (.Constant (.str x) j pos) (tC (.str x)) := fun _ _ _ H _ I h => Calls.Constant_str ⟨.str x, H, I.tok _, ⟨_, rfl⟩, h⟩

/-- a global name of the def -/
def Gl (X : Cx) (x : Str) : Prop := X.env.kindOf x = some .globalImplicit
theorem ld_glob {E : Value → Shared → Prop} {pins : List (Addr × Obj)} {s : Shared} {σ : St} {H : Hp} {x : Str} {u : Value} {pos : Pos} {Q : Value → Shared → Prop} (I : Inv X pins σ H s) (hg : Gl X x) (hm : X.mg x = some u) (h : Q u s)
    (hd : (x == ("__debug__" : Str)) = false := by decide) : wpAny (model X.prog X.w) X.A (eval (.Name x pos) X.env) Q E s :=
  Calls.Name_function_global I.ok.kind hg (Calls.loadGlobal_global (by rw [I.ok.glob]; exact I.mod.glob.keeps I.bk) hm h) hd
theorem ld_blt {E : Value → Shared → Prop} {pins : List (Addr × Obj)} {s : Shared} {σ : St} {H : Hp} {x : Str} {u : Value} {pos : Pos} {Q : Value → Shared → Prop} (I : Inv X pins σ H s) (hg : Gl X x) (hm : X.mg x = none) (hv : bootBuiltins x = some u) (h : Q u s)
    (hn : x ≠ "__name__" := by decide) (hd : (x == ("__debug__" : Str)) = false := by decide) : wpAny (model X.prog X.w) X.A (eval (.Name x pos) X.env) Q E s := by
  obtain ⟨mb, h1, h2⟩ := I.mod.blt
  exact Calls.Name_function_global I.ok.kind hg (Calls.loadGlobal_builtin (by rw [I.ok.glob]; exact I.mod.glob.keeps I.bk) hm (by rw [I.ok.blt]; exact h1.keeps I.bk) ((h2 x hn).trans hv) h) hd
/-- a module's constant, a class, a function, as a value -/
theorem pe_glob {x : Str} {v : V} {u : Value} {pos : Pos} (hg : Gl X x) (hm : X.mg x = some u) (r : RelV v u) (hd : (x == ("__debug__" : Str)) = false := by decide) : PE X (.Name x pos) (tC v) :=
  fun _ _ _ H _ I h => ld_glob I hg hm ⟨v, H, I, r, h⟩ hd
theorem pe_bltn {x : Str} {v : V} {u : Value} {pos : Pos} (hg : Gl X x) (hm : X.mg x = none) (hv : bootBuiltins x = some u) (r : RelV v u) (hn : x ≠ "__name__" := by decide) (hd : (x == ("__debug__" : Str)) = false := by decide) : PE X (.Name x pos) (tC v) :=
  fun _ _ _ H _ I h => ld_blt I hg hm hv ⟨v, H, I, r, h⟩ hn hd

/-! ### arithmetic -/
/-- two ints -/
def t2I (ta tb : TE) (k : Int → Int → Hp → Prop) : St → Hp → Prop := fun σ H => ta σ H fun x H1 => tb σ H1 fun y H2 => ∃ i j, x = .int i ∧ y = .int j ∧ k i j H2
def tAdd (ta tb : TE) : TE := fun σ H Q => t2I ta tb (fun i j H2 => Q (.int (i + j)) H2) σ H
def tSub (ta tb : TE) : TE := fun σ H Q => t2I ta tb (fun i j H2 => Q (.int (i - j)) H2) σ H
/-- the left factor below 2^64 -/
def tMul (ta tb : TE) : TE := fun σ H Q => t2I ta tb (fun i j H2 => (-(2 ^ 64) < i ∧ i < 2 ^ 64) ∧ Q (.int (i * j)) H2) σ H
variable {a b : Expr} {ta tb : TE} {pos : Pos}
theorem pe_add (ha : PE X a ta) (hb : PE X b tb) : PE X (.BinOp a .Add b pos) (tAdd ta tb) := by
  intro pins s σ H Q I h
  refine wpAny_BinOp (bin ha hb I h fun v u s2 x y H2 I2 rx ry q => ?_)
  obtain ⟨i, j, rfl, rfl, q⟩ := q
  obtain ⟨t, rfl⟩ := rx
  obtain ⟨t', rfl⟩ := ry
  exact add_int ⟨.int _, H2, I2.tok _, ⟨_, rfl⟩, q⟩
theorem pe_sub (ha : PE X a ta) (hb : PE X b tb) : PE X (.BinOp a .Sub b pos) (tSub ta tb) := by
  intro pins s σ H Q I h
  refine wpAny_BinOp (bin ha hb I h fun v u s2 x y H2 I2 rx ry q => ?_)
  obtain ⟨i, j, rfl, rfl, q⟩ := q
  obtain ⟨t, rfl⟩ := rx
  obtain ⟨t', rfl⟩ := ry
  exact sub_int ⟨.int _, H2, I2.tok _, ⟨_, rfl⟩, q⟩
theorem pe_mul (ha : PE X a ta) (hb : PE X b tb) : PE X (.BinOp a .Mult b pos) (tMul ta tb) := by
  intro pins s σ H Q I h
  refine wpAny_BinOp (bin ha hb I h fun v u s2 x y H2 I2 rx ry q => ?_)
  obtain ⟨i, j, rfl, rfl, ⟨q1, q2⟩, q⟩ := q
  obtain ⟨t, rfl⟩ := rx
  obtain ⟨t', rfl⟩ := ry
  exact mul_int ⟨.int _, H2, I2.tok _, ⟨_, rfl⟩, q⟩ (.of_left (intBits_le_64 q1 q2))

/-! ### comparisons -/
def PC (X : Cx) (op : CmpOp) (a b : Expr) (t : TE) : Prop :=
  ∀ (pins : List (Addr × Obj)) (s : Shared) (σ : St) (H : Hp) (Q : VK), Inv X pins σ H s → t σ H Q →
    wpAny (model X.prog X.w) X.A (eval a X.env) (fun v s₁ => wpAny (model X.prog X.w) X.A (eval b X.env) (fun u s₂ => wpAny (model X.prog X.w) X.A (compareOp op v u) (EP X pins σ Q) X.xe s₂) X.xe s₁) X.xe s
theorem nobehind (b : Expr) {op : CmpOp} (h : op ≠ .In) (h2 : op ≠ .NotIn) : behindInMarks op b = false := by
  have e1 : (op == CmpOp.In) = false := by cases op <;> first | rfl | exact absurd rfl h
  have e2 : (op == CmpOp.NotIn) = false := by cases op <;> first | rfl | exact absurd rfl h2
  cases b <;> simp [behindInMarks, e1, e2]
def tCmp (p : Int → Int → Bool) (ta tb : TE) : TE := fun σ H Q => t2I ta tb (fun i j H2 => Q (.bl (p i j)) H2) σ H
abbrev tLt : TE → TE → TE := tCmp fun i j => decide (i < j)
abbrev tLe : TE → TE → TE := tCmp fun i j => decide (i ≤ j)
abbrev tGt : TE → TE → TE := tCmp fun i j => decide (j < i)
abbrev tGe : TE → TE → TE := tCmp fun i j => decide (j ≤ i)
abbrev tEqI : TE → TE → TE := tCmp fun i j => decide (i = j)
abbrev tNeI : TE → TE → TE := tCmp fun i j => !decide (i = j)
/-- a comparison of two ints, by its rule -/
theorem pc_int {op : CmpOp} {p : Int → Int → Bool} (ha : PE X a ta) (hb : PE X b tb)
    (rule : ∀ (i j : Int) (t u : Tok) (Q : Value → Shared → Prop) (s : Shared), Q (.bool (p i j)) s → wpAny (model X.prog X.w) X.A (compareOp op (.int i t) (.int j u)) Q X.xe s) : PC X op a b (tCmp p ta tb) := by
  intro pins s σ H Q I h
  refine bin ha hb I h fun v u s2 x y H2 I2 rx ry q => ?_
  obtain ⟨i, j, rfl, rfl, q⟩ := q
  obtain ⟨t, rfl⟩ := rx
  obtain ⟨t', rfl⟩ := ry
  exact rule i j t t' _ s2 ⟨.bl _, H2, I2, rfl, q⟩
theorem pc_lt (ha : PE X a ta) (hb : PE X b tb) : PC X .Lt a b (tLt ta tb) := pc_int ha hb fun _ _ _ _ _ _ h => lt_int h
theorem pc_le (ha : PE X a ta) (hb : PE X b tb) : PC X .LtE a b (tLe ta tb) := pc_int ha hb fun _ _ _ _ _ _ h => le_int h
theorem pc_gt (ha : PE X a ta) (hb : PE X b tb) : PC X .Gt a b (tGt ta tb) := pc_int ha hb fun _ _ _ _ _ _ h => gt_int h
theorem pc_ge (ha : PE X a ta) (hb : PE X b tb) : PC X .GtE a b (tGe ta tb) := pc_int ha hb fun _ _ _ _ _ _ h => ge_int h
theorem pc_eqI (ha : PE X a ta) (hb : PE X b tb) : PC X .Eq a b (tEqI ta tb) := pc_int ha hb fun _ _ _ _ _ _ h => eq_int (by rw [Bool.beq_eq_decide_eq]; exact h)
theorem pc_neI (ha : PE X a ta) (hb : PE X b tb) : PC X .NotEq a b (tNeI ta tb) := pc_int ha hb fun _ _ _ _ _ _ h => ne_int (by rw [bne, Bool.beq_eq_decide_eq]; exact h)
/-- is None -/
def tIsN (ta : TE) : TE := fun σ H Q => ta σ H fun x H1 => Q (.bl (decide (x = .non))) H1
def tNotN (ta : TE) : TE := fun σ H Q => ta σ H fun x H1 => Q (.bl (!decide (x = .non))) H1
theorem RelV.none_iff {x : V} {v : Value} (r : RelV x v) : (v == Value.none) = decide (x = .non) := by
  cases x with
  | non => cases r; rfl
  | bl _ => cases r; rfl
  | int _ => obtain ⟨t, rfl⟩ := r; rfl
  | str _ => obtain ⟨t, rfl⟩ := r; rfl
  | byt _ => obtain ⟨t, rfl⟩ := r; rfl
  | flt _ => obtain ⟨t, rfl⟩ := r; rfl
  | ref _ => cases r; rfl
  | ty _ => cases r; rfl
theorem pc_isN {j pos'} (ha : PE X a ta) : PC X .Is a (.Constant .none j pos') (tIsN ta) := by
  intro pins s σ H Q I h
  refine thn (ha pins s σ H _ I h) fun v s1 ⟨x, H1, I1, r1, q1⟩ => ?_
  exact Constant_none (is_none_gen ⟨.bl _, H1, I1, by rw [r1.none_iff]; rfl, q1⟩)
theorem pc_notN {j pos'} (ha : PE X a ta) : PC X .IsNot a (.Constant .none j pos') (tNotN ta) := by
  intro pins s σ H Q I h
  refine thn (ha pins s σ H _ I h) fun v s1 ⟨x, H1, I1, r1, q1⟩ => ?_
  exact Constant_none (isnot_none_gen ⟨.bl _, H1, I1, by rw [r1.none_iff]; rfl, q1⟩)
/-- a comparison as a value, as a test -/
def tB (t : TE) : TT := fun σ H Q => t σ H fun x H1 => ∃ c, x = .bl c ∧ Q c H1
theorem pe_cmp {op : CmpOp} {t : TE} (h : PC X op a b t) (h1 : behindInMarks op b = false := by first | exact nobehind _ (by decide) (by decide) | rfl) : PE X (.Compare a [op] [b] pos) t := fun pins s σ H Q I hw => wpAny_Compare1 (h pins s σ H Q I hw) h1
theorem pt_cmp {op : CmpOp} {t : TE} (h : PC X op a b t) (h1 : behindInMarks op b = false := by first | exact nobehind _ (by decide) (by decide) | rfl) : PT X (.Compare a [op] [b] pos) (tB t) := by
  intro pins s σ H Q I hw
  refine wpAny_isTrue_Compare1 (thn (h pins s σ H _ I hw) fun v s1 h1 => thn h1 fun u s2 h2 => thn h2 fun c s3 ⟨x, H1, I1, r1, q1⟩ => ?_) h1
  obtain ⟨d, rfl, q⟩ := q1
  cases r1
  exact wpAny_truthy_bool ⟨H1, I1, q⟩
/-- an expression whose value is a bool, as a test -/
theorem pt_val {e : Expr} {t : TE} (h : PE X e t) (he : ∀ whole, isTrue e X.env whole = (do let v ← whole; standAt e.pos; holding [v] (truthy v)) := by intro _; rfl) : PT X e (tB t) := by
  intro pins s σ H Q I hw
  refine isTrue_plain (thn (h pins s σ H _ I hw) fun v s1 ⟨x, H1, I1, r1, q1⟩ => ?_) (he _)
  obtain ⟨d, rfl, q⟩ := q1
  cases r1
  exact wpAny_truthy_bool ⟨H1, I1, q⟩

/-! ### and, or, not -/
variable {tA tB' : TT} {rest : List Expr}
def tAnd (t u : TT) : TT := fun σ H Q => t σ H fun c H1 => if c = true then u σ H1 Q else Q false H1
def tOr (t u : TT) : TT := fun σ H Q => t σ H fun c H1 => if c = true then Q true H1 else u σ H1 Q
def tNot (t : TT) : TT := fun σ H Q => t σ H fun c H1 => Q (!c) H1
theorem pw_and1 (ha : PT X a tA) : PW X (.BoolOp .And [a] pos) tA := by
  intro wh pins s σ H Q I h
  refine isTrue_and (thn (ha pins s σ H Q I h) fun c s1 e => ?_)
  cases c with
  | true => exact isTrue_and_nil e
  | false => exact e
theorem pw_or1 (ha : PT X a tA) : PW X (.BoolOp .Or [a] pos) tA := by
  intro wh pins s σ H Q I h
  refine isTrue_or (thn (ha pins s σ H Q I h) fun c s1 e => ?_)
  cases c with
  | false => exact isTrue_or_nil e
  | true => exact e
theorem pw_and (ha : PT X a tA) (hb : PW X (.BoolOp .And (b :: rest) pos) tB') : PW X (.BoolOp .And (a :: b :: rest) pos) (tAnd tA tB') := by
  intro wh pins s σ H Q I h
  refine isTrue_and (thn (ha pins s σ H _ I h) fun c s1 ⟨H1, I1, q1⟩ => ?_)
  cases c with
  | true => exact hb wh pins s1 σ H1 Q I1 q1
  | false => exact ⟨H1, I1, q1⟩
theorem pw_or (ha : PT X a tA) (hb : PW X (.BoolOp .Or (b :: rest) pos) tB') : PW X (.BoolOp .Or (a :: b :: rest) pos) (tOr tA tB') := by
  intro wh pins s σ H Q I h
  refine isTrue_or (thn (ha pins s σ H _ I h) fun c s1 ⟨H1, I1, q1⟩ => ?_)
  cases c with
  | true => exact ⟨H1, I1, q1⟩
  | false => exact hb wh pins s1 σ H1 Q I1 q1
theorem pt_not (ha : PT X a tA) : PT X (.UnaryOp .Not a pos) (tNot tA) := by
  intro pins s σ H Q I h
  exact isTrue_not (ha pins s σ H (fun c H1 => Q (!c) H1) I h)
/-- .. as values (bools) -/
def tAndV (ta tb : TE) : TE := fun σ H Q => ta σ H fun x H1 => ∃ c, x = .bl c ∧ if c = true then tb σ H1 Q else Q (.bl false) H1
def tOrV (ta tb : TE) : TE := fun σ H Q => ta σ H fun x H1 => ∃ c, x = .bl c ∧ if c = true then Q (.bl true) H1 else tb σ H1 Q
def tNotV (ta : TE) : TE := fun σ H Q => ta σ H fun x H1 => ∃ c, x = .bl c ∧ Q (.bl (!c)) H1
theorem pe_one {op} {t : TE} (h : PE X a t) : PE X (.BoolOp op [a] pos) t := fun pins s σ H Q I hw => BoolOp_one (h pins s σ H Q I hw)
theorem pe_and (ha : PE X a ta) (hb : PE X (.BoolOp .And (b :: rest) pos) tb) : PE X (.BoolOp .And (a :: b :: rest) pos) (tAndV ta tb) := by
  intro pins s σ H Q I h
  refine BoolOp_and (thn (ha pins s σ H _ I h) fun v s1 ⟨x, H1, I1, r1, q1⟩ => ?_)
  obtain ⟨c, rfl, q1⟩ := q1
  cases r1
  refine wpAny_truthy_bool ?_
  cases c with
  | true => exact hb pins s1 σ H1 Q I1 q1
  | false => exact ⟨.bl false, H1, I1, rfl, q1⟩
theorem pe_or (ha : PE X a ta) (hb : PE X (.BoolOp .Or (b :: rest) pos) tb) : PE X (.BoolOp .Or (a :: b :: rest) pos) (tOrV ta tb) := by
  intro pins s σ H Q I h
  refine BoolOp_or (thn (ha pins s σ H _ I h) fun v s1 ⟨x, H1, I1, r1, q1⟩ => ?_)
  obtain ⟨c, rfl, q1⟩ := q1
  cases r1
  refine wpAny_truthy_bool ?_
  cases c with
  | false => exact hb pins s1 σ H1 Q I1 q1
  | true => exact ⟨.bl true, H1, I1, rfl, q1⟩
theorem pe_not (ha : PE X a ta) : PE X (.UnaryOp .Not a pos) (tNotV ta) := by
  intro pins s σ H Q I h
  refine UnaryOp_ (thn (ha pins s σ H _ I h) fun v s1 ⟨x, H1, I1, r1, q1⟩ => ?_)
  obtain ⟨c, rfl, q1⟩ := q1
  cases r1
  exact not_of (wpAny_truthy_bool ⟨.bl (!c), H1, I1, rfl, q1⟩)
/-- a if t else b -/
def tIf (t : TT) (ta tb : TE) : TE := fun σ H Q => t σ H fun c H1 => if c = true then ta σ H1 Q else tb σ H1 Q
theorem pe_ifExp {c : Expr} (hc : PT X c tA) (ha : PE X a ta) (hb : PE X b tb) : PE X (.IfExp c a b pos) (tIf tA ta tb) := by
  intro pins s σ H Q I h
  refine wpAny_IfExp (thn (hc pins s σ H _ I h) fun d s1 ⟨H1, I1, q1⟩ => ?_)
  cases d with
  | true => exact ha pins s1 σ H1 Q I1 q1
  | false => exact hb pins s1 σ H1 Q I1 q1
end
end L2

namespace L2
open PySem PySem.Spec PyProof.Rows

/-! ### a list, a tuple that is read: tracked, frozen, or an object of the module -/
def SqL (K : PySem.W.Frag) (H : Hp) (a : Addr) (xs : List V) : Prop :=
  Rd H a (.lst xs) ∨
    ∃ (o : Obj) (its : Array Value) (n : Nat), K.lookup a = some o ∧ o.cls = .type "list" ∧ o.dict = none ∧ o.data = .seq its n ∧ its.size ≤ sizeLine ∧ Vals xs its.toList
def SqT (K : PySem.W.Frag) (H : Hp) (a : Addr) (xs : List V) : Prop :=
  Rd H a (.tup xs) ∨
    ∃ (o : Obj) (its : Array Value) (n : Nat), K.lookup a = some o ∧ o.cls = .type "tuple" ∧ o.data = .seq its n ∧ its.size ≤ sizeLine ∧ Vals xs its.toList
def absV : Value → Option V
  | .none => some .non
  | .bool b => some (.bl b)
  | .int i _ => some (.int i)
  | .str x _ => some (.str x)
  | .bytes b _ => some (.byt b)
  | .float b _ => some (.flt b)
  | .ref a => some (.ref a)
  | .type n => some (.ty n)
  | _ => none
theorem RelV.abs {x : V} {u : Value} (r : RelV x u) : absV u = some x := by
  cases x with
  | non => cases r; rfl
  | bl _ => cases r; rfl
  | int _ => obtain ⟨t, rfl⟩ := r; rfl
  | str _ => obtain ⟨t, rfl⟩ := r; rfl
  | byt _ => obtain ⟨t, rfl⟩ := r; rfl
  | flt _ => obtain ⟨t, rfl⟩ := r; rfl
  | ref _ => cases r; rfl
  | ty _ => cases r; rfl
theorem RelV.inj {x y : V} {u : Value} (r : RelV x u) (q : RelV y u) : x = y := Option.some.inj (r.abs.symm.trans q.abs)
theorem Vals.inj : ∀ {xs ys : List V} {us : List Value}, Vals xs us → Vals ys us → xs = ys
  | _, _, _, .nil, .nil => rfl
  | _, _, _, .cons r t, .cons r' t' => by rw [r.inj r', Vals.inj t t']
section
variable {X : Cx} {pins : List (Addr × Obj)} {σ : St} {H : Hp} {s : Shared} {a : Addr} {xs ys : List V}
theorem SqL.of {K : PySem.W.Frag} (h : H a = some (.lst xs)) : SqL K H a xs := .inl (.inl h)
theorem SqT.of {K : PySem.W.Frag} (h : H a = some (.tup xs)) : SqT K H a xs := .inl (.inl h)
theorem Inv.list (I : Inv X pins σ H s) (h : SqL X.K H a xs) : ∃ its : List Value, Vals xs its ∧ PlainL s.heap a its.toArray ∧ xs.length ≤ sizeLine := by
  rcases h with h | ⟨o, its, n, hk, hc, hd, hs, hz, r⟩
  · obtain ⟨z, its, n, r, e⟩ := h.ok I.hok
    exact ⟨its, r, ⟨_, n, e, rfl, rfl, rfl⟩, z⟩
  · refine ⟨its.toList, r, ⟨o, n, I.kIn a o hk, hc, hd, by simpa using hs⟩, ?_⟩
    have e := r.length
    simp only [Array.length_toList] at e
    omega
theorem Inv.tuple (I : Inv X pins σ H s) (h : SqT X.K H a xs) : ∃ its : List Value, Vals xs its ∧ IsTup s.heap a its.toArray ∧ xs.length ≤ sizeLine := by
  rcases h with h | ⟨o, its, n, hk, hc, hs, hz, r⟩
  · obtain ⟨z, its, r, p⟩ := h.ok I.hok
    exact ⟨its, r, p, z⟩
  · refine ⟨its.toList, r, ⟨o, I.kIn a o hk, hc, n, by simpa using hs⟩, ?_⟩
    have e := r.length
    simp only [Array.length_toList] at e
    omega
theorem Inv.list_inj (I : Inv X pins σ H s) (h : SqL X.K H a xs) (h' : SqL X.K H a ys) : xs = ys := by
  obtain ⟨its, r, ⟨o, n, e, _, _, d⟩, _⟩ := I.list h
  obtain ⟨its', r', ⟨o', n', e', _, _, d'⟩, _⟩ := I.list h'
  rw [e] at e'; cases e'
  rw [d] at d'
  injection d' with d1 _
  have : its = its' := by simpa using congrArg Array.toList d1
  subst this
  exact r.inj r'
theorem Inv.tuple_inj (I : Inv X pins σ H s) (h : SqT X.K H a xs) (h' : SqT X.K H a ys) : xs = ys := by
  obtain ⟨its, r, ⟨o, e, _, n, d⟩, _⟩ := I.tuple h
  obtain ⟨its', r', ⟨o', e', _, n', d'⟩, _⟩ := I.tuple h'
  rw [e] at e'; cases e'
  rw [d] at d'
  injection d' with d1 _
  have : its = its' := by simpa using congrArg Array.toList d1
  subst this
  exact r.inj r'
end

/-! ### another wish about exceptions -/
abbrev Cx.wish (X : Cx) (E : Value → Shared → Prop) : Cx := { X with xe := E }
/-- no exception leaves -/
abbrev Cx.nox (X : Cx) : Cx := X.wish fun _ _ => False
theorem Cx.Ok.wish {X : Cx} (ok : X.Ok) (E : Value → Shared → Prop) : (X.wish E).Ok :=
  ⟨ok.mod, ok.kind, ok.glob, ok.blt, ok.above, ok.inj, ok.has, ok.cab, ok.hd, ok.frames, ok.stk, ok.exf, ok.bs, ok.bsz, ok.noex, ok.exfs, ok.funs, ok.frf⟩
theorem Cx.Ok.unwish {X : Cx} {E : Value → Shared → Prop} (ok : (X.wish E).Ok) : X.Ok :=
  ⟨ok.mod, ok.kind, ok.glob, ok.blt, ok.above, ok.inj, ok.has, ok.cab, ok.hd, ok.frames, ok.stk, ok.exf, ok.bs, ok.bsz, ok.noex, ok.exfs, ok.funs, ok.frf⟩
section
variable {X : Cx} {pins : List (Addr × Obj)} {σ : St} {H : Hp} {s : Shared} {E : Value → Shared → Prop}
theorem Inv.wish (I : Inv X pins σ H s) (E : Value → Shared → Prop) : Inv (X.wish E) pins σ H s := ⟨I.ok.wish E, I.os, I.bare, I.base, I.loc, I.cell, I.free, I.freeC, I.pin, I.hok, I.len⟩
theorem Inv.unwish (I : Inv (X.wish E) pins σ H s) : Inv X pins σ H s := ⟨I.ok.unwish, I.os, I.bare, I.base, I.loc, I.cell, I.free, I.freeC, I.pin, I.hok, I.len⟩
theorem SP.unwish {D : Ends} {f : Flow} {s' : Shared} (h : SP (X.wish E) pins D f s') : SP X pins D f s' := by
  cases f with
  | next => obtain ⟨σ', H', I, q⟩ := h; exact ⟨σ', H', I.unwish, q⟩
  | brk => obtain ⟨σ', H', I, q⟩ := h; exact ⟨σ', H', I.unwish, q⟩
  | cont => obtain ⟨σ', H', I, q⟩ := h; exact ⟨σ', H', I.unwish, q⟩
  | ret u => obtain ⟨v, σ', H', I, r, q⟩ := h; exact ⟨v, σ', H', I.unwish, r, q⟩
theorem PE.nox {e : Expr} {t : TE} (h : PE X.nox e t) : PE X e t := fun pins s σ H Q I hw =>
  wpAny_mono (h pins s σ H Q (I.wish _) hw) (fun _ _ ⟨v, H', I', r, q⟩ => ⟨v, H', I'.unwish, r, q⟩) fun _ _ z => False.elim z
theorem PT.nox {e : Expr} {t : TT} (h : PT X.nox e t) : PT X e t := fun pins s σ H Q I hw =>
  wpAny_mono (h pins s σ H Q (I.wish _) hw) (fun _ _ ⟨H', I', q⟩ => ⟨H', I'.unwish, q⟩) fun _ _ z => False.elim z
theorem PSs.nox {st : List Stmt} {t : TS} (h : PSs X.nox st t) : PSs X st t := fun pins s σ H D I hw =>
  wpAny_mono (h pins s σ H D (I.wish _) hw) (fun _ _ q => q.unwish) fun _ _ z => False.elim z
end

/-! ### blocks and small statements -/
section
variable {X : Cx} {st : Stmt} {rest : List Stmt} {t u : TS} {e : Expr} {te : TE} {pos : Pos}
def tNext : TS := fun D σ H => D.nx σ H
def tSeq (t u : TS) : TS := fun D σ H => t { D with nx := u D } σ H
theorem pss_nil : PSs X [] tNext := fun _ _ σ H _ I h => wpAny_execs_nil ⟨σ, H, I, h⟩
theorem pss_cons (h1 : PS X st t) (h2 : PSs X rest u) : PSs X (st :: rest) (tSeq t u) := by
  intro pins s σ H D I h
  refine wpAny_execs_cons (thn (h1 pins s σ H { D with nx := u D } I h) fun f s1 q => ?_)
  cases f with
  | next =>
    obtain ⟨σ', H', I', q⟩ := q
    exact h2 pins s1 σ' H' D I' q
  | ret v => exact q
  | brk => exact q
  | cont => exact q
theorem pss_one (h1 : PS X st t) : PSs X [st] t := by
  intro pins s σ H D I h
  refine wpAny_execs_cons (thn (h1 pins s σ H D I h) fun f s1 q => ?_)
  cases f with
  | next => exact wpAny_execs_nil q
  | ret v => exact q
  | brk => exact q
  | cont => exact q
def tBreak : TS := fun D σ H => D.bk σ H
def tCont : TS := fun D σ H => D.ct σ H
theorem ps_pass : PS X (.Pass pos) tNext := fun _ _ σ H _ I h => wpAny_Pass ⟨σ, H, I, h⟩
theorem ps_break : PS X (.Break pos) tBreak := fun _ _ σ H _ I h => wpAny_Break ⟨σ, H, I, h⟩
theorem ps_continue : PS X (.Continue pos) tCont := fun _ _ σ H _ I h => wpAny_Continue ⟨σ, H, I, h⟩
/-- in a def's body nothing is shown -/
theorem Inv.quiet {pins : List (Addr × Obj)} {σ : St} {H : Hp} {s : Shared} (I : Inv X pins σ H s) : interactive X.env = false := by simp [interactive, I.ok.kind]
/-- a docstring -/
theorem ps_doc {x j pos pos'} : PS X (.Expr (.Constant (.str x) j pos) pos') tNext := fun _ s σ H _ I h => wpAny_Expr (Calls.Constant_str (show SP X _ _ .next { s with toks := s.toks + 1 } from ⟨σ, H, I.tok _, h⟩)) I.quiet
/-- an expression whose value is dropped -/
def tDrop (te : TE) : TS := fun D σ H => te σ H fun _ H1 => D.nx σ H1
theorem ps_expr (he : PE X e te) (hs : swapsWith e none pos.line X.env = pure false := by rfl) : PS X (.Expr e pos) (tDrop te) := by
  intro pins s σ H D I h
  exact wpAny_Expr_any (thn (he pins s σ H _ I h) fun v s1 ⟨x, H1, I1, r1, q1⟩ => ⟨σ, H1, I1, q1⟩) I.quiet hs
def tRet (te : TE) : TS := fun D σ H => te σ H D.rt
theorem ps_ret (he : PE X e te) : PS X (.Return (some e) pos) (tRet te) := by
  intro pins s σ H D I h
  exact wpAny_Return_some (thn (he pins s σ H _ I h) fun v s1 ⟨x, H1, I1, r1, q1⟩ => ⟨x, σ, H1, I1, r1, q1⟩)
def tRetN : TS := fun D _ H => D.rt .non H
theorem ps_retN : PS X (.Return none pos) tRetN := fun _ _ σ H _ I h => wpAny_Return_none ⟨.non, σ, H, I, rfl, h⟩
def tIfS (c : TT) (t u : TS) : TS := fun D σ H => c σ H fun b H1 => if b = true then t D σ H1 else u D σ H1
theorem ps_if {c : Expr} {a b : List Stmt} {tc : TT} (hc : PT X c tc) (ha : PSs X a t) (hb : PSs X b u) : PS X (.If c a b pos) (tIfS tc t u) := by
  intro pins s σ H D I h
  refine wpAny_If (thn (hc pins s σ H _ I h) fun d s1 ⟨H1, I1, q1⟩ => ?_)
  cases d with
  | true => exact ha pins s1 σ H1 D I1 q1
  | false => exact hb pins s1 σ H1 D I1 q1
/-- code that the proof never comes to -/
def tNever : TS := fun _ _ _ => False
theorem ps_never : PS X st tNever := fun _ _ _ _ _ _ h => h.elim
theorem pss_never {sts : List Stmt} : PSs X sts tNever := fun _ _ _ _ _ _ h => h.elim
end

/-! ### targets -/
abbrev TG := V → St → Hp → (St → Hp → Prop) → Prop
abbrev TGs := List V → St → Hp → (St → Hp → Prop) → Prop
def PG (X : Cx) (target : Expr) (t : TG) : Prop :=
  ∀ (pins : List (Addr × Obj)) (s : Shared) (σ : St) (H : Hp) (v : V) (u : Value) (Q : St → Hp → Prop), Inv X pins σ H s → RelV v u → t v σ H Q →
    wpAny (model X.prog X.w) X.A (assign target X.env u) (fun _ s' => ∃ σ' H', Inv X pins σ' H' s' ∧ Q σ' H') X.xe s
/-- several targets, one after another -/
def PGs (X : Cx) (ts : List Expr) (t : TGs) : Prop :=
  ∀ (pins : List (Addr × Obj)) (s : Shared) (σ : St) (H : Hp) (vs : List V) (us : List Value) (Q : St → Hp → Prop), Inv X pins σ H s → Vals vs us → t vs σ H Q →
    wpAny (model X.prog X.w) X.A (assignInOrder ((assignEach ts X.env).map (·.2)) us) (fun _ s' => ∃ σ' H', Inv X pins σ' H' s' ∧ Q σ' H') X.xe s
/-- o[i] = v, by values -/
abbrev TSet := V → V → V → Hp → (Hp → Prop) → Prop
def PSet (X : Cx) (t : TSet) : Prop :=
  ∀ (pins : List (Addr × Obj)) (s : Shared) (σ : St) (H : Hp) (o i v : V) (ov iv u : Value) (Q : Hp → Prop), Inv X pins σ H s → RelV o ov → RelV i iv → RelV v u → t o i v H Q →
    wpAny (model X.prog X.w) X.A (setItem ov iv u) (fun _ s' => ∃ H', Inv X pins σ H' s' ∧ Q H') X.xe s
/-- a op= b, by values -/
abbrev TIp := V → V → Hp → VK → Prop
def PIp (X : Cx) (op : Operator) (t : TIp) : Prop :=
  ∀ (pins : List (Addr × Obj)) (s : Shared) (σ : St) (H : Hp) (x y : V) (v u : Value) (Q : VK), Inv X pins σ H s → RelV x v → RelV y u → t x y H Q →
    wpAny (model X.prog X.w) X.A (inplaceOp op v u) (EP X pins σ Q) X.xe s
section
variable {X : Cx} {pos : Pos}
def gName (i : Nat) : TG := fun v σ H Q => Q (σ.set i (some v)) H
theorem pg_name {i : Nat} {x : Str} (hN : X.N.Nodup) (hi : X.N[i]? = some x) (hx : Loc X.env.scope x) (hf : X.fn x = true ∨ X.env.scope.names.lookup x = some .local := by first | exact .inl rfl | exact .inr rfl | assumption) : PG X (.Name x pos) (gName i) := by
  intro pins s σ H v u Q I r h
  exact wpAny_assign_Name (store_ok I hN hi hx r (fun s' I' => ⟨_, H, I', h⟩) hf)
def gNil : TGs := fun vs σ H Q => vs = [] ∧ Q σ H
def gCons (t : TG) (u : TGs) : TGs := fun vs σ H Q => ∃ v r, vs = v :: r ∧ t v σ H fun σ' H' => u r σ' H' Q
theorem pgs_nil : PGs X [] gNil := by
  intro pins s σ H vs us Q I r h
  obtain ⟨e, h⟩ := h
  subst e
  cases r
  exact assignInOrder_nil ⟨σ, H, I, h⟩
theorem pgs_cons {e : Expr} {es : List Expr} {t : TG} {u : TGs} (h1 : PG X e t) (h2 : PGs X es u)
    (hs : (assignEach (e :: es) X.env).map (·.2) = assign e X.env :: (assignEach es X.env).map (·.2) := by rfl) : PGs X (e :: es) (gCons t u) := by
  intro pins s σ H vs us Q I r h
  obtain ⟨v, vr, e1, h⟩ := h
  subst e1
  cases r with
  | cons r rr =>
    rw [hs]
    refine assignInOrder_cons (thn (h1 pins s σ H _ _ _ I r h) fun _ s1 ⟨σ1, H1, I1, q1⟩ => ?_)
    exact h2 pins s1 σ1 H1 _ _ Q I1 rr q1
/-- (a, b, ..) = a tuple of that length -/
def gTup (K : PySem.W.Frag) (n : Nat) (t : TGs) : TG := fun v σ H Q => ∃ a xs, v = .ref a ∧ SqT K H a xs ∧ xs.length = n ∧ t xs σ H Q
theorem pg_tup {es : List Expr} {k : Nat} {t : TGs} {n : Nat} (hc : X.calm = true) (h : PGs X es t)
    (hn : (assignEach es X.env).length = n := by rfl) (hst : (assignEach es X.env).findIdx? (·.1) = none := by rfl) : PG X (.Tuple es k pos) (gTup X.K n t) := by
  intro pins s σ H v u Q I r hw
  obtain ⟨a, xs, e1, hq, hl, hw⟩ := hw
  subst e1
  cases r
  obtain ⟨its, rv, ht, hz⟩ := I.tuple hq
  refine assign_Tuple_tuple (I.ok.hd hc) ht (by simp [hn, ← hl, rv.length]) hst fun h' hx => ?_
  have I1 : Inv X pins σ H { s with heap := h' } := I.kept (t' := s.toks) fun b o e => hx b o (Nat.ne_of_lt (Heap.lt_size e)) e
  exact h pins _ σ H xs _ Q I1 (by simpa using rv) hw
/-- o[i] = .. -/
def gSub (to ti : TE) (t : TSet) : TG := fun v σ H Q => to σ H fun o H1 => ti σ H1 fun i H2 => t o i v H2 fun H3 => Q σ H3
theorem pg_sub {o i : Expr} {to ti : TE} {t : TSet} (ho : PE X o to) (hi : PE X i ti) (hs : PSet X t)
    (ha : ∀ v, assign (.Subscript o i pos) X.env v = (do
      let ov ← holding [v] (eval o X.env)
      let iv ← holding [v, ov] (eval i X.env)
      standAt pos
      holding [v, ov, iv] (setItem ov iv v)
      release [v, ov, iv] []) := by intro _; rfl) : PG X (.Subscript o i pos) (gSub to ti t) := by
  intro pins s σ H v u Q I r h
  rw [ha]
  refine wpAny_bind (wpAny_holding (thn (ho pins s σ H _ I h) fun ov s1 ⟨x, H1, I1, r1, q1⟩ => ?_))
  refine wpAny_bind (wpAny_holding (thn (hi pins s1 σ H1 _ I1 q1) fun iv s2 ⟨y, H2, I2, r2, q2⟩ => ?_))
  refine wpAny_bind (wpAny_standAt (wpAny_bind (wpAny_holding (thn (hs pins s2 σ H2 x y v ov iv u _ I2 r1 r2 r q2) fun _ s3 ⟨H3, I3, q3⟩ => ?_))))
  exact wpAny_release ⟨σ, H3, I3, q3⟩
/-- target = value -/
def tAsg (te : TE) (g : TG) : TS := fun D σ H => te σ H fun x H1 => g x σ H1 D.nx
theorem ps_asg {tg e : Expr} {te : TE} {g : TG} (he : PE X e te) (hg : PG X tg g) (hs : swapsWithSole [tg] e pos.line X.env = pure false := by rfl) (hw : swappedStores [tg] e X.env = pure none := by rfl)
    (h1 : (assignEach [tg] X.env).map (·.2) = [assign tg X.env] := by rfl) : PS X (.Assign [tg] e pos) (tAsg te g) := by
  intro pins s σ H D I h
  refine wpAny_Assign_stores (thn (he pins s σ H _ I h) fun v s1 ⟨x, H1, I1, r1, q1⟩ => ?_) hs hw
  rw [h1]
  exact thn (hg pins s1 σ H1 x v _ I1 r1 q1) fun _ s2 q => q
/-- name = value -/
theorem ps_set {i : Nat} {x : Str} {e : Expr} {te : TE} {pos' : Pos} (hN : X.N.Nodup) (hi : X.N[i]? = some x) (hx : Loc X.env.scope x) (he : PE X e te) (hs : swapsWith e (some (.Name x pos')) pos.line X.env = pure false := by rfl) (hf : X.fn x = true ∨ X.env.scope.names.lookup x = some .local := by first | exact .inl rfl | exact .inr rfl | assumption) :
    PS X (.Assign [.Name x pos'] e pos) (tAsg te (gName i)) := by
  intro pins s σ H D I h
  refine wpAny_Assign_Name (thn (he pins s σ H _ I h) fun v s1 ⟨y, H1, I1, r1, q1⟩ => ?_) hs
  exact store_ok I1 hN hi hx r1 (fun s2 I2 => ⟨_, H1, I2, q1⟩) hf
/-- a, b = x, y with plain local names: stored from the right; the pair itself is not tracked (the opening rows as in PyProof/Rows/TupAssign.lean:23) -/
def tPar (i j : Nat) (ta : TA) : TS := fun D σ H => ta σ H fun vs H1 => ∃ v w, vs = [v, w] ∧ D.nx ((σ.set i (some v)).set j (some w)) H1
theorem ps_par {i j : Nat} {x y : Str} {a b : Expr} {ta : TA} {px py pt : Pos} {kt k2 pt2} (hc : X.calm = true) (hN : X.N.Nodup) (hi : X.N[i]? = some x) (hj : X.N[j]? = some y) (hij : i ≠ j)
    (hx : X.env.scope.names.lookup x = some .local) (hy : X.env.scope.names.lookup y = some .local) (ha : PA X [a, b] ta)
    (hw : swappedStores [.Tuple [.Name x px, .Name y py] kt pt] (.Tuple [a, b] k2 pt2) X.env = pure (some [x, y]))
    (hs : swapsWithSole [.Tuple [.Name x px, .Name y py] kt pt] (.Tuple [a, b] k2 pt2) pos.line X.env = pure false := by rfl) :
    PS X (.Assign [.Tuple [.Name x px, .Name y py] kt pt] (.Tuple [a, b] k2 pt2) pos) (tPar i j ta) := by
  intro pins s σ H D I h
  rw [exec_Assign_arm]
  refine wpAny_bind (wpAny_standAt ?_)
  rw [hs]
  refine wpAny_bind (wpAny_pure ?_)
  rw [if_neg (by decide)]
  refine wpAny_bind (Tuple_ (thn (ha _ pins s σ H _ I h) fun us s1 ⟨vs, H1, I1, r1, q1⟩ => ?_))
  obtain ⟨v, w, e1, q1⟩ := q1
  subst e1
  obtain ⟨u1, u2, rfl, rv, rw'⟩ : ∃ u1 u2, us = [u1, u2] ∧ RelV v u1 ∧ RelV w u2 := by
    cases r1 with
    | cons p q =>
      cases q with
      | cons p' q' =>
        cases q'
        exact ⟨_, _, rfl, p, p'⟩
  refine wpAny_newObj_type ?_ (by show 2 ≤ sizeLine; decide)
  have I2 : Inv X pins σ H1 { s1 with heap := s1.heap.push { cls := .type "tuple", data := .seq [u1, u2].toArray } } := I1.kept (t' := s1.toks) fun b o e => Heap.get?_push_of_some _ e
  rw [hw]
  refine wpAny_bind (wpAny_pure ?_)
  show wpAny (model X.prog X.w) X.A (do rule "assign.swapped-stores"; let items ← unpackItems (.ref s1.heap.objs.size) 2 none; assignInOrder [fun v => bindName X.env y v, fun v => bindName X.env x v] items.reverse; pure Flow.next) _ _ _
  refine wpAny_bind (wpAny_rule (wpAny_bind (unpackItems_tuple (items := #[u1, u2]) (I.ok.hd hc) (IsTup.new s1.heap _) fun h' hx' => ?_)))
  have I3 := I2.kept (h' := h') (t' := s1.toks) fun b o e => hx' b o (Nat.ne_of_lt (Heap.lt_size e)) e
  show wpAny _ _ (assignInOrder [fun v => bindName X.env y v, fun v => bindName X.env x v] [u2, u1] >>= fun _ => pure Flow.next) _ _ _
  refine wpAny_bind (assignInOrder_cons (wpAny_bindName (store_ok I3 hN hj (.inl hy) rw' (fun s2 I4 => ?_) (.inr hy))))
  refine assignInOrder_cons (wpAny_bindName (store_ok I4 hN hi (.inl hx) rv (fun s3 I5 => assignInOrder_nil (wpAny_pure ?_)) (.inr hx)))
  rw [List.set_comm _ _ (Ne.symm hij)] at I5
  exact ⟨_, H1, I5, q1⟩
/-- name op= e -/
def tAug (i : Nat) (te : TE) (ti : TIp) : TS := fun D σ H => ∃ x, σ[i]? = some (some x) ∧ te σ H fun y H1 => ti x y H1 fun z H2 => D.nx (σ.set i (some z)) H2
theorem ps_aug {i : Nat} {x : Str} {e : Expr} {te : TE} {op : Operator} {ti : TIp} {pos' : Pos} (hN : X.N.Nodup) (hi : X.N[i]? = some x) (hx : Loc X.env.scope x) (he : PE X e te) (ho : PIp X op ti) (hf : X.fn x = true ∨ X.env.scope.names.lookup x = some .local := by first | exact .inl rfl | exact .inr rfl | assumption) :
    PS X (.AugAssign (.Name x pos') op e pos) (tAug i te ti) := by
  intro pins s σ H D I h
  obtain ⟨v, e1, h⟩ := h
  obtain ⟨m, hn, hl⟩ := I.loc
  have vis : Vis X.env.scope x := by rcases hx with k | k; exact .inl k; exact .inr (.inl k)
  obtain ⟨u, r, l⟩ := hl i x v hi e1 vis
  refine wpAny_AugAssign_Name ?_
  have go : wpAny (model X.prog X.w) X.A (eval e X.env) (fun w s₂ => wpAny (model X.prog X.w) X.A (inplaceOp op u w) (fun r s₃ => wpAny (model X.prog X.w) X.A (storeName X.env x r) (fun _ => SP X pins D .next) X.xe s₃) X.xe s₂) X.xe s := by
    refine thn (he pins s σ H _ I h) fun w s1 ⟨y, H1, I1, r1, q1⟩ => ?_
    refine thn (ho pins s1 σ H1 v y u w _ I1 r r1 q1) fun z s2 ⟨zv, H2, I2, r2, q2⟩ => ?_
    exact store_ok I2 hN hi hx r2 (fun s3 I3 => ⟨_, H2, I3, q2⟩) hf
  rcases l with ⟨hk, hm⟩ | ⟨hk, c, hc, hcell⟩
  · exact wpAny_loadName_local I.ok.kind hk hn hm go
  · rcases hk with hk | hk
    · exact wpAny_loadName_cell I.ok.kind hk hc hcell go
    · rcases hx with k | k
      · have : X.env.scope.names.lookup x = some .free := hk
        rw [k] at this; cases this
      · have : X.env.scope.names.lookup x = some .free := hk
        rw [k] at this; cases this
/-- o[i] op= e -/
def tAugS (to ti te : TE) (tget : V → V → Hp → VK → Prop) (tip : TIp) (tset : TSet) : TS := fun D σ H => to σ H fun o H1 => ti σ H1 fun i H2 => tget o i H2 fun x H3 => te σ H3 fun y H4 => tip x y H4 fun z H5 => tset o i z H5 fun H6 => D.nx σ H6
/-- o[i], by values -/
def PGet (X : Cx) (t : V → V → Hp → VK → Prop) : Prop :=
  ∀ (pins : List (Addr × Obj)) (s : Shared) (σ : St) (H : Hp) (o i : V) (ov iv : Value) (Q : VK), Inv X pins σ H s → RelV o ov → RelV i iv → t o i H Q →
    wpAny (model X.prog X.w) X.A (getItem ov iv) (EP X pins σ Q) X.xe s
theorem ps_augS {o i e : Expr} {to ti te : TE} {tget : V → V → Hp → VK → Prop} {tip : TIp} {tset : TSet} {op : Operator} {tpos : Pos} (ho : PE X o to) (hi : PE X i ti) (hg : PGet X tget) (he : PE X e te) (hp : PIp X op tip) (hs : PSet X tset)
    (ha : ∀ ov iv new, augStore i ov iv new = (do holding [new, ov, iv] (setItem ov iv new); release [new, ov, iv] []; pure .next) := by intros; rfl) : PS X (.AugAssign (.Subscript o i tpos) op e pos) (tAugS to ti te tget tip tset) := by
  intro pins s σ H D I h
  refine wpAny_AugAssign_SubscriptAny (thn (ho pins s σ H _ I h) fun ov s1 ⟨x1, H1, I1, r1, q1⟩ => ?_) ha
  refine thn (hi pins s1 σ H1 _ I1 q1) fun iv s2 ⟨x2, H2, I2, r2, q2⟩ => ?_
  refine thn (hg pins s2 σ H2 x1 x2 ov iv _ I2 r1 r2 q2) fun old s3 ⟨x3, H3, I3, r3, q3⟩ => ?_
  refine thn (he pins s3 σ H3 _ I3 q3) fun v s4 ⟨x4, H4, I4, r4, q4⟩ => ?_
  refine thn (hp pins s4 σ H4 x3 x4 old v _ I4 r3 r4 q4) fun new s5 ⟨x5, H5, I5, r5, q5⟩ => ?_
  exact thn (hs pins s5 σ H5 x1 x2 x5 ov iv new _ I5 r1 r2 r5 q5) fun _ s6 ⟨H6, I6, q6⟩ => ⟨σ, H6, I6, q6⟩
/-- ints -/
def ipI (f : Int → Int → Int) : TIp := fun x y H Q => ∃ i j, x = .int i ∧ y = .int j ∧ Q (.int (f i j)) H
theorem ip_add : PIp X .Add (ipI fun i j => i + j) := by
  intro pins s σ H x y v u Q I r1 r2 h
  obtain ⟨i, j, e1, e2, q⟩ := h
  subst e1; subst e2
  obtain ⟨t, rfl⟩ := r1
  obtain ⟨t', rfl⟩ := r2
  exact iadd_int ⟨.int _, H, I.tok _, ⟨_, rfl⟩, q⟩
theorem ip_sub : PIp X .Sub (ipI fun i j => i - j) := by
  intro pins s σ H x y v u Q I r1 r2 h
  obtain ⟨i, j, e1, e2, q⟩ := h
  subst e1; subst e2
  obtain ⟨t, rfl⟩ := r1
  obtain ⟨t', rfl⟩ := r2
  exact isub_int ⟨.int _, H, I.tok _, ⟨_, rfl⟩, q⟩
end

/-! ### while -/
section
variable {X : Cx} {pos : Pos}
/-- the invariant W with its measure -/
def tWhile (c : TT) (tb : TS) : TS := fun D σ H => ∃ W : Nat → St → Hp → Prop, (∃ m, W m σ H) ∧ ∀ m σ H, W m σ H →
  c σ H fun b H1 => if b = true then ∃ N : St → Hp → Prop, (∀ σ' H', N σ' H' → ∃ m', m' < m ∧ W m' σ' H') ∧ tb { D with nx := N, ct := N, bk := D.nx } σ H1 else D.nx σ H1
theorem ps_while {c : Expr} {body : List Stmt} {tc : TT} {tb : TS} (hp : PassesOwn (model X.prog X.w) X.A X.env X.xe) (hc : PT X c tc) (hb : PSs X body tb) : PS X (.While c body [] pos) (tWhile tc tb) := by
  intro pins s σ H D I h
  obtain ⟨W, ⟨m0, w0⟩, turn⟩ := h
  refine wpAny_While (codeAny_whileLoop (fun n s' => ∃ σ' H', Inv X pins σ' H' s' ∧ W n σ' H') ?_ m0 ⟨σ, H, I, w0⟩)
  rintro n s1 ⟨σ1, H1, I1, w1⟩
  refine wpAny_passesOwn hp (thn (hc pins s1 σ1 H1 _ I1 (turn n σ1 H1 w1)) fun b s2 ⟨H2, I2, q2⟩ => ?_)
  cases b with
  | true =>
    obtain ⟨N, hN, q2⟩ := q2
    rw [if_pos rfl]
    refine wpAny_passesOwn hp (thn (hb pins s2 σ1 H2 _ I2 q2) fun f s3 q3 => ?_)
    cases f with
    | next =>
      obtain ⟨σ3, H3, I3, n3⟩ := q3
      obtain ⟨m', hm, w3⟩ := hN σ3 H3 n3
      exact ⟨m', hm, σ3, H3, I3, w3⟩
    | cont =>
      obtain ⟨σ3, H3, I3, n3⟩ := q3
      obtain ⟨m', hm, w3⟩ := hN σ3 H3 n3
      exact ⟨m', hm, σ3, H3, I3, w3⟩
    | brk => exact q3
    | ret v => exact q3
  | false =>
    rw [if_neg Bool.false_ne_true]
    exact wpAny_execs_nil ⟨σ1, H2, I2, q2⟩
end

/-! ### what a loop or a comprehension walks -/
/-- at turn i: it yields x (the heap may grow), or it stops -/
structure It where
  go : Nat → Hp → Prop
  yld : Nat → Hp → V → Hp → Prop
  stop : Nat → Hp → Prop
/-- the iterator's own objects may turn: they are not the frame's, not pinned, younger than the entry (or a comprehension's own) -/
def FpOk (X : Cx) (pins : List (Addr × Obj)) (H : Hp) (b : Addr) : Prop :=
  H b = none ∧ b ≠ X.env.locals ∧ b ∉ X.fs ∧ (b ∈ X.ex ∨ X.s₀.heap.objs.size ≤ b) ∧ (∀ x c, X.env.cells.lookup x = some c → c ≠ b) ∧ ∀ p ∈ X.pn ++ pins, p.1 ≠ b
theorem Inv.fpOk {X : Cx} {pins : List (Addr × Obj)} {σ : St} {H H' : Hp} {s : Shared} {b : Addr} (I : Inv X pins σ H s) (hb : s.heap.objs.size ≤ b) (hn : H' b = none) : FpOk X pins H' b := by
  refine ⟨hn, Nat.ne_of_gt (Nat.lt_of_lt_of_le I.lt hb), I.nofs hb, .inr (Nat.le_trans I.sz hb), fun x c e z => ?_, fun p hp z => ?_⟩
  · obtain ⟨v, q⟩ := I.cell x c e
    exact absurd (Nat.lt_of_lt_of_le q.lt (by rw [z]; exact hb)) (Nat.lt_irrefl _)
  · exact absurd (Nat.lt_of_lt_of_le (Heap.lt_size (I.pin p hp).1) (by rw [z]; exact hb)) (Nat.lt_irrefl _)
structure Turn (P : Program) (w : World) (K : PySem.W.Frag) (tg : Expr) (J : It) (fp : List Addr) (it : Addr) (tn : Nat → Heap → Prop) : Prop where
  mem : it ∈ fp
  obj : ∀ i h, tn i h → ∀ b ∈ fp, ∃ o, h.get? b = some o ∧ ∀ v, o.data ≠ .cell v
  keep : ∀ i h h', tn i h → (∀ b ∈ fp, ∀ o, h.get? b = some o → h'.get? b = some o) → tn i h'
  item : ∀ (X : Cx), X.prog = P → X.w = w → X.K = K → X.calm = true → ∀ (i : Nat) (pins : List (Addr × Obj)) (s : Shared) (σ : St) (H : Hp) (E : Value → Shared → Prop), Inv X pins σ H s → (∀ b ∈ fp, FpOk X pins H b) → tn i s.heap → J.go i H →
    wpAny (model P w) X.A (pyNext (.ref it)) (fun r s1 => ∃ u, r = some u ∧
      wpAny (model P w) X.A (letOwnedTupleGo tg (.ref it) u) (fun _ s2 => ∃ x H', Inv X pins σ H' s2 ∧ RelV x u ∧ J.yld i H x H' ∧ tn (i + 1) s2.heap ∧ ∀ b ∈ fp, H' b = none) E s1) E s
  done : ∀ (X : Cx), X.prog = P → X.w = w → X.K = K → X.calm = true → ∀ (i : Nat) (pins : List (Addr × Obj)) (s : Shared) (σ : St) (H : Hp) (E : Value → Shared → Prop), Inv X pins σ H s → (∀ b ∈ fp, FpOk X pins H b) → tn i s.heap → J.stop i H →
    wpAny (model P w) X.A (pyNext (.ref it)) (fun r s1 => r = none ∧ Inv X pins σ H s1) E s
  self : ∀ (A : Around) (i : Nat) (s : Shared) (Q : Value → Shared → Prop) (E : Value → Shared → Prop), tn i s.heap → Q (.ref it) s → wpAny (model P w) A (pyIter (.ref it)) Q E s
abbrev TI := St → Hp → (It → Hp → Prop) → Prop
/-- an iterator has come -/
def PIE (X : Cx) (pins : List (Addr × Obj)) (σ : St) (tg : Expr) (R : It → Hp → Prop) (itv : Value) (s2 : Shared) : Prop :=
  ∃ (it : Addr) (fp : List Addr) (tn : Nat → Heap → Prop) (J : It) (H' : Hp), itv = .ref it ∧ Inv X pins σ H' s2 ∧ Turn X.prog X.w X.K tg J fp it tn ∧ tn 0 s2.heap ∧ (∀ b ∈ fp, FpOk X pins H' b) ∧ R J H'
def PI (X : Cx) (tg iter : Expr) (wi : TI) : Prop :=
  ∀ (pins : List (Addr × Obj)) (s : Shared) (σ : St) (H : Hp) (R : It → Hp → Prop), Inv X pins σ H s → wi σ H R →
    wpAny (model X.prog X.w) X.A (eval iter X.env) (fun v s1 => wpAny (model X.prog X.w) X.A (pyIter v) (PIE X pins σ tg R) X.xe s1) X.xe s

/-- the step ahead of the store is nothing for an iterator that keeps no tuple -/
theorem go_of {M : Model} {A : Around} {E : Value → Shared → Prop} {s : Shared} {tg : Expr} {it : Addr} {u : Value} {o : Obj} {n : String} {vs : Array Value} {Q : Unit → Shared → Prop} (ho : s.heap.get? it = some o) (hc : o.cls = .type n) (hd : o.data = .fields vs)
    (hn : ["enumerate", "zip", "dict_itemiterator", "dict_reverseitemiterator", "odict_iterator", "itertools.zip_longest", "itertools.pairwise"].contains n = false) (hQ : Q () s) : wpAny M A (letOwnedTupleGo tg (.ref it) u) Q E s := by
  unfold letOwnedTupleGo
  cases tg <;> first
    | exact wpAny_pure hQ
    | (cases u <;> first
        | exact wpAny_pure hQ
        | (refine wpAny_bind (wpAny_load ho ?_)
           rw [hc, hd]
           show wpAny M A (if (["enumerate", "zip", "dict_itemiterator", "dict_reverseitemiterator", "odict_iterator", "itertools.zip_longest", "itertools.pairwise"].contains n && vs[0]? == some (rawInt _)) = true then _ else _) Q E s
           rw [if_neg (by intro h; rw [hn, Bool.false_and] at h; cases h)]
           exact wpAny_pure hQ))

/-- the list at a, as it stands at each turn (a loop may append to it) -/
def Itl (K : PySem.W.Frag) (a : Addr) : It :=
  ⟨fun i H => ∃ xs x, SqL K H a xs ∧ xs[i]? = some x, fun i H x H' => H' = H ∧ ∀ xs, SqL K H a xs → xs[i]? = some x, fun i H => ∃ xs, SqL K H a xs ∧ xs.length ≤ i⟩
def Itt (K : PySem.W.Frag) (a : Addr) : It :=
  ⟨fun i H => ∃ xs x, SqT K H a xs ∧ xs[i]? = some x, fun i H x H' => H' = H ∧ ∀ xs, SqT K H a xs → xs[i]? = some x, fun i H => ∃ xs, SqT K H a xs ∧ xs.length ≤ i⟩
/-- lo, lo + 1, .. (n of them) -/
def Itr (lo : Int) (n : Nat) : It := ⟨fun i _ => i < n, fun i H x H' => H' = H ∧ x = .int (lo + i), fun i _ => n ≤ i⟩
theorem turn_list {P : Program} {w : World} {K : PySem.W.Frag} {tg : Expr} (a it : Addr) : Turn P w K tg (Itl K a) [it] it (fun i h => h.IsListIter it a i) where
  mem := by simp
  obj := fun i h st b hb => by
    have e : b = it := by simpa using hb
    subst e
    obtain ⟨o, e, c, d⟩ := st
    exact ⟨o, e, fun v z => by rw [d] at z; cases z⟩
  keep := fun i h h' st k => st.at fun o e => k it (by simp) o e
  item := by
    intro X hP hw hK hc i pins s σ H E I hf st hg
    subst hP hw hK
    obtain ⟨xs, x, hq, hx⟩ := hg
    obtain ⟨its, rv, p, hz⟩ := I.list hq
    obtain ⟨u, hu, ru⟩ := rv.get hx
    obtain ⟨f0, f1, f2, f3, f4, f5⟩ := hf it (by simp)
    refine wpAny_pyNext_list_item st p.isList (x := u) (by simpa using hu) fun h' st' sb => ?_
    have I1 : Inv X pins σ H { s with heap := h' } := I.turned (t' := s.toks) (fun b o hb e => (sb.2 b hb).trans e) f0 f1 f3 f4 f5
    obtain ⟨o, e, c, d⟩ := id st'
    exact ⟨u, rfl, go_of (s := { s with heap := h' }) e c d (by decide) ⟨x, H, I1, ru, ⟨rfl, fun ys hy => by rw [I.list_inj hy hq]; exact hx⟩, st', fun b hb => (hf b hb).1⟩⟩
  done := by
    intro X hP hw hK hc i pins s σ H E I hf st hg
    subst hP hw hK
    obtain ⟨xs, hq, hx⟩ := hg
    obtain ⟨its, rv, p, hz⟩ := I.list hq
    obtain ⟨f0, f1, f2, f3, f4, f5⟩ := hf it (by simp)
    have hl := rv.length
    exact wpAny_pyNext_list_end (I.ok.hd hc) st p.isList (by simp; omega) fun h' eb => ⟨rfl, I.turned (t' := s.toks) (fun b o hb e => eb b o hb e) f0 f1 f3 f4 f5⟩
  self := fun _ _ _ _ _ st h => wpAny_pyIter_listiter st h
theorem turn_tuple {P : Program} {w : World} {K : PySem.W.Frag} {tg : Expr} (a it : Addr) : Turn P w K tg (Itt K a) [it] it (fun i h => h.IsTupleIter it a i) where
  mem := by simp
  obj := fun i h st b hb => by
    have e : b = it := by simpa using hb
    subst e
    obtain ⟨o, e, c, d⟩ := st
    exact ⟨o, e, fun v z => by rw [d] at z; cases z⟩
  keep := fun i h h' st k => st.at fun o e => k it (by simp) o e
  item := by
    intro X hP hw hK hc i pins s σ H E I hf st hg
    subst hP hw hK
    obtain ⟨xs, x, hq, hx⟩ := hg
    obtain ⟨its, rv, p, hz⟩ := I.tuple hq
    obtain ⟨u, hu, ru⟩ := rv.get hx
    obtain ⟨f0, f1, f2, f3, f4, f5⟩ := hf it (by simp)
    refine wpAny_pyNext_tuple_item st (show s.heap.IsTuple a its.toArray from p) (x := u) (by simpa using hu) fun h' st' sb => ?_
    have I1 : Inv X pins σ H { s with heap := h' } := I.turned (t' := s.toks) (fun b o hb e => (sb.2 b hb).trans e) f0 f1 f3 f4 f5
    obtain ⟨o, e, c, d⟩ := id st'
    exact ⟨u, rfl, go_of (s := { s with heap := h' }) e c d (by decide) ⟨x, H, I1, ru, ⟨rfl, fun ys hy => by rw [I.tuple_inj hy hq]; exact hx⟩, st', fun b hb => (hf b hb).1⟩⟩
  done := by
    intro X hP hw hK hc i pins s σ H E I hf st hg
    subst hP hw hK
    obtain ⟨xs, hq, hx⟩ := hg
    obtain ⟨its, rv, p, hz⟩ := I.tuple hq
    obtain ⟨f0, f1, f2, f3, f4, f5⟩ := hf it (by simp)
    have hl := rv.length
    exact wpAny_pyNext_tuple_end (I.ok.hd hc) st (show s.heap.IsTuple a its.toArray from p) (by simp; omega) fun h' eb => ⟨rfl, I.turned (t' := s.toks) (fun b o hb e => eb b o hb e) f0 f1 f3 f4 f5⟩
  self := fun _ _ _ _ _ st h => wpAny_pyIter_tupleiter st h
theorem turn_range {P : Program} {w : World} {K : PySem.W.Frag} {tg : Expr} (it : Addr) (lo : Int) (n : Nat) : Turn P w K tg (Itr lo n) [it] it (fun i h => IsRangeIter h it (lo + (i : Nat) * 1) ((n : Int) - (i : Nat)) 1) where
  mem := by simp
  obj := fun i h st b hb => by
    have e : b = it := by simpa using hb
    subst e
    exact ⟨_, st, fun v z => by
      have z' : Data.fields _ = Data.cell v := z
      cases z'⟩
  keep := fun i h h' st k => k it (by simp) _ st
  item := by
    intro X hP hw hK hc i pins s σ H E I hf st hg
    subst hP hw hK
    obtain ⟨f0, f1, f2, f3, f4, f5⟩ := hf it (by simp)
    have W := Walks.range (prog := X.prog) (w := X.w) (I.ok.hd hc) it lo 1 n
    refine W.item i s _ _ hg st fun v h' tk hv st' kk => ?_
    obtain ⟨t, rfl⟩ := hv
    have I1 : Inv X pins σ H { s with heap := h', toks := tk } := I.turned (fun b o hb e => kk b o (by simpa using hb) e) f0 f1 f3 f4 f5
    refine ⟨_, rfl, go_of (s := { s with heap := h', toks := tk }) (n := "range_iterator") st' rfl rfl (by decide) ⟨.int (lo + i), H, I1, ⟨t, ?_⟩, ⟨rfl, rfl⟩, st', fun b hb => (hf b hb).1⟩⟩
    rw [Int.mul_one]
  done := by
    intro X hP hw hK hc i pins s σ H E I hf st hg
    subst hP hw hK
    obtain ⟨f0, f1, f2, f3, f4, f5⟩ := hf it (by simp)
    exact wpAny_pyNext_range_end (I.ok.hd hc) st (by have : n ≤ i := hg; omega) fun h' eb => ⟨rfl, I.turned (t' := s.toks) (fun b o hb e => eb b o hb e) f0 f1 f3 f4 f5⟩
  self := fun _ _ _ _ _ st h => wpAny_pyIter_rangeiter st h
end L2

namespace L2
open PySem PySem.Spec PyProof.Rows
section
variable {X : Cx} {tg : Expr}
def iList (K : PySem.W.Frag) (tl : TE) : TI := fun σ H R => tl σ H fun x H1 => ∃ a, x = .ref a ∧ (∃ xs, SqL K H1 a xs) ∧ R (Itl K a) H1
def iTup (K : PySem.W.Frag) (tl : TE) : TI := fun σ H R => tl σ H fun x H1 => ∃ a, x = .ref a ∧ (∃ xs, SqT K H1 a xs) ∧ R (Itt K a) H1
theorem pi_list {l : Expr} {tl : TE} (hl : PE X l tl) : PI X tg l (iList X.K tl) := by
  intro pins s σ H R I h
  refine thn (hl pins s σ H _ I h) fun v s1 ⟨x, H1, I1, r1, q1⟩ => ?_
  obtain ⟨a, e, ⟨xs, hq⟩, q⟩ := q1
  subst e
  cases r1
  obtain ⟨its, rv, p, hz⟩ := I1.list hq
  refine wpAny_pyIter_list p.isList ?_
  refine ⟨s1.heap.objs.size, [s1.heap.objs.size], _, _, H1, rfl, I1.kept (t' := s1.toks) fun b o e => Heap.get?_push_of_some _ e, turn_list a _, ⟨_, Heap.get?_push_size _ rfl, rfl, rfl⟩, fun b hb => ?_, q⟩
  have e : b = s1.heap.objs.size := by simpa using hb
  subst e
  exact I1.fpOk (Nat.le_refl _) (I1.hok.fresh (Nat.le_refl _))
theorem pi_tup {l : Expr} {tl : TE} (hl : PE X l tl) : PI X tg l (iTup X.K tl) := by
  intro pins s σ H R I h
  refine thn (hl pins s σ H _ I h) fun v s1 ⟨x, H1, I1, r1, q1⟩ => ?_
  obtain ⟨a, e, ⟨xs, hq⟩, q⟩ := q1
  subst e
  cases r1
  obtain ⟨its, rv, p, hz⟩ := I1.tuple hq
  refine wpAny_pyIter_tuple (show s1.heap.IsTuple a its.toArray from p) ?_
  refine ⟨s1.heap.objs.size, [s1.heap.objs.size], _, _, H1, rfl, I1.kept (t' := s1.toks) fun b o e => Heap.get?_push_of_some _ e, turn_tuple a _, ⟨_, Heap.get?_push_size _ rfl, rfl, rfl⟩, fun b hb => ?_, q⟩
  have e : b = s1.heap.objs.size := by simpa using hb
  subst e
  exact I1.fpOk (Nat.le_refl _) (I1.hok.fresh (Nat.le_refl _))
/-- a range object just made, walked -/
theorem range_it {pins : List (Addr × Obj)} {σ : St} {H : Hp} {s : Shared} {R : It → Hp → Prop} {E : Value → Shared → Prop} {lo hi : Int} {t u v : Tok} {tk : Nat} (I : Inv X pins σ H s) (h1 : -(2 ^ 62) ≤ lo) (h2 : lo < 2 ^ 62) (h3 : -(2 ^ 62) ≤ hi) (h4 : hi < 2 ^ 62)
    (q : R (Itr lo (hi - lo).toNat) H) : wpAny (model X.prog X.w) X.A (pyIter (.ref s.heap.objs.size)) (PIE X pins σ tg R) E { s with heap := s.heap.push { cls := .type "range", data := .fields #[.int lo t, .int hi u, .int 1 v] }, toks := tk } := by
  refine wpAny_pyIter_range (IsRange.new ..) (small_one h1 h2 h3 h4) ?_
  have I1 : Inv X pins σ H { s with heap := s.heap.push { cls := .type "range", data := .fields #[.int lo t, .int hi u, .int 1 v] }, toks := tk } := I.kept fun b o e => Heap.get?_push_of_some _ e
  refine ⟨(s.heap.push { cls := .type "range", data := .fields #[.int lo t, .int hi u, .int 1 v] }).objs.size, [(s.heap.push { cls := .type "range", data := .fields #[.int lo t, .int hi u, .int 1 v] }).objs.size], _, _, H, rfl,
    I1.kept (t' := tk) fun b o e => Heap.get?_push_of_some _ e, turn_range _ lo (hi - lo).toNat, ?_, fun b hb => ?_, q⟩
  · have e1 : lo + ((0 : Nat) : Int) * 1 = lo := by simp
    have e2 : (((hi - lo).toNat : Nat) : Int) - ((0 : Nat) : Int) = Builtin.Range.rangeSize lo hi 1 := by rw [rangeSize_one]; split <;> omega
    show IsRangeIter _ _ (lo + ((0 : Nat) : Int) * 1) ((((hi - lo).toNat : Nat) : Int) - ((0 : Nat) : Int)) 1
    rw [e1, e2]
    exact Heap.get?_push_size _ rfl
  · have e : b = (s.heap.push { cls := .type "range", data := .fields #[.int lo t, .int hi u, .int 1 v] }).objs.size := by simpa using hb
    subst e
    exact I1.fpOk (Nat.le_refl _) (I1.hok.fresh (Nat.le_refl _))
def iRng1 (ta : TA) : TI := fun σ H R => ta σ H fun vs H1 => ∃ j : Int, vs = [.int j] ∧ -(2 ^ 62) ≤ j ∧ j < 2 ^ 62 ∧ R (Itr 0 j.toNat) H1
def iRng2 (ta : TA) : TI := fun σ H R => ta σ H fun vs H1 => ∃ i j : Int, vs = [.int i, .int j] ∧ (-(2 ^ 62) ≤ i ∧ i < 2 ^ 62 ∧ -(2 ^ 62) ≤ j ∧ j < 2 ^ 62) ∧ R (Itr i (j - i).toNat) H1
theorem pi_range1 {a : Expr} {ta : TA} {p pos : Pos} (hg : Gl X "range") (hm : X.mg "range" = none) (ha : PA X [a] ta) (hs : starEach [a] X.env = [(false, eval a X.env)] := by rfl) : PI X tg (.Call (.Name "range" p) [a] [] pos) (iRng1 ta) := by
  intro pins s σ H R I h
  refine Call_ (ld_blt I hg hm boot_range (PyProof.Rows.callWith_type1 (thn (ha pos pins s σ H _ I h) fun us s1 ⟨vs, H1, I1, r1, q1⟩ => ?_) hs rfl))
  obtain ⟨j, e, q1, q2, q⟩ := q1
  subst e
  cases r1 with
  | cons r rr =>
    cases rr
    obtain ⟨t, rfl⟩ := r
    exact call_range_1 (range_it I1 (by omega) (by omega) q1 q2 (by simpa using q))
theorem pi_range2 {a b : Expr} {ta : TA} {p pos : Pos} (hg : Gl X "range") (hm : X.mg "range" = none) (ha : PA X [a, b] ta) (hs : starEach [a, b] X.env = [(false, eval a X.env), (false, eval b X.env)] := by rfl) (hs2 : starEach [b] X.env = [(false, eval b X.env)] := by rfl) :
    PI X tg (.Call (.Name "range" p) [a, b] [] pos) (iRng2 ta) := by
  intro pins s σ H R I h
  refine Call_ (ld_blt I hg hm boot_range (PyProof.Rows.callWith_type1 (thn (ha pos pins s σ H _ I h) fun us s1 ⟨vs, H1, I1, r1, q1⟩ => ?_) (by rw [hs, hs2]) (by rw [hs2]; rfl)))
  obtain ⟨i, j, e, ⟨q1, q2, q3, q4⟩, q⟩ := q1
  subst e
  cases r1 with
  | cons r rr =>
    cases rr with
    | cons r' rr =>
      cases rr
      obtain ⟨t, rfl⟩ := r
      obtain ⟨t', rfl⟩ := r'
      exact call_range_2 (range_it I1 q1 q2 q3 q4 q)

/-! ### for -/
/-- W: the invariant by the turn and a measure; N: what the body is to reach -/
def tFor (wi : TI) (g : TG) (tb : TS) : TS := fun D σ H => wi σ H fun J H1 => ∃ W : Nat → Nat → St → Hp → Prop, (∃ m, W 0 m σ H1) ∧ ∀ i m σ H, W i m σ H →
  (J.stop i H ∧ D.nx σ H) ∨ (J.go i H ∧ ∃ N : St → Hp → Prop, (∀ σ' H', N σ' H' → ∃ m', m' < m ∧ W (i + 1) m' σ' H') ∧ ∀ x H', J.yld i H x H' → g x σ H' fun σ2 H2 => tb { D with nx := N, ct := N, bk := D.nx } σ2 H2)
/-- the records at fp as they stand -/
def pinsAt (fp : List Addr) (h : Heap) : List (Addr × Obj) := fp.filterMap fun b => (h.get? b).map fun o => (b, o)
theorem mem_pinsAt {fp : List Addr} {h : Heap} {b : Addr} {o : Obj} (hb : b ∈ fp) (e : h.get? b = some o) : (b, o) ∈ pinsAt fp h := List.mem_filterMap.mpr ⟨b, hb, by rw [e]; rfl⟩
theorem of_pinsAt {fp : List Addr} {h : Heap} {p : Addr × Obj} (hp : p ∈ pinsAt fp h) : p.1 ∈ fp ∧ h.get? p.1 = some p.2 := by
  obtain ⟨b, hb, e⟩ := List.mem_filterMap.mp hp
  cases q : h.get? b with
  | none => rw [q] at e; cases e
  | some o =>
    rw [q] at e
    have e' : (b, o) = p := Option.some.inj e
    subst e'
    exact ⟨hb, q⟩
theorem Inv.pinned {pins : List (Addr × Obj)} {σ : St} {H : Hp} {s : Shared} {fp : List Addr} (I : Inv X pins σ H s) (hf : ∀ b ∈ fp, FpOk X pins H b) (ho : ∀ b ∈ fp, ∃ o, s.heap.get? b = some o ∧ ∀ v, o.data ≠ .cell v) : Inv X (pins ++ pinsAt fp s.heap) σ H s :=
  I.pins_of fun p hp => (List.mem_append.mp hp).elim (fun z => I.pin p (List.mem_append_right _ z)) fun z => by
    obtain ⟨hb, e⟩ := of_pinsAt z
    obtain ⟨f0, f1, f2, _⟩ := hf p.1 hb
    obtain ⟨o, e', d⟩ := ho p.1 hb
    rw [e] at e'; cases e'
    exact ⟨e, f0, f1, f2, d⟩
theorem Inv.unpinned {pins pl : List (Addr × Obj)} {σ : St} {H : Hp} {s : Shared} (I : Inv X (pins ++ pl) σ H s) : Inv X pins σ H s := I.pins_of fun p hp => I.pin p (List.mem_append_right _ (List.mem_append_left _ hp))
theorem ps_for {iter : Expr} {body : List Stmt} {wi : TI} {g : TG} {tb : TS} {pos : Pos} (hp : PassesOwn (model X.prog X.w) X.A X.env X.xe) (hc : X.calm = true) (hi : PI X tg iter wi) (hg : PG X tg g) (hb : PSs X body tb)
    (hs : ∀ x, foldedSetIterable iter X.env x = pure x := by intro _; rfl) : PS X (.For tg iter body [] pos) (tFor wi g tb) := by
  intro pins s σ H D I h
  refine wpAny_For (thn (hi pins s σ H _ I h) fun v s1 h1 => thn h1 fun itv s2 h2 => ?_) hs
  obtain ⟨it, fp, tn, J, H2, e, I2, T, st2, f2, W, ⟨m0, w0⟩, turn⟩ := h2
  subst e
  -- what stays true of the iterator's objects through the loop
  have stat : ∀ {H' : Hp}, (∀ b ∈ fp, H' b = none) → ∀ b ∈ fp, FpOk X pins H' b := fun hn b hb => ⟨hn b hb, (f2 b hb).2⟩
  refine codeAny_forLoop_any (fun n s' => ∃ i σ' H', Inv X pins σ' H' s' ∧ tn i s'.heap ∧ (∀ b ∈ fp, H' b = none) ∧ W i n σ' H') ?_ m0 ⟨0, σ, H2, I2, st2, fun b hb => (f2 b hb).1, w0⟩
  rintro n s3 ⟨i, σ3, H3, I3, st3, fr3, w3⟩
  rcases turn i n σ3 H3 w3 with ⟨stop, qn⟩ | ⟨go, N, hN, step⟩
  · refine wpAny_passesOwn hp (thn (T.done X rfl rfl rfl hc i pins s3 σ3 H3 X.xe I3 (stat fr3) st3 stop) fun r s4 ⟨hr, I4⟩ => ?_)
    subst hr
    exact wpAny_execs_nil ⟨σ3, H3, I4, qn⟩
  · refine wpAny_passesOwn hp (thn (T.item X rfl rfl rfl hc i pins s3 σ3 H3 X.xe I3 (stat fr3) st3 go) fun r s4 ⟨u, hr, h4⟩ => ?_)
    subst hr
    refine wpAny_passesOwn hp (thn h4 fun _ s5 ⟨x, H5, I5, r5, y5, st5, fr5⟩ => ?_)
    have I5' := I5.pinned (stat fr5) (T.obj _ _ st5)
    refine wpAny_passesOwn hp (thn (hg _ s5 σ3 H5 x u _ I5' r5 (step x H5 y5)) fun _ s6 ⟨σ6, H6, I6, q6⟩ => ?_)
    refine wpAny_passesOwn hp (thn (hb _ s6 σ6 H6 _ I6 q6) fun f s7 q7 => ?_)
    have again : ∀ {σ7 : St} {H7 : Hp}, Inv X (pins ++ pinsAt fp s5.heap) σ7 H7 s7 → N σ7 H7 → ∃ m, m < n ∧ ∃ i σ' H', Inv X pins σ' H' s7 ∧ tn i s7.heap ∧ (∀ b ∈ fp, H' b = none) ∧ W i m σ' H' := fun {σ7 H7} I7 n7 => by
      obtain ⟨m', hm, w7⟩ := hN σ7 H7 n7
      refine ⟨m', hm, i + 1, σ7, H7, I7.unpinned, T.keep _ _ _ st5 fun b hb o e => (I7.pin (b, o) (List.mem_append_right _ (List.mem_append_right _ (mem_pinsAt hb e)))).1, fun b hb => ?_, w7⟩
      obtain ⟨o, e, d⟩ := T.obj _ _ st5 b hb
      exact (I7.pin (b, o) (List.mem_append_right _ (List.mem_append_right _ (mem_pinsAt hb e)))).2.1
    cases f with
    | next => obtain ⟨σ7, H7, I7, n7⟩ := q7; exact again I7 n7
    | cont => obtain ⟨σ7, H7, I7, n7⟩ := q7; exact again I7 n7
    | brk => obtain ⟨σ7, H7, I7, q7⟩ := q7; exact ⟨σ7, H7, I7.unpinned, q7⟩
    | ret v => obtain ⟨x7, σ7, H7, I7, r7, q7⟩ := q7; exact ⟨x7, σ7, H7, I7.unpinned, r7, q7⟩
end

/-! ### the forms one uses -/
/-- over a list that the body leaves as it is -/
theorem for_list {K : PySem.W.Frag} {a : Addr} {xs : List V} {g : TG} {tb : TS} {D : Ends} {σ : St} {H : Hp} (Pv : Nat → St → Hp → Prop) (h0 : Pv 0 σ H) (hl : ∀ i σ H, i ≤ xs.length → Pv i σ H → SqL K H a xs)
    (hs : ∀ i x σ H, xs[i]? = some x → Pv i σ H → g x σ H fun σ2 H2 => tb { D with nx := Pv (i + 1), ct := Pv (i + 1), bk := D.nx } σ2 H2) (hd : ∀ σ H, Pv xs.length σ H → D.nx σ H) :
    ∃ W : Nat → Nat → St → Hp → Prop, (∃ m, W 0 m σ H) ∧ ∀ i m σ H, W i m σ H →
      ((Itl K a).stop i H ∧ D.nx σ H) ∨ ((Itl K a).go i H ∧ ∃ N : St → Hp → Prop, (∀ σ' H', N σ' H' → ∃ m', m' < m ∧ W (i + 1) m' σ' H') ∧ ∀ x H', (Itl K a).yld i H x H' → g x σ H' fun σ2 H2 => tb { D with nx := N, ct := N, bk := D.nx } σ2 H2) := by
  refine ⟨fun i m σ H => m = xs.length - i ∧ i ≤ xs.length ∧ Pv i σ H, ⟨xs.length, by simp, Nat.zero_le _, h0⟩, ?_⟩
  rintro i m σ H ⟨rfl, hi, p⟩
  have q := hl i σ H hi p
  by_cases hlt : i < xs.length
  · refine .inr ⟨⟨xs, xs[i], q, by simp [hlt]⟩, Pv (i + 1), fun σ' H' p' => ⟨xs.length - (i + 1), by omega, rfl, hlt, p'⟩, fun x H' y => ?_⟩
    obtain ⟨e, y⟩ := y
    subst e
    exact hs i x σ _ (y xs q) p
  · have e : i = xs.length := by omega
    subst e
    exact .inl ⟨⟨xs, q, Nat.le_refl _⟩, hd σ H p⟩
theorem for_tup {K : PySem.W.Frag} {a : Addr} {xs : List V} {g : TG} {tb : TS} {D : Ends} {σ : St} {H : Hp} (Pv : Nat → St → Hp → Prop) (h0 : Pv 0 σ H) (hl : ∀ i σ H, i ≤ xs.length → Pv i σ H → SqT K H a xs)
    (hs : ∀ i x σ H, xs[i]? = some x → Pv i σ H → g x σ H fun σ2 H2 => tb { D with nx := Pv (i + 1), ct := Pv (i + 1), bk := D.nx } σ2 H2) (hd : ∀ σ H, Pv xs.length σ H → D.nx σ H) :
    ∃ W : Nat → Nat → St → Hp → Prop, (∃ m, W 0 m σ H) ∧ ∀ i m σ H, W i m σ H →
      ((Itt K a).stop i H ∧ D.nx σ H) ∨ ((Itt K a).go i H ∧ ∃ N : St → Hp → Prop, (∀ σ' H', N σ' H' → ∃ m', m' < m ∧ W (i + 1) m' σ' H') ∧ ∀ x H', (Itt K a).yld i H x H' → g x σ H' fun σ2 H2 => tb { D with nx := N, ct := N, bk := D.nx } σ2 H2) := by
  refine ⟨fun i m σ H => m = xs.length - i ∧ i ≤ xs.length ∧ Pv i σ H, ⟨xs.length, by simp, Nat.zero_le _, h0⟩, ?_⟩
  rintro i m σ H ⟨rfl, hi, p⟩
  have q := hl i σ H hi p
  by_cases hlt : i < xs.length
  · refine .inr ⟨⟨xs, xs[i], q, by simp [hlt]⟩, Pv (i + 1), fun σ' H' p' => ⟨xs.length - (i + 1), by omega, rfl, hlt, p'⟩, fun x H' y => ?_⟩
    obtain ⟨e, y⟩ := y
    subst e
    exact hs i x σ _ (y xs q) p
  · have e : i = xs.length := by omega
    subst e
    exact .inl ⟨⟨xs, q, Nat.le_refl _⟩, hd σ H p⟩
theorem for_range {lo : Int} {n : Nat} {g : TG} {tb : TS} {D : Ends} {σ : St} {H : Hp} (Pv : Nat → St → Hp → Prop) (h0 : Pv 0 σ H)
    (hs : ∀ i σ H, i < n → Pv i σ H → g (.int (lo + i)) σ H fun σ2 H2 => tb { D with nx := Pv (i + 1), ct := Pv (i + 1), bk := D.nx } σ2 H2) (hd : ∀ σ H, Pv n σ H → D.nx σ H) :
    ∃ W : Nat → Nat → St → Hp → Prop, (∃ m, W 0 m σ H) ∧ ∀ i m σ H, W i m σ H →
      ((Itr lo n).stop i H ∧ D.nx σ H) ∨ ((Itr lo n).go i H ∧ ∃ N : St → Hp → Prop, (∀ σ' H', N σ' H' → ∃ m', m' < m ∧ W (i + 1) m' σ' H') ∧ ∀ x H', (Itr lo n).yld i H x H' → g x σ H' fun σ2 H2 => tb { D with nx := N, ct := N, bk := D.nx } σ2 H2) := by
  refine ⟨fun i m σ H => m = n - i ∧ i ≤ n ∧ Pv i σ H, ⟨n, by simp, Nat.zero_le _, h0⟩, ?_⟩
  rintro i m σ H ⟨rfl, hi, p⟩
  by_cases hlt : i < n
  · refine .inr ⟨hlt, Pv (i + 1), fun σ' H' p' => ⟨n - (i + 1), by omega, rfl, hlt, p'⟩, fun x H' y => ?_⟩
    obtain ⟨e, y⟩ := y
    subst e y
    exact hs i σ _ hlt p
  · have e : i = n := by omega
    subst e
    exact .inl ⟨Nat.le_refl _, hd σ H p⟩
/-- while, by a word and a measure of the state -/
theorem while_by {c : TT} {tb : TS} {D : Ends} {σ : St} {H : Hp} (Pv : St → Hp → Prop) (μ : St → Hp → Nat) (h0 : Pv σ H)
    (hs : ∀ σ H, Pv σ H → c σ H fun b H1 => if b = true then tb { D with nx := fun σ' H' => Pv σ' H' ∧ μ σ' H' < μ σ H, ct := fun σ' H' => Pv σ' H' ∧ μ σ' H' < μ σ H, bk := D.nx } σ H1 else D.nx σ H1)
    (mono : ∀ σ H Q Q', (∀ b H1, Q b H1 → Q' b H1) → c σ H Q → c σ H Q') : tWhile c tb D σ H := by
  refine ⟨fun m σ H => m = μ σ H ∧ Pv σ H, ⟨_, rfl, h0⟩, ?_⟩
  rintro m σ H ⟨rfl, p⟩
  refine mono σ H _ _ (fun b H1 q => ?_) (hs σ H p)
  cases b with
  | true => exact ⟨_, fun σ' H' ⟨p', l⟩ => ⟨_, l, rfl, p'⟩, q⟩
  | false => exact q
end L2

namespace L2
open PySem PySem.Spec PyProof.Rows

abbrev R2 := V → V → Hp → VK → Prop
/-- a two-place operation on values: f is binaryOp op, inplaceOp op or compareOp op -/
def OpR (X : Cx) (f : Value → Value → Sem Value) (r : R2) : Prop :=
  ∀ (pins : List (Addr × Obj)) (s : Shared) (σ : St) (H : Hp) (x y : V) (v u : Value) (Q : VK), Inv X pins σ H s → RelV x v → RelV y u → r x y H Q →
    wpAny (model X.prog X.w) X.A (f v u) (EP X pins σ Q) X.xe s
/-- a one-place operation -/
def UnR (X : Cx) (f : Value → Sem Value) (r : V → Hp → VK → Prop) : Prop :=
  ∀ (pins : List (Addr × Obj)) (s : Shared) (σ : St) (H : Hp) (x : V) (v : Value) (Q : VK), Inv X pins σ H s → RelV x v → r x H Q →
    wpAny (model X.prog X.w) X.A (f v) (EP X pins σ Q) X.xe s
/-- a call of a value that is known (a builtin, a type) with values -/
def CallR (X : Cx) (f : Value) (r : List V → Hp → VK → Prop) : Prop :=
  ∀ (pins : List (Addr × Obj)) (s : Shared) (σ : St) (H : Hp) (xs : List V) (us : List Value) (Q : VK), Inv X pins σ H s → Vals xs us → r xs H Q →
    wpAny (model X.prog X.w) X.A (call f us) (EP X pins σ Q) X.xe s
/-- a value's truth -/
def TruR (X : Cx) (r : V → Hp → (Bool → Hp → Prop) → Prop) : Prop :=
  ∀ (pins : List (Addr × Obj)) (s : Shared) (σ : St) (H : Hp) (x : V) (v : Value) (Q : Bool → Hp → Prop), Inv X pins σ H s → RelV x v → r x H Q →
    wpAny (model X.prog X.w) X.A (truthy v) (TP X pins σ Q) X.xe s

def tOp (r : R2) (ta tb : TE) : TE := fun σ H Q => ta σ H fun x H1 => tb σ H1 fun y H2 => r x y H2 Q
def tUn (r : V → Hp → VK → Prop) (ta : TE) : TE := fun σ H Q => ta σ H fun x H1 => r x H1 Q
/-- ints in, under C, and a value out -/
def rI (C : Int → Int → Prop) (g : Int → Int → V) : R2 := fun x y H Q => ∃ i j, x = .int i ∧ y = .int j ∧ C i j ∧ Q (g i j) H
def rI0 (g : Int → Int → V) : R2 := fun x y H Q => ∃ i j, x = .int i ∧ y = .int j ∧ Q (g i j) H
def rU (g : Int → V) : V → Hp → VK → Prop := fun x H Q => ∃ i, x = .int i ∧ Q (g i) H

section
variable {X : Cx} {a b c : Expr} {ta tb tc : TE} {pos : Pos}

theorem binT (ha : PE X a ta) (hb : PE X b tb) {pins : List (Addr × Obj)} {s : Shared} {σ : St} {H : Hp} {R : V → V → Hp → Prop} (I : Inv X pins σ H s)
    (h : ta σ H fun x H1 => tb σ H1 fun y H2 => R x y H2) {Q : Value → Shared → Prop} {f : Value → Value → Sem Value}
    (hf : ∀ v u s2 x y H2, Inv X pins σ H2 s2 → RelV x v → RelV y u → R x y H2 → wpAny (model X.prog X.w) X.A (f v u) Q X.xe s2) :
    wpAny (model X.prog X.w) X.A (eval a X.env) (fun v s₁ => wpAny (model X.prog X.w) X.A (eval b X.env) (fun u s₂ => wpAny (model X.prog X.w) X.A (f v u) Q X.xe s₂) X.xe s₁) X.xe s := by
  refine thn (ha pins s σ H _ I h) fun v s1 ⟨x, H1, I1, r1, q1⟩ => ?_
  refine thn (hb pins s1 σ H1 _ I1 q1) fun u s2 ⟨y, H2, I2, r2, q2⟩ => ?_
  exact hf v u s2 x y H2 I2 r1 r2 q2

theorem pe_op {op : Operator} {r : R2} (ho : OpR X (binaryOp op) r) (ha : PE X a ta) (hb : PE X b tb) : PE X (.BinOp a op b pos) (tOp r ta tb) := by
  intro pins s σ H Q I h
  exact wpAny_BinOp (binT ha hb I h fun v u s2 x y H2 I2 rx ry q => ho pins s2 σ H2 x y v u Q I2 rx ry q)
theorem pe_un {op : UnaryOp} {r : V → Hp → VK → Prop} (ho : UnR X (unaryOp op) r) (ha : PE X a ta) : PE X (.UnaryOp op a pos) (tUn r ta) := by
  intro pins s σ H Q I h
  exact UnaryOp_ (thn (ha pins s σ H _ I h) fun v s1 ⟨x, H1, I1, r1, q1⟩ => ho pins s1 σ H1 x v Q I1 r1 q1)
/-- a op= e at a name: the name's slot i -/
theorem augR {op : Operator} {r : R2} (ho : OpR X (inplaceOp op) r) {pins : List (Addr × Obj)} {s : Shared} {σ : St} {H : Hp} {x y : V} {v u : Value} {Q : VK} (I : Inv X pins σ H s)
    (rx : RelV x v) (ry : RelV y u) (q : r x y H Q) : wpAny (model X.prog X.w) X.A (inplaceOp op v u) (EP X pins σ Q) X.xe s := ho pins s σ H x y v u Q I rx ry q

/-! ### ints -/
theorem opI {f : Value → Value → Sem Value} {C : Int → Int → Prop} {g : Int → Int → Int}
    (rule : ∀ (i j : Int) (t u : Tok) (s : Shared) (Q : Value → Shared → Prop) (E : Value → Shared → Prop), C i j → Q (.int (g i j) s.toks) { s with toks := s.toks + 1 } → wpAny (model X.prog X.w) X.A (f (.int i t) (.int j u)) Q E s) :
    OpR X f (rI C fun i j => .int (g i j)) := by
  intro pins s σ H x y v u Q I rx ry h
  obtain ⟨i, j, rfl, rfl, hc, q⟩ := h
  obtain ⟨t, rfl⟩ := rx
  obtain ⟨t', rfl⟩ := ry
  exact rule i j t t' s _ _ hc ⟨.int (g i j), H, I.tok _, ⟨_, rfl⟩, q⟩
theorem opI0 {f : Value → Value → Sem Value} {g : Int → Int → Int}
    (rule : ∀ (i j : Int) (t u : Tok) (s : Shared) (Q : Value → Shared → Prop) (E : Value → Shared → Prop), Q (.int (g i j) s.toks) { s with toks := s.toks + 1 } → wpAny (model X.prog X.w) X.A (f (.int i t) (.int j u)) Q E s) :
    OpR X f (rI0 fun i j => .int (g i j)) := by
  intro pins s σ H x y v u Q I rx ry h
  obtain ⟨i, j, rfl, rfl, q⟩ := h
  obtain ⟨t, rfl⟩ := rx
  obtain ⟨t', rfl⟩ := ry
  exact rule i j t t' s _ _ ⟨.int (g i j), H, I.tok _, ⟨_, rfl⟩, q⟩
theorem opB0 {f : Value → Value → Sem Value} {g : Int → Int → Bool}
    (rule : ∀ (i j : Int) (t u : Tok) (s : Shared) (Q : Value → Shared → Prop) (E : Value → Shared → Prop), Q (.bool (g i j)) s → wpAny (model X.prog X.w) X.A (f (.int i t) (.int j u)) Q E s) :
    OpR X f (rI0 fun i j => .bl (g i j)) := by
  intro pins s σ H x y v u Q I rx ry h
  obtain ⟨i, j, rfl, rfl, q⟩ := h
  obtain ⟨t, rfl⟩ := rx
  obtain ⟨t', rfl⟩ := ry
  exact rule i j t t' s _ _ ⟨.bl (g i j), H, I, rfl, q⟩

def CDiv (i j : Int) : Prop := 0 < j ∧ j < 1073741824
def CDivN (i j : Int) : Prop := j ≠ 0 ∧ j.natAbs < 1073741824
def CPow (i j : Int) : Prop := 0 ≤ j ∧ j ≤ 1000000 ∧ i.natAbs < 2 ^ 64
def CMul (i j : Int) : Prop := (-(2 ^ 64) < i ∧ i < 2 ^ 64) ∨ (-(2 ^ 64) < j ∧ j < 2 ^ 64)
theorem CMul.ok {i j : Int} (h : CMul i j) : IntMulOk i j := by
  rcases h with ⟨h1, h2⟩ | ⟨h1, h2⟩
  · exact .of_left (intBits_le_64 h1 h2)
  · exact .of_right (intBits_le_64 h1 h2)
theorem two_pow_nn (k : Nat) : (0 : Int) ≤ 2 ^ k := by
  rw [two_pow_cast]
  exact Int.natCast_nonneg _

theorem op_add : OpR X (binaryOp .Add) (rI0 fun i j => .int (i + j)) := opI0 fun _ _ _ _ _ _ _ q => add_int q
theorem op_sub : OpR X (binaryOp .Sub) (rI0 fun i j => .int (i - j)) := opI0 fun _ _ _ _ _ _ _ q => sub_int q
theorem op_mul : OpR X (binaryOp .Mult) (rI CMul fun i j => .int (i * j)) := opI fun _ _ _ _ _ _ _ hc q => mul_int q hc.ok
/-- // by a positive divisor -/
theorem op_fdiv : OpR X (binaryOp .FloorDiv) (rI CDiv fun i j => .int (i / j)) := opI fun i j _ _ _ _ _ hc q => by
  have h1 : (0 : Int) < j := hc.1
  have h2 : j < 1073741824 := hc.2
  exact floordiv_int (by omega) (by rw [Int.fdiv_eq_ediv_of_nonneg i (by omega)]; exact q) (.inl (PyProof.noPylong_small (by omega)))
theorem op_fdivN : OpR X (binaryOp .FloorDiv) (rI CDivN fun i j => .int (i.fdiv j)) := opI fun _ _ _ _ _ _ _ hc q => floordiv_int hc.1 q (.inl (PyProof.noPylong_small hc.2))
/-- % by a positive divisor of any size -/
theorem op_mod : OpR X (binaryOp .Mod) (rI (fun _ j => 0 < j) fun i j => .int (i % j)) := opI fun i j _ _ _ _ _ hc q => by
  have h1 : (0 : Int) < j := hc
  exact mod_int' (by omega) (by rw [Int.fmod_eq_emod_of_nonneg i (by omega)]; exact q)
theorem op_modN : OpR X (binaryOp .Mod) (rI (fun _ j => j ≠ 0) fun i j => .int (i.fmod j)) := opI fun _ _ _ _ _ _ _ hc q => mod_int' hc q
theorem op_pow : OpR X (binaryOp .Pow) (rI CPow fun i j => .int (i ^ j.toNat)) := opI fun _ _ _ _ _ _ _ hc q => pow_int_small hc.1 hc.2.1 hc.2.2 q
theorem op_shl : OpR X (binaryOp .LShift) (rI CPow fun i j => .int (i * 2 ^ j.toNat)) := opI fun _ _ _ _ _ _ _ hc q => lshift_int_small hc.1 hc.2.1 hc.2.2 q
theorem op_shr : OpR X (binaryOp .RShift) (rI (fun _ j => 0 ≤ j) fun i j => .int (i / 2 ^ j.toNat)) := opI fun i j _ _ _ _ _ hc q =>
  rshift_int hc (by rw [Int.fdiv_eq_ediv_of_nonneg i (two_pow_nn _)]; exact q)
theorem op_and : OpR X (binaryOp .BitAnd) (rI0 fun i j => .int (Builtin.bitAnd i j)) := opI0 fun _ _ _ _ _ _ _ q => and_int q
theorem op_or : OpR X (binaryOp .BitOr) (rI0 fun i j => .int (Builtin.bitOr i j)) := opI0 fun _ _ _ _ _ _ _ q => or_int q
theorem op_xor : OpR X (binaryOp .BitXor) (rI0 fun i j => .int (Builtin.bitXor i j)) := opI0 fun _ _ _ _ _ _ _ q => xor_int q

theorem iop_add : OpR X (inplaceOp .Add) (rI0 fun i j => .int (i + j)) := opI0 fun _ _ _ _ _ _ _ q => iadd_int q
theorem iop_sub : OpR X (inplaceOp .Sub) (rI0 fun i j => .int (i - j)) := opI0 fun _ _ _ _ _ _ _ q => isub_int q
theorem iop_mul : OpR X (inplaceOp .Mult) (rI CMul fun i j => .int (i * j)) := opI fun _ _ _ _ _ _ _ hc q => imul_int q hc.ok
theorem iop_fdiv : OpR X (inplaceOp .FloorDiv) (rI CDiv fun i j => .int (i / j)) := opI fun i j _ _ _ _ _ hc q => by
  have h1 : (0 : Int) < j := hc.1
  have h2 : j < 1073741824 := hc.2
  exact ifloordiv_int (by omega) (by rw [Int.fdiv_eq_ediv_of_nonneg i (by omega)]; exact q) (.inl (PyProof.noPylong_small (by omega)))
theorem iop_mod : OpR X (inplaceOp .Mod) (rI (fun _ j => 0 < j) fun i j => .int (i % j)) := opI fun i j _ _ _ _ _ hc q => by
  have h1 : (0 : Int) < j := hc
  exact imod_int (by omega) (by rw [Int.fmod_eq_emod_of_nonneg i (by omega)]; exact q)
theorem iop_shl : OpR X (inplaceOp .LShift) (rI CPow fun i j => .int (i * 2 ^ j.toNat)) := opI fun _ _ _ _ _ _ _ hc q => ilshift_int_small hc.1 hc.2.1 hc.2.2 q
theorem iop_shr : OpR X (inplaceOp .RShift) (rI (fun _ j => 0 ≤ j) fun i j => .int (i / 2 ^ j.toNat)) := opI fun i j _ _ _ _ _ hc q =>
  irshift_int hc (by rw [Int.fdiv_eq_ediv_of_nonneg i (two_pow_nn _)]; exact q)
theorem iop_and : OpR X (inplaceOp .BitAnd) (rI0 fun i j => .int (Builtin.bitAnd i j)) := opI0 fun _ _ _ _ _ _ _ q => iand_int q
theorem iop_or : OpR X (inplaceOp .BitOr) (rI0 fun i j => .int (Builtin.bitOr i j)) := opI0 fun _ _ _ _ _ _ _ q => ior_int q
theorem iop_xor : OpR X (inplaceOp .BitXor) (rI0 fun i j => .int (Builtin.bitXor i j)) := opI0 fun _ _ _ _ _ _ _ q => ixor_int q

theorem unI {f : Value → Sem Value} {g : Int → Int}
    (rule : ∀ (i : Int) (t : Tok) (s : Shared) (Q : Value → Shared → Prop) (E : Value → Shared → Prop), Q (.int (g i) s.toks) { s with toks := s.toks + 1 } → wpAny (model X.prog X.w) X.A (f (.int i t)) Q E s) :
    UnR X f (rU fun i => .int (g i)) := by
  intro pins s σ H x v Q I rx h
  obtain ⟨i, rfl, q⟩ := h
  obtain ⟨t, rfl⟩ := rx
  exact rule i t s _ _ ⟨.int (g i), H, I.tok _, ⟨_, rfl⟩, q⟩
theorem un_neg : UnR X (unaryOp .USub) (rU fun i => .int (-i)) := unI fun _ _ _ _ _ q => neg_int q
theorem un_inv : UnR X (unaryOp .Invert) (rU fun i => .int (Builtin.bitNot i)) := unI fun _ _ _ _ _ q => invert_int q

/-! ### bools among ints: n += (a < b) -/
theorem op_add_ib : OpR X (binaryOp .Add) (fun x y H Q => ∃ i k, x = .int i ∧ y = .bl k ∧ Q (.int (i + b2i k)) H) := by
  intro pins s σ H x y v u Q I rx ry h
  obtain ⟨i, k, rfl, rfl, q⟩ := h
  obtain ⟨t, rfl⟩ := rx
  cases ry
  exact add_int_bool ⟨.int (i + b2i k), H, I.tok _, ⟨_, rfl⟩, q⟩
end

/-! ### comparisons -/
/-- the scalars that == tells apart as data does -/
def scal : V → V → Bool
  | .non, .non => true | .non, .int _ => true | .int _, .non => true | .non, .bl _ => true | .bl _, .non => true | .non, .str _ => true | .str _, .non => true
  | .int _, .int _ => true | .bl _, .bl _ => true | .str _, .str _ => true | .byt _, .byt _ => true
  | .int _, .str _ => true | .str _, .int _ => true | .bl _, .str _ => true | .str _, .bl _ => true
  | _, _ => false
def rEq : R2 := fun x y H Q => scal x y = true ∧ Q (.bl (decide (x = y))) H
def rNe : R2 := fun x y H Q => scal x y = true ∧ Q (.bl (!decide (x = y))) H

theorem dec_int {i j : Int} : decide (V.int i = V.int j) = (i == j) := by
  rw [Bool.eq_iff_iff]
  simp
theorem dec_bl {i j : Bool} : decide (V.bl i = V.bl j) = (i == j) := by
  rw [Bool.eq_iff_iff]
  simp
theorem dec_str {i j : Str} : decide (V.str i = V.str j) = (i == j) := by
  rw [Bool.eq_iff_iff]
  simp
theorem dec_byt {i j : Array UInt8} : decide (V.byt i = V.byt j) = (i.toList == j.toList) := by
  rw [Bool.eq_iff_iff]
  cases i
  cases j
  simp

section
variable {X : Cx} {a b c : Expr} {ta tb tc : TE} {pos : Pos}
theorem fin_bl {pins : List (Addr × Obj)} {σ : St} {H : Hp} {s : Shared} {Q : VK} {k k' : Bool} (I : Inv X pins σ H s) (q : Q (.bl k) H) (e : k = k') : EP X pins σ Q (.bool k') s := by
  subst e
  exact ⟨.bl k, H, I, rfl, q⟩
theorem op_eq : OpR X (compareOp .Eq) rEq := by
  intro pins s σ H x y v u Q I rx ry h
  obtain ⟨hs, q⟩ := h
  cases x with
  | non =>
    cases rx
    cases y with
    | non => cases ry; exact PySem.EqNone.eq_none_none (fin_bl I q (by simp))
    | bl j => cases ry; exact PySem.EqNone.eq_none_bool (fin_bl I q (by simp))
    | int j => obtain ⟨t', rfl⟩ := ry; exact PySem.EqNone.eq_none_int (fin_bl I q (by simp))
    | str j => obtain ⟨t', rfl⟩ := ry; exact PySem.EqNone.eq_none_str (fin_bl I q (by simp))
    | _ => exact absurd (show false = true from hs) Bool.false_ne_true
  | bl i =>
    cases rx
    cases y with
    | non => cases ry; exact PySem.EqNone.eq_bool_none (fin_bl I q (by simp))
    | bl j => cases ry; exact eq_bool (fin_bl I q dec_bl)
    | str j => obtain ⟨t', rfl⟩ := ry; exact PySem.EqMixed.eq_bool_str (fin_bl I q (by simp))
    | _ => exact absurd (show false = true from hs) Bool.false_ne_true
  | int i =>
    obtain ⟨t, rfl⟩ := rx
    cases y with
    | non => cases ry; exact PySem.EqNone.eq_int_none (fin_bl I q (by simp))
    | int j => obtain ⟨t', rfl⟩ := ry; exact eq_int (fin_bl I q dec_int)
    | str j => obtain ⟨t', rfl⟩ := ry; exact PySem.EqMixed.eq_int_str (fin_bl I q (by simp))
    | _ => exact absurd (show false = true from hs) Bool.false_ne_true
  | str i =>
    obtain ⟨t, rfl⟩ := rx
    cases y with
    | non => cases ry; exact PySem.EqNone.eq_str_none (fin_bl I q (by simp))
    | bl j => cases ry; exact PySem.EqMixed.eq_str_bool (fin_bl I q (by simp))
    | int j => obtain ⟨t', rfl⟩ := ry; exact PySem.EqMixed.eq_str_int (fin_bl I q (by simp))
    | str j => obtain ⟨t', rfl⟩ := ry; exact eq_str (fin_bl I q dec_str)
    | _ => exact absurd (show false = true from hs) Bool.false_ne_true
  | byt i =>
    obtain ⟨t, rfl⟩ := rx
    cases y with
    | byt j => obtain ⟨t', rfl⟩ := ry; exact PySem.W.eq_bytes (fin_bl I q dec_byt)
    | _ => exact absurd (show false = true from hs) Bool.false_ne_true
  | _ => cases y <;> exact absurd (show false = true from hs) Bool.false_ne_true
theorem op_ne : OpR X (compareOp .NotEq) rNe := by
  intro pins s σ H x y v u Q I rx ry h
  obtain ⟨hs, q⟩ := h
  cases x with
  | non =>
    cases rx
    cases y with
    | non => cases ry; exact PySem.EqNone.ne_none_none (fin_bl I q (by simp))
    | bl j => cases ry; exact PySem.EqNone.ne_none_bool (fin_bl I q (by simp))
    | int j => obtain ⟨t', rfl⟩ := ry; exact PySem.EqNone.ne_none_int (fin_bl I q (by simp))
    | str j => obtain ⟨t', rfl⟩ := ry; exact PySem.EqNone.ne_none_str (fin_bl I q (by simp))
    | _ => exact absurd (show false = true from hs) Bool.false_ne_true
  | bl i =>
    cases rx
    cases y with
    | non => cases ry; exact PySem.EqNone.ne_bool_none (fin_bl I q (by simp))
    | bl j => cases ry; exact ne_bool (fin_bl I q (congrArg not dec_bl))
    | str j => obtain ⟨t', rfl⟩ := ry; exact PySem.EqMixed.ne_bool_str (fin_bl I q (by simp))
    | _ => exact absurd (show false = true from hs) Bool.false_ne_true
  | int i =>
    obtain ⟨t, rfl⟩ := rx
    cases y with
    | non => cases ry; exact PySem.EqNone.ne_int_none (fin_bl I q (by simp))
    | int j => obtain ⟨t', rfl⟩ := ry; exact ne_int (fin_bl I q (congrArg not dec_int))
    | str j => obtain ⟨t', rfl⟩ := ry; exact PySem.EqMixed.ne_int_str (fin_bl I q (by simp))
    | _ => exact absurd (show false = true from hs) Bool.false_ne_true
  | str i =>
    obtain ⟨t, rfl⟩ := rx
    cases y with
    | non => cases ry; exact PySem.EqNone.ne_str_none (fin_bl I q (by simp))
    | bl j => cases ry; exact PySem.EqMixed.ne_str_bool (fin_bl I q (by simp))
    | int j => obtain ⟨t', rfl⟩ := ry; exact PySem.EqMixed.ne_str_int (fin_bl I q (by simp))
    | str j => obtain ⟨t', rfl⟩ := ry; exact ne_str (fin_bl I q (congrArg not dec_str))
    | _ => exact absurd (show false = true from hs) Bool.false_ne_true
  | byt i =>
    obtain ⟨t, rfl⟩ := rx
    cases y with
    | byt j => obtain ⟨t', rfl⟩ := ry; exact PySem.W.ne_bytes (fin_bl I q (congrArg not dec_byt))
    | _ => exact absurd (show false = true from hs) Bool.false_ne_true
  | _ => cases y <;> exact absurd (show false = true from hs) Bool.false_ne_true

theorem op_lt : OpR X (compareOp .Lt) (rI0 fun i j => .bl (decide (i < j))) := opB0 fun _ _ _ _ _ _ _ q => lt_int q
theorem op_le : OpR X (compareOp .LtE) (rI0 fun i j => .bl (decide (i ≤ j))) := opB0 fun _ _ _ _ _ _ _ q => le_int q
theorem op_gt : OpR X (compareOp .Gt) (rI0 fun i j => .bl (decide (j < i))) := opB0 fun _ _ _ _ _ _ _ q => gt_int q
theorem op_ge : OpR X (compareOp .GtE) (rI0 fun i j => .bl (decide (j ≤ i))) := opB0 fun _ _ _ _ _ _ _ q => ge_int q
theorem op_lt_str : OpR X (compareOp .Lt) (fun x y H Q => ∃ i j, x = .str i ∧ y = .str j ∧ Q (.bl (decide (i.cps.toList < j.cps.toList))) H) := by
  intro pins s σ H x y v u Q I rx ry h
  obtain ⟨i, j, rfl, rfl, q⟩ := h
  obtain ⟨t, rfl⟩ := rx
  obtain ⟨t', rfl⟩ := ry
  exact lt_str (fin_bl I q rfl)
/-- the one string within the other -/
theorem op_in_str : OpR X (compareOp .In) (fun x y H Q => ∃ i j, x = .str i ∧ y = .str j ∧ Q (.bl (!(Builtin.Str.occurrences j i 0 j.length 1).isEmpty)) H) := by
  intro pins s σ H x y v u Q I rx ry h
  obtain ⟨i, j, rfl, rfl, q⟩ := h
  obtain ⟨t, rfl⟩ := rx
  obtain ⟨t', rfl⟩ := ry
  exact in_str (fin_bl I q rfl)

/-- is None, is not None: the right side a value none -/
theorem op_isN : OpR X (compareOp .Is) (fun x y H Q => y = .non ∧ Q (.bl (decide (x = .non))) H) := by
  intro pins s σ H x y v u Q I rx ry h
  obtain ⟨rfl, q⟩ := h
  cases ry
  refine is_none_gen (fin_bl I q ?_)
  cases x <;> first
    | (cases rx; rfl)
    | (obtain ⟨t, rfl⟩ := rx; rfl)
theorem op_notN : OpR X (compareOp .IsNot) (fun x y H Q => y = .non ∧ Q (.bl (!decide (x = .non))) H) := by
  intro pins s σ H x y v u Q I rx ry h
  obtain ⟨rfl, q⟩ := h
  cases ry
  refine isnot_none_gen (fin_bl I q ?_)
  cases x <;> first
    | (cases rx; rfl)
    | (obtain ⟨t, rfl⟩ := rx; rfl)

theorem op_notin_str : OpR X (compareOp .NotIn) (fun x y H Q => ∃ i j, x = .str i ∧ y = .str j ∧ Q (.bl (!(!(Builtin.Str.occurrences j i 0 j.length 1).isEmpty))) H) := by
  intro pins s σ H x y v u Q I rx ry h
  obtain ⟨i, j, rfl, rfl, q⟩ := h
  obtain ⟨t, rfl⟩ := rx
  obtain ⟨t', rfl⟩ := ry
  exact notIn_str (fin_bl I q rfl)
/-- is, is not of two objects that are tracked lists or instances -/
def isObj : HO → Bool
  | .lst _ => true
  | .ins _ _ _ => true
  | _ => false
theorem obj_there {pins : List (Addr × Obj)} {s : Shared} {σ : St} {H : Hp} {a : Addr} {o : HO} (I : Inv X pins σ H s) (h : H a = some o) (p : isObj o = true) : ∃ ob, s.heap.get? a = some ob ∧ ob.cls ≠ .type "tuple" := by
  cases o with
  | lst xs =>
    obtain ⟨_, its, n, _, e⟩ : xs.length ≤ sizeLine ∧ ∃ (its : List Value) (n : Nat), Vals xs its ∧ s.heap.get? a = some { cls := .type "list", data := .seq its.toArray n } := I.hok a _ h
    exact ⟨_, e, (by show Value.type "list" ≠ .type "tuple"; decide +kernel)⟩
  | ins C dx fs =>
    have x := I.hok a _ h
    obtain ⟨_, _, _, e, _⟩ := x
    exact ⟨_, e, (by show Value.ref C ≠ .type "tuple"; exact fun z => by cases z)⟩
  | _ => exact absurd (show false = true from p) Bool.false_ne_true
theorem op_is_ref : OpR X (compareOp .Is) (fun x y H Q => ∃ a b oa ob, x = .ref a ∧ y = .ref b ∧ H a = some oa ∧ isObj oa = true ∧ H b = some ob ∧ isObj ob = true ∧ Q (.bl (decide (a = b))) H) := by
  intro pins s σ H x y v u Q I rx ry h
  obtain ⟨a, b, oa, ob, rfl, rfl, ha, pa, hb, pb, q⟩ := h
  cases rx
  cases ry
  obtain ⟨o1, e1, n1⟩ := obj_there I ha pa
  obtain ⟨o2, e2, _⟩ := obj_there I hb pb
  by_cases z : a = b
  · subst z
    exact wpAny_is_ref_self (fin_bl I q (by simp))
  · exact wpAny_is_ref_other z e1 e2 n1 (fin_bl I q (by simp [z]))
theorem op_isnot_ref : OpR X (compareOp .IsNot) (fun x y H Q => ∃ a b oa ob, x = .ref a ∧ y = .ref b ∧ H a = some oa ∧ isObj oa = true ∧ H b = some ob ∧ isObj ob = true ∧ Q (.bl (!decide (a = b))) H) := by
  intro pins s σ H x y v u Q I rx ry h
  obtain ⟨a, b, oa, ob, rfl, rfl, ha, pa, hb, pb, q⟩ := h
  cases rx
  cases ry
  obtain ⟨o1, e1, n1⟩ := obj_there I ha pa
  obtain ⟨o2, e2, _⟩ := obj_there I hb pb
  by_cases z : a = b
  · subst z
    exact wpAny_isNot_ref_self (fin_bl I q (by simp))
  · exact wpAny_isNot_ref_other z e1 e2 n1 (fin_bl I q (by simp [z]))

/-- two rules for one operation: by cases -/
theorem OpR.or {f : Value → Value → Sem Value} {r r' : R2} (h : OpR X f r) (h' : OpR X f r') : OpR X f (fun x y H Q => r x y H Q ∨ r' x y H Q) := by
  intro pins s σ H x y v u Q I rx ry q
  rcases q with q | q
  · exact h pins s σ H x y v u Q I rx ry q
  · exact h' pins s σ H x y v u Q I rx ry q

theorem nomark (b : Expr) {op : CmpOp} (h : op ≠ .In := by decide) (h2 : op ≠ .NotIn := by decide) : behindInMarks op b = false := by
  have e1 : (op == CmpOp.In) = false := by cases op <;> first | rfl | exact absurd rfl h
  have e2 : (op == CmpOp.NotIn) = false := by cases op <;> first | rfl | exact absurd rfl h2
  cases b <;> simp [behindInMarks, e1, e2]
/-- a comparison as a value; hm: nomark b, or (for in, not in) by with_unfolding_all rfl -/
theorem pe_cmpR {op : CmpOp} {r : R2} (ho : OpR X (compareOp op) r) (ha : PE X a ta) (hb : PE X b tb) (hm : behindInMarks op b = false) : PE X (.Compare a [op] [b] pos) (tOp r ta tb) := by
  intro pins s σ H Q I h
  exact wpAny_Compare1 (binT ha hb I h fun v u s2 x y H2 I2 rx ry q => ho pins s2 σ H2 x y v u Q I2 rx ry q) hm
/-- a reading of a value as a test -/
def tTest (t : TE) : TT := fun σ H Q => t σ H fun x H' => ∃ k, x = .bl k ∧ Q k H'
theorem pt_cmpR {op : CmpOp} {r : R2} (ho : OpR X (compareOp op) r) (ha : PE X a ta) (hb : PE X b tb) (hm : behindInMarks op b = false) : PT X (.Compare a [op] [b] pos) (tTest (tOp r ta tb)) := by
  intro pins s σ H Q I h
  refine wpAny_isTrue_Compare1 (thn (ha pins s σ H _ I h) fun v s1 ⟨x, H1, I1, r1, q1⟩ => thn (hb pins s1 σ H1 _ I1 q1) fun u s2 ⟨y, H2, I2, r2, q2⟩ =>
    thn (ho pins s2 σ H2 x y v u _ I2 r1 r2 q2) fun c s3 ⟨z, H3, I3, r3, k, e, q3⟩ => ?_) hm
  subst e
  cases r3
  exact wpAny_truthy_bool ⟨H3, I3, q3⟩
/-- a op1 b op2 c -/
def tChain (r r' : R2) (ta tb tc : TE) : TE := fun σ H Q => ta σ H fun x H1 => tb σ H1 fun y H2 => r x y H2 fun z H3 => ∃ k, z = .bl k ∧
  (if k = true then tc σ H3 fun w' H4 => r' y w' H4 Q else Q (.bl false) H3)
theorem pe_chain {op op' : CmpOp} {r r' : R2} (ho : OpR X (compareOp op) r) (ho' : OpR X (compareOp op') r') (ha : PE X a ta) (hb : PE X b tb) (hc : PE X c tc)
    (hm : lastMarks [op, op'] [b, c] = false := by with_unfolding_all rfl) : PE X (.Compare a [op, op'] [b, c] pos) (tChain r r' ta tb tc) := by
  intro pins s σ H Q I h
  refine Compare_chain (thn (ha pins s σ H _ I h) fun v s1 ⟨x, H1, I1, r1, q1⟩ => chain_link (thn (hb pins s1 σ H1 _ I1 q1) fun u s2 ⟨y, H2, I2, r2, q2⟩ =>
    thn (ho pins s2 σ H2 x y v u _ I2 r1 r2 q2) fun d s3 ⟨z, H3, I3, r3, k, e, q3⟩ => ?_)) hm
  subst e
  cases r3
  refine wpAny_truthy_bool ?_
  cases k with
  | false => exact ite_ff ⟨.bl false, H3, I3, rfl, q3⟩
  | true => exact ite_tt (chain_last (thn (hc pins s3 σ H3 _ I3 q3) fun w' s4 ⟨z', H4, I4, r4, q4⟩ => ho' pins s4 σ H4 y z' u w' Q I4 r2 r4 q4))
theorem pt_chain {op op' : CmpOp} {r r' : R2} (ho : OpR X (compareOp op) r) (ho' : OpR X (compareOp op') r') (ha : PE X a ta) (hb : PE X b tb) (hc : PE X c tc)
    (hm : lastMarks [op, op'] [b, c] = false := by with_unfolding_all rfl) : PT X (.Compare a [op, op'] [b, c] pos) (tTest (tChain r r' ta tb tc)) := by
  intro pins s σ H Q I h
  refine isTrue_chain (thn (ha pins s σ H _ I h) fun v s1 ⟨x, H1, I1, r1, q1⟩ => test_link (thn (hb pins s1 σ H1 _ I1 q1) fun u s2 ⟨y, H2, I2, r2, q2⟩ =>
    thn (ho pins s2 σ H2 x y v u _ I2 r1 r2 q2) fun d s3 ⟨z, H3, I3, r3, k, e, q3⟩ => ?_)) hm
  subst e
  cases r3
  refine wpAny_truthy_bool ?_
  cases k with
  | false =>
    obtain ⟨k', e', q'⟩ := q3
    cases e'
    exact ite_ff ⟨H3, I3, q'⟩
  | true =>
    refine ite_tt (test_last (thn (hc pins s3 σ H3 _ I3 q3) fun w' s4 ⟨z', H4, I4, r4, q4⟩ => thn (ho' pins s4 σ H4 y z' u w' _ I4 r2 r4 q4) fun d' s5 ⟨z2, H5, I5, r5, k2, e2, q5⟩ => ?_))
    subst e2
    cases r5
    exact wpAny_truthy_bool ⟨H5, I5, q5⟩

/-! ### truth -/
/-- a value's truth by the abstract heap -/
def TruV (K : PySem.W.Frag) (x : V) (H : Hp) (k : Bool) : Prop :=
  match x with
  | .non => k = false
  | .bl b => k = b
  | .int i => k = (i != 0)
  | .str y => y.length ≤ sizeLine ∧ k = ((y.length : Int) != 0)
  | .byt y => y.size ≤ sizeLine ∧ k = ((y.size : Int) != 0)
  | .ref p => (∃ xs, SqL K H p xs ∧ k = !xs.isEmpty) ∨ (∃ xs, SqT K H p xs ∧ k = !xs.isEmpty) ∨ ∃ kvs, H p = some (.dK kvs) ∧ k = !kvs.isEmpty
  | _ => False
theorem isEmpty_kv {κ : Type} {kvs : List (κ × V)} {vs : List (κ × Value)} (r : KV kvs vs) : (!vs.isEmpty) = !kvs.isEmpty := by
  cases r <;> rfl
theorem isEmpty_of {xs : List V} {its : List Value} (r : Vals xs its) : (!its.toArray.isEmpty) = !xs.isEmpty := by
  cases r <;> simp
theorem line63 : (sizeLine : Nat) < 2 ^ 63 := by rw [sizeLine_eq]; decide
theorem tru_ok : TruR X (fun x H Q => ∃ k, TruV X.K x H k ∧ Q k H) := by
  intro pins s σ H x v Q I rx h
  obtain ⟨k, e, q⟩ := h
  have hl := line63
  have hs : sizeLine = 16777216 := sizeLine_eq
  cases x with
  | non =>
    cases rx
    have e' : k = false := e
    subst e'
    exact truthy_none ⟨H, I, q⟩
  | bl b =>
    cases rx
    have e' : k = b := e
    subst e'
    exact wpAny_truthy_bool ⟨H, I, q⟩
  | int i =>
    obtain ⟨t, rfl⟩ := rx
    have e' : k = (i != 0) := e
    subst e'
    exact PySem.P.truthy_int ⟨H, I, q⟩
  | str y =>
    obtain ⟨t, rfl⟩ := rx
    obtain ⟨hy, e'⟩ : y.length ≤ sizeLine ∧ k = ((y.length : Int) != 0) := e
    subst e'
    exact PySem.P.truthy_str (by omega) ⟨H, I.tok _, q⟩
  | byt y =>
    obtain ⟨t, rfl⟩ := rx
    obtain ⟨hy, e'⟩ : y.size ≤ sizeLine ∧ k = ((y.size : Int) != 0) := e
    subst e'
    exact PySem.W.truthy_bytes (by omega) ⟨H, I.tok _, q⟩
  | ref p =>
    cases rx
    have e' : (∃ xs, SqL X.K H p xs ∧ k = !xs.isEmpty) ∨ (∃ xs, SqT X.K H p xs ∧ k = !xs.isEmpty) ∨ ∃ kvs, H p = some (.dK kvs) ∧ k = !kvs.isEmpty := e
    rcases e' with ⟨xs, hx, e'⟩ | ⟨xs, hx, e'⟩ | ⟨kvs, hx, e'⟩
    · subst e'
      obtain ⟨its, r, pl, hz⟩ := I.list hx
      have hlen := r.length
      exact wpAny_truthy_list pl.isList (by simp only [List.size_toArray]; omega) ⟨H, I.tok _, by rw [isEmpty_of r]; exact q⟩
    · subst e'
      obtain ⟨its, r, pl, hz⟩ := I.tuple hx
      have hlen := r.length
      exact truthy_tuple pl (by simp only [List.size_toArray]; omega) ⟨H, I.tok _, by rw [isEmpty_of r]; exact q⟩
    · subst e'
      obtain ⟨hz, hS, vs, r, m⟩ : kvs.length ≤ sizeLine ∧ (p == sysModules) = false ∧ ∃ vs, KV kvs vs ∧ s.heap.DictOf (mixKind X.prog X.w) p vs := I.hok p _ hx
      have hlen : kvs.length = vs.length := Paired.length r
      exact wpAny_truthy_dict hS m (by omega) ⟨H, I.tok _, by rw [isEmpty_kv r]; exact q⟩
  | _ => exact (show False from e).elim
/-- any expression whose test is its value's truth (a name, a call, a subscript, a field ..: he by fun _ => rfl) -/
theorem pt_truth (ha : PE X a ta) (he : ∀ whole, isTrue a X.env whole = (do let v ← whole; standAt a.pos; holding [v] (truthy v))) :
    PT X a (fun σ H Q => ta σ H fun x H' => ∃ k, TruV X.K x H' k ∧ Q k H') := by
  intro pins s σ H Q I h
  exact isTrue_plain (thn (ha pins s σ H _ I h) fun v s1 ⟨x, H1, I1, r1, q1⟩ => tru_ok pins s1 σ H1 x v Q I1 r1 q1) (he _)

/-! ### strs and bytes -/
theorem pe_byt {x : List UInt8} {k : Nat} : PE X (.Constant (.bytes x) k pos) (fun _ H Q => Q (.byt x.toArray) H) := fun _ _ _ H _ I h => PySem.W.Constant_bytes ⟨.byt x.toArray, H, I.tok _, ⟨_, rfl⟩, h⟩
theorem op_add_str : OpR X (binaryOp .Add) (fun x y H Q => ∃ i j, x = .str i ∧ y = .str j ∧ i.length + j.length ≤ sizeLine ∧ Q (.str (i ++ j)) H) := by
  intro pins s σ H x y v u Q I rx ry h
  obtain ⟨i, j, rfl, rfl, hz, q⟩ := h
  obtain ⟨t, rfl⟩ := rx
  obtain ⟨t', rfl⟩ := ry
  exact add_str (fun t' tk => ⟨.str (i ++ j), H, I.tok _, ⟨_, rfl⟩, q⟩) hz
theorem iop_add_str : OpR X (inplaceOp .Add) (fun x y H Q => ∃ i j, x = .str i ∧ y = .str j ∧ i.length + j.length ≤ sizeLine ∧ Q (.str (i ++ j)) H) := by
  intro pins s σ H x y v u Q I rx ry h
  obtain ⟨i, j, rfl, rfl, hz, q⟩ := h
  obtain ⟨t, rfl⟩ := rx
  obtain ⟨t', rfl⟩ := ry
  exact iadd_str (fun t' tk => ⟨.str (i ++ j), H, I.tok _, ⟨_, rfl⟩, q⟩) hz
theorem op_add_byt : OpR X (binaryOp .Add) (fun x y H Q => ∃ i j, x = .byt i ∧ y = .byt j ∧ i.size + j.size ≤ 16777216 ∧ Q (.byt (i ++ j)) H) := by
  intro pins s σ H x y v u Q I rx ry h
  obtain ⟨i, j, rfl, rfl, hz, q⟩ := h
  obtain ⟨t, rfl⟩ := rx
  obtain ⟨t', rfl⟩ := ry
  exact PySem.W.KBy.add_bytes hz (fun t' tk => ⟨.byt (i ++ j), H, I.tok _, ⟨_, rfl⟩, q⟩)

def PlainIxT (b : Expr) : Prop := ∀ o i, subscripted b false o i = operate [o, i] (getItem o i)
/-- s[i], 0 ≤ i < len -/
theorem pe_item_str (ha : PE X a ta) (hb : PE X b tb) (hs : PlainIxT b) :
    PE X (.Subscript a b pos) (tOp (fun x y H Q => ∃ z i c, x = .str z ∧ y = .int i ∧ 0 ≤ i ∧ i < 2 ^ 63 ∧ i < z.length ∧ z.cps[i.toNat]? = some c ∧ Q (.str ⟨#[c]⟩) H) ta tb) := by
  intro pins s σ H Q I h
  refine Subscript_ (binT ha hb I h fun v u s2 x y H2 I2 rx ry q => ?_)
  obtain ⟨z, i, c, rfl, rfl, h0, h63, h1, hc, q⟩ := q
  obtain ⟨t, rfl⟩ := rx
  obtain ⟨t', rfl⟩ := ry
  have e : seqIndex? i z.length = some i.toNat := PySem.StrLaws.seqIndex_nonneg h0 h1
  exact tail_any (typeIs_str s2 z t) slot_str_getitem.lookup (getItem_str (c := c) (by
    have e1 : decide (i < -(2 ^ 63 : Int)) = false := decide_eq_false (by omega)
    have e2 : decide (i ≥ 2 ^ 63) = false := decide_eq_false (by omega)
    rw [e1, e2] <;> rfl) (by rw [e]; exact hc) ⟨.str ⟨#[c]⟩, H2, I2.tok _, ⟨_, rfl⟩, q⟩) (hs _ _)
/-- b[i], 0 ≤ i < len -/
theorem pe_item_byt (ha : PE X a ta) (hb : PE X b tb) (hs : PlainIxT b) :
    PE X (.Subscript a b pos) (tOp (fun x y H Q => ∃ (z : List UInt8) (i : Int), x = .byt z.toArray ∧ y = .int i ∧ z.length ≤ sizeLine ∧ 0 ≤ i ∧ i < z.length ∧ Q (.int ((z.getD i.toNat 0).toNat : Nat)) H) ta tb) := by
  intro pins s σ H Q I h
  refine Subscript_ (binT ha hb I h fun v u s2 x y H2 I2 rx ry q => ?_)
  obtain ⟨z, i, rfl, rfl, hz, h0, h1, q⟩ := q
  obtain ⟨t, rfl⟩ := rx
  obtain ⟨t', rfl⟩ := ry
  have hl : sizeLine = 16777216 := sizeLine_eq
  exact tail_any (PySem.W.typeIs_bytes s2 z.toArray t) PySem.W.FB.slot_bytes_getitem.lookup (PySem.W.getItem_bytes (by omega) h0 h1 ⟨.int ((z.getD i.toNat 0).toNat : Nat), H2, I2.tok _, ⟨_, rfl⟩, q⟩) (hs _ _)

/-! ### scalar builtins, by CallR -/
theorem vals1 {x : V} {us : List Value} (r : Vals [x] us) : ∃ u, us = [u] ∧ RelV x u := by
  cases r with
  | cons r1 r2 => cases r2; exact ⟨_, rfl, r1⟩
theorem vals2 {x y : V} {us : List Value} (r : Vals [x, y] us) : ∃ u w', us = [u, w'] ∧ RelV x u ∧ RelV y w' := by
  cases r with
  | cons r1 r2 =>
    cases r2 with
    | cons r3 r4 => cases r4; exact ⟨_, _, rfl, r1, r3⟩
theorem call_abs : CallR X (.builtin "abs") (fun xs H Q => ∃ i, xs = [.int i] ∧ Q (.int (if i < 0 then -i else i)) H) := by
  intro pins s σ H xs us Q I r h
  obtain ⟨i, rfl, q⟩ := h
  obtain ⟨u, rfl, t, rfl⟩ := vals1 r
  exact call_abs_int fun u tk => ⟨.int (if i < 0 then -i else i), H, I.tok _, ⟨_, rfl⟩, q⟩
theorem call_max2 (hc : X.calm = true) : CallR X (.builtin "max") (fun xs H Q => ∃ i j, xs = [.int i, .int j] ∧ Q (.int (if j > i then j else i)) H) := by
  intro pins s σ H xs us Q I r h
  obtain ⟨i, j, rfl, q⟩ := h
  obtain ⟨u, w', rfl, ⟨t, rfl⟩, ⟨t', rfl⟩⟩ := vals2 r
  refine max_two_ints (I.ok.hd hc) fun h' tk k => ⟨_, H, I.kept k, ?_, q⟩
  by_cases hj : j > i
  · rw [if_pos hj, if_pos hj]; exact ⟨_, rfl⟩
  · rw [if_neg hj, if_neg hj]; exact ⟨_, rfl⟩
theorem call_min2 (hc : X.calm = true) : CallR X (.builtin "min") (fun xs H Q => ∃ i j, xs = [.int i, .int j] ∧ Q (.int (if j < i then j else i)) H) := by
  intro pins s σ H xs us Q I r h
  obtain ⟨i, j, rfl, q⟩ := h
  obtain ⟨u, w', rfl, ⟨t, rfl⟩, ⟨t', rfl⟩⟩ := vals2 r
  refine min_two_ints (I.ok.hd hc) fun h' tk k => ⟨_, H, I.kept k, ?_, q⟩
  by_cases hj : j < i
  · rw [if_pos hj, if_pos hj]; exact ⟨_, rfl⟩
  · rw [if_neg hj, if_neg hj]; exact ⟨_, rfl⟩
theorem call_int1 : CallR X (.type "int") (fun xs H Q => (∃ i, xs = [.int i] ∧ Q (.int i) H) ∨ ∃ k, xs = [.bl k] ∧ Q (.int (if k then 1 else 0)) H) := by
  intro pins s σ H xs us Q I r h
  rcases h with ⟨i, rfl, q⟩ | ⟨k, rfl, q⟩
  · obtain ⟨u, rfl, t, rfl⟩ := vals1 r
    exact call_int_int ⟨.int i, H, I, ⟨_, rfl⟩, q⟩
  · obtain ⟨u, rfl, r1⟩ := vals1 r
    cases r1
    exact call_int_bool ⟨.int (if k then 1 else 0), H, I.tok _, ⟨_, rfl⟩, q⟩
theorem call_bool1 : CallR X (.type "bool") (fun xs H Q => (∃ i, xs = [.int i] ∧ Q (.bl (i != 0)) H) ∨ ∃ k, xs = [.bl k] ∧ Q (.bl k) H) := by
  intro pins s σ H xs us Q I r h
  rcases h with ⟨i, rfl, q⟩ | ⟨k, rfl, q⟩
  · obtain ⟨u, rfl, t, rfl⟩ := vals1 r
    exact call_bool_int ⟨.bl (i != 0), H, I, rfl, q⟩
  · obtain ⟨u, rfl, r1⟩ := vals1 r
    cases r1
    exact call_bool_bool ⟨.bl k, H, I, rfl, q⟩
theorem call_str_int : CallR X (.type "str") (fun xs H Q => ∃ i, xs = [.int i] ∧ i.natAbs.log2 < 1920 ∧ Q (.str (toString i)) H) := by
  intro pins s σ H xs us Q I r h
  obtain ⟨i, rfl, hz, q⟩ := h
  obtain ⟨u, rfl, t, rfl⟩ := vals1 r
  exact PySem.P.str_of_int hz ⟨.str _, H, I.tok _, ⟨_, rfl⟩, q⟩
theorem call_ord : CallR X (.builtin "ord") (fun xs H Q => ∃ x, xs = [.str x] ∧ x.length = 1 ∧ Q (.int (x.cps.getD 0 0 : Nat)) H) := by
  intro pins s σ H xs us Q I r h
  obtain ⟨x, rfl, hz, q⟩ := h
  obtain ⟨u, rfl, t, rfl⟩ := vals1 r
  exact ord_of_one hz ⟨.int _, H, I.tok _, ⟨_, rfl⟩, q⟩
theorem call_chr : CallR X (.builtin "chr") (fun xs H Q => ∃ i, xs = [.int i] ∧ 0 ≤ i ∧ i ≤ 1114111 ∧ Q (.str ⟨#[i.toNat]⟩) H) := by
  intro pins s σ H xs us Q I r h
  obtain ⟨i, rfl, h0, h1, q⟩ := h
  obtain ⟨u, rfl, t, rfl⟩ := vals1 r
  exact chr_of_range h0 h1 ⟨.str _, H, I.tok _, ⟨_, rfl⟩, q⟩
/-- len of a str, a bytes, a list, a tuple -/
def LenV (K : PySem.W.Frag) (x : V) (H : Hp) (n : Nat) : Prop :=
  match x with
  | .str y => y.length ≤ sizeLine ∧ n = y.length
  | .byt y => y.size ≤ sizeLine ∧ n = y.size
  | .ref p => (∃ xs, SqL K H p xs ∧ n = xs.length) ∨ ∃ xs, SqT K H p xs ∧ n = xs.length
  | _ => False
theorem call_len : CallR X (.builtin "len") (fun xs H Q => ∃ x n, xs = [x] ∧ LenV X.K x H n ∧ Q (.int n) H) := by
  intro pins s σ H xs us Q I r h
  obtain ⟨x, n, rfl, e, q⟩ := h
  obtain ⟨u, rfl, rx⟩ := vals1 r
  have hl := line63
  have hs : sizeLine = 16777216 := sizeLine_eq
  cases x with
  | str y =>
    obtain ⟨t, rfl⟩ := rx
    obtain ⟨hy, e'⟩ : y.length ≤ sizeLine ∧ n = y.length := e
    subst e'
    exact len_str (by omega) ⟨.int _, H, I.tok _, ⟨_, rfl⟩, q⟩
  | byt y =>
    obtain ⟨t, rfl⟩ := rx
    obtain ⟨hy, e'⟩ : y.size ≤ sizeLine ∧ n = y.size := e
    subst e'
    exact PySem.W.len_bytes (by omega) ⟨.int _, H, I.tok _, ⟨_, rfl⟩, q⟩
  | ref p =>
    cases rx
    have e' : (∃ xs, SqL X.K H p xs ∧ n = xs.length) ∨ ∃ xs, SqT X.K H p xs ∧ n = xs.length := e
    rcases e' with ⟨xs, hx, e'⟩ | ⟨xs, hx, e'⟩
    · subst e'
      obtain ⟨its, r', pl, hz⟩ := I.list hx
      have hlen := r'.length
      exact Calls.call_len_list pl.isList (by simp only [List.size_toArray]; omega) ⟨.int xs.length, H, I.tok _, ⟨_, by simp only [List.size_toArray]; rw [hlen]⟩, q⟩
    · subst e'
      obtain ⟨its, r', pl, hz⟩ := I.tuple hx
      have hlen := r'.length
      exact len_tuple pl (by simp only [List.size_toArray]; omega) ⟨.int xs.length, H, I.tok _, ⟨_, by simp only [List.size_toArray]; rw [hlen]⟩, q⟩
  | _ => exact (show False from e).elim
/-- divmod: a new tuple -/
theorem call_divmod : CallR X (.builtin "divmod") (fun xs H Q => ∃ i j, xs = [.int i, .int j] ∧ CDiv i j ∧ ∀ p, H p = none → Q (.ref p) (upd H p (.tup [.int (i / j), .int (i % j)]))) := by
  intro pins s σ H xs us Q I r h
  obtain ⟨i, j, rfl, ⟨h1, h2⟩, q⟩ := h
  obtain ⟨u, w', rfl, ⟨t, rfl⟩, ⟨t', rfl⟩⟩ := vals2 r
  refine divmod_int (by omega) ?_ (.inl (PyProof.noPylong_small (by omega)))
  rw [Int.fdiv_eq_ediv_of_nonneg i (by omega), Int.fmod_eq_emod_of_nonneg i (by omega)]
  have hn : H s.heap.objs.size = none := I.hok.fresh (Nat.le_refl _)
  refine ⟨.ref s.heap.objs.size, _, ?_, rfl, q _ hn⟩
  refine I.laid (fun b o e => Heap.get?_push_of_some _ e) (Nat.le_refl _) ⟨by simp only [List.length_cons, List.length_nil]; rw [sizeLine_eq]; decide, [.int (i / j) s.toks, .int (i % j) (s.toks + 1)], .cons ⟨_, rfl⟩ (.cons ⟨_, rfl⟩ .nil), ?_⟩
  exact ⟨_, Heap.get?_push_size s.heap rfl, rfl, 0, rfl⟩
end
end L2

namespace L2
open PySem PySem.Spec PyProof.Rows

/-! ### an instance, its attributes a map -/
structure ObjM (h : Heap) (x dx C : Addr) (mA : Str → Option Value) : Prop where
  obj : h.get? x = some (PySem.W.instObj C dx)
  ns : h.Ns1 dx mA
  ne : dx ≠ x

theorem lookIn_ns {h : Heap} {dx : Addr} {mA : Str → Option Value} (n : h.Ns1 dx mA) : ∃ od, h.get? dx = some od ∧ ∀ name, PySem.W.lookIn name od = some (mA name) := by
  obtain ⟨o, es, ep, ho, hd, hk, _, hm⟩ := n
  refine ⟨o, ho, fun name => ?_⟩
  have e := hm name
  unfold nsFind findBy at e
  rw [← Array.find?_toList] at e
  unfold PySem.W.lookIn
  rw [hd]
  dsimp only
  split
  · rename_i y q
    rw [q] at e
    exact congrArg some e
  · rename_i q
    rw [q] at e
    have a : es.toList.any (·.refKey) = false := by
      rw [List.any_eq_false]
      intro y hy
      obtain ⟨z, t, hkey⟩ := hk y (Array.mem_toList_iff.mp hy)
      simp [DictEntry.refKey, hkey]
    have a' : ¬ es.toList.any (·.refKey) = true := by rw [a]; exact Bool.false_ne_true
    rw [if_neg a']
    exact congrArg some e

theorem ObjM.look {h : Heap} {x dx C : Addr} {mA : Str → Option Value} (I : ObjM h x dx C mA) : ∃ od, PySem.W.InstAt h x (PySem.W.instObj C dx) C (some od) ∧ ∀ name, PySem.W.lookIn name od = some (mA name) :=
  let ⟨od, ho, hl⟩ := lookIn_ns I.ns
  ⟨od, ⟨I.obj, rfl, rfl, ho⟩, hl⟩

section
variable {prog : Program} {w : World} {A : Around} {E : Value → Shared → Prop} {s : Shared} {K : PySem.W.Frag} {x dx C f : Addr} {mA : Str → Option Value} {name : Str} {v : Value}

theorem get_map {expr : Bool} {Q : Value → Shared → Prop} (X : K.In s.heap) (I : ObjM s.heap x dx C mA) (hg : PySem.W.plainGet K C name = true) (hh : PySem.W.hasDictIn K C = true)
    (ha : PySem.W.findIn K (.ref C) name = some none) (hv : mA name = some v) (hv' : PySem.W.handedIn v = true) (h : Q v { s with toks := s.toks + 1 }) :
    wpAny (model prog w) A (getAttr (.ref x) name expr) Q E s := by
  obtain ⟨od, J, hl⟩ := I.look
  exact PySem.W.get_value X J (PySem.W.plainGet_of hg).1 (PySem.W.findObj_own hh ha rfl (by rw [hl, hv])) hv' h

theorem get_const {expr : Bool} {a : Value} {Q : Value → Shared → Prop} (X : K.In s.heap) (I : ObjM s.heap x dx C mA) (hg : PySem.W.plainGet K C name = true) (hh : PySem.W.hasDictIn K C = true)
    (ha : PySem.W.findIn K (.ref C) name = some (some a)) (hn : PySem.W.specialIn K a "__get__" = some none) (hc : PySem.W.copiedNames.contains name = false) (hv : mA name = none) (hv' : PySem.W.handedIn a = true)
    (h : Q a { s with toks := s.toks + 1 }) : wpAny (model prog w) A (getAttr (.ref x) name expr) Q E s := by
  obtain ⟨od, J, hl⟩ := I.look
  exact PySem.W.get_value X J (PySem.W.plainGet_of hg).1 (PySem.W.findObj_cls hh ha hn hv' hc (by rw [hl, hv])) hv' h

theorem get_meth {pl : Sem Bool} {Q : Value × List Value → Shared → Prop} (X : K.In s.heap) (I : ObjM s.heap x dx C mA) (hg : PySem.W.plainGet K C name = true)
    (hf : PySem.W.findIn K (.ref C) name = some (some (.ref f))) (ht : PySem.W.isFn K (.ref f) = true) (hv : mA name = none) (h : Q (.ref f, [.ref x]) s) :
    wpAny (model prog w) A (getMethod (.ref x) name pl) Q E s := by
  obtain ⟨od, J, hl⟩ := I.look
  exact PySem.W.method_fn X J (PySem.W.plainGet_of hg).1 (PySem.W.plainGet_of hg).2 hf (beq_iff_eq.mp ht) (by show (PySem.W.lookIn name od).map (·.isSome) = some false; rw [hl, hv]; rfl) h

theorem set_map {ns : List Str} {Q : Unit → Shared → Prop} (X : K.In s.heap) (I : ObjM s.heap x dx C mA)
    (hs : PySem.W.findIn K (.ref C) "__setattr__" = some (some (.builtin "object.__setattr__"))) (hp : PySem.W.plainOver K C = true) (ht : PySem.W.takerIn K C name = some none) (hh : PySem.W.hasDictIn K C = true)
    (hw : PySem.Within mA ns) (hsz : ns.length ≤ sizeLine)
    (h : ∀ h', ObjM h' x dx C (fun y => if y = name then some v else mA y) → Heap.SameBut dx s.heap h' → Q () { s with heap := h', toks := s.toks + 2 }) :
    wpAny (model prog w) A (setAttr (.ref x) name v) Q E s := by
  obtain ⟨od, J, hl⟩ := I.look
  refine PySem.W.set_plain X J hs (PySem.W.osa_open (s := { s with toks := s.toks + 1 }) (r := none) X J hp ht fun b => ?_)
  obtain ⟨cd, hc, hd'⟩ := PySem.W.any_some hh
  have hx : s.heap.get? x = some ⟨.ref C, some dx, .plain, #[]⟩ := I.obj
  refine wpAny_bind (wpAny_pure (wpAny_bind (wpAny_bind (wpAny_loadPart hx (wpAny_bind (PySem.W.Looks.here (s := { s with toks := s.toks + 1 }) (PySem.W.looks_clsIn X hc) ?_))))))
  rw [hd']
  refine wpAny_pure (a := some dx) (wpAny_bind (wpAny_pure (wpAny_bind ?_)))
  refine wpAny_nsSet1 (s := { s with toks := s.toks + 1 }) I.ns fun h' hn2 hs2 => ?_
  obtain ⟨oD, esD, epD, hoD, hdD, hcD⟩ := hn2.count (PySem.Within.cons name v hw)
  refine wpAny_bind (wpAny_lookBehind hoD (by rw [hdD]; exact pastItsLine_dict (Nat.le_trans hcD (by rw [List.length_cons]; omega))) ?_)
  exact wpAny_pure (h _ ⟨(hs2.2 _ (Ne.symm I.ne)).trans I.obj, hn2, I.ne⟩ hs2)

/-- C(..): the dict at the heap's end, the instance behind it; then its __init__ -/
theorem make_map {R : Result → Shared → Prop} {vs : List Value} {kw : List (Str × Value)} (X : K.In s.heap) (hm : PySem.W.makesIn K C = true)
    (hi : PySem.W.findIn K (.ref C) "__init__" = some (some (.ref f))) (hf : PySem.W.typeIn K (.ref f) = some (.type "function"))
    (h : codeAny (model prog w) (A.under (.builtin "type.__call__" ⟨.ref C :: vs, kw⟩)) (.call (.ref f) ⟨.ref (s.heap.objs.size + 1) :: vs, kw⟩) (PySem.W.InitBack (s.heap.objs.size + 1) R)
      { s with heap := (s.heap.push PySem.W.emptyDict).push (PySem.W.instObj C s.heap.objs.size) }) :
    codeAny (model prog w) A (.call (.ref C) ⟨vs, kw⟩) R s := by
  obtain ⟨hh, g, d, t, os⟩ := s
  exact PySem.W.make_core (PySem.W.makes_of X hm) (PySem.W.looks_findIn X hi) (fun self => PySem.W.bind_fn X self hf) (.inl rfl) h
/-- C() where there is no __init__ but object's -/
theorem make_map0 {R : Result → Shared → Prop} (X : K.In s.heap) (hm : PySem.W.makesIn K C = true)
    (hi : PySem.W.findIn K (.ref C) "__init__" = some (some (.builtin "object.__init__")))
    (hb : ∀ self, PySem.W.Looks (model prog w) s.heap (bindSpecial (.builtin "object.__init__") self) (.builtin "object.__init__", [self]))
    (h : codeAny (model prog w) (A.under (.builtin "type.__call__" ⟨[.ref C], []⟩)) (.call (.builtin "object.__init__") ⟨[.ref (s.heap.objs.size + 1)], []⟩) (PySem.W.InitBack (s.heap.objs.size + 1) R)
      { s with heap := (s.heap.push PySem.W.emptyDict).push (PySem.W.instObj C s.heap.objs.size) }) :
    codeAny (model prog w) A (.call (.ref C) ⟨[], []⟩) R s := by
  obtain ⟨hh, g, d, t, os⟩ := s
  exact PySem.W.make_core (PySem.W.makes_of X hm) (PySem.W.looks_findIn X hi) hb (.inr ⟨rfl, rfl⟩) h
end

/-! ### the attributes as a list of pairs -/
def putF (f : Str) (v : V) : List (Str × V) → List (Str × V)
  | [] => [(f, v)]
  | (g, x) :: r => if g = f then (g, v) :: r else (g, x) :: putF f v r
theorem lookup_putF (f g : Str) (v : V) : ∀ fs : List (Str × V), (putF f v fs).lookup g = if g = f then some v else fs.lookup g
  | [] => by
    show List.lookup g [(f, v)] = _
    by_cases h : g = f
    · have hb : (g == f) = true := beq_iff_eq.mpr h
      simp only [List.lookup, hb, if_pos h]
    · have hb : (g == f) = false := beq_eq_false_iff_ne.mpr h
      simp only [List.lookup, hb, if_neg h]
  | (k, x) :: r => by
    have ih := lookup_putF f g v r
    rw [show putF f v ((k, x) :: r) = (if k = f then (k, v) :: r else (k, x) :: putF f v r) from rfl]
    by_cases hk : k = f
    · rw [if_pos hk]
      by_cases h : g = k
      · have hb : (g == k) = true := beq_iff_eq.mpr h
        simp only [List.lookup, hb, if_pos (h.trans hk)]
      · have hb : (g == k) = false := beq_eq_false_iff_ne.mpr h
        simp only [List.lookup, hb, if_neg (fun e : g = f => h (e.trans hk.symm))]
    · rw [if_neg hk]
      by_cases h : g = k
      · have hb : (g == k) = true := beq_iff_eq.mpr h
        simp only [List.lookup, hb, if_neg (fun e : g = f => hk (h.symm.trans e))]
      · have hb : (g == k) = false := beq_eq_false_iff_ne.mpr h
        simp only [List.lookup, hb]
        exact ih
theorem keys_putF (f : Str) (v : V) : ∀ fs : List (Str × V), f ∈ (putF f v fs).map (·.1) ∧ ∀ g, g ∈ fs.map (·.1) → g ∈ (putF f v fs).map (·.1)
  | [] => ⟨by simp [putF], fun g h => by simp at h⟩
  | (k, x) :: r => by
    obtain ⟨i1, i2⟩ := keys_putF f v r
    rw [show putF f v ((k, x) :: r) = (if k = f then (k, v) :: r else (k, x) :: putF f v r) from rfl]
    by_cases hk : k = f
    · rw [if_pos hk]
      subst hk
      exact ⟨by simp, fun g h => by simpa using h⟩
    · rw [if_neg hk]
      refine ⟨?_, fun g h => ?_⟩
      · rw [List.map_cons]
        exact List.mem_cons_of_mem _ i1
      · rw [List.map_cons] at h ⊢
        rcases List.mem_cons.mp h with e | e
        · exact List.mem_cons.mpr (.inl e)
        · exact List.mem_cons_of_mem _ (i2 g e)
theorem length_putF (f : Str) (v : V) : ∀ fs : List (Str × V), (putF f v fs).length ≤ fs.length + 1
  | [] => by simp [putF]
  | (k, x) :: r => by
    have ih := length_putF f v r
    rw [show putF f v ((k, x) :: r) = (if k = f then (k, v) :: r else (k, x) :: putF f v r) from rfl]
    by_cases hk : k = f
    · rw [if_pos hk, List.length_cons, List.length_cons]; omega
    · rw [if_neg hk, List.length_cons, List.length_cons]; omega

theorem RelO.some_of {v : V} {o : Option Value} (r : RelO (some v) o) : ∃ u, o = some u ∧ RelV v u := by
  cases o with
  | none => exact (show False from r).elim
  | some u => exact ⟨u, rfl, r⟩
theorem RelO.none_of {o : Option Value} (r : RelO none o) : o = none := by
  cases o with
  | none => rfl
  | some u => exact (show False from r).elim
theorem handed_of {v : V} {u : Value} (r : RelV v u) : PySem.W.handedIn u = true := by
  cases v with
  | non => cases (show u = Value.none from r); rfl
  | bl b => cases (show u = Value.bool b from r); rfl
  | int i => obtain ⟨t, e⟩ := (show ∃ t, u = Value.int i t from r); cases e; rfl
  | str x => obtain ⟨t, e⟩ := (show ∃ t, u = Value.str x t from r); cases e; rfl
  | byt b => obtain ⟨t, e⟩ := (show ∃ t, u = Value.bytes b t from r); cases e; rfl
  | flt b => obtain ⟨t, e⟩ := (show ∃ t, u = Value.float b t from r); cases e; rfl
  | ref a => cases (show u = Value.ref a from r); rfl
  | ty n => cases (show u = Value.type n from r); rfl

section
variable {P : Program} {w : World} {H H' : Hp} {h h' : Heap} {a C dx : Addr} {fs fs' : List (Str × V)}
theorem ins_get (hok : HOk P w H h) (e : H a = some (.ins C dx fs)) : ∃ mA, ObjM h a dx C mA ∧ (∀ f, RelO (fs.lookup f) (mA f)) ∧ PySem.Within mA (fs.map (·.1)) ∧ fs.length ≤ 1000 ∧ H dx = some (.own a) := by
  obtain ⟨d, z, ne, ob, mA, n, r, q⟩ := (show ObjOk P w H h a (.ins C dx fs) from hok a _ e)
  exact ⟨mA, ⟨ob, n, ne⟩, r, q, z, d⟩
end

/-! ### what of the text a class must have -/
structure Cls (K : PySem.W.Frag) (C : Addr) : Prop where
  pg : PySem.W.plainGet K C Str.empty = true
  hd : PySem.W.hasDictIn K C = true
  po : PySem.W.plainOver K C = true
  sa : PySem.W.findIn K (.ref C) "__setattr__" = some (some (.builtin "object.__setattr__"))
theorem Cls.get {K : PySem.W.Frag} {C : Addr} (c : Cls K C) (f : Str) : PySem.W.plainGet K C f = true := c.pg
/-- no class of it has the name -/
def NoAttr (K : PySem.W.Frag) (C : Addr) (f : Str) : Prop := PySem.W.findIn K (.ref C) f = some none
theorem NoAttr.taker {K : PySem.W.Frag} {C : Addr} {f : Str} (n : NoAttr K C f) : PySem.W.takerIn K C f = some none := by
  unfold PySem.W.takerIn
  rw [show PySem.W.findIn K (.ref C) f = some none from n]
  rfl
/-- a constant of the class -/
structure Con (K : PySem.W.Frag) (C : Addr) (f : Str) (v : V) (u : Value) : Prop where
  at_ : PySem.W.findIn K (.ref C) f = some (some u)
  rel : RelV v u
  get : PySem.W.specialIn K u "__get__" = some none
  cp : PySem.W.copiedNames.contains f = false
/-- a method: a plain def of the class or of one above it -/
structure Meth (K : PySem.W.Frag) (C : Addr) (m : Str) (f : Addr) : Prop where
  at_ : PySem.W.findIn K (.ref C) m = some (some (.ref f))
  fn : PySem.W.isFn K (.ref f) = true
  kp : PySem.W.keepIn K (.ref f) = true

section
variable {X : Cx} {pins : List (Addr × Obj)} {σ : St} {H : Hp} {s : Shared} {a C dx : Addr} {fs : List (Str × V)} {f : Str} {v : V} {A : Around} {E : Value → Shared → Prop}

theorem getattr_ok {b : Bool} {Q : Value → Shared → Prop} (I : Inv X pins σ H s) (e : H a = some (.ins C dx fs)) (c : Cls X.K C) (n : NoAttr X.K C f) (l : fs.lookup f = some v)
    (h : ∀ u s', Inv X pins σ H s' → RelV v u → Q u s') : wpAny (model X.prog X.w) A (getAttr (.ref a) f b) Q E s := by
  obtain ⟨mA, O, r, _, _, _⟩ := ins_get I.hok e
  obtain ⟨u, hu, ru⟩ := RelO.some_of (v := v) (o := mA f) (by rw [← l]; exact r f)
  exact get_map I.kIn O (c.get f) c.hd n hu (handed_of ru) (h u _ (I.tok _) ru)

theorem getcon_ok {b : Bool} {u : Value} {Q : Value → Shared → Prop} (I : Inv X pins σ H s) (e : H a = some (.ins C dx fs)) (c : Cls X.K C) (k : Con X.K C f v u) (l : fs.lookup f = none)
    (h : ∀ s', Inv X pins σ H s' → Q u s') : wpAny (model X.prog X.w) A (getAttr (.ref a) f b) Q E s := by
  obtain ⟨mA, O, r, _, _, _⟩ := ins_get I.hok e
  have hn : mA f = none := RelO.none_of (by rw [← l]; exact r f)
  exact get_const I.kIn O (c.get f) c.hd k.at_ k.get k.cp hn (handed_of k.rel) (h _ (I.tok _))

theorem getmeth_ok {m : Str} {g : Addr} {pl : Sem Bool} {Q : Value × List Value → Shared → Prop} (I : Inv X pins σ H s) (e : H a = some (.ins C dx fs)) (c : Cls X.K C) (k : Meth X.K C m g) (l : fs.lookup m = none)
    (h : Q (.ref g, [.ref a]) s) : wpAny (model X.prog X.w) A (getMethod (.ref a) m pl) Q E s := by
  obtain ⟨mA, O, r, _, _, _⟩ := ins_get I.hok e
  have hn : mA m = none := RelO.none_of (by rw [← l]; exact r m)
  exact get_meth I.kIn O (c.get m) k.at_ k.fn hn h

theorem setattr_ok {y : V} {u : Value} {Q : Unit → Shared → Prop} (I : Inv X pins σ H s) (e : H a = some (.ins C dx fs)) (c : Cls X.K C) (n : NoAttr X.K C f) (hl : fs.length < 1000) (ry : RelV y u)
    (h : ∀ s', Inv X pins σ (upd H a (.ins C dx (putF f y fs))) s' → Q () s') : wpAny (model X.prog X.w) A (setAttr (.ref a) f u) Q E s := by
  obtain ⟨mA, O, r, wi, _, ho⟩ := ins_get I.hok e
  have hz : (fs.map (·.1)).length ≤ sizeLine := by rw [List.length_map, sizeLine_eq]; omega
  refine set_map I.kIn O c.sa c.po n.taker c.hd wi hz fun h' O' sb => h _ ?_
  have hd : ∃ o, h'.get? dx = some o := let ⟨o, _, _, e', _⟩ := O'.ns; ⟨o, e'⟩
  refine I.write (x := a) (e := dx) (by rw [e]; exact True.intro) (.inr ho) (fun b q hb z => (sb.2 b hb).trans z) hd ?_
  refine ⟨by rw [upd_ne O.ne]; exact ho, ?_, O.ne, O'.obj, _, O'.ns, fun g => ?_, fun g hg => ?_⟩
  · have := length_putF f y fs; omega
  · show RelO ((putF f y fs).lookup g) (if g = f then some u else mA g)
    rw [lookup_putF]
    by_cases q : g = f
    · rw [if_pos q, if_pos q]; exact ry
    · rw [if_neg q, if_neg q]; exact r g
  · by_cases q : g = f
    · rw [q]; exact (keys_putF f y fs).1
    · refine (keys_putF f y fs).2 g (wi g fun z => hg ?_)
      show (if g = f then some u else mA g) = none
      rw [if_neg q]; exact z

/-- a new instance, tracked, without attributes -/
theorem Inv.made (I : Inv X pins σ H s) : Inv X pins σ (upd (upd H s.heap.objs.size (.own (s.heap.objs.size + 1))) (s.heap.objs.size + 1) (.ins C s.heap.objs.size []))
    { s with heap := (s.heap.push PySem.W.emptyDict).push (PySem.W.instObj C s.heap.objs.size) } := by
  have e1 : (s.heap.push PySem.W.emptyDict).get? s.heap.objs.size = some PySem.W.emptyDict := Heap.get?_push_size s.heap rfl
  have e2 : ((s.heap.push PySem.W.emptyDict).push (PySem.W.instObj C s.heap.objs.size)).get? (s.heap.objs.size + 1) = some (PySem.W.instObj C s.heap.objs.size) := by
    have := Heap.get?_push_size (s.heap.push PySem.W.emptyDict) (o := PySem.W.instObj C s.heap.objs.size) rfl
    rwa [Heap.size_push] at this
  have e3 : (s.heap.push PySem.W.emptyDict).Ns s.heap.objs.size (fun _ => none) := ⟨PySem.W.emptyDict, #[], _, e1, rfl, (fun e he => absurd he (by simp)), fun _ => rfl⟩
  have I1 := I.laid (a := s.heap.objs.size) (o := .own (s.heap.objs.size + 1)) (h' := s.heap.push PySem.W.emptyDict) (t' := s.toks) (fun b u q => Heap.get?_push_of_some _ q) (Nat.le_refl _) ⟨_, e1⟩
  refine I1.laid (a := s.heap.objs.size + 1) (o := .ins C s.heap.objs.size []) (t' := s.toks) (fun b u q => Heap.get?_push_of_some _ q) (Nat.le_of_eq (Heap.size_push _ _)) ?_
  have ne : s.heap.objs.size ≠ s.heap.objs.size + 1 := Nat.ne_of_lt (Nat.lt_succ_self _)
  refine ⟨by rw [upd_ne ne, upd_same], Nat.zero_le _, ne, e2, fun _ => none, (Heap.Ns1.of_empty e3).at fun o q => Heap.get?_push_of_some _ q, fun _ => True.intro, fun y hy => absurd rfl hy⟩

/-- e.f where nothing but the object is asked: through attributeBase (super) and the last hold -/
theorem attr_of {prog : Program} {w : World} {env : Env} {e : Expr} {f : Str} {pos : Pos} {s : Shared} {Q : Value → Shared → Prop} (hb : attributeBase e f env (eval e env) = eval e env)
    (h : wpAny (model prog w) A (eval e env) (fun o s₁ => wpAny (model prog w) A (getAttr o f true) Q E s₁) E s) : wpAny (model prog w) A (eval (.Attribute e f pos) env) Q E s :=
  Attribute_any_ h (by rw [arm_eval_Attribute, hb])
end

/-! ### readings and rules -/
/-- e.f, an attribute of the instance -/
def tFld (K : PySem.W.Frag) (ta : TE) (f : Str) : TE := fun σ H Q => ta σ H fun x H1 => ∃ a C dx fs v, x = .ref a ∧ H1 a = some (.ins C dx fs) ∧ Cls K C ∧ NoAttr K C f ∧ fs.lookup f = some v ∧ Q v H1
/-- e.f, a constant of the class -/
def tCon (K : PySem.W.Frag) (ta : TE) (f : Str) : TE := fun σ H Q => ta σ H fun x H1 => ∃ a C dx fs v u, x = .ref a ∧ H1 a = some (.ins C dx fs) ∧ Cls K C ∧ Con K C f v u ∧ fs.lookup f = none ∧ Q v H1
/-- e.f = value -/
def sFld (K : PySem.W.Frag) (ta tv : TE) (f : Str) : TS := fun D σ H => tv σ H fun y H1 => ta σ H1 fun x H2 => ∃ a C dx fs, x = .ref a ∧ H2 a = some (.ins C dx fs) ∧ Cls K C ∧ NoAttr K C f ∧ fs.length < 1000 ∧
  D.nx σ (upd H2 a (.ins C dx (putF f y fs)))
/-- an augmented operator on two values -/
def InOp (X : Cx) (op : Operator) (rd : V → V → Hp → VK → Prop) : Prop :=
  ∀ (pins : List (Addr × Obj)) (s : Shared) (σ : St) (H : Hp) (x y : V) (u v : Value) (Q : VK), Inv X pins σ H s → RelV x u → RelV y v → rd x y H Q → wpAny (model X.prog X.w) X.A (inplaceOp op u v) (EP X pins σ Q) X.xe s
/-- e.f op= value -/
def sFldAug (K : PySem.W.Frag) (ta tv : TE) (rd : V → V → Hp → VK → Prop) (f : Str) : TS := fun D σ H => ta σ H fun x H1 => ∃ a C dx fs v, x = .ref a ∧ H1 a = some (.ins C dx fs) ∧ Cls K C ∧ NoAttr K C f ∧ fs.lookup f = some v ∧
  tv σ H1 fun y H2 => rd v y H2 fun z H3 => ∃ dx' fs', H3 a = some (.ins C dx' fs') ∧ fs'.length < 1000 ∧ D.nx σ (upd H3 a (.ins C dx' (putF f z fs')))

section
variable {X : Cx} {o e value : Expr} {f : Str} {pos pos' tpos : Pos} {ta tv : TE}
theorem pe_fld (he : PE X e ta) (hb : attributeBase e f X.env (eval e X.env) = eval e X.env) : PE X (.Attribute e f pos) (tFld X.K ta f) := by
  intro pins s σ H Q I h
  refine attr_of hb (thn (he pins s σ H _ I h) fun u s1 ⟨x, H1, I1, rx, a, C, dx, fs, v, ex, ea, c, n, l, q⟩ => ?_)
  subst ex
  obtain rfl : u = Value.ref a := rx
  exact getattr_ok I1 ea c n l fun u' s2 I2 ru => ⟨v, H1, I2, ru, q⟩
theorem pe_con (he : PE X e ta) (hb : attributeBase e f X.env (eval e X.env) = eval e X.env) : PE X (.Attribute e f pos) (tCon X.K ta f) := by
  intro pins s σ H Q I h
  refine attr_of hb (thn (he pins s σ H _ I h) fun u s1 ⟨x, H1, I1, rx, a, C, dx, fs, v, u0, ex, ea, c, k, l, q⟩ => ?_)
  subst ex
  obtain rfl : u = Value.ref a := rx
  exact getcon_ok I1 ea c k l fun s2 I2 => ⟨v, H1, I2, k.rel, q⟩
theorem ps_fld (ha : PE X o ta) (hv : PE X value tv) (hs : swapsWith value (some (.Attribute o f pos')) pos.line X.env = pure false) : PS X (.Assign [.Attribute o f pos'] value pos) (sFld X.K ta tv f) := by
  intro pins s σ H D I h
  refine plainObj_wpAny_Assign_Attribute (thn (hv pins s σ H _ I h) fun u s1 ⟨y, H1, I1, ry, q⟩ => thn (ha pins s1 σ H1 _ I1 q) fun ov s2 ⟨x, H2, I2, rx, a, C, dx, fs, ex, ea, c, n, l, q2⟩ => ?_) hs
  subst ex
  obtain rfl : ov = Value.ref a := rx
  exact setattr_ok I2 ea c n l ry fun s3 I3 => ⟨σ, _, I3, q2⟩
theorem ps_fldaug {op : Operator} {rd : V → V → Hp → VK → Prop} (ha : PE X o ta) (hv : PE X value tv) (hop : InOp X op rd) : PS X (.AugAssign (.Attribute o f tpos) op value pos) (sFldAug X.K ta tv rd f) := by
  intro pins s σ H D I h
  refine wpAny_AugAssign_AttributeAny (thn (ha pins s σ H _ I h) fun ov s1 ⟨x, H1, I1, rx, a, C, dx, fs, v, ex, ea, c, n, l, q⟩ => ?_)
  subst ex
  obtain rfl : ov = Value.ref a := rx
  refine getattr_ok I1 ea c n l fun u s2 I2 ru => thn (hv pins s2 σ H1 _ I2 q) fun w3 s3 ⟨y, H2, I3, ry, q3⟩ => thn (hop pins s3 σ H2 v y u w3 _ I3 ru ry q3) fun w4 s4 ⟨z, H3, I4, rz, dx', fs', ea', l', q4⟩ => ?_
  exact setattr_ok I4 ea' c n l' rz fun s5 I5 => ⟨σ, _, I5, q4⟩
def rAdd : V → V → Hp → VK → Prop := fun x y H Q => ∃ i j, x = .int i ∧ y = .int j ∧ Q (.int (i + j)) H
def rSub : V → V → Hp → VK → Prop := fun x y H Q => ∃ i j, x = .int i ∧ y = .int j ∧ Q (.int (i - j)) H
theorem in_add : InOp X .Add rAdd := by
  rintro pins s σ H x y u v Q I rx ry ⟨i, j, rfl, rfl, q⟩
  obtain ⟨t, rfl⟩ := (show ∃ t, u = Value.int i t from rx)
  obtain ⟨t', rfl⟩ := (show ∃ t', v = Value.int j t' from ry)
  exact PyProof.Rows.iadd_int ⟨.int (i + j), H, I.tok _, ⟨_, rfl⟩, q⟩
theorem in_sub : InOp X .Sub rSub := by
  rintro pins s σ H x y u v Q I rx ry ⟨i, j, rfl, rfl, q⟩
  obtain ⟨t, rfl⟩ := (show ∃ t, u = Value.int i t from rx)
  obtain ⟨t', rfl⟩ := (show ∃ t', v = Value.int j t' from ry)
  exact PyProof.Rows.isub_int ⟨.int (i - j), H, I.tok _, ⟨_, rfl⟩, q⟩

/-- what is between an instance and its method: the tree of a method call -/
theorem methcall_of {pl : Sem Bool} {m : Str} {apos : Pos} {args : List Expr} {pins : List (Addr × Obj)} {s : Shared} {σ : St} {H : Hp} {Q : Value → Shared → Prop} {te : TE} (he : PE X e te) (I : Inv X pins σ H s)
    (h : te σ H fun x H1 => ∃ a C dx fs g, x = .ref a ∧ H1 a = some (.ins C dx fs) ∧ Cls X.K C ∧ Meth X.K C m g ∧ fs.lookup m = none ∧
      ∀ s1, Inv X pins σ H1 s1 → wpAny (model X.prog X.w) X.A (callWith pos (.ref g) [.ref a] (backTo pos (starEach args X.env)) (backToKw pos (keywordEach [] X.env))) Q X.xe s1)
    (ht : eval (.Call (.Attribute e m apos) args [] pos) X.env = (do
      let ov ← eval e X.env
      standAt apos.atName
      let (f, first) ← holding [ov] (getMethod ov m pl)
      callWith pos f first (backTo pos (starEach args X.env)) (backToKw pos (keywordEach [] X.env)))) :
    wpAny (model X.prog X.w) X.A (eval (.Call (.Attribute e m apos) args [] pos) X.env) Q X.xe s := by
  refine PySem.W.methodCall_KW (pl := pl) (thn (he pins s σ H _ I h) fun u s1 ⟨x, H1, I1, rx, a, C, dx, fs, g, ex, ea, c, k, l, q⟩ => ?_) ht
  subst ex
  obtain rfl : u = Value.ref a := rx
  exact getmeth_ok I1 ea c k l (q s1 I1)
end

/-! ### isinstance -/
section
variable {X : Cx} {pins : List (Addr × Obj)} {σ : St} {H : Hp} {s : Shared} {A : Around} {E : Value → Shared → Prop} {Q : Value → Shared → Prop} {c : Value} {b : Bool}
/-- the type of a value, as the fragment's deciders take it; for an instance its class -/
inductive TyOf (K : PySem.W.Frag) (H : Hp) : V → Value → Prop where
  | non : TyOf K H .non (.type "NoneType")
  | bl (x : Bool) : TyOf K H (.bl x) (.type "bool")
  | int (i : Int) : TyOf K H (.int i) (.type "int")
  | str (x : Str) : TyOf K H (.str x) (.type "str")
  | flt (x : UInt64) : TyOf K H (.flt x) (.type "float")
  | lst {a : Addr} {xs : List V} (e : H a = some (.lst xs)) : TyOf K H (.ref a) (.type "list")
  | frz {a : Addr} {o : Obj} {xs : List V} (e : H a = some (.frz o (.lst xs))) : TyOf K H (.ref a) (.type "list")
  | tup {a : Addr} {xs : List V} (e : H a = some (.tup xs)) : TyOf K H (.ref a) (.type "tuple")
  | dK {a : Addr} {kvs : List (Key × V)} (e : H a = some (.dK kvs)) : TyOf K H (.ref a) (.type "dict")
  | dT {a : Addr} {kvs : List (List Key × V)} (e : H a = some (.dT kvs)) : TyOf K H (.ref a) (.type "dict")
  | ins {a C dx : Addr} {fs : List (Str × V)} (e : H a = some (.ins C dx fs)) (cl : Cls K C) (ha : PySem.W.findIn K (.ref C) "__class__" = some (some (.builtin "object.__class__")))
      (hn : PySem.W.specialIn K (.builtin "object.__class__") "__get__" = some (some (.builtin "getset_descriptor.__get__"))) (htk : PySem.W.takesIn K (.builtin "object.__class__") = some true)
      (hm : PySem.W.mroIn K C (.type "object") = some true) : TyOf K H (.ref a) (.ref C)
/-- isinstance(x, c) for one class c, a built-in or an own one: kitOne's answer -/
theorem isinst_ok {x : V} {u t : Value} (I : Inv X pins σ H s) (rx : RelV x u) (ty : TyOf X.K H x t) (e : PySem.W.kitOne X.K t c = some b) (h : ∀ tk, Q (.bool b) { s with toks := tk }) :
    wpAny (model X.prog X.w) A (call (.builtin "isinstance") [u, c]) Q E s := by
  cases ty with
  | non => cases (show u = Value.none from rx); exact PySem.W.kia_one PySem.W.kitx_none I.kIn True.intro e (fun z => nomatch z) h
  | bl y => cases (show u = Value.bool y from rx); exact PySem.W.kia_one PySem.W.kitx_bool I.kIn True.intro e (fun z => nomatch z) h
  | int i => obtain ⟨t, q⟩ := (show ∃ t, u = Value.int i t from rx); cases q; exact PySem.W.kia_one PySem.W.kitx_int I.kIn True.intro e (fun z => nomatch z) h
  | str y => obtain ⟨t, q⟩ := (show ∃ t, u = Value.str y t from rx); cases q; exact PySem.W.kia_one PySem.W.kitx_str I.kIn True.intro e (fun z => nomatch z) h
  | flt y => obtain ⟨t, q⟩ := (show ∃ t, u = Value.float y t from rx); cases q; exact PySem.W.kia_one PySem.W.kitx_float I.kIn True.intro e (fun z => nomatch z) h
  | @lst a xs ea =>
    cases (show u = Value.ref a from rx)
    obtain ⟨_, _, n, _, h1⟩ := (show ObjOk X.prog X.w H s.heap a (.lst xs) from I.hok a _ ea)
    exact PySem.W.kia_one PySem.W.kitx_list I.kIn ⟨_, h1, rfl⟩ e (fun z => nomatch z) h
  | @frz a ob xs ea =>
    cases (show u = Value.ref a from rx)
    obtain ⟨_, _, _, n, _, h1⟩ := (show ObjOk X.prog X.w H s.heap a (.frz ob (.lst xs)) from I.hok a _ ea)
    exact PySem.W.kia_one PySem.W.kitx_list I.kIn ⟨_, h1, rfl⟩ e (fun z => nomatch z) h
  | @tup a xs ea =>
    cases (show u = Value.ref a from rx)
    obtain ⟨_, _, _, p⟩ := (show ObjOk X.prog X.w H s.heap a (.tup xs) from I.hok a _ ea)
    obtain ⟨o, h1, h2, _⟩ := p
    exact PySem.W.kia_one PySem.W.kitx_tuple I.kIn ⟨o, h1, h2⟩ e (fun z => nomatch z) h
  | @dK a kvs ea =>
    cases (show u = Value.ref a from rx)
    obtain ⟨_, _, vs, _, p⟩ := (show ObjOk X.prog X.w H s.heap a (.dK kvs) from I.hok a _ ea)
    obtain ⟨o, es, ep, h1, h2, _⟩ := p
    exact PySem.W.kia_one PySem.W.kitx_dict I.kIn ⟨o, h1, h2.1⟩ e (fun z => nomatch z) h
  | @dT a kvs ea =>
    cases (show u = Value.ref a from rx)
    obtain ⟨_, _, xs, _, o, es, ep, h1, h2, _⟩ := (show ObjOk X.prog X.w H s.heap a (.dT kvs) from I.hok a _ ea)
    exact PySem.W.kia_one PySem.W.kitx_dict I.kIn ⟨o, h1, h2.1⟩ e (fun z => nomatch z) h
  | @ins a C dx fs ea cl ha hn htk hm =>
    cases (show u = Value.ref a from rx)
    obtain ⟨mA, O, _⟩ := ins_get I.hok ea
    obtain ⟨od, J, _⟩ := O.look
    exact PySem.W.kia_one (PySem.W.kitx_own (cl.get _) cl.hd ha hn htk hm) I.kIn J e (fun z => nomatch z) h
end
end L2

namespace L2
open PySem PySem.Spec PyProof.Rows

/-! ### room -/
structure Room (k : Nat) (A : Around) : Prop where
  hd : A.handled = none
  dp : A.depth + 3 * k + 5 < recursionLimit
  un : A.units + 16 * k + 200 < cLine
theorem Room.mono {j k : Nat} {A : Around} (r : Room k A) (h : j ≤ k) : Room j A := ⟨r.hd, by have := r.dp; omega, by have := r.un; omega⟩
theorem Room.deeper {k : Nat} {A : Around} (r : Room (k + 1) A) (env : Env) : Room k (A.deeper env) :=
  ⟨r.hd, by have := r.dp; show A.depth + 1 + 3 * k + 5 < _; omega, by have := r.un; show A.units + 3 + 16 * k + 200 < _; omega⟩
theorem Room.in1 {k : Nat} {A : Around} (r : Room (k + 1) A) : Room k A.in1 :=
  ⟨r.hd, by have := r.dp; show A.depth + 3 * k + 5 < _; omega, by have := r.un; show A.units + 1 + 16 * k + 200 < _; omega⟩
theorem make_depth {A : Around} {C : Addr} {us : List Value} {kw : List (Str × Value)} : (A.under (.builtin "type.__call__" ⟨.ref C :: us, kw⟩)).depth = A.depth + 1 := by
  first | rfl | simp [Around.under, Code.weight, Code.isCreation, Code.isGuard, Code.isCaller, Code.frames, Code.isFrame, guardIds]
theorem make_units {A : Around} {C : Addr} {us : List Value} {kw : List (Str × Value)} : (A.under (.builtin "type.__call__" ⟨.ref C :: us, kw⟩)).units = A.units + 1 := by
  first | rfl | simp [Around.under, Code.cUnits, Code.frames, Code.isFrame]
theorem Room.make {k : Nat} {A : Around} (r : Room (k + 1) A) (C : Addr) (us : List Value) (kw : List (Str × Value)) : Room k (A.under (.builtin "type.__call__" ⟨.ref C :: us, kw⟩)) :=
  ⟨r.hd, by have := r.dp; rw [make_depth]; omega, by have := r.un; rw [make_units]; omega⟩
theorem Room.depth {k : Nat} {A : Around} (r : Room k A) : A.depth < recursionLimit := by have := r.dp; omega
theorem Room.units {k : Nat} {A : Around} (r : Room k A) : A.units + 64 < cLine := by have := r.un; omega
theorem Room.units0 {k : Nat} {A : Around} (r : Room k A) : A.units < cLine := by have := r.un; omega

/-! ### argument lists and displays -/
def tNil : TA := fun _ H Q => Q [] H
def tCons (ta : TE) (tr : TA) : TA := fun σ H Q => ta σ H fun x H1 => tr σ H1 fun xs H2 => Q (x :: xs) H2
section
variable {X : Cx} {e : Expr} {es : List Expr} {te : TE} {t : TA} {pos : Pos}
theorem pa_nil : PA X [] tNil := fun _ _ _ _ H Q I h => Calls.spliced_nil ⟨[], H, I, .nil, h⟩
theorem pa_cons (ha : PE X e te) (hr : PA X es t) (hs : starEach (e :: es) X.env = (false, eval e X.env) :: starEach es X.env := by rfl) : PA X (e :: es) (tCons te t) := by
  intro pos pins s σ H Q I h
  rw [hs]
  show wpAny _ _ (spliced ((false, eval e X.env) :: backTo pos (starEach es X.env))) _ _ s
  refine Calls.spliced_cons (thn (ha pins s σ H _ I h) fun u s1 ⟨x, H1, I1, r1, q1⟩ => ?_)
  exact thn (hr pos pins s1 σ H1 _ I1 q1) fun us s2 ⟨xs, H2, I2, r2, q2⟩ => ⟨x :: xs, H2, I2, .cons r1 r2, q2⟩

/-- a tuple, a list of written items -/
def tTup (t : TA) : TE := fun σ H Q => t σ H fun xs H1 => xs.length ≤ sizeLine ∧ ∀ p, H1 p = none → Q (.ref p) (upd H1 p (.tup xs))
def tLst (t : TA) : TE := fun σ H Q => t σ H fun xs H1 => xs.length ≤ sizeLine ∧ ∀ p, H1 p = none → Q (.ref p) (upd H1 p (.lst xs))
theorem pe_tup {x1} (h : PA X es t) : PE X (.Tuple es x1 pos) (tTup t) := by
  intro pins s σ H Q I hq
  refine wpAny_Tuple_spliced (thn (h pos pins s σ H _ I hq) fun us s1 ⟨xs, H1, I1, r, z, q⟩ => ⟨by rw [← r.length]; exact z, ?_⟩)
  have hf : H1 s1.heap.objs.size = none := I1.hok.fresh (Nat.le_refl _)
  refine ⟨.ref s1.heap.objs.size, upd H1 s1.heap.objs.size (.tup xs), I1.laid (t' := s1.toks) (fun b u e => Heap.get?_push_of_some _ e) (Nat.le_refl _) ?_, rfl, q _ hf⟩
  exact ⟨z, us, r, ⟨_, Heap.get?_push_size _ rfl, rfl, _, rfl⟩⟩
theorem pe_lst (h : PA X es t) : PE X (.List es pos) (tLst t) := by
  intro pins s σ H Q I hq
  refine wpAny_List_spliced (thn (h pos pins s σ H _ I hq) fun us s1 ⟨xs, H1, I1, r, z, q⟩ => ⟨by rw [← r.length]; exact z, ?_⟩)
  have hf : H1 s1.heap.objs.size = none := I1.hok.fresh (Nat.le_refl _)
  refine ⟨.ref s1.heap.objs.size, upd H1 s1.heap.objs.size (.lst xs), I1.laid (t' := s1.toks) (fun b u e => Heap.get?_push_of_some _ e) (Nat.le_refl _) ?_, rfl, q _ hf⟩
  exact ⟨z, us, 0, r, Heap.get?_push_size _ rfl⟩
end

/-! ### what a def promises -/
/-- a def's promise: the bound arguments in the parameters' order, the heap, the wanted end, the wanted exception -/
abbrev Sp := List V → Hp → VK → XK → Prop
/-- how an exception lies behind a call (file 08 gives it): the callers' frames, abstract heap and state ahead of the call, the wish, the exception, the state -/
abbrev CXT := List Env → Hp → Shared → XK → Value → Shared → Prop

/-- the state at a call -/
structure Env0 (P : Program) (w : World) (K : PySem.W.Frag) (mg : Str → Option Value) (base : Heap) (A : Around) (outer : List Env) (s : Shared) (H : Hp) : Prop where
  frames : A.frames = some outer
  mod : Mod K mg base
  bs : ∀ b o, base.get? b = some o → s.heap.get? b = some o ∧ H b = none
  bsz : base.objs.size ≤ s.heap.objs.size
  funs : s.heap.FunFrames base outer
  frf : ∀ b ∈ frs outer, H b = none
  hok : HOk P w H s.heap
  bare : AllBare s.gens
/-- a call's end -/
def CE (outer : List Env) (P : Program) (w : World) (H : Hp) (s : Shared) (Q : VK) (u : Value) (s' : Shared) : Prop :=
  ∃ v H', s'.os = s.os ∧ AllBare s'.gens ∧ Un (frs outer) [] H H' s.heap s'.heap ∧ HOk P w H' s'.heap ∧ RelV v u ∧ Q v H'
def CR (CX : CXT) (outer : List Env) (P : Program) (w : World) (H : Hp) (s : Shared) (Q : VK) (E : XK) (r : Result) (s' : Shared) : Prop :=
  match r with
  | .ok (.ret u) => CE outer P w H s Q u s'
  | .ok _ => False
  | .error e => CX outer H s E e s'
structure FnOk (P : Program) (w : World) (K : PySem.W.Frag) (mg : Str → Option Value) (base : Heap) (CX : CXT) (k : Nat) (f : Addr) (fd : FuncData) (ps : List Str) (sp : Sp) : Prop where
  len : ∀ vs H Q E, sp vs H Q E → vs.length = ps.length
  run : ∀ (A : Around) (outer : List Env) (s : Shared) (H : Hp) (args : Args) (us : List Value) (vs : List V) (Q : VK) (E : XK), Room k A → Env0 P w K mg base A outer s H → BindsTo s fd args (ps.zip us) → Vals vs us → sp vs H Q E →
    codeAny (model P w) A (.call (.ref f) args) (CR CX outer P w H s Q E) s
theorem FnOk.mono {P : Program} {w : World} {K : PySem.W.Frag} {mg : Str → Option Value} {base : Heap} {CX : CXT} {j k : Nat} {f : Addr} {fd : FuncData} {ps : List Str} {sp : Sp} (F : FnOk P w K mg base CX j f fd ps sp) (h : j ≤ k) :
    FnOk P w K mg base CX k f fd ps sp := ⟨F.len, fun A outer s H args us vs Q E hr => F.run A outer s H args us vs Q E (hr.mono h)⟩
/-- a weaker promise -/
theorem FnOk.imp {P : Program} {w : World} {K : PySem.W.Frag} {mg : Str → Option Value} {base : Heap} {CX : CXT} {k : Nat} {f : Addr} {fd : FuncData} {ps : List Str} {sp sp' : Sp} (F : FnOk P w K mg base CX k f fd ps sp)
    (h : ∀ vs H Q E, sp' vs H Q E → sp vs H Q E) : FnOk P w K mg base CX k f fd ps sp' :=
  ⟨fun vs H Q E q => F.len vs H Q E (h _ _ _ _ q), fun A outer s H args us vs Q E hr he hb hv hs => F.run A outer s H args us vs Q E hr he hb hv (h _ _ _ _ hs)⟩

theorem Env0.make {P : Program} {w : World} {K : PySem.W.Frag} {mg : Str → Option Value} {base : Heap} {A : Around} {outer : List Env} {s : Shared} {H : Hp} (e : Env0 P w K mg base A outer s H) (C : Addr) (us : List Value) (kw : List (Str × Value)) :
    Env0 P w K mg base (A.under (.builtin "type.__call__" ⟨.ref C :: us, kw⟩)) outer s H := ⟨by first | exact e.frames | (simpa [Around.under, Code.envs, Code.isFrame, pushEnvs] using e.frames), e.mod, e.bs, e.bsz, e.funs, e.frf, e.hok, e.bare⟩
theorem Env0.in1 {P : Program} {w : World} {K : PySem.W.Frag} {mg : Str → Option Value} {base : Heap} {A : Around} {outer : List Env} {s : Shared} {H : Hp} (e : Env0 P w K mg base A outer s H) :
    Env0 P w K mg base A.in1 outer s H := ⟨e.frames, e.mod, e.bs, e.bsz, e.funs, e.frf, e.hok, e.bare⟩

section
variable {X : Cx} {pins : List (Addr × Obj)} {σ : St} {H : Hp} {s s' : Shared}
/-- from a body: what a callee wants -/
theorem Inv.env0 (I : Inv X pins σ H s) : Env0 X.prog X.w X.K X.mg X.base X.A X.stack s H :=
  ⟨I.ok.frames, I.ok.mod, I.bs, Nat.le_trans I.ok.bsz I.sz, I.stack, I.stkFree, I.hok, I.bare⟩
/-- behind a call -/
theorem Inv.after {Q : VK} {u : Value} (I : Inv X pins σ H s) (h : CE X.stack X.prog X.w H s Q u s') : EP X pins σ Q u s' := by
  obtain ⟨v, H', os, bare, un, hok, r, q⟩ := h
  obtain ⟨hh, g, d, t, os'⟩ := s'
  obtain rfl : os' = s.os := os
  exact ⟨v, H', I.call (h' := hh) (g' := g) (d' := d) (t' := t) (ch := []) un hok bare (fun b z => absurd z (by simp)), r, q⟩
end

/-! ### calls -/
/-- f(..): the written arguments, then the defaults dvs; E: what is wanted of an exception -/
def tCall (sp : Sp) (dvs : List V) (E : XK) (t : TA) : TE := fun σ H Q => t σ H fun vs H1 => sp (vs ++ dvs) H1 Q E
/-- o.m(..) of an instance of the class at C -/
def tMeth (C : Addr) (m : Str) (sp : Sp) (dvs : List V) (E : XK) (ta : TE) (t : TA) : TE := fun σ H Q => ta σ H fun x H1 => ∃ a dx fs, x = .ref a ∧ H1 a = some (.ins C dx fs) ∧ fs.lookup m = none ∧
  t σ H1 fun vs H2 => sp (x :: (vs ++ dvs)) H2 Q E
/-- C(..): a new instance and its dict, then __init__ -/
def tMake (C : Addr) (sp : Sp) (dvs : List V) (E : XK) (t : TA) : TE := fun σ H Q => t σ H fun vs H1 => ∀ x dx, H1 x = none → H1 dx = none → dx ≠ x →
  sp (.ref x :: (vs ++ dvs)) (upd (upd H1 dx (.own x)) x (.ins C dx [])) (fun v H2 => v = .non ∧ Q (.ref x) H2) E

/-- how the parameters are bound: us the positional arguments, kw the keywords' values by name, ds the defaults that fill up -/
def Binds (K : PySem.W.Frag) (fd : FuncData) (ps : List Str) (ds : List Value) : Prop :=
  ∀ (s : Shared) (us : List Value), K.In s.heap → (us ++ ds).length = ps.length → BindsTo s fd ⟨us, []⟩ (ps.zip (us ++ ds))
/-- every parameter is given -/
theorem Binds.all {K : PySem.W.Frag} {fd : FuncData} {ps : List Str} (h : ∀ us : List Value, us.length = ps.length → bindArgs fd ⟨us, []⟩ = pure (ps.zip us)) : Binds K fd ps [] := fun s us _ hl => by
  rw [List.append_nil] at hl ⊢
  exact .of_eq (h us hl)

/-- an exception of a callee reaches what this body wants of exceptions -/
def Passes (CX : CXT) (X : Cx) (E : XK) : Prop := ∀ (pins : List (Addr × Obj)) (σ : St) (H : Hp) (s : Shared) (e : Value) (s' : Shared), Inv X pins σ H s → CX X.stack H s E e s' → X.xe e s'

section
variable {X : Cx} {CX : CXT} {k : Nat} {f C : Addr} {fd : FuncData} {ps : List Str} {sp : Sp} {dvs : List V} {ds : List Value} {E : XK} {x m : Str} {p pos apos : Pos} {e o : Expr} {es : List Expr} {ta : TE} {t : TA}

/-- the callee runs -/
theorem run_fn {pins : List (Addr × Obj)} {σ : St} {H : Hp} {s : Shared} {Q : VK} {us : List Value} {vs : List V} (F : FnOk X.prog X.w X.K X.mg X.base CX k f fd ps sp) (hr : Room k X.A) (hb : Binds X.K fd ps ds) (hd : Vals dvs ds) (hx : Passes CX X E)
    (I : Inv X pins σ H s) (r : Vals vs us) (h : sp (vs ++ dvs) H Q E) : wpAny (model X.prog X.w) X.A (call (.ref f) us) (EP X pins σ Q) X.xe s := by
  have r2 : Vals (vs ++ dvs) (us ++ ds) := r.append hd
  have hl : (us ++ ds).length = ps.length := by rw [← r2.length]; exact F.len _ _ _ _ h
  refine wpAny_call (codeAny_mono (F.run X.A X.stack s H ⟨us, []⟩ (us ++ ds) (vs ++ dvs) Q E hr I.env0 (hb s us I.kIn hl) r2 h) fun r s' hq => ?_)
  cases r with
  | error e => exact hx pins σ H s e s' I hq
  | ok fl =>
    cases fl with
    | ret u => exact I.after hq
    | next => exact False.elim hq
    | brk => exact False.elim hq
    | cont => exact False.elim hq

theorem pe_call (F : FnOk X.prog X.w X.K X.mg X.base CX k f fd ps sp) (hr : Room k X.A) (hg : Gl X x) (hm : X.mg x = some (.ref f)) (hk : PySem.W.keepIn X.K (.ref f) = true) (hb : Binds X.K fd ps ds) (hd : Vals dvs ds) (hx : Passes CX X E)
    (ha : PA X (e :: es) t) (hdb : (x == ("__debug__" : Str)) = false := by decide) (he : starEach (e :: es) X.env = (false, eval e X.env) :: starEach es X.env := by rfl) (hpl : (backTo pos (starEach es X.env)).any (·.1) = false := by rfl) :
    PE X (.Call (.Name x p) (e :: es) [] pos) (tCall sp dvs E t) := by
  intro pins s σ H Q I h
  refine wpAny_Call_Name_kw (ld_glob I hg hm ?_ hdb)
  refine PySem.W.callWith_K (h₀ := X.base) I.ok.mod.kin hk (thn (ha pos pins s σ H _ I h) fun us s1 ⟨vs, H1, I1, r, q⟩ => ⟨I1.kIn, ?_⟩) he hpl
  exact run_fn F hr hb hd hx I1 r q
theorem pe_call0 (F : FnOk X.prog X.w X.K X.mg X.base CX k f fd ps sp) (hr : Room k X.A) (hg : Gl X x) (hm : X.mg x = some (.ref f)) (hk : PySem.W.keepIn X.K (.ref f) = true) (hb : Binds X.K fd ps ds) (hd : Vals dvs ds) (hx : Passes CX X E)
    (hdb : (x == ("__debug__" : Str)) = false := by decide) : PE X (.Call (.Name x p) [] [] pos) (tCall sp dvs E tNil) := by
  intro pins s σ H Q I h
  refine wpAny_Call_Name_kw (ld_glob I hg hm ?_ hdb)
  exact PySem.W.callWith_K0 I.kIn hk (run_fn (us := []) F hr hb hd hx I .nil h)

/-- o.m(e, ..) -/
theorem pe_meth {pl : Sem Bool} (he : PE X o ta) (c : Cls X.K C) (hm : Meth X.K C m f) (F : FnOk X.prog X.w X.K X.mg X.base CX k f fd ps sp) (hr : Room k X.A) (hb : Binds X.K fd ps ds) (hd : Vals dvs ds) (hx : Passes CX X E) (ha : PA X (e :: es) t)
    (hst : starEach (e :: es) X.env = (false, eval e X.env) :: starEach es X.env := by rfl) (hpl : (backTo pos (starEach es X.env)).any (·.1) = false := by rfl)
    (ht : eval (.Call (.Attribute o m apos) (e :: es) [] pos) X.env = (do
      let ov ← eval o X.env
      standAt apos.atName
      let (f, first) ← holding [ov] (getMethod ov m pl)
      callWith pos f first (backTo pos (starEach (e :: es) X.env)) (backToKw pos (keywordEach [] X.env))) := by rfl) :
    PE X (.Call (.Attribute o m apos) (e :: es) [] pos) (tMeth C m sp dvs E ta t) := by
  intro pins s σ H Q I h
  refine PySem.W.methodCall_KW (pl := pl) (thn (he pins s σ H _ I h) fun u s1 ⟨x, H1, I1, rx, a, dx, fs, ex, ea, l, q⟩ => ?_) ht
  subst ex
  obtain rfl : u = Value.ref a := rx
  refine getmeth_ok I1 ea c hm l ?_
  refine PySem.W.callWith_K (first := [.ref a]) (h₀ := X.base) I.ok.mod.kin hm.kp (thn (ha pos pins s1 σ H1 _ I1 q) fun us s2 ⟨vs, H2, I2, r, q2⟩ => ⟨I2.kIn, ?_⟩) hst hpl
  exact run_fn (us := .ref a :: us) (vs := .ref a :: vs) F hr hb hd hx I2 (.cons rfl r) q2
/-- o.m() -/
theorem pe_meth0 {pl : Sem Bool} (he : PE X o ta) (c : Cls X.K C) (hm : Meth X.K C m f) (F : FnOk X.prog X.w X.K X.mg X.base CX k f fd ps sp) (hr : Room k X.A) (hb : Binds X.K fd ps ds) (hd : Vals dvs ds) (hx : Passes CX X E)
    (ht : eval (.Call (.Attribute o m apos) [] [] pos) X.env = (do
      let ov ← eval o X.env
      standAt apos.atName
      let (f, first) ← holding [ov] (getMethod ov m pl)
      callWith pos f first (backTo pos (starEach [] X.env)) (backToKw pos (keywordEach [] X.env))) := by rfl) :
    PE X (.Call (.Attribute o m apos) [] [] pos) (tMeth C m sp dvs E ta tNil) := by
  intro pins s σ H Q I h
  refine PySem.W.methodCall_KW (pl := pl) (thn (he pins s σ H _ I h) fun u s1 ⟨x, H1, I1, rx, a, dx, fs, ex, ea, l, q⟩ => ?_) ht
  subst ex
  obtain rfl : u = Value.ref a := rx
  refine getmeth_ok I1 ea c hm l ?_
  exact PySem.W.callWith_K0 (first := [.ref a]) I1.kIn hm.kp (run_fn (us := [.ref a]) (vs := [.ref a]) F hr hb hd hx I1 (.cons rfl .nil) q)

/-- what a class must have to be made -/
structure Mk (K : PySem.W.Frag) (C f : Addr) : Prop where
  makes : PySem.W.makesIn K C = true
  init : PySem.W.findIn K (.ref C) "__init__" = some (some (.ref f))
  fn : PySem.W.isFn K (.ref f) = true
  kp : PySem.W.keepIn K (.ref C) = true

theorem run_make {pins : List (Addr × Obj)} {σ : St} {H : Hp} {s : Shared} {Q : VK} {us : List Value} {vs : List V} (M : Mk X.K C f) (F : FnOk X.prog X.w X.K X.mg X.base CX k f fd ps sp) (hr : Room (k + 1) X.A) (hb : Binds X.K fd ps ds) (hd : Vals dvs ds)
    (hx : Passes CX X E) (I : Inv X pins σ H s) (r : Vals vs us)
    (h : ∀ x dx, H x = none → H dx = none → dx ≠ x → sp (.ref x :: (vs ++ dvs)) (upd (upd H dx (.own x)) x (.ins C dx [])) (fun v H2 => v = .non ∧ Q (.ref x) H2) E) :
    wpAny (model X.prog X.w) X.A (call (.ref C) us) (EP X pins σ Q) X.xe s := by
  have hq := h (s.heap.objs.size + 1) s.heap.objs.size (I.hok.fresh (Nat.le_succ _)) (I.hok.fresh (Nat.le_refl _)) (Nat.ne_of_lt (Nat.lt_succ_self _))
  have I2 := Inv.made (C := C) I
  have r2 : Vals (V.ref (s.heap.objs.size + 1) :: (vs ++ dvs)) (Value.ref (s.heap.objs.size + 1) :: (us ++ ds)) := .cons rfl (r.append hd)
  have hl : (Value.ref (s.heap.objs.size + 1) :: us ++ ds).length = ps.length := by
    have e := r2.length
    rw [F.len _ _ _ _ hq] at e
    exact e.symm
  refine wpAny_call (make_map (f := f) I.kIn M.makes M.init (beq_iff_eq.mp M.fn) (codeAny_mono (F.run _ X.stack _ _ ⟨Value.ref (s.heap.objs.size + 1) :: us, []⟩ (Value.ref (s.heap.objs.size + 1) :: (us ++ ds)) _ _ E (hr.make C us [])
    (I2.env0.make C us []) (hb _ (Value.ref (s.heap.objs.size + 1) :: us) I2.kIn hl) r2 hq) fun r s' hq' => ?_))
  cases r with
  | error e => exact hx pins σ _ _ e s' I2 hq'
  | ok fl =>
    cases fl with
    | ret u =>
      obtain ⟨v, H', I3, rv, ev, q3⟩ := I2.after hq'
      subst ev
      exact ⟨rv, ⟨V.ref (s.heap.objs.size + 1), H', I3, rfl, q3⟩⟩
    | next => exact False.elim hq'
    | brk => exact False.elim hq'
    | cont => exact False.elim hq'
theorem pe_make (M : Mk X.K C f) (F : FnOk X.prog X.w X.K X.mg X.base CX k f fd ps sp) (hr : Room (k + 1) X.A) (hg : Gl X x) (hm : X.mg x = some (.ref C)) (hb : Binds X.K fd ps ds) (hd : Vals dvs ds) (hx : Passes CX X E)
    (ha : PA X (e :: es) t) (hdb : (x == ("__debug__" : Str)) = false := by decide) (he : starEach (e :: es) X.env = (false, eval e X.env) :: starEach es X.env := by rfl) (hpl : (backTo pos (starEach es X.env)).any (·.1) = false := by rfl) :
    PE X (.Call (.Name x p) (e :: es) [] pos) (tMake C sp dvs E t) := by
  intro pins s σ H Q I h
  refine wpAny_Call_Name_kw (ld_glob I hg hm ?_ hdb)
  refine PySem.W.callWith_K (h₀ := X.base) I.ok.mod.kin M.kp (thn (ha pos pins s σ H _ I h) fun us s1 ⟨vs, H1, I1, r, q⟩ => ⟨I1.kIn, ?_⟩) he hpl
  exact run_make M F hr hb hd hx I1 r q
theorem pe_make0 (M : Mk X.K C f) (F : FnOk X.prog X.w X.K X.mg X.base CX k f fd ps sp) (hr : Room (k + 1) X.A) (hg : Gl X x) (hm : X.mg x = some (.ref C)) (hb : Binds X.K fd ps ds) (hd : Vals dvs ds) (hx : Passes CX X E)
    (hdb : (x == ("__debug__" : Str)) = false := by decide) : PE X (.Call (.Name x p) [] [] pos) (tMake C sp dvs E tNil) := by
  intro pins s σ H Q I h
  refine wpAny_Call_Name_kw (ld_glob I hg hm ?_ hdb)
  exact PySem.W.callWith_K0 I.kIn M.kp (run_make (us := []) M F hr hb hd hx I .nil h)
end

/-! ### keywords -/
/-- the values of the keywords, from the left -/
def PK (X : Cx) (kws : List Keyword) (t : TA) : Prop :=
  ∀ (pos : Pos) (pins : List (Addr × Obj)) (s : Shared) (σ : St) (H : Hp) (Q : List V → Hp → Prop), Inv X pins σ H s → t σ H Q → wpAny (model X.prog X.w) X.A (evalAll ((backToKw pos (keywordEach kws X.env)).map (·.2))) (AP X pins σ Q) X.xe s
section
variable {X : Cx} {CX : CXT} {k : Nat} {f C : Addr} {fd : FuncData} {ps ks : List Str} {sp : Sp} {E : XK} {x m : Str} {p pos apos kpos : Pos} {e o : Expr} {es : List Expr} {kws : List Keyword} {te ta : TE} {t tk : TA} {nm : Option Str}
theorem pk_nil : PK X [] tNil := fun _ _ _ _ H Q I h => wpAny_evalAll_nil ⟨[], H, I, .nil, h⟩
theorem pk_cons (ha : PE X e te) (hr : PK X kws t) : PK X (⟨nm, e, kpos⟩ :: kws) (tCons te t) := by
  intro pos pins s σ H Q I h
  show wpAny _ _ (evalAll ((do let v ← eval e X.env; standAt pos; pure v) :: (backToKw pos (keywordEach kws X.env)).map (·.2))) _ _ s
  refine wpAny_evalAll_cons (wpAny_bind (thn (ha pins s σ H _ I h) fun u s1 ⟨x, H1, I1, r1, q1⟩ => wpAny_bind (wpAny_standAt (wpAny_pure ?_))))
  exact thn (hr pos pins s1 σ H1 _ I1 q1) fun us s2 ⟨xs, H2, I2, r2, q2⟩ => ⟨x :: xs, H2, I2, .cons r1 r2, q2⟩

/-- how a call with keywords binds: g puts the positional values us and the keywords' values ws (names ks) in the parameters' order, defaults among them -/
structure KBinds (K : PySem.W.Frag) (fd : FuncData) (ps ks : List Str) (g : List Value → List Value → List Value) (gV : List V → List V → List V) : Prop where
  to : ∀ (s : Shared) (us ws : List Value), K.In s.heap → (g us ws).length = ps.length → BindsTo s fd ⟨us, ks.zip ws⟩ (ps.zip (g us ws))
  rel : ∀ {vs : List V} {us : List Value} {zs : List V} {ws : List Value}, Vals vs us → Vals zs ws → Vals (gV vs zs) (g us ws)
def tCallK (sp : Sp) (gV : List V → List V → List V) (E : XK) (t tk : TA) : TE := fun σ H Q => t σ H fun vs H1 => tk σ H1 fun zs H2 => sp (gV vs zs) H2 Q E
variable {g : List Value → List Value → List Value} {gV : List V → List V → List V}
theorem run_fnk {pins : List (Addr × Obj)} {σ : St} {H : Hp} {s : Shared} {Q : VK} {us ws : List Value} {vs zs : List V} (F : FnOk X.prog X.w X.K X.mg X.base CX k f fd ps sp) (hr : Room k X.A) (hb : KBinds X.K fd ps ks g gV) (hx : Passes CX X E)
    (I : Inv X pins σ H s) (r : Vals vs us) (rz : Vals zs ws) (h : sp (gV vs zs) H Q E) : wpAny (model X.prog X.w) X.A (call (.ref f) us (ks.zip ws)) (EP X pins σ Q) X.xe s := by
  have r2 := hb.rel r rz
  have hl : (g us ws).length = ps.length := by rw [← r2.length]; exact F.len _ _ _ _ h
  refine wpAny_call (codeAny_mono (F.run X.A X.stack s H ⟨us, ks.zip ws⟩ (g us ws) (gV vs zs) Q E hr I.env0 (hb.to s us ws I.kIn hl) r2 h) fun r s' hq => ?_)
  cases r with
  | error e => exact hx pins σ H s e s' I hq
  | ok fl =>
    cases fl with
    | ret u => exact I.after hq
    | next => exact False.elim hq
    | brk => exact False.elim hq
    | cont => exact False.elim hq
/-- f(e, .., k = v, ..) -/
theorem pe_callK (F : FnOk X.prog X.w X.K X.mg X.base CX k f fd ps sp) (hr : Room k X.A) (hg : Gl X x) (hm : X.mg x = some (.ref f)) (hk : PySem.W.keepIn X.K (.ref f) = true) (hb : KBinds X.K fd ps ks g gV) (hx : Passes CX X E)
    (ha : PA X (e :: es) t) (hkw : PK X kws tk) (hall : (backToKw pos (keywordEach kws X.env)).all (·.1.isSome) = true := by rfl) (hks : (backToKw pos (keywordEach kws X.env)).filterMap (·.1) = ks := by rfl)
    (hdb : (x == ("__debug__" : Str)) = false := by decide) (he : starEach (e :: es) X.env = (false, eval e X.env) :: starEach es X.env := by rfl)
    (hpl : ((backTo pos (starEach (e :: es) X.env)).any (·.1) || (backToKw pos (keywordEach kws X.env)).any (·.1.isNone)) = false := by rfl) :
    PE X (.Call (.Name x p) (e :: es) kws pos) (tCallK sp gV E t tk) := by
  intro pins s σ H Q I h
  refine wpAny_Call_Name_kw (ld_glob I hg hm ?_ hdb)
  refine PySem.W.callWith_KW (h₀ := X.base) I.ok.mod.kin hk hall (thn (ha pos pins s σ H _ I h) fun us s1 ⟨vs, H1, I1, r, q⟩ => ?_) hpl he
  refine thn (hkw pos pins s1 σ H1 _ I1 q) fun ws s2 ⟨zs, H2, I2, rz, q2⟩ => ⟨I2.kIn, ?_⟩
  rw [hks]
  exact run_fnk F hr hb hx I2 r rz q2
end

/-! ### a def's body keeps its promise -/
/-- names: the parameters first -/
structure FnScope (N P : List Str) (sc : Scope) : Prop where
  kind : sc.kind = .function
  co : sc.isCoroutine = false
  gen : sc.isGenerator = false
  nd : N.Nodup
  pre : N.take P.length = P
  par : ∀ x ∈ P, sc.names.lookup x = some .local ∨ sc.names.lookup x = some .cell
  nofree : ∀ y ∈ sc.names, y.2 ≠ .free

theorem bindL_out {kindOf : Str → Option NameKind} {x : Str} : ∀ {binds : List (Str × Value)} {m : Str → Option Value}, (∀ v, (x, v) ∉ binds) → bindL kindOf binds m x = m x
  | [], _, _ => rfl
  | (n, v) :: r, m, h => by
    unfold bindL
    rw [bindL_out fun w hw => h w (List.mem_cons_of_mem _ hw)]
    split
    · have : x ≠ n := by rintro rfl; exact h v List.mem_cons_self
      simp [this]
    · rfl
theorem bindC_out {kindOf : Str → Option NameKind} {x : Str} : ∀ {binds : List (Str × Value)} {m : Str → Option Value}, (∀ v, (x, v) ∉ binds) → bindC kindOf binds m x = m x
  | [], _, _ => rfl
  | (n, v) :: r, m, h => by
    unfold bindC
    rw [bindC_out fun w hw => h w (List.mem_cons_of_mem _ hw)]
    split
    · rfl
    · have : x ≠ n := by rintro rfl; exact h v List.mem_cons_self
      simp [this]
theorem bindL_get {kindOf : Str → Option NameKind} {x : Str} {v : Value} : ∀ {P : List Str} {vs : List Value} {i : Nat} {m : Str → Option Value}, P.Nodup → P[i]? = some x → vs[i]? = some v → kindOf x = some .local →
    bindL kindOf (P.zip vs) m x = some v
  | [], _, _, _, _, h, _, _ => by simp at h
  | _ :: _, [], _, _, _, _, h, _ => by simp at h
  | p :: P, w :: vs, 0, m, nd, h1, h2, hk => by
    simp at h1 h2; subst h1; subst h2
    show bindL kindOf ((p, w) :: P.zip vs) m p = _
    unfold bindL
    rw [bindL_out fun v hv => (List.nodup_cons.mp nd).1 (List.of_mem_zip hv).1, if_pos hk]
    simp
  | p :: P, w :: vs, i + 1, m, nd, h1, h2, hk => by
    show bindL kindOf ((p, w) :: P.zip vs) m x = _
    unfold bindL
    exact bindL_get (i := i) (List.nodup_cons.mp nd).2 (by simpa using h1) (by simpa using h2) hk
theorem bindC_get {kindOf : Str → Option NameKind} {x : Str} {v : Value} : ∀ {P : List Str} {vs : List Value} {i : Nat} {m : Str → Option Value}, P.Nodup → P[i]? = some x → vs[i]? = some v → kindOf x ≠ some .local →
    bindC kindOf (P.zip vs) m x = some v
  | [], _, _, _, _, h, _, _ => by simp at h
  | _ :: _, [], _, _, _, _, h, _ => by simp at h
  | p :: P, w :: vs, 0, m, nd, h1, h2, hk => by
    simp at h1 h2; subst h1; subst h2
    show bindC kindOf ((p, w) :: P.zip vs) m p = _
    unfold bindC
    rw [bindC_out fun v hv => (List.nodup_cons.mp nd).1 (List.of_mem_zip hv).1, if_neg hk]
    simp
  | p :: P, w :: vs, i + 1, m, nd, h1, h2, hk => by
    show bindC kindOf ((p, w) :: P.zip vs) m x = _
    unfold bindC
    exact bindC_get (i := i) (List.nodup_cons.mp nd).2 (by simpa using h1) (by simpa using h2) hk

/-- the names' values at the entry -/
def start (N : List Str) (vs : List V) : St := vs.map some ++ List.replicate (N.length - vs.length) none

/-- the context of a def's body, at its entry; an exception leaves the frame, then lies as CX says -/
def cxOf (CX : CXT) (P : Program) (w : World) (K : PySem.W.Frag) (mg : Str → Option Value) (base : Heap) (N : List Str) (qual : Str) (scope : Scope) (f : Addr) (cd : Value) (A : Around) (outer : List Env) (s : Shared) (H : Hp) (E : XK) : Cx where
  prog := P
  w := w
  K := K
  mg := mg
  base := base
  A := A.deeper (envOfC qual scope s.heap.objs.size f cd)
  N := N
  s₀ := s
  H₀ := H
  env := envOfC qual scope s.heap.objs.size f cd
  outer := outer
  stack := envOfC qual scope s.heap.objs.size f cd :: outer
  ex := []
  calm := true
  fn := fun _ => true
  pn := []
  xe := fun e s' => wpAny (model P w) (A.deeper (envOfC qual scope s.heap.objs.size f cd)) (leaving (envOfC qual scope s.heap.objs.size f cd) e) (fun _ s'' => CX outer H s E e s'') (fun e' s'' => CX outer H s E e' s'') s'

theorem cell_has {sc : Scope} {n : Nat} {x : Str} (h : sc.names.lookup x = some .cell) : ∃ c, (cellsFrom n sc.names []).lookup x = some c := by
  have q := PySem.W.cellsFrom_some sc.names n [] (.inl h)
  exact Option.isSome_iff_exists.mp q

theorem inv_start {CX : CXT} {P : Program} {w : World} {K : PySem.W.Frag} {mg : Str → Option Value} {base : Heap} {N ps : List Str} {qual : Str} {scope : Scope} {f : Addr} {cd : Value} {A : Around} {outer : List Env} {s s1 : Shared} {H : Hp} {E : XK} {us : List Value} {vs : List V}
    (S : FnScope N ps scope) (hd : A.handled = none) (e0 : Env0 P w K mg base A outer s H) (hl : vs.length = ps.length) (r : Vals vs us)
    (x : InCallC s s.heap.objs.size (bindL (envOfC qual scope s.heap.objs.size f cd).kindOf (ps.zip us) fun _ => none) (cellsFrom (s.heap.objs.size + 1) scope.names []) (bindC (envOfC qual scope s.heap.objs.size f cd).kindOf (ps.zip us) fun _ => none) s1) :
    Inv (cxOf CX P w K mg base N qual scope f cd A outer s H E) [] (start N vs) H s1 := by
  have hpl : ps.length ≤ N.length := by have := congrArg List.length S.pre; rw [List.length_take] at this; omega
  obtain ⟨h1, tk, rfl, hk⟩ := x.done
  have noA : ∀ b : Addr, b ∉ (cxOf CX P w K mg base N qual scope f cd A outer s H E).ex := fun b z => absurd (show b ∈ ([] : List Addr) from z) (by simp)
  refine ⟨⟨e0.mod, S.kind, rfl, rfl, Nat.le_refl _, fun y z c h1 h2 => ?_, fun y hy => ?_, fun y c _ h => ?_, fun _ => hd, Around.frames_deeper e0.frames, .inr ⟨rfl, rfl⟩, fun b z => absurd z (noA b), e0.bs, e0.bsz, fun b _ _ => noA b, fun b z => absurd z (noA b), e0.funs, e0.frf⟩,
    rfl, e0.bare, Un.kept hk, ⟨_, x.toInCall.ns, fun i y v h1 h2 h3 => ?_⟩, fun y c h => ⟨_, x.cell y c h⟩, e0.hok.fresh (Nat.le_refl _), fun y c h => ?_, fun p hp => absurd (show p ∈ ([] : List (Addr × Obj)) from hp) (by simp), e0.hok.kept hk, ?_⟩
  · exact name_of_addr x.apart (PySem.mem_of_lookup h1) (PySem.mem_of_lookup h2)
  · have hy : scope.names.lookup y = some .cell ∨ scope.names.lookup y = some .free := hy
    rcases hy with hy | hy
    · exact cell_has hy
    · exact absurd rfl (S.nofree _ (PySem.mem_of_lookup hy))
  · exact Nat.le_of_lt (x.above y c (PySem.mem_of_lookup h))
  · have hi : i < vs.length := by
      unfold start at h2
      by_cases hi : i < vs.length
      · exact hi
      · rw [List.getElem?_append_right (by simpa using hi)] at h2
        rw [List.getElem?_replicate] at h2
        split at h2 <;> cases h2
    have ha : vs[i]? = some v := by
      unfold start at h2
      rw [List.getElem?_append_left (by simpa using hi), List.getElem?_map] at h2
      cases e : vs[i]? with
      | none => rw [e] at h2; cases h2
      | some a => rw [e] at h2; cases h2; rfl
    obtain ⟨u, hu, rv⟩ := r.get ha
    have hp : ps[i]? = some y := by
      rw [← S.pre, List.getElem?_take_of_lt (by omega)]; exact h1
    have ndP : ps.Nodup := by rw [← S.pre]; exact S.nd.sublist (List.take_sublist _ _)
    refine ⟨u, rv, ?_⟩
    rcases S.par y (List.mem_of_getElem? hp) with k | k
    · exact .inl ⟨k, bindL_get ndP hp hu k⟩
    · obtain ⟨c, e⟩ := cell_has (n := s.heap.objs.size + 1) k
      refine .inr ⟨.inl k, c, e, ?_⟩
      have q := x.cell y c e
      rw [bindC_get ndP hp hu (by show scope.names.lookup y ≠ _; rw [k]; decide)] at q
      exact q
  · exact e0.hok.fresh (Nat.le_of_lt (x.above y c (PySem.mem_of_lookup h)))
  · unfold start
    show _ = N.length
    rw [List.length_append, List.length_map, List.length_replicate]
    omega

/-- THE RULE: a def (or a method) of the text, by its body. The body's reading t is chosen for each entry; it is run at the parameters' values -/
theorem fn_of {CX : CXT} {P : Program} {w : World} {K : PySem.W.Frag} {mg : Str → Option Value} {base : Heap} {k : Nat} {f : Addr} {name qual : Str} {params : Arguments} {body : List Stmt} {scope : Scope} {dV kV doc pm cdv ct oc : Value} {an od : Option Addr}
    {osl : Array (Option Value)} {N ps : List Str} {sp : Sp} (lk : K.lookup f = some ⟨oc, od, .func (PySem.W.fnOf name qual params body scope dV kV doc pm an cdv ct), osl⟩) (hcd : PySem.W.codeIn K cdv qual = true) (S : FnScope N ps scope)
    (len : ∀ vs H Q E, sp vs H Q E → vs.length = ps.length)
    (hbody : ∀ (A : Around) (outer : List Env) (s : Shared) (H : Hp) (vs : List V) (Q : VK) (E : XK), Room k (A.deeper (envOfC qual scope s.heap.objs.size f cdv)) → sp vs H Q E →
      ∃ t, PSs (cxOf CX P w K mg base N qual scope f cdv A outer s H E) body t ∧ t { nx := fun _ H' => Q .non H', rt := Q } (start N vs) H) :
    FnOk P w K mg base CX (k + 1) f (PySem.W.fnOf name qual params body scope dV kV doc pm an cdv ct) ps sp := by
  refine ⟨len, fun A outer s H args us vs Q E hr e0 hb r hsp => ?_⟩
  have hl := len _ _ _ _ hsp
  have KX : K.In s.heap := e0.mod.kin.keeps fun b o e => (e0.bs b o e).1
  have lim : s.heap.NoLimit := e0.mod.nolimit.keeps fun b o e => (e0.bs b o e).1
  have hkind : ∀ y ∈ ps.zip us, scope.names.lookup y.1 = some .local ∨ (scope.names.lookup y.1 = some .cell ∧ ((cellsFrom (s.heap.objs.size + 1) scope.names []).lookup y.1).isSome = true) := fun ⟨n, v⟩ hy => by
    rcases S.par n (List.of_mem_zip hy).1 with q | q
    · exact .inl q
    · exact .inr ⟨q, PySem.W.cellsFrom_some _ _ _ (.inl q)⟩
  refine codeAny_call_function hr.depth (KX _ _ lk) rfl S.co S.gen rfl (PySem.W.codeRec_of KX hcd) (hb _ _ _ _ ?_)
  refine wpAny_newFunctionEnv_cells S.kind hkind fun env he s1 x => ?_
  subst he
  refine ⟨lim.keeps x.toInCall.keep, codeAny_func ?_⟩
  obtain ⟨t, ht, hq⟩ := hbody A outer s H vs Q E (hr.deeper _) hsp
  have I : Inv (cxOf CX P w K mg base N qual scope f cdv A outer s H E) [] (start N vs) H s1 := inv_start S hr.hd e0 hl r x
  refine wpAny_mono (ht [] s1 (start N vs) H _ I hq) (fun fl s' hs => ?_) fun e s' hs => hs
  have fin : ∀ {σ' : St} {H' : Hp} {v : V} {u : Value}, Inv (cxOf CX P w K mg base N qual scope f cdv A outer s H E) [] σ' H' s' → RelV v u → Q v H' → CE outer P w H s Q u s' :=
    fun {σ' H' v u} J rv q => ⟨v, H', J.os, J.bare, J.base, J.hok, rv, q⟩
  cases fl with
  | ret u =>
    obtain ⟨v, σ', H', J, rv, q⟩ := hs
    exact fin J rv q
  | next =>
    obtain ⟨σ', H', J, q⟩ := hs
    exact fin (v := V.non) (u := Value.none) J rfl q
  | brk =>
    obtain ⟨_, _, _, q⟩ := hs
    exact False.elim q
  | cont =>
    obtain ⟨_, _, _, q⟩ := hs
    exact False.elim q
end L2

namespace L2
open PySem PySem.Spec PyProof.Rows
section
variable {X : Cx} {x : Str} {p pos : Pos} {e : Expr} {es : List Expr} {t : TA} {id T : String} {r : List V → Hp → VK → Prop}

def tCB (r : List V → Hp → VK → Prop) (t : TA) : TE := fun σ H Q => t σ H fun vs H1 => r vs H1 Q
/-- f(e, ..), f a built-in function -/
theorem pe_callB (hc : CallR X (.builtin id) r) (hg : Gl X x) (hm : X.mg x = none) (hv : bootBuiltins x = some (.builtin id)) (ha : PA X (e :: es) t) (hn : x ≠ "__name__" := by decide) (hdb : (x == ("__debug__" : Str)) = false := by decide)
    (he : starEach (e :: es) X.env = (false, eval e X.env) :: starEach es X.env := by rfl) (hpl : (backTo pos (starEach es X.env)).any (·.1) = false := by rfl) : PE X (.Call (.Name x p) (e :: es) [] pos) (tCB r t) := by
  intro pins s σ H Q I h
  refine wpAny_Call_Name_kw (ld_blt I hg hm hv ?_ hn hdb)
  exact PyProof.Rows.callWith_builtin1 (thn (ha pos pins s σ H _ I h) fun us s1 ⟨vs, H1, I1, r1, q1⟩ => hc pins s1 σ H1 vs us Q I1 r1 q1) he hpl
/-- T(e, ..), T a built-in type -/
theorem pe_callTy (hc : CallR X (.type T) r) (hg : Gl X x) (hm : X.mg x = none) (hv : bootBuiltins x = some (.type T)) (ha : PA X (e :: es) t) (hn : x ≠ "__name__" := by decide) (hdb : (x == ("__debug__" : Str)) = false := by decide)
    (he : starEach (e :: es) X.env = (false, eval e X.env) :: starEach es X.env := by rfl) (hpl : (backTo pos (starEach es X.env)).any (·.1) = false := by rfl) : PE X (.Call (.Name x p) (e :: es) [] pos) (tCB r t) := by
  intro pins s σ H Q I h
  refine wpAny_Call_Name_kw (ld_blt I hg hm hv ?_ hn hdb)
  exact PyProof.Rows.callWith_type1 (thn (ha pos pins s σ H _ I h) fun us s1 ⟨vs, H1, I1, r1, q1⟩ => hc pins s1 σ H1 vs us Q I1 r1 q1) he hpl
/-- T() -/
theorem pe_callTy0 (hc : CallR X (.type T) r) (hg : Gl X x) (hm : X.mg x = none) (hv : bootBuiltins x = some (.type T)) (hn : x ≠ "__name__" := by decide) (hdb : (x == ("__debug__" : Str)) = false := by decide) :
    PE X (.Call (.Name x p) [] [] pos) (tCB r tNil) := by
  intro pins s σ H Q I h
  refine wpAny_Call_Name_kw (ld_blt I hg hm hv ?_ hn hdb)
  exact PyProof.Rows.callWith_type0 (hc pins s σ H [] [] Q I .nil h)
end
end L2

namespace HT
open PySem PyProof.Rows

/-- t < u of tuples of ints -/
def lexLt : List Int → List Int → Bool
  | [], [] => false
  | [], _ :: _ => true
  | _ :: _, [] => false
  | x :: xs, y :: ys => if x = y then lexLt xs ys else decide (x < y)
theorem lexLt_cons (x y : Int) (xs ys : List Int) : lexLt (x :: xs) (y :: ys) = if x = y then lexLt xs ys else decide (x < y) := rfl
theorem lexLt_nil_nil : lexLt [] [] = false := rfl
theorem lexLt_nil_cons (y : Int) (ys : List Int) : lexLt [] (y :: ys) = true := rfl
theorem lexLt_cons_nil (x : Int) (xs : List Int) : lexLt (x :: xs) [] = false := rfl

theorem eqAt_int (A : Around) (s : Shared) (a : Int) (t : Tok) (c : Int) (u : Tok) : ∃ e, SeqAt.EqAt A s (.int a t) (.int c u) e ∧ (e = true ↔ a = c) :=
  ⟨(a == c), SeqAt.EqAt.int_int a t c u, by simp⟩
theorem rcLt_int (A : Around) (s : Shared) (a : Int) (t : Tok) (c : Int) (u : Tok) (prog : Program) (w : World) (E : Value → Shared → Prop) (Q : Value → Shared → Prop) (h : Q (.bool (decide (a < c))) s) :
    wpAny (model prog w) A (richCompare .Lt (.int a t) (.int c u)) Q E s :=
  (PyProof.Rows.lt_int h : wpAny (model prog w) A (compareOp .Lt (.int a t) (.int c u)) Q E s)

section
open PySem.SeqAt
open PySem.AutoSeq1 (wpAny_loadPart')
open PySem.MeetsSeq PySem.MeetsSeq2 PySem.MeetsSeq3

theorem tuple_lt_ints (l b : Addr) (items items2 : Array Value) (n n2 : Nat) (dd dd2 : Option Addr) (sl sl2 : Array (Option Value)) (ns ms : List Int) (hi : IntsAre items.toList ns) (hj : IntsAre items2.toList ms) :
    Meets (Builtin.«tuple.__lt__» ⟨[.ref l, .ref b], []⟩)
      (fun _ R s => s.heap.get? l = some { cls := .type "tuple", dict := dd, data := .seq items n, slots := sl } ∧ s.heap.get? b = some { cls := .type "tuple", dict := dd2, data := .seq items2 n2, slots := sl2 } ∧
        R (.ok (.ret (.bool (lexLt ns ms)))) s) :=
  .of_wp fun prog w A R s h => by
    obtain ⟨hp, g, d, tk, os⟩ := s; obtain ⟨hl, hb, h⟩ := h
    have f2 := AutoSeq1.sub_tuple_tuple
    have z1 : items.size = ns.length := by rw [← hi.length]; simp
    have z2 : items2.size = ms.length := by rw [← hj.length]; simp
    wp_walk using wpAny_loadPart' hl, wpAny_loadPart' hb, wpAny_forIn_list _ (fun rest b s' => b.1 = none ∧ s' = ⟨hp, g, d, tk, os⟩ ∧ ∃ (vs ws : List Value) (ns' ms' : List Int), rest = vs.zip ws ∧
      IntsAre vs ns' ∧ IntsAre ws ms' ∧ ns'.length + items2.size = ms'.length + items.size ∧ R (.ok (.ret (.bool (lexLt ns' ms')))) ⟨hp, g, d, tk, os⟩) _
    case turn =>
      rintro ⟨y, x⟩ rest b s' ⟨hb', rfl, vs, ws, ns', ms', hz, hvi, hwi, hlen, hR⟩
      cases hvi with
      | nil => rw [List.zip_nil_left] at hz; cases hz
      | cons a t hvi' =>
        cases hwi with
        | nil => rw [List.zip_nil_right] at hz; cases hz
        | cons c u hwi' =>
          rw [List.zip_cons_cons] at hz
          injection hz with hyx hrest
          injection hyx with hy hx
          subst hy hx
          rw [lexLt_cons] at hR
          simp only [List.length_cons] at hlen
          obtain ⟨e, he, hiff⟩ := eqAt_int A.in1 ⟨hp, g, d, tk, os⟩ a t c u
          refine wpAny_bind (he prog w _ _ ?_)
          cases e with
          | true =>
            rw [if_pos (hiff.mp rfl)] at hR
            wp_walk
            exact ⟨rfl, rfl, _, _, _, _, hrest, hvi', hwi', by omega, hR⟩
          | false =>
            rw [if_neg (fun q => absurd (hiff.mpr q) Bool.false_ne_true)] at hR
            have hri := rcLt_int A.in1 ⟨hp, g, d, tk, os⟩ a t c u prog w
            wp_walk using hri
            exact ⟨_, rfl, by simpa using hR⟩
    case fin =>
      rintro ⟨b1, b2⟩ s' ⟨hb', rfl, vs, ws, ns', ms', hz, hvi, hwi, hlen, hR⟩
      simp only at hb'
      subst hb'
      have hv : lexLt ns' ms' = decide (items.size < items2.size) := by
        cases hvi with
        | nil =>
          cases hwi with
          | nil =>
            simp only [List.length_nil] at hlen
            rw [lexLt_nil_nil]
            exact (decide_eq_false (by omega)).symm
          | cons c u hw =>
            simp only [List.length_nil, List.length_cons] at hlen
            rw [lexLt_nil_cons]
            exact (decide_eq_true (by omega)).symm
        | cons a t hv =>
          cases hwi with
          | nil =>
            simp only [List.length_nil, List.length_cons] at hlen
            rw [lexLt_cons_nil]
            exact (decide_eq_false (by omega)).symm
          | cons c u hw =>
            rw [List.zip_cons_cons] at hz
            cases hz
      rw [hv] at hR
      wp_walk
      exact ⟨_, rfl, by simpa [Builtin.Tuple.tupleCompareSizes] using hR⟩
    case h =>
      exact ⟨rfl, rfl, items.toList, items2.toList, ns, ms, rfl, hi, hj, by omega, h⟩
end

section
variable {prog : Program} {w : World} {A : Around} {E : Value → Shared → Prop} {s : Shared}

theorem lt_tupInts {l b : Addr} {items items2 : Array Value} {ns ms : List Int} {Q : Value → Shared → Prop} (hl : IsTup s.heap l items) (hb : IsTup s.heap b items2) (hi : IntsAre items.toList ns) (hj : IntsAre items2.toList ms)
    (hu : A.units < cLine) (h : Q (.bool (lexLt ns ms)) s) : wpAny (model prog w) A (compareOp .Lt (.ref l) (.ref b)) Q E s := by
  obtain ⟨⟨cls, dd, data, sl⟩, ho, hc, n, hd⟩ := id hl
  obtain ⟨⟨cls2, dd2, data2, sl2⟩, ho2, hc2, n2, hd2⟩ := id hb
  simp only at hc hd hc2 hd2
  subst hc hd hc2 hd2
  exact richCompare_meets_room (op := .Lt) ⟨_, ho, rfl⟩ ⟨_, ho2, rfl⟩ PySem.F.slot_tuple_lt PySem.F.entry_tuple_lt (PySem.F.args_tuple_lt_2 _ _) (tuple_lt_ints l b items items2 n n2 dd dd2 sl sl2 ns ms hi hj)
    ⟨ho, ho2, show Value.bool (lexLt ns ms) ≠ Value.notImplemented ∧ Q (.bool (lexLt ns ms)) s from ⟨(fun x => nomatch x), h⟩⟩ hu

/-- t + u, t not empty -/
theorem cat_tup {t b : Addr} {vs ws : List Value} {Q : Value → Shared → Prop} (ht : IsTup s.heap t vs.toArray) (hb : IsTup s.heap b ws.toArray) (hv : vs ≠ [])
    (h1 : ws = [] → Q (.ref t) s) (h2 : ws ≠ [] → Q (.ref s.heap.objs.size) { s with heap := s.heap.push { cls := .type "tuple", data := .seq (vs ++ ws).toArray } })
    (hsz : vs.length + ws.length ≤ sizeLine) : wpAny (model prog w) A (binaryOp .Add (.ref t) (.ref b)) Q E s := by
  obtain ⟨⟨cls, dd, data, sl⟩, ho, hc, n, hd⟩ := id ht
  obtain ⟨⟨cls2, dd2, data2, sl2⟩, ho2, hc2, n2, hd2⟩ := id hb
  simp only at hc hd hc2 hd2
  subst hc hd hc2 hd2
  have e : vs.toArray ++ ws.toArray = (vs ++ ws).toArray := by simp
  by_cases hw : ws = []
  · exact concat_meets ⟨_, ho, rfl⟩ ⟨_, ho2, rfl⟩ noFill_tuple_add seq_tuple_add PySem.F.slot_tuple_add PySem.F.entry_tuple_add (PySem.F.args_tuple_add_2 _ _)
      (tuple_addW1 t b vs.toArray ws.toArray n n2 dd dd2 sl sl2 (by simpa using hv) (by simp [hw])) ⟨ho, ho2, h1 hw⟩
  · refine concat_meets ⟨_, ho, rfl⟩ ⟨_, ho2, rfl⟩ noFill_tuple_add seq_tuple_add PySem.F.slot_tuple_add PySem.F.entry_tuple_add (PySem.F.args_tuple_add_2 _ _)
      (tuple_addW2 t b vs.toArray ws.toArray n n2 dd dd2 sl sl2 (by simpa using hv) (by simpa using hw) (by rw [List.size_toArray, List.size_toArray]; exact hsz)) ⟨ho, ho2, ?_⟩
    rw [e]
    exact h2 hw

/-! ### t[a:b], not the whole -/
/-- a slice's bound as a place among n (d where it is left out) -/
def sIx (n d : Nat) : Option Int → Nat
  | none => d
  | some v => if v < 0 then (v + (n : Int)).toNat else min v.toNat n
theorem sIx_none (n d : Nat) : sIx n d none = d := rfl
theorem sIx_nat (n d k : Nat) : sIx n d (some (k : Int)) = min k n := by
  show (if (k : Int) < 0 then ((k : Int) + (n : Int)).toNat else min (k : Int).toNat n) = min k n
  rw [if_neg (by omega), Int.toNat_natCast]
theorem sIx_le (n d : Nat) (hd : d ≤ n) (o : Option Int) : sIx n d o ≤ n := by
  cases o with
  | none => exact hd
  | some v =>
    show (if v < 0 then (v + (n : Int)).toNat else min v.toNat n) ≤ n
    by_cases hv : v < 0
    · rw [if_pos hv]; omega
    · rw [if_neg hv]; exact Nat.min_le_right _ _
theorem clip_eq (v : Int) (n d : Nat) : (if v < 0 then max (v + (n : Int)) 0 else min v (n : Int)) = ((sIx n d (some v) : Nat) : Int) := by
  show (if v < 0 then max (v + (n : Int)) 0 else min v (n : Int)) = (((if v < 0 then (v + (n : Int)).toNat else min v.toNat n) : Nat) : Int)
  by_cases hv : v < 0
  · simp only [if_pos hv]; omega
  · simp only [if_neg hv]; omega
theorem adjust_gen (lo hi : Option Int) (n : Nat) : Builtin.Slice.sliceAdjust lo hi 1 (n : Int) = (((sIx n 0 lo : Nat) : Int), ((sIx n n hi : Nat) : Int)) := by
  have h1 : ¬ ((1 : Int) < 0) := by omega
  unfold Builtin.Slice.sliceAdjust
  simp only [h1, if_false]
  refine Prod.ext ?_ ?_
  · cases lo with
    | none => rfl
    | some v => exact clip_eq v n 0
  · cases hi with
    | none => rfl
    | some v => exact clip_eq v n n
theorem places_gen (i j : Nat) : Builtin.Slice.slicePlaces (i : Int) (j : Int) 1 = j - i := by
  unfold Builtin.Slice.slicePlaces
  have h1 : (1 : Int) > 0 := by omega
  simp only [h1, if_true, Int.ediv_one]
  split <;> omega
theorem slicePart_ {v : Value} {o : Option Int} {Q : Option Int → Shared → Prop} (p : IsPart v o) (h : Q o s) : wpAny (model prog w) A (Builtin.Slice.slicePartIndex v) Q E s := by
  cases p with
  | none => exact slicePart_none h
  | int i t => exact slicePart_int h
theorem sliceApplied_gen {sl : Addr} {vl vu : Value} {lo hi : Option Int} {n : Nat} {Q : Int × Int × Nat → Shared → Prop} (hs : s.heap.IsSliceOf sl vl vu .none) (pl : IsPart vl lo) (pu : IsPart vu hi)
    (h : Q (((sIx n 0 lo : Nat) : Int), 1, sIx n n hi - sIx n 0 lo) s) : wpAny (model prog w) A (Builtin.Slice.sliceApplied (.ref sl) (pure (n : Int))) Q E s := by
  obtain ⟨os, hos, hcs, hds⟩ := id hs
  unfold Builtin.Slice.sliceApplied Builtin.Slice.sliceFields
  refine wpAny_bind (wpAny_bind (wpAny_field hos hds (x := vl) rfl (wpAny_bind (wpAny_field hos hds (x := vu) rfl (wpAny_bind (wpAny_field hos hds (x := .none) rfl (wpAny_pure ?_)))))))
  refine wpAny_bind (slicePart_none ?_)
  show wpAny _ _ (if ((1 : Int) == 0) = true then _ else _) _ _ s
  rw [if_neg (by decide)]
  refine wpAny_bind (slicePart_ pl (wpAny_bind (slicePart_ pu (wpAny_bind (wpAny_pure ?_)))))
  show wpAny _ _ (match Builtin.Slice.sliceAdjust lo hi 1 (n : Int) with | (lo, hi) => pure (lo, (1 : Int), Builtin.Slice.slicePlaces lo hi 1)) _ _ s
  rw [adjust_gen lo hi n]
  show wpAny _ _ (pure (((sIx n 0 lo : Nat) : Int), (1 : Int), Builtin.Slice.slicePlaces ((sIx n 0 lo : Nat) : Int) ((sIx n n hi : Nat) : Int) 1)) _ _ s
  rw [places_gen]
  exact wpAny_pure h
theorem pick_gen (xs : Array Value) (i k : Nat) : ((List.range k).filterMap fun (m : Nat) => xs[((i : Int) + (m : Int) * 1).toNat]?).toArray = ((xs.toList.drop i).take k).toArray := by
  have e : (fun (m : Nat) => xs[((i : Int) + (m : Int) * 1).toNat]?) = fun m => xs[i + m]? := by
    funext m
    have : ((i : Int) + (m : Int) * 1).toNat = i + m := by omega
    rw [this]
  rw [e]
  have := pick_run xs i k
  rw [List.filterMap_map] at this
  have e2 : ((fun x => xs[x]?) ∘ fun x => i + x) = fun m => xs[i + m]? := rfl
  rw [e2] at this
  rw [this]

theorem getItem_tuple_cut {t sl : Addr} {items : Array Value} {vl vu : Value} {lo hi : Option Int} {Q : Value → Shared → Prop} (ht : IsTup s.heap t items) (hs : s.heap.IsSliceOf sl vl vu .none) (pl : IsPart vl lo) (pu : IsPart vu hi)
    (hw : ¬ (sIx items.size 0 lo = 0 ∧ sIx items.size items.size hi = items.size))
    (h : Q (.ref s.heap.objs.size) { s with heap := s.heap.push { cls := .type "tuple", data := .seq ((items.toList.drop (sIx items.size 0 lo)).take (sIx items.size items.size hi - sIx items.size 0 lo)).toArray } })
    (hsz : items.size ≤ sizeLine) : wpAny (model prog w) A (getItem (.ref t) (.ref sl)) Q E s := by
  have htake : sizeOk (.seq ((items.toList.drop (sIx items.size 0 lo)).take (sIx items.size items.size hi - sIx items.size 0 lo)).toArray) := by
    show ((items.toList.drop (sIx items.size 0 lo)).take (sIx items.size items.size hi - sIx items.size 0 lo)).toArray.size ≤ sizeLine
    rw [List.size_toArray, List.length_take, List.length_drop, Array.length_toList]
    omega
  have hj : sIx items.size items.size hi ≤ items.size := sIx_le _ _ (Nat.le_refl _) hi
  obtain ⟨os, hos, hcs, hds⟩ := id hs
  have hTs : s.TypeIs (.ref sl) "slice" := ⟨os, hos, hcs⟩
  unfold getItem
  try with_reducible refine wpAny_holding ?_
  first | refine wpAny_bind (wpAny_pure ?_) | skip
  refine wpAny_bind (wpAny_sequenceKey ht.typeIs (by decide) ?_)
  refine wpAny_bind (wpAny_callSpecial?_slot (name := Str.ofString "__getitem__") ht.typeIs PyProof.Rows.slot_tuple_getitem
    (wpAny_call_entry PyProof.Rows.slot_tuple_getitem ht.typeIs entry_tuple_getitem ?_ (args_tuple_getitem _ _)))
  show wpAny _ _ (Builtin.Tuple.tupleItemsOf (.ref t) >>= _) _ _ s
  refine wpAny_bind (tupleItemsOf_ ht ?_)
  refine wpAny_bind (wpAny_typeOf hTs ?_)
  rw [if_pos (by decide)]
  refine wpAny_bind (sliceApplied_gen hs pl pu ?_)
  have hno : ¬ ((((sIx items.size 0 lo : Nat) : Int) == 0 && (1 : Int) == 1 && (sIx items.size items.size hi - sIx items.size 0 lo) == items.size) = true) := by
    intro q
    rw [Bool.and_eq_true, Bool.and_eq_true] at q
    have q1 : ((sIx items.size 0 lo : Nat) : Int) = 0 := eq_of_beq q.1.1
    have q2 : sIx items.size items.size hi - sIx items.size 0 lo = items.size := eq_of_beq q.2
    exact hw ⟨by omega, by omega⟩
  show wpAny _ _ (if (((sIx items.size 0 lo : Nat) : Int) == 0 && (1 : Int) == 1 && (sIx items.size items.size hi - sIx items.size 0 lo) == items.size) = true then _ else _) _ _ s
  rw [if_neg hno, pick_gen]
  first
    | exact wpAny_bind (m := Builtin.Tuple.tupleExact _) (wpAny_newObj_type (wpAny_pure ⟨_, rfl, wpAny_pure h⟩) htake)
    | exact wpAny_bind (m := Builtin.Tuple.tupleExact _) (wpAny_newObj_type (wpAny_bind (wpAny_pure (wpAny_pure ⟨_, rfl, wpAny_pure h⟩))) htake)
    | exact wpAny_bind (wpAny_bind (m := Builtin.Tuple.tupleExact _) (wpAny_newObj_type (wpAny_pure (wpAny_pure ⟨_, rfl, wpAny_pure h⟩)) htake))
    | exact wpAny_bind (wpAny_bind (m := Builtin.Tuple.tupleExact _) (wpAny_newObj_type (wpAny_pure ⟨_, rfl, wpAny_pure h⟩) htake))
end
end HT

namespace L2
open PySem PySem.Spec PyProof.Rows

/-! ### the parts of a slice -/
abbrev TO := St → Hp → (Option Int → Hp → Prop) → Prop
/-- a slice's part (left out, or an int) -/
def PO (X : Cx) (e : Option Expr) (t : TO) : Prop :=
  ∀ (pins : List (Addr × Obj)) (s : Shared) (σ : St) (H : Hp) (Q : Option Int → Hp → Prop), Inv X pins σ H s → t σ H Q →
    wpAny (model X.prog X.w) X.A (evalPart e X.env) (fun u s' => ∃ o H', Inv X pins σ H' s' ∧ IsPart u o ∧ Q o H') X.xe s
def tNoPart : TO := fun _ H Q => Q none H
def tPart (t : TE) : TO := fun σ H Q => t σ H fun x H1 => ∃ i, x = .int i ∧ Q (some i) H1

theorem intsAre_of {ns : List Int} : ∀ {us : List Value}, Vals (ns.map V.int) us → IntsAre us ns := by
  induction ns with
  | nil => intro us r; rw [List.map_nil] at r; cases r; exact .nil
  | cons n ns ih =>
    intro us r
    rw [List.map_cons] at r
    cases r with
    | cons r1 r2 =>
      obtain ⟨t, e⟩ := r1
      subst e
      exact .cons n t (ih r2)

section
variable {X : Cx} {e : Expr} {te : TE} {lo hi : Option Expr} {tl th : TO} {pos p2 : Pos}

theorem po_none : PO X none tNoPart := by
  intro pins s σ H Q I h
  rw [evalPart_none]
  exact wpAny_pure ⟨none, H, I, .none, h⟩
theorem po_some (h : PE X e te) : PO X (some e) (tPart te) := by
  intro pins s σ H Q I hw
  rw [evalPart_some]
  refine thn (h pins s σ H _ I hw) fun u s1 ⟨x, H1, I1, r1, q1⟩ => ?_
  obtain ⟨i, rfl, q⟩ := q1
  obtain ⟨t, rfl⟩ := r1
  exact ⟨some i, H1, I1, .int i t, q⟩

/-- what a slice of a value is, by values: the slice object stands at sl -/
def SlR (X : Cx) (r : V → Option Int → Option Int → Hp → VK → Prop) : Prop :=
  ∀ (pins : List (Addr × Obj)) (s : Shared) (σ : St) (H : Hp) (x : V) (v vl vu : Value) (lo hi : Option Int) (sl : Addr) (Q : VK), Inv X pins σ H s → RelV x v → s.heap.IsSliceOf sl vl vu .none → IsPart vl lo → IsPart vu hi → r x lo hi H Q →
    ∃ T id, typeLookup (.type T) "__getitem__" = pure (some (.builtin id)) ∧ s.TypeIs v T ∧ wpAny (model X.prog X.w) X.A (getItem v (.ref sl)) (EP X pins σ Q) X.xe s
theorem SlR.or {r r' : V → Option Int → Option Int → Hp → VK → Prop} (h : SlR X r) (h' : SlR X r') : SlR X (fun x lo hi H Q => r x lo hi H Q ∨ r' x lo hi H Q) := by
  intro pins s σ H x v vl vu lo hi sl Q I rx hs pl pu q
  rcases q with q | q
  · exact h pins s σ H x v vl vu lo hi sl Q I rx hs pl pu q
  · exact h' pins s σ H x v vl vu lo hi sl Q I rx hs pl pu q
def tSl (r : V → Option Int → Option Int → Hp → VK → Prop) (te : TE) (tl th : TO) : TE := fun σ H Q => te σ H fun x H1 => tl σ H1 fun l H2 => th σ H2 fun u H3 => r x l u H3 Q
/-- a[lo:hi], any a -/
theorem pe_slice {r : V → Option Int → Option Int → Hp → VK → Prop} (hr : SlR X r) (he : PE X e te) (hl : PO X lo tl) (hu : PO X hi th) : PE X (.Subscript e (.Slice lo hi none p2) pos) (tSl r te tl th) := by
  intro pins s σ H Q I h
  refine Subscript_ (thn (he pins s σ H _ I h) fun v s1 ⟨x, H1, I1, r1, q1⟩ => ?_)
  refine wpAny_Slice (thn (hl pins s1 σ H1 _ I1 q1) fun vl s2 ⟨l, H2, I2, pl, q2⟩ => thn (hu pins s2 σ H2 _ I2 q2) fun vu s3 ⟨u, H3, I3, pu, q3⟩ => ?_)
  rw [evalPart_none]
  refine wpAny_pure ?_
  have I4 : Inv X pins σ H3 { s3 with heap := s3.heap.push { cls := .type "slice", data := .fields #[vl, vu, .none] } } := I3.kept (t' := s3.toks) fun b ob q => Heap.get?_push_of_some _ q
  obtain ⟨T, id, hT, ht, hg⟩ := hr pins { s3 with heap := s3.heap.push { cls := .type "slice", data := .fields #[vl, vu, .none] } } σ H3 x v vl vu l u s3.heap.objs.size Q I4 r1 (Heap.IsSliceOf.new ..) pl pu q3
  show wpAny (model X.prog X.w) X.A (subscriptTail e (.Slice lo hi none p2) v (.ref s3.heap.objs.size)) (EP X pins σ Q) X.xe { s3 with heap := s3.heap.push { cls := .type "slice", data := .fields #[vl, vu, .none] } }
  exact tail_any (ops := [.ref s3.heap.objs.size, v]) ht hT hg (by with_unfolding_all rfl)

/-- the items of xs[lo:hi] -/
def cutV (xs : List V) (lo hi : Option Int) : List V := (xs.drop (HT.sIx xs.length 0 lo)).take (HT.sIx xs.length xs.length hi - HT.sIx xs.length 0 lo)
theorem cutV_length (xs : List V) (lo hi : Option Int) : (cutV xs lo hi).length ≤ xs.length := by
  unfold cutV
  rw [List.length_take, List.length_drop]
  omega
/-- t[lo:hi], not the whole of it (the whole would be t itself) -/
def rSlT (K : PySem.W.Frag) : V → Option Int → Option Int → Hp → VK → Prop := fun x lo hi H Q => ∃ a xs, x = .ref a ∧ SqT K H a xs ∧
  ¬ (HT.sIx xs.length 0 lo = 0 ∧ HT.sIx xs.length xs.length hi = xs.length) ∧ ∀ p, H p = none → Q (.ref p) (upd H p (.tup (cutV xs lo hi)))
theorem sl_tup : SlR X (rSlT X.K) := by
  intro pins s σ H x v vl vu lo hi sl Q I rx hs pl pu h
  obtain ⟨a, xs, rfl, hx, hw, q⟩ := h
  cases rx
  obtain ⟨its, r, ht, hz⟩ := I.tuple hx
  have hlen : its.toArray.size = xs.length := by rw [List.size_toArray]; exact r.length.symm
  refine ⟨"tuple", _, PyProof.Rows.slot_tuple_getitem.lookup, ht.typeIs, ?_⟩
  refine HT.getItem_tuple_cut ht hs pl pu (by rw [hlen]; exact hw) ?_ (by rw [hlen]; exact hz)
  rw [hlen]
  refine ⟨.ref s.heap.objs.size, _, I.laid (t' := s.toks) (o := .tup (cutV xs lo hi)) (fun b ob q => Heap.get?_push_of_some _ q) (Nat.le_refl _) ?_, rfl, q _ (I.hok.fresh (Nat.le_refl _))⟩
  exact ⟨Nat.le_trans (cutV_length xs lo hi) hz, _, (r.drop (HT.sIx xs.length 0 lo)).take (HT.sIx xs.length xs.length hi - HT.sIx xs.length 0 lo), IsTup.new _ _⟩

/-! ### t < u, t + u -/
def rLtT (K : PySem.W.Frag) : R2 := fun x y H Q => ∃ a b ns ms, x = .ref a ∧ y = .ref b ∧ SqT K H a (ns.map V.int) ∧ SqT K H b (ms.map V.int) ∧ Q (.bl (HT.lexLt ns ms)) H
theorem op_ltT (hu : X.A.units < cLine) : OpR X (compareOp .Lt) (rLtT X.K) := by
  intro pins s σ H x y v u Q I rx ry h
  obtain ⟨a, b, ns, ms, rfl, rfl, ha, hb, q⟩ := h
  cases rx
  cases ry
  obtain ⟨its, r1, p1, _⟩ := I.tuple ha
  obtain ⟨its2, r2, p2, _⟩ := I.tuple hb
  have i1 : IntsAre its.toArray.toList ns := intsAre_of r1
  have i2 : IntsAre its2.toArray.toList ms := intsAre_of r2
  exact HT.lt_tupInts p1 p2 i1 i2 hu ⟨.bl (HT.lexLt ns ms), H, I, rfl, q⟩
/-- t + u, t not empty: u empty gives t itself -/
def rCatT (K : PySem.W.Frag) : R2 := fun x y H Q => ∃ a b xs ys, x = .ref a ∧ y = .ref b ∧ SqT K H a xs ∧ SqT K H b ys ∧ xs ≠ [] ∧ xs.length + ys.length ≤ sizeLine ∧
  (ys = [] → Q (.ref a) H) ∧ (ys ≠ [] → ∀ p, H p = none → Q (.ref p) (upd H p (.tup (xs ++ ys))))
theorem Vals.nil_iff {xs : List V} {us : List Value} (r : Vals xs us) : us = [] ↔ xs = [] := by
  cases r with
  | nil => simp
  | cons _ _ => simp
theorem op_catT : OpR X (binaryOp .Add) (rCatT X.K) := by
  intro pins s σ H x y v u Q I rx ry h
  obtain ⟨a, b, xs, ys, rfl, rfl, ha, hb, hx, hz, q1, q2⟩ := h
  cases rx
  cases ry
  obtain ⟨its, r1, p1, _⟩ := I.tuple ha
  obtain ⟨its2, r2, p2, _⟩ := I.tuple hb
  refine HT.cat_tup p1 p2 (fun z => hx (r1.nil_iff.mp z)) (fun z => ⟨.ref a, H, I, rfl, q1 (r2.nil_iff.mp z)⟩) (fun z => ?_) (by rw [← r1.length, ← r2.length]; exact hz)
  refine ⟨.ref s.heap.objs.size, _, I.laid (t' := s.toks) (o := .tup (xs ++ ys)) (fun b ob q => Heap.get?_push_of_some _ q) (Nat.le_refl _) ?_, rfl, q2 (fun w => z (r2.nil_iff.mpr w)) _ (I.hok.fresh (Nat.le_refl _))⟩
  exact ⟨by rw [List.length_append]; exact hz, _, r1.append r2, IsTup.new _ _⟩
/-- tuple(t) -/
theorem call_tupleT : CallR X (.type "tuple") (fun xs H Q => ∃ a ys, xs = [.ref a] ∧ SqT X.K H a ys ∧ Q (.ref a) H) := by
  intro pins s σ H xs us Q I r h
  obtain ⟨a, ys, rfl, ha, q⟩ := h
  obtain ⟨u, rfl, ru⟩ := vals1 r
  cases ru
  obtain ⟨its, _, p1, _⟩ := I.tuple ha
  exact call_tuple_same (items := its.toArray) p1 ⟨.ref a, H, I, rfl, q⟩
end
end L2

namespace L2
open PySem PySem.Spec PyProof.Rows

/-! ### places -/
/-- the place that an index of any sign means -/
def ixN (n : Nat) (i : Int) : Option Nat := if 0 ≤ i then (if i < n then some i.toNat else none) else if -(n : Int) ≤ i then some (i + n).toNat else none
def atI {α : Type} (xs : List α) (i : Int) : Option α := (ixN xs.length i).bind fun j => xs[j]?
theorem ixN_seq {n : Nat} {i : Int} {j : Nat} (h : ixN n i = some j) : seqIndex? i n = some j ∧ j < n ∧ -(n : Int) ≤ i ∧ i < n := by
  unfold ixN at h
  by_cases h0 : 0 ≤ i
  · rw [if_pos h0] at h
    by_cases h1 : i < n
    · rw [if_pos h1] at h
      have e : i.toNat = j := Option.some.inj h
      exact ⟨by rw [seqIndex_of h0 h1, e], by omega, by omega, h1⟩
    · rw [if_neg h1] at h; cases h
  · rw [if_neg h0] at h
    by_cases h1 : -(n : Int) ≤ i
    · rw [if_pos h1] at h
      have e : (i + n).toNat = j := Option.some.inj h
      exact ⟨by rw [seqIndex_neg (by omega) h1, e], by omega, h1, by omega⟩
    · rw [if_neg h1] at h; cases h
theorem atI_get {α : Type} {xs : List α} {i : Int} {v : α} (h : atI xs i = some v) : ∃ j, seqIndex? i xs.length = some j ∧ xs[j]? = some v ∧ j < xs.length ∧ -(xs.length : Int) ≤ i ∧ i < xs.length := by
  unfold atI at h
  cases e : ixN xs.length i with
  | none => rw [e] at h; cases h
  | some j =>
    rw [e] at h
    obtain ⟨h1, h2, h3, h4⟩ := ixN_seq e
    exact ⟨j, h1, h, h2, h3, h4⟩
theorem atI_nat {α : Type} {xs : List α} {j : Nat} {v : α} (h : xs[j]? = some v) : atI xs (j : Int) = some v := by
  have hj : j < xs.length := (List.getElem?_eq_some_iff.mp h).1
  have e : ixN xs.length (j : Int) = some j := by
    unfold ixN
    rw [if_pos (by omega), if_pos (by omega)]; simp
  unfold atI; rw [e]; exact h
theorem atI_last {α : Type} (xs : List α) (v : α) : atI (xs ++ [v]) (-1) = some v := by
  have hl : (xs ++ [v]).length = xs.length + 1 := by simp
  have e : ixN (xs ++ [v]).length (-1) = some xs.length := by
    unfold ixN
    rw [hl, if_neg (by decide), if_pos (by omega)]
    congr 1
    omega
  unfold atI
  rw [e]
  show (xs ++ [v])[xs.length]? = some v
  simp

/-! ### what may be subscripted -/
/-- what stands as an index of a plain subscript -/
def PlainIx (b : Expr) : Prop := ∀ o i, subscripted b false o i = operate [o, i] (getItem o i)
/-- a subscript by values -/
def IxR (X : Cx) (r : R2) : Prop :=
  ∀ (value slice : Expr) (pins : List (Addr × Obj)) (s : Shared) (σ : St) (H : Hp) (x y : V) (v u : Value) (Q : VK), Inv X pins σ H s → RelV x v → RelV y u → r x y H Q →
    subscripted slice false v u = operate [v, u] (getItem v u) → wpAny (model X.prog X.w) X.A (subscriptTail value slice v u) (EP X pins σ Q) X.xe s
/-- a call of a builtin's method by values: the receiver, the arguments -/
def MtR (X : Cx) (id : String) (r : V → List V → Hp → VK → Prop) : Prop :=
  ∀ (pins : List (Addr × Obj)) (s : Shared) (σ : St) (H : Hp) (x : V) (xs : List V) (v : Value) (us : List Value) (Q : VK), Inv X pins σ H s → RelV x v → Vals xs us → r x xs H Q →
    wpAny (model X.prog X.w) X.A (call (.builtin id) (v :: us)) (EP X pins σ Q) X.xe s
section
variable {X : Cx} {a b : Expr} {ta tb : TE} {pos : Pos}
theorem IxR.or {r r' : R2} (h : IxR X r) (h' : IxR X r') : IxR X (fun x y H Q => r x y H Q ∨ r' x y H Q) := by
  intro value slice pins s σ H x y v u Q I rx ry q hs
  rcases q with q | q
  · exact h value slice pins s σ H x y v u Q I rx ry q hs
  · exact h' value slice pins s σ H x y v u Q I rx ry q hs
theorem MtR.or {id : String} {r r' : V → List V → Hp → VK → Prop} (h : MtR X id r) (h' : MtR X id r') : MtR X id (fun x xs H Q => r x xs H Q ∨ r' x xs H Q) := by
  intro pins s σ H x xs v us Q I rx rs q
  rcases q with q | q
  · exact h pins s σ H x xs v us Q I rx rs q
  · exact h' pins s σ H x xs v us Q I rx rs q
/-- a[b] -/
theorem pe_ix {r : R2} (hr : IxR X r) (ha : PE X a ta) (hb : PE X b tb) (hs : PlainIx b) : PE X (.Subscript a b pos) (tOp r ta tb) := by
  intro pins s σ H Q I h
  exact Subscript_ (binT ha hb I h fun v u s2 x y H2 I2 rx ry q => hr a b pins s2 σ H2 x y v u Q I2 rx ry q (hs _ _))

def rIxL (K : PySem.W.Frag) : R2 := fun x y H Q => ∃ p xs i v, x = .ref p ∧ y = .int i ∧ SqL K H p xs ∧ atI xs i = some v ∧ Q v H
def rIxT (K : PySem.W.Frag) : R2 := fun x y H Q => ∃ p xs i v, x = .ref p ∧ y = .int i ∧ SqT K H p xs ∧ atI xs i = some v ∧ Q v H
def rIxS : R2 := fun x y H Q => ∃ z i c, x = .str z ∧ y = .int i ∧ z.length ≤ sizeLine ∧ atI z.cps.toList i = some c ∧ Q (.str ⟨#[c]⟩) H
theorem ix_list : IxR X (rIxL X.K) := by
  intro value slice pins s σ H x y v u Q I rx ry h hs
  obtain ⟨p, xs, i, z, rfl, rfl, hq, he, q⟩ := h
  cases rx
  obtain ⟨t, rfl⟩ := ry
  obtain ⟨its, r, pl, hz⟩ := I.list hq
  obtain ⟨j, h1, h2, h3, h4, h5⟩ := atI_get he
  obtain ⟨w, ew, rw'⟩ := r.get h2
  have hl := r.length
  have hn := line63
  have fin : EP X pins σ Q w s := ⟨z, H, I, rw', q⟩
  by_cases h0 : 0 ≤ i
  · have hj : i.toNat = j := by
      rw [seqIndex_of h0 h5] at h1
      exact Option.some.inj h1
    exact item_listR pl.isList h0 (by omega) (by rw [hj]; simpa using ew) fin hs
  · have hj : (i + (its.toArray.size : Int)).toNat = j := by
      rw [seqIndex_neg (by omega) h4] at h1
      rw [List.size_toArray, ← hl]
      exact Option.some.inj h1
    exact subscriptTail_builtinR (x := w) pl.isList.typeIs slot_list_getitem.lookup
      (wpAny_getItem_list_neg (Q := fun r s' => r = w ∧ EP X pins σ Q r s') pl.isList (by omega) (by rw [List.size_toArray] <;> omega) (by omega) (by rw [hj]; simpa using ew) ⟨rfl, fin⟩) hs
theorem ix_tup : IxR X (rIxT X.K) := by
  intro value slice pins s σ H x y v u Q I rx ry h hs
  obtain ⟨p, xs, i, z, rfl, rfl, hq, he, q⟩ := h
  cases rx
  obtain ⟨t, rfl⟩ := ry
  obtain ⟨its, r, pl, hz⟩ := I.tuple hq
  obtain ⟨j, h1, h2, h3, h4, h5⟩ := atI_get he
  obtain ⟨w, ew, rw'⟩ := r.get h2
  have hl := r.length
  have hn := line63
  have fin : EP X pins σ Q w s := ⟨z, H, I, rw', q⟩
  exact subscriptTail_builtinR (x := w) pl.typeIs slot_tuple_getitem.lookup
    (getItem_tuple (j := j) (Q := fun r s' => r = w ∧ EP X pins σ Q r s') pl (by omega) (by omega) (by rw [List.size_toArray, ← hl]; exact h1) (by simpa using ew) ⟨rfl, fin⟩) hs
theorem ix_str : IxR X rIxS := by
  intro value slice pins s σ H x y v u Q I rx ry h hs
  obtain ⟨z, i, c, rfl, rfl, hz, he, q⟩ := h
  obtain ⟨t, rfl⟩ := rx
  obtain ⟨t', rfl⟩ := ry
  obtain ⟨j, h1, h2, h3, h4, h5⟩ := atI_get he
  have hl : z.cps.toList.length = z.length := by simp [Str.length]
  rw [hl] at h1 h4 h5
  have hn := line63
  exact tail_any (typeIs_str s z t) slot_str_getitem.lookup (getItem_str (c := c) (by
    have e1 : decide (i < -(2 ^ 63 : Int)) = false := decide_eq_false (by omega)
    have e2 : decide (i ≥ 2 ^ 63) = false := decide_eq_false (by omega)
    rw [e1, e2, Bool.or_false]) (by rw [h1]; simpa using h2) ⟨.str ⟨#[c]⟩, H, I.tok _, ⟨_, rfl⟩, q⟩) hs
/-- list, tuple or str -/
def rIx (K : PySem.W.Frag) : R2 := fun x y H Q => rIxL K x y H Q ∨ rIxT K x y H Q ∨ rIxS x y H Q
theorem ix_seq : IxR X (rIx X.K) := ix_list.or (ix_tup.or ix_str)

/-! ### xs[i] = v, any sign -/
/-- the list's object behind a store -/
theorem mapSeq_set (its : List Value) (n j : Nat) (u : Value) : Obj.mapSeq (·.setIfInBounds j u) { cls := .type "list", data := .seq its.toArray n } = { cls := .type "list", data := .seq (its.set j u).toArray n } := by
  simp [Obj.mapSeq]
theorem Inv.lst {pins : List (Addr × Obj)} {σ : St} {H : Hp} {s : Shared} {p : Addr} {xs : List V} (I : Inv X pins σ H s) (h : H p = some (.lst xs)) :
    ∃ (its : List Value) (n : Nat), Vals xs its ∧ s.heap.get? p = some { cls := .type "list", data := .seq its.toArray n } ∧ xs.length ≤ sizeLine := by
  obtain ⟨z, its, n, r, e⟩ := I.hok p _ h
  exact ⟨its, n, r, e, z⟩
/-- the list at p is written by an update of its object -/
theorem Inv.lstUpd {pins : List (Addr × Obj)} {σ : St} {H : Hp} {s : Shared} {p : Addr} {xs ys : List V} {its its' : List Value} {n n' : Nat} {f : Obj → Obj} (I : Inv X pins σ H s) (h : H p = some (.lst xs))
    (ho : s.heap.get? p = some { cls := .type "list", data := .seq its.toArray n }) (hf : f { cls := .type "list", data := .seq its.toArray n } = { cls := .type "list", data := .seq its'.toArray n' }) (r : Vals ys its') (hz : ys.length ≤ sizeLine) (t : Nat) :
    Inv X pins σ (upd H p (.lst ys)) { s with heap := s.heap.update p f, toks := t } := by
  have e : (s.heap.update p f).get? p = some { cls := .type "list", data := .seq its'.toArray n' } := by
    rw [Heap.get?_update_self f ho (by rw [hf] <;> rfl), hf]
  refine I.write (x := p) (e := p) (by rw [h]; trivial) (.inl rfl) (fun b u hb q => (Heap.get?_update_other _ _ (Ne.symm hb)).trans q) ⟨_, e⟩ ?_
  exact ⟨hz, its', n', r, e⟩
def rSetL : V → V → V → Hp → (Hp → Prop) → Prop := fun o i v H Q => ∃ p xs k j, o = .ref p ∧ i = .int k ∧ H p = some (.lst xs) ∧ ixN xs.length k = some j ∧ Q (upd H p (.lst (xs.set j v)))
theorem set_list : PSet X rSetL := by
  intro pins s σ H o i v ov iv u Q I ro ri rv h
  obtain ⟨p, xs, k, j, rfl, rfl, hp, hj, q⟩ := h
  cases ro
  obtain ⟨t, rfl⟩ := ri
  obtain ⟨its, n, r, ho, hz⟩ := I.lst hp
  obtain ⟨h1, h2, h3, h4⟩ := ixN_seq hj
  have hl := r.length
  have hn := line63
  have I' : Inv X pins σ (upd H p (.lst (xs.set j v))) { s with heap := s.heap.update p (Obj.mapSeq (·.setIfInBounds j u)) } :=
    I.lstUpd hp ho (mapSeq_set its n j u) (r.set rv j) (by rw [List.length_set]; exact hz) s.toks
  by_cases h0 : 0 ≤ k
  · have hk : k.toNat = j := by
      rw [seqIndex_of h0 h4] at h1
      exact Option.some.inj h1
    exact PySem.W.ki_setAt ho h0 (by omega) (by rw [List.size_toArray, ← hl]; exact h4) (by rw [hk]; exact ⟨_, I', q⟩)
  · have hk : (k + (its.toArray.size : Int)).toNat = j := by
      rw [seqIndex_neg (by omega) h3] at h1
      rw [List.size_toArray, ← hl]
      exact Option.some.inj h1
    exact PySem.W.ki_setBack ho (by omega) (by rw [List.size_toArray, ← hl]; exact h3) (by omega) (by rw [hk]; exact ⟨_, I', q⟩)

/-! ### slices -/
theorem slice_bounds (lo hi : Option Int) (n : Nat) : (sliceBounds lo hi none n).1 = ((HT.sIx n 0 lo : Nat) : Int) ∧ (sliceBounds lo hi none n).2.1 = ((HT.sIx n n hi : Nat) : Int) ∧ (sliceBounds lo hi none n).2.2 = 1 := by
  refine ⟨?_, ?_, rfl⟩
  · cases lo with
    | none => simp [sliceBounds, HT.sIx]
    | some i =>
      simp only [sliceBounds, HT.sIx, Option.getD_none, show (1 : Int) > 0 by decide, if_true]
      by_cases h : i < 0
      · simp only [h, if_true] <;> omega
      · simp only [h, if_false] <;> omega
  · cases hi with
    | none => simp [sliceBounds, HT.sIx]
    | some i =>
      simp only [sliceBounds, HT.sIx, Option.getD_none, show (1 : Int) > 0 by decide, if_true]
      by_cases h : i < 0
      · simp only [h, if_true] <;> omega
      · simp only [h, if_false] <;> omega
theorem slicePick_cut (its : List Value) (lo hi : Option Int) : slicePick its.toArray lo hi none = ((its.drop (HT.sIx its.length 0 lo)).take (HT.sIx its.length its.length hi - HT.sIx its.length 0 lo)).toArray := by
  obtain ⟨h1, h2, h3⟩ := slice_bounds lo hi its.toArray.size
  unfold slicePick
  rw [h1, h2, h3]
  simp only [sliceRange_one, pick_run, List.size_toArray] <;> rfl
/-- xs[lo:hi] of a list: a new list -/
def rSlL (K : PySem.W.Frag) : V → Option Int → Option Int → Hp → VK → Prop := fun x lo hi H Q => ∃ a xs, x = .ref a ∧ SqL K H a xs ∧ ∀ p, H p = none → Q (.ref p) (upd H p (.lst (cutV xs lo hi)))
theorem sl_list : SlR X (rSlL X.K) := by
  intro pins s σ H x v vl vu lo hi sl Q I rx hs pl pu h
  obtain ⟨a, xs, rfl, hx, q⟩ := h
  cases rx
  obtain ⟨its, r, ht, hz⟩ := I.list hx
  have hlen := r.length
  refine ⟨"list", _, slot_list_getitem.lookup, ht.isList.typeIs, ?_⟩
  refine wpAny_getItem_list_slice ht.isList hs pl pu .none (by simp) ?_ (by rw [List.size_toArray] <;> omega)
  rw [slicePick_cut, ← hlen]
  refine ⟨.ref s.heap.objs.size, _, I.laid (t' := s.toks) (o := .lst (cutV xs lo hi)) (fun b ob q => Heap.get?_push_of_some _ q) (Nat.le_refl _) ?_, rfl, q _ (I.hok.fresh (Nat.le_refl _))⟩
  exact ⟨Nat.le_trans (cutV_length xs lo hi) hz, _, 0, (r.drop (HT.sIx xs.length 0 lo)).take (HT.sIx xs.length xs.length hi - HT.sIx xs.length 0 lo), Heap.get?_push_size _ rfl⟩

/-! ### in, not in: flat items -/
def flatV : V → Bool
  | .non => true
  | .bl _ => true
  | .int _ => true
  | .str _ => true
  | _ => false
/-- == of flat values -/
def eqV : V → V → Bool
  | .non, .non => true
  | .bl a, .bl b => a == b
  | .bl a, .int b => (if a then 1 else 0) == b
  | .int a, .bl b => a == (if b then 1 else 0)
  | .int a, .int b => a == b
  | .str a, .str b => a == b
  | _, _ => false
theorem eqAt_V {A : Around} {s : Shared} {y x : V} {u v : Value} (ry : RelV y u) (rx : RelV x v) (fy : flatV y = true) (fx : flatV x = true) : SeqAt.EqAt A s u v (eqV y x) := by
  cases y with
  | non =>
    cases ry
    cases x with
    | non => cases rx; exact SeqAt.EqAt.same _
    | bl b => cases rx; exact SeqAt.EqAt.none_bool b
    | int b => obtain ⟨t, rfl⟩ := rx; exact SeqAt.EqAt.none_int b t
    | str b => obtain ⟨t, rfl⟩ := rx; exact SeqAt.EqAt.none_str b t
    | _ => exact absurd (show false = true from fx) Bool.false_ne_true
  | bl a =>
    cases ry
    cases x with
    | non => cases rx; exact SeqAt.EqAt.bool_none a
    | bl b => cases rx; exact SeqAt.EqAt.bool_bool a b
    | int b => obtain ⟨t, rfl⟩ := rx; exact SeqAt.EqAt.bool_int a b t
    | str b => obtain ⟨t, rfl⟩ := rx; exact SeqAt.EqAt.bool_str a b t
    | _ => exact absurd (show false = true from fx) Bool.false_ne_true
  | int a =>
    obtain ⟨t', rfl⟩ := ry
    cases x with
    | non => cases rx; exact SeqAt.EqAt.int_none a t'
    | bl b => cases rx; exact SeqAt.EqAt.int_bool a t' b
    | int b => obtain ⟨t, rfl⟩ := rx; exact SeqAt.EqAt.int_int a t' b t
    | str b => obtain ⟨t, rfl⟩ := rx; exact SeqAt.EqAt.int_str a t' b t
    | _ => exact absurd (show false = true from fx) Bool.false_ne_true
  | str a =>
    obtain ⟨t', rfl⟩ := ry
    cases x with
    | non => cases rx; exact SeqAt.EqAt.str_none a t'
    | bl b => cases rx; exact SeqAt.EqAt.str_bool a t' b
    | int b => obtain ⟨t, rfl⟩ := rx; exact SeqAt.EqAt.str_int a t' b t
    | str b => obtain ⟨t, rfl⟩ := rx; exact SeqAt.EqAt.str_str a t' b t
    | _ => exact absurd (show false = true from fx) Bool.false_ne_true
  | _ => exact absurd (show false = true from fy) Bool.false_ne_true
/-- the items' answers, read off the values (a value's own answer does not lean on its token) -/
def eqU (x : V) (u : Value) : Bool := match u with
  | .none => eqV .non x
  | .bool b => eqV (.bl b) x
  | .int i _ => eqV (.int i) x
  | .str z _ => eqV (.str z) x
  | _ => false
theorem eqU_of {x y : V} {u : Value} (r : RelV y u) (f : flatV y = true) : eqU x u = eqV y x := by
  cases y with
  | non => cases r; rfl
  | bl b => cases r; rfl
  | int i => obtain ⟨t, rfl⟩ := r; rfl
  | str z => obtain ⟨t, rfl⟩ := r; rfl
  | _ => exact absurd (show false = true from f) Bool.false_ne_true
theorem any_eqU {x : V} : ∀ {xs : List V} {us : List Value}, Vals xs us → xs.all flatV = true → us.any (eqU x) = xs.any fun y => eqV y x
  | _, _, .nil, _ => rfl
  | y :: xs, u :: us, .cons r t, f => by
    rw [List.all_cons, Bool.and_eq_true] at f
    rw [List.any_cons, List.any_cons, eqU_of r f.1, any_eqU t f.2]
theorem mem_eqAt {A : Around} {s : Shared} {x : V} {v : Value} (rx : RelV x v) (fx : flatV x = true) : ∀ {xs : List V} {us : List Value}, Vals xs us → xs.all flatV = true → ∀ u ∈ us, SeqAt.EqAt A s u v (eqU x u)
  | _, _, .nil, _ => fun u hu => by cases hu
  | y :: xs, u :: us, .cons r t, f => fun u' hu => by
    rw [List.all_cons, Bool.and_eq_true] at f
    rcases List.mem_cons.mp hu with rfl | hu
    · rw [eqU_of r f.1]; exact eqAt_V r rx f.1 fx
    · exact mem_eqAt rx fx t f.2 u' hu
def inV (x : V) (xs : List V) : Bool := xs.any fun y => eqV y x
/-- x in a list or tuple of flat items -/
def rIn (K : PySem.W.Frag) (neg : Bool) : R2 := fun x y H Q => ∃ p xs, y = .ref p ∧ (SqL K H p xs ∨ SqT K H p xs) ∧ flatV x = true ∧ xs.all flatV = true ∧ Q (.bl (if neg then !inV x xs else inV x xs)) H
theorem op_in_seq : OpR X (compareOp .In) (rIn X.K false) := by
  intro pins s σ H x y v u Q I rx ry h
  obtain ⟨p, xs, rfl, hq, fx, fs, q⟩ := h
  cases ry
  rcases hq with hq | hq
  · obtain ⟨its, r, pl, hz⟩ := I.list hq
    refine SeqAt.in_listAt (eqU x) pl.isList (fun w hw => mem_eqAt rx fx r fs w (by simpa using hw)) ⟨.bl _, H, I, rfl, ?_⟩
    rw [show its.toArray.any (eqU x) = its.any (eqU x) by simp, any_eqU r fs]
    exact q
  · obtain ⟨its, r, pl, hz⟩ := I.tuple hq
    refine SeqAt.in_tupleAt (eqU x) pl (fun w hw => mem_eqAt rx fx r fs w (by simpa using hw)) ⟨.bl _, H, I, rfl, ?_⟩
    rw [show its.toArray.any (eqU x) = its.any (eqU x) by simp, any_eqU r fs]
    exact q
theorem op_notIn_seq : OpR X (compareOp .NotIn) (rIn X.K true) := by
  intro pins s σ H x y v u Q I rx ry h
  obtain ⟨p, xs, rfl, hq, fx, fs, q⟩ := h
  cases ry
  rcases hq with hq | hq
  · obtain ⟨its, r, pl, hz⟩ := I.list hq
    refine SeqAt.notIn_listAt (eqU x) pl.isList (fun w hw => mem_eqAt rx fx r fs w (by simpa using hw)) ⟨.bl _, H, I, rfl, ?_⟩
    rw [show its.toArray.any (eqU x) = its.any (eqU x) by simp, any_eqU r fs]
    exact q
  · obtain ⟨its, r, pl, hz⟩ := I.tuple hq
    refine SeqAt.notIn_tupleAt (eqU x) pl (fun w hw => mem_eqAt rx fx r fs w (by simpa using hw)) ⟨.bl _, H, I, rfl, ?_⟩
    rw [show its.toArray.any (eqU x) = its.any (eqU x) by simp, any_eqU r fs]
    exact q
theorem op_notIn_str : OpR X (compareOp .NotIn) (fun x y H Q => ∃ i j, x = .str i ∧ y = .str j ∧ Q (.bl (!(!(Builtin.Str.occurrences j i 0 j.length 1).isEmpty))) H) := by
  intro pins s σ H x y v u Q I rx ry h
  obtain ⟨i, j, rfl, rfl, q⟩ := h
  obtain ⟨t, rfl⟩ := rx
  obtain ⟨t', rfl⟩ := ry
  exact notIn_str ⟨.bl _, H, I, rfl, q⟩

/-! ### len, list(x), tuple(x) of any list or tuple that is read -/
theorem call_len_seq : CallR X (.builtin "len") (fun xs H Q => ∃ p ys, xs = [.ref p] ∧ (SqL X.K H p ys ∨ SqT X.K H p ys) ∧ Q (.int ys.length) H) := by
  intro pins s σ H xs us Q I r h
  obtain ⟨p, ys, rfl, hq, q⟩ := h
  obtain ⟨u, rfl, rx⟩ := vals1 r
  cases rx
  have hn := line63
  rcases hq with hq | hq
  · obtain ⟨its, r', pl, hz⟩ := I.list hq
    have hlen := r'.length
    exact Calls.call_len_list pl.isList (by simp only [List.size_toArray] <;> omega) ⟨.int ys.length, H, I.tok _, ⟨s.toks + 1, by rw [List.size_toArray, hlen]⟩, q⟩
  · obtain ⟨its, r', pl, hz⟩ := I.tuple hq
    have hlen := r'.length
    exact len_tuple pl (by simp only [List.size_toArray] <;> omega) ⟨.int ys.length, H, I.tok _, ⟨s.toks + 1, by rw [List.size_toArray, hlen]⟩, q⟩
theorem call_len_str : CallR X (.builtin "len") (fun xs H Q => ∃ z, xs = [.str z] ∧ z.length ≤ sizeLine ∧ Q (.int z.length) H) := by
  intro pins s σ H xs us Q I r h
  obtain ⟨z, rfl, hz, q⟩ := h
  obtain ⟨u, rfl, t, rfl⟩ := vals1 r
  have hn := line63
  exact len_str (by omega) ⟨.int z.length, H, I.tok _, ⟨_, rfl⟩, q⟩
theorem CallR.or {f : Value} {r r' : List V → Hp → VK → Prop} (h : CallR X f r) (h' : CallR X f r') : CallR X f (fun xs H Q => r xs H Q ∨ r' xs H Q) := by
  intro pins s σ H xs us Q I rs q
  rcases q with q | q
  · exact h pins s σ H xs us Q I rs q
  · exact h' pins s σ H xs us Q I rs q
theorem call_list_of : CallR X (.type "list") (fun xs H Q => ∃ p ys, xs = [.ref p] ∧ (SqL X.K H p ys ∨ SqT X.K H p ys) ∧ ∀ l, H l = none → Q (.ref l) (upd H l (.lst ys))) := by
  intro pins s σ H xs us Q I r h
  obtain ⟨p, ys, rfl, hq, q⟩ := h
  obtain ⟨u, rfl, rx⟩ := vals1 r
  cases rx
  have fin : ∀ (its : List Value), Vals ys its → ys.length ≤ sizeLine → ∀ (h' : Heap) (c' : Nat), (∀ b o', s.heap.get? b = some o' → h'.get? b = some o') →
      h'.get? s.heap.objs.size = some { cls := .type "list", dict := none, data := .seq its.toArray c', slots := #[] } → EP X pins σ Q (.ref s.heap.objs.size) { s with heap := h' } := fun its r' hz h' c' kp e =>
    ⟨.ref s.heap.objs.size, _, I.laid (t' := s.toks) kp (Nat.le_refl _) (show ObjOk X.prog X.w _ h' _ (.lst ys) from ⟨hz, its, c', r', e⟩), rfl, q _ (I.hok.fresh (Nat.le_refl _))⟩
  rcases hq with hq | hq
  · obtain ⟨its, r', pl, hz⟩ := I.list hq
    have hlen := r'.length
    obtain ⟨o, ho, hc, n, hd⟩ := pl.isList
    exact call_list_seq p (.inl rfl) ho hc hd (fun h' c' kp e => fin its r' hz h' c' kp e) (by simp only [List.size_toArray] <;> omega)
  · obtain ⟨its, r', pl, hz⟩ := I.tuple hq
    have hlen := r'.length
    obtain ⟨o, ho, hc, n, hd⟩ := pl
    exact call_list_seq p (.inr rfl) ho hc hd (fun h' c' kp e => fin its r' hz h' c' kp e) (by simp only [List.size_toArray] <;> omega)
theorem call_tuple_of : CallR X (.type "tuple") (fun xs H Q => ∃ p ys, xs = [.ref p] ∧ ((SqL X.K H p ys ∧ ∀ l, H l = none → Q (.ref l) (upd H l (.tup ys))) ∨ (SqT X.K H p ys ∧ Q (.ref p) H))) := by
  intro pins s σ H xs us Q I r h
  obtain ⟨p, ys, rfl, h⟩ := h
  obtain ⟨u, rfl, rx⟩ := vals1 r
  cases rx
  rcases h with ⟨hq, q⟩ | ⟨hq, q⟩
  · obtain ⟨its, r', pl, hz⟩ := I.list hq
    have hlen := r'.length
    refine call_tuple_list pl.isList (fun h' kp => ?_) (by simp only [List.size_toArray] <;> omega)
    have I1 : Inv X pins σ H { s with heap := h' } := I.kept (t' := s.toks) kp
    have I2 : Inv X pins σ (upd H h'.objs.size (.tup ys)) { s with heap := h'.push { cls := .type "tuple", data := .seq its.toArray } } :=
      I1.laid (t' := s.toks) (fun b o e => Heap.get?_push_of_some _ e) (Nat.le_refl _) (show ObjOk X.prog X.w _ _ _ (.tup ys) from ⟨hz, its, r', IsTup.new _ _⟩)
    exact ⟨.ref h'.objs.size, _, I2, rfl, q _ (I1.hok.fresh (Nat.le_refl _))⟩
  · obtain ⟨its, r', pl, hz⟩ := I.tuple hq
    exact call_tuple_same pl ⟨.ref p, H, I, rfl, q⟩

/-! ### the call of a builtin's method: o.m(..) -/
/-- the value is of that builtin type -/
def tyV (K : PySem.W.Frag) (T : String) (x : V) (H : Hp) : Prop := match x with
  | .str _ => T = "str"
  | .int _ => T = "int"
  | .ref p => (T = "list" ∧ ∃ xs, SqL K H p xs) ∨ (T = "tuple" ∧ ∃ o, K.lookup p = some o ∧ o.cls = .type "tuple" ∧ o.dict = none) ∨
      (T = "dict" ∧ ((∃ kvs, H p = some (.dK kvs)) ∨ ∃ kvs, H p = some (.dT kvs))) ∨ (T = "set" ∧ ∃ S n, H p = some (.set S n))
  | _ => False
theorem tyV_is {pins : List (Addr × Obj)} {σ : St} {H : Hp} {s : Shared} {T : String} {x : V} {v : Value} (I : Inv X pins σ H s) (r : RelV x v) (ty : tyV X.K T x H) :
    s.TypeIs v T ∧ ∀ a, v = .ref a → ∃ ob, s.heap.get? a = some ob ∧ ob.dict = none := by
  cases x with
  | str z =>
    obtain ⟨t, rfl⟩ := r
    cases (show T = "str" from ty)
    exact ⟨typeIs_str s z t, fun _ e => nomatch e⟩
  | int i =>
    obtain ⟨t, rfl⟩ := r
    cases (show T = "int" from ty)
    exact ⟨typeIs_int s i t, fun _ e => nomatch e⟩
  | ref p =>
    cases r
    rcases ty with ⟨rfl, xs, hq⟩ | ⟨rfl, o, hk, hc, hd⟩ | ⟨rfl, hk⟩ | ⟨rfl, S, n, hk⟩
    · obtain ⟨its, _, pl, _⟩ := I.list hq
      refine ⟨pl.isList.typeIs, fun a e => ?_⟩
      cases e
      obtain ⟨o, n, e, c, hd, _⟩ := pl
      exact ⟨o, e, hd⟩
    · refine ⟨⟨o, I.kIn p o hk, hc⟩, fun a e => ?_⟩
      cases e
      exact ⟨o, I.kIn _ o hk, hd⟩
    · have z : ∃ o, s.heap.get? p = some o ∧ o.ExactDict := by
        rcases hk with ⟨kvs, hk⟩ | ⟨kvs, hk⟩
        · obtain ⟨_, _, _, _, o, _, _, e, ex, _⟩ := I.hok p _ hk
          exact ⟨o, e, ex⟩
        · obtain ⟨_, _, _, _, o, _, _, e, ex, _⟩ := I.hok p _ hk
          exact ⟨o, e, ex⟩
      obtain ⟨o, e, ex⟩ := z
      refine ⟨⟨o, e, ex.1⟩, fun a e2 => ?_⟩
      cases e2
      exact ⟨o, e, ex.2.1⟩
    · obtain ⟨o, _, _, _, e, ex, _⟩ := I.hok p _ hk
      refine ⟨⟨o, e, ex.1⟩, fun a e2 => ?_⟩
      cases e2
      exact ⟨o, e, ex.2.1⟩
  | _ => exact False.elim ty
def tBM0 (K : PySem.W.Frag) (T : String) (r : V → List V → Hp → VK → Prop) (to : TE) : TE := fun σ H Q => to σ H fun x H1 => tyV K T x H1 ∧ r x [] H1 Q
def tBM (K : PySem.W.Frag) (T : String) (r : V → List V → Hp → VK → Prop) (to : TE) (t : TA) : TE := fun σ H Q => to σ H fun x H1 => tyV K T x H1 ∧ t σ H1 fun xs H2 => r x xs H2 Q
variable {o e : Expr} {es : List Expr} {to : TE} {t : TA} {name : Str} {apos cpos : Pos} {T id : String} {r : V → List V → Hp → VK → Prop}
theorem pe_bm0 (pa : PlainAttrs T) (slot : Slot T name id) (hty : typeOf (.builtin id) = pure (.type "method_descriptor")) (hm : MtR X id r) (ho : PE X o to)
    (hbase : attributeBase o name X.env (eval o X.env) = eval o X.env := by rfl) (hline : (apos.endLine == cpos.line) = true := by rfl) : PE X (.Call (.Attribute o name apos) [] [] cpos) (tBM0 X.K T r to) := by
  intro pins s σ H Q I h
  refine wpAny_Call_method0_late hbase hline (thn (ho pins s σ H _ I h) fun v s1 ⟨x, H1, I1, r1, ty, q1⟩ => ?_)
  obtain ⟨h1, h2⟩ := tyV_is I1 r1 ty
  exact ⟨T, id, pa, slot, hty, h1, h2, Calls.callWith_builtin rfl (PySem.evalArgs_none (hm pins s1 σ H1 x [] v [] Q I1 r1 .nil q1))⟩
theorem pe_bm (pa : PlainAttrs T) (slot : Slot T name id) (hty : typeOf (.builtin id) = pure (.type "method_descriptor")) (hm : MtR X id r) (ho : PE X o to) (ha : PA X (e :: es) t)
    (hbase : attributeBase o name X.env (eval o X.env) = eval o X.env := by rfl)
    (hfew : ((backTo cpos (starEach (e :: es) X.env)).all (fun x => !x.1) && (backToKw cpos (keywordEach [] X.env)).all (fun x => x.1.isSome)
      && decide ((e :: es).length + ([] : List Keyword).length + (if ([] : List Keyword).isEmpty then 0 else 1) < 30)) = true := by rfl)
    (hline : (apos.endLine == cpos.line) = true := by rfl) (hs : starEach (e :: es) X.env = (false, eval e X.env) :: starEach es X.env := by rfl) (hplain : (backTo cpos (starEach es X.env)).any (·.1) = false := by rfl) :
    PE X (.Call (.Attribute o name apos) (e :: es) [] cpos) (tBM X.K T r to t) := by
  intro pins s σ H Q I h
  refine wpAny_Call_method_late hbase hfew hline rfl (thn (ho pins s σ H _ I h) fun v s1 ⟨x, H1, I1, r1, ty, q1⟩ => ?_)
  obtain ⟨h1, h2⟩ := tyV_is I1 r1 ty
  refine ⟨T, id, pa, slot, hty, h1, h2, ?_⟩
  have hA := ha cpos pins s1 σ H1 _ I1 q1
  rw [hs] at hA ⊢
  refine Calls.callWith_builtin (by show (false || (backTo cpos (starEach es X.env)).any (·.1)) = false; rw [hplain] <;> rfl) (Calls.evalArgs_plain ?_)
  exact thn hA fun us s2 ⟨vs, H2, I2, r2, q2⟩ => hm pins s2 σ H2 x vs v us Q I2 r1 r2 q2
/- xs.append(e), list.index on a module's tuple .. are MtR facts of 06m -/
end
end L2

namespace L2
open PySem PySem.Spec PyProof.Rows

def MtM (X : Cx) (id : String) (r : V → List V → Hp → VK → Prop) : Prop :=
  ∀ (pins : List (Addr × Obj)) (s : Shared) (σ : St) (H : Hp) (x : V) (xs : List V) (v : Value) (us : List Value) (Q : VK), Inv X pins σ H s → RelV x v → Vals xs us → r x xs H Q →
    wpAny (model X.prog X.w) X.A (call (.builtin id) (v :: us)) (EP X pins σ Q) X.xe s

/-! ### lists of values -/
theorem Vals.one : ∀ {x : V} {us : List Value}, Vals [x] us → ∃ u, us = [u] ∧ RelV x u
  | _, _, .cons r .nil => ⟨_, rfl, r⟩
theorem Vals.two : ∀ {x y : V} {us : List Value}, Vals [x, y] us → ∃ u v, us = [u, v] ∧ RelV x u ∧ RelV y v
  | _, _, _, .cons r (.cons q .nil) => ⟨_, _, rfl, r, q⟩
theorem Vals.zero : ∀ {us : List Value}, Vals [] us → us = []
  | _, .nil => rfl
theorem Vals.dropLast {xs : List V} {us : List Value} (h : Vals xs us) : Vals xs.dropLast us.dropLast := by
  induction h with
  | nil => exact .nil
  | cons r t ih =>
    cases t with
    | nil => exact .nil
    | cons q t' => exact .cons r ih
theorem Vals.eraseIdx : ∀ {xs : List V} {us : List Value} (i : Nat), Vals xs us → Vals (xs.eraseIdx i) (us.eraseIdx i)
  | _, _, _, .nil => .nil
  | _, _, 0, .cons _ t => t
  | _, _, i + 1, .cons r t => .cons r (Vals.eraseIdx i t)
theorem Vals.reverse {xs : List V} {us : List Value} (h : Vals xs us) : Vals xs.reverse us.reverse := by
  induction h with
  | nil => exact .nil
  | cons r t ih => rw [List.reverse_cons, List.reverse_cons]; exact Vals.append ih (.cons r .nil)
theorem Vals.rep {xs : List V} {us : List Value} (h : Vals xs us) : ∀ k : Nat, Vals (List.replicate k xs).flatten (List.replicate k us).flatten
  | 0 => .nil
  | k + 1 => by
    rw [List.replicate_succ, List.replicate_succ, List.flatten_cons, List.flatten_cons]
    exact Vals.append h (Vals.rep h k)
theorem erase_last {α : Type} (l : List α) : l.eraseIdx (l.length - 1) = l.dropLast := by
  induction l with
  | nil => rfl
  | cons a r ih =>
    cases r with
    | nil => rfl
    | cons b r =>
      have e : (a :: b :: r).length - 1 = ((b :: r).length - 1) + 1 := by
        have h1 : (a :: b :: r).length = r.length + 2 := rfl
        have h2 : (b :: r).length = r.length + 1 := rfl
        omega
      rw [e, List.eraseIdx_cons_succ, ih]
      all_goals rfl
theorem len_erase {α : Type} : ∀ (l : List α) (i : Nat), (l.eraseIdx i).length ≤ l.length
  | [], _ => Nat.le_refl _
  | _ :: _, 0 => Nat.le_succ _
  | _ :: r, i + 1 => Nat.succ_le_succ (len_erase r i)
theorem foldl_rep (its : List Value) : ∀ (k : Nat) (acc : List Value),
    List.foldl (fun x1 x2 => x1 ++ x2) acc.toArray (List.replicate k its.toArray) = (acc ++ (List.replicate k its).flatten).toArray
  | 0, acc => by simp
  | k + 1, acc => by
    have e : acc.toArray ++ its.toArray = (acc ++ its).toArray := by simp
    have e2 : (acc ++ its) ++ (List.replicate k its).flatten = acc ++ (List.replicate (k + 1) its).flatten := by
      rw [List.replicate_succ, List.flatten_cons, List.append_assoc]
    rw [← e2, ← foldl_rep its k (acc ++ its), ← e, List.replicate_succ, List.foldl_cons]

section
variable {X : Cx} {pins : List (Addr × Obj)} {σ : St} {H : Hp} {s : Shared} {l b : Addr} {xs ys zs : List V}

/-! ### the two steps: a tracked list is rewritten, a new list is laid -/
theorem Inv.lset {its its' : List Value} {n : Nat} {f : Array Value → Array Value} {t' : Nat} (I : Inv X pins σ H s) (hH : H l = some (.lst xs))
    (e : s.heap.get? l = some { cls := .type "list", data := .seq its.toArray n }) (hf : f its.toArray = its'.toArray) (hv : Vals ys its') (hz : ys.length ≤ sizeLine) :
    Inv X pins σ (upd H l (.lst ys)) { s with heap := s.heap.update l (Obj.mapSeq f), toks := t' } := by
  have q := PySem.IsL.update e f
  rw [hf] at q
  refine I.write (x := l) (e := l) (by rw [hH]; exact trivial) (.inl rfl) (fun b' u hb hu => (Heap.get?_update_other s.heap (Obj.mapSeq f) (Ne.symm hb)).trans hu) ⟨_, q⟩ ?_
  exact ⟨hz, its', _, hv, q⟩
theorem Inv.lnew {its : List Value} {t' : Nat} (I : Inv X pins σ H s) (hv : Vals ys its) (hz : ys.length ≤ sizeLine) :
    Inv X pins σ (upd H s.heap.objs.size (.lst ys)) { s with heap := s.heap.push { cls := .type "list", data := .seq its.toArray }, toks := t' } :=
  I.laid (fun _ _ q => Heap.get?_push_of_some _ q) (Nat.le_refl _) ⟨hz, its, 0, hv, Heap.get?_push_size _ rfl⟩
theorem Inv.fresh (I : Inv X pins σ H s) : H s.heap.objs.size = none := I.hok.fresh (Nat.le_refl _)
theorem Inv.lstM (I : Inv X pins σ H s) (hH : H l = some (.lst xs)) : xs.length ≤ sizeLine ∧ ∃ (its : List Value) (n : Nat), Vals xs its ∧ xs.length = its.length ∧ s.heap.get? l = some { cls := .type "list", data := .seq its.toArray n } := by
  obtain ⟨z, its, n, r, e⟩ := I.hok l _ hH
  exact ⟨z, its, n, r, r.length, e⟩

theorem notLongL {n : Nat} (h : n ≤ sizeLine) : Builtin.List.listTooLong n = false := by
  unfold Builtin.List.listTooLong
  exact decide_eq_false (by omega)
end

section
variable {X : Cx}

/-! ### methods -/
def rAppend : V → List V → Hp → VK → Prop := fun x vs H Q => ∃ l xs y, x = .ref l ∧ vs = [y] ∧ H l = some (.lst xs) ∧ xs.length < sizeLine ∧ Q .non (upd H l (.lst (xs ++ [y])))
theorem mt_append : MtM X "list.append" rAppend := by
  intro pins s σ H x vs v us Q I rx rv h
  obtain ⟨l, xs, y, rfl, rfl, hH, hz, q⟩ := h
  cases rx
  obtain ⟨u, rfl, ru⟩ := rv.one
  obtain ⟨z, its, n, r, hl, e⟩ := I.lstM hH
  refine call_meets F.slot_list_append ⟨_, e, rfl⟩ F.entry_list_append (F.args_list_append_2 _ _) (PySem.list_append l its.toArray n u (by rw [List.size_toArray]; omega)) ⟨e, ?_⟩
  refine ⟨.non, _, I.lset (its' := its ++ [u]) hH e (by simp) (r.append (.cons ru .nil)) ?_, rfl, q⟩
  rw [List.length_append, List.length_singleton]
  omega

def rExtend : V → List V → Hp → VK → Prop := fun x vs H Q => ∃ l b xs zs, x = .ref l ∧ vs = [.ref b] ∧ H l = some (.lst xs) ∧ H b = some (.lst zs) ∧ xs.length + zs.length ≤ sizeLine ∧ Q .non (upd H l (.lst (xs ++ zs)))
theorem mt_extend : MtM X "list.extend" rExtend := by
  intro pins s σ H x vs v us Q I rx rv h
  obtain ⟨l, b, xs, zs, rfl, rfl, hH, hB, hz, q⟩ := h
  cases rx
  obtain ⟨u, rfl, ru⟩ := rv.one
  cases ru
  obtain ⟨z, its, n, r, hl, e⟩ := I.lstM hH
  obtain ⟨z2, its2, n2, r2, hl2, e2⟩ := I.lstM hB
  have hsz : its.toArray.size + its2.toArray.size ≤ sizeLine := by rw [List.size_toArray, List.size_toArray]; omega
  have hlong : ¬ (!its.toArray.isEmpty && Builtin.List.listTooLong (its.toArray.size + its2.toArray.size)) = true := by
    rw [notLongL hsz, Bool.and_false]
    exact Bool.false_ne_true
  refine call_meets F.slot_list_extend ⟨_, e, rfl⟩ F.entry_list_extend (F.args_list_extend_2 _ _)
    (AutoSeq1.list_extend_list_list_0 l its.toArray n b its2.toArray n2 hlong (by rw [List.size_toArray]; omega) (by omega)) ⟨e, e2, ?_⟩
  refine ⟨.non, _, I.lset (its' := its ++ its2) hH e (by simp) (r.append r2) ?_, rfl, q⟩
  rw [List.length_append]
  omega

def rPop : V → List V → Hp → VK → Prop := fun x vs H Q => ∃ l xs y, x = .ref l ∧ vs = [] ∧ H l = some (.lst xs) ∧ xs[xs.length - 1]? = some y ∧ Q y (upd H l (.lst xs.dropLast))
theorem mt_pop : MtM X "list.pop" rPop := by
  intro pins s σ H x vs v us Q I rx rv h
  obtain ⟨l, xs, y, rfl, rfl, hH, hy, q⟩ := h
  cases rx
  have hus := rv.zero
  subst hus
  obtain ⟨z, its, n, r, hl, e⟩ := I.lstM hH
  obtain ⟨u, hu, ru⟩ := r.get hy
  have hy' : its.toArray[its.toArray.size - 1]? = some u := by
    show its.toArray[its.length - 1]? = some u
    rw [← Array.getElem?_toList, ← hl]
    exact hu
  refine call_meets F.slot_list_pop ⟨_, e, rfl⟩ F.entry_list_pop (F.args_list_pop_1 _) (MeetsSeq.list_pop_last l its.toArray n u hy' (by rw [List.size_toArray]; omega)) ⟨e, ?_⟩
  refine ⟨y, _, I.lset (its' := its.dropLast) hH e ?_ r.dropLast ?_, ru, q⟩
  · show its.toArray.eraseIdxIfInBounds (its.toArray.size - 1) = its.dropLast.toArray
    rw [List.size_toArray, List.eraseIdxIfInBounds_toArray, erase_last]
  · rw [List.length_dropLast]
    omega

def rPopAt : V → List V → Hp → VK → Prop := fun x vs H Q => ∃ l xs i k y, x = .ref l ∧ vs = [.int i] ∧ H l = some (.lst xs) ∧ -(2 ^ 63) ≤ i ∧ i < 2 ^ 63 ∧ seqIndex? i xs.length = some k ∧ xs[k]? = some y ∧ Q y (upd H l (.lst (xs.eraseIdx k)))
theorem mt_popAt : MtM X "list.pop" rPopAt := by
  intro pins s σ H x vs v us Q I rx rv h
  obtain ⟨l, xs, i, k, y, rfl, rfl, hH, h1, h2, hk, hy, q⟩ := h
  cases rx
  obtain ⟨u, rfl, ru⟩ := rv.one
  obtain ⟨t, rfl⟩ := ru
  obtain ⟨z, its, n, r, hl, e⟩ := I.lstM hH
  obtain ⟨w, hw, rw'⟩ := r.get hy
  refine call_meets F.slot_list_pop ⟨_, e, rfl⟩ F.entry_list_pop (F.args_list_pop_2 _ _)
    (MeetsSeq.list_pop_at l its.toArray n i t k w (fitsIndex_both h1 h2) (by rw [List.size_toArray, ← hl]; exact hk) (by rw [← Array.getElem?_toList]; exact hw) (by rw [List.size_toArray]; omega)) ⟨e, ?_⟩
  refine ⟨y, _, I.lset (its' := its.eraseIdx k) hH e ?_ (r.eraseIdx k) ?_, rw', q⟩
  · show its.toArray.eraseIdxIfInBounds k = (its.eraseIdx k).toArray
    rw [List.eraseIdxIfInBounds_toArray]
  · have := len_erase xs k
    omega

def rReverse : V → List V → Hp → VK → Prop := fun x vs H Q => ∃ l xs, x = .ref l ∧ vs = [] ∧ H l = some (.lst xs) ∧ Q .non (upd H l (.lst xs.reverse))
theorem mt_reverse : MtM X "list.reverse" rReverse := by
  intro pins s σ H x vs v us Q I rx rv h
  obtain ⟨l, xs, rfl, rfl, hH, q⟩ := h
  cases rx
  have hus := rv.zero
  subst hus
  obtain ⟨z, its, n, r, hl, e⟩ := I.lstM hH
  refine call_meets F.slot_list_reverse ⟨_, e, rfl⟩ F.entry_list_reverse (F.args_list_reverse_1 _) (AutoSeq1.list_reverse_list_0 l its.toArray n (by rw [List.size_toArray]; omega)) ⟨e, ?_⟩
  refine ⟨.non, _, I.lset (its' := its.reverse) hH e (by simp) r.reverse ?_, rfl, q⟩
  rw [List.length_reverse]
  omega

def rClear : V → List V → Hp → VK → Prop := fun x vs H Q => ∃ l xs, x = .ref l ∧ vs = [] ∧ H l = some (.lst xs) ∧ Q .non (upd H l (.lst []))
theorem mt_clear : MtM X "list.clear" rClear := by
  intro pins s σ H x vs v us Q I rx rv h
  obtain ⟨l, xs, rfl, rfl, hH, q⟩ := h
  cases rx
  have hus := rv.zero
  subst hus
  obtain ⟨z, its, n, r, hl, e⟩ := I.lstM hH
  refine call_meets F.slot_list_clear ⟨_, e, rfl⟩ F.entry_list_clear (F.args_list_clear_1 _) (AutoSeq1.list_clear_list_0 l its.toArray n (by rw [List.size_toArray]; omega)) ⟨e, ?_⟩
  exact ⟨.non, _, I.lset (its' := []) (ys := []) hH e rfl .nil (Nat.zero_le _), rfl, q⟩

/-! ### list + list, list += list, list * int -/
def rCat : R2 := fun x y H Q => ∃ l b xs zs, x = .ref l ∧ y = .ref b ∧ H l = some (.lst xs) ∧ H b = some (.lst zs) ∧ xs.length + zs.length ≤ sizeLine ∧ ∀ p, H p = none → Q (.ref p) (upd H p (.lst (xs ++ zs)))
theorem op_cat : OpR X (binaryOp .Add) rCat := by
  intro pins s σ H x y v u Q I rx ry h
  obtain ⟨l, b, xs, zs, rfl, rfl, hH, hB, hz, q⟩ := h
  cases rx
  cases ry
  obtain ⟨z, its, n, r, hl, e⟩ := I.lstM hH
  obtain ⟨z2, its2, n2, r2, hl2, e2⟩ := I.lstM hB
  refine PySem.P.add_list e e2 ?_ (by rw [List.size_toArray, List.size_toArray]; omega)
  have ea : its.toArray ++ its2.toArray = (its ++ its2).toArray := by simp
  rw [ea]
  exact ⟨.ref _, _, I.lnew (t' := s.toks) (r.append r2) (by rw [List.length_append]; omega), rfl, q _ I.fresh⟩
/-- a list times an int (a negative one is nothing) -/
def rRep : R2 := fun x y H Q => ∃ l k xs, x = .ref l ∧ y = .int k ∧ H l = some (.lst xs) ∧ -(2 ^ 63) ≤ k ∧ k < 2 ^ 63 ∧ xs.length * k.toNat ≤ sizeLine ∧
  ∀ p, H p = none → Q (.ref p) (upd H p (.lst (List.replicate k.toNat xs).flatten))
theorem len_rep {α : Type} (xs : List α) (k : Nat) : (List.replicate k xs).flatten.length = k * xs.length := by
  induction k with
  | zero => simp
  | succ k ih => rw [List.replicate_succ, List.flatten_cons, List.length_append, ih, Nat.succ_mul, Nat.add_comm]
theorem op_rep : OpR X (binaryOp .Mult) rRep := by
  intro pins s σ H x y v u Q I rx ry h
  obtain ⟨l, k, xs, rfl, rfl, hH, h1, h2, hz, q⟩ := h
  cases rx
  obtain ⟨t, rfl⟩ := ry
  obtain ⟨z, its, n, r, hl, e⟩ := I.lstM hH
  have hlen : its.toArray.size * k.toNat ≤ sizeLine := by rw [List.size_toArray, ← hl]; exact hz
  have hcap : ¬ its.toArray.size * k.toNat > (2 ^ 63 - 1) / 8 := by
    have : (sizeLine : Nat) ≤ (2 ^ 63 - 1) / 8 := by decide
    omega
  have hfit : ¬ (!Builtin.List.listFitsIndex k) = true := by
    rw [fitsIndex_both h1 h2]
    exact Bool.false_ne_true
  have hlong : ¬ Builtin.List.listTooLong (its.toArray.size * k.toNat) = true := by
    rw [notLongL hlen]
    exact Bool.false_ne_true
  have hnew : List.foldl (fun x1 x2 => x1 ++ x2) #[] (List.replicate (if its.toArray.isEmpty = true then 0 else k.toNat) its.toArray) = (List.replicate k.toNat its).flatten.toArray := by
    have f0 : ∀ m : Nat, List.foldl (fun x1 x2 => x1 ++ x2) #[] (List.replicate m its.toArray) = (List.replicate m its).flatten.toArray := fun m => by
      have := foldl_rep its m []
      rw [List.nil_append] at this
      exact this
    rw [f0]
    cases its with
    | nil => simp
    | cons a r' => rw [if_neg (by simp)]
  refine wpAny_binaryOp_repeat_ref (T := "list") (U := "int") (by decide) ⟨_, e, rfl⟩ (fun s' => typeIs_int s' k t) noFill_list_mul F.fills_int_mul F.slot_int_rmul repeat_list F.slot_int_index.lookup
    (call_meets F.slot_int_rmul (typeIs_int s k t) F.entry_int_rmul (F.args_int_rmul_2 _ _) (int___rmul___int_list k t l its.toArray n)
      ⟨e, rfl, ⟨_, e, rfl⟩, call_meets F.slot_list_mul ⟨_, e, rfl⟩ F.entry_list_mul (F.args_list_mul_2 _ _) (AutoListH.list___mul___list_int_3 l its.toArray n k t hfit hcap hlong) ⟨e, ?_⟩⟩)
  rw [hnew]
  exact ⟨.ref _, _, I.lnew (t' := s.toks) (r.rep k.toNat) (by rw [len_rep, Nat.mul_comm]; exact hz), rfl, q _ I.fresh⟩

/-! ### del xs[i] -/
theorem del_list {pins : List (Addr × Obj)} {s : Shared} {σ : St} {H : Hp} {l : Addr} {xs : List V} {i : Int} {t : Tok} {k : Nat} {Q : Unit → Shared → Prop} (I : Inv X pins σ H s) (hH : H l = some (.lst xs))
    (h1 : -(2 ^ 63) ≤ i) (h2 : i < 2 ^ 63) (hk : seqIndex? i xs.length = some k) (h : ∀ s', Inv X pins σ (upd H l (.lst (xs.eraseIdx k))) s' → Q () s') :
    wpAny (model X.prog X.w) X.A (delItem (.ref l) (.int i t)) Q X.xe s := by
  obtain ⟨z, its, n, r, hl, e⟩ := I.lstM hH
  refine PySem.P.delItem_list (k := k) e (fitsIndex_both h1 h2) (by rw [List.size_toArray, ← hl]; exact hk) (h _ ?_) (by rw [List.size_toArray]; omega)
  refine I.lset (its' := its.eraseIdx k) (t' := s.toks) hH e ?_ (r.eraseIdx k) ?_
  · show its.toArray.eraseIdxIfInBounds k = (its.eraseIdx k).toArray
    rw [List.eraseIdxIfInBounds_toArray]
  · have := len_erase xs k
    omega
end

/-! ### xs[a:b] = ys -/
section
variable {prog : Program} {w : World} {A : Around} {E : Value → Shared → Prop} {s : Shared}
theorem splice_eq (its its2 : List Value) (a c : Nat) : its.toArray.extract 0 a ++ its2.toArray ++ its.toArray.extract c its.toArray.size = (its.take a ++ its2 ++ its.drop c).toArray := by
  apply Array.toList_inj.mp
  first
    | (simp
       exact List.take_of_length_le (by simp))
    | simp [List.take_of_length_le]
    | simp
theorem bounds_run {a c n : Nat} (hac : a ≤ c) (hc : c ≤ n) : sliceBounds (some (a : Int)) (some (c : Int)) none n = ((a : Int), (c : Int), 1) := by
  simp only [sliceBounds, Option.getD_none]
  have h1 : ¬ ((a : Int) < 0) := by omega
  have h2 : ¬ ((c : Int) < 0) := by omega
  simp only [h1, h2, if_false, show (1 : Int) > 0 by decide, if_true]
  congr 1
  · omega
  · congr 1; omega
set_option maxRecDepth 100000 in
/-- list.__setitem__ with a slice of step one and another list -/
theorem setItem_slice {l b sl : Addr} {items new : Array Value} {n n2 : Nat} {vl vu : Value} {a c : Nat} {Q : Unit → Shared → Prop}
    (e : s.heap.get? l = some { cls := .type "list", data := .seq items n }) (e2 : s.heap.get? b = some { cls := .type "list", data := .seq new n2 }) (hne : l ≠ b)
    (hs : s.heap.IsSliceOf sl vl vu .none) (pl : IsPart vl (some (a : Int))) (pu : IsPart vu (some (c : Int))) (hac : a ≤ c) (hc : c ≤ items.size)
    (hsz : items.size + new.size ≤ sizeLine) (h : Q () { s with heap := s.heap.update l (Obj.mapSeq fun xs => xs.extract 0 a ++ new ++ xs.extract c xs.size) }) :
    wpAny (model prog w) A (setItem (.ref l) (.ref sl) (.ref b)) Q E s := by
  have hl : s.heap.IsList l items := PySem.IsL.isList e
  have hb : s.heap.IsList b new := PySem.IsL.isList e2
  obtain ⟨os, hos, hcs, hds⟩ := id hs
  have hTs : s.TypeIs (.ref sl) "slice" := ⟨os, hos, hcs⟩
  have hstep : ¬ ((rawPart none == rawInt 0) = true) := Bool.false_ne_true
  have hsame : Builtin.List.listSameRef (.ref l) (.ref b) = false := by
    unfold Builtin.List.listSameRef
    exact beq_eq_false_iff_ne.mpr hne
  have hmax : (max (a : Int) (c : Int)).toNat = c := by omega
  have hz' : ((fun xs : Array Value => xs.extract 0 a ++ new ++ xs.extract c xs.size) items).size ≤ sizeLine + 1 := by
    simp only [Array.size_append, Array.size_extract]
    omega
  unfold setItem
  try with_reducible refine wpAny_holding ?_
  first | refine wpAny_bind (wpAny_pure ?_) | skip
  refine wpAny_bind (wpAny_sequenceKey hl.typeIs (by decide) ?_)
  refine wpAny_bind (wpAny_callSpecial?_slot (name := Str.ofString "__setitem__") hl.typeIs slot_list_setitem
    (wpAny_call_entry slot_list_setitem hl.typeIs entry_list_setitem ?_ (args_list_setitem _ _ _)))
  show wpAny _ _ (Builtin.List.listSubscript? (.ref sl) >>= _) _ _ s
  refine wpAny_bind ?_
  unfold Builtin.List.listSubscript?
  refine wpAny_bind (wpAny_specialOf hTs slice_no_index ?_)
  simp only [Option.isNone_none, if_true]
  refine wpAny_pure ?_
  show wpAny _ _ (typeOf (.ref sl) >>= _) _ _ s
  refine wpAny_bind (wpAny_typeOf hTs ?_)
  first
    | rw [if_neg (by decide)]
    | refine PySem.W.KFB.if_not (by decide) ?_
  rw [listSliceParts_eq]
  refine wpAny_bind (wpAny_bind (wpAny_field hos hds (x := .none) rfl (wpAny_bind (wpAny_listPart .none ?_))))
  rw [if_neg hstep]
  refine wpAny_bind (wpAny_field hos hds (x := vl) rfl (wpAny_bind (wpAny_listPart pl ?_)))
  refine wpAny_bind (wpAny_field hos hds (x := vu) rfl (wpAny_bind (wpAny_listPart pu (wpAny_pure ?_))))
  first
    | simp only [hsame, Bool.false_eq_true, if_false]
    | refine PySem.W.KFB.if_not hsame ?_
    | (dsimp only
       rw [if_neg (by rw [hsame]; exact Bool.false_ne_true)])
  refine wpAny_bind (m := Builtin.List.listAllItems (.ref b) "must assign iterable to extended slice") ?_
  unfold Builtin.List.listAllItems
  refine wpAny_bind (wpAny_typeOf hb.typeIs ?_)
  first
    | refine PySem.W.KFB.if_so (by decide) ?_
    | rw [if_pos (by decide)]
    | simp only [beq_self_eq_true, Bool.true_or, if_true]
  unfold Builtin.List.listItems
  refine wpAny_bind (wpAny_seqItems e2 rfl (wpAny_pure ?_))
  refine wpAny_bind (wpAny_bind (wpAny_seqItems e rfl (wpAny_pure ?_)))
  refine wpAny_bind (wpAny_of_eq ((sliceIndices_raw (some (a : Int)) (some (c : Int)) none items.size (by simp)).trans (congrArg (pure : Int × Int × Int → Sem (Int × Int × Int)) (bounds_run hac hc))) ?_)
  show wpAny _ _ (if ((1 : Int) == 1) = true then _ else _) _ _ s
  rw [if_pos (by decide)]
  refine wpAny_bind (wpAny_rule ?_)
  first
    | simp only [notLongL hsz, Bool.false_eq_true, if_false]
    | refine PySem.W.KFB.if_not (notLongL hsz) ?_
  first | refine wpAny_bind (wpAny_pure ?_) | skip
  show wpAny _ _ (updateSeq l (fun xs => xs.extract 0 ((a : Int)).toNat ++ new ++ xs.extract (max (a : Int) (c : Int)).toNat xs.size) >>= _) _ _ s
  rw [hmax, Int.toNat_natCast]
  refine wpAny_bind (wpAny_updateSeq (hz := Nat.le_trans (Nat.le_add_right _ _) hsz) (_hz' := hz') e rfl ?_)
  refine wpAny_bind (wpAny_letGo ?_)
  first
    | exact wpAny_bind (wpAny_pure (wpAny_pure ⟨.none, rfl, wpAny_pure h⟩))
    | exact wpAny_pure ⟨.none, rfl, wpAny_pure h⟩
end

section
variable {X : Cx}
/-- xs[a:c] = ys of another list, at the value level: sl is the slice object that was just made -/
theorem set_slice {pins : List (Addr × Obj)} {s : Shared} {σ : St} {H : Hp} {l b sl : Addr} {xs ys : List V} {a c : Int} {vl vu : Value} {Q : Unit → Shared → Prop} (I : Inv X pins σ H s)
    (hH : H l = some (.lst xs)) (hB : H b = some (.lst ys)) (hne : l ≠ b) (hs : s.heap.IsSliceOf sl vl vu .none) (ra : RelV (.int a) vl) (rc : RelV (.int c) vu) (h0 : 0 ≤ a) (hac : a ≤ c) (hc : c ≤ xs.length)
    (hz : xs.length + ys.length ≤ sizeLine) (h : ∀ s', Inv X pins σ (upd H l (.lst (xs.take a.toNat ++ ys ++ xs.drop c.toNat))) s' → Q () s') :
    wpAny (model X.prog X.w) X.A (setItem (.ref l) (.ref sl) (.ref b)) Q X.xe s := by
  obtain ⟨ta, rfl⟩ := ra
  obtain ⟨tc, rfl⟩ := rc
  obtain ⟨z, its, n, r, hl, e⟩ := I.lstM hH
  obtain ⟨z2, its2, n2, r2, hl2, e2⟩ := I.lstM hB
  obtain ⟨a', rfl⟩ := Int.eq_ofNat_of_zero_le h0
  obtain ⟨c', rfl⟩ := Int.eq_ofNat_of_zero_le (Int.le_trans h0 hac)
  simp only [Int.toNat_natCast] at h
  refine setItem_slice (a := a') (c := c') e e2 hne hs (.int _ _) (.int _ _) (by omega) (by rw [List.size_toArray]; omega) (by rw [List.size_toArray, List.size_toArray]; omega) (h _ ?_)
  refine I.lset (its' := its.take a' ++ its2 ++ its.drop c') (t' := s.toks) hH e ?_ (Vals.append (Vals.append (r.take _) r2) (r.drop _)) ?_
  · exact splice_eq its its2 a' c'
  · rw [List.length_append, List.length_append, List.length_take, List.length_drop]
    omega
end
end L2

namespace Att
open PySem PySem.W PySem.Calls PyProof.Rows

/-! ### the script -/
theorem ints_of_wellAll {P : Params} {h : Heap} : ∀ (ns : List Int) (vs : List Value), WellAll P h vs (ns.map WData.int) → IntsAre vs ns := by
  intro ns
  induction ns with
  | nil =>
    intro vs w
    rw [List.map_nil] at w
    cases w
    exact .nil
  | cons n ns ih =>
    intro vs w
    rw [List.map_cons] at w
    cases w with
    | cons a b =>
      cases a
      exact .cons _ _ (ih _ b)

theorem script_of {l : OpenLaw} {n : Nat} (hn : l.most = some n) {P : Params} {h : Heap} {args : List WData} {vals : List Value}
    (hpre : l.row.toRowW.claim.pre args = true) (hwl : WellAll P h vals args) :
    ∃ a vs ns, vals = [Value.ref a] ∧ args = [WData.list (ns.map WData.int)] ∧ h.get? a = some { cls := .type "list", data := .seq vs.toArray } ∧ IntsAre vs ns ∧ ns.length ≤ n := by
  have hsh : WShape.hasAll [] args [.list .int] = true := (pre_splitW hpre).1
  have hc : l.pre.holds [] { args := args } = true := (pre_splitW hpre).2
  obtain ⟨d, r, rfl, h1, h2⟩ := hasAllW_cons hsh
  obtain rfl := hasAllW_nil h2
  obtain ⟨xs, rfl, h3⟩ := hasW_list h1
  obtain ⟨ns, rfl⟩ := items_int h3
  have hlen : ns.length ≤ n := by
    unfold OpenLaw.pre at hc
    have h4 : (WTm.not (.lt (.lit (.int (n : Int))) (.len (.arg 0)))).holds [] { args := [.list (ns.map .int)] } = true := by
      have h4 := (holds_andW hc).1
      rw [hn] at h4
      exact h4
    have h5 := condW_of h4 (w_not (w_lt w_lit (w_len_list (w_arg rfl))))
    rw [List.length_map] at h5
    refine Nat.le_of_not_lt fun q => ?_
    have q' : (n : Int) < ((ns.length : Nat) : Int) := by omega
    first
      | (rw [decide_eq_true q'] at h5; exact absurd h5 (by decide))
      | (simp at h5; omega)
  cases hwl with
  | cons w1 w2 =>
    cases w2
    cases w1 with
    | list ho hall => exact ⟨_, _, ns, rfl, rfl, ho, ints_of_wellAll ns _ hall, hlen⟩

theorem post_true (l : OpenLaw) (args : List WData) : l.row.toRowW.claim.post args (.bool true) args = true :=
  postW_of (r := l.row.toRowW) (X := (true == true))
    (show WShape.has [] (.bool true) .bool = true by first | rfl | decide | simp [WShape.has, WShape.arms, WShape.armsAll])
    (show (WTm.eq .res (.lit (.bool true))).value [] { args := args, res := some (.bool true), after := args } = some (.bool (true == true)) from w_eq_bool (w_res rfl) w_lit) rfl

/-! ### the attachment: holds_open's last premise (the goal 'hc' behind k_head) from a wpAny of the law's body -/
theorem attach {l : OpenLaw} {n : Nat} {q : Program} {loose : List Str} {XP : (Str → Option Value) → Heap → Prop} {YP : World → Heap → Prop} {d : DefRec} {x : Str}
    (hn : l.most = some n) (hdf : d.params.defaults = [])
    (hbind : ∀ pm cd doc v : Value, bindArgs (docDef d.name d.params d.body d.scope pm cd doc) ⟨[v], []⟩ = pure [(x, v)])
    (hx : d.scope.names.lookup x = some .local ∨ d.scope.names.lookup x = some .cell)
    (hk : d.scope.kind = .function) (hco : d.scope.isCoroutine = false) (hgen : d.scope.isGenerator = false)
    (body : ∀ (w : World) (s₀ s₁ s : Shared) (mg mb : Str → Option Value) (fa : Addr) (o : Obj) (pm cd doc : Value) (a : Addr) (vs : List Value) (ns : List Int),
      Ground q loose [] XP w s₀ mg mb s₁.heap → YP w s₁.heap →
      s₁.heap.get? fa = some o → o.data = .func (docDef d.name d.params d.body d.scope pm cd doc) → s₁.heap.CodeRec cd d.name → mg d.name = some (.ref fa) →
      s₁.heap.get? a = some { cls := .type "list", data := .seq vs.toArray } → IntsAre vs ns → ns.length ≤ n →
      s.gens = #[] → s.os = s₁.os →
      Fr s₁.heap s₁.heap.objs.size s.heap (bindL (envOfC d.name d.scope s₁.heap.objs.size fa cd).kindOf [(x, .ref a)] fun _ => none) →
      Cl s₁.heap.objs.size (cellsFrom (s₁.heap.objs.size + 1) d.scope.names []) s.heap (bindC (envOfC d.name d.scope s₁.heap.objs.size fa cd).kindOf [(x, .ref a)] fun _ => none) →
      wpAny (model l.prog w) (callerA.deeper (envOfC d.name d.scope s₁.heap.objs.size fa cd)) (execs d.body (envOfC d.name d.scope s₁.heap.objs.size fa cd))
        (fun f s' => f = .ret (.bool true) ∧ OldK s₁.heap s'.heap ∧ s'.os = s₁.os ∧ AllBare s'.gens) (fun _ _ => False) s) :
    WalkO q loose XP YP l.row.toRowW d [] (fun f vs => PySem.call f vs) := by
  intro w s₀ s₁ mg mb G Y fa o pm cd doc dV kV ho hd hcd hD hmg hg args vals as hpre hlay hrd hwl hlo
  obtain rfl : dV = .none := Dflts.none hD hdf
  obtain rfl : kV = .none := Dflts.noKw hD
  obtain ⟨a, vs, ns, rfl, rfl, hobj, hints, hlen⟩ := script_of hn hpre hwl
  refine enter_call ?_
  refine call_cells_ret (o := o) (by rw [depth_caller]; decide) ho (fd_plain hd) G.T.nolimit hcd (hbind pm cd doc (.ref a)) (fun y hy => ?_) (fun h₁ tk F X => ?_) hco hgen hk
  · obtain rfl : y = (x, Value.ref a) := List.mem_singleton.mp hy
    rcases hx with e | e
    · exact .inl e
    · exact .inr ⟨e, cellsFrom_some _ _ _ (.inl e)⟩
  · refine wpAny_mono (body w s₀ s₁ { s₁ with heap := h₁, toks := tk } mg mb fa o pm cd doc a vs ns G Y ho (fd_plain hd) hcd hmg hobj hints hlen hg rfl F X) (fun f s' hq => ?_) (fun _ _ hq => hq)
    obtain ⟨rfl, h2, h3, h4⟩ := hq
    exact ⟨.inl ⟨.bool true, .bool true, [], rfl, fun _ => rfl, .bool true, post_true l _, fun _ => ⟨List.Pairwise.nil, fun _ hm => (nomatch hm)⟩⟩, h2, h3, h4⟩

/-- the same from a codeAny of the CALL (for a layer whose function contracts speak of calls) -/
theorem attach_call {l : OpenLaw} {n : Nat} {q : Program} {loose : List Str} {XP : (Str → Option Value) → Heap → Prop} {YP : World → Heap → Prop} {d : DefRec}
    (hn : l.most = some n) (hdf : d.params.defaults = [])
    (call : ∀ (w : World) (s₀ s₁ : Shared) (mg mb : Str → Option Value) (fa : Addr) (o : Obj) (pm cd doc : Value) (a : Addr) (vs : List Value) (ns : List Int),
      Ground q loose [] XP w s₀ mg mb s₁.heap → YP w s₁.heap →
      s₁.heap.get? fa = some o → o.data = .func (docDef d.name d.params d.body d.scope pm cd doc) → s₁.heap.CodeRec cd d.name → mg d.name = some (.ref fa) →
      s₁.heap.get? a = some { cls := .type "list", data := .seq vs.toArray } → IntsAre vs ns → ns.length ≤ n → s₁.gens = #[] →
      codeAny (model l.prog w) callerA (.call (.ref fa) ⟨[.ref a], []⟩) (fun r s' => r = .ok (.ret (.bool true)) ∧ OldK s₁.heap s'.heap ∧ s'.os = s₁.os ∧ AllBare s'.gens) s₁) :
    WalkO q loose XP YP l.row.toRowW d [] (fun f vs => PySem.call f vs) := by
  intro w s₀ s₁ mg mb G Y fa o pm cd doc dV kV ho hd hcd hD hmg hg args vals as hpre hlay hrd hwl hlo
  obtain rfl : dV = .none := Dflts.none hD hdf
  obtain rfl : kV = .none := Dflts.noKw hD
  obtain ⟨a, vs, ns, rfl, rfl, hobj, hints, hlen⟩ := script_of hn hpre hwl
  refine enter_call (codeAny_mono (call w s₀ s₁ mg mb fa o pm cd doc a vs ns G Y ho (fd_plain hd) hcd hmg hobj hints hlen hg) fun r s' hq => ?_)
  obtain ⟨rfl, h2, h3, h4⟩ := hq
  exact ⟨.inl ⟨.bool true, .bool true, [], rfl, fun _ => rfl, .bool true, post_true l _, fun _ => ⟨List.Pairwise.nil, fun _ hm => (nomatch hm)⟩⟩, h2, h3, h4⟩

/-- the same where the top left finished generators (o_head chose holds_openN): nothing may have changed at all and no generator may be left -/
theorem attachN {l : OpenLaw} {n : Nat} {q : Program} {loose : List Str} {XP : (Str → Option Value) → Heap → Prop} {YP : World → Heap → Prop} {d : DefRec} {x : Str}
    (hn : l.most = some n) (hdf : d.params.defaults = [])
    (hbind : ∀ pm cd doc v : Value, bindArgs (docDef d.name d.params d.body d.scope pm cd doc) ⟨[v], []⟩ = pure [(x, v)])
    (hx : d.scope.names.lookup x = some .local ∨ d.scope.names.lookup x = some .cell)
    (hk : d.scope.kind = .function) (hco : d.scope.isCoroutine = false) (hgen : d.scope.isGenerator = false)
    (body : ∀ (w : World) (s₀ s₁ s : Shared) (mg mb : Str → Option Value) (fa : Addr) (o : Obj) (pm cd doc : Value) (a : Addr) (vs : List Value) (ns : List Int),
      Ground q loose [] XP w s₀ mg mb s₁.heap → YP w s₁.heap →
      s₁.heap.get? fa = some o → o.data = .func (docDef d.name d.params d.body d.scope pm cd doc) → s₁.heap.CodeRec cd d.name → mg d.name = some (.ref fa) →
      s₁.heap.get? a = some { cls := .type "list", data := .seq vs.toArray } → IntsAre vs ns → ns.length ≤ n →
      s.gens = #[] → s.os = s₁.os →
      Fr s₁.heap s₁.heap.objs.size s.heap (bindL (envOfC d.name d.scope s₁.heap.objs.size fa cd).kindOf [(x, .ref a)] fun _ => none) →
      Cl s₁.heap.objs.size (cellsFrom (s₁.heap.objs.size + 1) d.scope.names []) s.heap (bindC (envOfC d.name d.scope s₁.heap.objs.size fa cd).kindOf [(x, .ref a)] fun _ => none) →
      wpAny (model l.prog w) (callerA.deeper (envOfC d.name d.scope s₁.heap.objs.size fa cd)) (execs d.body (envOfC d.name d.scope s₁.heap.objs.size fa cd))
        (fun f s' => f = .ret (.bool true) ∧ (∀ b o, s₁.heap.get? b = some o → s'.heap.get? b = some o) ∧ s'.os = s₁.os ∧ s'.gens = #[]) (fun _ _ => False) s) :
    WalkN q loose XP YP l.row.toRowW d [] (fun f vs => PySem.call f vs) := by
  intro w s₀ s₁ mg mb G Y fa o pm cd doc dV kV ho hd hcd hD hmg hg args vals as hpre hlay hrd hwl hlo
  obtain rfl : dV = .none := Dflts.none hD hdf
  obtain rfl : kV = .none := Dflts.noKw hD
  obtain ⟨a, vs, ns, rfl, rfl, hobj, hints, hlen⟩ := script_of hn hpre hwl
  refine enter_callW ?_
  refine call_cells_ret (o := o) (by rw [depth_caller]; decide) ho (fd_plain hd) G.T.nolimit hcd (hbind pm cd doc (.ref a)) (fun y hy => ?_) (fun h₁ tk F X => ?_) hco hgen hk
  · obtain rfl : y = (x, Value.ref a) := List.mem_singleton.mp hy
    rcases hx with e | e
    · exact .inl e
    · exact .inr ⟨e, cellsFrom_some _ _ _ (.inl e)⟩
  · refine wpAny_mono (body w s₀ s₁ { s₁ with heap := h₁, toks := tk } mg mb fa o pm cd doc a vs ns G Y ho (fd_plain hd) hcd hmg hobj hints hlen hg rfl F X) (fun f s' hq => ?_) (fun _ _ hq => hq)
    obtain ⟨rfl, h2, h3, h4⟩ := hq
    exact ⟨.inl ⟨.bool true, .bool true, [], rfl, fun _ => rfl, .bool true, post_true l _, fun _ => ⟨List.Pairwise.nil, fun _ hm => (nomatch hm)⟩⟩, h2, h3, h4⟩

/-! ### rules over ANY heap (no ledger) from facts about the written part K: the library's own take a ledger (News) for what they write -/
section
variable {prog : Program} {w : World} {A : Around} {E : Value → Shared → Prop} {s : Shared} {K : Frag}

/-- a def of the module, or a method (qual 'C.m'), entered: the frame is the next address; cells behind it -/
theorem call_fn {R : Result → Shared → Prop} {name qual : Str} {params : Arguments} {body : List Stmt} {scope : Scope} {dV kV doc pm cdv ct oc : Value} {an od : Option Addr} {osl : Array (Option Value)} {f : Addr} {args : Args} {binds : List (Str × Value)}
    (X : K.In s.heap) (hlim : s.heap.NoLimit) (ho : K.lookup f = some ⟨oc, od, .func (fnOf name qual params body scope dV kV doc pm an cdv ct), osl⟩) (hcd : codeIn K cdv qual = true) (hroom : A.depth < recursionLimit)
    (hbind : BindsTo s (fnOf name qual params body scope dV kV doc pm an cdv ct) args binds)
    (hkind : (binds.all fun y => scope.names.lookup y.1 == some .local || scope.names.lookup y.1 == some .cell) = true)
    (h : ∀ s₁, InCallC s s.heap.objs.size (bindL (envOfC qual scope s.heap.objs.size f cdv).kindOf binds fun _ => none) (cellsFrom (s.heap.objs.size + 1) scope.names [])
        (bindC (envOfC qual scope s.heap.objs.size f cdv).kindOf binds fun _ => none) s₁ →
      wpAny (model prog w) (A.deeper (envOfC qual scope s.heap.objs.size f cdv)) (execs body (envOfC qual scope s.heap.objs.size f cdv))
        (fun fl s' => R (.ok (.ret (match fl with | .ret v => v | _ => .none))) s')
        (fun e s' => wpAny (model prog w) (A.deeper (envOfC qual scope s.heap.objs.size f cdv)) (leaving (envOfC qual scope s.heap.objs.size f cdv) e) (fun _ s'' => R (.error e) s'') (fun e' s'' => R (.error e') s'') s') s₁)
    (hco : scope.isCoroutine = false) (hgen : scope.isGenerator = false) (hk : scope.kind = .function) : codeAny (model prog w) A (.call (.ref f) args) R s := by
  refine codeAny_call_function hroom (X _ _ ho) rfl hco hgen rfl (codeRec_of X hcd) (hbind _ _ _ _ ?_)
  refine wpAny_newFunctionEnv_cells hk (kindsX hkind _) fun env he s₁ x => ?_
  subst he
  exact ⟨hlim.keeps x.toInCall.keep, codeAny_func (h s₁ x)⟩

/-- C(..): dict at size, instance at size + 1, then __init__ -/
theorem make_obj {R : Result → Shared → Prop} {C fI : Addr} {rest : List Value} {kw : List (Str × Value)}
    (X : K.In s.heap) (hm : makesIn K C = true) (hi : findIn K (.ref C) "__init__" = some (some (.ref fI))) (hf : isFn K (.ref fI) = true)
    (h : codeAny (model prog w) (A.under (.builtin "type.__call__" ⟨.ref C :: rest, kw⟩)) (.call (.ref fI) ⟨.ref (s.heap.objs.size + 1) :: rest, kw⟩) (InitBack (s.heap.objs.size + 1) R)
      { s with heap := (s.heap.push emptyDict).push (instObj C s.heap.objs.size) }) : codeAny (model prog w) A (.call (.ref C) ⟨rest, kw⟩) R s := by
  obtain ⟨hh, g, d, t, os⟩ := s
  exact make_core (makes_of X hm) (looks_findIn X hi) (fun self => bind_fn X self (beq_iff_eq.mp hf)) (.inl rfl) h

/-- x.name where the instance's dict holds the name and the class does not -/
theorem get_field {x C : Addr} {ox : Obj} {es : List DictEntry} {n : Nat} {name : Str} {expr : Bool} {v : Value} {Q : Value → Shared → Prop}
    (X : K.In s.heap) (I : PySem.W.InstAt s.heap x ox C (some (dictOf es n))) (hg : plainGet K C name = true) (hh : hasDictIn K C = true) (ha : findIn K (.ref C) name = some none)
    (hl : getL name es = some (some v)) (hv : handedIn v = true) (h : Q v { s with toks := s.toks + 1 }) : wpAny (model prog w) A (getAttr (.ref x) name expr) Q E s :=
  get_value X I (plainGet_of hg).1 (findObj_own hh ha rfl hl) hv h

/-- x.m(..): the method found in the class -/
theorem get_method {x C f : Addr} {ox : Obj} {es : List DictEntry} {n : Nat} {name : Str} {pl : Sem Bool} {Q : Value × List Value → Shared → Prop}
    (X : K.In s.heap) (I : PySem.W.InstAt s.heap x ox C (some (dictOf es n))) (hg : plainGet K C name = true) (hf : findIn K (.ref C) name = some (some (.ref f))) (ht : isFn K (.ref f) = true)
    (hl : getL name es = some none) (h : Q (.ref f, [.ref x]) s) : wpAny (model prog w) A (getMethod (.ref x) name pl) Q E s :=
  method_fn X I (plainGet_of hg).1 (plainGet_of hg).2 hf (beq_iff_eq.mp ht) (by show (lookIn name (dictOf es n)).map _ = _; rw [lookIn_dict, hl]; rfl) h

/-! the whole heap as the ledger: makes every rule that writes through a ledger a rule over any heap -/
def noObjs (h : Heap) : Heap := { h with objs := #[] }
theorem noObjs_get (h : Heap) (b : Addr) : (noObjs h).get? b = none := by
  cases e : (noObjs h).get? b with
  | none => rfl
  | some o => exact absurd (Heap.lt_size e) (Nat.not_lt_zero _)
def ledger (h : Heap) (L d : Addr) : List (Addr × Obj) := (List.range h.objs.size).filterMap fun a => if a = L ∨ a = d then none else (h.get? a).map fun o => (a, o)
theorem mem_ledger {h : Heap} {L d a : Addr} {o : Obj} : (a, o) ∈ ledger h L d ↔ a ≠ L ∧ a ≠ d ∧ h.get? a = some o := by
  unfold ledger
  rw [List.mem_filterMap]
  constructor
  · rintro ⟨b, _, e⟩
    split at e
    · cases e
    · rename_i hb
      obtain ⟨o', ho, e'⟩ := Option.map_eq_some_iff.mp e
      cases e'
      exact ⟨fun q => hb (.inl q), fun q => hb (.inr q), ho⟩
  · rintro ⟨n1, n2, ho⟩
    refine ⟨a, List.mem_range.mpr (Heap.lt_size ho), ?_⟩
    rw [if_neg (show ¬ (a = L ∨ a = d) from fun q => q.elim n1 n2), ho] <;> rfl
theorem news_ledger {h : Heap} {L d : Addr} {od : Obj} (hne : d ≠ L) (ho : h.get? d = some od) : News (noObjs h) L h ([] ++ (d, od) :: ledger h L d) := by
  rintro ⟨a, o⟩ hp
  rcases List.mem_cons.mp hp with e | hp
  · cases e
    exact ⟨ho, hne, noObjs_get _ _⟩
  · obtain ⟨n1, n2, e⟩ := mem_ledger.mp hp
    exact ⟨e, n1, noObjs_get _ _⟩
theorem fr_all {h : Heap} {L : Addr} {m : Str → Option Value} (n : h.Ns L m) : Fr (noObjs h) L h m :=
  ⟨n, fun b o e => (by rw [noObjs_get] at e; cases e), Nat.zero_le _⟩
/-- Upd of the head entry (for append_K, setItem_K ..) -/
theorem upd_ledger {h : Heap} {L d : Addr} {o o' : Obj} : Upd d o o' ((d, o) :: ledger h L d) ((d, o') :: ledger h L d) :=
  .head fun ⟨_, _⟩ hp => (mem_ledger.mp hp).2.1

/-- x.name = v over any heap: L is any namespace of the heap (the frame's, say): its map stays, its object is not told; all else but the dict stays -/
theorem set_field {x C dx L : Addr} {ox : Obj} {m : Str → Option Value} {es es' : List DictEntry} {n n' : Nat} {name : Str} {v : Value} {Q : Unit → Shared → Prop}
    (X : K.In s.heap) (I : PySem.W.InstAt s.heap x ox C (some (dictOf es n))) (hd : ox.dict = some dx) (hL : s.heap.Ns L m) (hne : dx ≠ L)
    (hs : findIn K (.ref C) "__setattr__" = some (some (.builtin "object.__setattr__"))) (hp : plainOver K C = true) (ht : takerIn K C name = some none) (hh : hasDictIn K C = true) (hl : (getL name es).isSome = true)
    (e : (putL name (PyData.keyHash w.params name) (.str name (s.toks + 1)) v es, putN name es n) = (es', n')) (hz : es'.length ≤ 1000)
    (h : ∀ h' : Heap, h'.Ns L m → h'.get? dx = some (dictOf es' n') → (∀ b o, b ≠ dx → b ≠ L → s.heap.get? b = some o → h'.get? b = some o) → Q () { s with heap := h', toks := s.toks + 2 }) :
    wpAny (model prog w) A (setAttr (.ref x) name v) Q E s := by
  obtain ⟨e1, e2⟩ := Prod.mk.inj e
  have hdx : s.heap.get? dx = some (dictOf es n) := by
    have := I.dict
    rw [hd] at this
    exact this
  refine set_plain X I hs (osa_dict (s := { s with toks := s.toks + 1 }) (h₀ := noObjs s.heap) (L := L) (m := m) (od := dictOf es n) (od' := dictOf es' n') (es := es') (n := n') (pre := []) (post := ledger s.heap L dx)
    (fr_all hL) (news_ledger hne hdx) X I hd hp ht hh hl (fun _ q => nomatch q) (fun ⟨_, _⟩ q => (mem_ledger.mp q).2.1) (by rw [putName_dict, e1, e2]) rfl hz fun h' F' N' => ?_)
  exact h h' F'.ns (N'.get (List.Mem.head _)) fun b o n1 n2 ho => N'.get (List.Mem.tail _ (mem_ledger.mpr ⟨n2, n1, ho⟩))
end
end Att

namespace L2
open PySem PySem.Spec PyProof.Rows

theorem vals_ints : ∀ {vs : List Value} {ns : List Int}, IntsAre vs ns → Vals (ns.map V.int) vs
  | _, _, .nil => .nil
  | _, _, .cons n t h => .cons ⟨t, rfl⟩ (vals_ints h)

/-- nothing is tracked but the script, known to the object (or it is an object of the module) -/
def Only (H : Hp) : Prop := ∀ b, H b = none ∨ ∃ o xs, H b = some (.frz o (.lst xs))

/-- THE HEAD: the law's promise, at the heap behind the top. F, the promise of the law's def, may use that base is part of the heap (so K.In base, base.Ns mainGlobals mg stand in Mod) -/
theorem law_call {P : Program} {w : World} {K : PySem.W.Frag} {mg mb : Str → Option Value} {CX : CXT} {k : Nat} {fa a : Addr} {fd : FuncData} {x : Str} {sp : Sp} {s₁ : Shared} {vs : List Value} {ns : List Int}
    (KX : K.In s₁.heap) (hns : s₁.heap.Ns mainGlobals mg) (hb : s₁.heap.Ns builtinsNs mb) (hbb : ∀ x : Str, x ≠ "__name__" → mb x = bootBuiltins x) (hlim : s₁.heap.NoLimit) (hg : s₁.gens = #[])
    (ha : s₁.heap.get? a = some { cls := .type "list", data := .seq vs.toArray }) (hi : IntsAre vs ns) (hl : ns.length ≤ sizeLine) (hr : Room k callerA)
    (F : ∀ base : Heap, K.In base → base.Ns mainGlobals mg → FnOk P w K mg base CX k fa fd [x] sp) (hbind : ∀ (s : Shared) (u : Value), BindsTo s fd ⟨[u], []⟩ [(x, u)])
    (hsp : ∀ H : Hp, Only H → SqL K H a (ns.map V.int) → sp [.ref a] H (fun v _ => v = .bl true) fun _ _ _ => False)
    (hCX : ∀ H e s', CX [] H s₁ (fun _ _ _ => False) e s' → False) :
    codeAny (model P w) callerA (.call (.ref fa) ⟨[.ref a], []⟩) (fun r s' => r = .ok (.ret (.bool true)) ∧ OldK s₁.heap s'.heap ∧ s'.os = s₁.os ∧ AllBare s'.gens) s₁ := by
  have rv := vals_ints hi
  have lenV := hi.length
  -- from an abstract heap in which nothing but the script may be tracked
  have core : ∀ H : Hp, Only H → SqL K H a (ns.map V.int) → HOk P w H s₁.heap → (∀ b, H b ≠ none → b = a) → (H a ≠ none → K.lookup a = none) →
      codeAny (model P w) callerA (.call (.ref fa) ⟨[.ref a], []⟩) (fun r s' => r = .ok (.ret (.bool true)) ∧ OldK s₁.heap s'.heap ∧ s'.os = s₁.os ∧ AllBare s'.gens) s₁ := by
    intro H hO hS hok hA hK
    have base_of : ∀ {b : Addr} {o : Obj}, s₁.heap.get? b = some o → H b = none → (hidT s₁.heap H).get? b = some o := fun e n => hidT_get e n
    have noA : ∀ {b : Addr} {o : Obj} {es : Array DictEntry} {ep : Nat}, s₁.heap.get? b = some o → o.data = .dict es ep → H b = none := fun {b o es ep} e d => by
      cases q : H b with
      | none => rfl
      | some u =>
        have e' : b = a := hA b (by rw [q]; simp)
        subst e'
        rw [ha] at e; cases e
        have d' : Data.seq vs.toArray _ = Data.dict es ep := d
        cases d'
    have nsK : ∀ {b : Addr} {m : Str → Option Value}, s₁.heap.Ns b m → (hidT s₁.heap H).Ns b m := fun {b m} ⟨o, es, ep, e, d, r⟩ => ⟨o, es, ep, base_of e (noA e d), d, r⟩
    have hKb : K.In (hidT s₁.heap H) := fun b o e => base_of (KX b o e) (by
      cases q : H b with
      | none => rfl
      | some u =>
        have e' : b = a := hA b (by rw [q]; simp)
        subst e'
        rw [hK (by rw [q]; simp)] at e; cases e)
    have hM : Mod K mg (hidT s₁.heap H) := ⟨hKb, nsK hns, ⟨mb, nsK hb, hbb⟩, let ⟨mc, h1, h2⟩ := hlim; ⟨mc, nsK h1, h2⟩⟩
    have e0 : Env0 P w K mg (hidT s₁.heap H) callerA [] s₁ H := ⟨rfl, hM, fun b o e => of_hidT e, Nat.le_of_eq (hidT_size _ _), trivial, fun b hb => absurd (show b ∈ ([] : List Addr) from hb) (by simp), hok, .of_eq hg⟩
    refine codeAny_mono ((F _ hKb (nsK hns)).run callerA [] s₁ H ⟨[.ref a], []⟩ [.ref a] [.ref a] _ _ hr e0 (hbind s₁ (.ref a)) (.cons rfl .nil) (hsp H hO hS)) fun r s' h => ?_
    cases r with
    | error e => exact (hCX H e s' h).elim
    | ok fl =>
      cases fl with
      | next => exact False.elim h
      | brk => exact False.elim h
      | cont => exact False.elim h
      | ret u =>
        obtain ⟨v, H', os, bare, un, hok', r', q⟩ := h
        have q' : v = .bl true := q
        subst q'
        obtain rfl : u = Value.bool true := r'
        refine ⟨rfl, OldK.of_keep fun b o e => ?_, os, bare⟩
        cases q : H b with
        | none => exact un.keep b o e q (by intro z; exact absurd (show b ∈ ([] : List Addr) from z) (by simp)) (by simp)
        | some u =>
          rcases hO b with z | ⟨ob, xs, z⟩
          · rw [q] at z; cases z
          · have z2 := un.frzs b ob _ z
            obtain ⟨e1, _⟩ := hok b _ z
            obtain ⟨e2, _⟩ := hok' b _ z2
            rw [e] at e1; cases e1
            exact e2
  cases hk : K.lookup a with
  | some o =>
    -- the script is one of the module's own objects
    have e := KX a o hk
    rw [ha] at e
    cases e
    refine core (fun _ => none) (fun _ => .inl rfl) (.inr ⟨_, vs.toArray, _, hk, rfl, rfl, rfl, by rw [List.size_toArray, lenV]; exact hl, by simpa using rv⟩) (fun b u z => by have z' : (none : Option HO) = some u := z; cases z') (fun b z => absurd rfl z) fun z => absurd rfl z
  | none =>
    refine core (fun b => if b = a then some (.frz { cls := .type "list", data := .seq vs.toArray } (.lst (ns.map V.int))) else none) (fun b => ?_) (.inl (.inr ⟨{ cls := .type "list", data := .seq vs.toArray }, if_pos rfl⟩)) (fun b u z => ?_) (fun b z => ?_) fun _ => hk
    · by_cases hb : b = a
      · exact .inr ⟨_, _, if_pos hb⟩
      · exact .inl (if_neg hb)
    · by_cases hb : b = a
      · have z' := (if_pos hb).symm.trans z
        cases z'
        subst hb
        exact ⟨ha, by rw [List.length_map]; exact hl, vs, _, rv, ha⟩
      · have z' := (if_neg hb).symm.trans z
        cases z'
    · by_cases hb : b = a
      · exact hb
      · exact absurd (if_neg hb) z
end L2

namespace L2
open PySem PySem.Spec PyProof.Rows

abbrev KOf {K : PySem.W.Frag} {h : Heap} (_ : K.In h) : PySem.W.Frag := K

/-- the goal that k_head leaves (case hc), from the law's promise. F gives the function object fd (K's own) once, then the promise over every base -/
theorem walk_of {l : PySem.W.OpenLaw} {n k : Nat} {q : Program} {loose : List Str} {XP : (Str → Option Value) → Heap → Prop} {YP : World → Heap → Prop} {d : DefRec} {K : Params → PySem.W.Frag} {CX : World → CXT} {sp : World → Sp} {x : Str}
    (hn : l.most = some n) (hn2 : n ≤ sizeLine) (hdf : d.params.defaults = []) (hr : Room k callerA)
    (hY : ∀ (w : World) (h : Heap), YP w h → (K w.params).In h)
    (F : ∀ (w : World) (mg : Str → Option Value) (fa : Addr) (h : Heap), (K w.params).In h → h.Ns mainGlobals mg → mg d.name = some (.ref fa) →
      ∃ fd : FuncData, (∀ (s : Shared) (u : Value), BindsTo s fd ⟨[u], []⟩ [(x, u)]) ∧
        ∀ base : Heap, (K w.params).In base → base.Ns mainGlobals mg → FnOk l.prog w (K w.params) mg base (CX w) k fa fd [x] (sp w))
    (hsp : ∀ (w : World) (H : Hp) (a : Addr) (ns : List Int), ns.length ≤ n → Only H → SqL (K w.params) H a (ns.map V.int) → sp w [.ref a] H (fun v _ => v = .bl true) fun _ _ _ => False)
    (hCX : ∀ (w : World) (H : Hp) (s : Shared) (e : Value) (s' : Shared), CX w [] H s (fun _ _ _ => False) e s' → False) :
    PySem.W.WalkO q loose XP YP l.row.toRowW d [] (fun f vs => PySem.call f vs) := by
  refine Att.attach_call hn hdf fun w s₀ s₁ mg mb fa o pm cd doc a vs ns G Y ho hd hcd hmg hobj hints hlen hg => ?_
  have KX := hY w _ Y
  obtain ⟨fd, hb, hF⟩ := F w mg fa _ KX G.T.g hmg
  exact law_call KX G.T.g G.T.b G.T.builtins G.T.nolimit hg hobj hints (Nat.le_trans hlen hn2) hr hF hb (fun H hO hS => hsp w H a ns hlen hO hS) fun H e s' => hCX w H s₁ e s'
/-- the same where the promise hangs on the written part alone: (sp := My.sp_law), no hole under a binder -/
theorem walk_ofK {l : PySem.W.OpenLaw} {n k : Nat} {q : Program} {loose : List Str} {XP : (Str → Option Value) → Heap → Prop} {YP : World → Heap → Prop} {d : DefRec} {K : Params → PySem.W.Frag} {CX : CXT} {sp : PySem.W.Frag → Sp} {x : Str}
    (hn : l.most = some n) (hn2 : n ≤ sizeLine) (hdf : d.params.defaults = []) (hr : Room k callerA)
    (hY : ∀ (w : World) (h : Heap), YP w h → (K w.params).In h)
    (F : ∀ (w : World) (mg : Str → Option Value) (fa : Addr) (h : Heap), (K w.params).In h → h.Ns mainGlobals mg → mg d.name = some (.ref fa) →
      ∃ fd : FuncData, (∀ (s : Shared) (u : Value), BindsTo s fd ⟨[u], []⟩ [(x, u)]) ∧
        ∀ base : Heap, (K w.params).In base → base.Ns mainGlobals mg → FnOk l.prog w (K w.params) mg base CX k fa fd [x] (sp (K w.params)))
    (hsp : ∀ (K : PySem.W.Frag) (H : Hp) (a : Addr) (ns : List Int), ns.length ≤ n → Only H → SqL K H a (ns.map V.int) → sp K [.ref a] H (fun v _ => v = .bl true) fun _ _ _ => False)
    (hCX : ∀ (H : Hp) (s : Shared) (e : Value) (s' : Shared), CX [] H s (fun _ _ _ => False) e s' → False) :
    PySem.W.WalkO q loose XP YP l.row.toRowW d [] (fun f vs => PySem.call f vs) :=
  walk_of (K := K) (CX := fun _ => CX) (sp := fun w => sp (K w.params)) hn hn2 hdf hr hY F (fun w H a ns h1 h2 h3 => hsp (K w.params) H a ns h1 h2 h3) fun _ H s e s' => hCX H s e s'
end L2

/- THE LAST THEOREM (shape; LID, My.* are yours):
   My.Adr: a structure of the addresses that your layer names (classes, functions); My.Txt K t: a structure (Prop) of the equations over K;
   My.txt_mk : {K} {implicit addresses ..} (e1 : nsIn K mainGlobals "law" = some (some (.ref f))) (e2 : K.lookup f = some ⟨oc, od, .func (fnOf "law" "law" params body scope dV kV doc pm an cdv ct), sl⟩) (e3 : codeIn K cdv "law" = true) .. : ∃ t, My.Txt K t

set_option maxRecDepth 100000 in
set_option maxHeartbeats 0 in
theorem PySem.Challenge.cw_LID_holds : PySem.Challenge.rw_LID.Holds := by
  w_on; o_law; k_head; (case hw => w_witness2)
  k_fill
  refine L2.walk_of (l := PySem.Challenge.rw_LID) (n := 63) (k := 40) (x := "script") (CX := fun w => ..) (sp := fun _ => My.sp_law) rfl (by decide) rfl ⟨rfl, by decide, by decide⟩ (fun w h Y => PySem.W.kIn_of Y) ?F ?S ?C
  case F =>
    intro w mg fa h KX G hmg
    have T : ∃ t, My.Txt (L2.KOf KX) t := by
      dsimp only [L2.KOf]                          -- K must stand as «<heap const> w.params» for k_is
      refine' My.txt_mk ?e1 ?e2 ?e3 ..
      (case e1 => PySem.W.k_is)                    -- in the order: a name -> its address -> its object -> its parts
      (case e2 => PySem.W.k_is)
      ..
    obtain ⟨t, T⟩ := T
    have e0 := hmg.symm.trans (PySem.W.mg_of KX G T.law)
    cases e0                                       -- fa is the law's own address
    exact ⟨_, fun s u => .of_eq rfl, fun base kb nb => My.law_fn T kb nb⟩     -- if «.of_eq rfl» comes too early: refine' ⟨_, ?b, fun base kb nb => My.law_fn T kb nb⟩; exact fun s u => .of_eq rfl
  case S => exact fun w H a ns hl hO hS => ..
  case C => exact ..
(the tactic k_is has no namespace: write k_is) -/

/-! SHORT WORDS over the layer: a def of the text, its body, what a loop and a test want. -/
namespace L2
open PySem PySem.Spec PyProof.Rows

/-! ### the text by places -/
/-- the j-th statement of a class's body -/
def inClass (s : Stmt) (j : Nat) : Stmt := match s with
  | .ClassDef _ _ _ body _ _ _ _ _ _ _ => body.getD j (.Pass ⟨0, 0, 0, 0⟩)
  | _ => .Pass ⟨0, 0, 0, 0⟩
def defArgs (s : Stmt) : Arguments := match s with
  | .FunctionDef _ a _ _ _ _ _ _ _ _ => a
  | _ => { posonlyargs := [], args := [], vararg := none, kwonlyargs := [], kw_defaults := [], kwarg := none, defaults := [] }
def defBody (s : Stmt) : List Stmt := match s with
  | .FunctionDef _ _ b _ _ _ _ _ _ _ => b
  | _ => []
def defScope (s : Stmt) : Scope := match s with
  | .FunctionDef _ _ _ _ _ _ sc _ _ _ => sc
  | _ => { kind := .function, names := [], isGenerator := false, isCoroutine := false }

/-! ### no exception leaves a def -/
abbrev CX0 : CXT := fun _ _ _ _ _ _ => False
abbrev E0 : XK := fun _ _ _ => False
theorem pass0 {X : Cx} : Passes CX0 X E0 := fun _ _ _ _ _ _ _ h => h.elim

/-! ### a def (or method) of the text as it stands behind the top -/
structure Fun (K : PySem.W.Frag) (x qual : Str) (st : Stmt) (f : Addr) (fd : FuncData) : Prop where
  ex : ∃ (oc : Value) (od : Option Addr) (kV doc pm : Value) (an : Option Addr) (cdv ct : Value) (osl : Array (Option Value)),
    fd = PySem.W.fnOf x qual (defArgs st) (defBody st) (defScope st) .none kV doc pm an cdv ct ∧ K.lookup f = some ⟨oc, od, .func fd, osl⟩ ∧ PySem.W.codeIn K cdv qual = true
  kp : PySem.W.keepIn K (.ref f) = true
section
variable {P : Program} {w : World} {K : PySem.W.Frag} {mg : Str → Option Value} {base : Heap}
/-- THE RULE for a def: its body as a term of rules, and the reading of that term -/
theorem Fun.ok {x qual : Str} {st : Stmt} {f : Addr} {fd : FuncData} {N ps : List Str} {k : Nat} {sp : Sp} (F : Fun K x qual st f fd) (S : FnScope N ps (defScope st)) (len : ∀ vs H Q E, sp vs H Q E → vs.length = ps.length)
    (hbody : ∀ (cdv : Value) (A : Around) (outer : List Env) (s : Shared) (H : Hp) (vs : List V) (Q : VK) (E : XK), Room k (A.deeper (envOfC qual (defScope st) s.heap.objs.size f cdv)) → sp vs H Q E →
      ∃ t, PSs (cxOf CX0 P w K mg base N qual (defScope st) f cdv A outer s H E).nox (defBody st) t ∧ t { nx := fun _ H' => Q .non H', rt := Q } (start N vs) H) : FnOk P w K mg base CX0 (k + 1) f fd ps sp := by
  obtain ⟨oc, od, kV, doc, pm, an, cdv, ct, osl, rfl, lk, hcd⟩ := F.ex
  refine fn_of lk hcd S len fun A outer s H vs Q E hr hsp => ?_
  obtain ⟨t, h, q⟩ := hbody cdv A outer s H vs Q E hr hsp
  exact ⟨t, h.nox, q⟩
/-- how its arguments bind (no defaults): h is «fun _ _ _ _ _ _ us hl => match us, hl with | [_, _], _ => rfl», one _ a parameter -/
theorem Fun.binds {x qual : Str} {st : Stmt} {f : Addr} {fd : FuncData} {ps : List Str} (F : Fun K x qual st f fd)
    (h : ∀ (kV doc pm : Value) (an : Option Addr) (cdv ct : Value) (us : List Value), us.length = ps.length → bindArgs (PySem.W.fnOf x qual (defArgs st) (defBody st) (defScope st) .none kV doc pm an cdv ct) ⟨us, []⟩ = pure (ps.zip us)) : Binds K fd ps [] := by
  obtain ⟨oc, od, kV, doc, pm, an, cdv, ct, osl, rfl, lk, hcd⟩ := F.ex
  exact .all (h kV doc pm an cdv ct)
theorem fun_mk {x qual : Str} {st : Stmt} {f : Addr} {oc : Value} {od an : Option Addr} {osl : Array (Option Value)} {kV doc pm cdv ct : Value} (l : K.lookup f = some ⟨oc, od, .func (PySem.W.fnOf x qual (defArgs st) (defBody st) (defScope st) .none kV doc pm an cdv ct), osl⟩)
    (c : PySem.W.codeIn K cdv qual = true) (k : PySem.W.keepIn K (.ref f) = true) : Fun K x qual st f (PySem.W.fnOf x qual (defArgs st) (defBody st) (defScope st) .none kV doc pm an cdv ct) := ⟨⟨oc, od, kV, doc, pm, an, cdv, ct, osl, rfl, l, c⟩, k⟩
end
theorem hu_of {A : Around} {k : Nat} (hr : Room k A) : A.units + 1 < cLine := Nat.lt_of_le_of_lt (Nat.add_le_add_left (by decide : 1 ≤ 64) _) hr.units
theorem small1000 {n : Nat} (h : n ≤ 1000) : n < sizeLine := Nat.lt_of_le_of_lt h (by decide)

/-! ### expressions in short: the name that stands in the i-th slot -/
section
variable {X : Cx}
theorem pv (i : Nat) {x : Str} {pos : Pos} (hN : X.N[i]? = some x := by rfl) (hv : Vis X.env.scope x := by first | exact Or.inl rfl | exact Or.inr (Or.inl rfl) | exact Or.inr (Or.inr rfl)) (hd : (x == ("__debug__" : Str)) = false := by decide)
    (hcd : (x == ("__classdict__" : Str)) = false := by decide) : PE X (.Name x pos) (tVar i) := pe_var hN hv hd hcd
end

/-! ### tests -/
theorem iteF {A B : Prop} (h : B) : if false = true then A else B := by
  rw [if_neg Bool.false_ne_true]
  exact h
theorem iteT {A B : Prop} (h : A) : if true = true then A else B := by
  rw [if_pos rfl]
  exact h
theorem ite2 {c A B : Prop} [Decidable c] (h1 : c → A) (h2 : ¬ c → B) : if c then A else B := by
  by_cases h : c
  · rw [if_pos h]
    exact h1 h
  · rw [if_neg h]
    exact h2 h
theorem iteNS {c A B : Prop} [Decidable c] (hc : c) (h : B) : if (!decide c) = true then A else B := by
  rw [decide_eq_true hc]
  exact iteF h

/-! ### heaps -/
/-- all that was tracked is as it was -/
def Same (H H' : Hp) : Prop := ∀ b o, H b = some o → H' b = some o
theorem Same.refl (H : Hp) : Same H H := fun _ _ h => h
theorem Same.trans {H H1 H2 : Hp} (a : Same H H1) (b : Same H1 H2) : Same H H2 := fun c o h => b c o (a c o h)
theorem Same.free {H H' : Hp} (e : Same H H') {l : Addr} (h : H' l = Option.none) : H l = Option.none := by
  cases q : H l with
  | none => rfl
  | some o =>
    rw [e l o q] at h
    cases h
theorem Same.seq {K : PySem.W.Frag} {H H' : Hp} {a : Addr} {xs : List V} (e : Same H H') (h : SqL K H a xs) : SqL K H' a xs := by
  rcases h with (h | ⟨o, h⟩) | h
  · exact .inl (.inl (e _ _ h))
  · exact .inl (.inr ⟨o, e _ _ h⟩)
  · exact .inr h

end L2

set_option Elab.async false
set_option linter.all false
set_option maxRecDepth 100000
/-! A LIST COMPREHENSION of one clause, by the layer's judgements -/
namespace L2
open PySem PySem.Spec PyProof.Rows

/-! ### what a block closes over -/
def clStep (cells : List (Str × Addr)) (acc : List (Str × Addr)) (y : Str × NameKind) : List (Str × Addr) := if y.2 = .free then (y.1, (cells.lookup y.1).getD 0) :: acc else acc
def clOf (cells : List (Str × Addr)) (names : List (Str × NameKind)) : List (Str × Addr) := names.foldl (clStep cells) []
theorem forIn_fold {α β : Type} {f : α → β → Sem (ForInStep β)} {g : β → α → β} : ∀ (l : List α) (c : β), (∀ x ∈ l, ∀ c, f x c = pure (.yield (g c x))) → forIn l c f = (pure (l.foldl g c) : Sem β)
  | [], c, _ => rfl
  | x :: l, c, h => by
    rw [List.forIn_cons, h x List.mem_cons_self, pure_bind]
    exact forIn_fold l (g c x) fun y hy => h y (List.mem_cons_of_mem _ hy)
theorem closure_is {scope : Scope} {env : Env} (h : ∀ y ∈ scope.names, y.2 = .free → ∃ c, env.cells.lookup y.1 = some c) : closureFor scope env = pure (clOf env.cells scope.names) := by
  simp only [closureFor]
  rw [forIn_fold (g := clStep env.cells) scope.names [] (fun x hx c => by
    obtain ⟨n, k⟩ := x
    by_cases hk : k = .free
    · subst hk
      obtain ⟨a, ha⟩ := h _ hx rfl
      have ha' : env.cells.lookup n = some a := ha
      simp only [beq_self_eq_true, if_true, cellOf, ha', clStep, Option.getD_some]
      rfl
    · have hb : (k == NameKind.free) = false := by simpa using hk
      simp only [hb, Bool.false_eq_true, if_false, clStep, hk])]
  rfl
theorem cl_back {cells : List (Str × Addr)} {x : Str} {c : Addr} : ∀ (names : List (Str × NameKind)) (acc : List (Str × Addr)), (names.foldl (clStep cells) acc).lookup x = some c →
    acc.lookup x = some c ∨ (∃ y ∈ names, y.1 = x ∧ y.2 = .free) ∧ c = (cells.lookup x).getD 0
  | [], acc, h => .inl h
  | (n, k) :: r, acc, h => by
    rcases cl_back r _ h with q | ⟨⟨y, hy, e⟩, q⟩
    · unfold clStep at q
      by_cases hk : k = .free
      · rw [if_pos hk] at q
        by_cases hx : x = n
        · subst hx
          simp [List.lookup_cons] at q
          exact .inr ⟨⟨_, List.mem_cons_self, rfl, hk⟩, q.symm⟩
        · have hb : (x == n) = false := by simpa using hx
          simp only [List.lookup_cons, hb] at q
          exact .inl q
      · rw [if_neg hk] at q
        exact .inl q
    · exact .inr ⟨⟨y, List.mem_cons_of_mem _ hy, e⟩, q⟩
theorem cl_there {cells : List (Str × Addr)} {x : Str} : ∀ (names : List (Str × NameKind)) (acc : List (Str × Addr)), ((acc.lookup x).isSome = true ∨ ∃ y ∈ names, y.1 = x ∧ y.2 = .free) → ((names.foldl (clStep cells) acc).lookup x).isSome = true
  | [], acc, h => h.elim id fun ⟨_, hy, _⟩ => nomatch hy
  | (n, k) :: r, acc, h => by
    refine cl_there r _ ?_
    unfold clStep
    rcases h with h | ⟨y, hy, e1, e2⟩
    · refine .inl ?_
      by_cases hk : k = .free
      · rw [if_pos hk]
        cases hb : x == n <;> simp only [List.lookup_cons, hb]
        · exact h
        · rfl
      · rw [if_neg hk]; exact h
    · rcases List.mem_cons.mp hy with e | hy
      · subst e
        have e2' : k = .free := e2
        have e1' : n = x := e1
        refine .inl ?_
        rw [if_pos e2', e1']
        simp [List.lookup_cons]
      · exact .inr ⟨y, hy, e1, e2⟩

/-! ### the block's names: the targets first, then what is taken from around (js: where it stands there) -/
def compOk (sc : Scope) (N : List Str) (scope : Scope) (N' : List Str) (js : List (Option Nat)) : Bool :=
  decide (scope.kind = .function) && scope.names.all (fun y => decide (y.2 ≠ .cell)) && scope.names.all (fun y => decide (y.2 = .local → scope.names.lookup y.1 = some .local)) &&
  scope.names.all (fun y => decide (y.2 = .free → (sc.names.lookup y.1 = some .cell ∨ sc.names.lookup y.1 = some .free))) && decide N'.Nodup && decide (js.length = N'.length) &&
  (List.range js.length).all fun i => match js[i]? with
    | some (some j) => (match N'[i]? with
      | some x => decide (N[j]? = some x) && decide (scope.names.lookup x = some .free)
      | none => false)
    | _ => true
structure CompScope (sc : Scope) (N : List Str) (scope : Scope) (N' : List Str) (js : List (Option Nat)) : Prop where
  kind : scope.kind = .function
  cell : ∀ y ∈ scope.names, y.2 ≠ .cell
  names : ∀ y ∈ scope.names, y.2 = .local → scope.names.lookup y.1 = some .local
  free : ∀ y ∈ scope.names, y.2 = .free → (sc.names.lookup y.1 = some .cell ∨ sc.names.lookup y.1 = some .free)
  nd : N'.Nodup
  len : js.length = N'.length
  cap : ∀ (i j : Nat), js[i]? = some (some j) → ∃ x, N'[i]? = some x ∧ N[j]? = some x ∧ scope.names.lookup x = some .free
theorem compOk.scope {sc : Scope} {N : List Str} {scope : Scope} {N' : List Str} {js : List (Option Nat)} (h : compOk sc N scope N' js = true) : CompScope sc N scope N' js := by
  unfold compOk at h
  simp only [Bool.and_eq_true, decide_eq_true_eq, List.all_eq_true] at h
  obtain ⟨⟨⟨⟨⟨⟨h1, h2⟩, h3⟩, h4⟩, h5⟩, h6⟩, h7⟩ := h
  refine ⟨h1, h2, h3, h4, h5, h6, fun i j e => ?_⟩
  have hi : i < js.length := (List.getElem?_eq_some_iff.mp e).1
  have q := h7 i (List.mem_range.mpr hi)
  rw [e] at q
  cases z : N'[i]? with
  | none => simp [z] at q
  | some x =>
    simp only [z, Bool.and_eq_true, decide_eq_true_eq] at q
    exact ⟨x, rfl, q.1, q.2⟩
def capS (js : List (Option Nat)) (σ : St) : St := js.map fun o => o.bind fun j => (σ[j]?).join

/-- the context of the block -/
def cxComp (X : Cx) (scope : Scope) (N' : List Str) (cl : List (Str × Addr)) (C : Addr) (s : Shared) (H : Hp) (ex : List Addr) : Cx where
  prog := X.prog
  w := X.w
  K := X.K
  mg := X.mg
  base := X.base
  A := X.A
  N := N'
  s₀ := s
  H₀ := H
  env := compEnvC scope cl C X.env
  outer := X.stack
  stack := X.stack
  ex := ex
  fn := fun _ => false
  calm := X.calm
  pn := []
  xe := fun _ _ => False

theorem relabel_look {scope : Scope} {env : Env} {x : Str} {k : NameKind} (h : (relabel scope env).names.lookup x = some k) : ∃ k', scope.names.lookup x = some k' ∧ (k = k' ∨ (k' = .free ∧ k = .cell)) := by
  unfold relabel at h
  dsimp only at h
  generalize scope.names = l at h ⊢
  induction l with
  | nil => simp at h
  | cons y r ih =>
    obtain ⟨n, k0⟩ := y
    rw [List.map_cons] at h
    cases hb : x == n with
    | false =>
      have hk : List.lookup x ((n, k0) :: r) = List.lookup x r := by simp only [List.lookup_cons, hb]
      rw [hk]
      apply ih
      by_cases hc : (k0 == NameKind.free && env.scope.kind == .function && env.kindOf n == some .cell) = true
      · simp only [hc, if_true, List.lookup_cons, hb] at h; exact h
      · simp only [hc, if_false, List.lookup_cons, hb, Bool.false_eq_true] at h; exact h
    | true =>
      refine ⟨k0, by simp only [List.lookup_cons, hb], ?_⟩
      by_cases hc : (k0 == NameKind.free && env.scope.kind == .function && env.kindOf n == some .cell) = true
      · simp only [hc, if_true, List.lookup_cons, hb] at h
        have hf : k0 = .free := by
          simp only [Bool.and_eq_true, beq_iff_eq] at hc
          exact hc.1.1
        exact .inr ⟨hf, (Option.some.inj h).symm⟩
      · simp only [hc, if_false, List.lookup_cons, hb, Bool.false_eq_true] at h
        exact .inl (Option.some.inj h).symm

section
variable {X : Cx} {pins : List (Addr × Obj)} {σ : St} {H : Hp} {s : Shared} {scope : Scope} {N' : List Str} {js : List (Option Nat)} {C : Addr} {fp : List Addr}

theorem lookup_mem {α : Type} {x : Str} {k : α} : ∀ {l : List (Str × α)}, l.lookup x = some k → (x, k) ∈ l
  | [], h => by simp at h
  | (n, k0) :: r, h => by
    cases hb : x == n with
    | true =>
      simp only [List.lookup_cons, hb] at h
      have e : x = n := by simpa using hb
      cases h
      rw [e]
      exact List.mem_cons_self
    | false =>
      simp only [List.lookup_cons, hb] at h
      exact List.mem_cons_of_mem _ (lookup_mem h)

theorem comp_cells (I : Inv X pins σ H s) (S : CompScope X.env.scope X.N scope N' js) : (∀ y ∈ scope.names, y.2 = .free → ∃ c, X.env.cells.lookup y.1 = some c) ∧
    (∀ x c, (clOf X.env.cells scope.names).lookup x = some c → X.env.cells.lookup x = some c) ∧ ∀ x, scope.names.lookup x = some .free → ∃ c, (clOf X.env.cells scope.names).lookup x = some c := by
  have h1 : ∀ y ∈ scope.names, y.2 = .free → ∃ c, X.env.cells.lookup y.1 = some c := fun y hy e => I.ok.has y.1 (S.free y hy e)
  refine ⟨h1, fun x c e => ?_, fun x e => ?_⟩
  · rcases cl_back scope.names [] e with q | ⟨⟨y, hy, e1, e2⟩, q⟩
    · simp at q
    · obtain ⟨c', hc⟩ := h1 y hy e2
      rw [e1] at hc
      rw [hc] at q
      rw [hc, q]
      rfl
  · have q := cl_there (cells := X.env.cells) (x := x) scope.names [] (.inr ⟨_, lookup_mem e, rfl, rfl⟩)
    exact Option.isSome_iff_exists.mp q

theorem comp_ok (I : Inv X pins σ H s) (S : CompScope X.env.scope X.N scope N' js) (hf : ∀ b ∈ fp, FpOk X pins H b) (hfo : ∀ b ∈ fp, ∃ o, s.heap.get? b = some o) (hC : s.heap.objs.size ≤ C) :
    (cxComp X scope N' (clOf X.env.cells scope.names) C s H fp).Ok := by
  obtain ⟨c1, c2, c3⟩ := comp_cells I S
  have ok := I.ok
  refine ⟨ok.mod, S.kind, ok.glob, ok.blt, hC, fun x y c h1 h2 => ok.inj x y c (c2 x c h1) (c2 y c h2), fun x hx => ?_, fun x c h _ => ?_, ok.hd, ok.frames, .inl rfl, fun b hb => ⟨?_, fun x c h => ?_⟩, fun b o e => I.bs b o e,
    Nat.le_trans ok.bsz I.sz, fun b o e hb => ?_, fun b hb z => ?_, I.stack, I.stkFree⟩
  · have hx' : (relabel scope X.env).names.lookup x = some .cell ∨ (relabel scope X.env).names.lookup x = some .free := hx
    refine c3 x ?_
    rcases hx' with q | q
    · obtain ⟨k', e, z | z⟩ := relabel_look q
      · exact absurd z.symm (S.cell _ (lookup_mem e))
      · rw [e, z.1]
    · obtain ⟨k', e, z | z⟩ := relabel_look q
      · rw [e, ← z]
      · rw [e, z.1]
  · cases h
  · obtain ⟨o, e⟩ := hfo b hb
    exact Nat.ne_of_lt (Nat.lt_of_lt_of_le (Heap.lt_size e) hC)
  · exact (hf b hb).2.2.2.2.1 x c (c2 x c h)
  · rcases (hf b hb).2.2.2.1 with z | z
    · exact ok.noex b o e z
    · exact absurd (Nat.lt_of_lt_of_le (Heap.lt_size (ok.bs b o e).1) z) (Nat.lt_irrefl _)
  · rcases List.mem_cons.mp (I.stkSub b z) with q | q
    · exact (hf b hb).2.1 q
    · exact (hf b hb).2.2.1 q

theorem comp_start {h' : Heap} {tk : Nat} {D : Addr} {oD : Obj} (I : Inv X pins σ H s) (S : CompScope X.env.scope X.N scope N' js) (hf : ∀ b ∈ fp, FpOk X pins H b) (hfo : ∀ b ∈ fp, ∃ o, s.heap.get? b = some o) (hC : s.heap.objs.size ≤ C) (hD : s.heap.objs.size ≤ D) (hDC : D ≠ C)
    (old : ∀ b o, s.heap.get? b = some o → h'.get? b = some o) (hns : h'.Ns C fun _ => none) (hoD : h'.get? D = some oD) (hcD : ∀ v, oD.data ≠ .cell v) :
    Inv (cxComp X scope N' (clOf X.env.cells scope.names) C s H fp) [(D, oD)] (capS js σ) H { s with heap := h', toks := tk } := by
  obtain ⟨c1, c2, c3⟩ := comp_cells I S
  refine ⟨comp_ok I S hf hfo hC, rfl, I.bare, Un.kept old, ⟨_, hns, fun i x v e1 e2 e3 => ?_⟩, fun x c e => ?_, I.hok.fresh hC, fun x c e => I.freeC x c (c2 x c e), fun p hp => ?_, I.hok.kept old, ?_⟩
  · have e2' : (capS js σ)[i]? = some (some v) := e2
    unfold capS at e2'
    rw [List.getElem?_map] at e2'
    cases q : js[i]? with
    | none => rw [q] at e2'; cases e2'
    | some o =>
      rw [q] at e2'
      cases o with
      | none => cases e2'
      | some j =>
        obtain ⟨x', a1, a2, a3⟩ := S.cap i j q
        have a0 : N'[i]? = some x := e1
        rw [a0] at a1
        cases a1
        have e4 : σ[j]? = some (some v) := by
          have z := Option.some.inj e2'
          simp only [Option.bind] at z
          cases r : σ[j]? with
          | none => rw [r] at z; cases z
          | some o => rw [r] at z; simpa using z
        obtain ⟨m, hn, hl⟩ := I.loc
        have hk := S.free _ (lookup_mem a3) rfl
        obtain ⟨u, ru, lk⟩ := hl j x v a2 e4 (by rcases hk with z | z; exact .inr (.inl z); exact .inr (.inr z))
        refine ⟨u, ru, .inr ⟨?_, ?_⟩⟩
        · have e3' : (relabel scope X.env).names.lookup x = some .local ∨ (relabel scope X.env).names.lookup x = some .cell ∨ (relabel scope X.env).names.lookup x = some .free := e3
          rcases e3' with z | z | z
          · obtain ⟨k', b1, b2 | b2⟩ := relabel_look z
            · rw [a3] at b1; cases b1; cases b2
            · cases b2.2
          · exact .inl z
          · exact .inr z
        · rcases lk with ⟨z1, _⟩ | ⟨_, c, z1, z2⟩
          · rcases hk with z | z
            · rw [show X.env.kindOf x = some .cell from z] at z1; cases z1
            · rw [show X.env.kindOf x = some .free from z] at z1; cases z1
          · obtain ⟨c', hc'⟩ := c3 x a3
            have hcc := c2 x c' hc'
            rw [z1] at hcc
            cases hcc
            obtain ⟨oc, hoc, hd⟩ := z2
            exact ⟨c, hc', oc, old _ _ hoc, hd⟩
  · obtain ⟨v, o, ho, hd⟩ := I.cell x c (c2 x c e)
    exact ⟨v, o, old _ _ ho, hd⟩
  · have e : p = (D, oD) := List.mem_singleton.mp (show p ∈ [(D, oD)] from hp)
    subst e
    refine ⟨hoD, I.hok.fresh hD, hDC, fun z => ?_, hcD⟩
    have z' : D ∈ frs X.stack := z
    rcases List.mem_cons.mp (I.stkSub D z') with q | q
    · exact absurd (Nat.lt_of_lt_of_le I.lt hD) (by rw [q]; exact Nat.lt_irrefl _)
    · exact I.nofs hD q
  · show (capS js σ).length = N'.length
    unfold capS
    rw [List.length_map, S.len]
end

/-! ### the tests -/
def PIfs (X : Cx) (ifs : List Expr) (t : TT) : Prop :=
  ∀ (pins : List (Addr × Obj)) (s : Shared) (σ : St) (H : Hp) (Q : Bool → Hp → Prop), Inv X pins σ H s → t σ H Q →
    wpAny (model X.prog X.w) X.A (forIn ifs true fun c r => if r = true then do let ok ← isTrue c X.env (eval c X.env); pure (ForInStep.yield ok) else pure (ForInStep.yield r)) (TP X pins σ Q) X.xe s
def tYes : TT := fun _ H Q => Q true H
theorem pif_nil {X : Cx} : PIfs X [] tYes := fun _ _ σ H _ I h => wpAny_tests_nil ⟨H, I, h⟩
theorem pif_one {X : Cx} {c : Expr} {t : TT} (h : PT X c t) : PIfs X [c] t := fun pins s σ H Q I q => wpAny_tests_one (h pins s σ H Q I q)

theorem compLoop_go {prog : Program} {w : World} {A : Around} {R : Result → Shared → Prop} {s : Shared} {elt target iter : Expr} {ifs : List Expr} {scope : Scope} {pos : Pos} {it acc : Value} {env : Env} (I : Nat → Shared → Prop)
    (turn : ∀ n s, I n s → wpAny (model prog w) A (pyNext it) (fun r s₁ => match r with
      | none => R (.ok .next) s₁
      | some v => wpAny (model prog w) A (letOwnedTupleGo target it v) (fun _ s₁' => wpAny (model prog w) A (assign target env v) (fun _ s₂ =>
          wpAny (model prog w) A (forIn ifs true fun c r => if r = true then do let ok ← isTrue c env (eval c env); pure (ForInStep.yield ok) else pure (ForInStep.yield r)) (fun ok s₃ =>
            if ok = true then wpAny (model prog w) A (eval elt env) (fun x s₄ =>
              wpAny (model prog w) A (call (.builtin "list.append") [acc, x]) (fun _ s₅ => ∃ m, m < n ∧ I m s₅) (fun _ _ => False) s₄) (fun _ _ => False) s₃
            else ∃ m, m < n ∧ I m s₃) (fun _ _ => False) s₂) (fun _ _ => False) s₁') (fun _ _ => False) s₁) (fun _ _ => False) s)
    (n : Nat) (h : I n s) : codeAny (model prog w) A (.compLoop (.ListComp elt [⟨target, iter, ifs, 0⟩] scope pos) 0 it acc env) R s := by
  refine codeAny_loop rfl I (fun n s hI => ?_) n h
  show wpAny _ A ((compTurn (.ListComp elt [⟨target, iter, ifs, 0⟩] scope pos) 0 it acc env).onRaise (fun x => do noteFrame x env; theTreesLotGoes x)) _ _ s
  refine wpAny_noted ?_
  rw [compTurn_list]
  refine wpAny_bind (wpAny_standAt (wpAny_bind (wpAny_mono (turn n s hI) (fun r s₁ h₁ => ?_) fun _ _ h' => h'.elim)))
  cases r with
  | none => exact wpAny_pure h₁
  | some v =>
    refine wpAny_bind (wpAny_mono h₁ (fun _ s₁' h₁' => ?_) fun _ _ h' => h'.elim)
    refine wpAny_bind (wpAny_mono h₁' (fun _ s₂ h₂ => wpAny_bind (wpAny_mono h₂ (fun ok s₃ h₃ => ?_) fun _ _ h' => h'.elim)) fun _ _ h' => h'.elim)
    cases ok with
    | false => exact wpAny_pure ⟨rfl, h₃⟩
    | true =>
      exact wpAny_bind (wpAny_bind (wpAny_mono h₃ (fun x s₄ h₄ => wpAny_bind (wpAny_mono h₄ (fun _ s₅ h₅ => wpAny_pure (wpAny_pure ⟨rfl, h₅⟩)) fun _ _ h' => h'.elim)) fun _ _ h' => h'.elim))

/-! ### the reading -/
/-- the block's turns over J, from the state σ0 at each turn; fin: what is wanted of the collected values and the heap -/
def Sub (σ0 σ2 : St) : Prop := ∀ (i : Nat) v, σ0[i]? = some (some v) → σ2[i]? = some (some v)
theorem Sub.refl (σ : St) : Sub σ σ := fun _ _ h => h
theorem Sub.trans {a b c : St} (h : Sub a b) (k : Sub b c) : Sub a c := fun i v e => k i v (h i v e)
theorem Sub.set {σ : St} {i : Nat} {v : V} (h : σ[i]? = some none) : Sub σ (σ.set i (some v)) := fun j u e => by
  by_cases hj : i = j
  · subst hj
    rw [h] at e
    cases e
  · rw [List.getElem?_set_ne hj]
    exact e
def LCr (J : It) (H1 : Hp) (σ0 : St) (g : TG) (tc : TT) (te : TE) (fin : List V → Hp → Prop) : Prop := ∃ W : Nat → Nat → List V → Hp → Prop, (∃ m, W 0 m [] H1) ∧ ∀ i m ys H, W i m ys H →
  (J.stop i H ∧ fin ys H) ∨ (J.go i H ∧ ys.length < sizeLine ∧ ∃ N : List V → Hp → Prop, (∀ ys' H', N ys' H' → ∃ m', m' < m ∧ W (i + 1) m' ys' H') ∧
    ∀ x H', J.yld i H x H' → g x σ0 H' fun σ2 H2 => Sub σ0 σ2 ∧ tc σ2 H2 fun b H3 => if b = true then te σ2 H3 fun v H4 => N (ys ++ [v]) H4 else N ys H3)
def tLC (wi : TI) (js : List (Option Nat)) (g : TG) (tc : TT) (te : TE) : TE := fun σ H Q => wi σ H fun J H1 => LCr J H1 (capS js σ) g tc te fun ys H2 => ∀ p, H2 p = none → Q (.ref p) (upd H2 p (.lst ys))

section
variable {X : Cx} {pins : List (Addr × Obj)} {σ : St} {H : Hp} {s : Shared} {scope : Scope} {N' : List Str} {js : List (Option Nat)} {C : Addr} {fp : List Addr}
abbrev lstO (its : List Value) : Obj := { cls := .type "list", data := .seq its.toArray its.length }
/-- the block's end, seen from around: the list is tracked, the block's frame is pinned -/
theorem comp_end {D : Addr} {its : List Value} {ys : List V} {H' : Hp} {σ' : St} {s' : Shared} (I : Inv X pins σ H s) (hf : ∀ b ∈ fp, FpOk X pins H b) (hC : s.heap.objs.size ≤ C) (hD : s.heap.objs.size ≤ D)
    (J : Inv (cxComp X scope N' (clOf X.env.cells scope.names) C s H fp) [(D, lstO its)] σ' H' s') (rv : Vals ys its) (hz : ys.length ≤ sizeLine) :
    ∃ oC m, s'.heap.get? C = some oC ∧ s'.heap.Ns C m ∧ H' D = none ∧ (∀ h'' : Heap, h''.get? C = some oC → h''.Ns C m) ∧ Inv X (pins ++ [(C, oC)]) σ (upd H' D (.lst ys)) s' := by
  obtain ⟨m, hn, _⟩ := J.loc
  obtain ⟨oC, es, ep, hoC, hdC, hr⟩ := id hn
  have pD := J.pin (D, lstO its) (List.mem_append_right _ (List.mem_singleton.mpr rfl))
  obtain ⟨gD, nD, neD, _, _⟩ := pD
  have oldlt : ∀ b o, s.heap.get? b = some o → b ≠ D := fun b o e z => absurd (Nat.lt_of_lt_of_le (Heap.lt_size e) (by rw [z]; exact hD)) (Nat.lt_irrefl _)
  have trlt : ∀ b o, H b = some o → b ≠ D := fun b o e z => absurd (Nat.lt_of_lt_of_le (I.hok.lt e) (by rw [z]; exact hD)) (Nat.lt_irrefl _)
  have un : Un (frs X.stack) fp H (upd H' D (.lst ys)) s.heap s'.heap := by
    have b := J.base
    refine ⟨b.keep, b.slot, fun c o e n hx => ?_, b.there, fun c xs e => ?_, fun c o u e => ?_, fun c ps e => ?_⟩
    · rw [upd_ne (oldlt c o e)]; exact b.free c o e n hx
    · rw [upd_ne (trlt c _ e)]; exact b.tups c xs e
    · rw [upd_ne (trlt c _ e)]; exact b.frzs c o u e
    · obtain ⟨more, q⟩ := b.tbls c ps e
      exact ⟨more, by rw [upd_ne (trlt c _ e)]; exact q⟩
  have hok : HOk X.prog X.w (upd H' D (.lst ys)) s'.heap := fun b u e => by
    by_cases hb : b = D
    · subst hb
      rw [upd_same] at e
      cases e
      exact ⟨hz, its, _, rv, gD⟩
    · rw [upd_ne hb] at e
      exact (J.hok b u e).stay (fun c v _ q => q) (fun c q => by rw [upd_ne (ne_of_none q nD)]; exact q) fun c xs q => by rw [upd_ne (ne_of_none q nD)]; exact q
  have I2 : Inv X pins σ (upd H' D (.lst ys)) s' := I.call' (ch := fp) J.os un hok J.bare fun b hb => ⟨(hf b hb).2.2.2.1, (hf b hb).2.1, (hf b hb).2.2.2.2.1, (hf b hb).2.2.2.2.2⟩
  refine ⟨oC, m, hoC, hn, nD, fun h'' e => ⟨oC, es, ep, e, hdC, hr⟩, I2.pins_of fun p hp => ?_⟩
  rcases List.mem_append.mp hp with hp | hp
  · exact I2.pin p (List.mem_append_right _ hp)
  · have e := List.mem_singleton.mp hp
    subst e
    refine ⟨hoC, ?_, ?_, ?_, fun v z => ?_⟩
    · show upd H' D (.lst ys) C = none
      have neD' : C ≠ D := fun z => neD z.symm
      rw [upd_ne neD']
      exact J.free
    · exact Nat.ne_of_gt (Nat.lt_of_lt_of_le I.lt hC)
    · exact I.nofs hC
    · rw [hdC] at z; cases z
end

section
variable {X : Cx} {tg iter elt : Expr} {ifs : List Expr} {scope : Scope} {N' : List Str} {js : List (Option Nat)} {wi : TI} {g : TG} {tc : TT} {te : TE} {pos : Pos}

/-- the block runs -/
theorem comp_block {pins : List (Addr × Obj)} {σ : St} {H : Hp} {s : Shared} {E : Value → Shared → Prop} {it : Addr} {fp : List Addr} {tn : Nat → Heap → Prop} {J : It} {fin : List V → Hp → Prop} {RR : Value → Addr → Result → Shared → Prop}
    (hcalm : X.calm = true) (S : CompScope X.env.scope X.N scope N' js)
    (hg : ∀ cl C s H ex, PG (cxComp X scope N' cl C s H ex) tg g) (hc : ∀ cl C s H ex, PIfs (cxComp X scope N' cl C s H ex) ifs tc) (he : ∀ cl C s H ex, PE (cxComp X scope N' cl C s H ex) elt te)
    (I : Inv X pins σ H s) (T : Turn X.prog X.w X.K tg J fp it tn) (st : tn 0 s.heap) (hf : ∀ b ∈ fp, FpOk X pins H b) (L : LCr J H (capS js σ) g tc te fin)
    (hRR : ∀ (D C : Addr) (oC : Obj) (m : Str → Option Value) (H' : Hp) (ys : List V) (s' : Shared), fin ys H' → H' D = none → s.heap.objs.size ≤ C → s'.heap.get? C = some oC → (∀ h'' : Heap, h''.get? C = some oC → h''.Ns C m) → C ≠ D → H' C = none →
      Inv X (pins ++ [(C, oC)]) σ (upd H' D (.lst ys)) s' → RR (.ref D) C (.ok .next) s') :
    wpAny (model X.prog X.w) X.A (newList []) (fun acc s₃ => wpAny (model X.prog X.w) X.A (newFunctionEnv scope X.env.globals (clOf X.env.cells scope.names) [] X.env.qual none .none (some X.env)) (fun cenv s₄ =>
      codeAny (model X.prog X.w) X.A (.compStart (.ListComp elt [⟨tg, iter, ifs, 0⟩] scope pos) 0 (.ref it) acc { cenv with scope := relabel scope X.env }) (RR acc cenv.locals) s₄) E s₃) E s := by
  refine wpAny_newObj_type (wpAny_newFunctionEnv S.cell (by intro y hy; simp at hy) (fun h₁ hns₁ hsb₁ => ?_) S.kind)
  dsimp only at hns₁ hsb₁ ⊢
  generalize hH2 : s.heap.push { cls := .type "list", dict := none, data := .seq ([] : List Value).toArray } = H2 at hns₁ hsb₁ ⊢
  have hC : H2.objs.size = s.heap.objs.size + 1 := by rw [← hH2, Heap.size_push]
  have hDC : s.heap.objs.size ≠ H2.objs.size := by rw [hC]; exact Nat.ne_of_lt (Nat.lt_succ_self _)
  have hCle : s.heap.objs.size ≤ H2.objs.size := by rw [hC]; exact Nat.le_succ _
  have old : ∀ b o, s.heap.get? b = some o → h₁.get? b = some o := fun b o e => hsb₁.extBut b o (by rw [hC]; exact Nat.ne_of_lt (Nat.lt_succ_of_lt (Heap.lt_size e))) (Heap.get?_push_of_some _ (hH2 ▸ Heap.get?_push_of_some _ e))
  have hacc : h₁.get? s.heap.objs.size = some (lstO []) := hsb₁.extBut _ _ hDC (Heap.get?_push_of_some _ (hH2 ▸ Heap.get?_push_size _ rfl))
  have fpo : ∀ b ∈ fp, ∃ o, s.heap.get? b = some o := fun b hb => let ⟨o, e, _⟩ := T.obj _ _ st b hb; ⟨o, e⟩
  have fplt : ∀ b ∈ fp, b < s.heap.objs.size := fun b hb => let ⟨o, e⟩ := fpo b hb; Heap.lt_size e
  obtain ⟨W, ⟨m0, w0⟩, turn⟩ := L
  generalize hs5 : ({ s with heap := h₁, toks := s.toks + ([] : List (Str × Value)).length } : Shared) = s5
  have I5 : Inv (cxComp X scope N' (clOf X.env.cells scope.names) H2.objs.size s H fp) [(s.heap.objs.size, lstO [])] (capS js σ) H s5 := by
    subst hs5
    exact comp_start I S hf fpo hCle (Nat.le_refl _) hDC old (by simpa using hns₁) hacc (fun v z => by cases z)
  have st5 : tn 0 s5.heap := by
    subst hs5
    exact T.keep _ _ _ st fun b hb o e => old b o e
  have stat : ∀ {H' : Hp} {its : List Value}, (∀ b ∈ fp, H' b = none) → ∀ b ∈ fp, FpOk (cxComp X scope N' (clOf X.env.cells scope.names) H2.objs.size s H fp) [(s.heap.objs.size, lstO its)] H' b := fun {H' its} hn b hb => by
    obtain ⟨f0, f1, f2, f3, f4, f5⟩ := hf b hb
    have ok := comp_ok (C := H2.objs.size) I S hf fpo hCle
    refine ⟨hn b hb, (ok.exf b hb).1, ok.exfs b hb, .inl hb, (ok.exf b hb).2, fun p hp => ?_⟩
    have e : p = (s.heap.objs.size, lstO its) := List.mem_singleton.mp (show p ∈ [(s.heap.objs.size, lstO its)] from hp)
    rw [e]
    exact Nat.ne_of_gt (fplt b hb)
  have loop : codeAny (model X.prog X.w) X.A (.compLoop (.ListComp elt [⟨tg, iter, ifs, 0⟩] scope pos) 0 (.ref it) (.ref s.heap.objs.size) (compEnvC scope (clOf X.env.cells scope.names) H2.objs.size X.env)) (RR (.ref s.heap.objs.size) H2.objs.size) s5 := by
    refine compLoop_go (fun n s' => ∃ i H' ys its, Inv (cxComp X scope N' (clOf X.env.cells scope.names) H2.objs.size s H fp) [(s.heap.objs.size, lstO its)] (capS js σ) H' s' ∧ Vals ys its ∧ ys.length ≤ sizeLine ∧ tn i s'.heap ∧ (∀ b ∈ fp, H' b = none) ∧ W i n ys H') ?_ m0
      ⟨0, H, [], [], I5, .nil, Nat.zero_le _, st5, fun b hb => (hf b hb).1, w0⟩
    rintro n s3 ⟨i, H3, ys, its, I3, rv, hz, st3, fr3, w3⟩
    rcases turn i n ys H3 w3 with ⟨stop, qn⟩ | ⟨go, hlt, N, hN, step⟩
    · refine thn (T.done (cxComp X scope N' (clOf X.env.cells scope.names) H2.objs.size s H fp) rfl rfl rfl hcalm i _ s3 _ H3 _ I3 (stat fr3) st3 stop) fun r s4 ⟨hr, I4⟩ => ?_
      subst hr
      obtain ⟨oC, m, e1, e2, e3, e4, I6⟩ := comp_end I hf hCle (Nat.le_refl _) I4 rv hz
      exact hRR _ _ oC m H3 ys s4 qn e3 hCle e1 e4 (Ne.symm hDC) I4.free I6
    · refine thn (T.item (cxComp X scope N' (clOf X.env.cells scope.names) H2.objs.size s H fp) rfl rfl rfl hcalm i _ s3 _ H3 _ I3 (stat fr3) st3 go) fun r s4 ⟨u, hr, h4⟩ => ?_
      subst hr
      refine thn h4 fun _ s5' ⟨x, H5, I5', r5, y5, st5', fr5⟩ => ?_
      have I5'' := I5'.pinned (stat fr5) (T.obj _ _ st5')
      refine thn (hg _ _ _ _ _ _ s5' _ H5 x u _ I5'' r5 (step x H5 y5)) fun _ s6 ⟨σ6, H6, I6, sub6, q6⟩ => ?_
      refine thn (hc _ _ _ _ _ _ s6 σ6 H6 _ I6 q6) fun ok s7 ⟨H7, I7, q7⟩ => ?_
      have back : ∀ {σ7 : St} {H7 : Hp} {s7 : Shared}, Inv (cxComp X scope N' (clOf X.env.cells scope.names) H2.objs.size s H fp) ([(s.heap.objs.size, lstO its)] ++ pinsAt fp s5'.heap) σ7 H7 s7 → σ7.length = (capS js σ).length ∧ tn (i + 1) s7.heap ∧ ∀ b ∈ fp, H7 b = none := fun {σ7 H7 s7} I7 =>
        ⟨by rw [I7.len, I3.len], T.keep _ _ _ st5' fun b hb o e => (I7.pin (b, o) (List.mem_append_right _ (List.mem_append_right _ (mem_pinsAt hb e)))).1, fun b hb => by
          obtain ⟨o, e, d⟩ := T.obj _ _ st5' b hb
          exact (I7.pin (b, o) (List.mem_append_right _ (List.mem_append_right _ (mem_pinsAt hb e)))).2.1⟩
      have down : ∀ {H7 : Hp} {s7 : Shared}, Inv (cxComp X scope N' (clOf X.env.cells scope.names) H2.objs.size s H fp) ([(s.heap.objs.size, lstO its)] ++ pinsAt fp s5'.heap) σ6 H7 s7 →
          Inv (cxComp X scope N' (clOf X.env.cells scope.names) H2.objs.size s H fp) [(s.heap.objs.size, lstO its)] (capS js σ) H7 s7 := fun {H7 s7} I7 => I7.unpinned.weak (back I7).1.symm sub6
      cases ok with
      | false =>
        rw [if_neg Bool.false_ne_true]
        rw [if_neg Bool.false_ne_true] at q7
        obtain ⟨m', hm, w7⟩ := hN _ _ q7
        obtain ⟨b1, b2, b3⟩ := back I7
        exact ⟨m', hm, i + 1, H7, ys, its, down I7, rv, hz, b2, b3, w7⟩
      | true =>
        rw [if_pos rfl]
        rw [if_pos rfl] at q7
        refine thn (he _ _ _ _ _ _ s7 σ6 H7 _ I7 q7) fun y s8 ⟨v8, H8, I8, r8, q8⟩ => ?_
        obtain ⟨m', hm, w8⟩ := hN _ _ q8
        obtain ⟨b1, b2, b3⟩ := back I8
        have I9 := down I8
        obtain ⟨gD, nD, neD, nfD, dD⟩ := I9.pin (s.heap.objs.size, lstO its) (List.mem_append_right _ (List.mem_singleton.mpr rfl))
        have hlen := rv.length
        refine append_at (hsz := by show its.toArray.size ≤ sizeLine; rw [List.size_toArray]; omega) gD fun h₉ hs₉ hD₉ => ?_
        have I10 : Inv (cxComp X scope N' (clOf X.env.cells scope.names) H2.objs.size s H fp) [] (capS js σ) H8 { s8 with heap := h₉ } :=
          (I9.pins_of (pins' := []) fun p hp => nomatch hp).turned (t' := s8.toks) (fun b o hb e => hs₉.extBut b o hb e) nD neD (.inr (Nat.le_refl _)) (fun x c e z => by
            obtain ⟨v, o, ho, hd⟩ := I9.cell x c e
            have gD' : s8.heap.get? s.heap.objs.size = some (lstO its) := gD
            rw [z, gD'] at ho
            cases ho
            exact dD v hd) fun p hp => absurd (show p ∈ ([] : List (Addr × Obj)) from hp) (by simp)
        have eD : h₉.get? s.heap.objs.size = some (lstO (its ++ [y])) := by
          rw [hD₉]
          show some ({ cls := .type "list", data := .seq (its.toArray.push y) (its.length + 1) } : Obj) = some { cls := .type "list", data := .seq (its ++ [y]).toArray (its ++ [y]).length }
          rw [List.length_append, List.length_singleton, List.push_toArray]
        refine ⟨m', hm, i + 1, H8, ys ++ [v8], its ++ [y], I10.pins_of fun p hp => ?_, rv.append (.cons r8 .nil), by rw [List.length_append, List.length_singleton]; omega, T.keep _ _ _ b2 fun b hb o e => hs₉.extBut b o (Nat.ne_of_lt (fplt b hb)) e, b3, w8⟩
        have e := List.mem_singleton.mp hp
        subst e
        exact ⟨eD, nD, neD, nfD, fun v z => by cases z⟩
  have loop' : codeAny (model X.prog X.w) X.A (.compLoop (.ListComp elt [⟨tg, iter, ifs, 0⟩] scope pos) 0 (.ref it) (.ref s.heap.objs.size) { newEnv scope H2.objs.size X.env.globals (clOf X.env.cells scope.names) X.env.qual none .none (some X.env) builtinsNs with scope := relabel scope X.env }) (RR (.ref s.heap.objs.size) H2.objs.size) s5 := loop
  exact codeAny_compStart_list loop' (T.self X.A 0 s5 _ _ st5 loop')

/-- [elt for tg in iter if ..] -/
theorem pe_lc (hcalm : X.calm = true) (S : CompScope X.env.scope X.N scope N' js) (hi : PI X tg iter wi)
    (hg : ∀ cl C s H ex, PG (cxComp X scope N' cl C s H ex) tg g) (hc : ∀ cl C s H ex, PIfs (cxComp X scope N' cl C s H ex) ifs tc) (he : ∀ cl C s H ex, PE (cxComp X scope N' cl C s H ex) elt te)
    (hs : ∀ x, foldedSetIterable iter X.env x = pure x := by intro _; rfl) : PE X (.ListComp elt [⟨tg, iter, ifs, 0⟩] scope pos) (tLC wi js g tc te) := by
  intro pins s σ H Q I h
  rw [eval_ListComp]
  refine wpAny_comprehension_free (use := none) rfl hs (closure_is (comp_cells I S).1) S.kind S.names ?_
  refine thn (hi pins s σ H _ I h) fun xv s₁ h₁ => thn h₁ fun itv s₂ h₂ => ?_
  obtain ⟨it, fp, tn, J, H2, e, I2, T, st2, f2, L⟩ := h₂
  subst e
  refine comp_block (RR := fun acc C => compPost (model X.prog X.w) X.A X.xe none (EP X pins σ Q) acc C) hcalm S hg hc he I2 T st2 f2 L fun D C oC m H' ys s' fn hD hCle gC hNs hCD nC I' => ?_
  refine ⟨m, hNs _ gC, fun h'' hs'' => ?_⟩
  have I3 : Inv X pins σ (upd H' D (.lst ys)) s' := I'.unpinned
  obtain ⟨_, _, pL, pfs, _⟩ := I'.pin (C, oC) (List.mem_append_right _ (List.mem_append_right _ (List.mem_singleton.mpr rfl)))
  have I4 : Inv X pins σ (upd H' D (.lst ys)) { s' with heap := h'' } := I3.turned (t' := s'.toks) (it := C) (fun b o hb e => hs''.extBut b o hb e) (by rw [upd_ne hCD]; exact nC) pL (.inr (Nat.le_trans I2.sz hCle)) (fun x c e z => by
    obtain ⟨v, o, ho, hd⟩ := I2.cell x c e
    exact absurd (Nat.lt_of_lt_of_le (Heap.lt_size ho) (by rw [z]; exact hCle)) (Nat.lt_irrefl _)) fun p hp z => by
    have q := (I2.pin p hp).1
    exact absurd (Nat.lt_of_lt_of_le (Heap.lt_size q) (by rw [z]; exact hCle)) (Nat.lt_irrefl _)
  exact ⟨.ref D, _, I4, rfl, fn D hD⟩

/-- name = [elt for tg in iter if ..], stored ahead of the block's names being let go -/
theorem ps_setlc {i : Nat} {y : Str} {py spos : Pos} (hcalm : X.calm = true) (hN : X.N.Nodup) (hiN : X.N[i]? = some y) (hy : Loc X.env.scope y) (S : CompScope X.env.scope X.N scope N' js) (hi : PI X tg iter wi)
    (hg : ∀ cl C s H ex, PG (cxComp X scope N' cl C s H ex) tg g) (hc : ∀ cl C s H ex, PIfs (cxComp X scope N' cl C s H ex) ifs tc) (he : ∀ cl C s H ex, PE (cxComp X scope N' cl C s H ex) elt te)
    (hsw : swapsWith (.ListComp elt [⟨tg, iter, ifs, 0⟩] scope pos) (some (.Name y py)) spos.line X.env = pure true := by rfl)
    (hf : X.fn y = true ∨ X.env.scope.names.lookup y = some .local := by first | exact .inl rfl | exact .inr rfl | assumption)
    (hs : ∀ x, foldedSetIterable iter X.env x = pure x := by intro _; rfl) : PS X (.Assign [.Name y py] (.ListComp elt [⟨tg, iter, ifs, 0⟩] scope pos) spos) (tAsg (tLC wi js g tc te) (gName i)) := by
  intro pins s σ H D0 I h
  rw [exec_Assign_Name_used _ _ _ _ hsw]
  refine wpAny_bind (wpAny_standAt (wpAny_bind ?_))
  show wpAny _ X.A (do let _ ← comprehension (.ListComp elt [⟨tg, iter, ifs, 0⟩] scope pos) scope X.env _ (newList []) false (eval iter X.env) (some (assign (.Name y py) X.env))) _ _ s
  refine wpAny_bind (thn (wpAny_comprehension_free (use := some (assign (.Name y py) X.env)) (Q := fun _ s' => SP X pins D0 .next s') rfl hs (closure_is (comp_cells I S).1) S.kind S.names ?_) fun _ s' hq => wpAny_pure (wpAny_pure hq))
  refine thn (hi pins s σ H _ I h) fun xv s₁ h₁ => thn h₁ fun itv s₂ h₂ => ?_
  obtain ⟨it, fp, tn, J, H2, e, I2, T, st2, f2, L⟩ := h₂
  subst e
  refine comp_block (RR := fun acc C => compPost (model X.prog X.w) X.A X.xe (some (assign (.Name y py) X.env)) (fun _ s' => SP X pins D0 .next s') acc C) hcalm S hg hc he I2 T st2 f2 L fun D C oC m H' ys s' fn hD hCle gC hNs hCD nC I' => ?_
  show wpAny _ X.A (assign (.Name y py) X.env (.ref D)) _ _ _
  refine wpAny_assign_Name (store_ok I' hN hiN hy (v := .ref D) rfl (fun s'' I'' => ?_) hf)
  obtain ⟨gC', _, pL, pfs, _⟩ := I''.pin (C, oC) (List.mem_append_right _ (List.mem_append_right _ (List.mem_singleton.mpr rfl)))
  refine ⟨m, hNs _ gC', fun h'' hs'' => ?_⟩
  have I3 := I''.unpinned
  have I4 : Inv X pins (σ.set i (some (.ref D))) (upd H' D (.lst ys)) { s'' with heap := h'' } := I3.turned (t' := s''.toks) (it := C) (fun b o hb e => hs''.extBut b o hb e) (by rw [upd_ne hCD]; exact nC) pL (.inr (Nat.le_trans I2.sz hCle)) (fun x c e z => by
    obtain ⟨v, o, ho, hd⟩ := I2.cell x c e
    exact absurd (Nat.lt_of_lt_of_le (Heap.lt_size ho) (by rw [z]; exact hCle)) (Nat.lt_irrefl _)) fun p hp z => by
    have q := (I2.pin p hp).1
    exact absurd (Nat.lt_of_lt_of_le (Heap.lt_size q) (by rw [z]; exact hCle)) (Nat.lt_irrefl _)
  exact ⟨_, _, I4, fn D hD⟩
end
end L2


set_option Elab.async false
set_option linter.all false
set_option maxRecDepth 100000
/-! range as a value, reversed(range), zip, sum, == of data -/
namespace L2
open PySem PySem.Spec PyProof.Rows

/-! ### data -/
mutual
inductive Rep (K : PySem.W.Frag) (H : Hp) : V → PyData → Prop
  | non : Rep K H .non .none
  | bl (b : Bool) : Rep K H (.bl b) (.bool b)
  | int (i : Int) : Rep K H (.int i) (.int i)
  | str (x : Str) : Rep K H (.str x) (.str x)
  | list {a : Addr} {xs : List V} {ds : List PyData} : SqL K H a xs → RepAll K H xs ds → Rep K H (.ref a) (.list ds)
  | tuple {a : Addr} {xs : List V} {ds : List PyData} : SqT K H a xs → RepAll K H xs ds → Rep K H (.ref a) (.tuple ds)
inductive RepAll (K : PySem.W.Frag) (H : Hp) : List V → List PyData → Prop
  | nil : RepAll K H [] []
  | cons {x : V} {d : PyData} {xs : List V} {ds : List PyData} : Rep K H x d → RepAll K H xs ds → RepAll K H (x :: xs) (d :: ds)
end
theorem Same.sqt {K : PySem.W.Frag} {H H' : Hp} {a : Addr} {xs : List V} (e : Same H H') (h : SqT K H a xs) : SqT K H' a xs := by
  rcases h with (h | ⟨o, h⟩) | h
  · exact .inl (.inl (e _ _ h))
  · exact .inl (.inr ⟨o, e _ _ h⟩)
  · exact .inr h
mutual
theorem Rep.same {K : PySem.W.Frag} {H H' : Hp} (e : Same H H') : ∀ {v : V} {d : PyData}, Rep K H v d → Rep K H' v d
  | _, _, .non => .non
  | _, _, .bl b => .bl b
  | _, _, .int i => .int i
  | _, _, .str x => .str x
  | _, _, .list h r => .list (e.seq h) (RepAll.same e r)
  | _, _, .tuple h r => .tuple (e.sqt h) (RepAll.same e r)
theorem RepAll.same {K : PySem.W.Frag} {H H' : Hp} (e : Same H H') : ∀ {vs : List V} {ds : List PyData}, RepAll K H vs ds → RepAll K H' vs ds
  | _, _, .nil => .nil
  | _, _, .cons h r => .cons (Rep.same e h) (RepAll.same e r)
end
theorem RepAll.length {K : PySem.W.Frag} {H : Hp} : ∀ {vs : List V} {ds : List PyData}, RepAll K H vs ds → vs.length = ds.length
  | _, _, .nil => rfl
  | _, _, .cons _ r => by rw [List.length_cons, List.length_cons, RepAll.length r]
theorem RepAll.get {K : PySem.W.Frag} {H : Hp} : ∀ {vs : List V} {ds : List PyData} {i : Nat} {v : V}, RepAll K H vs ds → vs[i]? = some v → ∃ d, ds[i]? = some d ∧ Rep K H v d
  | _, _, _, _, .nil, e => by simp at e
  | _, _, 0, _, .cons h _, e => by simp at e; subst e; exact ⟨_, rfl, h⟩
  | _, _, i + 1, v, .cons _ r, e => by
    obtain ⟨d, h1, h2⟩ := RepAll.get (i := i) (v := v) r (by simpa using e)
    exact ⟨d, by simpa using h1, h2⟩
theorem RepAll.getD {K : PySem.W.Frag} {H : Hp} : ∀ {vs : List V} {ds : List PyData} {i : Nat} {d : PyData}, RepAll K H vs ds → ds[i]? = some d → ∃ v, vs[i]? = some v ∧ Rep K H v d
  | _, _, _, _, .nil, e => by simp at e
  | _, _, 0, _, .cons h _, e => by simp at e; subst e; exact ⟨_, rfl, h⟩
  | _, _, i + 1, v, .cons _ r, e => by
    obtain ⟨d, h1, h2⟩ := RepAll.getD (i := i) (d := v) r (by simpa using e)
    exact ⟨d, by simpa using h1, h2⟩
theorem RepAll.append {K : PySem.W.Frag} {H : Hp} : ∀ {xs ys : List V} {ds es : List PyData}, RepAll K H xs ds → RepAll K H ys es → RepAll K H (xs ++ ys) (ds ++ es)
  | _, _, _, _, .nil, s => s
  | _, _, _, _, .cons h r, s => .cons h (RepAll.append r s)
theorem RepAll.snoc {K : PySem.W.Frag} {H : Hp} {xs : List V} {ds : List PyData} {y : V} {e : PyData} (r : RepAll K H xs ds) (h : Rep K H y e) : RepAll K H (xs ++ [y]) (ds ++ [e]) := r.append (.cons h .nil)
theorem RepAll.ints {K : PySem.W.Frag} {H : Hp} : ∀ (ns : List Int), RepAll K H (ns.map V.int) (ns.map PyData.int)
  | [] => .nil
  | n :: r => .cons (.int n) (RepAll.ints r)
theorem RepAll.strs {K : PySem.W.Frag} {H : Hp} : ∀ (ns : List Str), RepAll K H (ns.map V.str) (ns.map PyData.str)
  | [] => .nil
  | n :: r => .cons (.str n) (RepAll.strs r)
theorem RepAll.bls {K : PySem.W.Frag} {H : Hp} : ∀ (ns : List Bool), RepAll K H (ns.map V.bl) (ns.map PyData.bool)
  | [] => .nil
  | n :: r => .cons (.bl n) (RepAll.bls r)
theorem RepAll.ints_inv {K : PySem.W.Frag} {H : Hp} : ∀ {ns : List Int} {xs : List V}, RepAll K H xs (ns.map PyData.int) → xs = ns.map V.int
  | [], _, .nil => rfl
  | n :: r, _, .cons h t => by cases h; rw [RepAll.ints_inv t]; rfl
theorem RepAll.strs_inv {K : PySem.W.Frag} {H : Hp} : ∀ {ns : List Str} {xs : List V}, RepAll K H xs (ns.map PyData.str) → xs = ns.map V.str
  | [], _, .nil => rfl
  | n :: r, _, .cons h t => by cases h; rw [RepAll.strs_inv t]; rfl
theorem RepAll.bls_inv {K : PySem.W.Frag} {H : Hp} : ∀ {ns : List Bool} {xs : List V}, RepAll K H xs (ns.map PyData.bool) → xs = ns.map V.bl
  | [], _, .nil => rfl
  | n :: r, _, .cons h t => by cases h; rw [RepAll.bls_inv t]; rfl

section
variable {X : Cx} {pins : List (Addr × Obj)} {σ : St} {H : Hp} {s : Shared}
mutual
theorem Inv.reads (I : Inv X pins σ H s) : ∀ {v : V} {d : PyData} {u : Value}, Rep X.K H v d → RelV v u → ∃ as, Reads s.heap u d as
  | _, _, _, .non, r => by obtain rfl : _ = Value.none := r; exact ⟨_, .none⟩
  | _, _, _, .bl b, r => by obtain rfl : _ = Value.bool b := r; exact ⟨_, .bool b⟩
  | _, _, _, .int i, r => by obtain ⟨t, rfl⟩ := r; exact ⟨_, .int i t⟩
  | _, _, _, .str x, r => by obtain ⟨t, rfl⟩ := r; exact ⟨_, .str x t⟩
  | _, _, _, .list (a := a) h q, r => by
    obtain rfl : _ = Value.ref a := r
    obtain ⟨its, rv, ⟨o, n, e, c, d, z⟩, _⟩ := I.list h
    obtain ⟨as, p⟩ := I.readsAll q rv
    exact ⟨_, .list e c z (by simpa using p)⟩
  | _, _, _, .tuple (a := a) h q, r => by
    obtain rfl : _ = Value.ref a := r
    obtain ⟨its, rv, ⟨o, e, c, n, z⟩, _⟩ := I.tuple h
    obtain ⟨as, p⟩ := I.readsAll q rv
    exact ⟨_, .tuple e c z (by simpa using p)⟩
theorem Inv.readsAll (I : Inv X pins σ H s) : ∀ {vs : List V} {ds : List PyData} {us : List Value}, RepAll X.K H vs ds → Vals vs us → ∃ as, ReadsAll s.heap us ds as
  | _, _, _, .nil, .nil => ⟨_, .nil⟩
  | _, _, _, .cons h q, .cons r t => by
    obtain ⟨as, p⟩ := I.reads h r
    obtain ⟨bs, p'⟩ := I.readsAll q t
    exact ⟨_, .cons p p'⟩
end
end
/-- x == y of data -/
def rEqD (K : PySem.W.Frag) : R2 := fun x y H Q => ∃ d e, Rep K H x d ∧ Rep K H y e ∧ SeqAt.shaped d = true ∧ SeqAt.shaped e = true ∧ Q (.bl (PyData.eqv d e)) H
def rNeD (K : PySem.W.Frag) : R2 := fun x y H Q => ∃ d e, Rep K H x d ∧ Rep K H y e ∧ SeqAt.shaped d = true ∧ SeqAt.shaped e = true ∧ Q (.bl (!PyData.eqv d e)) H
theorem op_eqD {X : Cx} (hu : X.A.units + 64 < cLine) : OpR X (compareOp .Eq) (rEqD X.K) := by
  intro pins s σ H x y v u Q I rx ry h
  obtain ⟨d, e, hd, he, s1, s2, q⟩ := h
  obtain ⟨as, ra⟩ := I.reads hd rx
  obtain ⟨bs, rb⟩ := I.reads he ry
  exact eq_dataH ra rb s1 s2 hu ⟨.bl _, H, I, rfl, q⟩
theorem op_neD {X : Cx} (hu : X.A.units + 64 < cLine) : OpR X (compareOp .NotEq) (rNeD X.K) := by
  intro pins s σ H x y v u Q I rx ry h
  obtain ⟨d, e, hd, he, s1, s2, q⟩ := h
  obtain ⟨as, ra⟩ := I.reads hd rx
  obtain ⟨bs, rb⟩ := I.reads he ry
  exact ne_dataH ra rb s1 s2 hu ⟨.bl _, H, I, rfl, q⟩

/-! ### range as a value -/
theorem call_range1 {X : Cx} : CallR X (.type "range") (fun xs H Q => ∃ j : Int, xs = [.int j] ∧ ∀ r, H r = none → Q (.ref r) (upd H r (.rng 0 j))) := by
  intro pins s σ H xs us Q I r h
  obtain ⟨j, rfl, q⟩ := h
  obtain ⟨u, rfl, t, rfl⟩ := vals1 r
  refine call_range_1 ⟨.ref s.heap.objs.size, _, I.laid (a := s.heap.objs.size) (o := .rng 0 j) (fun b o e => Heap.get?_push_of_some _ e) (Nat.le_refl _) ⟨_, _, _, Heap.get?_push_size _ rfl⟩, rfl, q _ (I.hok.fresh (Nat.le_refl _))⟩

/-! ### reversed(range) -/
def Itd (top : Int) (n : Nat) : It := ⟨fun i _ => i < n, fun i H x H' => H' = H ∧ x = .int (top - i), fun i _ => n ≤ i⟩
theorem turn_down {P : Program} {w : World} {K : PySem.W.Frag} {tg : Expr} (it : Addr) (top : Int) (n : Nat) : Turn P w K tg (Itd top n) [it] it (fun i h => IsRangeIter h it (top + (i : Nat) * (-1)) ((n : Int) - (i : Nat)) (-1)) where
  mem := by simp
  obj := fun i h st b hb => by
    have e : b = it := by simpa using hb
    subst e
    exact ⟨_, st, fun v z => by
      have z' : Data.fields _ = Data.cell v := z
      cases z'⟩
  keep := fun i h h' st k => k it (by simp) _ st
  item := by
    intro X hP hw hK hc i pins s σ H E I hf st hg
    subst hP hw hK
    obtain ⟨f0, f1, f2, f3, f4, f5⟩ := hf it (by simp)
    have W := Walks.range (prog := X.prog) (w := X.w) (I.ok.hd hc) it top (-1) n
    refine W.item i s _ _ hg st fun v h' tk hv st' kk => ?_
    obtain ⟨t, rfl⟩ := hv
    have I1 : Inv X pins σ H { s with heap := h', toks := tk } := I.turned (fun b o hb e => kk b o (by simpa using hb) e) f0 f1 f3 f4 f5
    refine ⟨_, rfl, go_of (s := { s with heap := h', toks := tk }) (n := "range_iterator") st' rfl rfl (by decide) ⟨.int (top - i), H, I1, ⟨t, ?_⟩, ⟨rfl, rfl⟩, st', fun b hb => (hf b hb).1⟩⟩
    congr 1
    omega
  done := by
    intro X hP hw hK hc i pins s σ H E I hf st hg
    subst hP hw hK
    obtain ⟨f0, f1, f2, f3, f4, f5⟩ := hf it (by simp)
    exact wpAny_pyNext_range_end (I.ok.hd hc) st (by have : n ≤ i := hg; omega) fun h' eb => ⟨rfl, I.turned (t' := s.toks) (fun b o hb e => eb b o hb e) f0 f1 f3 f4 f5⟩
  self := fun _ _ _ _ _ st h => wpAny_pyIter_rangeiter st h

theorem sub_ri_reversed : isSubtype (.type "range_iterator") (.type "reversed") = pure false := by rw [isSubtype_type]; kernel_rfl
section
variable {prog : Program} {w : World} {A : Around} {E : Value → Shared → Prop} {s : Shared}
theorem fitsL {a : Int} (h1 : -(2 ^ 62) ≤ a) (h2 : a ≤ 2 ^ 62) : Builtin.Range.rangeFitsLong a = true := by
  unfold Builtin.Range.rangeFitsLong
  simp
  omega
/-- reversed.__new__ asks the object's own __reversed__ -/
theorem rev_new {r : Addr} {T id : String} {f : Builtin} {Q : Value → Shared → Prop} (hT : s.TypeIs (.ref r) T) (sl : Slot T "__reversed__" id) (hf : entryFor table id = some f) (ha : argsOk id ⟨[.ref r], []⟩)
    (hc : wpAny (model prog w) A.in1.in1 (f ⟨[.ref r], []⟩) (fun fin s' => ∃ v, fin = .done (.ret v) ∧ Q v s') E s) :
    codeAny (model prog w) A (.call (.builtin "reversed.__new__") ⟨[.type "reversed", .ref r], []⟩) (wants Q E) s := by
  have c := F.newCall_reversed_1 (.ref r)
  have n := newClass_reversed (.ref r)
  have hb := sl.bind (.ref r)
  refine codeAny_of_tree ?_
  show wpAny _ A.in1 (checkBuiltinCall _ _ >>= fun _ => again _) _ _ s
  refine wpAny_bind (wpAny_of_eq c (wpAny_pure ⟨plainId_quiet F.plain_reversed_new _, codeAny_builtin F.entry_reversed_new ?_⟩))
  rw [Around.under_plainId F.plain_reversed_new _]
  unfold Builtin.«reversed.__new__»
  wp_walk using (wpAny_of_eq n), (wpAny_specialOf hT sl.lookup), (wpAny_of_eq hb)
  refine codeAny_call_builtin sl.plain hf (sl.check _ _ _ _ _ _ _ _ hT ha (wpAny_mono hc (fun fin s' q => ?_) fun _ _ q => q))
  obtain ⟨v, rfl, q⟩ := q
  exact wpAny_pure q
/-- what reversed(range(b)) leaves: an iterator over b - 1, .., 0 -/
abbrev downO (b : Int) : Obj := { cls := .type "range_iterator", data := .fields #[rawInt (b - 1), rawInt b, rawInt (-1)] }
theorem range_rev {r : Addr} {b : Int} {t u v : Tok} {Q : Value → Shared → Prop} (hr : IsRange s.heap r 0 b 1 t u v) (h0 : 0 ≤ b) (h1 : b < 2 ^ 60) (h : Q (.ref s.heap.objs.size) { s with heap := s.heap.push (downO b) }) :
    wpAny (model prog w) A (Builtin.«range.__reversed__» ⟨[.ref r], []⟩) (fun fin s' => ∃ v, fin = .done (.ret v) ∧ Q v s') E s := by
  obtain ⟨hp, g, d, tk, os⟩ := s
  have hn : Builtin.Range.rangeSize 0 b 1 = b := by
    rw [rangeSize_one]
    split <;> omega
  have f0 : Builtin.Range.rangeFitsLong 0 = true := fitsL (by omega) (by omega)
  have f1 : Builtin.Range.rangeFitsLong 1 = true := fitsL (by omega) (by omega)
  have f2 : Builtin.Range.rangeFitsLong (-1) = true := fitsL (by omega) (by omega)
  have f3 : Builtin.Range.rangeFitsLong (0 - 1) = true := fitsL (by omega) (by omega)
  have fb : Builtin.Range.rangeFitsLong b = true := fitsL (by omega) (by omega)
  have e1 : (0 : Int) + (b - 1) * 1 = b - 1 := by omega
  wp_walk using wpAny_loadPart' hr
  rw [hn, f0, f1, f2, f3, fb, e1]
  simp only [Bool.and_self, Bool.not_true, Bool.false_eq_true, if_false, if_true]
  exact ⟨_, rfl, h⟩
theorem call_reversed_range {r : Addr} {b : Int} {t u v : Tok} {Q : Value → Shared → Prop} (hr : IsRange s.heap r 0 b 1 t u v) (h0 : 0 ≤ b) (h1 : b < 2 ^ 60) (h : Q (.ref s.heap.objs.size) { s with heap := s.heap.push (downO b) }) :
    wpAny (model prog w) A (call (.type "reversed") [.ref r]) Q E s := by
  have N := rev_new (A := A.in1) (E := E) (Q := fun o s₁ => o = .ref s.heap.objs.size ∧ s₁ = { s with heap := s.heap.push (downO b) }) ⟨_, hr, rfl⟩ F.slot_range_reversed F.entry_range_reversed (F.args_range_reversed_1 _) (range_rev (prog := prog) (w := w) hr h0 h1 ⟨rfl, rfl⟩)
  refine callType_other (by decide +kernel) F.create_reversed ⟨_, _, F.mro_reversed⟩ F.made_reversed sub_ri_reversed (F.typeCall_reversed_1 _) N ?_
  rintro o s₁ ⟨rfl, rfl⟩
  exact ⟨⟨_, Heap.get?_push_size _ rfl, rfl⟩, h⟩
end

section
variable {X : Cx} {tg : Expr}
/-- reversed(e), e a range from 0 -/
def iRev (ta : TA) : TI := fun σ H R => ta σ H fun vs H1 => ∃ (r : Addr) (b : Int), vs = [.ref r] ∧ H1 r = some (.rng 0 b) ∧ 0 ≤ b ∧ b < 2 ^ 60 ∧ R (Itd (b - 1) b.toNat) H1
theorem pi_rev {a : Expr} {ta : TA} {p pos : Pos} (hg : Gl X "reversed") (hm : X.mg "reversed" = none) (ha : PA X [a] ta) (hs : starEach [a] X.env = [(false, eval a X.env)] := by rfl) : PI X tg (.Call (.Name "reversed" p) [a] [] pos) (iRev ta) := by
  intro pins s σ H R I h
  refine Call_ (ld_blt I hg hm boot_reversed (PyProof.Rows.callWith_type1 (thn (ha pos pins s σ H _ I h) fun us s1 ⟨vs, H1, I1, r1, q1⟩ => ?_) hs rfl))
  obtain ⟨r, b, e, hr, h0, h1, q⟩ := q1
  subst e
  obtain ⟨u, rfl, eu⟩ := vals1 r1
  obtain rfl : u = Value.ref r := eu
  obtain ⟨t1, t2, t3, hobj⟩ := I1.hok r _ hr
  refine call_reversed_range hobj h0 h1 ?_
  have I2 : Inv X pins σ H1 { s1 with heap := s1.heap.push { cls := .type "range_iterator", data := .fields #[rawInt (b - 1), rawInt b, rawInt (-1)] } } := I1.kept (t' := s1.toks) fun b o e => Heap.get?_push_of_some _ e
  have ri : IsRangeIter (s1.heap.push { cls := .type "range_iterator", data := .fields #[rawInt (b - 1), rawInt b, rawInt (-1)] }) s1.heap.objs.size (b - 1) b (-1) := Heap.get?_push_size _ rfl
  refine wpAny_pyIter_rangeiter ri ?_
  refine ⟨s1.heap.objs.size, [s1.heap.objs.size], _, _, H1, rfl, I2, turn_down _ (b - 1) b.toNat, ?_, fun c hc => ?_, q⟩
  · have e1 : b - 1 + ((0 : Nat) : Int) * (-1) = b - 1 := by simp
    have e2 : ((b.toNat : Nat) : Int) - ((0 : Nat) : Int) = b := by omega
    show IsRangeIter _ _ (b - 1 + ((0 : Nat) : Int) * (-1)) (((b.toNat : Nat) : Int) - ((0 : Nat) : Int)) (-1)
    rw [e1, e2]
    exact ri
  · have e : c = s1.heap.objs.size := by simpa using hc
    subst e
    exact I1.fpOk (Nat.le_refl _) (I1.hok.fresh (Nat.le_refl _))
/-- a for over it -/
theorem for_down {top : Int} {n : Nat} {g : TG} {tb : TS} {D : Ends} {σ : St} {H : Hp} (Pv : Nat → St → Hp → Prop) (h0 : Pv 0 σ H)
    (hs : ∀ i σ H, i < n → Pv i σ H → g (.int (top - i)) σ H fun σ2 H2 => tb { D with nx := Pv (i + 1), ct := Pv (i + 1), bk := D.nx } σ2 H2) (hd : ∀ σ H, Pv n σ H → D.nx σ H) :
    ∃ W : Nat → Nat → St → Hp → Prop, (∃ m, W 0 m σ H) ∧ ∀ i m σ H, W i m σ H →
      ((Itd top n).stop i H ∧ D.nx σ H) ∨ ((Itd top n).go i H ∧ ∃ N : St → Hp → Prop, (∀ σ' H', N σ' H' → ∃ m', m' < m ∧ W (i + 1) m' σ' H') ∧ ∀ x H', (Itd top n).yld i H x H' → g x σ H' fun σ2 H2 => tb { D with nx := N, ct := N, bk := D.nx } σ2 H2) := by
  refine ⟨fun i m σ H => m = n - i ∧ i ≤ n ∧ Pv i σ H, ⟨n, by simp, Nat.zero_le _, h0⟩, ?_⟩
  rintro i m σ H ⟨rfl, hi, p⟩
  by_cases hlt : i < n
  · refine .inr ⟨hlt, Pv (i + 1), fun σ' H' p' => ⟨n - (i + 1), by omega, rfl, hlt, p'⟩, fun x H' y => ?_⟩
    obtain ⟨e, y⟩ := y
    subst e y
    exact hs i σ _ hlt p
  · have e : i = n := by omega
    subst e
    exact .inl ⟨Nat.le_refl _, hd σ H p⟩
end

/-! ### sum -/
theorem preSum_eq (ns : List Int) : ∀ k, k ≤ ns.length → preSum (fun i => ns.getD i 0) k = (ns.take k).sum
  | 0, _ => by simp [preSum]
  | k + 1, h => by
    have ih := preSum_eq ns k (by omega)
    rw [preSum, ih, List.take_add_one]
    have e : ns[k]? = some (ns.getD k 0) := by
      rw [List.getD_eq_getElem?_getD, List.getElem?_eq_getElem (by omega)]
      rfl
    rw [e]
    simp
theorem Vals.get' : ∀ {xs : List V} {us : List Value} {i : Nat} {u : Value}, Vals xs us → us[i]? = some u → ∃ x, xs[i]? = some x ∧ RelV x u
  | _, _, _, _, .nil, e => by simp at e
  | _, _, 0, _, .cons r _, e => by simp at e; subst e; exact ⟨_, rfl, r⟩
  | _, _, i + 1, x, .cons _ t, e => by
    obtain ⟨u, h1, h2⟩ := Vals.get' (i := i) (u := x) t (by simpa using e)
    exact ⟨u, by simpa using h1, h2⟩
theorem call_sumL {X : Cx} (hc : X.calm = true) : CallR X (.builtin "sum") (fun xs H Q => ∃ (p : Addr) (ns : List Int), xs = [.ref p] ∧ SqL X.K H p (ns.map V.int) ∧ Q (.int ns.sum) H) := by
  intro pins s σ H xs us Q I r h
  obtain ⟨p, ns, rfl, hq, q⟩ := h
  obtain ⟨u, rfl, eu⟩ := vals1 r
  obtain rfl : u = Value.ref p := eu
  obtain ⟨its, rv, pl, hz⟩ := I.list hq
  have hi : IntsAre its ns := intsAre_of rv
  have hl := hi.length
  have plt : p < s.heap.objs.size := let ⟨o, _, e, _⟩ := pl; Heap.lt_size e
  refine call_sum_walkG (wpAny_pyIter_list pl.isList ?_)
  have W := Walks.list (prog := X.prog) (w := X.w) (A := X.A.in1) (by show X.A.in1.handled = none; exact I.ok.hd hc) s.heap.objs.size p (Nat.ne_of_lt plt) its.toArray
  refine ⟨_, _, _, _, _, _, fun i => ns.getD i 0, rfl, W, ⟨⟨_, Heap.get?_push_size _ rfl, rfl, rfl⟩, pl.isList.push _⟩, ?_, ?_, fun h' tk t' kk => ?_⟩
  · intro b hb
    rw [Heap.size_push]
    have hb' : b = s.heap.objs.size ∨ b = p := by simpa using hb
    rcases hb' with z | z
    · rw [z]; exact Nat.lt_succ_self _
    · rw [z]; exact Nat.lt_succ_of_lt plt
  · intro i v hv
    have hv' : its[i]? = some v := by simpa using hv
    obtain ⟨x, hx, rx⟩ := Vals.get' rv hv'
    rw [List.getElem?_map] at hx
    cases e : ns[i]? with
    | none => rw [e] at hx; cases hx
    | some n =>
      rw [e] at hx
      cases hx
      obtain ⟨t, rfl⟩ := rx
      exact ⟨t, by show Value.int n t = Value.int (ns.getD i 0) t; rw [List.getD_eq_getElem?_getD, e]; rfl⟩
  · have e : preSum (fun i => ns.getD i 0) its.toArray.size = ns.sum := by
      have hsz : its.toArray.size = ns.length := by rw [List.size_toArray]; omega
      rw [hsz, preSum_eq ns _ (Nat.le_refl _), List.take_length]
    rw [e]
    refine ⟨.int ns.sum, H, I.kept fun b o e => kk b o (fun z => ?_) (Heap.get?_push_of_some _ e), ⟨t', rfl⟩, q⟩
    have z' : b = s.heap.objs.size := by simpa using z
    exact absurd (Heap.lt_size e) (by rw [z']; exact Nat.lt_irrefl _)
end L2

set_option Elab.async false
set_option linter.all false
set_option maxRecDepth 100000
/-! zip of two, each a list or a tuple -/
namespace L2
open PySem PySem.Spec PyProof.Rows

/-- the names of a list's (true) or a tuple's iterator -/
def itN (kd : Bool) : String := if kd = true then "list_iterator" else "tuple_iterator"
def sqN (kd : Bool) : String := if kd = true then "list" else "tuple"
/-- at `it` stands an iterator over a, at its k-th item -/
def Src (kd : Bool) (h : Heap) (it a : Addr) (k : Nat) : Prop := ∃ o, h.get? it = some o ∧ o.cls = .type (itN kd) ∧ o.data = .fields #[.ref a, .int k 0]
/-- at a stand these items -/
def SqH (kd : Bool) (h : Heap) (a : Addr) (items : Array Value) : Prop := ∃ o, h.get? a = some o ∧ o.cls = .type (sqN kd) ∧ ∃ n, o.data = .seq items n
theorem Src.at {kd : Bool} {h h' : Heap} {it a : Addr} {k : Nat} : Src kd h it a k → (∀ o, h.get? it = some o → h'.get? it = some o) → Src kd h' it a k := fun ⟨o, e, r⟩ f => ⟨o, f o e, r⟩
theorem SqH.at {kd : Bool} {h h' : Heap} {a : Addr} {items : Array Value} : SqH kd h a items → (∀ o, h.get? a = some o → h'.get? a = some o) → SqH kd h' a items := fun ⟨o, e, r⟩ f => ⟨o, f o e, r⟩

section
variable {prog : Program} {w : World} {A : Around} {E : Value → Shared → Prop} {s : Shared}
/-- one draw from such an iterator -/
theorem draw_one {kd : Bool} {it a : Addr} {k : Nat} {items : Array Value} {x : Value} {Q : Value → Shared → Prop} (h1 : Src kd s.heap it a k) (h2 : SqH kd s.heap a items) (hx : items[k]? = some x)
    (hQ : ∀ h', Src kd h' it a (k + 1) → Heap.SameBut it s.heap h' → Q x { s with heap := h' }) : wpAny (model prog w) A (Builtin.SmallTypes.nextOf (.ref it)) Q E s := by
  cases kd with
  | true => exact wpAny_nextOf_list_item h1 h2 hx hQ
  | false =>
    have hit : s.heap.IsTupleIter it a k := h1
    obtain ⟨o, ho, hc, hd⟩ := id h1
    obtain ⟨oa, hoa, _, n, hda⟩ := h2
    have up := Heap.get?_update_self (f := Obj.mapFields fun xs => xs.setIfInBounds 1 (rawInt ((k : Int) + 1))) ho (Obj.isFreed_of_fields (Obj.data_mapFields hd _))
    unfold Builtin.SmallTypes.nextOf
    refine wpAny_bind (wpAny_callSpecial?_slot hit.typeIs F.slot_tuple_iterator_next (wpAny_call_entry F.slot_tuple_iterator_next hit.typeIs F.entry_tuple_iterator_next ?_ (F.args_tuple_iterator_next_1 _)))
    show wpAny _ _ (field (.ref it) 0 >>= fun sq => _) _ _ s
    refine wpAny_bind (wpAny_field ho hd (x := .ref a) rfl ?_)
    have nn : ¬ ((Value.ref a == Value.none) = true) := Bool.false_ne_true
    rw [if_neg nn]
    refine wpAny_bind (wpAny_field ho hd (x := .int k 0) rfl ?_)
    refine wpAny_bind (wpAny_seqItems hoa hda ?_)
    rw [show (k : Int).toNat = k from Int.toNat_natCast k]
    simp only [hx]
    exact wpAny_bind (wpAny_setField ho hd (by simp) (wpAny_pure ⟨x, rfl, wpAny_pure (hQ _ ⟨_, up, (Obj.cls_mapFields ..).trans hc, by rw [Obj.data_mapFields hd]; simp [rawInt]⟩ (Heap.SameBut.update ..))⟩))
/-- a draw behind the last item -/
theorem draw_end {kd : Bool} {it a : Addr} {k : Nat} {items : Array Value} {Q : Value → Shared → Prop} (hh : A.handled = none) (h1 : Src kd s.heap it a k) (h2 : SqH kd s.heap a items) (hx : items[k]? = none)
    (hE : ∀ h' e, Heap.ExtBut it s.heap h' → (∃ o, h'.get? e = some o ∧ o.cls = .type "StopIteration") → E (.ref e) { s with heap := h' }) : wpAny (model prog w) A (Builtin.SmallTypes.nextOf (.ref it)) Q E s := by
  cases kd with
  | true => exact wpAny_nextOf_list_end hh h1 h2 hx hE
  | false =>
    have hit : s.heap.IsTupleIter it a k := h1
    obtain ⟨o, ho, hc, hd⟩ := id h1
    obtain ⟨oa, hoa, _, n, hda⟩ := h2
    unfold Builtin.SmallTypes.nextOf
    refine wpAny_bind (wpAny_callSpecial?_slot hit.typeIs F.slot_tuple_iterator_next (wpAny_call_entry F.slot_tuple_iterator_next hit.typeIs F.entry_tuple_iterator_next ?_ (F.args_tuple_iterator_next_1 _)))
    show wpAny _ _ (field (.ref it) 0 >>= fun sq => _) _ _ s
    refine wpAny_bind (wpAny_field ho hd (x := .ref a) rfl ?_)
    have nn : ¬ ((Value.ref a == Value.none) = true) := Bool.false_ne_true
    rw [if_neg nn]
    refine wpAny_bind (wpAny_field ho hd (x := .int k 0) rfl ?_)
    refine wpAny_bind (wpAny_seqItems hoa hda ?_)
    rw [show (k : Int).toNat = k from Int.toNat_natCast k]
    simp only [hx]
    refine wpAny_bind (wpAny_rule (wpAny_bind (wpAny_setField ho hd (by simp) ?_)))
    have hh' : A.in1.handled = none := hh
    wp_walk
    unfold raiseNew
    refine wpAny_bind (wpAny_handled ?_)
    rw [hh']
    refine wpAny_bind (wpAny_pure (wpAny_throw (hE _ _ (((Heap.SameBut.update ..).extBut.push _).push _) ⟨_, Heap.get?_push_size _ rfl, rfl⟩)))

/-- the records of a zip over l1 and l2; f: its field of the tuple handed out, a, b: the kept pair -/
structure ZS (kd kd2 : Bool) (z TI TO i1 i2 l1 l2 : Addr) (f a b : Value) (k1 k2 : Nat) (h : Heap) : Prop where
  z : IsZip h z TI TO f
  ti : IsPair h TI (.ref i1) (.ref i2)
  to : IsPair h TO a b
  s1 : Src kd h i1 l1 k1
  s2 : Src kd2 h i2 l2 k2
variable {kd kd2 : Bool} {z TI TO i1 i2 l1 l2 : Addr} {f a b : Value} {k1 k2 : Nat} {h h' : Heap}
theorem ZS.turnZ (D : ZipApart z TI TO i1 i2 l1 l2) (x : ZS kd kd2 z TI TO i1 i2 l1 l2 f a b k1 k2 h) {f' : Value} (hz : IsZip h' z TI TO f') (e : Heap.SameBut z h h') : ZS kd kd2 z TI TO i1 i2 l1 l2 f' a b k1 k2 h' :=
  ⟨hz, e.extBut _ _ D.TIz x.ti, e.extBut _ _ D.TOz x.to, x.s1.at fun o q => e.extBut _ _ D.i1z q, x.s2.at fun o q => e.extBut _ _ D.i2z q⟩
theorem ZS.turnO (D : ZipApart z TI TO i1 i2 l1 l2) (x : ZS kd kd2 z TI TO i1 i2 l1 l2 f a b k1 k2 h) {a' b' : Value} (hz : IsPair h' TO a' b') (e : Heap.SameBut TO h h') : ZS kd kd2 z TI TO i1 i2 l1 l2 f a' b' k1 k2 h' :=
  ⟨e.extBut _ _ D.TOz.symm x.z, e.extBut _ _ D.TITO x.ti, hz, x.s1.at fun o q => e.extBut _ _ D.TOi1.symm q, x.s2.at fun o q => e.extBut _ _ D.TOi2.symm q⟩
theorem ZS.turn1 (D : ZipApart z TI TO i1 i2 l1 l2) (x : ZS kd kd2 z TI TO i1 i2 l1 l2 f a b k1 k2 h) {k : Nat} (hz : Src kd h' i1 l1 k) (e : Heap.SameBut i1 h h') : ZS kd kd2 z TI TO i1 i2 l1 l2 f a b k k2 h' :=
  ⟨e.extBut _ _ D.i1z.symm x.z, e.extBut _ _ D.TIi1 x.ti, e.extBut _ _ D.TOi1 x.to, hz, x.s2.at fun o q => e.extBut _ _ D.i12.symm q⟩
theorem ZS.turn2 (D : ZipApart z TI TO i1 i2 l1 l2) (x : ZS kd kd2 z TI TO i1 i2 l1 l2 f a b k1 k2 h) {k : Nat} (hz : Src kd2 h' i2 l2 k) (e : Heap.SameBut i2 h h') : ZS kd kd2 z TI TO i1 i2 l1 l2 f a b k1 k h' :=
  ⟨e.extBut _ _ D.i2z.symm x.z, e.extBut _ _ D.TIi2 x.ti, e.extBut _ _ D.TOi2 x.to, x.s1.at fun o q => e.extBut _ _ D.i12 q, hz⟩
theorem ZS.keeps (x : ZS kd kd2 z TI TO i1 i2 l1 l2 f a b k1 k2 h) (e : ∀ c o, c ∈ [z, TI, TO, i1, i2] → h.get? c = some o → h'.get? c = some o) : ZS kd kd2 z TI TO i1 i2 l1 l2 f a b k1 k2 h' :=
  ⟨e _ _ (by simp) x.z, e _ _ (by simp) x.ti, e _ _ (by simp) x.to, x.s1.at fun o q => e _ _ (by simp) q, x.s2.at fun o q => e _ _ (by simp) q⟩

/-- next of a zip, the first part: up to the draws -/
theorem zip_next {xs ys : Array Value} {Q : Fin → Shared → Prop} (D : ZipApart z TI TO i1 i2 l1 l2) (Z : ZS kd kd2 z TI TO i1 i2 l1 l2 .none a b k1 k2 s.heap) (q1 : SqH kd s.heap l1 xs) (q2 : SqH kd2 s.heap l2 ys)
    (hQ : ∀ x y h', xs[k1]? = some x → ys[k2]? = some y → ZS kd kd2 z TI TO i1 i2 l1 l2 (rawInt s.heap.objs.size) x y (k1 + 1) (k2 + 1) h' → IsPair h' s.heap.objs.size x y →
      (∀ c o, c ∉ [z, TO, i1, i2] → s.heap.get? c = some o → h'.get? c = some o) → Q (.done (.ret (.ref s.heap.objs.size))) { s with heap := h' })
    (hE : xs[k1]? = none ∨ ys[k2]? = none → A.handled = none ∧ ∀ h' e, (∀ c o, c ∉ [z, TO, i1, i2] → s.heap.get? c = some o → h'.get? c = some o) → (∃ o, h'.get? e = some o ∧ o.cls = .type "StopIteration") → E (.ref e) { s with heap := h' }) :
    wpAny (model prog w) A (Builtin.«zip.__next__» ⟨[.ref z], []⟩) Q E s := by
  have no : ∀ {c : Addr}, c ∉ [z, TO, i1, i2] → c ≠ z ∧ c ≠ TO ∧ c ≠ i1 ∧ c ≠ i2 := fun hc => by simpa [not_or] using hc
  show wpAny _ _ (field (.ref z) 2 >>= fun x => _) _ _ _
  refine wpAny_bind (wpAny_field Z.z rfl (x := .bool false) rfl (wpAny_bind (wpAny_field Z.z rfl (x := .ref TI) rfl (wpAny_bind (wpAny_seqItems Z.ti rfl (wpAny_bind ?_))))))
  unfold Builtin.SmallTypes.ownedTupleIsFree
  refine wpAny_bind (wpAny_field Z.z rfl (x := .none) rfl (wpAny_pure ?_))
  rw [if_pos rfl]
  refine wpAny_bind (wpAny_rule (wpAny_bind (wpAny_field Z.z rfl (x := .ref TO) rfl (wpAny_bind (wpAny_setField_rec Z.z (by simp) fun ha za ea => wpAny_bind ?_)))))
  have Za := Z.turnZ D (f' := .ellipsis) za ea
  simp only [List.zipIdx_cons, List.zipIdx_nil, List.forIn_cons, List.forIn_nil]
  refine wpAny_bind (wpAny_bind (wpAny_onRaise ?_))
  show wpAny _ _ (Builtin.SmallTypes.nextOf (.ref i1) >>= fun x => _) _ _ _
  cases ex : xs[k1]? with
  | none =>
    obtain ⟨hh, hE⟩ := hE (.inl ex)
    refine wpAny_bind (draw_end hh Za.s1 (q1.at fun o e => ea.extBut _ _ D.l1z e) ex fun hb e eb he => ?_)
    obtain ⟨oe, he, ce⟩ := he
    have zb : IsZip hb z TI TO .ellipsis := eb _ _ D.i1z.symm Za.z
    have ne : e ≠ z := fun q => by rw [q, zb] at he; cases he; simp at ce
    exact wpAny_setField_rec zb (by simp) fun hc _ ec => hE hc e (fun c o n q => ec.extBut _ _ (no n).1 (eb _ _ (no n).2.2.1 (ea.extBut _ _ (no n).1 q))) ⟨oe, ec.extBut _ _ ne he, ce⟩
  | some x =>
    refine wpAny_bind (draw_one Za.s1 (q1.at fun o e => ea.extBut _ _ D.l1z e) ex fun hb sb eb => wpAny_pure ?_)
    have Zb := Za.turn1 D sb eb
    refine wpAny_bind (wpAny_seqItems Zb.to rfl (wpAny_bind (wpAny_updateSeq_pair Zb.to fun hc oc ec => wpAny_bind (wpAny_letGo (wpAny_pure ?_)))))
    have Zc := Zb.turnO D (a' := x) (b' := b) oc ec
    have kc : ∀ c o, c ∉ [z, TO, i1, i2] → s.heap.get? c = some o → hc.get? c = some o := fun c o n q => ec.extBut _ _ (no n).2.1 (eb.extBut _ _ (no n).2.2.1 (ea.extBut _ _ (no n).1 q))
    have q2c : SqH kd2 hc l2 ys := q2.at fun o e => kc l2 o (by simp [D.l2z, D.l2TO, D.l2i1, D.l2i2]) e
    refine wpAny_bind (wpAny_bind (wpAny_onRaise ?_))
    show wpAny _ _ (Builtin.SmallTypes.nextOf (.ref i2) >>= fun x => _) _ _ _
    cases ey : ys[k2]? with
    | none =>
      obtain ⟨hh, hE⟩ := hE (.inr ey)
      refine wpAny_bind (draw_end hh Zc.s2 q2c ey fun hd e ed he => ?_)
      obtain ⟨oe, he, ce⟩ := he
      have zd : IsZip hd z TI TO .ellipsis := ed _ _ D.i2z.symm Zc.z
      have ne : e ≠ z := fun q => by rw [q, zd] at he; cases he; simp at ce
      exact wpAny_setField_rec zd (by simp) fun hf _ ef => hE hf e (fun c o n q => ef.extBut _ _ (no n).1 (ed _ _ (no n).2.2.2 (kc c o n q))) ⟨oe, ef.extBut _ _ ne he, ce⟩
    | some y =>
      refine wpAny_bind (draw_one Zc.s2 q2c ey fun hd sd ed => wpAny_pure ?_)
      have Zd := Zc.turn2 D sd ed
      refine wpAny_bind (wpAny_seqItems Zd.to rfl (wpAny_bind (wpAny_updateSeq_pair Zd.to fun hf of ef => wpAny_bind (wpAny_letGo (wpAny_pure (wpAny_pure ?_))))))
      have Zf := Zd.turnO D (a' := x) (b' := y) of ef
      have kf : ∀ c o, c ∉ [z, TO, i1, i2] → s.heap.get? c = some o → hf.get? c = some o := fun c o n q => ef.extBut _ _ (no n).2.1 (ed.extBut _ _ (no n).2.2.2 (kc c o n q))
      have sz : hf.objs.size = s.heap.objs.size := by rw [ef.1, ed.1, ec.1, eb.1, ea.1]
      refine wpAny_bind (wpAny_seqItems Zf.to rfl (wpAny_bind (wpAny_newTuple (wpAny_bind ?_))))
      unfold Builtin.SmallTypes.ownedTupleHandOut
      have up : ∀ c o, hf.get? c = some o → (hf.push { cls := .type "tuple", data := .seq #[x, y] }).get? c = some o := fun c o q => Heap.get?_push_of_some _ q
      have Zg := Zf.keeps (h' := hf.push { cls := .type "tuple", data := .seq #[x, y] }) fun c o _ q => up c o q
      have nT : hf.objs.size ≠ z := Nat.ne_of_gt (Heap.lt_size Zf.z)
      refine wpAny_bind (wpAny_setField_rec Zg.z (by simp) fun hi zi ei => ?_)
      have Zi := Zg.turnZ D (f' := rawInt hf.objs.size) zi ei
      refine wpAny_setField_rec Zi.z (by simp) fun hj zj ej => ?_
      have Zj := Zi.turnZ D (f' := rawInt hf.objs.size) zj ej
      have last : ∀ c o, c ≠ z → (hf.push { cls := .type "tuple", data := .seq #[x, y] }).get? c = some o → hj.get? c = some o := fun c o n q => ej.extBut _ _ n (ei.extBut _ _ n q)
      have pT : IsPair hj hf.objs.size x y := last _ _ nT (Heap.get?_push_size _ rfl)
      rw [sz] at Zj pT
      refine wpAny_pure ?_
      show Q (.done (.ret (.ref hf.objs.size))) _
      rw [sz]
      exact hQ x y hj ex ey Zj pT fun c o n q => last c o (no n).1 (up c o (kf c o n q))
theorem pyNext_zip {xs ys : Array Value} {Q : Option Value → Shared → Prop} (D : ZipApart z TI TO i1 i2 l1 l2) (Z : ZS kd kd2 z TI TO i1 i2 l1 l2 .none a b k1 k2 s.heap) (q1 : SqH kd s.heap l1 xs) (q2 : SqH kd2 s.heap l2 ys)
    (hQ : ∀ x y h', xs[k1]? = some x → ys[k2]? = some y → ZS kd kd2 z TI TO i1 i2 l1 l2 (rawInt s.heap.objs.size) x y (k1 + 1) (k2 + 1) h' → IsPair h' s.heap.objs.size x y →
      (∀ c o, c ∉ [z, TO, i1, i2] → s.heap.get? c = some o → h'.get? c = some o) → Q (some (.ref s.heap.objs.size)) { s with heap := h' })
    (hE : xs[k1]? = none ∨ ys[k2]? = none → A.handled = none ∧ ∀ h', (∀ c o, c ∉ [z, TO, i1, i2] → s.heap.get? c = some o → h'.get? c = some o) → Q none { s with heap := h' }) :
    wpAny (model prog w) A (pyNext (.ref z)) Q E s := by
  have hT : s.TypeIs (.ref z) "zip" := ⟨_, Z.z, rfl⟩
  unfold pyNext
  refine wpAny_bind (wpAny_attempt (wpAny_callSpecial?_slot hT F.slot_zip_next (wpAny_call_entry F.slot_zip_next hT F.entry_zip_next (zip_next D Z q1 q2 (fun x y h' e1 e2 Z' p k => ⟨_, rfl, wpAny_pure (hQ x y h' e1 e2 Z' p k)⟩) fun n => ?_) (F.args_zip_next_1 _))))
  obtain ⟨hh, r⟩ := hE n
  refine ⟨hh, fun h' e k ⟨o, ho, hc⟩ => ?_⟩
  exact wpAny_bind (wpAny_isInstance (T := "StopIteration") (b := true) ⟨o, ho, hc⟩ isSubtype_stop (wpAny_pure (r h' k)))

/-- a new iterator over a list or a tuple -/
abbrev itO (kd : Bool) (a : Addr) : Obj := { cls := .type (itN kd), data := .fields #[.ref a, .int 0 0] }
theorem iter_new {kd : Bool} {a : Addr} {xs : Array Value} {Q : Value → Shared → Prop} (h : SqH kd s.heap a xs) (hQ : Q (.ref s.heap.objs.size) { s with heap := s.heap.push (itO kd a) }) : wpAny (model prog w) A (pyIter (.ref a)) Q E s := by
  cases kd with
  | true => exact wpAny_pyIter_list h hQ
  | false => exact wpAny_pyIter_tuple h hQ
/-- what zip(l1, l2) lays: two iterators, their tuple, the kept pair, the zip -/
abbrev zipAll (kd kd2 : Bool) (h : Heap) (l1 l2 : Addr) : Heap :=
  ((((h.push (itO kd l1)).push (itO kd2 l2)).push { cls := .type "tuple", data := .seq #[.ref h.objs.size, .ref (h.objs.size + 1)] }).push { cls := .type "tuple", data := .seq #[.none, .none] }).push
    { cls := .type "zip", data := .fields #[.none, .bool false, .bool false, .ref (h.objs.size + 2), .ref (h.objs.size + 3)] }
theorem zip_made {xs ys : Array Value} : Meets (Builtin.«zip.__new__» ⟨[.type "zip", .ref l1, .ref l2], []⟩) (fun _ R s => SqH kd s.heap l1 xs ∧ SqH kd2 s.heap l2 ys ∧ R (.ok (.ret (.ref (s.heap.objs.size + 4)))) { s with heap := zipAll kd kd2 s.heap l1 l2 }) :=
  .of_wp fun prog w A R s h => by
    obtain ⟨hp, g, d, tk, os⟩ := s
    obtain ⟨h1, h2, h⟩ := h
    have sub := sub_zip
    have g1 : SqH kd (Shared.heap ⟨hp, g, d, tk, os⟩) l1 xs := h1
    have g2 : SqH kd2 (Shared.heap ⟨hp.push (itO kd l1), g, d, tk, os⟩) l2 ys := h2.at fun o e => Heap.get?_push_of_some _ e
    wp_walk using iter_new g1, iter_new g2
    refine ⟨_, rfl, ?_⟩
    simp only [Heap.size_push]
    exact h
theorem zip_apart {n l1 l2 : Addr} (h1 : l1 < n) (h2 : l2 < n) : ZipApart (n + 4) (n + 2) (n + 3) n (n + 1) l1 l2 := zipApart_new h1 h2
theorem call_zip {xs ys : Array Value} {Q : Value → Shared → Prop} (h1 : SqH kd s.heap l1 xs) (h2 : SqH kd2 s.heap l2 ys)
    (h : ∀ h', ZS kd kd2 (s.heap.objs.size + 4) (s.heap.objs.size + 2) (s.heap.objs.size + 3) s.heap.objs.size (s.heap.objs.size + 1) l1 l2 .none .none .none 0 0 h' → (∀ c o, s.heap.get? c = some o → h'.get? c = some o) →
      Q (.ref (s.heap.objs.size + 4)) { s with heap := h' }) : wpAny (model prog w) A (call (.type "zip") [.ref l1, .ref l2]) Q E s := by
  refine callType_new F.called_zip (by decide) (F.typeCall_zip_2 _ _) (F.newCall_zip_2 _ _) (fun obj => F.args_object_init_3 obj _ _) F.entry_zip_new (zip_made (kd := kd) (kd2 := kd2) (xs := xs) (ys := ys)) ⟨h1, h2, ?_⟩
  have at0 : (zipAll kd kd2 s.heap l1 l2).get? s.heap.objs.size = some (itO kd l1) := Heap.get?_push_of_some _ (Heap.get?_push_of_some _ (Heap.get?_push_of_some _ (Heap.get?_push_of_some _ (Heap.get?_push_size _ rfl))))
  have sz1 : (s.heap.push (itO kd l1)).objs.size = s.heap.objs.size + 1 := Heap.size_push ..
  have sz2 : ((s.heap.push (itO kd l1)).push (itO kd2 l2)).objs.size = s.heap.objs.size + 2 := by rw [Heap.size_push, sz1]
  have sz3 : (((s.heap.push (itO kd l1)).push (itO kd2 l2)).push { cls := .type "tuple", data := .seq #[.ref s.heap.objs.size, .ref (s.heap.objs.size + 1)] }).objs.size = s.heap.objs.size + 3 := by rw [Heap.size_push, sz2]
  have sz4 : ((((s.heap.push (itO kd l1)).push (itO kd2 l2)).push { cls := .type "tuple", data := .seq #[.ref s.heap.objs.size, .ref (s.heap.objs.size + 1)] }).push { cls := .type "tuple", data := .seq #[.none, .none] }).objs.size = s.heap.objs.size + 4 := by rw [Heap.size_push, sz3]
  have at1 : (zipAll kd kd2 s.heap l1 l2).get? (s.heap.objs.size + 1) = some (itO kd2 l2) := by rw [← sz1]; exact Heap.get?_push_of_some _ (Heap.get?_push_of_some _ (Heap.get?_push_of_some _ (Heap.get?_push_size _ rfl)))
  have at2 : IsPair (zipAll kd kd2 s.heap l1 l2) (s.heap.objs.size + 2) (.ref s.heap.objs.size) (.ref (s.heap.objs.size + 1)) := by
    have q : (zipAll kd kd2 s.heap l1 l2).get? ((s.heap.push (itO kd l1)).push (itO kd2 l2)).objs.size = some { cls := .type "tuple", data := .seq #[.ref s.heap.objs.size, .ref (s.heap.objs.size + 1)] } := Heap.get?_push_of_some _ (Heap.get?_push_of_some _ (Heap.get?_push_size _ rfl))
    rw [sz2] at q; exact q
  have at3 : IsPair (zipAll kd kd2 s.heap l1 l2) (s.heap.objs.size + 3) .none .none := by
    have q : (zipAll kd kd2 s.heap l1 l2).get? (((s.heap.push (itO kd l1)).push (itO kd2 l2)).push { cls := .type "tuple", data := .seq #[.ref s.heap.objs.size, .ref (s.heap.objs.size + 1)] }).objs.size = some { cls := .type "tuple", data := .seq #[.none, .none] } := Heap.get?_push_of_some _ (Heap.get?_push_size _ rfl)
    rw [sz3] at q; exact q
  have at4 : IsZip (zipAll kd kd2 s.heap l1 l2) (s.heap.objs.size + 4) (s.heap.objs.size + 2) (s.heap.objs.size + 3) .none := by
    have q : (zipAll kd kd2 s.heap l1 l2).get? ((((s.heap.push (itO kd l1)).push (itO kd2 l2)).push { cls := .type "tuple", data := .seq #[.ref s.heap.objs.size, .ref (s.heap.objs.size + 1)] }).push { cls := .type "tuple", data := .seq #[.none, .none] }).objs.size =
      some { cls := .type "zip", data := .fields #[.none, .bool false, .bool false, .ref (s.heap.objs.size + 2), .ref (s.heap.objs.size + 3)] } := Heap.get?_push_size _ rfl
    rw [sz4] at q; exact q
  exact ⟨⟨_, at4, rfl⟩, h _ ⟨at4, at2, at3, ⟨_, at0, rfl, rfl⟩, ⟨_, at1, rfl, rfl⟩⟩ fun c o q => Heap.get?_push_of_some _ (Heap.get?_push_of_some _ (Heap.get?_push_of_some _ (Heap.get?_push_of_some _ (Heap.get?_push_of_some _ q))))⟩
end

/-! ### in the layer -/
/-- a list (true) or a tuple that is read -/
def Sq (kd : Bool) (K : PySem.W.Frag) (H : Hp) (a : Addr) (xs : List V) : Prop := if kd = true then SqL K H a xs else SqT K H a xs
section
variable {X : Cx} {pins : List (Addr × Obj)} {σ : St} {H : Hp} {s : Shared}
theorem Inv.sq {kd : Bool} {a : Addr} {xs : List V} (I : Inv X pins σ H s) (h : Sq kd X.K H a xs) : ∃ its : List Value, Vals xs its ∧ SqH kd s.heap a its.toArray ∧ xs.length ≤ sizeLine := by
  cases kd with
  | true =>
    obtain ⟨its, r, p, z⟩ := I.list h
    exact ⟨its, r, p.isList, z⟩
  | false =>
    obtain ⟨its, r, p, z⟩ := I.tuple h
    exact ⟨its, r, p, z⟩
theorem Inv.sq_inj {kd : Bool} {a : Addr} {xs ys : List V} (I : Inv X pins σ H s) (h : Sq kd X.K H a xs) (h' : Sq kd X.K H a ys) : xs = ys := by
  cases kd with
  | true => exact I.list_inj h h'
  | false => exact I.tuple_inj h h'
theorem Same.sq {kd : Bool} {K : PySem.W.Frag} {H H' : Hp} {a : Addr} {xs : List V} (e : Same H H') (h : Sq kd K H a xs) : Sq kd K H' a xs := by
  cases kd with
  | true => exact e.seq h
  | false => exact e.sqt h
/-- records of ours have turned, and one new object is tracked -/
theorem Inv.turnedLaid {t' : Nat} {h' : Heap} {fp : List Addr} {T : Addr} {o : HO} (I : Inv X pins σ H s) (hf : ∀ b ∈ fp, FpOk X pins H b) (k : ∀ b o, b ∉ fp → s.heap.get? b = some o → h'.get? b = some o) (hT : s.heap.objs.size ≤ T)
    (new : ObjOk X.prog X.w (upd H T o) h' T o) (lo : ∀ ps, o ≠ .tbl ps) : Inv X pins σ (upd H T o) { s with heap := h', toks := t' } := by
  have nT : H T = none := I.hok.fresh hT
  have ne : ∀ b u, H b = some u → b ≠ T := fun b u e => ne_of_none e nT
  have neO : ∀ b o, s.heap.get? b = some o → b ≠ T := fun b o e z => absurd (Nat.lt_of_lt_of_le (Heap.lt_size e) (by rw [z]; exact hT)) (Nat.lt_irrefl _)
  have nf : ∀ b u, H b = some u → b ∉ fp := fun b u e z => by rw [(hf b z).1] at e; cases e
  refine I.step (g' := s.gens) (d' := s.drawn) (ch := fp) (fun b hb => ⟨(hf b hb).2.2.2.1, (hf b hb).2.1, (hf b hb).2.2.2.2.1, (hf b hb).2.2.2.2.2⟩) (fun b o _ _ hc e _ => k b o hc e) (fun b o _ _ hc e _ => ⟨o.slots, k b o hc e⟩)
    (fun b o _ e n => by rw [upd_ne (neO b o e)]; exact n) (fun b o hc e => ⟨o, k b o hc e⟩) (fun b xs e => by rw [upd_ne (ne b _ e)]; exact e) (fun b o u e => by rw [upd_ne (ne b _ e)]; exact e) (fun b ps e => ⟨#[], by rw [upd_ne (ne b _ e), e]; simp⟩) (fun m hm => ?_) (fun b u e => ?_) I.bare
  · obtain ⟨o, es, ep, ho, r⟩ := hm
    exact ⟨o, es, ep, k _ o (fun z => (hf _ z).2.1 rfl) ho, r⟩
  · by_cases hb : b = T
    · subst hb
      rw [upd_same] at e
      cases e
      exact new
    · rw [upd_ne hb] at e
      refine (I.hok b u e).stay (fun c v hc q => k c v ?_ q) (fun c q => by rw [upd_ne (ne c _ q)]; exact q) fun c xs q => by rw [upd_ne (ne c _ q)]; exact q
      rcases hc with z | z
      · rw [z]; exact nf b u e
      · exact nf c _ z
theorem Inv.turnedAll {t' : Nat} {h' : Heap} {fp : List Addr} (I : Inv X pins σ H s) (hf : ∀ b ∈ fp, FpOk X pins H b) (k : ∀ b o, b ∉ fp → s.heap.get? b = some o → h'.get? b = some o) : Inv X pins σ H { s with heap := h', toks := t' } := by
  have nf : ∀ b u, H b = some u → b ∉ fp := fun b u e z => by rw [(hf b z).1] at e; cases e
  refine I.step (g' := s.gens) (d' := s.drawn) (ch := fp) (fun b hb => ⟨(hf b hb).2.2.2.1, (hf b hb).2.1, (hf b hb).2.2.2.2.1, (hf b hb).2.2.2.2.2⟩) (fun b o _ _ hc e _ => k b o hc e) (fun b o _ _ hc e _ => ⟨o.slots, k b o hc e⟩)
    (fun b o _ e n => n) (fun b o hc e => ⟨o, k b o hc e⟩) (fun b xs e => e) (fun b o u e => e) (fun b ps e => ⟨#[], by rw [e]; simp⟩) (fun m hm => ?_) (fun b u e => ?_) I.bare
  · obtain ⟨o, es, ep, ho, r⟩ := hm
    exact ⟨o, es, ep, k _ o (fun z => (hf _ z).2.1 rfl) ho, r⟩
  · refine (I.hok b u e).stay (fun c v hc q => k c v ?_ q) (fun c q => q) fun c xs q => q
    rcases hc with z | z
    · rw [z]; exact nf b u e
    · exact nf c _ z
end
/-- pairs of the items at a1 and a2 -/
def Itz (k1 k2 : Bool) (K : PySem.W.Frag) (a1 a2 : Addr) : It :=
  ⟨fun i H => ∃ xs ys, Sq k1 K H a1 xs ∧ Sq k2 K H a2 ys ∧ i < xs.length ∧ i < ys.length,
   fun i H v H' => ∃ T x y, v = .ref T ∧ H T = none ∧ H' = upd H T (.tup [x, y]) ∧ (∀ xs, Sq k1 K H a1 xs → xs[i]? = some x) ∧ ∀ ys, Sq k2 K H a2 ys → ys[i]? = some y,
   fun i H => ∃ xs ys, Sq k1 K H a1 xs ∧ Sq k2 K H a2 ys ∧ (xs.length ≤ i ∨ ys.length ≤ i)⟩
theorem vals_at {xs : List V} {its : List Value} {i : Nat} {u : Value} (r : Vals xs its) (h : its.toArray[i]? = some u) : ∃ x, xs[i]? = some x ∧ RelV x u := Vals.get' r (by simpa using h)
theorem vals_end {xs : List V} {its : List Value} {i : Nat} (r : Vals xs its) (h : its.toArray[i]? = none) : xs.length ≤ i := by
  have e := r.length
  have q : its.length ≤ i := by simpa using h
  omega
theorem turn_zip {P : Program} {w : World} {K : PySem.W.Frag} {es : List Expr} {ek : Nat} {ep : Pos} {k1 k2 : Bool} {z TI TO i1 i2 l1 l2 : Addr} (D : ZipApart z TI TO i1 i2 l1 l2) : Turn P w K (.Tuple es ek ep) (Itz k1 k2 K l1 l2) [z, TI, TO, i1, i2] z (fun i h => ∃ a b, ZS k1 k2 z TI TO i1 i2 l1 l2 .none a b i i h) where
  mem := by simp
  obj := fun i h ⟨a, b, Z⟩ c hc => by
    have hc' : c = z ∨ c = TI ∨ c = TO ∨ c = i1 ∨ c = i2 := by simpa using hc
    rcases hc' with e | e | e | e | e
    · rw [e]; exact ⟨_, Z.z, fun v q => by cases q⟩
    · rw [e]; exact ⟨_, Z.ti, fun v q => by cases q⟩
    · rw [e]; exact ⟨_, Z.to, fun v q => by cases q⟩
    · rw [e]; obtain ⟨o, ho, _, d⟩ := Z.s1; exact ⟨o, ho, fun v q => by rw [d] at q; cases q⟩
    · rw [e]; obtain ⟨o, ho, _, d⟩ := Z.s2; exact ⟨o, ho, fun v q => by rw [d] at q; cases q⟩
  keep := fun i h h' ⟨a, b, Z⟩ k => ⟨a, b, Z.keeps fun c o hc e => k c hc o e⟩
  item := by
    intro X hP hw hK hcalm i pins s σ H E I hf ⟨a, b, Z⟩ hg
    subst hP hw hK
    obtain ⟨xs, ys, h1, h2, hi1, hi2⟩ := hg
    obtain ⟨its1, r1, p1, z1⟩ := I.sq h1
    obtain ⟨its2, r2, p2, z2⟩ := I.sq h2
    have L1 := r1.length
    have L2 := r2.length
    have sub : ∀ c, c ∉ [z, TI, TO, i1, i2] → c ∉ [z, TO, i1, i2] := fun c n q => n (by simp at q ⊢; rcases q with e | e | e | e <;> simp [e])
    refine pyNext_zip D Z p1 p2 (fun x y h' ex ey Z' pT k => ?_) fun n => ?_
    · obtain ⟨x', ex', rx⟩ := vals_at r1 ex
      obtain ⟨y', ey', ry⟩ := vals_at r2 ey
      refine ⟨_, rfl, wpAny_letOwnedTupleGo_zip Z'.z fun h'' zz e'' => ?_⟩
      have nT : s.heap.objs.size ≠ z := Nat.ne_of_gt (Heap.lt_size Z.z)
      have Z'' := Z'.turnZ D (f' := .none) zz e''
      have pT' : IsPair h'' s.heap.objs.size x y := e''.extBut _ _ nT pT
      have nz : ∀ c, c ∉ [z, TI, TO, i1, i2] → c ≠ z := fun c n q => n (by simp [q])
      have I1 : Inv X pins σ (upd H s.heap.objs.size (.tup [x', y'])) { s with heap := h'' } := I.turnedLaid (t' := s.toks) hf (fun c o n e => e''.extBut _ _ (nz c n) (k c o (sub c n) e)) (Nat.le_refl _)
        ⟨by show 2 ≤ sizeLine; decide, [x, y], .cons rx (.cons ry .nil), ⟨_, pT', rfl, _, rfl⟩⟩ (fun ps q => by cases q)
      refine ⟨.ref s.heap.objs.size, _, I1, rfl, ⟨_, x', y', rfl, I.hok.fresh (Nat.le_refl _), rfl, fun xs' q => by rw [I.sq_inj q h1]; exact ex', fun ys' q => by rw [I.sq_inj q h2]; exact ey'⟩, ⟨_, _, Z''⟩, fun c hc => ?_⟩
      have lt : c < s.heap.objs.size := by
        have hc' : c = z ∨ c = TI ∨ c = TO ∨ c = i1 ∨ c = i2 := by simpa using hc
        rcases hc' with e | e | e | e | e
        · rw [e]; exact Heap.lt_size Z.z
        · rw [e]; exact Heap.lt_size Z.ti
        · rw [e]; exact Heap.lt_size Z.to
        · rw [e]; obtain ⟨o, ho, _⟩ := Z.s1; exact Heap.lt_size ho
        · rw [e]; obtain ⟨o, ho, _⟩ := Z.s2; exact Heap.lt_size ho
      rw [upd_ne (Nat.ne_of_lt lt)]
      exact (hf c hc).1
    · exfalso
      rcases n with n | n
      · have q := vals_end r1 n; omega
      · have q := vals_end r2 n; omega
  done := by
    intro X hP hw hK hcalm i pins s σ H E I hf ⟨a, b, Z⟩ hg
    subst hP hw hK
    obtain ⟨xs, ys, h1, h2, hi⟩ := hg
    obtain ⟨its1, r1, p1, z1⟩ := I.sq h1
    obtain ⟨its2, r2, p2, z2⟩ := I.sq h2
    have sub : ∀ c, c ∉ [z, TI, TO, i1, i2] → c ∉ [z, TO, i1, i2] := fun c n q => n (by simp at q ⊢; rcases q with e | e | e | e <;> simp [e])
    refine pyNext_zip D Z p1 p2 (fun x y h' ex ey Z' pT k => ?_) fun n => ⟨I.ok.hd hcalm, fun h' k => ⟨rfl, I.turnedAll (t' := s.toks) hf fun c o n e => k c o (sub c n) e⟩⟩
    exfalso
    obtain ⟨x', ex', _⟩ := vals_at r1 ex
    obtain ⟨y', ey', _⟩ := vals_at r2 ey
    have q1 := (List.getElem?_eq_some_iff.mp ex').1
    have q2 := (List.getElem?_eq_some_iff.mp ey').1
    omega
  self := fun _ _ _ _ _ ⟨_, _, Z⟩ h => wpAny_pyIter_zip Z.z h

section
variable {X : Cx} {es : List Expr} {ek : Nat} {ep : Pos}
def iZip (k1 k2 : Bool) (K : PySem.W.Frag) (ta : TA) : TI := fun σ H R => ta σ H fun vs H1 => ∃ (a b : Addr) (xs ys : List V), vs = [.ref a, .ref b] ∧ Sq k1 K H1 a xs ∧ Sq k2 K H1 b ys ∧ R (Itz k1 k2 K a b) H1
theorem pi_zip {k1 k2 : Bool} {a b : Expr} {ta : TA} {p pos : Pos} (hg : Gl X "zip") (hm : X.mg "zip" = none) (ha : PA X [a, b] ta) (hs : starEach [a, b] X.env = [(false, eval a X.env), (false, eval b X.env)] := by rfl) (hs2 : starEach [b] X.env = [(false, eval b X.env)] := by rfl) :
    PI X (.Tuple es ek ep) (.Call (.Name "zip" p) [a, b] [] pos) (iZip k1 k2 X.K ta) := by
  intro pins s σ H R I h
  refine Call_ (ld_blt I hg hm (by decide +kernel : bootBuiltins "zip" = some (.type "zip")) (PyProof.Rows.callWith_type1 (thn (ha pos pins s σ H _ I h) fun us s1 ⟨vs, H1, I1, r1, q1⟩ => ?_) (by rw [hs, hs2]) (by rw [hs2]; rfl)))
  obtain ⟨c, d, xs, ys, e, g1, g2, q⟩ := q1
  subst e
  obtain ⟨u1, u2, rfl, e1, e2⟩ := vals2 r1
  obtain rfl : u1 = Value.ref c := e1
  obtain rfl : u2 = Value.ref d := e2
  obtain ⟨its1, _, p1, _⟩ := I1.sq g1
  obtain ⟨its2, _, p2, _⟩ := I1.sq g2
  have lt1 : c < s1.heap.objs.size := let ⟨o, e, _⟩ := p1; Heap.lt_size e
  have lt2 : d < s1.heap.objs.size := let ⟨o, e, _⟩ := p2; Heap.lt_size e
  refine call_zip p1 p2 fun h' Z k => ?_
  have I2 : Inv X pins σ H1 { s1 with heap := h' } := I1.kept (t' := s1.toks) k
  refine wpAny_pyIter_zip Z.z ⟨_, _, _, _, H1, rfl, I2, turn_zip (zip_apart lt1 lt2), ⟨_, _, Z⟩, fun b hb => ?_, q⟩
  have hb' : b = s1.heap.objs.size + 4 ∨ b = s1.heap.objs.size + 2 ∨ b = s1.heap.objs.size + 3 ∨ b = s1.heap.objs.size ∨ b = s1.heap.objs.size + 1 := by simpa using hb
  have le : s1.heap.objs.size ≤ b := by
    rcases hb' with e | e | e | e | e <;> rw [e]
    · exact Nat.le_add_right _ _
    · exact Nat.le_add_right _ _
    · exact Nat.le_add_right _ _
    · exact Nat.le_refl _
    · exact Nat.le_add_right _ _
  exact I1.fpOk le (I1.hok.fresh le)
end
end L2

set_option Elab.async false
set_option linter.all false
set_option maxRecDepth 100000
/-! the forms one uses: comprehensions and loops over ranges, lists, zips; a chain of three; min with a default -/
namespace L2
open PySem PySem.Spec PyProof.Rows

/-- where a def of the text stands, and how it is bound -/
structure FnAt (K : PySem.W.Frag) (mg : Str → Option Value) (x : Str) (ps : List Str) (f : Addr) (fd : FuncData) : Prop where
  m : mg x = some (.ref f)
  k : PySem.W.keepIn K (.ref f) = true
  b : Binds K fd ps []

/-- an object of the module by its name -/
theorem pe_gref {X : Cx} {x : Str} {a : Addr} {pos : Pos} (hg : Gl X x) (hm : X.mg x = some (.ref a)) (hd : (x == ("__debug__" : Str)) = false := by decide) : PE X (.Name x pos) (tC (.ref a)) := pe_glob hg hm rfl hd
theorem Same.new {H : Hp} {a : Addr} {o : HO} (h : H a = none) : Same H (upd H a o) := fun b u e => by rw [upd_ne (ne_of_none e h)]; exact e
/-- a change at an address that is new since H -/
theorem Same.upd {H H' : Hp} {a : Addr} {o : HO} (s : Same H H') (h : H a = none) : Same H (upd H' a o) := fun b u e => by rw [upd_ne (ne_of_none e h)]; exact s b u e

section
variable {g : TG} {tc : TT} {te : TE} {σ0 : St} {H1 : Hp} {fin : List V → Hp → Prop}
theorem lc_of {J : It} {n : Nat} (Pv : Nat → List V → Hp → Prop) (h0 : Pv 0 [] H1) (hn : ∀ ys H, Pv n ys H → J.stop n H ∧ fin ys H)
    (hs : ∀ i ys H, i < n → Pv i ys H → J.go i H ∧ ys.length < sizeLine ∧ ∀ x H', J.yld i H x H' → g x σ0 H' fun σ2 H2 => Sub σ0 σ2 ∧ tc σ2 H2 fun b H3 => if b = true then te σ2 H3 fun v H4 => Pv (i + 1) (ys ++ [v]) H4 else Pv (i + 1) ys H3) :
    LCr J H1 σ0 g tc te fin := by
  refine ⟨fun i m ys H => m = n - i ∧ i ≤ n ∧ Pv i ys H, ⟨n, by simp, Nat.zero_le _, h0⟩, ?_⟩
  rintro i m ys H ⟨rfl, hi, p⟩
  by_cases hlt : i < n
  · obtain ⟨a, b, c⟩ := hs i ys H hlt p
    exact .inr ⟨a, b, Pv (i + 1), fun ys' H' p' => ⟨n - (i + 1), by omega, rfl, hlt, p'⟩, c⟩
  · have e : i = n := by omega
    subst e
    exact .inl (hn ys H p)
/-- over range -/
theorem lc_range {lo : Int} {n : Nat} (Pv : Nat → List V → Hp → Prop) (h0 : Pv 0 [] H1) (hd : ∀ ys H, Pv n ys H → fin ys H)
    (hs : ∀ i ys H, i < n → Pv i ys H → ys.length < sizeLine ∧ g (.int (lo + i)) σ0 H fun σ2 H2 => Sub σ0 σ2 ∧ tc σ2 H2 fun b H3 => if b = true then te σ2 H3 fun v H4 => Pv (i + 1) (ys ++ [v]) H4 else Pv (i + 1) ys H3) :
    LCr (Itr lo n) H1 σ0 g tc te fin := by
  refine lc_of (n := n) Pv h0 (fun ys H p => ⟨Nat.le_refl _, hd ys H p⟩) fun i ys H hi p => ?_
  obtain ⟨a, b⟩ := hs i ys H hi p
  refine ⟨hi, a, fun x H' y => ?_⟩
  obtain ⟨e, y⟩ := y
  subst e y
  exact b
/-- over a list that stays -/
theorem lc_list {K : PySem.W.Frag} {a : Addr} {xs : List V} (Pv : Nat → List V → Hp → Prop) (h0 : Pv 0 [] H1) (hl : ∀ i ys H, Pv i ys H → SqL K H a xs) (hd : ∀ ys H, Pv xs.length ys H → fin ys H)
    (hs : ∀ i x ys H, xs[i]? = some x → Pv i ys H → ys.length < sizeLine ∧ g x σ0 H fun σ2 H2 => Sub σ0 σ2 ∧ tc σ2 H2 fun b H3 => if b = true then te σ2 H3 fun v H4 => Pv (i + 1) (ys ++ [v]) H4 else Pv (i + 1) ys H3) :
    LCr (Itl K a) H1 σ0 g tc te fin := by
  refine lc_of (n := xs.length) Pv h0 (fun ys H p => ⟨⟨xs, hl _ ys H p, Nat.le_refl _⟩, hd ys H p⟩) fun i ys H hi p => ?_
  have e : xs[i]? = some xs[i] := List.getElem?_eq_getElem hi
  obtain ⟨b, c⟩ := hs i _ ys H e p
  refine ⟨⟨xs, _, hl i ys H p, e⟩, b, fun x H' y => ?_⟩
  obtain ⟨z, y⟩ := y
  have q := y xs (hl i ys H p)
  rw [e] at q
  cases q
  subst z
  exact c
/-- over a zip of two that stay and are as long -/
theorem lc_zip {k1 k2 : Bool} {K : PySem.W.Frag} {a b : Addr} {xs zs : List V} (hlen : xs.length = zs.length) (Pv : Nat → List V → Hp → Prop) (h0 : Pv 0 [] H1) (hl : ∀ i ys H, Pv i ys H → Sq k1 K H a xs ∧ Sq k2 K H b zs) (hd : ∀ ys H, Pv xs.length ys H → fin ys H)
    (hs : ∀ i x z T ys H, xs[i]? = some x → zs[i]? = some z → Pv i ys H → H T = none → ys.length < sizeLine ∧ g (.ref T) σ0 (upd H T (.tup [x, z])) fun σ2 H2 => Sub σ0 σ2 ∧ tc σ2 H2 fun b H3 => if b = true then te σ2 H3 fun v H4 => Pv (i + 1) (ys ++ [v]) H4 else Pv (i + 1) ys H3)
    (hz : ∀ i ys H, Pv i ys H → ys.length < sizeLine) : LCr (Itz k1 k2 K a b) H1 σ0 g tc te fin := by
  refine lc_of (n := xs.length) Pv h0 (fun ys H p => ⟨⟨xs, zs, (hl _ ys H p).1, (hl _ ys H p).2, .inl (Nat.le_refl _)⟩, hd ys H p⟩) fun i ys H hi p => ?_
  have e1 : xs[i]? = some xs[i] := List.getElem?_eq_getElem hi
  have e2 : zs[i]? = some (zs[i]'(hlen ▸ hi)) := List.getElem?_eq_getElem (hlen ▸ hi)
  refine ⟨⟨xs, zs, (hl i ys H p).1, (hl i ys H p).2, hi, hlen ▸ hi⟩, hz i ys H p, fun v H' y => ?_⟩
  obtain ⟨T, x, z, rfl, nT, rfl, q1, q2⟩ := y
  exact (hs i x z T ys H (q1 xs (hl i ys H p).1) (q2 zs (hl i ys H p).2) p nT).2
end
/-- for a, b in zip(..) -/
theorem for_zip {k1 k2 : Bool} {K : PySem.W.Frag} {a b : Addr} {xs zs : List V} {g : TG} {tb : TS} {D : Ends} {σ : St} {H : Hp} (hlen : xs.length = zs.length) (Pv : Nat → St → Hp → Prop) (h0 : Pv 0 σ H) (hl : ∀ i σ H, Pv i σ H → Sq k1 K H a xs ∧ Sq k2 K H b zs)
    (hs : ∀ i x z T σ H, xs[i]? = some x → zs[i]? = some z → Pv i σ H → H T = none → g (.ref T) σ (upd H T (.tup [x, z])) fun σ2 H2 => tb { D with nx := Pv (i + 1), ct := Pv (i + 1), bk := D.nx } σ2 H2) (hd : ∀ σ H, Pv xs.length σ H → D.nx σ H) :
    ∃ W : Nat → Nat → St → Hp → Prop, (∃ m, W 0 m σ H) ∧ ∀ i m σ H, W i m σ H →
      ((Itz k1 k2 K a b).stop i H ∧ D.nx σ H) ∨ ((Itz k1 k2 K a b).go i H ∧ ∃ N : St → Hp → Prop, (∀ σ' H', N σ' H' → ∃ m', m' < m ∧ W (i + 1) m' σ' H') ∧ ∀ x H', (Itz k1 k2 K a b).yld i H x H' → g x σ H' fun σ2 H2 => tb { D with nx := N, ct := N, bk := D.nx } σ2 H2) := by
  refine ⟨fun i m σ H => m = xs.length - i ∧ i ≤ xs.length ∧ Pv i σ H, ⟨xs.length, by simp, Nat.zero_le _, h0⟩, ?_⟩
  rintro i m σ H ⟨rfl, hi, p⟩
  obtain ⟨q1, q2⟩ := hl i σ H p
  by_cases hlt : i < xs.length
  · refine .inr ⟨⟨xs, zs, q1, q2, hlt, hlen ▸ hlt⟩, Pv (i + 1), fun σ' H' p' => ⟨xs.length - (i + 1), by omega, rfl, hlt, p'⟩, fun v H' y => ?_⟩
    obtain ⟨T, x, z, rfl, nT, rfl, r1, r2⟩ := y
    exact hs i x z T σ H (r1 xs q1) (r2 zs q2) p nT
  · have e : i = xs.length := by omega
    subst e
    exact .inl ⟨⟨xs, zs, q1, q2, .inl (Nat.le_refl _)⟩, hd σ H p⟩

/-! ### a op b op c op d, as a test -/
section
variable {X : Cx} {a b c d : Expr} {ta tb tc td : TE} {pos : Pos}
def tChain3 (r r' r'' : R2) (ta tb tc td : TE) : TT := fun σ H Q => ta σ H fun x H1 => tb σ H1 fun y H2 => r x y H2 fun z H3 => ∃ k, z = .bl k ∧
  (if k = true then tc σ H3 fun y' H4 => r' y y' H4 fun z' H5 => ∃ k', z' = .bl k' ∧ (if k' = true then td σ H5 fun y'' H6 => r'' y' y'' H6 fun z'' H7 => ∃ k'', z'' = .bl k'' ∧ Q k'' H7 else Q false H5) else Q false H3)
theorem pt_chain3 {op op' op'' : CmpOp} {r r' r'' : R2} (ho : OpR X (compareOp op) r) (ho' : OpR X (compareOp op') r') (ho'' : OpR X (compareOp op'') r'') (ha : PE X a ta) (hb : PE X b tb) (hc : PE X c tc) (hd : PE X d td)
    (hm : lastMarks [op, op', op''] [b, c, d] = false := by with_unfolding_all rfl) : PT X (.Compare a [op, op', op''] [b, c, d] pos) (tChain3 r r' r'' ta tb tc td) := by
  intro pins s σ H Q I h
  refine isTrue_chain (thn (ha pins s σ H _ I h) fun v s1 ⟨x, H1, I1, r1, q1⟩ => test_link (thn (hb pins s1 σ H1 _ I1 q1) fun u s2 ⟨y, H2, I2, r2, q2⟩ =>
    thn (ho pins s2 σ H2 x y v u _ I2 r1 r2 q2) fun e s3 ⟨z, H3, I3, r3, k, ez, q3⟩ => ?_)) hm
  subst ez
  cases r3
  refine wpAny_truthy_bool ?_
  cases k with
  | false => exact ite_ff ⟨H3, I3, q3⟩
  | true =>
    refine ite_tt (test_link (thn (hc pins s3 σ H3 _ I3 q3) fun u' s4 ⟨y', H4, I4, r4, q4⟩ => thn (ho' pins s4 σ H4 y y' u u' _ I4 r2 r4 q4) fun e' s5 ⟨z', H5, I5, r5, k', ez', q5⟩ => ?_))
    subst ez'
    cases r5
    refine wpAny_truthy_bool ?_
    cases k' with
    | false => exact ite_ff ⟨H5, I5, q5⟩
    | true =>
      refine ite_tt (test_last (thn (hd pins s5 σ H5 _ I5 q5) fun u'' s6 ⟨y'', H6, I6, r6, q6⟩ => thn (ho'' pins s6 σ H6 y' y'' u' u'' _ I6 r4 r6 q6) fun e'' s7 ⟨z'', H7, I7, r7, k'', ez'', q7⟩ => ?_))
      subst ez''
      cases r7
      exact wpAny_truthy_bool ⟨H7, I7, q7⟩
end

/-! ### min(a list of tuples of ints, default=..) -/
/-- the place of the first least one -/
def leastIx : List (List Int) → Option Nat
  | [] => none
  | x :: r => some ((r.zipIdx 1).foldl (fun (b : Nat × List Int) p => if HT.lexLt p.1 b.2 = true then (p.2, p.1) else b) (0, x)).1
section
variable {prog : Program} {w : World} {A : Around} {E : Value → Shared → Prop} {s : Shared} {R : Result → Shared → Prop}
/-- the items, each a tuple of these ints -/
def TupsAt (h : Heap) (its : List Value) (nss : List (List Int)) : Prop := Paired (fun v ns => ∃ t items, v = .ref t ∧ IsTup h t items ∧ IntsAre items.toList ns) its nss
theorem TupsAt.keep {h h' : Heap} {its : List Value} {nss : List (List Int)} (x : TupsAt h its nss) (k : ∀ v ∈ its, ∀ t, v = .ref t → ∀ o, h.get? t = some o → h'.get? t = some o) : TupsAt h' its nss := by
  induction x with
  | nil => exact .nil
  | cons a r ih =>
    obtain ⟨t, items, e, ⟨o, ho, rr⟩, hi⟩ := a
    exact .cons ⟨t, items, e, ⟨o, k _ List.mem_cons_self t e o ho, rr⟩, hi⟩ (ih fun v hv => k v (List.mem_cons_of_mem _ hv))
theorem min_go {I ax S : Addr} {all : Array Value} {d : Value} (hh : A.handled = none) (hu : A.units + 1 < cLine) (hne : ax ≠ I) (hS : S ≠ I) (hSa : S ≠ ax) : ∀ (rest : List Value) (nss : List (List Int)) (i : Nat) (s : Shared) (b : Nat) (bv : Value) (bn : List Int) (c : Nat),
    all.toList.drop i = rest → s.heap.IsListIter I ax i → s.heap.IsList ax all → s.heap.get? S = some { cls := .type "list", data := .seq #[bv, bv] c } → all[b]? = some bv → TupsAt s.heap (bv :: rest) (bn :: nss) →
    (∀ v ∈ bv :: rest, ∀ t, v = .ref t → t ≠ I ∧ t ≠ S) →
    (∀ h' v, (∀ x o, x ≠ I → x ≠ S → s.heap.get? x = some o → h'.get? x = some o) → all[((nss.zipIdx i).foldl (fun (b : Nat × List Int) p => if HT.lexLt p.1 b.2 = true then (p.2, p.1) else b) (b, bn)).1]? = some v → R (.ok (.ret v)) { s with heap := h' }) →
    codeAny (model prog w) A (.builtin "min.loop" ⟨[.ref I, .none, .ref S], [("default", d)]⟩) R s := by
  intro rest
  induction rest with
  | nil =>
    intro nss i s b bv bn c hd hit hl hb hbx T hap hR
    have hn : nss = [] := by cases T with | cons _ r => cases r; rfl
    subst hn
    have hend : all[i]? = none := by
      have q : all.toList.length ≤ i := by
        have z := congrArg List.length hd
        rw [List.length_drop] at z
        simp only [List.length_nil] at z
        omega
      simpa using q
    refine codeAny_builtin F.entry_min_loop ?_
    rw [Around.under_plainId F.plain_min_loop _]
    show wpAny _ A.in1 (seqItems? (.ref S) >>= fun _ => _) _ _ s
    refine wpAny_bind (wpAny_seqItems hb rfl ?_)
    show wpAny _ A.in1 (tryCatch (pyNext (.ref I)) _ >>= fun _ => _) _ _ s
    refine wpAny_bind (wpAny_tryCatch (wpAny_pyNext_list_end (show A.in1.handled = none from hh) hit hl hend fun h' eb => ?_))
    show wpAny _ A.in1 (updateSeq S (fun _ => #[]) >>= fun _ => _) _ _ _
    refine wpAny_bind (wpAny_updateSeq (eb _ _ hS hb) rfl (wpAny_bind (wpAny_letGo (wpAny_pure (hR _ bv (fun x o n1 n2 e => ?_) hbx)))))
    exact (Heap.get?_update_other _ _ (Ne.symm n2)).trans (eb _ _ n1 e)
  | cons v rest ih =>
    intro nss i s b bv bn c hd hit hl hb hbx T hap hR
    obtain ⟨n, nss, rfl, T0, Tv, Tr⟩ : ∃ n nss', nss = n :: nss' ∧ (∃ t items, bv = .ref t ∧ IsTup s.heap t items ∧ IntsAre items.toList bn) ∧ (∃ t items, v = .ref t ∧ IsTup s.heap t items ∧ IntsAre items.toList n) ∧ TupsAt s.heap rest nss' := by
      cases T with
      | cons a r => cases r with | cons x y => exact ⟨_, _, rfl, a, x, y⟩
    have hv : all[i]? = some v := by
      have z := congrArg (fun l => l[0]?) hd
      simpa using z
    have hd' : all.toList.drop (i + 1) = rest := by
      have z := congrArg (List.drop 1) hd
      rw [List.drop_drop] at z
      simpa using z
    refine codeAny_builtin F.entry_min_loop ?_
    rw [Around.under_plainId F.plain_min_loop _]
    show wpAny _ A.in1 (seqItems? (.ref S) >>= fun _ => _) _ _ s
    refine wpAny_bind (wpAny_seqItems hb rfl ?_)
    show wpAny _ A.in1 (tryCatch (pyNext (.ref I)) _ >>= fun _ => _) _ _ s
    refine wpAny_bind (wpAny_tryCatch (wpAny_pyNext_list_item hit hl hv fun h' hit' hs' => ?_))
    have k' : ∀ x o, x ≠ I → s.heap.get? x = some o → h'.get? x = some o := fun x o n e => hs'.extBut _ _ n e
    have hb' := k' S _ hS hb
    obtain ⟨t1, it1, rfl, p1, i1⟩ := T0
    obtain ⟨t2, it2, rfl, p2, i2⟩ := Tv
    have ap1 := hap _ List.mem_cons_self t1 rfl
    have ap2 := hap _ (List.mem_cons_of_mem _ List.mem_cons_self) t2 rfl
    have p1' : IsTup h' t1 it1 := let ⟨o, e, r⟩ := p1; ⟨o, k' _ _ ap1.1 e, r⟩
    have p2' : IsTup h' t2 it2 := let ⟨o, e, r⟩ := p2; ⟨o, k' _ _ ap2.1 e, r⟩
    have Tr' : TupsAt h' rest nss := Tr.keep fun u hu t e o q => k' _ _ (hap u (List.mem_cons_of_mem _ (List.mem_cons_of_mem _ hu)) t e).1 q
    have hname : (toString "min" ++ toString ".loop" : String) = "min.loop" := by decide
    show wpAny _ A.in1 (tryCatch (holding [.ref t2, .ref t2] (richCompare .Lt (.ref t2) (.ref t1) >>= fun _ => _)) _ >>= fun _ => _) _ _ _
    refine wpAny_bind (wpAny_tryCatch (wpAny_holding (wpAny_bind (show wpAny _ _ (compareOp .Lt (.ref t2) (.ref t1)) _ _ _ from HT.lt_tupInts p2' p1' i2 i1 (by show A.in1.units < cLine; exact Nat.lt_of_le_of_lt (by first | exact Nat.le_refl _ | exact Nat.le_succ _) hu) ?_))))
    refine wpAny_bind (wpAny_holding (wpAny_truthy_bool (wpAny_bind (wpAny_letGo (wpAny_pure ?_)))))
    have fold : ((n :: nss).zipIdx i).foldl (fun (b : Nat × List Int) p => if HT.lexLt p.1 b.2 = true then (p.2, p.1) else b) (b, bn) = (nss.zipIdx (i + 1)).foldl (fun (b : Nat × List Int) p => if HT.lexLt p.1 b.2 = true then (p.2, p.1) else b) (if HT.lexLt n bn = true then (i, n) else (b, bn)) := by
      rw [List.zipIdx_cons, List.foldl_cons]
    rw [fold] at hR
    cases hlt : HT.lexLt n bn with
    | true =>
      rw [hlt, if_pos rfl] at hR
      simp only [if_true]
      have upS := Heap.get?_update_self (Obj.mapSeq fun _ => #[Value.ref t2, Value.ref t2]) hb' rfl
      refine wpAny_bind (wpAny_updateSeq hb' rfl (wpAny_bind (wpAny_letGo ?_)))
      rw [hname]
      have oth : ∀ x o, x ≠ S → h'.get? x = some o → (h'.update S (Obj.mapSeq fun _ => #[Value.ref t2, Value.ref t2])).get? x = some o := fun x o n e => (Heap.get?_update_other _ _ (Ne.symm n)).trans e
      refine wpAny_pure ⟨plainId_quiet F.plain_min_loop _, ih nss (i + 1) _ i (.ref t2) n _ hd' (hit'.at fun o e => oth _ _ (Ne.symm hS) e) ((hl.extBut hs'.extBut hne).at fun o e => oth _ _ (Ne.symm hSa) e) upS hv ?_ (fun u hu => hap u (List.mem_cons_of_mem _ hu)) fun h'' u kk e => ?_⟩
      · refine .cons ⟨t2, it2, rfl, let ⟨o, e, r⟩ := p2'; ⟨o, oth _ _ ap2.2 e, r⟩, i2⟩ (Tr'.keep fun u hu t e o q => oth _ _ (hap u (List.mem_cons_of_mem _ (List.mem_cons_of_mem _ hu)) t e).2 q)
      · exact hR h'' u (fun x o n1 n2 q => kk x o n1 n2 (oth x o n2 (k' x o n1 q))) e
    | false =>
      rw [hlt, if_neg Bool.false_ne_true] at hR
      simp only [Bool.false_eq_true, if_false]
      refine wpAny_bind (wpAny_letGo ?_)
      rw [hname]
      refine wpAny_pure ⟨plainId_quiet F.plain_min_loop _, ih nss (i + 1) _ b (.ref t1) bn c hd' hit' (hl.extBut hs'.extBut hne) hb' hbx (.cons ⟨t1, it1, rfl, p1', i1⟩ Tr') (fun u hu => ?_) fun h'' u kk e => hR h'' u (fun x o n1 n2 q => kk x o n1 n2 (k' x o n1 q)) e⟩
      rcases List.mem_cons.mp hu with z | z
      · rw [z]; exact hap _ List.mem_cons_self
      · exact hap u (List.mem_cons_of_mem _ (List.mem_cons_of_mem _ z))
theorem TupsAt.lt {h : Heap} {its : List Value} {nss : List (List Int)} (x : TupsAt h its nss) : ∀ v ∈ its, ∀ t, v = .ref t → t < h.objs.size := by
  induction x with
  | nil => exact fun v hv => nomatch hv
  | cons a r ih =>
    intro v hv t e
    rcases List.mem_cons.mp hv with z | z
    · obtain ⟨t', items, e', ⟨o, ho, _⟩, _⟩ := a
      have e2 := e'.symm.trans (z.symm.trans e)
      cases e2
      exact Heap.lt_size ho
    · exact ih v z t e
theorem args_minD (a d : Value) : argsOk "min" ⟨[a], [("default", d)]⟩ := by unfold argsOk; kernel_rfl
theorem call_minD {l : Addr} {its : List Value} {nss : List (List Int)} {d : Value} {Q : Value → Shared → Prop} (hh : A.handled = none) (hu : A.units + 1 < cLine) (hl : s.heap.IsList l its.toArray) (T : TupsAt s.heap its nss)
    (h0 : nss = [] → ∀ h', (∀ b o, s.heap.get? b = some o → h'.get? b = some o) → Q d { s with heap := h' })
    (h1 : ∀ j v h', leastIx nss = some j → its[j]? = some v → (∀ b o, s.heap.get? b = some o → h'.get? b = some o) → Q v { s with heap := h' }) :
    wpAny (model prog w) A (call (.builtin "min") [.ref l] [("default", d)]) Q E s := by
  refine wpAny_call (codeAny_call_builtin F.plain_min F.entry_min ?_)
  have ck : checkBuiltinCall "min" ⟨[.ref l], [("default", d)]⟩ = pure () := by
    have ha := args_minD (.ref l) d
    simp only [checkBuiltinCall, F.kind_min]
    cases hsig : Manifest.signature? "min" with
    | none => rfl
    | some sig =>
      have q : Bind.checkArgs "min" sig ⟨[.ref l], [("default", d)]⟩ = pure () := by simpa only [argsOk, hsig] using ha
      simp only [q]
  refine wpAny_of_eq ck ?_
  have hname : (toString "min" ++ toString ".loop" : String) = "min.loop" := by decide
  show wpAny _ A.in1 (Builtin.Builtins.bindParams "min" ["key", "default"] 0 ⟨[], [("default", d)]⟩ >>= fun _ => _) _ _ s
  refine wpAny_bind (wpAny_of_eq (show Builtin.Builtins.bindParams "min" ["key", "default"] 0 ⟨[], [("default", d)]⟩ = pure [none, some d] from by kernel_rfl) ?_)
  refine wpAny_bind (wpAny_pure (wpAny_bind (wpAny_pyIter_list hl (wpAny_bind (wpAny_newObj_type ?_)))))
  rw [hname]
  have lt : l < s.heap.objs.size := let ⟨o, e, _⟩ := hl; Heap.lt_size e
  have old : ∀ b o, s.heap.get? b = some o → ((s.heap.push { cls := .type "list_iterator", data := .fields #[.ref l, .int 0 0] }).push { cls := .type "list", data := .seq ([] : List Value).toArray }).get? b = some o := fun b o e => Heap.get?_push_of_some _ (Heap.get?_push_of_some _ e)
  have sz : (s.heap.push { cls := .type "list_iterator", data := .fields #[.ref l, .int 0 0] }).objs.size = s.heap.objs.size + 1 := Heap.size_push ..
  have hit : ((s.heap.push { cls := .type "list_iterator", data := .fields #[.ref l, .int 0 0] }).push { cls := .type "list", data := .seq ([] : List Value).toArray }).IsListIter s.heap.objs.size l 0 := ⟨_, Heap.get?_push_of_some _ (Heap.get?_push_size _ rfl), rfl, rfl⟩
  have hS := Heap.get?_push_size (s.heap.push { cls := .type "list_iterator", data := .fields #[.ref l, .int 0 0] }) (o := { cls := .type "list", data := .seq ([] : List Value).toArray }) rfl
  rw [sz] at hS
  generalize hH : ((s.heap.push { cls := .type "list_iterator", data := .fields #[.ref l, .int 0 0] }).push { cls := .type "list", data := .seq ([] : List Value).toArray }) = H2 at *
  have hl2 : H2.IsList l its.toArray := hl.at fun o e => old _ _ e
  have ltOf := T.lt
  have hSl : s.heap.objs.size + 1 ≠ l := Nat.ne_of_gt (Nat.lt_succ_of_lt lt)
  have hIl : l ≠ s.heap.objs.size := Nat.ne_of_lt lt
  have hSI : s.heap.objs.size + 1 ≠ s.heap.objs.size := Nat.ne_of_gt (Nat.lt_succ_self _)
  rw [sz]
  refine wpAny_pure ⟨plainId_quiet F.plain_min_loop _, codeAny_builtin F.entry_min_loop ?_⟩
  rw [Around.under_plainId F.plain_min_loop _]
  show wpAny _ A.in1 (seqItems? (.ref (s.heap.objs.size + 1)) >>= fun _ => _) _ _ _
  refine wpAny_bind (wpAny_seqItems hS rfl ?_)
  show wpAny _ A.in1 (tryCatch (pyNext (.ref s.heap.objs.size)) _ >>= fun _ => _) _ _ _
  have keep : ∀ {h' : Heap}, (∀ x o, x ≠ s.heap.objs.size → x ≠ s.heap.objs.size + 1 → H2.get? x = some o → h'.get? x = some o) → ∀ b o, s.heap.get? b = some o → h'.get? b = some o := fun k b o e => k b o (Nat.ne_of_lt (Heap.lt_size e)) (Nat.ne_of_lt (Nat.lt_succ_of_lt (Heap.lt_size e))) (old b o e)
  cases T with
  | nil =>
    refine wpAny_bind (wpAny_tryCatch (wpAny_pyNext_list_end (show A.in1.handled = none from hh) hit hl2 (by simp) fun h' eb => ?_))
    refine wpAny_bind (wpAny_rule (wpAny_pure ?_))
    exact h0 rfl h' (keep fun x o n1 _ e => eb _ _ n1 e)
  | @cons v n rest nss a r =>
    refine wpAny_bind (wpAny_tryCatch (wpAny_pyNext_list_item hit hl2 (x := v) (by simp) fun h' hit' hs' => ?_))
    refine wpAny_bind (wpAny_pure ?_)
    have hS' : h'.get? (s.heap.objs.size + 1) = some { cls := .type "list", data := .seq ([] : List Value).toArray } := hs'.extBut _ _ hSI hS
    have upS := Heap.get?_update_self (Obj.mapSeq fun _ => #[v, v]) hS' rfl
    refine wpAny_bind (wpAny_updateSeq hS' rfl ?_)
    rw [hname]
    have oth : ∀ x o, x ≠ s.heap.objs.size → x ≠ s.heap.objs.size + 1 → H2.get? x = some o → (h'.update (s.heap.objs.size + 1) (Obj.mapSeq fun _ => #[v, v])).get? x = some o := fun x o n1 n2 e => (Heap.get?_update_other _ _ (Ne.symm n2)).trans (hs'.extBut _ _ n1 e)
    have T2 : TupsAt (h'.update (s.heap.objs.size + 1) (Obj.mapSeq fun _ => #[v, v])) (v :: rest) (n :: nss) := TupsAt.keep (h := s.heap) (.cons a r) fun u hu t e o q => oth _ _ (Nat.ne_of_lt (ltOf u hu t e)) (Nat.ne_of_lt (Nat.lt_succ_of_lt (ltOf u hu t e))) (old _ _ q)
    refine wpAny_pure ⟨plainId_quiet F.plain_min_loop _, min_go (all := (v :: rest).toArray) hh hu hIl hSI hSl rest nss 1 _ 0 v n _ (by simp) (hit'.at fun o e => (Heap.get?_update_other _ _ hSI).trans e)
      ((hl2.extBut hs'.extBut hIl).at fun o e => (Heap.get?_update_other _ _ hSl).trans e) upS (by simp) T2 (fun u hu t e => ⟨Nat.ne_of_lt (ltOf u hu t e), Nat.ne_of_lt (Nat.lt_succ_of_lt (ltOf u hu t e))⟩) fun h'' u k e => ?_⟩
    exact h1 _ u h'' rfl (by simpa using e) (keep fun x o n1 n2 q => k x o n1 n2 (oth x o n1 n2 q))
end

section
variable {X : Cx} {a d : Expr} {ta td : TE} {p pos kp : Pos}
def tMinD (K : PySem.W.Frag) (ta td : TE) : TE := fun σ H Q => ta σ H fun x H1 => td σ H1 fun y H2 => ∃ (l : Addr) (ts : List Addr) (nss : List (List Int)), x = .ref l ∧ SqL K H2 l (ts.map V.ref) ∧ Paired (fun t ns => SqT K H2 t (ns.map V.int)) ts nss ∧
  (nss = [] → Q y H2) ∧ ∀ j t, leastIx nss = some j → ts[j]? = some t → Q (.ref t) H2
theorem Inv.tups {pins : List (Addr × Obj)} {σ : St} {H : Hp} {s : Shared} (I : Inv X pins σ H s) : ∀ {ts : List Addr} {nss : List (List Int)} {its : List Value}, Paired (fun t ns => SqT X.K H t (ns.map V.int)) ts nss → Vals (ts.map V.ref) its → TupsAt s.heap its nss
  | _, _, _, .nil, .nil => .nil
  | t :: _, _, _, .cons h r, .cons v vs => by
    obtain rfl : _ = Value.ref t := v
    obtain ⟨its, rv, pl, _⟩ := I.tuple h
    exact .cons ⟨t, _, rfl, pl, intsAre_of (by simpa using rv)⟩ (I.tups r vs)
theorem pe_minD (hc : X.calm = true) (hu : X.A.units + 1 < cLine) (hg : Gl X "min") (hm : X.mg "min" = none) (ha : PE X a ta) (hd : PE X d td)
    (he : starEach [a] X.env = [(false, eval a X.env)] := by rfl) : PE X (.Call (.Name "min" p) [a] [⟨some "default", d, kp⟩] pos) (tMinD X.K ta td) := by
  intro pins s σ H Q I h
  refine wpAny_Call_Name_kw (ld_blt I hg hm boot_min ?_)
  have hA : PA X [a] (tCons ta tNil) := pa_cons ha pa_nil he
  refine callWith_kw (thn (hA pos pins s σ H (fun vs H1 => match vs with
    | [x] => td σ H1 fun y H2 => ∃ (l : Addr) (ts : List Addr) (nss : List (List Int)), x = .ref l ∧ SqL X.K H2 l (ts.map V.ref) ∧ Paired (fun t ns => SqT X.K H2 t (ns.map V.int)) ts nss ∧ (nss = [] → Q y H2) ∧ ∀ j t, leastIx nss = some j → ts[j]? = some t → Q (.ref t) H2
    | _ => False) I h) fun us s1 ⟨vs, H1, I1, r1, q1⟩ => ?_) (by rw [he]; rfl) (by rw [he]; rfl)
  match vs, q1 with
  | [x], q1 =>
    obtain ⟨u, rfl, ru⟩ := vals1 r1
    refine kws_cons (thn (hd pins s1 σ H1 _ I1 q1) fun dv s2 ⟨y, H2, I2, r2, l, ts, nss, ex, hl, hp, g0, g1⟩ => kws_nil ?_)
    subst ex
    obtain rfl : u = Value.ref l := ru
    obtain ⟨its, rv, pl, _⟩ := I2.list hl
    refine call_minD (I2.ok.hd hc) hu pl.isList (I2.tups hp rv) (fun e h' k => ⟨y, H2, I2.kept (t' := s2.toks) k, r2, g0 e⟩) fun j v h' e ev k => ?_
    obtain ⟨x, hx, rx⟩ := Vals.get' rv ev
    rw [List.getElem?_map] at hx
    cases et : ts[j]? with
    | none => rw [et] at hx; cases hx
    | some t =>
      rw [et] at hx
      cases hx
      exact ⟨.ref t, H2, I2.kept (t' := s2.toks) k, rx, g1 j t e et⟩
end

/-! ### the same rules with the written part K by its own name (for a comprehension's block) -/
section
variable {X : Cx} {K : PySem.W.Frag}
theorem pg_tupK {es : List Expr} {k : Nat} {t : TGs} {pos : Pos} (n : Nat) (hK : X.K = K) (hc : X.calm = true) (h : PGs X es t) (hn : (assignEach es X.env).length = n := by rfl) (hst : (assignEach es X.env).findIdx? (·.1) = none := by rfl) : PG X (.Tuple es k pos) (gTup K n t) := hK ▸ pg_tup hc h hn hst
theorem ix_listK (hK : X.K = K) : IxR X (rIxL K) := hK ▸ ix_list
theorem ix_tupK (hK : X.K = K) : IxR X (rIxT K) := hK ▸ ix_tup
theorem call_lenK (hK : X.K = K) : CallR X (.builtin "len") (fun xs H Q => ∃ p ys, xs = [.ref p] ∧ (SqL K H p ys ∨ SqT K H p ys) ∧ Q (.int ys.length) H) := hK ▸ call_len_seq
theorem call_sumK (hK : X.K = K) (hc : X.calm = true) : CallR X (.builtin "sum") (fun xs H Q => ∃ (p : Addr) (ns : List Int), xs = [.ref p] ∧ SqL K H p (ns.map V.int) ∧ Q (.int ns.sum) H) := hK ▸ call_sumL hc
theorem call_listK (hK : X.K = K) : CallR X (.type "list") (fun xs H Q => ∃ p ys, xs = [.ref p] ∧ (SqL K H p ys ∨ SqT K H p ys) ∧ ∀ l, H l = none → Q (.ref l) (upd H l (.lst ys))) := hK ▸ call_list_of
theorem op_eqK (hK : X.K = K) (hu : X.A.units + 64 < cLine) : OpR X (compareOp .Eq) (rEqD K) := hK ▸ op_eqD hu
theorem op_neK (hK : X.K = K) (hu : X.A.units + 64 < cLine) : OpR X (compareOp .NotEq) (rNeD K) := hK ▸ op_neD hu
theorem op_inK (hK : X.K = K) : OpR X (compareOp .In) (rIn K false) := hK ▸ op_in_seq
theorem op_notInK (hK : X.K = K) : OpR X (compareOp .NotIn) (rIn K true) := hK ▸ op_notIn_seq
theorem pi_listK {tg l : Expr} {tl : TE} (hK : X.K = K) (hl : PE X l tl) : PI X tg l (iList K tl) := hK ▸ pi_list hl
theorem pi_tupK {tg l : Expr} {tl : TE} (hK : X.K = K) (hl : PE X l tl) : PI X tg l (iTup K tl) := hK ▸ pi_tup hl
end
end L2

set_option Elab.async false
set_option linter.all false
set_option maxRecDepth 100000
/-! exceptions of the text's own classes: raised in a def, passing its callers, caught by a try -/
namespace L2
open PySem PySem.Spec PyProof.Rows

/-- the bases that all of them have -/
abbrev veB : List Value := [.type "ValueError", .type "Exception", .type "BaseException", .type "object"]
/-- a class of the text that is a ValueError and brings nothing of its own for making one -/
structure ExcC (K : PySem.W.Frag) (C : Addr) : Prop where
  ex : ∃ (nm q : Str) (N : Addr) (bs bm : List Value) (hdct : Bool) (sn : List Str) (sub : List Value) (ab : Bool) (col : Option Bool) (dd : Option Addr) (k0 k1 k2 k3 k5 : Option Value),
    K.lookup C = some (excClassObj nm q C N bs bm hdct sn sub ab col dd k0 k1 k2 k3 k5 "ValueError.__new__") ∧ PySem.W.tailIn K veB bm = true ∧ PySem.W.nsOkIn K N = true ∧ PySem.W.nsIn K N "__init__" = some none

theorem ExcC.of {K : PySem.W.Frag} {C : Addr} (q : PySem.W.excIn K C veB "ValueError.__new__" = true) : ExcC K C := by
  unfold PySem.W.excIn at q
  split at q
  · rename_i dd cd sl ho
    split at q
    · rename_i C' bm k0 k1 k2 k3 n k5 hm hs
      simp only [Bool.and_eq_true, beq_iff_eq, Bool.not_eq_true'] at q
      obtain ⟨⟨⟨⟨⟨rfl, rfl⟩, hdel⟩, ht⟩, hok⟩, hni⟩ := q
      obtain ⟨nm, bs, mro, ns, qn, hd, sn, sub, ab, col, del⟩ := cd
      dsimp only at hm hdel hok hni
      subst hm hdel
      have hsl : sl = #[k0, k1, k2, k3, some (.builtin "ValueError.__new__"), k5] := by
        obtain ⟨l⟩ := sl
        simp only at hs
        rw [hs]
      subst hsl
      exact ⟨⟨nm, qn, ns, bs, bm, hd, sn, sub, ab, col, dd, k0, k1, k2, k3, k5, ho, ht, hok, hni⟩⟩
    · cases q
  · cases q

/-- an exception that flies: the address, its class; what was tracked is tracked and lies still -/
def CX1 (P : Program) (w : World) : CXT := fun outer H s E e s' => ∃ (a C t : Addr) (B : Heap) (H' : Hp), e = .ref a ∧ s'.os = s.os ∧ AllBare s'.gens ∧ Un (frs outer) [] H H' s.heap s'.heap ∧ HOk P w H' s'.heap ∧
  Heap.FlyingW B outer a (.ref C) (.ref t) s'.heap ∧ (∀ b u, H' b = some u → ∃ o, B.get? b = some o) ∧ (∀ b o, s.heap.get? b = some o → b ∉ frs outer → ∃ o', B.get? b = some o') ∧ E (.ref C) none H'

section
variable {P : Program} {w : World} {fs ex : List Addr} {H H' : Hp} {h h1 h2 B : Heap}
theorem objOk_there {a : Addr} {o : HO} (x : ObjOk P w H h a o) : ∃ ob, h.get? a = some ob := by
  cases o with
  | lst xs => obtain ⟨_, _, _, _, e⟩ := x; exact ⟨_, e⟩
  | tup xs => obtain ⟨_, _, _, ob, e, _⟩ := x; exact ⟨_, e⟩
  | dK kvs => obtain ⟨_, _, _, _, ob, _, _, e, _⟩ := x; exact ⟨_, e⟩
  | dT kvs => obtain ⟨_, _, _, _, ob, _, _, e, _⟩ := x; exact ⟨_, e⟩
  | set S n => obtain ⟨ob, _, _, _, e, _⟩ := x; exact ⟨_, e⟩
  | ins C dx fs => obtain ⟨_, _, _, e, _⟩ := x; exact ⟨_, e⟩
  | own y => obtain ⟨_, e⟩ := x; exact ⟨_, e⟩
  | xd fs => obtain ⟨_, ⟨_, _, _, e, _⟩, _⟩ := x; exact ⟨_, e⟩
  | rng lo hi => obtain ⟨_, _, _, e⟩ := x; exact ⟨_, e⟩
  | frz ob u => obtain ⟨e, _⟩ := x; exact ⟨_, e⟩
  | tbl ps => exact ⟨_, (show h.get? a = some _ from x)⟩
  | met f y => exact ⟨_, (show h.get? a = some _ from x)⟩
  | ext φ => obtain ⟨_, e, _⟩ := x; exact e
/-- a step that lets B stand and changes slots alone -/
theorem fly_un (un : Un fs ex H H' h h1) (st : B.StaysIn h1) (st2 : B.StaysIn h2) (sl : h1.UpToSlots h2) (nf : ∀ b ∈ fs, ∀ o, h1.get? b = some o → ∀ vs, o.data ≠ .fields vs)
    (all : ∀ b o, h.get? b = some o → b ∉ fs → ∃ o', B.get? b = some o') : Un fs ex H H' h h2 where
  keep := fun b o e n hb hx => by
    obtain ⟨o', hB⟩ := all b o e hb
    have e1 := un.keep b o e n hb hx
    have e2 := st b o' hB
    rw [e1] at e2
    cases e2
    exact st2 b _ hB
  slot := fun b o e n hb hx => by
    obtain ⟨s1, e1⟩ := un.slot b o e n hb hx
    obtain ⟨s2, e2⟩ := sl b _ e1 (nf b hb _ e1)
    exact ⟨s2, e2⟩
  free := un.free
  there := fun b o e hx => by
    by_cases hb : b ∈ fs
    · obtain ⟨o1, e1⟩ := un.there b o e hx
      obtain ⟨s2, e2⟩ := sl b _ e1 (nf b hb _ e1)
      exact ⟨_, e2⟩
    · obtain ⟨o', hB⟩ := all b o e hb
      exact ⟨o', st2 b o' hB⟩
  tups := un.tups
  frzs := un.frzs
  tbls := un.tbls
theorem fly_hok (hok : HOk P w H' h1) (st : B.StaysIn h1) (st2 : B.StaysIn h2) (trk : ∀ b u, H' b = some u → ∃ o, B.get? b = some o) : HOk P w H' h2 := fun a o e =>
  (hok a o e).stay (fun b u hb q => by
    obtain ⟨o', hB⟩ : ∃ o, B.get? b = some o := by
      rcases hb with rfl | hb
      · exact trk _ _ e
      · exact trk _ _ hb
    have e2 := st b o' hB
    rw [q] at e2
    cases e2
    exact st2 b _ hB) (fun _ q => q) fun _ _ q => q
end

section
variable {P : Program} {w : World} {K : PySem.W.Frag} {mg : Str → Option Value} {base : Heap} {N : List Str} {qual : Str} {scope : Scope} {f : Addr} {cdv : Value} {A : Around} {outer : List Env} {s : Shared} {H : Hp} {E : XK}
/-- it passes a def's frame -/
theorem pass1 : Passes (CX1 P w) (cxOf (CX1 P w) P w K mg base N qual scope f cdv A outer s H E) E := by
  intro pins σ H1 s1 e s' I ⟨a, C, t, B, H', he, os, bare, un, hok, fly, trk, all, q⟩
  subst he
  have J := I.call' (s' := s') (ch := []) os un hok bare fun b z => absurd z (by simp)
  refine wpAny_leaves_onW (e := a) (L := s.heap.objs.size) (outer := outer) I.ok.frames rfl fly fun h' fl sl => ?_
  have nf : ∀ b ∈ frs outer, ∀ o, s'.heap.get? b = some o → ∀ vs, o.data ≠ .fields vs := fun b hb o ho vs hd => by
    obtain ⟨_, o', ho', hn⟩ := fly.2.2.1.mem (b := b) (show b ∈ s.heap.objs.size :: frs outer from List.mem_cons_of_mem _ hb)
    rw [ho] at ho'
    cases ho'
    exact hn vs hd
  have all' : ∀ b o, s.heap.get? b = some o → b ∉ frs outer → ∃ o', B.get? b = some o' := fun b o ho hb => by
    obtain ⟨o1, h1⟩ := I.base.there b o ho (fun z => absurd z (by show b ∉ ([] : List Addr); simp))
    refine all b o1 h1 fun z => ?_
    rcases List.mem_cons.mp (show b ∈ s.heap.objs.size :: frs outer from z) with z | z
    · exact absurd (Heap.lt_size ho) (by rw [z]; exact Nat.lt_irrefl _)
    · exact hb z
  exact ⟨a, C, t, B, H', rfl, J.os, bare, fly_un J.base fly.1 fl.1 sl nf all', fly_hok hok fly.1 fl.1 trk, fl, trk, all', q⟩

/-- raise C(..): the written arguments, then the wish -/
def tRaise (E : XK) (C : Addr) (t : TA) : TS := fun _ σ H => t σ H fun vs H1 => vs.length ≤ sizeLine ∧ E (.ref C) none H1
theorem ps_raise {x : Str} {C : Addr} {np cpos pos : Pos} {e : Expr} {es : List Expr} {t : TA} (c : ExcC K C) (hh : A.handled = none) (hm : mg x = some (.ref C)) (hg : Gl (cxOf (CX1 P w) P w K mg base N qual scope f cdv A outer s H E) x)
    (ha : PA (cxOf (CX1 P w) P w K mg base N qual scope f cdv A outer s H E) (e :: es) t) (hd : (x == ("__debug__" : Str)) = false := by decide)
    (he : starEach (e :: es) (cxOf (CX1 P w) P w K mg base N qual scope f cdv A outer s H E).env = (false, eval e (cxOf (CX1 P w) P w K mg base N qual scope f cdv A outer s H E).env) :: starEach es (cxOf (CX1 P w) P w K mg base N qual scope f cdv A outer s H E).env := by rfl)
    (hpl : (backTo cpos (starEach es (cxOf (CX1 P w) P w K mg base N qual scope f cdv A outer s H E).env)).any (·.1) = false := by rfl) :
    PS (cxOf (CX1 P w) P w K mg base N qual scope f cdv A outer s H E) (.Raise (some (.Call (.Name x np) (e :: es) [] cpos)) none pos) (tRaise E C t) := by
  intro pins s1 σ H1 D I h
  obtain ⟨nm, q, Nn, bs, bm, hdct, sn, sub, ab, col, dd, k0, k1, k2, k3, k5, lk, tl, nok, ini⟩ := c.ex
  have mN : ∀ {g : Heap}, K.In g → g.Ns Nn (g.nsMap Nn) ∧ g.nsMap Nn "__init__" = none := fun X => ⟨.of_isNs (PySem.W.isNs_of_in X nok), PySem.W.nsMap_none_of_in X nok ini⟩
  have T0 := PySem.W.tail_of_in (bmB := veB) I.kIn tl
  refine wpAny_Raise_call_subU (C := C) (nm := nm) (q := q) (N := Nn) (bs := bs) (bm := bm) (hdct := hdct) (sn := sn) (sub := sub) (ab := ab) (col := col) (dd := dd) (k0 := k0) (k1 := k1) (k2 := k2) (k3 := k3) (k5 := k5) (mN := base.nsMap Nn)
    PySem.F.excBase_ValueError (by decide +kernel) PySem.F.excBase_ValueError (T0.hasType PySem.F.excBase_ValueError.hasBase) hh ?_ (mN I.mod.kin).2 (ld_glob I hg hm ⟨rfl, ?_⟩ hd)
  · rw [he]
    show (false || _) = false
    rw [Bool.false_or]
    exact hpl
  rw [he]
  refine Calls.evalArgs_plain ?_
  have ha' := ha cpos pins s1 σ H1 _ I h
  rw [he] at ha'
  refine thn ha' fun us s2 ⟨vs, H2, I2, r, hl, hE⟩ => ?_
  refine ⟨rfl, by show us.length ≤ _; rw [← r.length]; exact hl, I2.kIn _ _ lk, (mN I2.mod.kin).1.keeps I2.bk, PySem.W.tail_of_in I2.kIn tl, fun h' a made => ?_⟩
  -- the raising def's own frame is left
  have fr : ∀ env ∈ (cxOf (CX1 P w) P w K mg base N qual scope f cdv A outer s H E).stack, ∀ b, env.frame = some b → b ∈ frs (cxOf (CX1 P w) P w K mg base N qual scope f cdv A outer s H E).stack := fun env hm b hb => List.mem_filterMap.mpr ⟨env, hm, hb⟩
  have st : (PySem.W.hideAll s2.heap (frs (cxOf (CX1 P w) P w K mg base N qual scope f cdv A outer s H E).stack)).StaysIn s2.heap := fun b o z => PySem.W.of_hideAll _ z
  refine wpAny_leaves_madeW (e := a) (L := s.heap.objs.size) (outer := outer) (h := s2.heap) I2.ok.frames rfl st (PySem.W.funFrames_hide I2.stack fr) made fun h'' t fly _ _ sl => ?_
  have un1 : Un (frs outer) [] H H2 s.heap h' := (show Un (frs outer) [] H H2 s.heap s2.heap from I2.base).trans (Un.kept made.keeps)
  have nf : ∀ b ∈ frs outer, ∀ o, h'.get? b = some o → ∀ vs, o.data ≠ .fields vs := fun b hb o ho vs hd => by
    obtain ⟨_, o', ho', hn⟩ := I2.stack.mem (b := b) (show b ∈ s.heap.objs.size :: frs outer from List.mem_cons_of_mem _ hb)
    have := made.keeps b o' ho'
    rw [ho] at this
    cases this
    exact hn vs hd
  have st1 : (PySem.W.hideAll s2.heap (frs (cxOf (CX1 P w) P w K mg base N qual scope f cdv A outer s H E).stack)).StaysIn h' := fun b o z => made.keeps b o (st b o z)
  have notFrame : ∀ b o, s.heap.get? b = some o → b ∉ frs outer → b ∉ frs (cxOf (CX1 P w) P w K mg base N qual scope f cdv A outer s H E).stack := fun b o ho hb z => by
    rcases List.mem_cons.mp (show b ∈ s.heap.objs.size :: frs outer from z) with z | z
    · exact absurd (Heap.lt_size ho) (by rw [z]; exact Nat.lt_irrefl _)
    · exact hb z
  have all' : ∀ b o, s.heap.get? b = some o → b ∉ frs outer → ∃ o', (PySem.W.hideAll s2.heap (frs (cxOf (CX1 P w) P w K mg base N qual scope f cdv A outer s H E).stack)).get? b = some o' := fun b o ho hb => by
    obtain ⟨o1, h1⟩ := I2.base.there b o ho (fun z => absurd z (by show b ∉ ([] : List Addr); simp))
    exact ⟨o1, PySem.W.hideAll_get _ h1 (notFrame b o ho hb)⟩
  have trk : ∀ b u, H2 b = some u → ∃ o, (PySem.W.hideAll s2.heap (frs (cxOf (CX1 P w) P w K mg base N qual scope f cdv A outer s H E).stack)).get? b = some o := fun b u hu => by
    have lt := I2.hok.lt hu
    have no : b ∉ frs (cxOf (CX1 P w) P w K mg base N qual scope f cdv A outer s H E).stack := fun z => by
      have := I2.stkFree b z
      rw [hu] at this
      cases this
    obtain ⟨o, ho⟩ : ∃ o, s2.heap.get? b = some o := by
      exact objOk_there (I2.hok b u hu)
    exact ⟨o, PySem.W.hideAll_get _ ho no⟩
  exact ⟨a, C, t, _, H2, rfl, I2.os, I2.bare, fly_un un1 st1 fly.1 sl nf all', fly_hok (I2.hok.kept made.keeps) st1 fly.1 trk, fly, trk, all', hE⟩

/-- no exception comes out of this call -/
theorem pass1n {X : Cx} : Passes (CX1 P w) X E0 := fun _ _ _ _ _ _ _ ⟨_, _, _, _, _, _, _, _, _, _, _, _, _, q⟩ => q.elim
/-- THE RULE for a def that none leaves -/
theorem Fun.ok1 {x qual : Str} {st : Stmt} {f : Addr} {fd : FuncData} {N ps : List Str} {k : Nat} {sp : Sp} (F : Fun K x qual st f fd) (S : FnScope N ps (defScope st)) (len : ∀ vs H Q E, sp vs H Q E → vs.length = ps.length)
    (hbody : ∀ (cdv : Value) (A : Around) (outer : List Env) (s : Shared) (H : Hp) (vs : List V) (Q : VK) (E : XK), Room k (A.deeper (envOfC qual (defScope st) s.heap.objs.size f cdv)) → sp vs H Q E →
      ∃ t, PSs (cxOf (CX1 P w) P w K mg base N qual (defScope st) f cdv A outer s H E).nox (defBody st) t ∧ t { nx := fun _ H' => Q .non H', rt := Q } (start N vs) H) : FnOk P w K mg base (CX1 P w) (k + 1) f fd ps sp := by
  obtain ⟨oc, od, kV, doc, pm, an, cdv, ct, osl, rfl, lk, hcd⟩ := F.ex
  refine fn_of lk hcd S len fun A outer s H vs Q E hr hsp => ?_
  obtain ⟨t, h, q⟩ := hbody cdv A outer s H vs Q E hr hsp
  exact ⟨t, h.nox, q⟩
/-- THE RULE for a def that an exception may leave -/
theorem Fun.okX {x qual : Str} {st : Stmt} {f : Addr} {fd : FuncData} {N ps : List Str} {k : Nat} {sp : Sp} {CX : CXT} (F : Fun K x qual st f fd) (S : FnScope N ps (defScope st)) (len : ∀ vs H Q E, sp vs H Q E → vs.length = ps.length)
    (hbody : ∀ (cdv : Value) (A : Around) (outer : List Env) (s : Shared) (H : Hp) (vs : List V) (Q : VK) (E : XK), Room k (A.deeper (envOfC qual (defScope st) s.heap.objs.size f cdv)) → sp vs H Q E →
      ∃ t, PSs (cxOf CX P w K mg base N qual (defScope st) f cdv A outer s H E) (defBody st) t ∧ t { nx := fun _ H' => Q .non H', rt := Q } (start N vs) H) : FnOk P w K mg base CX (k + 1) f fd ps sp := by
  obtain ⟨oc, od, kV, doc, pm, an, cdv, ct, osl, rfl, lk, hcd⟩ := F.ex
  exact fn_of lk hcd S len fun A outer s H vs Q E hr hsp => hbody cdv A outer s H vs Q E hr hsp
end
end L2

set_option Elab.async false
set_option linter.all false
set_option maxRecDepth 100000
/-! a try whose suite catches an exception of the text's own classes; isinstance -/
namespace L2
open PySem PySem.Spec PyProof.Rows

/-! ### a name goes; an object is tracked; slots are written -/
section
variable {X : Cx} {pins : List (Addr × Obj)} {σ : St} {H : Hp} {s : Shared}
theorem Inv.goes {M : Model} {A : Around} {E : Value → Shared → Prop} {i : Nat} {x : Str} {pos : Pos} {Q : Unit → Shared → Prop} (I : Inv X pins σ H s) (hN : X.N.Nodup) (hi : X.N[i]? = some x) (hk : X.env.scope.names.lookup x = some .local)
    (h : ∀ s', Inv X pins (σ.set i none) H s' → Q () s') : wpAny M A (do bindName X.env x .none; unbindBehindTheSuite X.env x pos) Q E s := by
  obtain ⟨m, hn, hl⟩ := id I.loc
  have hcls : (X.env.scope.kind == .class || (X.env.scope.kind == .module && X.env.locals != X.env.globals)) = false := by rw [I.ok.kind]; rfl
  have hiσ : i < σ.length := by rw [I.len]; exact (List.getElem?_eq_some_iff.mp hi).1
  have cne := I.cne
  refine wpAny_nameGoes_keeps hk hn hcls fun h' v hn' hs => ?_
  obtain ⟨oL, _, _, hoL, _⟩ := id hn
  have tracked : HOk X.prog X.w H h' := fun b ob e => by
    refine (I.hok b ob e).stay (fun c w' hc q => (hs.2 c ?_).trans q) (fun _ q => q) fun _ _ q => q
    intro z
    rcases hc with r | r
    · have fr := I.free
      rw [← z, r, e] at fr
      cases fr
    · have fr := I.free
      rw [← z, r] at fr
      cases fr
  refine h _ ⟨I.ok, I.os, I.bare, ⟨fun b o e n hb hx => ?_, fun b o e n hb hx => ?_, I.base.free, fun b o e hx => ?_, I.base.tups, I.base.frzs, I.base.tbls⟩, ⟨_, hn', fun j y v' e1 e2 e3 => ?_⟩, fun y c e => ?_, I.free, I.freeC, fun p hp => ?_, tracked, by simpa using I.len⟩
  · exact (hs.2 b (Nat.ne_of_lt (Nat.lt_of_lt_of_le (Heap.lt_size e) I.ok.above))).trans (I.base.keep b o e n hb hx)
  · obtain ⟨sl, e1⟩ := I.base.slot b o e n hb hx
    exact ⟨sl, (hs.2 b (Nat.ne_of_lt (Nat.lt_of_lt_of_le (Heap.lt_size e) I.ok.above))).trans e1⟩
  · obtain ⟨o', e1⟩ := I.base.there b o e hx
    exact ⟨o', (hs.2 b (Nat.ne_of_lt (Nat.lt_of_lt_of_le (Heap.lt_size e) I.ok.above))).trans e1⟩
  · by_cases hj : j = i
    · subst hj
      rw [List.getElem?_set_self hiσ] at e2
      cases e2
    · rw [List.getElem?_set_ne (Ne.symm hj)] at e2
      obtain ⟨u', r', q⟩ := hl j y v' e1 e2 e3
      refine ⟨u', r', ?_⟩
      rcases q with ⟨k, e⟩ | ⟨k, c, e, z⟩
      · refine .inl ⟨k, ?_⟩
        have : y ≠ x := fun e => hj (nodup_ix hN e1 (e ▸ hi))
        simp [this, e]
      · exact .inr ⟨k, c, e, z.sameBut hs (cne y c e)⟩
  · obtain ⟨w', z⟩ := I.cell y c e
    exact ⟨w', z.sameBut hs (cne y c e)⟩
  · obtain ⟨e, n, ne, nf, d⟩ := I.pin p hp
    exact ⟨(hs.2 p.1 ne).trans e, n, ne, nf, d⟩

/-- an exception of the class at C -/
def excO (a C : Addr) : HO := .ext fun h => ∃ o, h.get? a = some o ∧ o.cls = .ref C
theorem Inv.track {a C : Addr} {oe : Obj} {vs : Array Value} (I : Inv X pins σ H s) (ha : s.heap.get? a = some oe) (hc : oe.cls = .ref C) (hd : oe.data = .fields vs) (hH : H a = none) (h0 : X.s₀.heap.get? a = none) (hL : a ≠ X.env.locals)
    (hp : ∀ p ∈ X.pn ++ pins, p.1 ≠ a) : Inv X pins σ (upd H a (excO a C)) s := by
  refine ⟨I.ok, I.os, I.bare, ⟨I.base.keep, I.base.slot, fun b o e n hx => ?_, I.base.there, fun b xs e => ?_, fun b o u e => ?_, fun b ps e => ?_⟩, I.loc, I.cell, ?_, fun x c e => ?_, fun p hp' => ?_, fun b u e => ?_, I.len⟩
  · have ne : b ≠ a := fun z => by rw [z, h0] at e; cases e
    rw [upd_ne ne]
    exact I.base.free b o e n hx
  · have q := I.base.tups b xs e
    rw [upd_ne (ne_of_none q hH)]
    exact q
  · have q := I.base.frzs b o u e
    rw [upd_ne (ne_of_none q hH)]
    exact q
  · obtain ⟨more, q⟩ := I.base.tbls b ps e
    exact ⟨more, by rw [upd_ne (ne_of_none q hH)]; exact q⟩
  · rw [upd_ne (Ne.symm hL)]
    exact I.free
  · have ne : c ≠ a := fun z => by
      obtain ⟨v, o, ho, hd'⟩ := I.cell x c e
      rw [z, ha] at ho
      cases ho
      rw [hd] at hd'
      cases hd'
    rw [upd_ne ne]
    exact I.freeC x c e
  · obtain ⟨e, n, ne, nf, d⟩ := I.pin p hp'
    exact ⟨e, by rw [upd_ne (hp p hp')]; exact n, ne, nf, d⟩
  · by_cases hb : b = a
    · subst hb
      rw [upd_same] at e
      cases e
      exact ⟨⟨oe, ha, hc⟩, ⟨oe, ha⟩, fun h1 h2 ⟨o, e1, e2⟩ k => ⟨o, k o e1, e2⟩⟩
    · rw [upd_ne hb] at e
      exact (I.hok b u e).stay (fun c v _ q => q) (fun c q => by rw [upd_ne (ne_of_none q hH)]; exact q) fun c xs q => by rw [upd_ne (ne_of_none q hH)]; exact q

theorem Inv.flown {B h2 : Heap} {t' : Nat} (I : Inv X pins σ H s) (st : B.StaysIn s.heap) (st2 : B.StaysIn h2) (sl : s.heap.UpToSlots h2) (trk : ∀ b u, H b = some u → ∃ o, B.get? b = some o)
    (all : ∀ b o, X.s₀.heap.get? b = some o → b ∉ X.fs → ∃ o', B.get? b = some o') (pb : ∀ p ∈ X.pn ++ pins, ∃ o', B.get? p.1 = some o') : Inv X pins σ H { s with heap := h2, toks := t' } := by
  have nf : ∀ b ∈ X.fs, ∀ o, s.heap.get? b = some o → ∀ vs, o.data ≠ .fields vs := fun b hb o ho vs hd => by
    obtain ⟨_, o', ho', hn⟩ := I.funs.mem (b := b) hb
    rw [ho] at ho'
    cases ho'
    exact hn vs hd
  have cellK : ∀ c v, s.heap.IsCell c v → h2.IsCell c v := fun c v ⟨o, ho, hd⟩ => by
    obtain ⟨s', e⟩ := sl c o ho fun vs q => by rw [hd] at q; cases q
    exact ⟨_, e, hd⟩
  obtain ⟨m, hn, hl⟩ := id I.loc
  refine ⟨I.ok, I.os, I.bare, fly_un I.base st st2 sl nf all, ⟨m, sl.ns hn, fun i x v e1 e2 e3 => ?_⟩, fun x c e => ?_, I.free, I.freeC, fun p hp => ?_, fly_hok I.hok st st2 trk, I.len⟩
  · obtain ⟨u, r, l⟩ := hl i x v e1 e2 e3
    refine ⟨u, r, ?_⟩
    rcases l with l | ⟨k, c, e, z⟩
    · exact .inl l
    · exact .inr ⟨k, c, e, cellK c _ z⟩
  · obtain ⟨v, z⟩ := I.cell x c e
    exact ⟨v, cellK c v z⟩
  · obtain ⟨e, n, ne, nf', d⟩ := I.pin p hp
    obtain ⟨o', hB⟩ := pb p hp
    have e1 := st p.1 o' hB
    rw [e] at e1
    cases e1
    exact ⟨st2 p.1 _ hB, n, ne, nf', d⟩
end

/-! ### the try's body -/
/-- an exception that leaves the body: the state is the one at the try -/
def Thrown (X : Cx) (pins : List (Addr × Obj)) (σ : St) (E1 : XK) (e : Value) (s' : Shared) : Prop :=
  ∃ (a C t : Addr) (B : Heap) (H' : Hp), e = .ref a ∧ Inv X pins σ H' s' ∧ Heap.FlyingW B X.stack a (.ref C) (.ref t) s'.heap ∧ (∀ b u, H' b = some u → ∃ o, B.get? b = some o) ∧
    (∀ b o, X.s₀.heap.get? b = some o → b ∉ X.fs → ∃ o', B.get? b = some o') ∧ (∀ p ∈ X.pn ++ pins, ∃ o', B.get? p.1 = some o') ∧ E1 (.ref C) none H'
def cxTry (X : Cx) (pins : List (Addr × Obj)) (σ : St) (E1 : XK) : Cx := { X with pn := X.pn ++ pins, xe := Thrown X pins σ E1 }
section
variable {X : Cx} {pins pins' : List (Addr × Obj)} {σ σ' : St} {H : Hp} {s : Shared} {E1 : XK}
theorem Inv.inTry (I : Inv X pins σ' H s) : Inv (cxTry X pins σ E1) [] σ' H s :=
  ⟨⟨I.ok.mod, I.ok.kind, I.ok.glob, I.ok.blt, I.ok.above, I.ok.inj, I.ok.has, I.ok.cab, I.ok.hd, I.ok.frames, I.ok.stk, I.ok.exf, I.ok.bs, I.ok.bsz, I.ok.noex, I.ok.exfs, I.ok.funs, I.ok.frf⟩, I.os, I.bare, I.base, I.loc, I.cell, I.free, I.freeC,
    fun p hp => I.pin p (by simpa [cxTry] using hp), I.hok, I.len⟩
theorem Inv.outTry (I : Inv (cxTry X pins σ E1) pins' σ' H s) : Inv X pins σ' H s :=
  ⟨⟨I.ok.mod, I.ok.kind, I.ok.glob, I.ok.blt, I.ok.above, I.ok.inj, I.ok.has, I.ok.cab, I.ok.hd, I.ok.frames, I.ok.stk, I.ok.exf, I.ok.bs, I.ok.bsz, I.ok.noex, I.ok.exfs, I.ok.funs, I.ok.frf⟩, I.os, I.bare, I.base, I.loc, I.cell, I.free, I.freeC,
    fun p hp => I.pin p (List.mem_append_left _ hp), I.hok, I.len⟩
theorem SP.outTry {D : Ends} {f : Flow} {s' : Shared} (h : SP (cxTry X pins σ E1) pins' D f s') : SP X pins D f s' := by
  cases f with
  | next => obtain ⟨σ', H', I, q⟩ := h; exact ⟨σ', H', I.outTry, q⟩
  | brk => obtain ⟨σ', H', I, q⟩ := h; exact ⟨σ', H', I.outTry, q⟩
  | cont => obtain ⟨σ', H', I, q⟩ := h; exact ⟨σ', H', I.outTry, q⟩
  | ret u => obtain ⟨v, σ', H', I, r, q⟩ := h; exact ⟨v, σ', H', I.outTry, r, q⟩
end
/-- an exception of a callee, at this very store of names -/
def PassesAt (CX : CXT) (X : Cx) (E : XK) (σ0 : St) : Prop := ∀ (pins : List (Addr × Obj)) (H : Hp) (s : Shared) (e : Value) (s' : Shared), Inv X pins σ0 H s → CX X.stack H s E e s' → X.xe e s'
def tCallAt (sp : Sp) (σ0 : St) (E : XK) (t : TA) : TE := fun σ H Q => σ = σ0 ∧ t σ H fun vs H1 => sp vs H1 Q E
section
variable {X : Cx} {CX : CXT} {k : Nat} {f C : Addr} {fd : FuncData} {ps : List Str} {sp : Sp} {E : XK} {x m : Str} {p pos apos : Pos} {e o : Expr} {es : List Expr} {ta : TE} {t : TA} {σ0 : St}
theorem pe_callAt (F : FnOk X.prog X.w X.K X.mg X.base CX k f fd ps sp) (hr : Room k X.A) (hg : Gl X x) (hm : X.mg x = some (.ref f)) (hk : PySem.W.keepIn X.K (.ref f) = true) (hb : Binds X.K fd ps []) (hx : PassesAt CX X E σ0)
    (ha : PA X (e :: es) t) (hdb : (x == ("__debug__" : Str)) = false := by decide) (he : starEach (e :: es) X.env = (false, eval e X.env) :: starEach es X.env := by rfl) (hpl : (backTo pos (starEach es X.env)).any (·.1) = false := by rfl) :
    PE X (.Call (.Name x p) (e :: es) [] pos) (tCallAt sp σ0 E t) := by
  intro pins s σ H Q I h
  obtain ⟨hσ, h⟩ := h
  subst hσ
  refine wpAny_Call_Name_kw (ld_glob I hg hm ?_ hdb)
  refine PySem.W.callWith_K (h₀ := X.base) I.ok.mod.kin hk (thn (ha pos pins s σ H _ I h) fun us s1 ⟨vs, H1, I1, r, q⟩ => ⟨I1.kIn, ?_⟩) he hpl
  have hl : us.length = ps.length := by rw [← r.length]; exact F.len _ _ _ _ q
  have hb' := hb s1 us I1.kIn (by rw [List.append_nil]; exact hl)
  rw [List.append_nil] at hb'
  refine wpAny_call (codeAny_mono (F.run X.A X.stack s1 H1 ⟨us, []⟩ us vs Q E hr I1.env0 hb' r q) fun r s' hq => ?_)
  cases r with
  | error e => exact hx pins H1 s1 e s' I1 hq
  | ok fl =>
    cases fl with
    | ret u => exact I1.after hq
    | next => exact False.elim hq
    | brk => exact False.elim hq
    | cont => exact False.elim hq
theorem passT {pins : List (Addr × Obj)} (hex : X.ex = []) : PassesAt (CX1 X.prog X.w) (cxTry X pins σ0 E) E σ0 := by
  intro pins' H s e s' I ⟨a, C, t, B, H', he, os, bare, un, hok, fly, trk, all, q⟩
  have J : Inv X pins σ0 H s := I.outTry
  have J' : Inv X pins σ0 H' s' := J.call' (s' := s') (ch := []) os un hok bare fun b z => absurd z (by simp)
  have noF : ∀ b, b ≠ X.env.locals → b ∉ X.fs → b ∉ frs X.stack := fun b h1 h2 z => by
    rcases List.mem_cons.mp (J.stkSub b z) with r | r
    · exact h1 r
    · exact h2 r
  refine ⟨a, C, t, B, H', he, J', fly, trk, fun b o hb hf => ?_, fun p hp => ?_, q⟩
  · obtain ⟨o1, h1⟩ := J.base.there b o hb (by rw [hex]; simp)
    exact all b o1 h1 (noF b (Nat.ne_of_lt (Nat.lt_of_lt_of_le (Heap.lt_size hb) J.ok.above)) hf)
  · obtain ⟨h1, _, h2, h3, _⟩ := J.pin p hp
    exact all p.1 p.2 h1 (noF p.1 h2 h3)
end

/-! ### the handler -/
def cxHand (X : Cx) (a : Addr) : Cx := { X with A := X.A.mark (some (.ref a)), calm := false, xe := fun _ _ => False }
section
variable {X : Cx} {pins : List (Addr × Obj)} {σ : St} {H : Hp} {s : Shared} {a : Addr}
theorem Inv.inHand (I : Inv X pins σ H s) : Inv (cxHand X a) pins σ H s :=
  ⟨⟨I.ok.mod, I.ok.kind, I.ok.glob, I.ok.blt, I.ok.above, I.ok.inj, I.ok.has, I.ok.cab, (fun z => nomatch z), I.ok.frames, I.ok.stk, I.ok.exf, I.ok.bs, I.ok.bsz, I.ok.noex, I.ok.exfs, I.ok.funs, I.ok.frf⟩, I.os, I.bare, I.base, I.loc, I.cell, I.free, I.freeC, I.pin, I.hok, I.len⟩
theorem Inv.outHand (ok : X.Ok) (I : Inv (cxHand X a) pins σ H s) : Inv X pins σ H s := ⟨ok, I.os, I.bare, I.base, I.loc, I.cell, I.free, I.freeC, I.pin, I.hok, I.len⟩
end
/-- the class that an except names -/
structure CatchC (K : PySem.W.Frag) (L : Addr) : Prop where
  ty : PySem.W.typeIn K (.ref L) = some (.type "type")
  base : PySem.W.mroIn K L (.type "BaseException") = some true
theorem isType_of {K : PySem.W.Frag} {M : Model} {h : Heap} {C : Addr} {b : Value} {r : Bool} (X : K.In h) (e : PySem.W.mroIn K C b = some r) : PySem.W.Looks M h (isType (.ref C)) true := by
  obtain ⟨cd, hc, _⟩ := Option.bind_eq_some_iff.mp e
  unfold PySem.W.clsIn at hc
  split at hc
  · rename_i c' d' cd' sl' ho
    intro A' Q' E' s' k q
    unfold isType loadHead
    exact wpAny_bind (wpAny_loadPart (k _ _ (X _ _ ho)) (wpAny_pure q))
  · cases hc
theorem exc_matches {K : PySem.W.Frag} {M : Model} {A : Around} {E : Value → Shared → Prop} {s : Shared} {e C L : Addr} {Q : Bool → Shared → Prop} (X : K.In s.heap) (c : CatchC K L) (he : ∃ o, s.heap.get? e = some o ∧ o.cls = .ref C)
    (hs : PySem.W.subIn K (.ref C) (.ref L) = some true) (h : Q true s) : wpAny M A (excMatches (.ref e) (.ref L)) Q E s := by
  obtain ⟨hh, g, d, t, os⟩ := s
  obtain ⟨o, ho, hc⟩ := he
  have L0 : PySem.W.Looks M hh (typeOf (.ref e)) (.ref C) := hc ▸ (PySem.W.Looks.ld ho).andThen .now
  have L1 := PySem.W.looks_typeIn (M := M) X c.ty
  have L2 := isType_of (M := M) X c.base
  have L3 := PySem.W.looks_mroIn (M := M) X c.base
  have L4 := PySem.W.looks_subIn (M := M) X hs
  have L5 : PySem.W.Looks M hh (isSubtype (.type "type") (.type "tuple")) false := PySem.W.Looks.of_pure (by rw [isSubtype_type]; kernel_rfl)
  have L6 : PySem.W.Looks M hh (isInstance (.ref L) (.type "tuple")) false := L1.andThen L5
  have L7 : PySem.W.Looks M hh (isExcClass (.ref L)) true := L2.andThen L3
  unfold excMatches
  refine wpAny_bind (L6.at ?_)
  simp only [Bool.false_eq_true, if_false]
  refine wpAny_bind (wpAny_pure ?_)
  simp only [List.forIn_cons, List.forIn_nil]
  refine wpAny_bind (wpAny_bind (wpAny_bind (L7.at ?_)))
  simp only [Bool.not_true, Bool.false_eq_true, if_false]
  refine wpAny_pure (wpAny_pure ?_)
  refine wpAny_bind (L0.at ?_)
  refine wpAny_bind (wpAny_bind (wpAny_bind (L4.at ?_)))
  simp only [if_true]
  exact wpAny_pure (wpAny_pure (wpAny_pure h))

section
variable {X : Cx} {body suite : List Stmt} {b₀ : Stmt} {Ln n : Str} {np hpos pos : Pos} {aL : Addr} {ie : Nat} {tb : St → XK → TS} {th : TS}
/-- try: body / except Ln as n: suite -/
def tTry (K : PySem.W.Frag) (aL : Addr) (ie : Nat) (tb : St → XK → TS) (th : TS) : TS := fun D σ H =>
  tb σ (fun Cv _ H2 => ∃ C, Cv = .ref C ∧ PySem.W.subIn K (.ref C) (.ref aL) = some true ∧ ∀ a, H2 a = none →
    th { nx := fun σ3 H3 => D.nx (σ3.set ie none) H3, rt := D.rt, bk := fun σ3 H3 => D.bk (σ3.set ie none) H3, ct := fun σ3 H3 => D.ct (σ3.set ie none) H3 } (σ.set ie (some (.ref a))) (upd H2 a (excO a C))) D σ H
theorem ps_try (hcalm : X.calm = true) (hstk : X.stack = X.env :: X.outer) (hfr : X.env.frame = some X.env.locals) (hN : X.N.Nodup) (hi : X.N[ie]? = some n) (hk : X.env.scope.names.lookup n = some .local)
    (hg : Gl X Ln) (hm : X.mg Ln = some (.ref aL)) (cl : CatchC X.K aL) (hb : ∀ pins σ E1, PSs (cxTry X pins σ E1) body (tb σ E1)) (hs : ∀ a, PSs (cxHand X a) (b₀ :: suite) th) (hd : (Ln == ("__debug__" : Str)) = false := by decide) :
    PS X (.Try body [.ExceptHandler (some (.Name Ln np)) (some n) (b₀ :: suite) hpos] [] [] pos) (tTry X.K aL ie tb th) := by
  intro pins s σ H D I h
  refine wpAny_Try_except (wpAny_mono (hb pins σ _ [] s σ H D I.inTry h) (fun f s1 q => ?_) fun e s1 q => ?_)
  · have q' := SP.outTry q
    cases f with
    | next => exact wpAny_execs_nil q'
    | brk => exact q'
    | cont => exact q'
    | ret u => exact q'
  · obtain ⟨a, C, t, B, H', rfl, J, fly, trk, all, pb, C', eC, hsub, hth⟩ := q
    cases eC
    rw [hstk] at fly
    refine wpAny_looks_onW (L := X.env.locals) (outer := X.outer) (by rw [J.ok.frames, hstk]) hfr fly fun h4 held sl4 => ?_
    refine wpAny_landsW held fun h5 fly5 sl5 => ?_
    have J5 : Inv X pins σ H' { s1 with heap := h5 } := J.flown (t' := s1.toks) fly.1 fly5.1 (sl4.trans sl5) trk all pb
    have J5h : Inv (cxHand X a) pins σ H' { s1 with heap := h5 } := J5.inHand
    refine wpAny_handleBy_cons (codeAny_handlers_test ?_) (by intro q; cases q)
    refine ld_glob (X := cxHand X a) J5h hg hm ?_ hd
    refine exc_matches J5.kIn cl fly5.there hsub (codeAny_handlers_suite_as ?_)
    refine lands_againW fly5 fun h6 fly6 sl6 => ?_
    have J6 : Inv X pins σ H' { s1 with heap := h6 } := J5.flown (t' := s1.toks) fly5.1 fly6.1 sl6 trk all pb
    obtain ⟨oe, ws, hoe, hoec, hoed, _⟩ := fly6.first
    have nfr : ∀ b ∈ frs (X.env :: X.outer), b ≠ a := fun b hb z => by
      obtain ⟨_, o, ho, hn⟩ := fly6.2.2.1.mem hb
      rw [z] at ho
      have ho' : h6.get? a = some o := ho
      rw [hoe] at ho'
      cases ho'
      exact hn _ hoed
    have hLa : a ≠ X.env.locals := fun z => nfr X.env.locals (List.mem_filterMap.mpr ⟨X.env, List.mem_cons_self, hfr⟩) z.symm
    have hfa : a ∉ X.fs := fun z => by
      obtain ⟨env, hm', hf'⟩ := List.mem_filterMap.mp z
      exact nfr a (List.mem_filterMap.mpr ⟨env, List.mem_cons_of_mem _ hm', hf'⟩) rfl
    have hBa : B.get? a = none := fly.2.1
    have hHa : H' a = none := by
      cases z : H' a with
      | none => rfl
      | some u =>
        obtain ⟨o, ho⟩ := trk a u z
        rw [hBa] at ho
        cases ho
    have h0a : X.s₀.heap.get? a = none := by
      cases z : X.s₀.heap.get? a with
      | none => rfl
      | some o =>
        obtain ⟨o', ho⟩ := all a o z hfa
        rw [hBa] at ho
        cases ho
    have hpa : ∀ p ∈ X.pn ++ pins, p.1 ≠ a := fun p hp z => by
      obtain ⟨o', ho⟩ := pb p hp
      rw [z, hBa] at ho
      cases ho
    have J7 : Inv (cxHand X a) pins σ (upd H' a (excO a C)) { s1 with heap := h6 } := (J6.track hoe hoec hoed hHa h0a hLa hpa).inHand
    refine store_ok (X := cxHand X a) J7 hN hi (.inl hk) (v := .ref a) rfl (fun s8 J8 => ?_) (.inr hk)
    refine wpAny_mono (hs a pins s8 _ _ _ J8 (hth a hHa)) (fun f s9 q9 => ?_) fun _ _ z => False.elim z
    cases f with
    | next => obtain ⟨σ9, H9, I9, q⟩ := q9; exact (Inv.outHand I.ok I9).goes hN hi hk fun s' I' => ⟨_, _, I', q⟩
    | brk => obtain ⟨σ9, H9, I9, q⟩ := q9; exact (Inv.outHand I.ok I9).goes hN hi hk fun s' I' => ⟨_, _, I', q⟩
    | cont => obtain ⟨σ9, H9, I9, q⟩ := q9; exact (Inv.outHand I.ok I9).goes hN hi hk fun s' I' => ⟨_, _, I', q⟩
    | ret u => obtain ⟨v, σ9, H9, I9, r, q⟩ := q9; exact (Inv.outHand I.ok I9).goes hN hi hk fun s' I' => ⟨v, _, _, I', r, q⟩
end

/-! ### isinstance -/
/-- how an exception's own attributes are looked up -/
structure ExcLk (K : PySem.W.Frag) (C : Addr) : Prop where
  ga : PySem.W.findIn K (.ref C) "__getattribute__" = some (some (.builtin "BaseException.__getattribute__"))
  gh : PySem.W.findIn K (.ref C) "__getattr__" = some none
  ca : PySem.W.findIn K (.ref C) "__class__" = some (some (.builtin "object.__class__"))
  mo : PySem.W.mroIn K C (.type "object") = some true
  mb : PySem.W.mroIn K C (.type "BaseException") = some true
section
variable {prog : Program} {w : World} {A : Around} {E : Value → Shared → Prop} {s : Shared} {K : PySem.W.Frag} {a C : Addr}
theorem exc_class_get {R : Result → Shared → Prop} {tp : Value} (X : K.In s.heap) (he : ∃ o, s.heap.get? a = some o ∧ o.cls = .ref C) (c : ExcLk K C) (h : R (.ok (.ret (.ref C))) s) :
    codeAny (model prog w) A (.call (.builtin "getset_descriptor.__get__") ⟨[.builtin "object.__class__", .ref a, tp], []⟩) R s := by
  obtain ⟨hh, g, dr, t, os⟩ := s
  obtain ⟨o, ho, hc⟩ := he
  have L0 : PySem.W.Looks (model prog w) hh (typeOf (.ref a)) (.ref C) := hc ▸ (PySem.W.Looks.ld ho).andThen .now
  have L1 := PySem.W.looks_mroIn (M := model prog w) X c.mo
  refine codeAny_call_builtin PySem.W.KF.slot_gs.plain PySem.W.KF.entry_gs (PySem.W.KF.slot_gs.check _ _ _ _ _ _ _ _ PySem.W.KF.type_class (PySem.W.KF.args_gs _ _ _) ?_)
  unfold Builtin.«getset_descriptor.__get__» Builtin.Getset_descriptor.descrGet
  rw [PySem.W.dga_obj]
  refine wpAny_bind (wpAny_pure ?_)
  unfold Builtin.Getset_descriptor.descrGetter Builtin.Getset_descriptor.descrCheckInstance Builtin.Getset_descriptor.descrNameAndClass isInstance
  simp only [PySem.W.KF.owner_class]
  repeat lk
  refine ⟨Code.quiet_builtin _ (by decide +kernel), codeAny_builtin PySem.W.KF.entry_class ?_⟩
  unfold Builtin.«object.__class__» shownTypeOf
  repeat lk
  exact h

open Builtin Builtin.ObjectAttr in
theorem looks_find_data {M : Model} {h : Heap} {x : Addr} {name : Str} {g at_ : Value} (X : K.In h) (ha : PySem.W.findIn K (.ref C) name = some (some at_)) (hg : PySem.W.specialIn K at_ "__get__" = some (some g)) (hd : PySem.W.takesIn K at_ = some true) :
    PySem.W.Looks M h (find (.ref x) (.ref C) name) (.bind g at_) := by
  have L1 := PySem.W.looks_findIn (M := M) X ha
  have L2 : PySem.W.Looks M h (getOf (some at_)) (some g) := PySem.W.looks_specialIn X hg
  have L3 := PySem.W.looks_takesIn (M := M) X hd
  exact L1.andThen (L2.andThen ((show PySem.W.Looks M h (dataDescriptor? (some at_) (some g)) (some (g, at_)) from L3.andThen .now).andThen (PySem.W.Looks.tag .now)))
theorem sp_class : PySem.W.specialIn K (.builtin "object.__class__") "__get__" = some (some (.builtin "getset_descriptor.__get__")) := by kernel_rfl
theorem tk_class : PySem.W.takesIn K (.builtin "object.__class__") = some true := by kernel_rfl
theorem bga_check {M : Model} {tk : Tok} {Q : Unit → Shared → Prop} (he : ∃ o, s.heap.get? a = some o ∧ o.cls = .ref C) (L : PySem.W.Looks M s.heap (isSubtype (.ref C) (.type "BaseException")) true) (h : Q () s) :
    wpAny M A (checkBuiltinCall "BaseException.__getattribute__" ⟨[.ref a, .str "__class__" tk], []⟩) Q E s := by
  obtain ⟨o, ho, hc⟩ := he
  have L0 : PySem.W.Looks M s.heap (typeOf (.ref a)) (.ref C) := hc ▸ (PySem.W.Looks.ld ho).andThen .now
  have hk : builtinKind "BaseException.__getattribute__" = some .slot := by decide +kernel
  have hsp : splitId "BaseException.__getattribute__" = some ("BaseException", "__getattribute__") := by decide +kernel
  have LI : PySem.W.Looks M s.heap (isInstance (.ref a) (.type "BaseException")) true := L0.andThen L
  have ha := PySem.F.args_bexc_ga (.ref a) (.str "__class__" tk)
  simp only [checkBuiltinCall, hk, hsp]
  refine wpAny_bind (LI.here ?_)
  repeat (any_goals (first | assumption | wp_step))
theorem exc_class {Q : Option Value → Shared → Prop} (X : K.In s.heap) (he : ∃ o, s.heap.get? a = some o ∧ o.cls = .ref C) (c : ExcLk K C) (h : Q (some (.ref C)) { s with toks := s.toks + 1 }) : wpAny (model prog w) A (getAttr? (.ref a) "__class__") Q E s := by
  obtain ⟨hh, gg, d, t, os⟩ := s
  have he' := he
  obtain ⟨o, ho, hc⟩ := he
  have L0 : PySem.W.Looks (model prog w) hh (typeOf (.ref a)) (.ref C) := hc ▸ (PySem.W.Looks.ld ho).andThen .now
  have L1 := PySem.W.looks_findIn (M := model prog w) X c.ga
  have Lh : PySem.W.Looks (model prog w) hh (hookBefore (.ref C)) none := PySem.W.looks_findIn (M := model prog w) X c.gh
  have LF := looks_find_data (M := model prog w) (x := a) X c.ca sp_class tk_class
  unfold getAttr? getAttrBy? getAttrBy
  refine wpAny_bind (wpAny_mkText (wpAny_bind (wpAny_attempt (wpAny_holding (wpAny_bind (L0.at (wpAny_bind (L1.at ?_))))))))
  have hx1 : (onTheHeap (Value.ref C) && Value.builtin "BaseException.__getattribute__" == Value.builtin "object.__getattribute__") = false := by
    rw [show (Value.builtin "BaseException.__getattribute__" == Value.builtin "object.__getattribute__") = false from by decide +kernel]
    rfl
  dsimp only
  rw [hx1, if_neg Bool.false_ne_true]
  unfold getAttrByItsOwn
  refine wpAny_bind (Lh.at (wpAny_bind (wpAny_attempt (wpAny_holding ?_))))
  show wpAny _ _ (boundAndCalled (.builtin "BaseException.__getattribute__") (.ref a) (.str "__class__" t)) _ _ _
  unfold boundAndCalled
  refine wpAny_bind (wpAny_of_eq (PySem.F.attr_ValueError.ga.bind (.ref a)) ?_)
  refine wpAny_call (codeAny_call_builtin PySem.F.attr_ValueError.ga.plain PySem.F.entry_bexc_ga ?_)
  refine bga_check (a := a) (C := C) ⟨_, ho, hc⟩ (PySem.W.looks_mroIn X c.mb) ?_
  refine wpAny_bind (wpAny_pure ?_)
  dsimp only
  refine wpAny_bind (wpAny_pure ?_)
  refine wpAny_bind (L0.at (wpAny_bind (LF.at ?_)))
  dsimp only
  unfold Builtin.ObjectAttr.bindTo
  refine wpAny_bind (wpAny_holding (wpAny_call (exc_class_get X ⟨_, ho, hc⟩ c ?_)))
  exact wpAny_pure (wpAny_pure (wpAny_pure h))
theorem kitx_exc (c : ExcLk K C) : PySem.W.KitX K (.ref a) (.ref C) (fun h => ∃ o, h.get? a = some o ∧ o.cls = .ref C) where
  ty := fun M h _ ⟨o, h1, h2⟩ => h2 ▸ (PySem.W.Looks.ld h1).andThen .now
  it := fun M h X _ => isType_of X c.mo
  ne := fun h tp dd its n sl X htp => by
    obtain ⟨cd, hc, _⟩ := Option.bind_eq_some_iff.mp c.mo
    refine Bool.eq_false_iff.mpr fun q => ?_
    have e : C = tp := Value.ref.inj (beq_iff_eq.mp q)
    subst e
    unfold PySem.W.clsIn at hc
    split at hc
    · rename_i c' d' cd' sl' ho
      have z := (X _ _ ho).symm.trans htp
      cases z
    · cases hc
  ca := fun X p k => exc_class X p c k
end
/-- the class behind a value -/
def clsV : V → Value
  | .ty n => .type n
  | .ref a => .ref a
  | _ => .none
def isCls : V → Bool
  | .ty _ => true
  | .ref _ => true
  | _ => false
theorem clsV_of {c : V} {u : Value} (r : RelV c u) (h : isCls c = true) : u = clsV c := by
  cases c <;> first | exact r | cases h
def TyX (K : PySem.W.Frag) (H : Hp) (x : V) (t : Value) : Prop := TyOf K H x t ∨ ∃ a C, x = .ref a ∧ H a = some (excO a C) ∧ t = .ref C ∧ ExcLk K C
@[irreducible] def rIsi (K : PySem.W.Frag) : List V → Hp → VK → Prop := fun xs H Q => ∃ x c t b, xs = [x, c] ∧ isCls c = true ∧ TyX K H x t ∧ PySem.W.kitOne K t (clsV c) = some b ∧ Q (.bl b) H
theorem call_isinst {X : Cx} : CallR X (.builtin "isinstance") (rIsi X.K) := by
  intro pins s σ H xs us Q I r h
  unfold rIsi at h
  obtain ⟨x, c, t, b, rfl, hc, ty, e, q⟩ := h
  obtain ⟨u, v, rfl, ru, rv⟩ := vals2 r
  obtain rfl := clsV_of rv hc
  rcases ty with ty | ⟨a, C, rfl, ha, rfl, lk⟩
  · exact isinst_ok I ru ty e fun tk => ⟨.bl b, H, I.tok tk, rfl, q⟩
  · obtain rfl : u = Value.ref a := ru
    obtain ⟨p, _, _⟩ := (show ObjOk X.prog X.w H s.heap a (.ext _) from I.hok a _ ha)
    exact PySem.W.kia_one (kitx_exc lk) I.kIn p e (fun z => nomatch z) fun tk => ⟨.bl b, H, I.tok tk, rfl, q⟩
theorem call_isinstK {X : Cx} {K : PySem.W.Frag} (hK : X.K = K) : CallR X (.builtin "isinstance") (rIsi K) := hK ▸ call_isinst
/-- a built-in class by its name -/
theorem pe_ty {X : Cx} {x : Str} {n : String} {pos : Pos} (hg : Gl X x) (hm : X.mg x = none) (hv : bootBuiltins x = some (.type n)) (hn : x ≠ "__name__" := by decide) (hd : (x == ("__debug__" : Str)) = false := by decide) : PE X (.Name x pos) (tC (.ty n)) := pe_bltn hg hm hv rfl hn hd
/-- kitOne of Python's own classes: the written part is not asked -/
theorem kit_int_int {K : PySem.W.Frag} : PySem.W.kitOne K (.type "int") (.type "int") = some true := by kernel_rfl
theorem kit_int_bool {K : PySem.W.Frag} : PySem.W.kitOne K (.type "int") (.type "bool") = some false := by kernel_rfl
theorem kit_bool_int {K : PySem.W.Frag} : PySem.W.kitOne K (.type "bool") (.type "int") = some true := by kernel_rfl
theorem kit_bool_bool {K : PySem.W.Frag} : PySem.W.kitOne K (.type "bool") (.type "bool") = some true := by kernel_rfl
theorem kit_str_str {K : PySem.W.Frag} : PySem.W.kitOne K (.type "str") (.type "str") = some true := by kernel_rfl
theorem kit_list_list {K : PySem.W.Frag} : PySem.W.kitOne K (.type "list") (.type "list") = some true := by kernel_rfl
theorem kit_tuple_tuple {K : PySem.W.Frag} : PySem.W.kitOne K (.type "tuple") (.type "tuple") = some true := by kernel_rfl
theorem bt_int : bootBuiltins "int" = some (.type "int") := by decide +kernel
theorem bt_bool : bootBuiltins "bool" = some (.type "bool") := by decide +kernel
theorem bt_str : bootBuiltins "str" = some (.type "str") := by decide +kernel
theorem bt_list : bootBuiltins "list" = some (.type "list") := by decide +kernel
theorem bt_tuple : bootBuiltins "tuple" = some (.type "tuple") := by decide +kernel
theorem bt_ValueError : bootBuiltins "ValueError" = some (.type "ValueError") := by decide +kernel
theorem bt_isinstance : bootBuiltins "isinstance" = some (.builtin "isinstance") := by decide +kernel

/-! ### the text's own exceptions -/
structure ExcT (K : PySem.W.Frag) (mg : Str → Option Value) (cL cF cN cC cO : Addr) : Prop where
  m_LitError : mg "LitError" = some (.ref cL)
  m_NoFigure : mg "NoFigure" = some (.ref cF)
  m_NoNumber : mg "NoNumber" = some (.ref cN)
  m_Clash : mg "Clash" = some (.ref cC)
  m_NoNote : mg "NoNote" = some (.ref cO)
  cat : CatchC K cL
/-- one of them that is raised: which of the four it is -/
structure RaisedC (K : PySem.W.Frag) (cL cF cN cC cO c : Addr) (bF bN bC bO : Bool) : Prop where
  made : ExcC K c
  lk : ExcLk K c
  sub : PySem.W.subIn K (.ref c) (.ref cL) = some true
  kF : PySem.W.kitOne K (.ref c) (.ref cF) = some bF
  kN : PySem.W.kitOne K (.ref c) (.ref cN) = some bN
  kC : PySem.W.kitOne K (.ref c) (.ref cC) = some bC
  kO : PySem.W.kitOne K (.ref c) (.ref cO) = some bO
  kV : PySem.W.kitOne K (.ref c) (.type "ValueError") = some true
end L2

set_option Elab.async false
set_option linter.all false
set_option maxRecDepth 100000
/-! data that is equal to itself -/
namespace L2
open PySem PySem.Spec PyProof.Rows
theorem can_all : ∀ {ds : List PyData}, (∀ d ∈ ds, d.canLay0 = true) → PyData.canLayAll0 ds = true
  | [], _ => rfl
  | d :: r, h => by simp [PyData.canLayAll0, h d List.mem_cons_self, can_all fun x hx => h x (List.mem_cons_of_mem _ hx)]
theorem depth_all {n : Nat} : ∀ {ds : List PyData}, (∀ d ∈ ds, d.depth ≤ n) → PyData.depthAll ds ≤ n
  | [], _ => by simp [PyData.depthAll]
  | d :: r, h => by
    have h1 := h d List.mem_cons_self
    have h2 := depth_all fun x hx => h x (List.mem_cons_of_mem _ hx)
    simp only [PyData.depthAll]
    omega
theorem eqv_all : ∀ {ds : List PyData}, (∀ d ∈ ds, PyData.eqv d d = true) → PyData.eqvAll ds ds = true
  | [], _ => by simp [PyData.eqvAll]
  | d :: r, h => by simp [PyData.eqvAll, h d List.mem_cons_self, eqv_all fun x hx => h x (List.mem_cons_of_mem _ hx)]
/-- data without floats, of at most this depth -/
structure Plain (n : Nat) (d : PyData) : Prop where
  can : d.canLay0 = true
  dep : d.depth ≤ n
  self : PyData.eqv d d = true
theorem Plain.int (i : Int) : Plain 0 (.int i) := ⟨rfl, by simp [PyData.depth], by simp [PyData.eqv]⟩
theorem Plain.str (x : Str) (h : PyData.strOk x = true) : Plain 0 (.str x) := ⟨by simp [PyData.canLay0, h], by simp [PyData.depth], by simp [PyData.eqv]⟩
theorem Plain.bool (b : Bool) : Plain 0 (.bool b) := ⟨rfl, by simp [PyData.depth], by simp [PyData.eqv]⟩
theorem Plain.none : Plain 0 .none := ⟨rfl, by simp [PyData.depth], by simp [PyData.eqv]⟩
theorem Plain.list {n : Nat} {ds : List PyData} (h : ∀ d ∈ ds, Plain n d) : Plain (n + 1) (.list ds) :=
  ⟨by simp only [PyData.canLay0]; exact can_all fun d hd => (h d hd).can, by simp only [PyData.depth]; have := depth_all fun d hd => (h d hd).dep; omega, by rw [PyData.eqv]; exact eqv_all fun d hd => (h d hd).self⟩
theorem Plain.tuple {n : Nat} {ds : List PyData} (h : ∀ d ∈ ds, Plain n d) : Plain (n + 1) (.tuple ds) :=
  ⟨by simp only [PyData.canLay0]; exact can_all fun d hd => (h d hd).can, by simp only [PyData.depth]; have := depth_all fun d hd => (h d hd).dep; omega, by rw [PyData.eqv]; exact eqv_all fun d hd => (h d hd).self⟩
theorem Plain.shaped {n : Nat} {d : PyData} (h : Plain n d) (hn : n ≤ 64 := by decide) : SeqAt.shaped d = true := by
  have := h.dep
  simp only [SeqAt.shaped, h.can, Bool.true_and]
  exact decide_eq_true (by omega)
theorem Plain.ints (ns : List Int) : Plain 1 (.list (ns.map .int)) := .list fun d hd => by obtain ⟨i, _, rfl⟩ := List.mem_map.mp hd; exact .int i
theorem Plain.strs (ns : List Str) (h : ∀ x ∈ ns, PyData.strOk x = true) : Plain 1 (.list (ns.map .str)) := .list fun d hd => by obtain ⟨i, hi, rfl⟩ := List.mem_map.mp hd; exact .str i (h i hi)
theorem Plain.bools (ns : List Bool) : Plain 1 (.list (ns.map .bool)) := .list fun d hd => by obtain ⟨i, _, rfl⟩ := List.mem_map.mp hd; exact .bool i
/-- x == y of one and the same data -/
theorem eqD_self {K : PySem.W.Frag} {H : Hp} {x y : V} {d : PyData} {n : Nat} {Q : VK} (p : Plain n d) (hx : Rep K H x d) (hy : Rep K H y d) (q : Q (.bl true) H) (hn : n ≤ 64 := by decide) : rEqD K x y H Q := ⟨d, d, hx, hy, p.shaped hn, p.shaped hn, by rw [p.self]; exact q⟩
theorem neD_self {K : PySem.W.Frag} {H : Hp} {x y : V} {d : PyData} {n : Nat} {Q : VK} (p : Plain n d) (hx : Rep K H x d) (hy : Rep K H y d) (q : Q (.bl false) H) (hn : n ≤ 64 := by decide) : rNeD K x y H Q := ⟨d, d, hx, hy, p.shaped hn, p.shaped hn, by rw [p.self]; exact q⟩
section
variable {X : Cx} {K : PySem.W.Frag} {o e : Expr} {es : List Expr} {to : TE} {t : TA} {name : Str} {apos cpos : Pos} {T id : String} {r : V → List V → Hp → VK → Prop}
theorem pe_bmK (hK : X.K = K) (pa : PlainAttrs T) (slot : Slot T name id) (hty : typeOf (.builtin id) = pure (.type "method_descriptor")) (hm : MtR X id r) (ho : PE X o to) (ha : PA X (e :: es) t)
    (hbase : attributeBase o name X.env (eval o X.env) = eval o X.env := by rfl)
    (hfew : ((backTo cpos (starEach (e :: es) X.env)).all (fun x => !x.1) && (backToKw cpos (keywordEach [] X.env)).all (fun x => x.1.isSome)
      && decide ((e :: es).length + ([] : List Keyword).length + (if ([] : List Keyword).isEmpty then 0 else 1) < 30)) = true := by rfl)
    (hline : (apos.endLine == cpos.line) = true := by rfl) (hs : starEach (e :: es) X.env = (false, eval e X.env) :: starEach es X.env := by rfl) (hplain : (backTo cpos (starEach es X.env)).any (·.1) = false := by rfl) :
    PE X (.Call (.Attribute o name apos) (e :: es) [] cpos) (tBM K T r to t) := hK ▸ pe_bm pa slot hty hm ho ha hbase hfew hline hs hplain
end
/-! isinstance, answered -/
section
variable {K : PySem.W.Frag} {H : Hp} {Q : VK}
theorem isi_int_int {i : Int} (q : Q (.bl true) H) : rIsi K [.int i, .ty "int"] H Q := by
  unfold rIsi
  exact ⟨.int i, .ty "int", .type "int", true, rfl, rfl, .inl (.int i), kit_int_int, q⟩
theorem isi_int_bool {i : Int} (q : Q (.bl false) H) : rIsi K [.int i, .ty "bool"] H Q := by
  unfold rIsi
  exact ⟨.int i, .ty "bool", .type "int", false, rfl, rfl, .inl (.int i), kit_int_bool, q⟩
theorem isi_bool_bool {b : Bool} (q : Q (.bl true) H) : rIsi K [.bl b, .ty "bool"] H Q := by
  unfold rIsi
  exact ⟨.bl b, .ty "bool", .type "bool", true, rfl, rfl, .inl (.bl b), kit_bool_bool, q⟩
theorem isi_str_str {x : Str} (q : Q (.bl true) H) : rIsi K [.str x, .ty "str"] H Q := by
  unfold rIsi
  exact ⟨.str x, .ty "str", .type "str", true, rfl, rfl, .inl (.str x), kit_str_str, q⟩
theorem isi_list {a : Addr} {xs : List V} (h : H a = some (.lst xs)) (q : Q (.bl true) H) : rIsi K [.ref a, .ty "list"] H Q := by
  unfold rIsi
  exact ⟨.ref a, .ty "list", .type "list", true, rfl, rfl, .inl (.lst h), kit_list_list, q⟩
theorem isi_tuple {a : Addr} {xs : List V} (h : H a = some (.tup xs)) (q : Q (.bl true) H) : rIsi K [.ref a, .ty "tuple"] H Q := by
  unfold rIsi
  exact ⟨.ref a, .ty "tuple", .type "tuple", true, rfl, rfl, .inl (.tup h), kit_tuple_tuple, q⟩
theorem isi_exc {a C c : Addr} {b : Bool} (h : H a = some (excO a C)) (l : ExcLk K C) (e : PySem.W.kitOne K (.ref C) (.ref c) = some b) (q : Q (.bl b) H) : rIsi K [.ref a, .ref c] H Q := by
  unfold rIsi
  exact ⟨.ref a, .ref c, .ref C, b, rfl, rfl, .inr ⟨a, C, rfl, h, rfl, l⟩, e, q⟩
theorem isi_excT {a C : Addr} {n : String} {b : Bool} (h : H a = some (excO a C)) (l : ExcLk K C) (e : PySem.W.kitOne K (.ref C) (.type n) = some b) (q : Q (.bl b) H) : rIsi K [.ref a, .ty n] H Q := by
  unfold rIsi
  exact ⟨.ref a, .ty n, .ref C, b, rfl, rfl, .inr ⟨a, C, rfl, h, rfl, l⟩, e, q⟩
end
/-! a display of constants -/
def constV : Expr → Option V
  | .Constant (.str x) _ _ => some (.str x)
  | .Constant (.int i) _ _ => some (.int i)
  | .Constant (.bool b) _ _ => some (.bl b)
  | .Constant .none _ _ => some .non
  | _ => none
def constAll : List Expr → Option (List V)
  | [] => some []
  | e :: r => match constV e, constAll r with
    | some v, some vs => some (v :: vs)
    | _, _ => none
def tConsts (vs : List V) : TA := fun _ H Q => Q vs H
theorem constV_pe {X : Cx} {e : Expr} {v : V} (h : constV e = some v) : PE X e (tC v) ∧ ∀ es, starEach (e :: es) X.env = (false, eval e X.env) :: starEach es X.env := by
  unfold constV at h
  split at h <;> cases h
  · exact ⟨pe_str, fun _ => rfl⟩
  · exact ⟨pe_int, fun _ => rfl⟩
  · exact ⟨pe_bl, fun _ => rfl⟩
  · exact ⟨pe_non, fun _ => rfl⟩
theorem pa_const {X : Cx} : ∀ {es : List Expr} {vs : List V}, constAll es = some vs → PA X es (tConsts vs)
  | [], vs, h => by cases h; exact pa_nil
  | e :: r, vs, h => by
    unfold constAll at h
    split at h
    · rename_i v vs' hv hr
      cases h
      obtain ⟨h1, h2⟩ := constV_pe (X := X) hv
      exact pa_cons h1 (pa_const hr) (h2 r)
    · cases h
theorem bt_range : bootBuiltins "range" = some (.type "range") := by decide +kernel
end L2

set_option Elab.async false
set_option linter.all false
set_option maxRecDepth 100000
namespace L2
open PySem PySem.Spec PyProof.Rows

/-! ### lists of pairs as tables -/
section
variable {κ : Type} [DecidableEq κ]
def valV (kvs : List (κ × V)) (k : κ) : Option V := (kvs.find? fun kv => decide (kv.1 = k)).map (·.2)
/-- in its place, or at the end -/
def putK (kvs : List (κ × V)) (k : κ) (v : V) : List (κ × V) :=
  if (kvs.any fun kv => decide (kv.1 = k)) = true then kvs.map (fun kv => if kv.1 = k then (kv.1, v) else kv) else kvs ++ [(k, v)]
def dropK (kvs : List (κ × V)) (k : κ) : List (κ × V) := kvs.filter fun kv => decide (kv.1 ≠ k)

theorem valV_nil {k : κ} : valV ([] : List (κ × V)) k = none := rfl
theorem valV_pos {p : κ × V} {r : List (κ × V)} {k : κ} (e : p.1 = k) : valV (p :: r) k = some p.2 := by simp [valV, List.find?_cons, e]
theorem valV_neg {p : κ × V} {r : List (κ × V)} {k : κ} (e : ¬ p.1 = k) : valV (p :: r) k = valV r k := by simp [valV, List.find?_cons, e]
theorem valV_any (k : κ) : ∀ kvs : List (κ × V), (kvs.any fun kv => decide (kv.1 = k)) = (valV kvs k).isSome
  | [] => rfl
  | p :: r => by
    rw [List.any_cons]
    by_cases e : p.1 = k
    · simp only [valV_pos e, decide_eq_true e, Bool.true_or, Option.isSome_some]
    · rw [valV_neg e, decide_eq_false e, Bool.false_or]; exact valV_any k r
theorem valV_map (k j : κ) (y : V) : ∀ kvs : List (κ × V), valV (kvs.map fun kv => if kv.1 = k then (kv.1, y) else kv) j = (valV kvs j).map fun x => if j = k then y else x
  | [] => rfl
  | p :: r => by
    have ih := valV_map k j y r
    rw [List.map_cons]
    by_cases h : p.1 = k
    · rw [if_pos h]
      by_cases e : p.1 = j
      · rw [valV_pos (p := (p.1, y)) e, valV_pos e, Option.map_some, if_pos (e.symm.trans h)]
      · rw [valV_neg (p := (p.1, y)) e, valV_neg e, ih]
    · rw [if_neg h]
      by_cases e : p.1 = j
      · rw [valV_pos (p := p) e, valV_pos e, Option.map_some, if_neg (fun z => h (e.trans z))]
      · rw [valV_neg (p := p) e, valV_neg e, ih]
theorem valV_snoc (k j : κ) (y : V) : ∀ kvs : List (κ × V), valV kvs k = none → valV (kvs ++ [(k, y)]) j = if j = k then some y else valV kvs j
  | [], _ => by
    by_cases e : k = j
    · rw [if_pos e.symm]; exact valV_pos (p := (k, y)) e
    · rw [if_neg (fun z => e z.symm)]; exact valV_neg (p := (k, y)) e
  | p :: r, hn => by
    rw [List.cons_append]
    have hk : ¬ p.1 = k := fun z => by rw [valV_pos z] at hn; cases hn
    rw [valV_neg hk] at hn
    have ih := valV_snoc k j y r hn
    by_cases e : p.1 = j
    · rw [valV_pos e, valV_pos e, if_neg (fun z => hk (e.trans z))]
    · rw [valV_neg e, valV_neg e, ih]
theorem valV_put (kvs : List (κ × V)) (k j : κ) (y : V) : valV (putK kvs k y) j = if j = k then some y else valV kvs j := by
  unfold putK
  by_cases a : (kvs.any fun kv => decide (kv.1 = k)) = true
  · rw [if_pos a, valV_map]
    rw [valV_any] at a
    by_cases e : j = k
    · obtain ⟨x, hx⟩ := Option.isSome_iff_exists.mp a
      rw [if_pos e, e, hx, Option.map_some, if_pos rfl]
    · rw [if_neg e]
      cases valV kvs j with
      | none => rfl
      | some x => rw [Option.map_some, if_neg e]
  · rw [if_neg a]
    refine valV_snoc k j y kvs ?_
    rw [valV_any] at a
    cases q : valV kvs k with
    | none => rfl
    | some x => rw [q] at a; exact (a rfl).elim
theorem length_putK (kvs : List (κ × V)) (k : κ) (v : V) : (putK kvs k v).length ≤ kvs.length + 1 := by
  unfold putK
  split
  · rw [List.length_map]; omega
  · rw [List.length_append, List.length_cons, List.length_nil]; omega
theorem putK_new {kvs : List (κ × V)} {k : κ} (v : V) (h : valV kvs k = none) : putK kvs k v = kvs ++ [(k, v)] := by
  unfold putK
  rw [valV_any, h]
  exact if_neg (by decide)

theorem RelO.isSome_eq {o : Option V} {u : Option Value} (r : RelO o u) : o.isSome = u.isSome := by
  cases o with
  | none => cases u with
    | none => rfl
    | some _ => exact (show False from r).elim
  | some _ => cases u with
    | none => exact (show False from r).elim
    | some _ => rfl
theorem RelO.getD {o : Option V} {u : Option Value} {d : V} {d' : Value} (r : RelO o u) (rd : RelV d d') : RelV (o.getD d) (u.getD d') := by
  cases o with
  | none => cases u with
    | none => exact rd
    | some _ => exact (show False from r).elim
  | some _ => cases u with
    | none => exact (show False from r).elim
    | some _ => exact r

/-- raw tables of the same keys -/
theorem KV.val {kvs : List (κ × V)} {vs : List (κ × Value)} (r : KV kvs vs) (k : κ) : RelO (valV kvs k) (valueAt vs k) := by
  unfold KV at r
  induction r with
  | nil => exact True.intro
  | @cons p q ps qs h t ih =>
    obtain ⟨h1, h2⟩ := h
    by_cases e : p.1 = k
    · have e' : q.1 = k := h1.symm.trans e
      have b : valueAt (q :: qs) k = some q.2 := by simp [valueAt, List.find?_cons, e']
      rw [valV_pos e, b]; exact h2
    · have e' : ¬ q.1 = k := fun z => e (h1.trans z)
      have b : valueAt (q :: qs) k = valueAt qs k := by simp [valueAt, List.find?_cons, e']
      rw [valV_neg e, b]; exact ih
theorem KV.any {kvs : List (κ × V)} {vs : List (κ × Value)} (r : KV kvs vs) (k : κ) : (kvs.any fun kv => decide (kv.1 = k)) = vs.any fun kv => decide (kv.1 = k) := by
  unfold KV at r
  induction r with
  | nil => rfl
  | cons h t ih => rw [List.any_cons, List.any_cons, ih, h.1]
theorem KV.repl {kvs : List (κ × V)} {vs : List (κ × Value)} (r : KV kvs vs) (k : κ) {y : V} {u : Value} (ry : RelV y u) :
    KV (kvs.map fun kv => if kv.1 = k then (kv.1, y) else kv) (vs.map fun kv => if kv.1 = k then (kv.1, u) else kv) := by
  unfold KV at r ⊢
  induction r with
  | nil => exact .nil
  | @cons p q ps qs h t ih =>
    rw [List.map_cons, List.map_cons]
    refine .cons ?_ ih
    obtain ⟨h1, h2⟩ := h
    by_cases e : p.1 = k
    · rw [if_pos e, if_pos (h1.symm.trans e)]; exact ⟨h1, ry⟩
    · rw [if_neg e, if_neg (fun z => e (h1.trans z))]; exact ⟨h1, h2⟩
theorem KV.put {kvs : List (κ × V)} {vs : List (κ × Value)} (r : KV kvs vs) (k : κ) {y : V} {u : Value} (ry : RelV y u) : KV (putK kvs k y) (stored vs k u) := by
  unfold putK stored
  rw [r.any k]
  by_cases e : (vs.any fun kv => decide (kv.1 = k)) = true
  · rw [if_pos e, if_pos e]; exact r.repl k ry
  · rw [if_neg e, if_neg e]; exact Paired.snoc r ⟨rfl, ry⟩
theorem KV.drop {kvs : List (κ × V)} {vs : List (κ × Value)} (r : KV kvs vs) (k : κ) : KV (dropK kvs k) (without vs k) := by
  unfold KV at r ⊢
  unfold dropK without
  induction r with
  | nil => exact .nil
  | @cons p q ps qs h t ih =>
    obtain ⟨h1, h2⟩ := h
    rw [List.filter_cons, List.filter_cons]
    by_cases e : p.1 = k
    · have a : ¬ decide (p.1 ≠ k) = true := by simp [e]
      have b : ¬ decide (q.1 ≠ k) = true := by simp [h1.symm.trans e]
      rw [if_neg a, if_neg b]; exact ih
    · have e' : ¬ q.1 = k := fun z => e (h1.trans z)
      have a : decide (p.1 ≠ k) = true := by simp [e]
      have b : decide (q.1 ≠ k) = true := by simp [e']
      rw [if_pos a, if_pos b]; exact .cons ⟨h1, h2⟩ ih
theorem KV.keys {kvs : List (κ × V)} {vs : List (κ × Value)} (r : KV kvs vs) : kvs.map (·.1) = vs.map (·.1) := by
  unfold KV at r
  induction r with
  | nil => rfl
  | cons h t ih => rw [List.map_cons, List.map_cons, ih, h.1]
theorem KV.length {kvs : List (κ × V)} {vs : List (κ × Value)} (r : KV kvs vs) : kvs.length = vs.length := Paired.length r
theorem dropK_le (kvs : List (κ × V)) (k : κ) : (dropK kvs k).length ≤ kvs.length := List.length_filter_le _ _
end


/-! ### a tracked dict, its keys ints and texts or tuples of these -/
theorem kV_is {P : Program} {w : World} {k : Key} {u : Value} (r : RelV (kV k) u) : (mixKind P w).is k u = true := by
  cases k with
  | inl i => obtain ⟨t, e⟩ := (show ∃ t, u = Value.int i t from r); subst e; exact mixKind_int P w i t
  | inr x => obtain ⟨t, e⟩ := (show ∃ t, u = Value.str x t from r); subst e; exact mixKind_str P w x t
theorem kV_inj {a b : Key} (e : kV a = kV b) : a = b := by
  cases a with
  | inl i => cases b with
    | inl j => have e' : V.int i = V.int j := e; injection e' with e'; rw [e']
    | inr y => exact nomatch (show V.int i = V.str y from e)
  | inr x => cases b with
    | inl j => exact nomatch (show V.str x = V.int j from e)
    | inr y => have e' : V.str x = V.str y := e; injection e' with e'; rw [e']
theorem kVs_inj : ∀ {a b : List Key}, a.map kV = b.map kV → a = b
  | [], [], _ => rfl
  | [], _ :: _, e => by simp at e
  | _ :: _, [], e => by simp at e
  | x :: xs, y :: ys, e => by
    rw [List.map_cons, List.map_cons] at e
    injection e with e1 e2
    rw [kV_inj e1, kVs_inj e2]
theorem items_are {P : Program} {w : World} : ∀ {ks : List Key} {us : List Value}, Vals (ks.map kV) us → ItemsAre (mixKind P w) ks us
  | [], _, r => by rw [List.map_nil] at r; cases r; exact .nil
  | k :: ks, _, r => by
    rw [List.map_cons] at r
    cases r with
    | cons h t => exact .cons (kV_is h) (items_are t)

/-- raw entries of a dict with tuple keys -/
abbrev KT (H : Hp) : List (List Key × V) → List (List Key × Addr × Value) → Prop := Paired fun p q => p.1 = q.1 ∧ H q.2.1 = some (.tup (p.1.map kV)) ∧ RelV p.2 q.2.2
theorem KT.val {H : Hp} {kvs : List (List Key × V)} {xs : List (List Key × Addr × Value)} (r : KT H kvs xs) (k : List Key) : RelO (valV kvs k) ((atKey xs k).map (·.2)) := by
  induction r with
  | nil => exact True.intro
  | @cons p q ps qs h t ih =>
    obtain ⟨h1, _, h2⟩ := h
    by_cases e : p.1 = k
    · have e' : q.1 = k := h1.symm.trans e
      have b : atKey (q :: qs) k = some q.2 := by simp [atKey, List.find?_cons, e']
      rw [valV_pos e, b]; exact h2
    · have e' : ¬ q.1 = k := fun z => e (h1.trans z)
      have b : atKey (q :: qs) k = atKey qs k := by simp [atKey, List.find?_cons, e']
      rw [valV_neg e, b]; exact ih
theorem KT.repl {H : Hp} {kvs : List (List Key × V)} {xs : List (List Key × Addr × Value)} (r : KT H kvs xs) (k : List Key) {y : V} {u : Value} (ry : RelV y u) :
    KT H (kvs.map fun kv => if kv.1 = k then (kv.1, y) else kv) (xs.map (putAt k u)) := by
  induction r with
  | nil => exact .nil
  | @cons p q ps qs h t ih =>
    rw [List.map_cons, List.map_cons]
    refine .cons ?_ ih
    obtain ⟨h1, h2, h3⟩ := h
    unfold putAt
    by_cases e : p.1 = k
    · rw [if_pos e, if_pos (h1.symm.trans e)]; exact ⟨h1, h2, ry⟩
    · rw [if_neg e, if_neg (fun z => e (h1.trans z))]; exact ⟨h1, h2, h3⟩
theorem KT.put {H : Hp} {kvs : List (List Key × V)} {xs : List (List Key × Addr × Value)} (r : KT H kvs xs) (k : List Key) {b : Addr} {y : V} {u : Value} (hb : H b = some (.tup (k.map kV))) (ry : RelV y u) :
    KT H (putK kvs k y) (storedH xs k b u) := by
  have e : (kvs.any fun kv => decide (kv.1 = k)) = (atKey xs k).isSome := by
    rw [valV_any, (r.val k).isSome_eq, Option.isSome_map]
  unfold putK storedH
  rw [e]
  by_cases q : (atKey xs k).isSome = true
  · rw [if_pos q, if_pos q]; exact r.repl k ry
  · rw [if_neg q, if_neg q]; exact Paired.snoc r ⟨rfl, hb, ry⟩
theorem KT.keeps {H H' : Hp} {kvs : List (List Key × V)} {xs : List (List Key × Addr × Value)} (r : KT H kvs xs) (ht : ∀ b ys, H b = some (.tup ys) → H' b = some (.tup ys)) : KT H' kvs xs :=
  Paired.mapP r fun _ _ z => ⟨z.1, ht _ _ z.2.1, z.2.2⟩

section
variable {P : Program} {w : World} {H : Hp} {h : Heap} {a : Addr}
theorem rd_of {u : HO} (ok : HOk P w H h) (e : Rd H a u) : ObjOk P w H h a u := e.ok ok
theorem dk_rd {kvs : List (Key × V)} (ok : HOk P w H h) (e : Rd H a (.dK kvs)) : kvs.length ≤ sizeLine ∧ (a == sysModules) = false ∧ ∃ vs, KV kvs vs ∧ h.DictOf (mixKind P w) a vs :=
  show ObjOk P w H h a (.dK kvs) from rd_of ok e
theorem dk_of {kvs : List (Key × V)} (ok : HOk P w H h) (e : H a = some (.dK kvs)) : kvs.length ≤ sizeLine ∧ (a == sysModules) = false ∧ ∃ vs, KV kvs vs ∧ h.DictOf (mixKind P w) a vs := dk_rd ok (.inl e)
/-- a tracked tuple of ints and texts is a key -/
theorem key_of {ks : List Key} (ok : HOk P w H h) (e : H a = some (.tup (ks.map kV))) : (tupleKind (mixKind P w)).is h ks a := by
  obtain ⟨_, its, r, o, h1, h2, n, h3⟩ := (show ObjOk P w H h a (.tup (ks.map kV)) from ok a _ e)
  exact ⟨o, its.toArray, n, h1, h2, h3, by simpa using items_are r⟩
theorem dt_rd {kvs : List (List Key × V)} (ok : HOk P w H h) (e : Rd H a (.dT kvs)) : kvs.length ≤ sizeLine ∧ (a == sysModules) = false ∧
    ∃ xs, KT H kvs xs ∧ h.DictOfH (tupleKind (mixKind P w)) a xs := by
  obtain ⟨z, y, xs, r, o, es, ep, h1, h2, h3, h4, h5⟩ := (show ObjOk P w H h a (.dT kvs) from rd_of ok e)
  refine ⟨z, y, xs, r, o, es, ep, h1, h2, h3, h4, fun x hx => ?_, h5⟩
  have all : ∀ {l : List (List Key × V)} {m : List (List Key × Addr × Value)}, KT H l m → ∀ x ∈ m, (tupleKind (mixKind P w)).is h x.1 x.2.1 := by
    intro l m q
    induction q with
    | nil => intro x hx; exact nomatch hx
    | @cons p q ps qs hq t ih =>
      intro x hx
      rcases List.mem_cons.mp hx with e | hx
      · subst e
        exact key_of ok (by rw [← hq.1]; exact hq.2.1)
      · exact ih x hx
  exact all r x hx
theorem dt_of {kvs : List (List Key × V)} (ok : HOk P w H h) (e : H a = some (.dT kvs)) : kvs.length ≤ sizeLine ∧ (a == sysModules) = false ∧
    ∃ xs, KT H kvs xs ∧ h.DictOfH (tupleKind (mixKind P w)) a xs := dt_rd ok (.inl e)
end

/-- what the dict at a holds at the key y -/
def DGet (H : Hp) (a : Addr) (y : V) (r : Option V) : Prop :=
  (∃ kvs k, Rd H a (.dK kvs) ∧ y = kV k ∧ r = valV kvs k) ∨ ∃ kvs k b, Rd H a (.dT kvs) ∧ y = .ref b ∧ H b = some (.tup (k.map kV)) ∧ r = valV kvs k
/-- the heap behind a[y] = v -/
def DPut (H : Hp) (a : Addr) (y v : V) (H' : Hp) : Prop :=
  (∃ kvs k, H a = some (.dK kvs) ∧ y = kV k ∧ kvs.length < sizeLine ∧ H' = upd H a (.dK (putK kvs k v))) ∨
  ∃ kvs k b, H a = some (.dT kvs) ∧ y = .ref b ∧ H b = some (.tup (k.map kV)) ∧ kvs.length < sizeLine ∧ H' = upd H a (.dT (putK kvs k v))
theorem DGet.k {H : Hp} {a : Addr} {kvs : List (Key × V)} {k : Key} (e : H a = some (.dK kvs)) : DGet H a (kV k) (valV kvs k) := .inl ⟨kvs, k, .inl e, rfl, rfl⟩
theorem DGet.t {H : Hp} {a b : Addr} {kvs : List (List Key × V)} {k : List Key} (e : H a = some (.dT kvs)) (eb : H b = some (.tup (k.map kV))) : DGet H a (.ref b) (valV kvs k) := .inr ⟨kvs, k, b, .inl e, rfl, eb, rfl⟩
theorem DPut.k {H : Hp} {a : Addr} {kvs : List (Key × V)} {k : Key} {v : V} (e : H a = some (.dK kvs)) (hl : kvs.length < sizeLine) : DPut H a (kV k) v (upd H a (.dK (putK kvs k v))) := .inl ⟨kvs, k, e, rfl, hl, rfl⟩
theorem DPut.t {H : Hp} {a b : Addr} {kvs : List (List Key × V)} {k : List Key} {v : V} (e : H a = some (.dT kvs)) (eb : H b = some (.tup (k.map kV))) (hl : kvs.length < sizeLine) :
    DPut H a (.ref b) v (upd H a (.dT (putK kvs k v))) := .inr ⟨kvs, k, b, e, rfl, eb, hl, rfl⟩


section
variable {X : Cx} {pins : List (Addr × Obj)} {σ : St} {H : Hp} {s : Shared} {a : Addr} {y v : V} {u r : Value} {o : Option V} {A : Around} {E : Value → Shared → Prop}

theorem Inv.big (I : Inv X pins σ H s) : sysModules < s.heap.objs.size := by
  have h : mainGlobals < s.heap.objs.size := (I.mod.glob.keeps I.bk).lt
  exact Nat.lt_trans (by decide) h

/-- d[y], there -/
theorem d_getItem {Q : Value → Shared → Prop} (hu : A.units + 1 < cLine) (I : Inv X pins σ H s) (g : DGet H a y (some v)) (ry : RelV y u) (h : ∀ w' s', Inv X pins σ H s' → RelV v w' → Q w' s') :
    wpAny (model X.prog X.w) A (getItem (.ref a) u) Q E s := by
  rcases g with ⟨kvs, k, e, ey, l⟩ | ⟨kvs, k, b, e, ey, eb, l⟩
  · subst ey
    obtain ⟨z, hd, vs, rel, dd⟩ := dk_rd I.hok e
    obtain ⟨w', hw, rw'⟩ := RelO.some_of (v := v) (o := valueAt vs k) (by rw [l]; exact rel.val k)
    exact wpAny_getItem_of (kV_is ry) dd.mapOf hw (h w' _ (I.tok _) rw')
  · subst ey
    cases (show u = Value.ref b from ry)
    obtain ⟨z, hd, xs, rel, dd⟩ := dt_rd I.hok e
    obtain ⟨w', hw, rw'⟩ := RelO.some_of (v := v) (o := (atKey xs k).map (·.2)) (by rw [l]; exact rel.val k)
    obtain ⟨p, hp, hp2⟩ := Option.map_eq_some_iff.mp hw
    refine wpAny_getItem_heap (tupleKind_room_in1 hu) (key_of I.hok eb) dd hp ?_
    rw [hp2]
    exact h w' _ (I.tok _) rw'
/-- y in d -/
theorem d_in {Q : Value → Shared → Prop} (hu : A.units + 1 < cLine) (I : Inv X pins σ H s) (g : DGet H a y o) (ry : RelV y u) (h : ∀ s', Inv X pins σ H s' → Q (.bool o.isSome) s') :
    wpAny (model X.prog X.w) A (compareOp .In u (.ref a)) Q E s := by
  rcases g with ⟨kvs, k, e, ey, l⟩ | ⟨kvs, k, b, e, ey, eb, l⟩
  · subst ey
    obtain ⟨z, hd, vs, rel, dd⟩ := dk_rd I.hok e
    refine wpAny_in_of (kV_is ry) hd dd.mapOf ?_
    rw [← (rel.val k).isSome_eq, ← l]
    exact h _ (I.tok _)
  · subst ey
    cases (show u = Value.ref b from ry)
    obtain ⟨z, hd, xs, rel, dd⟩ := dt_rd I.hok e
    refine wpAny_in_heap (tupleKind_room_in1 hu) (key_of I.hok eb) hd dd ?_
    have q := (rel.val k).isSome_eq
    rw [Option.isSome_map] at q
    rw [← q, ← l]
    exact h _ (I.tok _)
theorem d_notIn {Q : Value → Shared → Prop} (hu : A.units + 1 < cLine) (I : Inv X pins σ H s) (g : DGet H a y o) (ry : RelV y u) (h : ∀ s', Inv X pins σ H s' → Q (.bool (!o.isSome)) s') :
    wpAny (model X.prog X.w) A (compareOp .NotIn u (.ref a)) Q E s := by
  rcases g with ⟨kvs, k, e, ey, l⟩ | ⟨kvs, k, b, e, ey, eb, l⟩
  · subst ey
    obtain ⟨z, hd, vs, rel, dd⟩ := dk_rd I.hok e
    refine wpAny_notIn_of (kV_is ry) hd dd.mapOf ?_
    rw [← (rel.val k).isSome_eq, ← l]
    exact h _ (I.tok _)
  · subst ey
    cases (show u = Value.ref b from ry)
    obtain ⟨z, hd, xs, rel, dd⟩ := dt_rd I.hok e
    refine wpAny_notIn_heap (tupleKind_room_in1 hu) (key_of I.hok eb) hd dd ?_
    have q := (rel.val k).isSome_eq
    rw [Option.isSome_map] at q
    rw [← q, ← l]
    exact h _ (I.tok _)
/-- a dict's object is replaced -/
theorem d_write {h' : Heap} {t' : Nat} {ob : HO} (I : Inv X pins σ H s) (mu : Mut (H a)) (hs : Heap.SameBut a s.heap h') (he : ∃ q, h'.get? a = some q) (new : ObjOk X.prog X.w (upd H a ob) h' a ob) :
    Inv X pins σ (upd H a ob) { s with heap := h', toks := t' } :=
  I.write (x := a) (e := a) mu (.inl rfl) (fun b q hb z => (hs.2 b hb).trans z) he new
theorem dk_new {P : Program} {w : World} {H' : Hp} {h' : Heap} {kvs : List (Key × V)} {vs : List (Key × Value)} (z : kvs.length ≤ sizeLine) (hd : (a == sysModules) = false) (rel : KV kvs vs) (dd : h'.DictOf (mixKind P w) a vs) :
    ObjOk P w H' h' a (.dK kvs) := ⟨z, hd, vs, rel, dd⟩
/-- d[y] = v -/
theorem d_setItem {H' : Hp} {Q : Unit → Shared → Prop} (hu : A.units + 1 < cLine) (I : Inv X pins σ H s) (g : DPut H a y v H') (ry : RelV y u) (rv : RelV v r) (h : ∀ s', Inv X pins σ H' s' → Q () s') :
    wpAny (model X.prog X.w) A (setItem (.ref a) u r) Q E s := by
  rcases g with ⟨kvs, k, e, ey, l, eH⟩ | ⟨kvs, k, b, e, ey, eb, l, eH⟩
  · subst ey eH
    obtain ⟨z, hd, vs, rel, dd⟩ := dk_of I.hok e
    have hz : vs.length ≤ sizeLine := by rw [← rel.length]; exact z
    have hl : (putK kvs k v).length ≤ sizeLine := by have := length_putK kvs k v; omega
    refine wpAny_setItem_pairs (hsz := hz) (kV_is ry) dd fun h' dd' hs => h _ ?_
    have he : ∃ q, h'.get? a = some q := let ⟨q, _, _, hq, _⟩ := dd'; ⟨q, hq⟩
    exact d_write I (by rw [e]; exact True.intro) hs he (dk_new hl hd (rel.put k rv) dd')
  · subst ey eH
    cases (show u = Value.ref b from ry)
    obtain ⟨z, hd, xs, rel, dd⟩ := dt_of I.hok e
    have hz : xs.length ≤ sizeLine := by rw [← Paired.length rel]; exact z
    have hl : (putK kvs k v).length ≤ sizeLine := by have := length_putK kvs k v; omega
    refine wpAny_setItem_heap (hsz := hz) (tupleKind_room_in1 hu) (key_of I.hok eb) dd fun h' dd' hs => h _ ?_
    obtain ⟨q, es, ep, hq, h2, h3, h4, _, h5⟩ := dd'
    refine d_write I (by rw [e]; exact True.intro) hs ⟨q, hq⟩ ⟨hl, hd, _, (rel.put k eb rv).keeps fun c ys ec => ?_, q, es, ep, hq, h2, h3, h4, h5⟩
    rw [upd_ne (ne_of ec e (fun z => nomatch z))]
    exact ec
end

section
variable {X : Cx} {pins : List (Addr × Obj)} {σ : St} {H : Hp} {s : Shared} {a : Addr} {kvs : List (Key × V)} {k : Key} {u : Value} {A : Around} {E : Value → Shared → Prop}
/-- del d[k] -/
theorem d_delItem {Q : Unit → Shared → Prop} (I : Inv X pins σ H s) (e : H a = some (.dK kvs)) (ry : RelV (kV k) u) (l : (valV kvs k).isSome = true) (h : ∀ s', Inv X pins σ (upd H a (.dK (dropK kvs k))) s' → Q () s') :
    wpAny (model X.prog X.w) A (delItem (.ref a) u) Q E s := by
  obtain ⟨z, hd, vs, rel, dd⟩ := dk_of I.hok e
  refine wpAny_delItem_slot dd.typeIs (by decide) PySem.F.slot_dict_delitem
    (call_meetsIn PySem.F.slot_dict_delitem dd.typeIs PySem.F.entry_dict_delitem (PySem.F.args_dict_delitem_2 _ _) (meets_dict_delitem_pairs (mixKind X.prog X.w) a (kV_is ry)) ⟨vs, dd, by rw [← rel.length]; exact z, by rw [← (rel.val k).isSome_eq]; exact l, fun h' dd' hs => h _ ?_⟩)
  have he : ∃ q, h'.get? a = some q := let ⟨q, _, _, hq, _⟩ := dd'; ⟨q, hq⟩
  exact d_write I (by rw [e]; exact True.intro) hs he (dk_new (Nat.le_trans (dropK_le kvs k) z) hd (rel.drop k) dd')
/-- d.pop(k[, x]), there -/
theorem d_pop {v : V} {more : List Value} {Q : Value → Shared → Prop} (I : Inv X pins σ H s) (e : H a = some (.dK kvs)) (ry : RelV (kV k) u) (l : valV kvs k = some v) (hm : more = [] ∨ ∃ x, more = [x])
    (h : ∀ w' s', Inv X pins σ (upd H a (.dK (dropK kvs k))) s' → RelV v w' → Q w' s') : wpAny (model X.prog X.w) A (call (.builtin "dict.pop") (.ref a :: u :: more)) Q E s := by
  obtain ⟨z, hd, vs, rel, dd⟩ := dk_of I.hok e
  obtain ⟨w', hw, rw'⟩ := RelO.some_of (v := v) (o := valueAt vs k) (by rw [← l]; exact rel.val k)
  have hp : (keyPart u).isSome = true := by
    cases k with
    | inl i => obtain ⟨t, q⟩ := (show ∃ t, u = Value.int i t from ry); subst q; rfl
    | inr x => obtain ⟨t, q⟩ := (show ∃ t, u = Value.str x t from ry); subst q; rfl
  have ha : argsOk "dict.pop" ⟨.ref a :: u :: more, []⟩ := by
    rcases hm with q | ⟨x, q⟩
    · subst q; exact PySem.F.args_dict_pop_2 _ _
    · subst q; exact PySem.F.args_dict_pop_3 _ _ _
  refine call_meetsIn PySem.F.slot_dict_pop dd.typeIs PySem.F.entry_dict_pop ha (meets_dict_pop_there (mixKind X.prog X.w) a (kV_is ry) more hm hp)
    ⟨vs, w', dd, by rw [← rel.length]; exact z, hw, fun h' dd' hs => h w' _ ?_ rw'⟩
  have he : ∃ q, h'.get? a = some q := let ⟨q, _, _, hq, _⟩ := dd'; ⟨q, hq⟩
  exact d_write I (by rw [e]; exact True.intro) hs he (dk_new (Nat.le_trans (dropK_le kvs k) z) hd (rel.drop k) dd')
/-- d.pop(k, x), not there -/
theorem d_popD {r : Value} {Q : Value → Shared → Prop} (I : Inv X pins σ H s) (e : H a = some (.dK kvs)) (ry : RelV (kV k) u) (l : valV kvs k = none) (h : ∀ s', Inv X pins σ H s' → Q r s') :
    wpAny (model X.prog X.w) A (call (.builtin "dict.pop") [.ref a, u, r]) Q E s := by
  obtain ⟨z, hd, vs, rel, dd⟩ := dk_of I.hok e
  have hn : valueAt vs k = none := RelO.none_of (by rw [← l]; exact rel.val k)
  have hp : (keyPart u).isSome = true := by
    cases k with
    | inl i => obtain ⟨t, q⟩ := (show ∃ t, u = Value.int i t from ry); subst q; rfl
    | inr x => obtain ⟨t, q⟩ := (show ∃ t, u = Value.str x t from ry); subst q; rfl
  exact call_meetsIn PySem.F.slot_dict_pop dd.typeIs PySem.F.entry_dict_pop (PySem.F.args_dict_pop_3 _ _ _) (meets_dict_pop_default (mixKind X.prog X.w) a (kV_is ry) hd hp r) ⟨vs, dd, hn, h _ (I.tok _)⟩
/-- d.clear() -/
theorem d_clear {Q : Value → Shared → Prop} (I : Inv X pins σ H s) (e : H a = some (.dK kvs)) (h : ∀ s', Inv X pins σ (upd H a (.dK [])) s' → Q .none s') : wpAny (model X.prog X.w) A (call (.builtin "dict.clear") [.ref a]) Q E s := by
  obtain ⟨z, hd, vs, rel, dd⟩ := dk_of I.hok e
  refine call_meetsIn PySem.F.slot_dict_clear dd.typeIs PySem.F.entry_dict_clear (PySem.F.args_dict_clear_1 _) (meets_dict_clear (mixKind X.prog X.w) a) ⟨vs, dd, by rw [← rel.length]; exact z, fun h' dd' hs => h _ ?_⟩
  have he : ∃ q, h'.get? a = some q := let ⟨q, _, _, hq, _⟩ := dd'; ⟨q, hq⟩
  exact d_write (t' := s.toks) I (by rw [e]; exact True.intro) hs he (dk_new (Nat.zero_le _) hd .nil dd')
/-- len(d) -/
theorem d_len {Q : Value → Shared → Prop} (I : Inv X pins σ H s) (e : Rd H a (.dK kvs)) (h : ∀ t s', Inv X pins σ H s' → Q (.int kvs.length t) s') : wpAny (model X.prog X.w) A (call (.builtin "len") [.ref a]) Q E s := by
  obtain ⟨z, hd, vs, rel, dd⟩ := dk_rd I.hok e
  refine call_len_dict hd dd (by rw [← rel.length]; rw [sizeLine_eq] at z; omega) ?_
  rw [← rel.length]
  exact h _ _ (I.tok _)
/-- if d -/
theorem d_truth {Q : Bool → Shared → Prop} (I : Inv X pins σ H s) (e : Rd H a (.dK kvs)) (h : ∀ s', Inv X pins σ H s' → Q (!kvs.isEmpty) s') : wpAny (model X.prog X.w) A (truthy (.ref a)) Q E s := by
  obtain ⟨z, hd, vs, rel, dd⟩ := dk_rd I.hok e
  refine wpAny_truthy_dict hd dd (by rw [← rel.length]; rw [sizeLine_eq] at z; omega) ?_
  have q : kvs.isEmpty = vs.isEmpty := by cases rel <;> rfl
  rw [← q]
  exact h _ (I.tok _)
end


/-! ### readings and rules -/
/-- the element of a subscription, not a slice -/
def NoSl (i : Expr) : Prop := ∀ ov iv, subscripted i false ov iv = operate [ov, iv] (getItem ov iv)
theorem subD_of {prog : Program} {w : World} {A : Around} {E : Value → Shared → Prop} {s : Shared} {env : Env} {value slice : Expr} {pos : Pos} {T id : String} {Q : Value → Shared → Prop}
    (hl : typeLookup (.type T) "__getitem__" = pure (some (.builtin id))) (hs : NoSl slice)
    (h : wpAny (model prog w) A (eval value env) (fun o s₁ => wpAny (model prog w) A (eval slice env) (fun i s₂ => s₂.TypeIs o T ∧ wpAny (model prog w) A (getItem o i) Q E s₂) E s₁) E s) :
    wpAny (model prog w) A (eval (.Subscript value slice pos) env) Q E s := by
  refine Subscript_ (wpAny_mono h (fun o s₁ h₁ => wpAny_mono h₁ (fun i s₂ h₂ => ?_) fun _ _ x => x) fun _ _ x => x)
  obtain ⟨hT, h₂⟩ := h₂
  unfold subscriptTail
  refine wpAny_bind ?_
  rw [getitemInPython_of_ne hT.not_modules]
  refine wpAny_bind (wpAny_specialOf hT hl ?_)
  have fin : wpAny (model prog w) A (subscripted slice false o i) (fun r s₃ => wpAny (model prog w) A (letTemporaryGo value o r >>= fun _ => pure r) Q E s₃) E s₂ := by
    rw [hs o i]
    exact wpAny_operating (wpAny_mono h₂ (fun r s₃ h₃ => wpAny_bind (wpAny_letTemporaryGo (wpAny_pure h₃))) fun _ _ x => x)
  first
    | exact wpAny_pure (wpAny_bind fin)
    | exact wpAny_bind (wpAny_pure (wpAny_bind fin))
    | exact wpAny_bind fin

theorem dict_typeIs {X : Cx} {pins : List (Addr × Obj)} {σ : St} {H : Hp} {s : Shared} {a : Addr} {y : V} {o : Option V} (I : Inv X pins σ H s) (g : DGet H a y o) : s.TypeIs (.ref a) "dict" := by
  rcases g with ⟨kvs, k, e, _, _⟩ | ⟨kvs, k, b, e, _, _, _⟩
  · obtain ⟨_, _, vs, _, dd⟩ := dk_rd I.hok e
    exact dd.typeIs
  · obtain ⟨_, _, xs, _, dd⟩ := dt_rd I.hok e
    exact dd.typeIs
theorem dict_noDict {X : Cx} {pins : List (Addr × Obj)} {σ : St} {H : Hp} {s : Shared} {a : Addr} {y : V} {o : Option V} (I : Inv X pins σ H s) (g : DGet H a y o) :
    ∀ b, Value.ref a = .ref b → ∃ ob, s.heap.get? b = some ob ∧ ob.dict = none := fun b q => by
  cases q
  rcases g with ⟨kvs, k, e, _, _⟩ | ⟨kvs, k, b, e, _, _, _⟩
  · obtain ⟨_, _, vs, _, ob, _, _, h1, h2, _⟩ := dk_rd I.hok e
    exact ⟨ob, h1, h2.2.1⟩
  · obtain ⟨_, _, xs, _, ob, _, _, h1, h2, _⟩ := dt_rd I.hok e
    exact ⟨ob, h1, h2.2.1⟩

/-- d[y] -/
def tDGet (td ty : TE) : TE := fun σ H Q => td σ H fun x H1 => ty σ H1 fun y H2 => ∃ a v, x = .ref a ∧ DGet H2 a y (some v) ∧ Q v H2
/-- y in d, y not in d -/
def tDIn (ty td : TE) : TE := fun σ H Q => ty σ H fun y H1 => td σ H1 fun x H2 => ∃ a o, x = .ref a ∧ DGet H2 a y o ∧ Q (.bl o.isSome) H2
def tDNotIn (ty td : TE) : TE := fun σ H Q => ty σ H fun y H1 => td σ H1 fun x H2 => ∃ a o, x = .ref a ∧ DGet H2 a y o ∧ Q (.bl (!o.isSome)) H2
/-- d[y] = v -/
def sDPut (td ty tv : TE) : TS := fun D σ H => tv σ H fun v H1 => td σ H1 fun x H2 => ty σ H2 fun y H3 => ∃ a H4, x = .ref a ∧ DPut H3 a y v H4 ∧ D.nx σ H4
/-- d[y] op= v -/
def sDAug (td ty tv : TE) (rd : V → V → Hp → VK → Prop) : TS := fun D σ H => td σ H fun x H1 => ty σ H1 fun y H2 => ∃ a v, x = .ref a ∧ DGet H2 a y (some v) ∧
  tv σ H2 fun y2 H3 => rd v y2 H3 fun z H4 => ∃ H5, DPut H4 a y z H5 ∧ D.nx σ H5
/-- del d[y] -/
def sDDel (td ty : TE) : TS := fun D σ H => td σ H fun x H1 => ty σ H1 fun y H2 => ∃ a kvs k, x = .ref a ∧ H2 a = some (.dK kvs) ∧ y = kV k ∧ (valV kvs k).isSome = true ∧ D.nx σ (upd H2 a (.dK (dropK kvs k)))

section
variable {X : Cx} {o i e value : Expr} {pos pos' tpos : Pos} {td ty tv : TE}
theorem pe_dget (hu : X.A.units + 1 < cLine) (ho : PE X o td) (hi : PE X i ty) (hs : NoSl i) : PE X (.Subscript o i pos) (tDGet td ty) := by
  intro pins s σ H Q I h
  refine subD_of PySem.F.slot_dict_getitem.lookup hs (thn (ho pins s σ H _ I h) fun u s1 ⟨x, H1, I1, rx, q1⟩ => thn (hi pins s1 σ H1 _ I1 q1) fun iv s2 ⟨y, H2, I2, ry, a, v, ex, g, q2⟩ => ?_)
  subst ex
  obtain rfl : u = Value.ref a := rx
  exact ⟨dict_typeIs I2 g, d_getItem hu I2 g ry fun w' s3 I3 rw' => ⟨v, H2, I3, rw', q2⟩⟩
theorem pc_din (hu : X.A.units + 1 < cLine) (hi : PE X i ty) (ho : PE X o td) : PC X .In i o (tDIn ty td) := by
  intro pins s σ H Q I h
  refine thn (hi pins s σ H _ I h) fun iv s1 ⟨y, H1, I1, ry, q1⟩ => thn (ho pins s1 σ H1 _ I1 q1) fun u s2 ⟨x, H2, I2, rx, a, ov, ex, g, q2⟩ => ?_
  subst ex
  obtain rfl : u = Value.ref a := rx
  exact d_in hu I2 g ry fun s3 I3 => ⟨.bl ov.isSome, H2, I3, rfl, q2⟩
theorem pc_dnotin (hu : X.A.units + 1 < cLine) (hi : PE X i ty) (ho : PE X o td) : PC X .NotIn i o (tDNotIn ty td) := by
  intro pins s σ H Q I h
  refine thn (hi pins s σ H _ I h) fun iv s1 ⟨y, H1, I1, ry, q1⟩ => thn (ho pins s1 σ H1 _ I1 q1) fun u s2 ⟨x, H2, I2, rx, a, ov, ex, g, q2⟩ => ?_
  subst ex
  obtain rfl : u = Value.ref a := rx
  exact d_notIn hu I2 g ry fun s3 I3 => ⟨.bl (!ov.isSome), H2, I3, rfl, q2⟩
theorem ps_dput (hu : X.A.units + 1 < cLine) (ho : PE X o td) (hi : PE X i ty) (hv : PE X value tv) (hs : swapsWith value (some (.Subscript o i pos')) pos.line X.env = pure false) :
    PS X (.Assign [.Subscript o i pos'] value pos) (sDPut td ty tv) := by
  intro pins s σ H D I h
  refine wpAny_Assign_Subscript (thn (hv pins s σ H _ I h) fun r s1 ⟨v, H1, I1, rv, q1⟩ => thn (ho pins s1 σ H1 _ I1 q1) fun u s2 ⟨x, H2, I2, rx, q2⟩ => thn (hi pins s2 σ H2 _ I2 q2) fun iv s3 ⟨y, H3, I3, ry, a, H4, ex, g, q3⟩ => ?_) hs
  subst ex
  obtain rfl : u = Value.ref a := rx
  exact d_setItem hu I3 g ry rv fun s4 I4 => ⟨σ, H4, I4, q3⟩
theorem ps_daug {op : Operator} {rd : V → V → Hp → VK → Prop} (hu : X.A.units + 1 < cLine) (ho : PE X o td) (hi : PE X i ty) (hv : PE X value tv) (hop : InOp X op rd)
    (ha : ∀ ov iv new, augStore i ov iv new = (do holding [new, ov, iv] (setItem ov iv new); release [new, ov, iv] []; pure .next)) : PS X (.AugAssign (.Subscript o i tpos) op value pos) (sDAug td ty tv rd) := by
  intro pins s σ H D I h
  refine wpAny_AugAssign_SubscriptAny (thn (ho pins s σ H _ I h) fun u s1 ⟨x, H1, I1, rx, q1⟩ => thn (hi pins s1 σ H1 _ I1 q1) fun iv s2 ⟨y, H2, I2, ry, a, v, ex, g, q2⟩ => ?_) ha
  subst ex
  obtain rfl : u = Value.ref a := rx
  refine d_getItem hu I2 g ry fun w' s3 I3 rw' => thn (hv pins s3 σ H2 _ I3 q2) fun w2 s4 ⟨y2, H3, I4, ry2, q3⟩ => thn (hop pins s4 σ H3 v y2 w' w2 _ I4 rw' ry2 q3) fun w3 s5 ⟨z, H4, I5, rz, H5, g5, q4⟩ => ?_
  exact d_setItem hu I5 g5 ry rz fun s6 I6 => ⟨σ, H5, I6, q4⟩
theorem ps_ddel (ho : PE X o td) (hi : PE X i ty) : PS X (.Delete [.Subscript o i tpos] pos) (sDDel td ty) := by
  intro pins s σ H D I h
  refine wpAny_Delete (wpAny_deleteEach_cons (wpAny_delete_Subscript (thn (ho pins s σ H _ I h) fun u s1 ⟨x, H1, I1, rx, q1⟩ => thn (hi pins s1 σ H1 _ I1 q1) fun iv s2 ⟨y, H2, I2, ry, a, kvs, k, ex, e, ey, l, q2⟩ => ?_)))
  subst ex ey
  obtain rfl : u = Value.ref a := rx
  exact d_delItem I2 e ry l fun s3 I3 => wpAny_deleteEach_nil ⟨σ, _, I3, q2⟩
end


/-! ### displays -/
theorem dk_empty {P : Program} {w : World} {H : Hp} (h : Heap) (hb : sysModules < h.objs.size) : ObjOk P w H (h.push { cls := .type "dict", data := .dict #[] }) h.objs.size (.dK []) :=
  ⟨Nat.zero_le _, beq_eq_false_iff_ne.mpr (Ne.symm (Nat.ne_of_lt hb)), [], .nil, Heap.DictOf.new h⟩
theorem dt_empty {P : Program} {w : World} {H : Hp} (h : Heap) (hb : sysModules < h.objs.size) : ObjOk P w H (h.push { cls := .type "dict", data := .dict #[] }) h.objs.size (.dT []) :=
  ⟨Nat.zero_le _, beq_eq_false_iff_ne.mpr (Ne.symm (Nat.ne_of_lt hb)), [], .nil, _, #[], 0, Heap.get?_push_size _ rfl, ⟨rfl, rfl, rfl⟩, rfl, rfl, List.nodup_nil⟩
/-- {}, to be a dict of the kind that is wanted -/
def tDNewK : TE := fun _ H Q => ∀ p, H p = none → Q (.ref p) (upd H p (.dK []))
def tDNewT : TE := fun _ H Q => ∀ p, H p = none → Q (.ref p) (upd H p (.dT []))
section
variable {X : Cx} {pos : Pos}
theorem pe_dnewK : PE X (.Dict [] [] pos) tDNewK := fun pins s σ H Q I h =>
  wpAny_Dict_empty ⟨.ref s.heap.objs.size, _, I.laid (a := s.heap.objs.size) (o := .dK []) (t' := s.toks) (fun _ _ q => Heap.get?_push_of_some _ q) (Nat.le_refl _) (dk_empty s.heap I.big), rfl, h _ (I.hok.fresh (Nat.le_refl _))⟩
theorem pe_dnewT : PE X (.Dict [] [] pos) tDNewT := fun pins s σ H Q I h =>
  wpAny_Dict_empty ⟨.ref s.heap.objs.size, _, I.laid (a := s.heap.objs.size) (o := .dT []) (t' := s.toks) (fun _ _ q => Heap.get?_push_of_some _ q) (Nat.le_refl _) (dt_empty s.heap I.big), rfl, h _ (I.hok.fresh (Nat.le_refl _))⟩
end

/-- the pairs of a display, from the left -/
def tPairs : List (TE × TE) → St → Hp → (List (V × V) → Hp → Prop) → Prop
  | [], _, H, Q => Q [] H
  | (tk, tv) :: r, σ, H, Q => tk σ H fun x H1 => tv σ H1 fun y H2 => tPairs r σ H2 fun ps H3 => Q ((x, y) :: ps) H3
abbrev VV : List (V × V) → List (Value × Value) → Prop := Paired fun p q => RelV p.1 q.1 ∧ RelV p.2 q.2
def PPs (X : Cx) (pos : Pos) (keys : List (Option Expr)) (values : List Expr) (trs : List (TE × TE)) : Prop :=
  ∀ (pins : List (Addr × Obj)) (s : Shared) (σ : St) (H : Hp) (Q : List (V × V) → Hp → Prop), Inv X pins σ H s → tPairs trs σ H Q →
    wpAny (model X.prog X.w) X.A (evalPairs (pairTrees keys values X.env pos)) (fun vs s' => ∃ ps H', Inv X pins σ H' s' ∧ VV ps vs ∧ Q ps H') X.xe s
theorem pps_nil {X : Cx} {pos : Pos} : PPs X pos [] [] [] := fun pins s σ H Q I h => pairTrees_nil_walk ⟨[], H, I, .nil, h⟩
theorem pps_cons {X : Cx} {pos : Pos} {k v : Expr} {ks : List (Option Expr)} {vs : List Expr} {tk tv : TE} {trs : List (TE × TE)} (hk : PE X k tk) (hv : PE X v tv) (hr : PPs X pos ks vs trs) :
    PPs X pos (some k :: ks) (v :: vs) ((tk, tv) :: trs) := fun pins s σ H Q I h =>
  pairTrees_cons_walk (thn (hk pins s σ H _ I h) fun u s1 ⟨x, H1, I1, rx, q1⟩ => thn (hv pins s1 σ H1 _ I1 q1) fun w2 s2 ⟨y, H2, I2, ry, q2⟩ =>
    thn (hr pins s2 σ H2 _ I2 q2) fun ws s3 ⟨ps, H3, I3, rel, q3⟩ => ⟨(x, y) :: ps, H3, I3, .cons ⟨rx, ry⟩ rel, q3⟩)

def mergeK (kvs more : List (Key × V)) : List (Key × V) := more.foldl (fun acc kv => putK acc kv.1 kv.2) kvs
theorem KV.merge : ∀ {more : List (Key × V)} {rs : List (Key × Value)} {kvs : List (Key × V)} {vs : List (Key × Value)}, KV more rs → KV kvs vs → KV (mergeK kvs more) (merged vs rs) := by
  intro more rs kvs vs r
  unfold KV at r
  induction r generalizing kvs vs with
  | nil => intro q; exact q
  | @cons p q ps qs h t ih =>
    intro r0
    have e : KV (putK kvs p.1 p.2) (stored vs q.1 q.2) := by
      have := r0.put p.1 h.2
      rw [← h.1]; exact this
    exact ih e
theorem length_mergeK : ∀ (more kvs : List (Key × V)), (mergeK kvs more).length ≤ kvs.length + more.length
  | [], kvs => by show kvs.length ≤ kvs.length + 0; omega
  | p :: r, kvs => by
    have h1 := length_mergeK r (putK kvs p.1 p.2)
    have h2 := length_putK kvs p.1 p.2
    show (mergeK (putK kvs p.1 p.2) r).length ≤ _
    rw [List.length_cons]; omega
theorem carries_of {P : Program} {w : World} : ∀ {kvs : List (Key × V)} {ws : List (Value × Value)}, VV (kvs.map fun kv => (kV kv.1, kv.2)) ws → ∃ rs, Carries (mixKind P w) ws rs ∧ KV kvs rs
  | [], _, r => by rw [List.map_nil] at r; cases r; exact ⟨[], True.intro, .nil⟩
  | p :: kvs, _, r => by
    rw [List.map_cons] at r
    cases r with
    | @cons a b as bs h t =>
      obtain ⟨rs, c, q⟩ := carries_of (P := P) (w := w) t
      obtain ⟨b1, b2⟩ := b
      exact ⟨(p.1, b2) :: rs, ⟨kV_is h.1, rfl, c⟩, .cons ⟨rfl, h.2⟩ q⟩
/-- {k: v, ..} with keys ints and texts; the new dict stands empty while the pairs are made -/
def tDisp (trs : List (TE × TE)) : TE := fun σ H Q => ∀ p, H p = none → tPairs trs σ (upd H p (.dK [])) fun ps H2 => H2 p = some (.dK []) ∧ ∃ kvs : List (Key × V), ps = kvs.map (fun kv => (kV kv.1, kv.2)) ∧ kvs.length ≤ 15 ∧ Q (.ref p) (upd H2 p (.dK (mergeK [] kvs)))
theorem pe_disp {X : Cx} {pos : Pos} {keys : List (Option Expr)} {values : List Expr} {trs : List (TE × TE)} (h : PPs X pos keys values trs) (hall : keys.all (·.isSome) = true) (hl : keys.length = values.length) (h0 : keys ≠ [])
    (h15 : keys.length ≤ 15) : PE X (.Dict keys values pos) (tDisp trs) := by
  intro pins s σ H Q I q
  have hn := I.hok.fresh (Nat.le_refl s.heap.objs.size)
  have I1 := I.laid (a := s.heap.objs.size) (o := .dK []) (h' := s.heap.push { cls := .type "dict", data := .dict #[] }) (t' := s.toks) (fun _ _ q => Heap.get?_push_of_some _ q) (Nat.le_refl _) (dk_empty s.heap I.big)
  refine wpAny_Dict_walk (knd := mixKind X.prog X.w) hall hl h0 h15 (thn (h pins _ σ _ _ I1 (q _ hn)) fun ws s2 ⟨ps, H2, I2, rel, e, kvs, ep, lk, q2⟩ => ?_)
  subst ep
  obtain ⟨rs, c, rk⟩ := carries_of (P := X.prog) (w := X.w) rel
  obtain ⟨z, hd, vs0, r0, dd⟩ := dk_of I2.hok e
  cases r0
  refine ⟨rs, c, dd, fun h' dd' hs => ⟨.ref s.heap.objs.size, _, ?_, rfl, q2⟩⟩
  have hz : (mergeK [] kvs).length ≤ sizeLine := by
    have h1 := length_mergeK kvs []
    rw [List.length_nil] at h1
    rw [sizeLine_eq]; omega
  have he : ∃ q, h'.get? s.heap.objs.size = some q := let ⟨q, _, _, hq, _⟩ := dd'; ⟨q, hq⟩
  exact d_write I2 (by rw [e]; exact True.intro) hs he (dk_new hz hd (rk.merge .nil) dd')


/-! ### methods -/
/-- a method call o.m(e) of a built-in, with one argument: what must be seen of the text -/
structure M1 (X : Cx) (o : Expr) (m : Str) (apos : Pos) (e : Expr) (cpos : Pos) : Prop where
  base : attributeBase o m X.env (eval o X.env) = eval o X.env
  few : ((backTo cpos (starEach [e] X.env)).all (fun x => !x.1) && (backToKw cpos (keywordEach [] X.env)).all (fun x => x.1.isSome)
    && decide (([e] : List Expr).length + ([] : List Keyword).length + (if ([] : List Keyword).isEmpty then 0 else 1) < 30)) = true
  line : (apos.endLine == cpos.line) = true
  trees : backTo cpos (starEach [e] X.env) = [(false, eval e X.env)]
structure M2 (X : Cx) (o : Expr) (m : Str) (apos : Pos) (e f : Expr) (cpos : Pos) : Prop where
  base : attributeBase o m X.env (eval o X.env) = eval o X.env
  few : ((backTo cpos (starEach [e, f] X.env)).all (fun x => !x.1) && (backToKw cpos (keywordEach [] X.env)).all (fun x => x.1.isSome)
    && decide (([e, f] : List Expr).length + ([] : List Keyword).length + (if ([] : List Keyword).isEmpty then 0 else 1) < 30)) = true
  line : (apos.endLine == cpos.line) = true
  trees : backTo cpos (starEach [e, f] X.env) = [(false, eval e X.env), (false, eval f X.env)]

/-- a is a dict, whatever its keys -/
def IsD (H : Hp) (a : Addr) : Prop := (∃ kvs, Rd H a (.dK kvs)) ∨ ∃ kvs, Rd H a (.dT kvs)
theorem isD_at {X : Cx} {pins : List (Addr × Obj)} {σ : St} {H : Hp} {s : Shared} {a : Addr} (I : Inv X pins σ H s) (d : IsD H a) :
    s.TypeIs (.ref a) "dict" ∧ (∀ b, Value.ref a = .ref b → ∃ ob, s.heap.get? b = some ob ∧ ob.dict = none) ∧ (a == sysModules) = false := by
  rcases d with ⟨kvs, e⟩ | ⟨kvs, e⟩
  · obtain ⟨_, hd, vs, _, dd⟩ := dk_rd I.hok e
    refine ⟨dd.typeIs, fun b q => ?_, hd⟩
    cases q
    obtain ⟨ob, _, _, h1, h2, _⟩ := dd
    exact ⟨ob, h1, h2.2.1⟩
  · obtain ⟨_, hd, xs, _, dd⟩ := dt_rd I.hok e
    refine ⟨dd.typeIs, fun b q => ?_, hd⟩
    cases q
    obtain ⟨ob, _, _, h1, h2, _⟩ := dd
    exact ⟨ob, h1, h2.2.1⟩

section
variable {X : Cx} {pins : List (Addr × Obj)} {σ : St} {H : Hp} {s : Shared} {a : Addr} {y d : V} {u r : Value} {o : Option V} {A : Around} {E : Value → Shared → Prop}
/-- d.get(y) -/
theorem d_get1 {Q : Value → Shared → Prop} (hu : A.units + 1 < cLine) (I : Inv X pins σ H s) (g : DGet H a y o) (ry : RelV y u) (h : ∀ w' s', Inv X pins σ H s' → RelV (o.getD .non) w' → Q w' s') :
    wpAny (model X.prog X.w) A (call (.builtin "dict.get") [.ref a, u]) Q E s := by
  rcases g with ⟨kvs, k, e, ey, l⟩ | ⟨kvs, k, b, e, ey, eb, l⟩
  · subst ey
    obtain ⟨z, hd, vs, rel, dd⟩ := dk_rd I.hok e
    refine call_meetsIn PySem.F.slot_dict_get dd.typeIs PySem.F.entry_dict_get (PySem.F.args_dict_get_2 _ _) (meets_dict_get (mixKind X.prog X.w) a (kV_is ry) hd) ⟨_, dd.mapOf, h _ _ (I.tok _) ?_⟩
    rw [l]
    exact (rel.val k).getD rfl
  · subst ey
    cases (show u = Value.ref b from ry)
    obtain ⟨z, hd, xs, rel, dd⟩ := dt_rd I.hok e
    refine call_meetsIn PySem.F.slot_dict_get dd.typeIs PySem.F.entry_dict_get (PySem.F.args_dict_get_2 _ _) (meetsH_dict_get (tupleKind (mixKind X.prog X.w)) a b hd) ⟨tupleKind_room_in1 hu, k, xs, key_of I.hok eb, dd, h _ _ (I.tok _) ?_⟩
    rw [l]
    exact (rel.val k).getD rfl
/-- d.get(y, x) -/
theorem d_get2 {Q : Value → Shared → Prop} (hu : A.units + 1 < cLine) (I : Inv X pins σ H s) (g : DGet H a y o) (ry : RelV y u) (rd : RelV d r) (h : ∀ w' s', Inv X pins σ H s' → RelV (o.getD d) w' → Q w' s') :
    wpAny (model X.prog X.w) A (call (.builtin "dict.get") [.ref a, u, r]) Q E s := by
  rcases g with ⟨kvs, k, e, ey, l⟩ | ⟨kvs, k, b, e, ey, eb, l⟩
  · subst ey
    obtain ⟨z, hd, vs, rel, dd⟩ := dk_rd I.hok e
    refine call_meetsIn PySem.F.slot_dict_get dd.typeIs PySem.F.entry_dict_get (PySem.F.args_dict_get_3 _ _ _) (meets_dict_get_default (mixKind X.prog X.w) a (kV_is ry) hd r) ⟨_, dd.mapOf, h _ _ (I.tok _) ?_⟩
    rw [l]
    exact (rel.val k).getD rd
  · subst ey
    cases (show u = Value.ref b from ry)
    obtain ⟨z, hd, xs, rel, dd⟩ := dt_rd I.hok e
    refine call_meetsIn PySem.F.slot_dict_get dd.typeIs PySem.F.entry_dict_get (PySem.F.args_dict_get_3 _ _ _) (meetsH_dict_get_default (tupleKind (mixKind X.prog X.w)) a b hd r) ⟨tupleKind_room_in1 hu, k, xs, key_of I.hok eb, dd, h _ _ (I.tok _) ?_⟩
    rw [l]
    exact (rel.val k).getD rd
end

def tDGet1 (td ty : TE) : TE := fun σ H Q => td σ H fun x H1 => ∃ a, x = .ref a ∧ IsD H1 a ∧ ty σ H1 fun y H2 => ∃ o, DGet H2 a y o ∧ Q (o.getD .non) H2
def tDGet2 (td ty tx : TE) : TE := fun σ H Q => td σ H fun x H1 => ∃ a, x = .ref a ∧ IsD H1 a ∧ ty σ H1 fun y H2 => tx σ H2 fun z H3 => ∃ o, DGet H3 a y o ∧ Q (o.getD z) H3
/-- d.pop(k): there; d.pop(k, x): there or not -/
def tDPop1 (td ty : TE) : TE := fun σ H Q => td σ H fun x H1 => ∃ a, x = .ref a ∧ IsD H1 a ∧ ty σ H1 fun y H2 => ∃ kvs k v, H2 a = some (.dK kvs) ∧ y = kV k ∧ valV kvs k = some v ∧ Q v (upd H2 a (.dK (dropK kvs k)))
def tDPop2 (td ty tx : TE) : TE := fun σ H Q => td σ H fun x H1 => ∃ a, x = .ref a ∧ IsD H1 a ∧ ty σ H1 fun y H2 => tx σ H2 fun z H3 => ∃ kvs k, H3 a = some (.dK kvs) ∧ y = kV k ∧
  (∀ v, valV kvs k = some v → Q v (upd H3 a (.dK (dropK kvs k)))) ∧ (valV kvs k = none → Q z H3)
section
variable {X : Cx} {o e f : Expr} {apos cpos : Pos} {td ty tx : TE}
theorem pe_dget1 (hu : X.A.units + 1 < cLine) (ho : PE X o td) (he : PE X e ty) (m : M1 X o "get" apos e cpos) : PE X (.Call (.Attribute o "get" apos) [e] [] cpos) (tDGet1 td ty) := by
  intro pins s σ H Q I h
  refine wpAny_Call_method m.base m.few m.line PySem.F.plainAttrs_dict PySem.F.slot_dict_get PySem.F.type_dict_get (thn (ho pins s σ H _ I h) fun u s1 ⟨x, H1, I1, rx, a, ex, d, q1⟩ => ?_)
  subst ex
  obtain rfl : u = Value.ref a := rx
  obtain ⟨t1, t2, _⟩ := isD_at I1 d
  refine ⟨t1, t2, ?_⟩
  rw [m.trees]
  refine Calls.callWith_builtin rfl (Calls.evalArgs_plain (Calls.spliced_cons (thn (he pins s1 σ H1 _ I1 q1) fun iv s2 ⟨y, H2, I2, ry, ov, g, q2⟩ => Calls.spliced_nil ?_)))
  exact d_get1 hu I2 g ry fun w' s3 I3 rw' => ⟨_, H2, I3, rw', q2⟩
theorem pe_dget2 (hu : X.A.units + 1 < cLine) (ho : PE X o td) (he : PE X e ty) (hf : PE X f tx) (m : M2 X o "get" apos e f cpos) : PE X (.Call (.Attribute o "get" apos) [e, f] [] cpos) (tDGet2 td ty tx) := by
  intro pins s σ H Q I h
  refine wpAny_Call_method m.base m.few m.line PySem.F.plainAttrs_dict PySem.F.slot_dict_get PySem.F.type_dict_get (thn (ho pins s σ H _ I h) fun u s1 ⟨x, H1, I1, rx, a, ex, d, q1⟩ => ?_)
  subst ex
  obtain rfl : u = Value.ref a := rx
  obtain ⟨t1, t2, _⟩ := isD_at I1 d
  refine ⟨t1, t2, ?_⟩
  rw [m.trees]
  refine Calls.callWith_builtin rfl (Calls.evalArgs_plain (Calls.spliced_cons (thn (he pins s1 σ H1 _ I1 q1) fun iv s2 ⟨y, H2, I2, ry, q2⟩ =>
    Calls.spliced_cons (thn (hf pins s2 σ H2 _ I2 q2) fun fv s3 ⟨z, H3, I3, rz, ov, g, q3⟩ => Calls.spliced_nil ?_))))
  exact d_get2 hu I3 g ry rz fun w' s4 I4 rw' => ⟨_, H3, I4, rw', q3⟩
theorem pe_dpop1 (ho : PE X o td) (he : PE X e ty) (m : M1 X o "pop" apos e cpos) : PE X (.Call (.Attribute o "pop" apos) [e] [] cpos) (tDPop1 td ty) := by
  intro pins s σ H Q I h
  refine wpAny_Call_method m.base m.few m.line PySem.F.plainAttrs_dict PySem.F.slot_dict_pop PySem.F.type_dict_pop (thn (ho pins s σ H _ I h) fun u s1 ⟨x, H1, I1, rx, a, ex, d, q1⟩ => ?_)
  subst ex
  obtain rfl : u = Value.ref a := rx
  obtain ⟨t1, t2, _⟩ := isD_at I1 d
  refine ⟨t1, t2, ?_⟩
  rw [m.trees]
  refine Calls.callWith_builtin rfl (Calls.evalArgs_plain (Calls.spliced_cons (thn (he pins s1 σ H1 _ I1 q1) fun iv s2 ⟨y, H2, I2, ry, kvs, k, v, ea, ey, l, q2⟩ => Calls.spliced_nil ?_)))
  subst ey
  exact d_pop I2 ea ry l (.inl rfl) fun w' s3 I3 rw' => ⟨v, _, I3, rw', q2⟩
theorem pe_dpop2 (ho : PE X o td) (he : PE X e ty) (hf : PE X f tx) (m : M2 X o "pop" apos e f cpos) : PE X (.Call (.Attribute o "pop" apos) [e, f] [] cpos) (tDPop2 td ty tx) := by
  intro pins s σ H Q I h
  refine wpAny_Call_method m.base m.few m.line PySem.F.plainAttrs_dict PySem.F.slot_dict_pop PySem.F.type_dict_pop (thn (ho pins s σ H _ I h) fun u s1 ⟨x, H1, I1, rx, a, ex, d, q1⟩ => ?_)
  subst ex
  obtain rfl : u = Value.ref a := rx
  obtain ⟨t1, t2, _⟩ := isD_at I1 d
  refine ⟨t1, t2, ?_⟩
  rw [m.trees]
  refine Calls.callWith_builtin rfl (Calls.evalArgs_plain (Calls.spliced_cons (thn (he pins s1 σ H1 _ I1 q1) fun iv s2 ⟨y, H2, I2, ry, q2⟩ =>
    Calls.spliced_cons (thn (hf pins s2 σ H2 _ I2 q2) fun fv s3 ⟨z, H3, I3, rz, kvs, k, ea, ey, q3, q4⟩ => Calls.spliced_nil ?_))))
  subst ey
  cases l : valV kvs k with
  | some v => exact d_pop I3 ea ry l (.inr ⟨fv, rfl⟩) fun w' s4 I4 rw' => ⟨v, _, I4, rw', q3 v l⟩
  | none => exact d_popD I3 ea ry l fun s4 I4 => ⟨z, H3, I4, rz, q4 l⟩
end

/-! ### dict(d): a copy -/
section
variable {X : Cx} {pins : List (Addr × Obj)} {σ : St} {H : Hp} {s : Shared} {a : Addr} {kvs : List (Key × V)} {A : Around} {E : Value → Shared → Prop}
theorem d_copyOf {Q : Value → Shared → Prop} (I : Inv X pins σ H s) (e : Rd H a (.dK kvs)) (h : ∀ p s', H p = none → Inv X pins σ (upd H p (.dK kvs)) s' → Q (.ref p) s') : wpAny (model X.prog X.w) A (call (.type "dict") [.ref a]) Q E s := by
  obtain ⟨z, hd, vs, rel, dd⟩ := dk_rd I.hok e
  refine kt_call_dict hd dd (by rw [← rel.length]; exact z) fun h' dd' hs => ?_
  refine h _ _ (I.hok.fresh (Nat.le_refl _)) (I.laid (a := s.heap.objs.size) (o := .dK kvs) (t' := s.toks) (fun b q hq => ?_) (Nat.le_refl _) (dk_new z (beq_eq_false_iff_ne.mpr (Ne.symm (Nat.ne_of_lt I.big))) rel dd'))
  exact (hs.2 b (Nat.ne_of_lt (Heap.lt_size hq))).trans (Heap.get?_push_of_some _ hq)
end


section
variable {X : Cx} {pins : List (Addr × Obj)} {σ : St} {H : Hp} {s : Shared} {a : Addr} {y : V} {u : Value} {A : Around} {E : Value → Shared → Prop}
/-- d[y], not there: a KeyError -/
theorem d_missing {Q : Value → Shared → Prop} (hu : A.units + 1 < cLine) (hh : A.handled = none) (I : Inv X pins σ H s) (g : DGet H a y none) (ry : RelV y u)
    (h : ∀ h' e t', Heap.NewExc s.heap h' e "KeyError" → E (.ref e) { s with heap := h', toks := t' }) : wpAny (model X.prog X.w) A (getItem (.ref a) u) Q E s := by
  rcases g with ⟨kvs, k, e, ey, l⟩ | ⟨kvs, k, b, e, ey, eb, l⟩
  · subst ey
    obtain ⟨z, hd, vs, rel, dd⟩ := dk_rd I.hok e
    have hn : valueAt vs k = none := RelO.none_of (by rw [l]; exact rel.val k)
    exact wpAny_getItem_missing_of (kV_is ry) hd hh dd.mapOf hn fun h' ex ne => h h' ex _ ne
  · subst ey
    cases (show u = Value.ref b from ry)
    obtain ⟨z, hd, xs, rel, dd⟩ := dt_rd I.hok e
    have hn : (atKey xs k).map (·.2) = none := RelO.none_of (by rw [l]; exact rel.val k)
    exact wpAny_getItem_missing_heap (tupleKind_room_in1 hu) (key_of I.hok eb) hd hh dd (Option.map_eq_none_iff.mp hn) fun h' ex ne => h h' ex _ ne
end
end L2

set_option Elab.async false
set_option linter.all false
set_option maxRecDepth 100000
/-! all(list), enumerate, min in general -/
namespace L2
open PySem PySem.Spec PyProof.Rows

theorem all_range (bs : List Bool) : ((List.range bs.length).all fun i => bs.getD i false) = bs.all id := by
  have e : (List.range bs.length).map (fun i => bs.getD i false) = bs := by
    refine List.ext_getElem (by simp) fun i h1 h2 => ?_
    simp [List.getD_eq_getElem?_getD, List.getElem?_eq_getElem h2]
  have q : ((List.range bs.length).all fun i => bs.getD i false) = ((List.range bs.length).map (fun i => bs.getD i false)).all id := by
    rw [List.all_map]
    rfl
  rw [q, e]
theorem call_all {X : Cx} (hc : X.calm = true) : CallR X (.builtin "all") (fun xs H Q => ∃ (p : Addr) (bs : List Bool), xs = [.ref p] ∧ SqL X.K H p (bs.map V.bl) ∧ Q (.bl (bs.all id)) H) := by
  intro pins s σ H xs us Q I r h
  obtain ⟨p, bs, rfl, hq, q⟩ := h
  obtain ⟨u, rfl, eu⟩ := vals1 r
  obtain rfl : u = Value.ref p := eu
  obtain ⟨its, rv, pl, hz⟩ := I.list hq
  have hl := rv.length
  rw [List.length_map] at hl
  have plt : p < s.heap.objs.size := let ⟨o, _, e, _⟩ := pl; Heap.lt_size e
  refine call_all_walk (wpAny_pyIter_list pl.isList ?_)
  have W := Walks.list (prog := X.prog) (w := X.w) (A := X.A.in1) (by show X.A.in1.handled = none; exact I.ok.hd hc) s.heap.objs.size p (Nat.ne_of_lt plt) its.toArray
  refine ⟨_, _, _, _, _, _, fun i => bs.getD i false, rfl, W, ⟨⟨_, Heap.get?_push_size _ rfl, rfl, rfl⟩, pl.isList.push _⟩, ?_, fun h' tk kk => ?_⟩
  · intro i v s' Q' E' hv hQ
    have hv' : its[i]? = some v := by simpa using hv
    obtain ⟨x, hx, rx⟩ := Vals.get' rv hv'
    rw [List.getElem?_map] at hx
    cases e : bs[i]? with
    | none => rw [e] at hx; cases hx
    | some b =>
      rw [e] at hx
      cases hx
      obtain rfl : v = Value.bool b := rx
      have eb : bs.getD i false = b := by rw [List.getD_eq_getElem?_getD, e]; rfl
      have hQ' : Q' (bs.getD i false) s' := hQ
      rw [eb] at hQ'
      exact wpAny_truthy_bool hQ'
  · have e : ((List.range its.toArray.size).all fun i => bs.getD i false) = bs.all id := by
      rw [List.size_toArray, ← hl]
      exact all_range bs
    rw [e]
    refine ⟨.bl _, H, I.kept fun b o e => kk b o (fun z => ?_) (Heap.get?_push_of_some _ e), rfl, q⟩
    have z' : b = s.heap.objs.size := by simpa using z
    exact absurd (Heap.lt_size e) (by rw [z']; exact Nat.lt_irrefl _)
theorem call_allK {X : Cx} {K : PySem.W.Frag} (hK : X.K = K) (hc : X.calm = true) : CallR X (.builtin "all") (fun xs H Q => ∃ (p : Addr) (bs : List Bool), xs = [.ref p] ∧ SqL K H p (bs.map V.bl) ∧ Q (.bl (bs.all id)) H) := hK ▸ call_all hc
theorem bt_all : bootBuiltins "all" = some (.builtin "all") := by decide +kernel
theorem bt_tuple' : bootBuiltins "tuple" = some (.type "tuple") := by decide +kernel
theorem bt_enumerate : bootBuiltins "enumerate" = some (.type "enumerate") := by decide +kernel

/-! ### enumerate(a list) -/
def Ite (K : PySem.W.Frag) (a : Addr) : It :=
  ⟨fun i H => ∃ xs x, SqL K H a xs ∧ xs[i]? = some x,
   fun i H v H' => ∃ T x, v = .ref T ∧ H T = none ∧ H' = upd H T (.tup [.int i, x]) ∧ ∀ xs, SqL K H a xs → xs[i]? = some x,
   fun i H => ∃ xs, SqL K H a xs ∧ xs.length ≤ i⟩
theorem turn_enum {P : Program} {w : World} {K : PySem.W.Frag} {es : List Expr} {ek : Nat} {ep : Pos} {e it a : Addr} (hne : e ≠ it) :
    Turn P w K (.Tuple es ek ep) (Ite K a) [e, it] e (fun i h => ∃ old, IsEnum h e it i old ∧ h.IsListIter it a i) where
  mem := by simp
  obj := fun i h ⟨old, he, hi⟩ c hc => by
    have hc' : c = e ∨ c = it := by simpa using hc
    rcases hc' with z | z
    · rw [z]; exact ⟨_, he, fun v q => by cases q⟩
    · rw [z]; obtain ⟨o, ho, _, d⟩ := hi; exact ⟨o, ho, fun v q => by rw [d] at q; cases q⟩
  keep := fun i h h' ⟨old, he, hi⟩ k => ⟨old, k e (by simp) _ he, hi.at fun o q => k it (by simp) o q⟩
  item := by
    intro X hP hw hK hcalm i pins s σ H E I hf ⟨old, he, hi⟩ hg
    subst hP hw hK
    obtain ⟨xs, x, h1, hx⟩ := hg
    obtain ⟨its, r1, p1, z1⟩ := I.list h1
    obtain ⟨u, hu, ru⟩ := r1.get hx
    have eu : its.toArray[i]? = some u := by simpa using hu
    refine wpAny_pyNext_enum_item he hi p1.isList eu hne fun h' heo hit' ht hz hk => ?_
    refine ⟨_, rfl, wpAny_letOwnedTupleGo_enum heo fun h'' he'' hs'' => ?_⟩
    have elt : e < s.heap.objs.size := Heap.lt_size he
    have nT : s.heap.objs.size ≠ e := Nat.ne_of_gt elt
    have ht' : h''.get? s.heap.objs.size = some { cls := .type "tuple", data := .seq #[.int i s.toks, u] } := (hs''.2 _ nT).trans ht
    have k2 : ∀ c o, c ∉ [e, it] → s.heap.get? c = some o → h''.get? c = some o := fun c o n q => by
      have n' : c ≠ e ∧ c ≠ it := by simpa [not_or] using n
      exact (hs''.2 c n'.1).trans (hk c o n'.1 n'.2 q)
    have I1 : Inv X pins σ (upd H s.heap.objs.size (.tup [.int i, x])) { s with heap := h'', toks := s.toks + 1 } := I.turnedLaid (t' := s.toks + 1) hf (fun c o n q => k2 c o n q) (Nat.le_refl _)
      ⟨by show 2 ≤ sizeLine; decide, [.int i s.toks, u], .cons ⟨_, rfl⟩ (.cons ru .nil), ⟨_, ht', rfl, _, rfl⟩⟩ (fun ps q => by cases q)
    refine ⟨.ref s.heap.objs.size, _, I1, rfl, ⟨_, x, rfl, I.hok.fresh (Nat.le_refl _), rfl, fun xs' q => by rw [I.list_inj q h1]; exact hx⟩, ⟨u, he'', ?_⟩, fun c hc => ?_⟩
    · obtain ⟨o, ho, r⟩ := hit'
      exact ⟨o, (hs''.2 it (Ne.symm hne)).trans ho, r⟩
    · have lt : c < s.heap.objs.size := by
        have hc' : c = e ∨ c = it := by simpa using hc
        rcases hc' with z | z
        · rw [z]; exact elt
        · rw [z]; obtain ⟨o, ho, _⟩ := hi; exact Heap.lt_size ho
      rw [upd_ne (Nat.ne_of_lt lt)]
      exact (hf c hc).1
  done := by
    intro X hP hw hK hcalm i pins s σ H E I hf ⟨old, he, hi⟩ hg
    subst hP hw hK
    obtain ⟨xs, h1, hl⟩ := hg
    obtain ⟨its, r1, p1, z1⟩ := I.list h1
    have L1 := r1.length
    refine wpAny_pyNext_enum_end (I.ok.hd hcalm) he hi p1.isList (by simp; omega) fun h' k => ⟨rfl, I.turnedAll (t' := s.toks) hf fun c o n q => ?_⟩
    have n' : c ≠ e ∧ c ≠ it := by simpa [not_or] using n
    exact k c o n'.2 q
  self := fun _ _ _ _ _ ⟨_, he, _⟩ h => wpAny_pyIter_enum he h
section
variable {X : Cx} {es : List Expr} {ek : Nat} {ep : Pos}
def iEnum (K : PySem.W.Frag) (ta : TA) : TI := fun σ H R => ta σ H fun vs H1 => ∃ (a : Addr) (xs : List V), vs = [.ref a] ∧ H1 a = some (.lst xs) ∧ R (Ite K a) H1
theorem pi_enum {a : Expr} {ta : TA} {p pos : Pos} (hg : Gl X "enumerate") (hm : X.mg "enumerate" = none) (ha : PA X [a] ta) (hs : starEach [a] X.env = [(false, eval a X.env)] := by rfl) :
    PI X (.Tuple es ek ep) (.Call (.Name "enumerate" p) [a] [] pos) (iEnum X.K ta) := by
  intro pins s σ H R I h
  refine Call_ (ld_blt I hg hm bt_enumerate (PyProof.Rows.callWith_type1 (thn (ha pos pins s σ H _ I h) fun us s1 ⟨vs, H1, I1, r1, q1⟩ => ?_) hs rfl))
  obtain ⟨c, xs, e, g1, q⟩ := q1
  subst e
  obtain ⟨u, rfl, e1⟩ := vals1 r1
  obtain rfl : u = Value.ref c := e1
  obtain ⟨_, its, n, rv, _, hob⟩ := I1.lstM g1
  have lt1 : c < s1.heap.objs.size := Heap.lt_size hob
  refine call_enumerate_1 hob fun h' he hi hz k => ?_
  have I2 : Inv X pins σ H1 { s1 with heap := h' } := I1.kept (t' := s1.toks) k
  refine wpAny_pyIter_enum he ⟨_, _, _, _, H1, rfl, I2, turn_enum (e := s1.heap.objs.size + 1) (it := s1.heap.objs.size) (a := c) (Nat.ne_of_gt (Nat.lt_succ_self _)), ⟨_, he, hi⟩, fun b hb => ?_, q⟩
  have hb' : b = s1.heap.objs.size + 1 ∨ b = s1.heap.objs.size := by simpa using hb
  have le : s1.heap.objs.size ≤ b := by
    rcases hb' with e | e <;> rw [e]
    · exact Nat.le_succ _
    · exact Nat.le_refl _
  exact I1.fpOk le (I1.hok.fresh le)
end
section
variable {g : TG} {tc : TT} {te : TE} {σ0 : St} {H1 : Hp} {fin : List V → Hp → Prop}
theorem lc_enum {K : PySem.W.Frag} {a : Addr} {xs : List V} (Pv : Nat → List V → Hp → Prop) (h0 : Pv 0 [] H1) (hl : ∀ i ys H, Pv i ys H → SqL K H a xs) (hd : ∀ ys H, Pv xs.length ys H → fin ys H)
    (hs : ∀ i x T ys H, xs[i]? = some x → Pv i ys H → H T = none → ys.length < sizeLine ∧ g (.ref T) σ0 (upd H T (.tup [.int i, x])) fun σ2 H2 => Sub σ0 σ2 ∧ tc σ2 H2 fun b H3 => if b = true then te σ2 H3 fun v H4 => Pv (i + 1) (ys ++ [v]) H4 else Pv (i + 1) ys H3)
    (hz : ∀ i ys H, Pv i ys H → ys.length < sizeLine) : LCr (Ite K a) H1 σ0 g tc te fin := by
  refine lc_of (n := xs.length) Pv h0 (fun ys H p => ⟨⟨xs, hl _ ys H p, Nat.le_refl _⟩, hd ys H p⟩) fun i ys H hi p => ?_
  have e1 : xs[i]? = some xs[i] := List.getElem?_eq_getElem hi
  refine ⟨⟨xs, _, hl i ys H p, e1⟩, hz i ys H p, fun v H' y => ?_⟩
  obtain ⟨T, x, rfl, nT, rfl, q1⟩ := y
  exact (hs i x T ys H (q1 xs (hl i ys H p)) p nT).2
end
theorem for_enum {K : PySem.W.Frag} {a : Addr} {xs : List V} {g : TG} {tb : TS} {D : Ends} {σ : St} {H : Hp} (Pv : Nat → St → Hp → Prop) (h0 : Pv 0 σ H) (hl : ∀ i σ H, Pv i σ H → SqL K H a xs)
    (hs : ∀ i x T σ H, xs[i]? = some x → Pv i σ H → H T = none → g (.ref T) σ (upd H T (.tup [.int i, x])) fun σ2 H2 => tb { D with nx := Pv (i + 1), ct := Pv (i + 1), bk := D.nx } σ2 H2) (hd : ∀ σ H, Pv xs.length σ H → D.nx σ H) :
    ∃ W : Nat → Nat → St → Hp → Prop, (∃ m, W 0 m σ H) ∧ ∀ i m σ H, W i m σ H →
      ((Ite K a).stop i H ∧ D.nx σ H) ∨ ((Ite K a).go i H ∧ ∃ N : St → Hp → Prop, (∀ σ' H', N σ' H' → ∃ m', m' < m ∧ W (i + 1) m' σ' H') ∧ ∀ x H', (Ite K a).yld i H x H' → g x σ H' fun σ2 H2 => tb { D with nx := N, ct := N, bk := D.nx } σ2 H2) := by
  refine ⟨fun i m σ H => m = xs.length - i ∧ i ≤ xs.length ∧ Pv i σ H, ⟨xs.length, by simp, Nat.zero_le _, h0⟩, ?_⟩
  rintro i m σ H ⟨rfl, hi, p⟩
  have q1 := hl i σ H p
  by_cases hlt : i < xs.length
  · refine .inr ⟨⟨xs, _, q1, List.getElem?_eq_getElem hlt⟩, Pv (i + 1), fun σ' H' p' => ⟨xs.length - (i + 1), by omega, rfl, hlt, p'⟩, fun v H' y => ?_⟩
    obtain ⟨T, x, rfl, nT, rfl, r1⟩ := y
    exact hs i x T σ H (r1 xs q1) p nT
  · have e : i = xs.length := by omega
    subst e
    exact .inl ⟨⟨xs, q1, Nat.le_refl _⟩, hd σ H p⟩
end L2

set_option Elab.async false
set_option linter.all false
set_option maxRecDepth 100000
/-! min(list), min(list, default=..) of ints or tuples of ints -/
namespace L2
open PySem PySem.Spec PyProof.Rows
/-- the place of the first least one -/
def leastBy {α : Type} (lt : α → α → Bool) : List α → Option Nat
  | [] => none
  | x :: r => some ((r.zipIdx 1).foldl (fun (b : Nat × α) p => if lt p.1 b.2 = true then (p.2, p.1) else b) (0, x)).1
theorem leastBy_lex : ∀ l : List (List Int), leastBy HT.lexLt l = leastIx l
  | [] => rfl
  | _ :: _ => rfl
section
variable {prog : Program} {w : World} {A : Around} {E : Value → Shared → Prop} {s : Shared} {R : Result → Shared → Prop} {α : Type}
/-- what is asked of the items: they stay what they are while only I and S change, and two are compared -/
structure MinOk (prog : Program) (w : World) (A : Around) (lt : α → α → Bool) (I S : Addr) (Rel : Heap → Value → α → Prop) : Prop where
  keep : ∀ h h' v k, Rel h v k → (∀ x o, x ≠ I → x ≠ S → h.get? x = some o → h'.get? x = some o) → Rel h' v k
  cmp : ∀ (s : Shared) (v1 v2 : Value) (k1 k2 : α) (Q : Value → Shared → Prop) (E : Value → Shared → Prop), Rel s.heap v1 k1 → Rel s.heap v2 k2 → (∀ tk, Q (.bool (lt k1 k2)) { s with toks := tk }) → wpAny (model prog w) A (compareOp .Lt v1 v2) Q E s
theorem Paired.keepM {lt : α → α → Bool} {I S : Addr} {Rel : Heap → Value → α → Prop} (M : MinOk prog w A lt I S Rel) {h h' : Heap} (k : ∀ x o, x ≠ I → x ≠ S → h.get? x = some o → h'.get? x = some o) {its : List Value} {ks : List α} (T : Paired (Rel h) its ks) : Paired (Rel h') its ks :=
  Paired.mapP T fun v x e => M.keep h h' v x e k
theorem minK_go {lt : α → α → Bool} {I ax S : Addr} {Rel : Heap → Value → α → Prop} {all : Array Value} {kw : List (Str × Value)} (M : MinOk prog w A.in1 lt I S Rel) (hh : A.handled = none) (hne : ax ≠ I) (hS : S ≠ I) (hSa : S ≠ ax) :
    ∀ (rest : List Value) (nss : List α) (i : Nat) (s : Shared) (b : Nat) (bv : Value) (bn : α) (c : Nat),
    all.toList.drop i = rest → s.heap.IsListIter I ax i → s.heap.IsList ax all → s.heap.get? S = some { cls := .type "list", data := .seq #[bv, bv] c } → all[b]? = some bv → Paired (Rel s.heap) (bv :: rest) (bn :: nss) →
    (∀ h' v tk, (∀ x o, x ≠ I → x ≠ S → s.heap.get? x = some o → h'.get? x = some o) → all[((nss.zipIdx i).foldl (fun (b : Nat × α) p => if lt p.1 b.2 = true then (p.2, p.1) else b) (b, bn)).1]? = some v → R (.ok (.ret v)) { s with heap := h', toks := tk }) →
    codeAny (model prog w) A (.builtin "min.loop" ⟨[.ref I, .none, .ref S], kw⟩) R s := by
  intro rest
  induction rest with
  | nil =>
    intro nss i s b bv bn c hd hit hl hb hbx T hR
    have hn : nss = [] := by cases T with | cons _ r => cases r; rfl
    subst hn
    have hend : all[i]? = none := by
      have q : all.toList.length ≤ i := by
        have z := congrArg List.length hd
        rw [List.length_drop] at z
        simp only [List.length_nil] at z
        omega
      simpa using q
    refine codeAny_builtin F.entry_min_loop ?_
    rw [Around.under_plainId F.plain_min_loop _]
    show wpAny _ A.in1 (seqItems? (.ref S) >>= fun _ => _) _ _ s
    refine wpAny_bind (wpAny_seqItems hb rfl ?_)
    show wpAny _ A.in1 (tryCatch (pyNext (.ref I)) _ >>= fun _ => _) _ _ s
    refine wpAny_bind (wpAny_tryCatch (wpAny_pyNext_list_end (show A.in1.handled = none from hh) hit hl hend fun h' eb => ?_))
    show wpAny _ A.in1 (updateSeq S (fun _ => #[]) >>= fun _ => _) _ _ _
    refine wpAny_bind (wpAny_updateSeq (eb _ _ hS hb) rfl (wpAny_bind (wpAny_letGo (wpAny_pure (hR _ bv s.toks (fun x o n1 n2 e => ?_) hbx)))))
    exact (Heap.get?_update_other _ _ (Ne.symm n2)).trans (eb _ _ n1 e)
  | cons v rest ih =>
    intro nss i s b bv bn c hd hit hl hb hbx T hR
    obtain ⟨n, nss, rfl, T0, Tv, Tr⟩ : ∃ n nss', nss = n :: nss' ∧ Rel s.heap bv bn ∧ Rel s.heap v n ∧ Paired (Rel s.heap) rest nss' := by
      cases T with
      | cons a r => cases r with | cons x y => exact ⟨_, _, rfl, a, x, y⟩
    have hv : all[i]? = some v := by
      have z := congrArg (fun l => l[0]?) hd
      simpa using z
    have hd' : all.toList.drop (i + 1) = rest := by
      have z := congrArg (List.drop 1) hd
      rw [List.drop_drop] at z
      simpa using z
    refine codeAny_builtin F.entry_min_loop ?_
    rw [Around.under_plainId F.plain_min_loop _]
    show wpAny _ A.in1 (seqItems? (.ref S) >>= fun _ => _) _ _ s
    refine wpAny_bind (wpAny_seqItems hb rfl ?_)
    show wpAny _ A.in1 (tryCatch (pyNext (.ref I)) _ >>= fun _ => _) _ _ s
    refine wpAny_bind (wpAny_tryCatch (wpAny_pyNext_list_item hit hl hv fun h' hit' hs' => ?_))
    have k' : ∀ x o, x ≠ I → s.heap.get? x = some o → h'.get? x = some o := fun x o n e => hs'.extBut _ _ n e
    have k2 : ∀ x o, x ≠ I → x ≠ S → s.heap.get? x = some o → h'.get? x = some o := fun x o n _ e => k' x o n e
    have hb' := k' S _ hS hb
    have T0' := M.keep _ _ _ _ T0 k2
    have Tv' := M.keep _ _ _ _ Tv k2
    have Tr' := Paired.keepM M k2 Tr
    have hname : (toString "min" ++ toString ".loop" : String) = "min.loop" := by decide
    show wpAny _ A.in1 (tryCatch (holding [v, v] (richCompare .Lt v bv >>= fun _ => _)) _ >>= fun _ => _) _ _ _
    refine wpAny_bind (wpAny_tryCatch (wpAny_holding (wpAny_bind (show wpAny _ _ (compareOp .Lt v bv) _ _ _ from M.cmp _ _ _ _ _ _ _ Tv' T0' fun tk => ?_))))
    refine wpAny_bind (wpAny_holding (wpAny_truthy_bool (wpAny_bind (wpAny_letGo (wpAny_pure ?_)))))
    have fold : ((n :: nss).zipIdx i).foldl (fun (b : Nat × α) p => if lt p.1 b.2 = true then (p.2, p.1) else b) (b, bn) = (nss.zipIdx (i + 1)).foldl (fun (b : Nat × α) p => if lt p.1 b.2 = true then (p.2, p.1) else b) (if lt n bn = true then (i, n) else (b, bn)) := by
      rw [List.zipIdx_cons, List.foldl_cons]
    rw [fold] at hR
    cases hlt : lt n bn with
    | true =>
      rw [hlt, if_pos rfl] at hR
      simp only [if_true]
      have upS := Heap.get?_update_self (Obj.mapSeq fun _ => #[v, v]) hb' rfl
      refine wpAny_bind (wpAny_updateSeq hb' rfl (wpAny_bind (wpAny_letGo ?_)))
      rw [hname]
      have oth : ∀ x o, x ≠ S → h'.get? x = some o → (h'.update S (Obj.mapSeq fun _ => #[v, v])).get? x = some o := fun x o n e => (Heap.get?_update_other _ _ (Ne.symm n)).trans e
      have kS : ∀ x o, x ≠ I → x ≠ S → h'.get? x = some o → (h'.update S (Obj.mapSeq fun _ => #[v, v])).get? x = some o := fun x o _ n e => oth x o n e
      refine wpAny_pure ⟨plainId_quiet F.plain_min_loop _, ih nss (i + 1) _ i v n _ hd' (hit'.at fun o e => oth _ _ (Ne.symm hS) e) ((hl.extBut hs'.extBut hne).at fun o e => oth _ _ (Ne.symm hSa) e) upS hv ?_ fun h'' u tk' kk e => ?_⟩
      · exact .cons (M.keep _ _ _ _ Tv' kS) (Paired.keepM M kS Tr')
      · exact hR h'' u tk' (fun x o n1 n2 q => kk x o n1 n2 (oth x o n2 (k' x o n1 q))) e
    | false =>
      rw [hlt, if_neg Bool.false_ne_true] at hR
      simp only [Bool.false_eq_true, if_false]
      refine wpAny_bind (wpAny_letGo ?_)
      rw [hname]
      exact wpAny_pure ⟨plainId_quiet F.plain_min_loop _, ih nss (i + 1) _ b bv bn c hd' hit' (hl.extBut hs'.extBut hne) hb' hbx (.cons T0' Tr') fun h'' u tk' kk e => hR h'' u tk' (fun x o n1 n2 q => kk x o n1 n2 (k' x o n1 q)) e⟩
theorem minK_run {lt : α → α → Bool} {Rel : Heap → Value → α → Prop} {l : Addr} {its : List Value} {ks : List α} {kw : List (Str × Value)} {dfl : Option Value} {Q : Value → Shared → Prop} (M : ∀ I S, s.heap.objs.size ≤ I → s.heap.objs.size ≤ S → MinOk prog w A.in1 lt I S Rel) (hh : A.handled = none) (hl : s.heap.IsList l its.toArray) (T : Paired (Rel s.heap) its ks)
    (kpN : ∀ h h' v k, Rel h v k → (∀ x o, h.get? x = some o → h'.get? x = some o) → Rel h' v k) (hkw : Builtin.Builtins.bindParams "min" ["key", "default"] 0 ⟨[], kw⟩ = pure [none, dfl]) (hk2 : (dfl.toList.map fun d => (("default" : Str), d)) = kw)
    (hck : checkBuiltinCall "min" ⟨[.ref l], kw⟩ = pure ())
    (h0 : ks = [] → ∃ d, dfl = some d ∧ ∀ h', (∀ b o, s.heap.get? b = some o → h'.get? b = some o) → Q d { s with heap := h' })
    (h1 : ∀ j v h' tk, leastBy lt ks = some j → its[j]? = some v → (∀ b o, s.heap.get? b = some o → h'.get? b = some o) → Q v { s with heap := h', toks := tk }) :
    wpAny (model prog w) A (call (.builtin "min") [.ref l] kw) Q E s := by
  refine wpAny_call (codeAny_call_builtin F.plain_min F.entry_min ?_)
  refine wpAny_of_eq hck ?_
  have hname : (toString "min" ++ toString ".loop" : String) = "min.loop" := by decide
  show wpAny _ A.in1 (Builtin.Builtins.bindParams "min" ["key", "default"] 0 ⟨[], kw⟩ >>= fun _ => _) _ _ s
  refine wpAny_bind (wpAny_of_eq hkw ?_)
  refine wpAny_bind (wpAny_pure (wpAny_bind (wpAny_pyIter_list hl (wpAny_bind (wpAny_newObj_type ?_)))))
  rw [hname, hk2]
  have lt' : l < s.heap.objs.size := let ⟨o, e, _⟩ := hl; Heap.lt_size e
  have old : ∀ b o, s.heap.get? b = some o → ((s.heap.push { cls := .type "list_iterator", data := .fields #[.ref l, .int 0 0] }).push { cls := .type "list", data := .seq ([] : List Value).toArray }).get? b = some o := fun b o e => Heap.get?_push_of_some _ (Heap.get?_push_of_some _ e)
  have sz : (s.heap.push { cls := .type "list_iterator", data := .fields #[.ref l, .int 0 0] }).objs.size = s.heap.objs.size + 1 := Heap.size_push ..
  have hit : ((s.heap.push { cls := .type "list_iterator", data := .fields #[.ref l, .int 0 0] }).push { cls := .type "list", data := .seq ([] : List Value).toArray }).IsListIter s.heap.objs.size l 0 := ⟨_, Heap.get?_push_of_some _ (Heap.get?_push_size _ rfl), rfl, rfl⟩
  have hS := Heap.get?_push_size (s.heap.push { cls := .type "list_iterator", data := .fields #[.ref l, .int 0 0] }) (o := { cls := .type "list", data := .seq ([] : List Value).toArray }) rfl
  rw [sz] at hS
  generalize hH : ((s.heap.push { cls := .type "list_iterator", data := .fields #[.ref l, .int 0 0] }).push { cls := .type "list", data := .seq ([] : List Value).toArray }) = H2 at *
  have hl2 : H2.IsList l its.toArray := hl.at fun o e => old _ _ e
  have hSl : s.heap.objs.size + 1 ≠ l := Nat.ne_of_gt (Nat.lt_succ_of_lt lt')
  have hIl : l ≠ s.heap.objs.size := Nat.ne_of_lt lt'
  have hSI : s.heap.objs.size + 1 ≠ s.heap.objs.size := Nat.ne_of_gt (Nat.lt_succ_self _)
  have M' := M s.heap.objs.size (s.heap.objs.size + 1) (Nat.le_refl _) (Nat.le_succ _)
  rw [sz]
  refine wpAny_pure ⟨plainId_quiet F.plain_min_loop _, codeAny_builtin F.entry_min_loop ?_⟩
  rw [Around.under_plainId F.plain_min_loop _]
  show wpAny _ A.in1 (seqItems? (.ref (s.heap.objs.size + 1)) >>= fun _ => _) _ _ _
  refine wpAny_bind (wpAny_seqItems hS rfl ?_)
  show wpAny _ A.in1 (tryCatch (pyNext (.ref s.heap.objs.size)) _ >>= fun _ => _) _ _ _
  have keep : ∀ {h' : Heap}, (∀ x o, x ≠ s.heap.objs.size → x ≠ s.heap.objs.size + 1 → H2.get? x = some o → h'.get? x = some o) → ∀ b o, s.heap.get? b = some o → h'.get? b = some o := fun k b o e => k b o (Nat.ne_of_lt (Heap.lt_size e)) (Nat.ne_of_lt (Nat.lt_succ_of_lt (Heap.lt_size e))) (old b o e)
  have T2 : Paired (Rel H2) its ks := Paired.mapP T fun v k e => kpN _ _ _ _ e old
  cases T2 with
  | nil =>
    obtain ⟨d, rfl, hd⟩ := h0 rfl
    refine wpAny_bind (wpAny_tryCatch (wpAny_pyNext_list_end (show A.in1.handled = none from hh) hit hl2 (by simp) fun h' eb => ?_))
    subst hk2
    refine wpAny_bind (wpAny_rule (wpAny_pure ?_))
    exact hd h' (keep fun x o n1 _ e => eb _ _ n1 e)
  | @cons v n rest nss a r =>
    refine wpAny_bind (wpAny_tryCatch (wpAny_pyNext_list_item hit hl2 (x := v) (by simp) fun h' hit' hs' => ?_))
    refine wpAny_bind (wpAny_pure ?_)
    have hS' : h'.get? (s.heap.objs.size + 1) = some { cls := .type "list", data := .seq ([] : List Value).toArray } := hs'.extBut _ _ hSI hS
    have upS := Heap.get?_update_self (Obj.mapSeq fun _ => #[v, v]) hS' rfl
    refine wpAny_bind (wpAny_updateSeq hS' rfl ?_)
    rw [hname]
    have oth : ∀ x o, x ≠ s.heap.objs.size → x ≠ s.heap.objs.size + 1 → H2.get? x = some o → (h'.update (s.heap.objs.size + 1) (Obj.mapSeq fun _ => #[v, v])).get? x = some o := fun x o n1 n2 e => (Heap.get?_update_other _ _ (Ne.symm n2)).trans (hs'.extBut _ _ n1 e)
    refine wpAny_pure ⟨plainId_quiet F.plain_min_loop _, minK_go (all := (v :: rest).toArray) M' hh hIl hSI hSl rest nss 1 _ 0 v n _ (by simp) (hit'.at fun o e => (Heap.get?_update_other _ _ hSI).trans e)
      ((hl2.extBut hs'.extBut hIl).at fun o e => (Heap.get?_update_other _ _ hSl).trans e) upS (by simp) (.cons (M'.keep _ _ _ _ a oth) (Paired.keepM M' oth r)) fun h'' u tk k e => ?_⟩
    exact h1 _ u h'' tk rfl (by simpa using e) (keep fun x o n1 n2 q => k x o n1 n2 (oth x o n1 n2 q))
/-- ints -/
def RelI : Heap → Value → Int → Prop := fun _ v k => ∃ t, v = .int k t
theorem minI_ok {I S : Addr} : MinOk prog w A (fun a b : Int => decide (a < b)) I S RelI where
  keep := fun _ _ _ _ e _ => e
  cmp := fun s v1 v2 k1 k2 Q E ⟨t1, e1⟩ ⟨t2, e2⟩ h => by
    subst e1 e2
    exact lt_int (h s.toks)
end
end L2

set_option Elab.async false
set_option linter.all false
set_option maxRecDepth 100000
/-! A LIST COMPREHENSION whose target is a cell: an inner comprehension closes over it; it takes nothing from around -/
namespace L2
open PySem PySem.Spec PyProof.Rows

abbrev cellO : Obj := { cls := .type "cell", data := .cell none }
structure CompScopeC (scope : Scope) (y0 : Str) (N' : List Str) (js : List (Option Nat)) : Prop where
  kind : scope.kind = .function
  names : ∀ y ∈ scope.names, y.2 = .local → scope.names.lookup y.1 = some .local
  free : ∀ y ∈ scope.names, y.2 ≠ .free
  only : ∀ y ∈ scope.names, y.2 = .cell → y.1 = y0
  flt : scope.names.filter (fun y => y.2 == .cell) = [(y0, .cell)]
  nd : N'.Nodup
  len : js.length = N'.length
  cap : ∀ o ∈ js, o = none
def compOkC (scope : Scope) (y0 : Str) (N' : List Str) (js : List (Option Nat)) : Bool :=
  decide (scope.kind = .function) && scope.names.all (fun y => decide (y.2 = .local → scope.names.lookup y.1 = some .local)) && scope.names.all (fun y => decide (y.2 ≠ .free)) && scope.names.all (fun y => decide (y.2 = .cell → y.1 = y0)) &&
  decide (scope.names.filter (fun y => y.2 == .cell) = [(y0, .cell)]) && decide N'.Nodup && decide (js.length = N'.length) && js.all (fun o => decide (o = none))
theorem compOkC.scope {scope : Scope} {y0 : Str} {N' : List Str} {js : List (Option Nat)} (h : compOkC scope y0 N' js = true) : CompScopeC scope y0 N' js := by
  unfold compOkC at h
  simp only [Bool.and_eq_true, decide_eq_true_eq, List.all_eq_true] at h
  obtain ⟨⟨⟨⟨⟨⟨⟨h1, h2⟩, h3⟩, h4⟩, h5⟩, h6⟩, h7⟩, h8⟩ := h
  exact ⟨h1, h2, h3, h4, h5, h6, h7, h8⟩
theorem cellsFrom_filter : ∀ (names : List (Str × NameKind)) (n : Nat) (acc : List (Str × Addr)), cellsFrom n names acc = cellsFrom n (names.filter fun y => y.2 == .cell) acc
  | [], _, _ => rfl
  | (x, k) :: r, n, acc => by
    cases h : k == NameKind.cell with
    | true =>
      rw [List.filter_cons_of_pos (by simpa using h)]
      unfold cellsFrom
      rw [if_pos h, if_pos h]
      exact cellsFrom_filter r _ _
    | false =>
      rw [List.filter_cons_of_neg (by simpa using h), ← cellsFrom_filter r n acc]
      conv => lhs; unfold cellsFrom
      rw [if_neg (by simp [h])]
theorem pushCells_filter : ∀ (names : List (Str × NameKind)) (h : Heap), pushCells h names = pushCells h (names.filter fun y => y.2 == .cell)
  | [], _ => rfl
  | (x, k) :: r, g => by
    cases h : k == NameKind.cell with
    | true =>
      rw [List.filter_cons_of_pos (by simpa using h)]
      unfold pushCells
      rw [if_pos h, if_pos h]
      exact pushCells_filter r _
    | false =>
      rw [List.filter_cons_of_neg (by simpa using h), ← pushCells_filter r g]
      conv => lhs; unfold pushCells
      rw [if_neg (by simp [h])]
theorem cl_none {cells : List (Str × Addr)} : ∀ (names : List (Str × NameKind)) (acc : List (Str × Addr)), (∀ y ∈ names, y.2 ≠ .free) → names.foldl (clStep cells) acc = acc
  | [], _, _ => rfl
  | y :: r, acc, h => by
    rw [List.foldl_cons, show clStep cells acc y = acc from if_neg (h y List.mem_cons_self)]
    exact cl_none r acc fun z hz => h z (List.mem_cons_of_mem _ hz)
theorem relabel_id {scope : Scope} {env : Env} (h : ∀ y ∈ scope.names, y.2 ≠ .free) : relabel scope env = scope := by
  unfold relabel
  have e : (scope.names.map fun (n, k) => if (k == .free && env.scope.kind == .function && env.kindOf n == some .cell) then (n, .cell) else (n, k)) = scope.names := by
    refine (List.map_congr_left (g := id) fun y hy => ?_).trans (List.map_id _)
    obtain ⟨n, k⟩ := y
    have hk : (k == NameKind.free) = false := by simpa using h _ hy
    simp [hk]
  rw [e]
def noFree (scope : Scope) : Bool := scope.names.all fun y => decide (y.2 ≠ .free)
theorem compOk.scopeR {sc : Scope} {env : Env} {N : List Str} {scope : Scope} {N' : List Str} {js : List (Option Nat)} (hf : noFree sc = true) (h : compOk sc N scope N' js = true) : CompScope (relabel sc env) N scope N' js := by
  rw [relabel_id (by simpa [noFree] using hf)]
  exact compOk.scope h

section
variable {scope : Scope} {y0 : Str} {N' : List Str} {js : List (Option Nat)}
theorem closure_none {env : Env} (S : CompScopeC scope y0 N' js) : closureFor scope env = pure [] := by
  rw [closure_is fun y hy e => absurd e (S.free y hy)]
  exact congrArg pure (cl_none _ _ S.free)
theorem newEnv_cell {M : Model} {A : Around} {E : Value → Shared → Prop} {s : Shared} {env : Env} {Q : Env → Shared → Prop} (S : CompScopeC scope y0 N' js)
    (hQ : ∀ h₁ : Heap, h₁.Ns s.heap.objs.size (fun _ => none) → (∀ b o, s.heap.get? b = some o → h₁.get? b = some o) → h₁.get? (s.heap.objs.size + 1) = some cellO →
      Q (newEnv scope s.heap.objs.size env.globals [(y0, s.heap.objs.size + 1)] env.qual none .none (some env) builtinsNs) { s with heap := h₁ }) :
    wpAny M A (newFunctionEnv scope env.globals [] [] env.qual none .none (some env)) Q E s := by
  simp only [newFunctionEnv, Option.isSome_some, if_true]
  refine wpAny_bind (wpAny_alloc ?_)
  refine wpAny_bind (wpAny_layCells _ (fun name kind cells => by cases hkc : kind == NameKind.cell <;> simp [hkc]) _ _ _ _ ?_)
  rw [cellsFrom_filter, pushCells_filter, S.flt]
  have e : ({ s with heap := s.heap.push { cls := .type "dict", data := .dict #[] } } : Shared).heap.objs.size = s.heap.objs.size + 1 := Heap.size_push ..
  rw [e]
  refine wpAny_bind ?_
  rw [List.forIn_nil]
  refine wpAny_pure (wpAny_pure (hQ _ ((Heap.Ns.new s.heap (.type "dict")).keeps (pushCells_keeps _ _)) (fun b o e => pushCells_keeps _ _ b o (Heap.get?_push_of_some _ e)) ?_))
  show ((s.heap.push { cls := .type "dict", data := .dict #[] }).push cellO).get? (s.heap.objs.size + 1) = some cellO
  have q := Heap.get?_push_size (o := cellO) (s.heap.push { cls := .type "dict", data := .dict #[] }) rfl
  rwa [Heap.size_push] at q
end

/-- the context of the block -/
def cxCompC (X : Cx) (scope : Scope) (N' : List Str) (y0 : Str) (C : Addr) (s : Shared) (H : Hp) (ex : List Addr) : Cx where
  prog := X.prog
  w := X.w
  K := X.K
  mg := X.mg
  base := X.base
  A := X.A
  N := N'
  s₀ := s
  H₀ := H
  env := compEnvC scope [(y0, C + 1)] C X.env
  outer := X.stack
  stack := X.stack
  ex := ex
  fn := fun _ => true
  calm := X.calm
  pn := []
  xe := fun _ _ => False

section
variable {X : Cx} {pins : List (Addr × Obj)} {σ : St} {H : Hp} {s : Shared} {scope : Scope} {y0 : Str} {N' : List Str} {js : List (Option Nat)} {C : Addr} {fp : List Addr}
theorem one_cell {x : Str} {c : Addr} (h : [(y0, C + 1)].lookup x = some c) : x = y0 ∧ c = C + 1 := by
  cases hb : x == y0 with
  | true =>
    simp only [List.lookup_cons, hb] at h
    exact ⟨by simpa using hb, (Option.some.inj h).symm⟩
  | false => simp [List.lookup_cons, hb] at h
theorem comp_okC (I : Inv X pins σ H s) (S : CompScopeC scope y0 N' js) (hf : ∀ b ∈ fp, FpOk X pins H b) (hfo : ∀ b ∈ fp, ∃ o, s.heap.get? b = some o) (hC : s.heap.objs.size ≤ C) :
    (cxCompC X scope N' y0 C s H fp).Ok := by
  have ok := I.ok
  refine ⟨ok.mod, S.kind, ok.glob, ok.blt, hC, fun x y c h1 h2 => (one_cell h1).1.trans (one_cell h2).1.symm, fun x hx => ?_, fun x c _ h => ?_, ok.hd, ok.frames, .inl rfl, fun b hb => ⟨?_, fun x c h => ?_⟩, fun b o e => I.bs b o e,
    Nat.le_trans ok.bsz I.sz, fun b o e hb => ?_, fun b hb z => ?_, I.stack, I.stkFree⟩
  · have hx' : (relabel scope X.env).names.lookup x = some .cell ∨ (relabel scope X.env).names.lookup x = some .free := hx
    rw [relabel_id S.free] at hx'
    have e : x = y0 := by
      rcases hx' with q | q
      · exact S.only _ (lookup_mem q) rfl
      · exact absurd rfl (S.free _ (lookup_mem q))
    refine ⟨C + 1, ?_⟩
    show [(y0, C + 1)].lookup x = _
    rw [e]
    simp [List.lookup_cons]
  · rw [(one_cell h).2]
    exact Nat.le_succ_of_le hC
  · obtain ⟨o, e⟩ := hfo b hb
    exact Nat.ne_of_lt (Nat.lt_of_lt_of_le (Heap.lt_size e) hC)
  · obtain ⟨o, e⟩ := hfo b hb
    rw [(one_cell h).2]
    exact Nat.ne_of_gt (Nat.lt_of_lt_of_le (Heap.lt_size e) (Nat.le_succ_of_le hC))
  · rcases (hf b hb).2.2.2.1 with z | z
    · exact ok.noex b o e z
    · exact absurd (Nat.lt_of_lt_of_le (Heap.lt_size (ok.bs b o e).1) z) (Nat.lt_irrefl _)
  · rcases List.mem_cons.mp (I.stkSub b z) with q | q
    · exact (hf b hb).2.1 q
    · exact (hf b hb).2.2.1 q

theorem comp_startC {h' : Heap} {tk : Nat} {D : Addr} {oD : Obj} (I : Inv X pins σ H s) (S : CompScopeC scope y0 N' js) (hf : ∀ b ∈ fp, FpOk X pins H b) (hfo : ∀ b ∈ fp, ∃ o, s.heap.get? b = some o) (hC : s.heap.objs.size ≤ C) (hD : s.heap.objs.size ≤ D) (hDC : D ≠ C)
    (old : ∀ b o, s.heap.get? b = some o → h'.get? b = some o) (hns : h'.Ns C fun _ => none) (hce : h'.get? (C + 1) = some cellO) (hoD : h'.get? D = some oD) (hcD : ∀ v, oD.data ≠ .cell v) :
    Inv (cxCompC X scope N' y0 C s H fp) [(D, oD)] (capS js σ) H { s with heap := h', toks := tk } := by
  refine ⟨comp_okC I S hf hfo hC, rfl, I.bare, Un.kept old, ⟨_, hns, fun i x v e1 e2 e3 => ?_⟩, fun x c e => ?_, I.hok.fresh hC, fun x c e => ?_, fun p hp => ?_, I.hok.kept old, ?_⟩
  · have e2' : (capS js σ)[i]? = some (some v) := e2
    unfold capS at e2'
    rw [List.getElem?_map] at e2'
    cases q : js[i]? with
    | none => rw [q] at e2'; cases e2'
    | some o =>
      rw [q, S.cap o (List.mem_of_getElem? q)] at e2'
      cases e2'
  · rw [(one_cell e).2]
    exact ⟨none, cellO, hce, rfl⟩
  · rw [(one_cell e).2]
    exact I.hok.fresh (Nat.le_succ_of_le hC)
  · have e : p = (D, oD) := List.mem_singleton.mp (show p ∈ [(D, oD)] from hp)
    subst e
    refine ⟨hoD, I.hok.fresh hD, hDC, fun z => ?_, hcD⟩
    have z' : D ∈ frs X.stack := z
    rcases List.mem_cons.mp (I.stkSub D z') with q | q
    · exact absurd (Nat.lt_of_lt_of_le I.lt hD) (by rw [q]; exact Nat.lt_irrefl _)
    · exact I.nofs hD q
  · show (capS js σ).length = N'.length
    unfold capS
    rw [List.length_map, S.len]
theorem comp_endC {D : Addr} {its : List Value} {ys : List V} {H' : Hp} {σ' : St} {s' : Shared} (I : Inv X pins σ H s) (hf : ∀ b ∈ fp, FpOk X pins H b) (hC : s.heap.objs.size ≤ C) (hD : s.heap.objs.size ≤ D)
    (J : Inv (cxCompC X scope N' y0 C s H fp) [(D, lstO its)] σ' H' s') (rv : Vals ys its) (hz : ys.length ≤ sizeLine) :
    ∃ oC m, s'.heap.get? C = some oC ∧ s'.heap.Ns C m ∧ H' D = none ∧ (∀ h'' : Heap, h''.get? C = some oC → h''.Ns C m) ∧ Inv X (pins ++ [(C, oC)]) σ (upd H' D (.lst ys)) s' := by
  obtain ⟨m, hn, _⟩ := J.loc
  obtain ⟨oC, es, ep, hoC, hdC, hr⟩ := id hn
  have pD := J.pin (D, lstO its) (List.mem_append_right _ (List.mem_singleton.mpr rfl))
  obtain ⟨gD, nD, neD, _, _⟩ := pD
  have oldlt : ∀ b o, s.heap.get? b = some o → b ≠ D := fun b o e z => absurd (Nat.lt_of_lt_of_le (Heap.lt_size e) (by rw [z]; exact hD)) (Nat.lt_irrefl _)
  have trlt : ∀ b o, H b = some o → b ≠ D := fun b o e z => absurd (Nat.lt_of_lt_of_le (I.hok.lt e) (by rw [z]; exact hD)) (Nat.lt_irrefl _)
  have un : Un (frs X.stack) fp H (upd H' D (.lst ys)) s.heap s'.heap := by
    have b := J.base
    refine ⟨b.keep, b.slot, fun c o e n hx => ?_, b.there, fun c xs e => ?_, fun c o u e => ?_, fun c ps e => ?_⟩
    · rw [upd_ne (oldlt c o e)]; exact b.free c o e n hx
    · rw [upd_ne (trlt c _ e)]; exact b.tups c xs e
    · rw [upd_ne (trlt c _ e)]; exact b.frzs c o u e
    · obtain ⟨more, q⟩ := b.tbls c ps e
      exact ⟨more, by rw [upd_ne (trlt c _ e)]; exact q⟩
  have hok : HOk X.prog X.w (upd H' D (.lst ys)) s'.heap := fun b u e => by
    by_cases hb : b = D
    · subst hb
      rw [upd_same] at e
      cases e
      exact ⟨hz, its, _, rv, gD⟩
    · rw [upd_ne hb] at e
      exact (J.hok b u e).stay (fun c v _ q => q) (fun c q => by rw [upd_ne (ne_of_none q nD)]; exact q) fun c xs q => by rw [upd_ne (ne_of_none q nD)]; exact q
  have I2 : Inv X pins σ (upd H' D (.lst ys)) s' := I.call' (ch := fp) J.os un hok J.bare fun b hb => ⟨(hf b hb).2.2.2.1, (hf b hb).2.1, (hf b hb).2.2.2.2.1, (hf b hb).2.2.2.2.2⟩
  refine ⟨oC, m, hoC, hn, nD, fun h'' e => ⟨oC, es, ep, e, hdC, hr⟩, I2.pins_of fun p hp => ?_⟩
  rcases List.mem_append.mp hp with hp | hp
  · exact I2.pin p (List.mem_append_right _ hp)
  · have e := List.mem_singleton.mp hp
    subst e
    refine ⟨hoC, ?_, ?_, ?_, fun v z => ?_⟩
    · show upd H' D (.lst ys) C = none
      have neD' : C ≠ D := fun z => neD z.symm
      rw [upd_ne neD']
      exact J.free
    · exact Nat.ne_of_gt (Nat.lt_of_lt_of_le I.lt hC)
    · exact I.nofs hC
    · rw [hdC] at z; cases z
end
section
variable {X : Cx} {tg iter elt : Expr} {ifs : List Expr} {scope : Scope} {y0 : Str} {N' : List Str} {js : List (Option Nat)} {wi : TI} {g : TG} {tc : TT} {te : TE} {pos : Pos}

/-- the block runs -/
theorem comp_blockC {pins : List (Addr × Obj)} {σ : St} {H : Hp} {s : Shared} {E : Value → Shared → Prop} {it : Addr} {fp : List Addr} {tn : Nat → Heap → Prop} {J : It} {fin : List V → Hp → Prop} {RR : Value → Addr → Result → Shared → Prop}
    (hcalm : X.calm = true) (S : CompScopeC scope y0 N' js)
    (hg : ∀ C s H ex, PG (cxCompC X scope N' y0 C s H ex) tg g) (hc : ∀ C s H ex, PIfs (cxCompC X scope N' y0 C s H ex) ifs tc) (he : ∀ C s H ex, PE (cxCompC X scope N' y0 C s H ex) elt te)
    (I : Inv X pins σ H s) (T : Turn X.prog X.w X.K tg J fp it tn) (st : tn 0 s.heap) (hf : ∀ b ∈ fp, FpOk X pins H b) (L : LCr J H (capS js σ) g tc te fin)
    (hRR : ∀ (D C : Addr) (oC : Obj) (m : Str → Option Value) (H' : Hp) (ys : List V) (s' : Shared), fin ys H' → H' D = none → s.heap.objs.size ≤ C → s'.heap.get? C = some oC → (∀ h'' : Heap, h''.get? C = some oC → h''.Ns C m) → C ≠ D → H' C = none →
      Inv X (pins ++ [(C, oC)]) σ (upd H' D (.lst ys)) s' → RR (.ref D) C (.ok .next) s') :
    wpAny (model X.prog X.w) X.A (newList []) (fun acc s₃ => wpAny (model X.prog X.w) X.A (newFunctionEnv scope X.env.globals [] [] X.env.qual none .none (some X.env)) (fun cenv s₄ =>
      codeAny (model X.prog X.w) X.A (.compStart (.ListComp elt [⟨tg, iter, ifs, 0⟩] scope pos) 0 (.ref it) acc { cenv with scope := relabel scope X.env }) (RR acc cenv.locals) s₄) E s₃) E s := by
  refine wpAny_newObj_type (newEnv_cell S fun h₁ hns₁ hold₁ hce₁ => ?_)
  dsimp only at hns₁ hold₁ hce₁ ⊢
  generalize hH2 : s.heap.push { cls := .type "list", dict := none, data := .seq ([] : List Value).toArray } = H2 at hns₁ hold₁ hce₁ ⊢
  have hC : H2.objs.size = s.heap.objs.size + 1 := by rw [← hH2, Heap.size_push]
  have hDC : s.heap.objs.size ≠ H2.objs.size := by rw [hC]; exact Nat.ne_of_lt (Nat.lt_succ_self _)
  have hCle : s.heap.objs.size ≤ H2.objs.size := by rw [hC]; exact Nat.le_succ _
  have old : ∀ b o, s.heap.get? b = some o → h₁.get? b = some o := fun b o e => hold₁ b o (hH2 ▸ Heap.get?_push_of_some _ e)
  have hacc : h₁.get? s.heap.objs.size = some (lstO []) := hold₁ _ _ (hH2 ▸ Heap.get?_push_size _ rfl)
  have fpo : ∀ b ∈ fp, ∃ o, s.heap.get? b = some o := fun b hb => let ⟨o, e, _⟩ := T.obj _ _ st b hb; ⟨o, e⟩
  have fplt : ∀ b ∈ fp, b < s.heap.objs.size := fun b hb => let ⟨o, e⟩ := fpo b hb; Heap.lt_size e
  obtain ⟨W, ⟨m0, w0⟩, turn⟩ := L
  generalize hs5 : ({ s with heap := h₁, toks := s.toks } : Shared) = s5
  have I5 : Inv (cxCompC X scope N' y0 H2.objs.size s H fp) [(s.heap.objs.size, lstO [])] (capS js σ) H s5 := by
    subst hs5
    exact comp_startC (tk := s.toks) I S hf fpo hCle (Nat.le_refl _) hDC old hns₁ hce₁ hacc (fun v z => by cases z)
  have st5 : tn 0 s5.heap := by
    subst hs5
    exact T.keep _ _ _ st fun b hb o e => old b o e
  have stat : ∀ {H' : Hp} {its : List Value}, (∀ b ∈ fp, H' b = none) → ∀ b ∈ fp, FpOk (cxCompC X scope N' y0 H2.objs.size s H fp) [(s.heap.objs.size, lstO its)] H' b := fun {H' its} hn b hb => by
    obtain ⟨f0, f1, f2, f3, f4, f5⟩ := hf b hb
    have ok := comp_okC (C := H2.objs.size) I S hf fpo hCle
    refine ⟨hn b hb, (ok.exf b hb).1, ok.exfs b hb, .inl hb, (ok.exf b hb).2, fun p hp => ?_⟩
    have e : p = (s.heap.objs.size, lstO its) := List.mem_singleton.mp (show p ∈ [(s.heap.objs.size, lstO its)] from hp)
    rw [e]
    exact Nat.ne_of_gt (fplt b hb)
  have loop : codeAny (model X.prog X.w) X.A (.compLoop (.ListComp elt [⟨tg, iter, ifs, 0⟩] scope pos) 0 (.ref it) (.ref s.heap.objs.size) (compEnvC scope [(y0, H2.objs.size + 1)] H2.objs.size X.env)) (RR (.ref s.heap.objs.size) H2.objs.size) s5 := by
    refine compLoop_go (fun n s' => ∃ i H' ys its, Inv (cxCompC X scope N' y0 H2.objs.size s H fp) [(s.heap.objs.size, lstO its)] (capS js σ) H' s' ∧ Vals ys its ∧ ys.length ≤ sizeLine ∧ tn i s'.heap ∧ (∀ b ∈ fp, H' b = none) ∧ W i n ys H') ?_ m0
      ⟨0, H, [], [], I5, .nil, Nat.zero_le _, st5, fun b hb => (hf b hb).1, w0⟩
    rintro n s3 ⟨i, H3, ys, its, I3, rv, hz, st3, fr3, w3⟩
    rcases turn i n ys H3 w3 with ⟨stop, qn⟩ | ⟨go, hlt, N, hN, step⟩
    · refine thn (T.done (cxCompC X scope N' y0 H2.objs.size s H fp) rfl rfl rfl hcalm i _ s3 _ H3 _ I3 (stat fr3) st3 stop) fun r s4 ⟨hr, I4⟩ => ?_
      subst hr
      obtain ⟨oC, m, e1, e2, e3, e4, I6⟩ := comp_endC I hf hCle (Nat.le_refl _) I4 rv hz
      exact hRR _ _ oC m H3 ys s4 qn e3 hCle e1 e4 (Ne.symm hDC) I4.free I6
    · refine thn (T.item (cxCompC X scope N' y0 H2.objs.size s H fp) rfl rfl rfl hcalm i _ s3 _ H3 _ I3 (stat fr3) st3 go) fun r s4 ⟨u, hr, h4⟩ => ?_
      subst hr
      refine thn h4 fun _ s5' ⟨x, H5, I5', r5, y5, st5', fr5⟩ => ?_
      have I5'' := I5'.pinned (stat fr5) (T.obj _ _ st5')
      refine thn (hg _ _ _ _ _ s5' _ H5 x u _ I5'' r5 (step x H5 y5)) fun _ s6 ⟨σ6, H6, I6, sub6, q6⟩ => ?_
      refine thn (hc _ _ _ _ _ s6 σ6 H6 _ I6 q6) fun ok s7 ⟨H7, I7, q7⟩ => ?_
      have back : ∀ {σ7 : St} {H7 : Hp} {s7 : Shared}, Inv (cxCompC X scope N' y0 H2.objs.size s H fp) ([(s.heap.objs.size, lstO its)] ++ pinsAt fp s5'.heap) σ7 H7 s7 → σ7.length = (capS js σ).length ∧ tn (i + 1) s7.heap ∧ ∀ b ∈ fp, H7 b = none := fun {σ7 H7 s7} I7 =>
        ⟨by rw [I7.len, I3.len], T.keep _ _ _ st5' fun b hb o e => (I7.pin (b, o) (List.mem_append_right _ (List.mem_append_right _ (mem_pinsAt hb e)))).1, fun b hb => by
          obtain ⟨o, e, d⟩ := T.obj _ _ st5' b hb
          exact (I7.pin (b, o) (List.mem_append_right _ (List.mem_append_right _ (mem_pinsAt hb e)))).2.1⟩
      have down : ∀ {H7 : Hp} {s7 : Shared}, Inv (cxCompC X scope N' y0 H2.objs.size s H fp) ([(s.heap.objs.size, lstO its)] ++ pinsAt fp s5'.heap) σ6 H7 s7 →
          Inv (cxCompC X scope N' y0 H2.objs.size s H fp) [(s.heap.objs.size, lstO its)] (capS js σ) H7 s7 := fun {H7 s7} I7 => I7.unpinned.weak (back I7).1.symm sub6
      cases ok with
      | false =>
        rw [if_neg Bool.false_ne_true]
        rw [if_neg Bool.false_ne_true] at q7
        obtain ⟨m', hm, w7⟩ := hN _ _ q7
        obtain ⟨b1, b2, b3⟩ := back I7
        exact ⟨m', hm, i + 1, H7, ys, its, down I7, rv, hz, b2, b3, w7⟩
      | true =>
        rw [if_pos rfl]
        rw [if_pos rfl] at q7
        refine thn (he _ _ _ _ _ s7 σ6 H7 _ I7 q7) fun y s8 ⟨v8, H8, I8, r8, q8⟩ => ?_
        obtain ⟨m', hm, w8⟩ := hN _ _ q8
        obtain ⟨b1, b2, b3⟩ := back I8
        have I9 := down I8
        obtain ⟨gD, nD, neD, nfD, dD⟩ := I9.pin (s.heap.objs.size, lstO its) (List.mem_append_right _ (List.mem_singleton.mpr rfl))
        have hlen := rv.length
        refine append_at (hsz := by show its.toArray.size ≤ sizeLine; rw [List.size_toArray]; omega) gD fun h₉ hs₉ hD₉ => ?_
        have I10 : Inv (cxCompC X scope N' y0 H2.objs.size s H fp) [] (capS js σ) H8 { s8 with heap := h₉ } :=
          (I9.pins_of (pins' := []) fun p hp => nomatch hp).turned (t' := s8.toks) (fun b o hb e => hs₉.extBut b o hb e) nD neD (.inr (Nat.le_refl _)) (fun x c e z => by
            obtain ⟨v, o, ho, hd⟩ := I9.cell x c e
            have gD' : s8.heap.get? s.heap.objs.size = some (lstO its) := gD
            rw [z, gD'] at ho
            cases ho
            exact dD v hd) fun p hp => absurd (show p ∈ ([] : List (Addr × Obj)) from hp) (by simp)
        have eD : h₉.get? s.heap.objs.size = some (lstO (its ++ [y])) := by
          rw [hD₉]
          show some ({ cls := .type "list", data := .seq (its.toArray.push y) (its.length + 1) } : Obj) = some { cls := .type "list", data := .seq (its ++ [y]).toArray (its ++ [y]).length }
          rw [List.length_append, List.length_singleton, List.push_toArray]
        refine ⟨m', hm, i + 1, H8, ys ++ [v8], its ++ [y], I10.pins_of fun p hp => ?_, rv.append (.cons r8 .nil), by rw [List.length_append, List.length_singleton]; omega, T.keep _ _ _ b2 fun b hb o e => hs₉.extBut b o (Nat.ne_of_lt (fplt b hb)) e, b3, w8⟩
        have e := List.mem_singleton.mp hp
        subst e
        exact ⟨eD, nD, neD, nfD, fun v z => by cases z⟩
  have loop' : codeAny (model X.prog X.w) X.A (.compLoop (.ListComp elt [⟨tg, iter, ifs, 0⟩] scope pos) 0 (.ref it) (.ref s.heap.objs.size) { newEnv scope H2.objs.size X.env.globals [(y0, H2.objs.size + 1)] X.env.qual none .none (some X.env) builtinsNs with scope := relabel scope X.env }) (RR (.ref s.heap.objs.size) H2.objs.size) s5 := loop
  exact codeAny_compStart_list loop' (T.self X.A 0 s5 _ _ st5 loop')

/-- [elt for tg in iter if ..] -/
theorem pe_lcC (hcalm : X.calm = true) (S : CompScopeC scope y0 N' js) (hi : PI X tg iter wi)
    (hg : ∀ C s H ex, PG (cxCompC X scope N' y0 C s H ex) tg g) (hc : ∀ C s H ex, PIfs (cxCompC X scope N' y0 C s H ex) ifs tc) (he : ∀ C s H ex, PE (cxCompC X scope N' y0 C s H ex) elt te)
    (hs : ∀ x, foldedSetIterable iter X.env x = pure x := by intro _; rfl) : PE X (.ListComp elt [⟨tg, iter, ifs, 0⟩] scope pos) (tLC wi js g tc te) := by
  intro pins s σ H Q I h
  rw [eval_ListComp]
  refine wpAny_comprehension_free (use := none) rfl hs (closure_none S) S.kind S.names ?_
  refine thn (hi pins s σ H _ I h) fun xv s₁ h₁ => thn h₁ fun itv s₂ h₂ => ?_
  obtain ⟨it, fp, tn, J, H2, e, I2, T, st2, f2, L⟩ := h₂
  subst e
  refine comp_blockC (RR := fun acc C => compPost (model X.prog X.w) X.A X.xe none (EP X pins σ Q) acc C) hcalm S hg hc he I2 T st2 f2 L fun D C oC m H' ys s' fn hD hCle gC hNs hCD nC I' => ?_
  refine ⟨m, hNs _ gC, fun h'' hs'' => ?_⟩
  have I3 : Inv X pins σ (upd H' D (.lst ys)) s' := I'.unpinned
  obtain ⟨_, _, pL, pfs, _⟩ := I'.pin (C, oC) (List.mem_append_right _ (List.mem_append_right _ (List.mem_singleton.mpr rfl)))
  have I4 : Inv X pins σ (upd H' D (.lst ys)) { s' with heap := h'' } := I3.turned (t' := s'.toks) (it := C) (fun b o hb e => hs''.extBut b o hb e) (by rw [upd_ne hCD]; exact nC) pL (.inr (Nat.le_trans I2.sz hCle)) (fun x c e z => by
    obtain ⟨v, o, ho, hd⟩ := I2.cell x c e
    exact absurd (Nat.lt_of_lt_of_le (Heap.lt_size ho) (by rw [z]; exact hCle)) (Nat.lt_irrefl _)) fun p hp z => by
    have q := (I2.pin p hp).1
    exact absurd (Nat.lt_of_lt_of_le (Heap.lt_size q) (by rw [z]; exact hCle)) (Nat.lt_irrefl _)
  exact ⟨.ref D, _, I4, rfl, fn D hD⟩

end
end L2

set_option Elab.async false
set_option linter.all false
set_option maxRecDepth 100000
/-! min(list of int tuples), with no default; tuple <, tuple(list) by K's name -/
namespace L2
open PySem PySem.Spec PyProof.Rows
section
variable {prog : Program} {w : World} {A : Around} {E : Value → Shared → Prop} {s : Shared}
def RelT (n : Nat) : Heap → Value → List Int → Prop := fun h v ns => ∃ t items, v = .ref t ∧ t < n ∧ IsTup h t items ∧ IntsAre items.toList ns
theorem minT_ok {n : Nat} {I S : Addr} (hu : A.units < cLine) (hI : n ≤ I) (hS : n ≤ S) : MinOk prog w A HT.lexLt I S (RelT n) where
  keep := fun h h' v k ⟨t, items, e, lt, ⟨o, ho, r⟩, hi⟩ kk => ⟨t, items, e, lt, ⟨o, kk t o (Nat.ne_of_lt (Nat.lt_of_lt_of_le lt hI)) (Nat.ne_of_lt (Nat.lt_of_lt_of_le lt hS)) ho, r⟩, hi⟩
  cmp := fun s v1 v2 k1 k2 Q E ⟨t1, i1, e1, _, p1, j1⟩ ⟨t2, i2, e2, _, p2, j2⟩ h => by
    subst e1 e2
    exact HT.lt_tupInts p1 p2 j1 j2 hu (h s.toks)
theorem TupsAt.relT {h : Heap} {its : List Value} {nss : List (List Int)} (x : TupsAt h its nss) : Paired (RelT h.objs.size h) its nss :=
  Paired.mapP x fun v ns ⟨t, items, e, ⟨o, ho, r⟩, hi⟩ => ⟨t, items, e, Heap.lt_size ho, ⟨o, ho, r⟩, hi⟩
end
section
variable {X : Cx} {K : PySem.W.Frag}
def rMinT (K : PySem.W.Frag) : List V → Hp → VK → Prop := fun xs H Q => ∃ (l : Addr) (ts : List Addr) (nss : List (List Int)), xs = [.ref l] ∧ SqL K H l (ts.map V.ref) ∧ Paired (fun t ns => SqT K H t (ns.map V.int)) ts nss ∧ nss ≠ [] ∧ ∀ j t, leastIx nss = some j → ts[j]? = some t → Q (.ref t) H
theorem call_minT (hc : X.calm = true) (hu : X.A.units + 1 < cLine) : CallR X (.builtin "min") (rMinT X.K) := by
  intro pins s σ H xs us Q I r h
  obtain ⟨l, ts, nss, rfl, hq, hp, hne, q⟩ := h
  obtain ⟨u, rfl, eu⟩ := vals1 r
  obtain rfl : u = Value.ref l := eu
  obtain ⟨its, rv, pl, hz⟩ := I.list hq
  have TA := (I.tups hp rv).relT
  refine minK_run (Rel := RelT s.heap.objs.size) (dfl := none) (fun I S hI hS => minT_ok (by show X.A.in1.units < cLine; exact Nat.lt_of_le_of_lt (by first | exact Nat.le_refl _ | exact Nat.le_succ _) hu) hI hS) (I.ok.hd hc) pl.isList TA
    (fun h h' v k ⟨t, items, e, lt, ⟨o, ho, r⟩, hi⟩ kk => ⟨t, items, e, lt, ⟨o, kk t o ho, r⟩, hi⟩) rfl rfl ?_ (fun e => absurd e hne) fun j v h' tk ej ev k => ?_
  · simp only [checkBuiltinCall]
    rfl
  · rw [leastBy_lex] at ej
    obtain ⟨x, hx, rx⟩ := Vals.get' rv ev
    rw [List.getElem?_map] at hx
    cases et : ts[j]? with
    | none => rw [et] at hx; cases hx
    | some t =>
      rw [et] at hx
      cases hx
      exact ⟨.ref t, H, I.kept (t' := tk) k, rx, q j t ej et⟩
theorem call_tupleK (hK : X.K = K) : CallR X (.type "tuple") (fun xs H Q => ∃ p ys, xs = [.ref p] ∧ ((SqL K H p ys ∧ ∀ l, H l = none → Q (.ref l) (upd H l (.tup ys))) ∨ (SqT K H p ys ∧ Q (.ref p) H))) := hK ▸ call_tuple_of
theorem op_ltTK (hK : X.K = K) (hu : X.A.units < cLine) : OpR X (compareOp .Lt) (rLtT K) := hK ▸ op_ltT hu
theorem bt_min : bootBuiltins "min" = some (.builtin "min") := by decide +kernel
end
end L2

set_option Elab.async false
set_option linter.all false
set_option maxRecDepth 100000
/-! a comprehension over a tuple -/
namespace L2
open PySem PySem.Spec PyProof.Rows
section
variable {H1 : Hp} {σ0 : St} {g : TG} {tc : TT} {te : TE} {fin : List V → Hp → Prop}
theorem lc_tup {K : PySem.W.Frag} {a : Addr} {xs : List V} (Pv : Nat → List V → Hp → Prop) (h0 : Pv 0 [] H1) (hl : ∀ i ys H, Pv i ys H → SqT K H a xs) (hd : ∀ ys H, Pv xs.length ys H → fin ys H)
    (hs : ∀ i x ys H, xs[i]? = some x → Pv i ys H → ys.length < sizeLine ∧ g x σ0 H fun σ2 H2 => Sub σ0 σ2 ∧ tc σ2 H2 fun b H3 => if b = true then te σ2 H3 fun v H4 => Pv (i + 1) (ys ++ [v]) H4 else Pv (i + 1) ys H3) :
    LCr (Itt K a) H1 σ0 g tc te fin := by
  refine lc_of (n := xs.length) Pv h0 (fun ys H p => ⟨⟨xs, hl _ ys H p, Nat.le_refl _⟩, hd ys H p⟩) fun i ys H hi p => ?_
  have e : xs[i]? = some xs[i] := List.getElem?_eq_getElem hi
  obtain ⟨b, c⟩ := hs i _ ys H e p
  refine ⟨⟨xs, _, hl i ys H p, e⟩, b, fun x H' y => ?_⟩
  obtain ⟨z, y⟩ := y
  have q := y xs (hl i ys H p)
  rw [e] at q
  cases q
  subst z
  exact c
end
end L2

set_option Elab.async false
set_option linter.all false
set_option maxRecDepth 100000
/-! x in a list of data -/
namespace L2
open PySem PySem.Spec PyProof.Rows
/-- x in y, x not in y: y a list of data -/
def rInD (K : PySem.W.Frag) (neg : Bool) : R2 := fun x y H Q => ∃ d ds, Rep K H x d ∧ Rep K H y (.list ds) ∧ d.canLay0 = true ∧ PyData.canLayAll0 ds = true ∧ d.depth ≤ 60 ∧ Q (.bl (if neg then !(ds.any fun y => PyData.eqv y d) else ds.any fun y => PyData.eqv y d)) H
theorem op_inD {X : Cx} (hu : X.A.units + 64 < cLine) : OpR X (compareOp .In) (rInD X.K false) := by
  intro pins s σ H x y v u Q I rx ry h
  obtain ⟨d, ds, hd, he, c1, c2, dp, q⟩ := h
  obtain ⟨as, ra⟩ := I.reads hd rx
  obtain ⟨bs, rb⟩ := I.reads he ry
  exact SeqAt.in_list_reads rb ra c2 c1 (by omega) ⟨.bl _, H, I, rfl, q⟩
theorem op_notInD {X : Cx} (hu : X.A.units + 64 < cLine) : OpR X (compareOp .NotIn) (rInD X.K true) := by
  intro pins s σ H x y v u Q I rx ry h
  obtain ⟨d, ds, hd, he, c1, c2, dp, q⟩ := h
  obtain ⟨as, ra⟩ := I.reads hd rx
  obtain ⟨bs, rb⟩ := I.reads he ry
  exact SeqAt.notIn_list_reads rb ra c2 c1 (by omega) ⟨.bl _, H, I, rfl, q⟩
theorem op_inDK {X : Cx} {K : PySem.W.Frag} (hK : X.K = K) (hu : X.A.units + 64 < cLine) : OpR X (compareOp .In) (rInD K false) := hK ▸ op_inD hu
theorem op_notInDK {X : Cx} {K : PySem.W.Frag} (hK : X.K = K) (hu : X.A.units + 64 < cLine) : OpR X (compareOp .NotIn) (rInD K true) := hK ▸ op_notInD hu
end L2

set_option Elab.async false
set_option linter.all false
set_option maxRecDepth 100000
/-! list.index of flat items -/
namespace L2
open PySem PySem.Spec PyProof.Rows
section
variable {X : Cx}
def rIndex : V → List V → Hp → VK → Prop := fun x vs H Q => ∃ (l : Addr) (xs : List V) (y z : V) (j : Nat), x = .ref l ∧ vs = [y] ∧ H l = some (.lst xs) ∧ flatV y = true ∧ xs.all flatV = true ∧ xs[j]? = some z ∧ eqV z y = true ∧ (∀ m u, m < j → xs[m]? = some u → eqV u y = false) ∧ j < 1000 ∧ Q (.int j) H
theorem mt_index : MtM X "list.index" rIndex := by
  intro pins s σ H x vs v us Q I rx rv h
  obtain ⟨l, xs, y, z, j, rfl, rfl, hH, fy, fs, ej, eq, hno, hj, q⟩ := h
  cases rx
  obtain ⟨u, rfl, ru⟩ := rv.one
  obtain ⟨zz, its, n, r, hl, e⟩ := I.lstM hH
  have hlen := r.length
  have jl : j < its.toArray.size := by
    rw [List.size_toArray, ← hlen]
    exact (List.getElem?_eq_some_iff.mp ej).1
  have at_ : ∀ m (hm : m < its.toArray.size) (w : V), xs[m]? = some w → eqU y its.toArray[m] = eqV w y := fun m hm w ew => by
    have hm' : m < its.length := by simpa using hm
    obtain ⟨w', ew', rw'⟩ := Vals.get' r (List.getElem?_eq_getElem hm')
    rw [ew] at ew'
    cases ew'
    have fw : flatV w = true := List.all_eq_true.mp fs w (List.mem_of_getElem? ew)
    have := eqU_of (x := y) rw' fw
    simpa using this
  refine call_meets F.slot_list_index ⟨_, e, rfl⟩ F.entry_list_index (F.args_list_index_2 _ _) (SeqAt.list_indexAt l its.toArray n none #[] u (eqU y) j jl (by omega) ((at_ j jl z ej).trans eq) fun m hm hmj => ?_) ⟨e, fun w hw => mem_eqAt ru fy r fs w (by simpa using hw), ?_⟩
  · have hm' : m < xs.length := by rw [hlen]; simpa using hm
    rw [at_ m hm xs[m] (List.getElem?_eq_getElem hm')]
    exact hno m _ hmj (List.getElem?_eq_getElem hm')
  · exact ⟨.int j, H, I.tok _, ⟨_, rfl⟩, q⟩
end
end L2

set_option Elab.async false
set_option linter.all false
set_option maxRecDepth 100000
/-! str.join, str.find -/
namespace L2
open PySem PySem.Spec PyProof.Rows
theorem strsAre_is : ∀ {ys : List Str} {its : List Value}, Vals (ys.map V.str) its → StrsAre its ys
  | [], _, .nil => .nil
  | y :: r, _, .cons h t => by
    obtain ⟨u, rfl⟩ := h
    exact .cons y u (strsAre_is t)
section
variable {X : Cx} {K : PySem.W.Frag}
def rJoin (K : PySem.W.Frag) : V → List V → Hp → VK → Prop := fun x vs H Q => ∃ (sep : Str) (D : Addr) (ys : List Str), x = .str sep ∧ vs = [.ref D] ∧ SqL K H D (ys.map V.str) ∧ (ys.map (·.length)).sum + ys.length * sep.length ≤ 16777216 ∧ Q (.str (Txt.join sep ys)) H
theorem mt_join : MtR X "str.join" (rJoin X.K) := by
  intro pins s σ H x vs v us Q I rx rv h
  obtain ⟨sep, D, ys, rfl, rfl, hq, hz, q⟩ := h
  obtain ⟨t, rfl⟩ := rx
  obtain ⟨u, rfl, eu⟩ := vals1 rv
  obtain rfl : u = Value.ref D := eu
  obtain ⟨its, r, pl, _⟩ := I.list hq
  exact join_list pl.isList (by simpa using strsAre_is r) hz fun t' k => ⟨.str _, H, I.tok k, ⟨_, rfl⟩, q⟩
theorem mt_joinK (hK : X.K = K) : MtR X "str.join" (rJoin K) := hK ▸ mt_join
end
end L2

set_option Elab.async false
set_option linter.all false
set_option maxRecDepth 100000
/-! the table of a small set: how a key is sought in it -/
namespace TupSet
open PySem PySem.SetTable
def pth (b : Nat) : Nat → Nat × Nat
  | 0 => (b % 8, b)
  | n + 1 => (((pth b n).1 * 5 + 1 + (pth b n).2 / 32) % 8, (pth b n).2 / 32)
def pr (b n : Nat) : Probe := { j := (pth b n).1, more := 0, i := (pth b n).1, perturb := (pth b n).2, dummy := none }
theorem run7 (i : Nat) : runEnd 7 i - i = 0 := by
  unfold runEnd
  rw [if_neg (by omega)]
  exact Nat.sub_self i
theorem start_is {t : SetTable} (hm : t.mask = 7) (h : Int) : t.probeStart h = pr (bits h) 0 := by
  unfold probeStart pr
  rw [hm]
  dsimp only
  rw [run7]
  rfl
theorem adv_is {t : SetTable} (hm : t.mask = 7) (b n : Nat) : t.advance (pr b n) = pr b (n + 1) := by
  unfold advance
  rw [hm, if_neg (show ¬ (pr b n).more > 0 from Nat.lt_irrefl 0)]
  show ({ pr b n with j := ((pth b n).1 * 5 + 1 + (pth b n).2 / 32) % 8, more := runEnd 7 (((pth b n).1 * 5 + 1 + (pth b n).2 / 32) % 8) - ((pth b n).1 * 5 + 1 + (pth b n).2 / 32) % 8, i := ((pth b n).1 * 5 + 1 + (pth b n).2 / 32) % 8, perturb := (pth b n).2 / 32 } : Probe) = _
  rw [run7]
  rfl
theorem pth_lt (b : Nat) : ∀ n, (pth b n).1 < 8
  | 0 => Nat.mod_lt _ (by decide)
  | n + 1 => Nat.mod_lt _ (by decide)
theorem pth_per (b : Nat) : ∀ n, (pth b n).2 = b / 32 ^ n
  | 0 => by show b = b / 1; rw [Nat.div_one]
  | n + 1 => by
    show (pth b n).2 / 32 = _
    rw [pth_per b n, Nat.div_div_eq_div_mul, Nat.pow_succ]
theorem bits_lt (h : Int) : bits h < 2 ^ 64 := by unfold bits; omega
theorem cover {b : Nat} (hb : b < 2 ^ 64) (p q : Nat) : ∃ n, n ≤ 15 ∧ (pth b n).1 ≠ p ∧ (pth b n).1 ≠ q := by
  have z : (pth b 13).2 = 0 := by
    rw [pth_per]
    exact Nat.div_eq_of_lt (Nat.lt_of_lt_of_le hb (by decide))
  have e14 : (pth b 14).1 = ((pth b 13).1 * 5 + 1) % 8 := by
    show ((pth b 13).1 * 5 + 1 + (pth b 13).2 / 32) % 8 = _
    rw [z]
  have z14 : (pth b 14).2 = 0 := by
    show (pth b 13).2 / 32 = 0
    rw [z]
  have e15 : (pth b 15).1 = ((pth b 14).1 * 5 + 1) % 8 := by
    show ((pth b 14).1 * 5 + 1 + (pth b 14).2 / 32) % 8 = _
    rw [z14]
  have l := pth_lt b 13
  by_cases h1 : (pth b 13).1 ≠ p ∧ (pth b 13).1 ≠ q
  · exact ⟨13, by decide, h1⟩
  · by_cases h2 : (pth b 14).1 ≠ p ∧ (pth b 14).1 ≠ q
    · exact ⟨14, by decide, h2⟩
    · refine ⟨15, by decide, ?_⟩
      omega
/-! ### what stands in a slot -/
def sl (place : Array Nat) (j : Nat) : Option Nat := if place[below place j]? == some j then some (below place j) else none
def asSlot : Option Nat → Slot
  | none => .empty
  | some i => .live i
theorem slot_is {t : SetTable} (hd : t.dummies = #[]) (j : Nat) : t.slot j = asSlot (sl t.place j) := by
  unfold SetTable.slot sl
  rw [hd]
  dsimp only
  by_cases e : (t.place[below t.place j]? == some j) = true
  · rw [if_pos e, if_pos e]; rfl
  · rw [if_neg e, if_neg e]
    rfl
theorem below1 (p j : Nat) : below #[p] j = if p < j then 1 else 0 := by
  simp [below, below.go]
theorem below2 (p q j : Nat) : below #[p, q] j = if q < j then 2 else if p < j then 1 else 0 := by
  simp [below, below.go]
theorem sl0 (j : Nat) : sl #[] j = none := rfl
theorem sl1 (p j : Nat) : sl #[p] j = if j = p then some 0 else none := by
  unfold sl
  rw [below1]
  by_cases e : j = p
  · subst e; simp
  · by_cases l : p < j
    · simp [l, e]
    · simp [l, e, Ne.symm e]
theorem sl2 {p q : Nat} (h : p < q) (j : Nat) : sl #[p, q] j = if j = p then some 0 else if j = q then some 1 else none := by
  unfold sl
  rw [below2]
  by_cases e : j = p
  · subst e
    have l1 : ¬ q < j := by omega
    simp [l1]
  · by_cases e' : j = q
    · subst e'
      simp [e, h]
    · by_cases l : q < j
      · simp [l, e, e']
      · by_cases l' : p < j
        · simp [l, l', e, e', Ne.symm e']
        · simp [l, l', e, e', Ne.symm e]
/-! ### the way of a search -/
section
variable {K : Type} (place : Array Nat) (key : Nat → K) (k : K) (b : Nat)
inductive Trail : Nat → Nat → Option Nat → Prop
  | free {c n : Nat} : sl place (pth b n).1 = none → Trail c n (some (pth b n).1)
  | hit {c n i : Nat} : sl place (pth b n).1 = some i → key i = k → Trail c n none
  | miss {c n i : Nat} {r : Option Nat} : sl place (pth b n).1 = some i → key i ≠ k → Trail c (n + 1) r → Trail (c + 1) n r
variable {place key k b}
theorem trail_hit : ∀ (d n : Nat) {i : Nat}, sl place (pth b (n + d)).1 = some i → key i = k → (∀ m, n ≤ m → m < n + d → ∃ i', sl place (pth b m).1 = some i' ∧ key i' ≠ k) → Trail place key k b d n none
  | 0, n, i, h, e, _ => .hit h e
  | d + 1, n, i, h, e, q => by
    obtain ⟨i', h', ne⟩ := q n (Nat.le_refl _) (by omega)
    exact .miss h' ne (trail_hit d (n + 1) (by rw [show n + 1 + d = n + (d + 1) by omega]; exact h) e fun m a l => q m (by omega) (by omega))
theorem trail_free (hk : ∀ n i, sl place (pth b n).1 = some i → key i ≠ k) : ∀ (d n : Nat), sl place (pth b (n + d)).1 = none →
    ∃ n', n ≤ n' ∧ sl place (pth b n').1 = none ∧ (∀ m, n ≤ m → m < n' → sl place (pth b m).1 ≠ none) ∧ Trail place key k b d n (some (pth b n').1)
  | 0, n, h => ⟨n, Nat.le_refl _, h, fun m a l => absurd l (by omega), .free h⟩
  | d + 1, n, h => by
    cases e : sl place (pth b n).1 with
    | none => exact ⟨n, Nat.le_refl _, e, fun m a l => absurd l (by omega), .free e⟩
    | some i =>
      obtain ⟨n', a, z, q, r⟩ := trail_free hk d (n + 1) (by rw [show n + 1 + d = n + (d + 1) by omega]; exact h)
      refine ⟨n', by omega, z, fun m a' l => ?_, .miss e (hk n i e) r⟩
      by_cases em : m = n
      · subst em; rw [e]; exact fun x => nomatch x
      · exact q m (by omega) l
end
/-! ### the probe -/
section
variable {K : Type} {t : SetTable} {key : Nat → K} {k : K} {h : Int} {hashAt : Nat → Int}
theorem probe_go (hm : t.mask = 7) (hd : t.dummies = #[]) (hh : ∀ j i, sl t.place j = some i → key i = k → hashAt i = h) : ∀ (fuel c n : Nat) (r : Option Nat), Trail t.place key k (bits h) c n r → c < fuel →
    (∃ j, r = some j ∧ probe.go t hashAt h fuel (pr (bits h) n) = some (.empty j none)) ∨
    (∃ j i n', sl t.place j = some i ∧ probe.go t hashAt h fuel (pr (bits h) n) = some (.candidate j i (pr (bits h) n')) ∧ ((key i = k ∧ r = none) ∨ (key i ≠ k ∧ ∃ c', c' < c ∧ Trail t.place key k (bits h) c' n' r)))
  | 0, c, n, r, _, l => absurd l (by omega)
  | fuel + 1, c, n, r, T, l => by
    have ej : (pr (bits h) n).j = (pth (bits h) n).1 := rfl
    cases T with
    | free e =>
      refine .inl ⟨_, rfl, ?_⟩
      unfold probe.go
      rw [slot_is hd, ej, e]
      rfl
    | hit e ek =>
      refine .inr ⟨_, _, n + 1, e, ?_, .inl ⟨ek, rfl⟩⟩
      unfold probe.go
      rw [slot_is hd, ej, e]
      dsimp only [asSlot]
      rw [if_pos (by rw [hh _ _ e ek]; exact beq_self_eq_true h), adv_is hm]
    | @miss c' _ i _ e ek T' =>
      unfold probe.go
      rw [slot_is hd, ej, e]
      dsimp only [asSlot]
      by_cases eh : (hashAt i == h) = true
      · rw [if_pos eh, adv_is hm]
        exact .inr ⟨_, _, n + 1, e, rfl, .inr ⟨ek, c', by omega, T'⟩⟩
      · rw [if_neg eh, adv_is hm]
        rcases probe_go hm hd hh fuel c' (n + 1) r T' (by omega) with q | ⟨j, i', n', q1, q2, q3⟩
        · exact .inl q
        · refine .inr ⟨j, i', n', q1, q2, ?_⟩
          rcases q3 with q3 | ⟨q3, c'', l'', T''⟩
          · exact .inl q3
          · exact .inr ⟨q3, c'', by omega, T''⟩
end
end TupSet
namespace TupSet
open PySem PySem.SetTable
theorem Trail.more {K : Type} {place : Array Nat} {key : Nat → K} {k : K} {b c n : Nat} {r : Option Nat} (T : Trail place key k b c n r) : ∀ {d : Nat}, c ≤ d → Trail place key k b d n r := by
  induction T with
  | free e => intro d _; exact .free e
  | hit e q => intro d _; exact .hit e q
  | @miss c n i r e q _ ih =>
    intro d l
    obtain ⟨d', rfl⟩ : ∃ d', d = d' + 1 := ⟨d - 1, by omega⟩
    exact .miss e q (ih (by omega))
end TupSet

set_option Elab.async false
set_option linter.all false
set_option maxRecDepth 100000
/-! a set of tuples of bools, up to three of them -/
namespace TupSet
open PySem PySem.SetTable
section
variable {prog : Program} {w : World} {A : Around} {E : Value → Shared → Prop} {s : Shared}
def hashB (b : Bool) : Int := if b then 1 else 0
theorem pyHash_bool {b : Bool} {Q : Int → Shared → Prop} (h : Q (hashB b) { s with toks := s.toks + 1 }) : wpAny (model prog w) A (pyHash (.bool b)) Q E s := by
  have hT : s.TypeIs (.bool b) "bool" := rfl
  unfold pyHash
  first | unfold pyHashByItsType | skip
  have hv : [Value.bool b].any Value.onHeap = false := rfl
  refine wpAny_bind ?_
  rw [cRoomFor, if_neg (by rw [hv]; exact Bool.false_ne_true)]; refine wpAny_pure ?_
  refine wpAny_bind (wpAny_specialOf hT F.slot_bool_hash.lookup ?_)
  show wpAny _ _ (if (some (Value.builtin "int.__hash__") == some Value.none) = true then _ else _) Q E s
  rw [if_neg (by rw [beq_builtin_none]; exact Bool.false_ne_true)]
  refine wpAny_bind (wpAny_specialOf hT F.slot_bool_hash.lookup ?_)
  show wpAny _ _ (callSpecialIfBoundUnlessNone? (.bool b) "__hash__" _ >>= _) Q E s
  cases b
  · refine wpAny_bind (wpAny_callSpecialIfBoundUnlessNone?_slot hT F.slot_bool_hash
      (wpAny_call_entry F.slot_bool_hash hT F.entry_int_hash (show wpAny _ _ (do ret (← mkInt 0)) _ _ s from wpAny_ret_mkInt ?_) (F.args_int_hash_1 _)))
    exact wpAny_pure h
  · refine wpAny_bind (wpAny_callSpecialIfBoundUnlessNone?_slot hT F.slot_bool_hash
      (wpAny_call_entry F.slot_bool_hash hT F.entry_int_hash (show wpAny _ _ (do ret (← mkInt 1)) _ _ s from wpAny_ret_mkInt ?_) (F.args_int_hash_1 _)))
    exact wpAny_pure h
def isB (b : Bool) : Value → Bool
  | .bool c => b == c
  | _ => false
theorem isB_shape {b : Bool} {v : Value} (h : isB b v = true) : v = .bool b := by
  cases v with
  | bool c => rw [eq_of_beq (show (b == c) = true from h)]
  | _ => exact nomatch h
def boolKind (prog : Program) (w : World) : KeyKind prog w Bool where
  is := isB
  hash := hashB
  inj := fun v a b ha hb => by
    have e := (isB_shape ha).symm.trans (isB_shape hb)
    injection e
  byValue := fun k v h => by rw [isB_shape h]; rfl
  pyHash := fun hv h => by rw [isB_shape hv]; exact pyHash_bool h
  eqBool := fun {A E s a b u v Q} hu hv h => by
    rw [isB_shape hu, isB_shape hv]
    refine SeqAt.EqAt.bool_bool a b _ _ _ _ ?_
    rw [show (a == b) = decide (a = b) by cases a <;> cases b <;> rfl]
    exact h
  «strs» := fun k x t v h => nomatch h
/-- the key -/
abbrev TK (prog : Program) (w : World) : Heap → List Bool → Addr → Prop := IsTupleKey (boolKind prog w)
def hsh (ks : List Bool) : Int := reduceHash (Builtin.Tuple.tupleHashOf (ks.map hashB))
theorem TK.at {h h' : Heap} {ks : List Bool} {a : Addr} (x : TK prog w h ks a) (k : ∀ o, h.get? a = some o → h'.get? a = some o) : TK prog w h' ks a :=
  let ⟨o, items, n, ho, r⟩ := x
  ⟨o, items, n, k o ho, r⟩
theorem TK.get {h : Heap} {ks : List Bool} {a : Addr} (x : TK prog w h ks a) : ∃ o, h.get? a = some o := let ⟨o, _, _, ho, _⟩ := x; ⟨o, ho⟩
theorem TK.vals {ks : List Bool} {vs : List Value} (x : ItemsAre (boolKind prog w) ks vs) : ∀ v ∈ vs, ∃ b, v = .bool b := by
  induction x with
  | nil => intro v hv; simp at hv
  | @cons k v' ks vs h1 _ ih =>
    intro v hv
    rcases List.mem_cons.mp hv with rfl | hv
    · exact ⟨k, isB_shape h1⟩
    · exact ih v hv
theorem classSt_tup {ks : List Bool} {a : Addr} {Q : Bool → Shared → Prop} (hk : TK prog w s.heap ks a) (h : Q false s) : wpAny (model prog w) A (ofAClassStatement 8 (.ref a)) Q E s := by
  have hT := IsTupleKey.typeIs hk
  obtain ⟨o, items, n, ho, _, hd, hi⟩ := hk
  have hv := TK.vals hi
  unfold ofAClassStatement
  refine wpAny_bind (wpAny_typeOf hT ?_)
  dsimp only
  rw [if_pos (by decide)]
  refine wpAny_bind (wpAny_pure ?_)
  rw [if_neg (by decide)]
  refine wpAny_bind (wpAny_seqItems ho hd ?_)
  dsimp only
  refine wpAny_bind ?_
  rw [← Array.forIn_toList]
  refine wpAny_forIn_list _ (fun rest r s' => r.1 = none ∧ s' = s ∧ ∀ v ∈ rest, ∃ b, v = Value.bool b) _ ?_ ?_ _ _ ⟨rfl, rfl, hv⟩
  · rintro v rest r s' ⟨hr, rfl, hall⟩
    obtain ⟨b, rfl⟩ := hall v List.mem_cons_self
    refine wpAny_bind ?_
    unfold ofAClassStatement
    refine wpAny_pure ?_
    rw [if_neg (by decide)]
    exact wpAny_pure ⟨rfl, rfl, fun u hu' => hall u (List.mem_cons_of_mem _ hu')⟩
  · rintro ⟨r1, r2⟩ s' ⟨hr, rfl, _⟩
    simp only at hr
    subst hr
    exact wpAny_pure h
theorem seen_not {x : List Bool} {a : Addr} (hx : TK prog w s.heap x a) : ∀ (l : List Value), (∀ v ∈ l, ∃ y b, v = .ref b ∧ TK prog w s.heap y b) → ∀ {Q : Bool → Shared → Prop}, Q false s → wpAny (model prog w) A (searchCouldBeSeen (.ref a) l) Q E s := by
  intro l hl Q h
  unfold searchCouldBeSeen
  refine wpAny_bind ?_
  refine wpAny_forIn_list _ (fun rest r s' => r.1 = none ∧ s' = s ∧ ∀ v ∈ rest, ∃ y b, v = .ref b ∧ TK prog w s.heap y b) _ ?_ ?_ _ _ ⟨rfl, rfl, hl⟩
  · rintro v rest r s' ⟨hr, rfl, hall⟩
    obtain ⟨y, b, rfl, hy⟩ := hall v List.mem_cons_self
    have fin : ∀ v ∈ rest, ∃ y b, v = .ref b ∧ TK prog w s'.heap y b := fun u hu' => hall u (List.mem_cons_of_mem _ hu')
    dsimp only
    split
    · exact wpAny_pure ⟨rfl, rfl, fin⟩
    · refine wpAny_bind (wpAny_eqIsQuiet_tuple hx ?_)
      rw [if_neg (by decide)]
      refine wpAny_bind (wpAny_eqIsQuiet_tuple hy ?_)
      rw [if_neg (by decide)]
      refine wpAny_bind (classSt_tup hx ?_)
      rw [if_neg (by decide)]
      refine wpAny_bind (classSt_tup hy ?_)
      rw [if_neg (by decide)]
      exact wpAny_pure ⟨rfl, rfl, fin⟩
  · rintro ⟨r1, r2⟩ s' ⟨hr, rfl, _⟩
    simp only at hr
    subst hr
    exact wpAny_pure h
/-- the search, along its trail -/
theorem search_trail {S : Addr} {o : Obj} {es : Array (Int × Value)} {ep : Nat} {t : SetTable} {x : List Bool} {a : Addr} {key : Nat → List Bool} (hu : A.units < cLine)
    (ho : s.heap.get? S = some o) (hd : o.data = .set es ep t) (hf : t.fits es.size = true) (hm : t.mask = 7) (hdm : t.dummies = #[])
    (hx : TK prog w s.heap x a) (hes : ∀ j i, sl t.place j = some i → ∃ b, es[i]? = some (hsh (key i), .ref b) ∧ TK prog w s.heap (key i) b)
    (hal : ∀ e ∈ es.toList, ∃ y b, e.2 = .ref b ∧ TK prog w s.heap y b) :
    ∀ (fuel c n : Nat) (r : Option Nat) (st : Option Probe) {Q : SetFound → Shared → Prop}, Trail t.place key x (bits (hsh x)) c n r → c < fuel → c < 100 → st.getD (t.probeStart (hsh x)) = pr (bits (hsh x)) n →
      (match r with | none => Q (.there none) s | some j => Q (.free j false) s) → wpAny (model prog w) A (setSearchFrom S (.ref a) (hsh x) true fuel st) Q E s
  | 0, c, n, r, st, Q, T, l, _, _, _ => absurd l (by omega)
  | fuel + 1, c, n, r, st, Q, T, l, l9, est, h => by
    have go := probe_go (t := t) (key := key) (k := x) (h := hsh x) (hashAt := fun i => (es[i]?.map (·.1)).getD 0) hm hdm (fun j i q e => by
      obtain ⟨b, eb, _⟩ := hes j i q
      show ((es[i]?).map (·.1)).getD 0 = _
      rw [eb, e]; rfl) (10 * turns t.mask) c n r T (by rw [hm]; exact Nat.lt_of_lt_of_le l9 (by decide))
    unfold setSearchFrom
    refine wpAny_bind (wpAny_setState_of ho hd hf ?_)
    dsimp only
    rw [if_neg (by unfold SetTable.gaveWay; rw [hm]; decide), est]
    rcases go with ⟨j, rfl, e⟩ | ⟨j, i, n', q1, e, q3⟩
    · have e' : t.probe (fun i => (es[i]?.map (·.1)).getD 0) (hsh x) (pr (bits (hsh x)) n) = some (.empty j none) := e
      change wpAny _ _ (match t.probe (fun i => (es[i]?.map (·.1)).getD 0) (hsh x) (pr (bits (hsh x)) n) with | some met => _ | _ => _) _ _ _
      rw [e']
      exact wpAny_pure h
    · have e' : t.probe (fun i => (es[i]?.map (·.1)).getD 0) (hsh x) (pr (bits (hsh x)) n) = some (.candidate j i (pr (bits (hsh x)) n')) := e
      change wpAny _ _ (match t.probe (fun i => (es[i]?.map (·.1)).getD 0) (hsh x) (pr (bits (hsh x)) n) with | some met => _ | _ => _) _ _ _
      rw [e']
      obtain ⟨b, eb, hb⟩ := hes j i q1
      dsimp only
      have tail : ∀ Q' : Bool → Shared → Prop, Q' false s → wpAny (model prog w) A (searchCouldBeSeen (.ref a) ((es.filter (·.1 == hsh x)).toList.map (·.2))) Q' E s := fun Q' q => seen_not hx _ (fun v hv => by
        obtain ⟨e, he, rfl⟩ := List.mem_map.mp hv
        exact hal e (by
          have := (Array.mem_toList_iff.mp he)
          exact Array.mem_toList_iff.mpr (Array.mem_filter.mp this).1)) q
      have sm : t.sameMemory t.moves t.mask = some true := by unfold SetTable.sameMemory; rw [if_pos (beq_self_eq_true _)]
      rw [eb]
      cases hl : t.led
      · simp only [Bool.not_false, if_true]
        refine wpAny_bind (tail _ ?_)
        rw [if_neg Bool.false_ne_true]
        refine wpAny_bind (wpAny_holding (wpAny_eqBool_tuple hu hb hx (wpAny_bind (wpAny_setState_of ho hd hf ?_))))
        dsimp only
        rcases q3 with ⟨ek, rfl⟩ | ⟨ek, c', lc, T'⟩
        · rw [decide_eq_true ek]; exact wpAny_pure h
        · rw [decide_eq_false ek, if_neg (by decide), sm]
          dsimp only
          rw [if_pos rfl, slot_is hdm, q1]
          dsimp only [asSlot]
          rw [eb]
          refine wpAny_bind (wpAny_isSame_ref_self (wpAny_bind (wpAny_pure ?_)))
          exact search_trail hu ho hd hf hm hdm hx hes hal fuel c' n' r (some (pr (bits (hsh x)) n')) T' (by omega) (by omega) rfl h
      · simp only [Bool.not_true, Bool.false_eq_true, if_false]
        refine wpAny_bind (wpAny_holding (wpAny_eqBool_tuple hu hb hx (wpAny_bind (wpAny_setState_of ho hd hf ?_))))
        dsimp only
        rcases q3 with ⟨ek, rfl⟩ | ⟨ek, c', lc, T'⟩
        · rw [decide_eq_true ek]; exact wpAny_pure h
        · rw [decide_eq_false ek, if_neg (by decide), sm]
          dsimp only
          rw [if_pos rfl, slot_is hdm, q1]
          dsimp only [asSlot]
          rw [eb]
          refine wpAny_bind (wpAny_isSame_ref_self (wpAny_bind (wpAny_pure ?_)))
          exact search_trail hu ho hd hf hm hdm hx hes hal fuel c' n' r (some (pr (bits (hsh x)) n')) T' (by omega) (by omega) rfl h
end
end TupSet

set_option Elab.async false
set_option linter.all false
set_option maxRecDepth 100000
namespace TupSet
open PySem PySem.SetTable
def Snd (x : List Bool) (q p : Nat) : Prop := ∃ n, (pth (bits (hsh x)) n).1 = q ∧ ∀ m, m < n → (pth (bits (hsh x)) m).1 = p
def Lay (prog : Program) (w : World) (h0 : Heap) : List (List Bool) → Array (Int × Value) → Array Nat → Prop
  | [], es, pl => es = #[] ∧ pl = #[]
  | [x], es, pl => ∃ a p, TK prog w h0 x a ∧ (pth (bits (hsh x)) 0).1 = p ∧ es = #[(hsh x, .ref a)] ∧ pl = #[p]
  | [x, y], es, pl => ∃ a b p q, TK prog w h0 x a ∧ TK prog w h0 y b ∧ (pth (bits (hsh x)) 0).1 = p ∧ Snd y q p ∧
      ((p < q ∧ es = #[(hsh x, .ref a), (hsh y, .ref b)] ∧ pl = #[p, q]) ∨ (q < p ∧ es = #[(hsh y, .ref b), (hsh x, .ref a)] ∧ pl = #[q, p]))
  | _, _, _ => True
def TS (prog : Program) (w : World) (h0 h : Heap) (S : Addr) (ks : List (List Bool)) : Prop :=
  ∃ o es ep t, h.get? S = some o ∧ o.ExactSet ∧ o.data = .set es ep t ∧ t.mask = 7 ∧ t.dummies = #[] ∧ es.size = ks.length ∧ t.place.size = ks.length ∧ Lay prog w h0 ks es t.place
def ins (ks : List (List Bool)) (x : List Bool) : List (List Bool) := if x ∈ ks then ks else ks ++ [x]
theorem ins_old {ks : List (List Bool)} {x : List Bool} (h : x ∈ ks) : ins ks x = ks := if_pos h
theorem ins_new {ks : List (List Bool)} {x : List Bool} (h : x ∉ ks) : ins ks x = ks ++ [x] := if_neg h
section
variable {x : List Bool}
theorem res1 {k1 : List Bool} {p : Nat} (h1 : (pth (bits (hsh k1)) 0).1 = p) :
    (x = k1 ∧ Trail #[p] (fun _ => k1) x (bits (hsh x)) 0 0 none) ∨
    (x ≠ k1 ∧ ∃ n, (pth (bits (hsh x)) n).1 ≠ p ∧ (∀ m, m < n → (pth (bits (hsh x)) m).1 = p) ∧ Trail #[p] (fun _ => k1) x (bits (hsh x)) 15 0 (some (pth (bits (hsh x)) n).1)) := by
  by_cases e : x = k1
  · subst e
    exact .inl ⟨rfl, .hit (i := 0) (by rw [sl1, if_pos h1]) rfl⟩
  · refine .inr ⟨e, ?_⟩
    obtain ⟨n, hn, q, _⟩ := cover (bits_lt (hsh x)) p p
    have z : sl #[p] (pth (bits (hsh x)) (0 + n)).1 = none := by rw [sl1, Nat.zero_add, if_neg q]
    obtain ⟨n', _, z', before, T⟩ := trail_free (place := #[p]) (key := fun _ => k1) (k := x) (b := bits (hsh x)) (fun _ _ _ => Ne.symm e) n 0 z
    have z2 : (pth (bits (hsh x)) n').1 ≠ p := fun q => by rw [sl1, if_pos q] at z'; cases z'
    refine ⟨n', z2, fun m l => ?_, T.more hn⟩
    have := before m (Nat.zero_le _) l
    rw [sl1] at this
    by_cases q : (pth (bits (hsh x)) m).1 = p
    · exact q
    · rw [if_neg q] at this; exact absurd rfl this
theorem res2 {place : Array Nat} {key : Nat → List Bool} {k1 k2 : List Bool} {p q : Nat} (h1 : (pth (bits (hsh k1)) 0).1 = p) (h2 : Snd k2 q p) (ne : k1 ≠ k2)
    (hp : ∃ i, sl place p = some i ∧ key i = k1) (hq : ∃ i, sl place q = some i ∧ key i = k2) (hn : ∀ j, j ≠ p → j ≠ q → sl place j = none) :
    ((x = k1 ∨ x = k2) ∧ Trail place key x (bits (hsh x)) 15 0 none) ∨ (x ≠ k1 ∧ x ≠ k2 ∧ ∃ n, (pth (bits (hsh x)) n).1 ≠ p ∧ (pth (bits (hsh x)) n).1 ≠ q ∧ Trail place key x (bits (hsh x)) 15 0 (some (pth (bits (hsh x)) n).1)) := by
  obtain ⟨ip, sp, kp⟩ := hp
  obtain ⟨iq, sq, kq⟩ := hq
  by_cases e1 : x = k1
  · subst e1
    exact .inl ⟨.inl rfl, .hit (i := ip) (by rw [h1]; exact sp) kp⟩
  by_cases e2 : x = k2
  · subst e2
    obtain ⟨n, en, hb⟩ := h2
    obtain ⟨n0, hn0, q0, _⟩ := cover (bits_lt (hsh x)) p p
    have l : n ≤ 15 := by
      by_cases g : n ≤ n0
      · omega
      · exact absurd (hb n0 (by omega)) q0
    refine .inl ⟨.inr rfl, (trail_hit n 0 (i := iq) (by rw [Nat.zero_add, en]; exact sq) kq fun m _ lm => ⟨ip, ?_, ?_⟩).more l⟩
    · rw [hb m (by omega)]; exact sp
    · rw [kp]; exact ne
  · obtain ⟨n, hn', q1, q2⟩ := cover (bits_lt (hsh x)) p q
    have hk : ∀ n i, sl place (pth (bits (hsh x)) n).1 = some i → key i ≠ x := fun n i e => by
      by_cases ep : (pth (bits (hsh x)) n).1 = p
      · rw [ep, sp] at e; cases e; rw [kp]; exact Ne.symm e1
      · by_cases eq : (pth (bits (hsh x)) n).1 = q
        · rw [eq, sq] at e; cases e; rw [kq]; exact Ne.symm e2
        · rw [hn _ ep eq] at e; cases e
    obtain ⟨n', _, z', _, T⟩ := trail_free hk n 0 (by rw [Nat.zero_add]; exact hn _ q1 q2)
    refine .inr ⟨e1, e2, n', fun z => ?_, fun z => ?_, T.more hn'⟩
    · rw [z, sp] at z'; cases z'
    · rw [z, sq] at z'; cases z'
end
theorem ins0 {α : Type} (x : α) : insertAt (#[] : Array α) 0 x = #[x] := by simp [insertAt]
theorem ins10 {α : Type} (a x : α) : insertAt #[a] 0 x = #[x, a] := by simp [insertAt]
theorem ins11 {α : Type} (a x : α) : insertAt #[a] 1 x = #[a, x] := by simp [insertAt]
theorem insN {α : Type} (xs : Array α) (p : Nat) (x : α) (h : p ≤ xs.size) : (insertAt xs p x).size = xs.size + 1 := by
  simp [insertAt]; omega
section
variable {prog : Program} {w : World} {A : Around} {E : Value → Shared → Prop} {s : Shared} {h0 : Heap}
theorem byValue_tup {x : List Bool} {a : Addr} {Q : Bool → Shared → Prop} (hk : TK prog w s.heap x a) (h : Q true s) : wpAny (model prog w) A (hashByValue 8 (.ref a)) Q E s := by
  have hT := IsTupleKey.typeIs hk
  obtain ⟨o, items, n, ho, _, hd, hi⟩ := hk
  have hv := TK.vals hi
  unfold hashByValue
  refine wpAny_bind (wpAny_specialOf hT F.slot_tuple_hash.lookup ?_)
  dsimp only
  refine wpAny_bind (wpAny_seqItems ho hd ?_)
  refine wpAny_bind ?_
  show wpAny _ _ (forIn items _ _) _ _ s
  rw [← Array.forIn_toList]
  refine wpAny_forIn_list _ (fun rest r s' => r.1 = none ∧ s' = s ∧ ∀ v ∈ rest, ∃ b, v = Value.bool b) _ ?_ ?_ _ _ ⟨rfl, rfl, hv⟩
  · rintro v rest r s' ⟨hr, rfl, hall⟩
    obtain ⟨b, rfl⟩ := hall v List.mem_cons_self
    refine wpAny_bind ?_
    unfold hashByValue
    refine wpAny_pure ?_
    rw [if_neg (by decide)]
    exact wpAny_pure ⟨rfl, rfl, fun u hu' => hall u (List.mem_cons_of_mem _ hu')⟩
  · rintro ⟨r1, r2⟩ s' ⟨hr, rfl, _⟩
    simp only at hr
    subst hr
    exact wpAny_pure h
theorem fits_of {t : SetTable} {n : Nat} (hm : t.mask = 7) (hd : t.dummies = #[]) (hp : t.place.size = n) (h : n ≤ 3) : t.fits n = true := by
  unfold SetTable.fits SetTable.fill
  rw [hm, hd, hp]
  simp
  omega
/-- the key is new: it is laid in the free slot -/
theorem lay_new {S : Addr} {o : Obj} {es : Array (Int × Value)} {ep : Nat} {t : SetTable} {x : List Bool} {a : Addr} {j : Nat} {ks : List (List Bool)} {Q : Bool → Shared → Prop}
    (ho : s.heap.get? S = some o) (hex : o.ExactSet) (hd : o.data = .set es ep t) (hm : t.mask = 7) (hdm : t.dummies = #[]) (hz : es.size = ks.length) (hp : t.place.size = ks.length) (h2 : ks.length ≤ 2)
    (hx : TK prog w s.heap x a) (hj : below t.place j ≤ ks.length) (hlay : Lay prog w h0 (ks ++ [x]) (insertAt es (below t.place j) (hsh x, .ref a)) (insertAt t.place (below t.place j) j))
    (h : ∀ h', Heap.SameBut S s.heap h' → TS prog w h0 h' S (ks ++ [x]) → Q true { s with heap := h' }) :
    wpAny (model prog w) A (do
      let (es, _, t) ← setState S
      let (t, p) := t.put j
      let byValue ← if t.plain then hashByValue 8 (.ref a) else pure true
      let t := if byValue then t else { t with plain := false }
      storeSet S (SetTable.insertAt es p (hsh x, .ref a)) t
      if !false && t.tooFull then setRelay S (SetTable.grown (es.size + 1))
      return true) Q E s := by
  have hf : t.fits es.size = true := fits_of hm hdm (by rw [hz]; exact hp) (by omega)
  have sz1 : (insertAt es (below t.place j) (hsh x, Value.ref a)).size = ks.length + 1 := by rw [insN _ _ _ (by omega), hz]
  have sz2 : (insertAt t.place (below t.place j) j).size = ks.length + 1 := by rw [insN _ _ _ (by omega), hp]
  refine wpAny_bind (wpAny_setState_of ho hd hf ?_)
  dsimp only [SetTable.put]
  have ed : (if has t.dummies j then eraseAt t.dummies (below t.dummies j) else t.dummies) = #[] := by rw [hdm]; rfl
  rw [ed]
  have fin : wpAny (model prog w) A (do
      storeSet S (insertAt es (below t.place j) (hsh x, Value.ref a)) { t with place := insertAt t.place (below t.place j) j, dummies := #[] }
      if (!false && ({ t with place := insertAt t.place (below t.place j) j, dummies := #[] } : SetTable).tooFull) = true then do
          setRelay S (grown (es.size + 1))
          pure true
        else pure true) Q E s := by
    refine wpAny_bind (wpAny_storeSet_of ho hd ?_ (by rw [sz1, sizeLine_eq]; omega))
    have hg : (s.heap.update S (Obj.putSet (insertAt es (below t.place j) (hsh x, Value.ref a)) { t with place := insertAt t.place (below t.place j) j, dummies := #[] })).get? S
        = some { o with data := .set (insertAt es (below t.place j) (hsh x, Value.ref a)) (ep + 1) { t with place := insertAt t.place (below t.place j) j, dummies := #[] } } := by
      have := Heap.get?_update_self (Obj.putSet (insertAt es (below t.place j) (hsh x, Value.ref a)) { t with place := insertAt t.place (below t.place j) j, dummies := #[] }) ho (by rw [putSet_of _ _ hd]; rfl)
      rw [putSet_of _ _ hd] at this; exact this
    have tf : ({ t with place := insertAt t.place (below t.place j) j, dummies := #[] } : SetTable).tooFull = false := by
      unfold SetTable.tooFull SetTable.fill
      dsimp only
      rw [sz2, hm]
      simp
      omega
    rw [tf]
    refine wpAny_pure (h _ (Heap.SameBut.update _ _ _) ⟨_, _, _, _, hg, hex, rfl, hm, rfl, ?_, ?_, hlay⟩)
    · rw [sz1, List.length_append]; rfl
    · show (insertAt t.place (below t.place j) j).size = _
      rw [sz2, List.length_append]; rfl
  split
  · refine wpAny_bind (byValue_tup hx ?_)
    rw [if_pos rfl]
    exact fin
  · refine wpAny_bind (wpAny_pure ?_)
    rw [if_pos rfl]
    exact fin
end
end TupSet

set_option Elab.async false
set_option linter.all false
set_option maxRecDepth 100000
namespace TupSet
open PySem PySem.SetTable
section
variable {prog : Program} {w : World} {A : Around} {E : Value → Shared → Prop} {s : Shared} {h0 : Heap}
theorem TK.up {h : Heap} {x : List Bool} {a : Addr} (hx : TK prog w h0 x a) (hk : ∀ b o, h0.get? b = some o → h.get? b = some o) : TK prog w h x a := hx.at fun o e => hk a o e
/-- one key is put in, by its trail -/
theorem add_by {S : Addr} {o : Obj} {es : Array (Int × Value)} {ep : Nat} {t : SetTable} {x : List Bool} {a : Addr} {ks : List (List Bool)} {key : Nat → List Bool} {r : Option Nat} {c : Nat} {Q : Bool → Shared → Prop} (hu : A.units < cLine)
    (hk : ∀ b o, h0.get? b = some o → s.heap.get? b = some o)
    (ho : s.heap.get? S = some o) (hex : o.ExactSet) (hd : o.data = .set es ep t) (hm : t.mask = 7) (hdm : t.dummies = #[]) (hz : es.size = ks.length) (hp : t.place.size = ks.length) (h2 : ks.length ≤ 2)
    (hx : TK prog w h0 x a) (hes : ∀ j i, sl t.place j = some i → ∃ b, es[i]? = some (hsh (key i), .ref b) ∧ TK prog w h0 (key i) b) (hal : ∀ e ∈ es.toList, ∃ y b, e.2 = .ref b ∧ TK prog w h0 y b)
    (Tr : Trail t.place key x (bits (hsh x)) c 0 r) (lc : c < 100)
    (hold : r = none → Q false s)
    (hnew : ∀ j, r = some j → below t.place j ≤ ks.length ∧ Lay prog w h0 (ks ++ [x]) (insertAt es (below t.place j) (hsh x, .ref a)) (insertAt t.place (below t.place j) j))
    (h : r ≠ none → ∀ h', Heap.SameBut S s.heap h' → TS prog w h0 h' S (ks ++ [x]) → Q true { s with heap := h' }) :
    wpAny (model prog w) A (setAddHashed S (.ref a) (hsh x)) Q E s := by
  have hf : t.fits es.size = true := fits_of hm hdm (by rw [hz]; exact hp) (by omega)
  unfold setAddHashed setAddHashedIn
  refine wpAny_holding (wpAny_bind (wpAny_setState_of ho hd hf ?_))
  dsimp only
  rw [if_neg (by simp [byScan, Value.scannable])]
  unfold setSearch
  refine wpAny_bind (search_trail hu ho hd hf hm hdm (hx.up hk) (fun j i q => by
    obtain ⟨b, e1, e2⟩ := hes j i q
    exact ⟨b, e1, e2.up hk⟩) (fun e he => by
    obtain ⟨y, b, e1, e2⟩ := hal e he
    exact ⟨y, b, e1, e2.up hk⟩) 100000 c 0 r none Tr (by omega) lc (by rw [Option.getD_none, start_is hm]) ?_)
  cases r with
  | none => exact wpAny_pure (hold rfl)
  | some j =>
    obtain ⟨l, ly⟩ := hnew j rfl
    exact lay_new ho hex hd hm hdm hz hp h2 (hx.up hk) l ly fun h' sb T' => h (fun z => nomatch z) h' sb T'
theorem TS.len {h : Heap} {S : Addr} {ks : List (List Bool)} (T : TS prog w h0 h S ks) : ∃ o es ep t, h.get? S = some o ∧ o.ExactSet ∧ o.data = .set es ep t ∧ t.mask = 7 ∧ t.dummies = #[] ∧ es.size = ks.length ∧ t.place.size = ks.length :=
  let ⟨o, es, ep, t, a, b, c, d, e, f, g, _⟩ := T
  ⟨o, es, ep, t, a, b, c, d, e, f, g⟩
theorem TS.at {h h' : Heap} {S : Addr} {ks : List (List Bool)} (T : TS prog w h0 h S ks) (k : ∀ o, h.get? S = some o → h'.get? S = some o) : TS prog w h0 h' S ks :=
  let ⟨o, es, ep, t, a, r⟩ := T
  ⟨o, es, ep, t, k o a, r⟩
theorem add_T {S : Addr} {ks : List (List Bool)} {x : List Bool} {a : Addr} {Q : Bool → Shared → Prop} (hu : A.units < cLine) (hk : ∀ b o, h0.get? b = some o → s.heap.get? b = some o) (T : TS prog w h0 s.heap S ks) (nd : ks.Nodup) (h2 : ks.length ≤ 2)
    (hx : TK prog w h0 x a) (h : ∀ b h', Heap.SameBut S s.heap h' → TS prog w h0 h' S (ins ks x) → Q b { s with heap := h' }) : wpAny (model prog w) A (setAddHashed S (.ref a) (hsh x)) Q E s := by
  have same : ∀ b, TS prog w h0 s.heap S (ins ks x) → Q b s := fun b z => h b s.heap (Heap.SameBut.refl S s.heap) z
  obtain ⟨o, es, ep, t, ho, hex, hd, hm, hdm, hz, hp, ly⟩ := id T
  match ks, nd, h2, T, hz, hp, ly with
  | [], _, _, T, hz, hp, ⟨e1, e2⟩ =>
    refine add_by (ks := []) (key := fun _ => x) (c := 0) (r := some (pth (bits (hsh x)) 0).1) hu hk ho hex hd hm hdm hz hp (by simp) hx (fun j i q => by rw [e2, sl0] at q; cases q) (fun e he => by rw [e1] at he; cases he) (by rw [e2]; exact .free (sl0 _)) (by decide)
      (fun z => nomatch z) (fun j ej => ?_) (fun _ h' sb T' => h true h' sb (by rw [ins_new (by simp)]; exact T'))
    cases ej
    rw [e1, e2]
    exact ⟨Nat.le_refl 0, a, _, hx, rfl, ins0 _, ins0 _⟩
  | [k1], _, _, T, hz, hp, ⟨a1, p, t1, hp1, e1, e2⟩ =>
    have hes : ∀ j i, sl t.place j = some i → ∃ b, es[i]? = some (hsh ((fun _ => k1 : Nat → List Bool) i), .ref b) ∧ TK prog w h0 k1 b := fun j i q => by
      rw [e2, sl1] at q
      by_cases z : j = p
      · rw [if_pos z] at q; cases q
        exact ⟨a1, by rw [e1]; rfl, t1⟩
      · rw [if_neg z] at q; cases q
    have hal : ∀ e ∈ es.toList, ∃ y b, e.2 = Value.ref b ∧ TK prog w h0 y b := fun e he => by
      rw [e1] at he
      rw [List.mem_singleton.mp he]
      exact ⟨k1, a1, rfl, t1⟩
    rcases res1 (x := x) hp1 with ⟨e, Tr⟩ | ⟨e, n, q1, q2, Tr⟩
    · exact add_by (ks := [k1]) (key := fun _ => k1) (c := 0) (r := none) hu hk ho hex hd hm hdm hz hp (by simp) hx hes hal (by rw [e2]; exact Tr) (by decide) (fun _ => same false (by rw [ins_old (by simp [e])]; exact T)) (fun j z => nomatch z) (fun z => absurd rfl z)
    · refine add_by (ks := [k1]) (key := fun _ => k1) (c := 15) (r := some (pth (bits (hsh x)) n).1) hu hk ho hex hd hm hdm hz hp (by simp) hx hes hal (by rw [e2]; exact Tr) (by decide) (fun z => nomatch z) (fun j ej => ?_) (fun _ h' sb T' => h true h' sb (by rw [ins_new (by simpa using e)]; exact T'))
      cases ej
      rw [e1, e2, below1]
      by_cases l : p < (pth (bits (hsh x)) n).1
      · rw [if_pos l]
        exact ⟨Nat.le_refl 1, a1, a, p, _, t1, hx, hp1, ⟨n, rfl, q2⟩, .inl ⟨l, ins11 _ _, ins11 _ _⟩⟩
      · rw [if_neg l]
        exact ⟨Nat.zero_le _, a1, a, p, _, t1, hx, hp1, ⟨n, rfl, q2⟩, .inr ⟨by omega, ins10 _ _, ins10 _ _⟩⟩
  | [k1, k2], nd, _, T, hz, hp, ⟨a1, b1, p, q, t1, t2, hp1, hs2, hc⟩ =>
    have ne : k1 ≠ k2 := by simpa using nd
    have big : ∀ j, below t.place j ≤ 2 := fun j => by
      rcases hc with ⟨_, _, e2⟩ | ⟨_, _, e2⟩ <;> (rw [e2, below2]; by_cases z1 : q < j <;> by_cases z2 : p < j <;> simp [z1, z2])
    have hal : ∀ e ∈ es.toList, ∃ y b, e.2 = Value.ref b ∧ TK prog w h0 y b := fun e he => by
      rcases hc with ⟨_, e1, _⟩ | ⟨_, e1, _⟩
      all_goals
        rw [e1] at he
        rcases List.mem_cons.mp he with z | z
        · rw [z]; first | exact ⟨_, _, rfl, t1⟩ | exact ⟨_, _, rfl, t2⟩
        · rw [List.mem_singleton.mp z]; first | exact ⟨_, _, rfl, t2⟩ | exact ⟨_, _, rfl, t1⟩
    have fin : ∀ (key : Nat → List Bool), (∀ j i, sl t.place j = some i → ∃ b, es[i]? = some (hsh (key i), .ref b) ∧ TK prog w h0 (key i) b) → (∃ i, sl t.place p = some i ∧ key i = k1) → (∃ i, sl t.place q = some i ∧ key i = k2) → (∀ j, j ≠ p → j ≠ q → sl t.place j = none) →
        wpAny (model prog w) A (setAddHashed S (.ref a) (hsh x)) Q E s := fun key hes hkp hkq hn => by
      rcases res2 (x := x) hp1 hs2 ne hkp hkq hn with ⟨e, Tr⟩ | ⟨n1, n2, n, _, _, Tr⟩
      · exact add_by (ks := [k1, k2]) (key := key) (c := 15) (r := none) hu hk ho hex hd hm hdm hz hp (by simp) hx hes hal Tr (by decide) (fun _ => same false (by rw [ins_old (by rcases e with e | e <;> simp [e])]; exact T)) (fun j z => nomatch z) (fun z => absurd rfl z)
      · exact add_by (ks := [k1, k2]) (key := key) (c := 15) (r := some (pth (bits (hsh x)) n).1) hu hk ho hex hd hm hdm hz hp (by simp) hx hes hal Tr (by decide) (fun z => nomatch z) (fun j _ => ⟨big j, True.intro⟩) (fun _ h' sb T' => h true h' sb (by rw [ins_new (by simp [n1, n2])]; exact T'))
    rcases hc with ⟨l, e1, e2⟩ | ⟨l, e1, e2⟩
    · refine fin (fun i => if i = 0 then k1 else k2) (fun j i z => ?_) ⟨0, by rw [e2, sl2 l, if_pos rfl], rfl⟩ ⟨1, by rw [e2, sl2 l, if_neg (by omega), if_pos rfl], rfl⟩ fun j n1 n2 => by rw [e2, sl2 l, if_neg n1, if_neg n2]
      rw [e2, sl2 l] at z
      split at z
      · cases z; exact ⟨a1, by rw [e1]; rfl, t1⟩
      · split at z
        · cases z; exact ⟨b1, by rw [e1]; rfl, t2⟩
        · cases z
    · refine fin (fun i => if i = 0 then k2 else k1) (fun j i z => ?_) ⟨1, by rw [e2, sl2 l, if_neg (by omega), if_pos rfl], rfl⟩ ⟨0, by rw [e2, sl2 l, if_pos rfl], rfl⟩ fun j n1 n2 => by rw [e2, sl2 l, if_neg n2, if_neg n1]
      rw [e2, sl2 l] at z
      split at z
      · cases z; exact ⟨b1, by rw [e1]; rfl, t2⟩
      · split at z
        · cases z; exact ⟨a1, by rw [e1]; rfl, t1⟩
        · cases z
  | _ :: _ :: _ :: _, _, h2, _, _, _, _ => exact absurd h2 (by simp)
end
end TupSet

set_option Elab.async false
set_option linter.all false
set_option maxRecDepth 100000
/-! set(a list of up to three tuples of bools) -/
namespace TupSet
open PySem PySem.Spec PyProof.Rows PySem.SetTable
def dd (rows : List (List Bool)) : List (List Bool) := rows.foldl ins []
theorem dd_snoc (rows : List (List Bool)) (x : List Bool) : dd (rows ++ [x]) = ins (dd rows) x := by unfold dd; rw [List.foldl_append]; rfl
theorem ins_nodup {ks : List (List Bool)} {x : List Bool} (h : ks.Nodup) : (ins ks x).Nodup := by
  unfold ins
  split
  · exact h
  · rename_i n
    rw [List.nodup_append]
    exact ⟨h, by simp, fun a ha b hb => by rw [List.mem_singleton.mp hb]; exact fun z => n (z ▸ ha)⟩
theorem ins_len (ks : List (List Bool)) (x : List Bool) : (ins ks x).length ≤ ks.length + 1 := by
  unfold ins
  split
  · omega
  · rw [List.length_append, List.length_singleton]; omega
theorem fold_nodup : ∀ (rows ks : List (List Bool)), ks.Nodup → (rows.foldl ins ks).Nodup
  | [], _, h => h
  | x :: r, ks, h => fold_nodup r _ (ins_nodup h)
theorem dd_nodup (rows : List (List Bool)) : (dd rows).Nodup := fold_nodup rows [] .nil
theorem fold_len : ∀ (rows ks : List (List Bool)), (rows.foldl ins ks).length ≤ ks.length + rows.length
  | [], ks => Nat.le_refl _
  | x :: r, ks => by
    have := fold_len r (ins ks x)
    have := ins_len ks x
    rw [List.foldl_cons, List.length_cons]; omega
theorem dd_len (rows : List (List Bool)) : (dd rows).length ≤ rows.length := by
  have := fold_len rows []
  rw [List.length_nil, Nat.zero_add] at this
  exact this
theorem fold_full : ∀ (rows ks : List (List Bool)), (rows.foldl ins ks).length = ks.length + rows.length ↔ rows.Nodup ∧ ∀ x ∈ rows, x ∉ ks
  | [], ks => by simp
  | x :: r, ks => by
    rw [List.foldl_cons, List.length_cons]
    by_cases h : x ∈ ks
    · rw [ins_old h]
      have := fold_len r ks
      constructor
      · intro e; omega
      · intro ⟨_, q⟩; exact absurd h (q x List.mem_cons_self)
    · rw [ins_new h, show ks.length + (r.length + 1) = (ks ++ [x]).length + r.length by rw [List.length_append, List.length_singleton]; omega, fold_full r (ks ++ [x]), List.nodup_cons]
      constructor
      · rintro ⟨a, b⟩
        refine ⟨⟨fun z => ?_, a⟩, fun y hy => ?_⟩
        · exact b x z (by simp)
        · rcases List.mem_cons.mp hy with e | hy
          · subst e; exact h
          · exact fun z => b y hy (by simp [z])
      · rintro ⟨⟨a, b⟩, c⟩
        refine ⟨b, fun y hy z => ?_⟩
        rcases List.mem_append.mp z with z | z
        · exact c y (List.mem_cons_of_mem _ hy) z
        · rw [List.mem_singleton.mp z] at hy; exact a hy
theorem dd_full (rows : List (List Bool)) : (dd rows).length = rows.length ↔ rows.Nodup := by
  have := fold_full rows []
  rw [List.length_nil, Nat.zero_add] at this
  unfold dd
  rw [this]
  simp
section
variable {prog : Program} {w : World} {A : Around} {R : Result → Shared → Prop} {I : Addr} {fp wr : List Addr} {G : Array GenState → Array GenState → Prop} {n : Nat} {P : Nat → Value → Prop} {St : Nat → Shared → Prop}
theorem loop_T (W : WalksS prog w A.in1 I fp wr G n P St) (S : Addr) (hSf : S ∉ fp) (h0 : Heap) (rows : List (List Bool)) (hn : rows.length = n) (h3 : n ≤ 3) (hu : A.in1.units < cLine) (hfr : ∀ b ∈ S :: wr, h0.get? b = none)
    (hval : ∀ i v, P i v → ∃ b x, v = .ref b ∧ rows[i]? = some x ∧ TK prog w h0 x b) :
    ∀ (k i : Nat) (s : Shared), n - i = k → i ≤ n → St i s → (∀ b o, h0.get? b = some o → s.heap.get? b = some o) → TS prog w h0 s.heap S (dd (rows.take i)) →
      (∀ s', Moved (S :: wr) G s s' → TS prog w h0 s'.heap S (dd rows) → R (.ok (.ret .none)) s') →
      codeAny (model prog w) A (.builtin "set.update.loop" ⟨[.ref S, .ref I], []⟩) R s := by
  have hSw : S ∉ wr := fun h => hSf (W.sub _ h)
  have hsub : ∀ b ∈ wr, b ∈ S :: wr := fun b hb => List.mem_cons_of_mem _ hb
  intro k
  induction k with
  | zero =>
    intro i s hk hi hst hkp hS hR
    have hin : i = n := by omega
    subst hin
    refine codeAny_builtin F.entry_set_update_loop ?_
    rw [Around.under_plainId F.plain_set_update_loop _]
    show wpAny _ A.in1 (pyNext (.ref I) >>= _) _ _ s
    refine wpAny_bind (W.done s _ _ hst fun s' hm => ?_)
    show wpAny _ A.in1 (ret Value.none) _ _ s'
    rw [List.take_of_length_le (by omega)] at hS
    exact wpAny_pure (hR s' (hm.mono hsub) (hS.at fun o e => hm.heap S o hSw e))
  | succ k ih =>
    intro i s hk hi hst hkp hS hR
    have hlt : i < n := by omega
    refine codeAny_builtin F.entry_set_update_loop ?_
    rw [Around.under_plainId F.plain_set_update_loop _]
    show wpAny _ A.in1 (pyNext (.ref I) >>= _) _ _ s
    refine wpAny_bind (W.item i s _ _ hlt hst fun v s' hP hst' hm => ?_)
    obtain ⟨b, x, rfl, ex, tk⟩ := hval i v hP
    have hS' := hS.at (h' := s'.heap) fun o e => hm.heap S o hSw e
    have hkp' : ∀ b o, h0.get? b = some o → s'.heap.get? b = some o := fun c o e => hm.heap c o (fun z => by rw [hfr c (hsub c z)] at e; cases e) (hkp c o e)
    show wpAny _ A.in1 (holding [Value.ref b] (setAdd S (.ref b)) >>= _) _ _ s'
    refine wpAny_bind (wpAny_holding ?_)
    unfold setAdd
    refine wpAny_holding ?_
    refine wpAny_bind (wpAny_pyHash_tuple (knd := boolKind prog w) hu (tk.up hkp') ?_)
    have dl := dd_len (rows.take i)
    rw [List.length_take] at dl
    refine add_T (s := { s' with toks := s'.toks + (x.length + 1) }) hu hkp' hS' (dd_nodup _) (by omega) tk fun bb h' hsb hS2 => ?_
    have hS3 : TS prog w h0 h' S (dd (rows.take (i + 1))) := by
      rw [List.take_add_one, ex]
      show TS prog w h0 h' S (dd (rows.take i ++ [x]))
      rw [dd_snoc]; exact hS2
    have hkp2 : ∀ c o, h0.get? c = some o → h'.get? c = some o := fun c o e => by
      rw [hsb.2 c (fun z => by rw [z, hfr S List.mem_cons_self] at e; cases e)]
      exact hkp' c o e
    have htk : s'.toks ≤ s'.toks + (x.length + 1) := Nat.le_add_right _ _
    refine wpAny_pure ⟨plainId_quiet F.plain_set_update_loop _, ih (i + 1) _ (by omega) hlt (W.frame _ s' _ _ hst' htk fun b hb o e => ?_) hkp2 hS3 fun s'' hm'' hS'' => ?_⟩
    · rw [hsb.2 b (fun h : b = S => hSf (by rw [← h]; exact hb))]; exact e
    · refine hR s'' (Moved.trans W.gtrans ((hm.mono hsub).then_heap htk fun b o hb e => ?_) hm'') hS''
      rw [hsb.2 b (fun h : b = S => hb (by rw [h]; exact List.mem_cons_self))]; exact e
end
section
variable {prog : Program} {w : World} {A : Around} {E : Value → Shared → Prop} {s : Shared}
set_option maxRecDepth 100000 in
set_option maxHeartbeats 3200000 in
theorem call_setT {l : Addr} {items : Array Value} {rows : List (List Bool)} {Q : Value → Shared → Prop}
    (hh : A.handled = none) (hu : A.units + 8 < cLine) (hl : s.heap.IsList l items) (hn : rows.length = items.size) (h3 : items.size ≤ 3) (hi : ∀ (i : Nat) (v : Value), items[i]? = some v → ∃ b x, v = .ref b ∧ rows[i]? = some x ∧ TK prog w s.heap x b)
    (h : ∀ (h' : Heap) (tk : Nat), TS prog w s.heap h' s.heap.objs.size (dd rows) → (∀ b o, b < s.heap.objs.size → s.heap.get? b = some o → h'.get? b = some o) → Q (.ref s.heap.objs.size) { s with heap := h', toks := tk }) :
    wpAny (model prog w) A (call (.type "set") [.ref l]) Q E s := by
  obtain ⟨c, tl, hmro⟩ := F.called_set.mro
  have hmade := F.called_set.made
  have hsub := F.called_set.sub
  refine wpAny_call (codeAny_of_tree ?_)
  show wpAny _ _ (callAny (.type "set") _) _ _ _
  refine wpAny_pure ⟨Code.quiet_builtin _ (by decide +kernel), codeAny_builtin F.entry_type_call ?_⟩
  rw [Around.under_plain (weight_type_call_type "set" [.ref l] []) rfl]
  have h1 := F.called_set.notType
  have h2 := F.called_set.canCreate
  have hct := F.typeCall_set_1 (.ref l)
  repeat (any_goals (first | assumption | wp_step))
  refine codeAny_mono (code_set_new_1 (.ref l) (E := E) (Q₁ := fun obj s₁ => ∃ led : Bool, obj = .ref s.heap.objs.size ∧ s₁ = { s with heap := s.heap.push { cls := .type "set", dict := none, data := .set #[] 0 (.fresh 0 0 led) } }) fun led => ⟨led, rfl, rfl⟩) fun r s₁ hr => ?_
  cases r with
  | error e => exact hr
  | ok fl =>
    cases fl with
    | ret obj =>
      obtain ⟨led, rfl, rfl⟩ := hr
      have hS : (s.heap.push { cls := .type "set", dict := none, data := .set #[] 0 (.fresh 0 0 led) }).get? s.heap.objs.size = some { cls := .type "set", dict := none, data := .set #[] 0 (.fresh 0 0 led) } := Heap.get?_push_size _ rfl
      have hT : Shared.TypeIs { s with heap := s.heap.push { cls := .type "set", dict := none, data := .set #[] 0 (.fresh 0 0 led) } } (.ref s.heap.objs.size) "set" := ⟨_, hS, rfl⟩
      have hli := F.called_set.init.lookup
      have hbi := F.called_set.init.bind (.ref s.heap.objs.size)
      repeat (any_goals (first | assumption | wp_step))
      refine codeAny_mono (codeAny_call_builtin (R := wants (fun r s₂ => r = .none ∧ ∃ h' tk, s₂ = { s with heap := h', toks := tk } ∧
          TS prog w s.heap h' s.heap.objs.size (dd rows) ∧ (∀ b o, b < s.heap.objs.size → s.heap.get? b = some o → h'.get? b = some o)) E) F.called_set.init.plain F.entry_set_init (check_set_init_1 hT ?_)) fun r₂ s₂ hr₂ => ?_
      · obtain ⟨ol, hol, hcl, nl, hdl⟩ := hl
        obtain ⟨ocls, odict, odata, oslots⟩ := ol
        simp only at hcl hdl
        subst hcl; subst hdl
        have hol' : (s.heap.push { cls := .type "set", dict := none, data := .set #[] 0 (.fresh 0 0 led) }).get? l = some { cls := .type "list", dict := odict, data := .seq items nl, slots := oslots } := Heap.get?_push_of_some _ hol
        have hsls := F.sub_list_set
        have hslf := F.sub_list_frozenset
        have hne : (Value.type "list" == Value.type "dict") = false := by decide
        have hl1 : (s.heap.push { cls := .type "set", dict := none, data := .set #[] 0 (.fresh 0 0 led) }).IsList l items := ⟨_, hol', rfl, nl, rfl⟩
        unfold Builtin.«set.__init__» noKeywords Builtin.Frozenset.updateFrom
        generalize hPI : pyIter = PI
        wp_walk
        subst hPI
        refine wpAny_pyIter_list hl1 ?_
        refine wpAny_bind (wpAny_runValue ?_)
        have hlS : l < s.heap.objs.size := Heap.lt_size hol
        have hh3 : A.in1.in1.in1.handled = none := by simp [hh]
        have hneI : l ≠ (s.heap.push { cls := .type "set", dict := none, data := .set #[] 0 (.fresh 0 0 led) }).objs.size := by
          rw [Heap.size_push]; exact Nat.ne_of_lt (Nat.lt_succ_of_lt hlS)
        have hSf : s.heap.objs.size ∉ [(s.heap.push { cls := .type "set", dict := none, data := .set #[] 0 (.fresh 0 0 led) }).objs.size, l] := by
          rw [Heap.size_push]; simp only [List.mem_cons, List.mem_singleton, List.not_mem_nil, or_false, not_or]
          exact ⟨Nat.ne_of_lt (Nat.lt_succ_self _), Nat.ne_of_gt hlS⟩
        have none_ge : ∀ b, s.heap.objs.size ≤ b → s.heap.get? b = none := fun b hb => by
          cases q : s.heap.get? b with
          | none => rfl
          | some o => exact absurd (Heap.lt_size q) (Nat.not_lt.mpr hb)
        refine loop_T ((Walks.list hh3 _ l hneI items).toS) s.heap.objs.size hSf s.heap rows hn h3 (by show A.units + 1 + 1 + 1 < cLine; omega) (fun b hb => ?_) (fun i v hv => hi i v hv) (items.size - 0) 0 _ (by omega) (Nat.zero_le _)
          ⟨⟨_, Heap.get?_push_size _ rfl, rfl, rfl⟩, (hl1.push _)⟩ (fun b o e => Heap.get?_push_of_some _ (Heap.get?_push_of_some _ e)) ?hS0 ?hR
        case hS0 =>
          have hget : ((s.heap.push { cls := .type "set", dict := none, data := .set #[] 0 (.fresh 0 0 led) }).push { cls := .type "list_iterator", data := .fields #[.ref l, .int 0 0] }).get? s.heap.objs.size
              = some { cls := .type "set", dict := none, data := .set #[] 0 (.fresh 0 0 led) } := Heap.get?_push_of_some _ hS
          exact ⟨_, _, _, _, hget, ⟨rfl, rfl, rfl⟩, rfl, rfl, rfl, rfl, rfl, rfl, rfl⟩
        case hR =>
          intro s' hm hS'
          obtain ⟨h', g', d', tk', os'⟩ := s'
          have eg : g' = s.gens := hm.gens
          have ed : d' = s.drawn := hm.drawn
          have eo : os' = s.os := hm.os
          subst eg; subst ed; subst eo
          show wpAny _ _ _ _ _ _
          refine wpAny_pure ?_
          show wpAny _ _ (ret Value.none) _ _ _
          refine wpAny_pure ⟨rfl, h', tk', rfl, hS', fun b o hb e => ?_⟩
          have hb1 : b ≠ s.heap.objs.size := Nat.ne_of_lt hb
          have hb2 : b ≠ (s.heap.push { cls := .type "set", dict := none, data := .set #[] 0 (.fresh 0 0 led) }).objs.size := by
            rw [Heap.size_push]; exact Nat.ne_of_lt (Nat.lt_succ_of_lt hb)
          exact hm.heap b o (by simp only [List.mem_cons, List.mem_singleton, List.not_mem_nil, or_false, not_or]; exact ⟨hb1, hb2⟩) (Heap.get?_push_of_some _ (Heap.get?_push_of_some _ e))
        rw [Heap.size_push] at hb
        rcases List.mem_cons.mp hb with z | z
        · exact none_ge b (by rw [z]; exact Nat.le_refl _)
        · have z' := List.mem_singleton.mp z
          exact none_ge b (by rw [z']; exact Nat.le_succ _)
      · cases r₂ with
        | error e => exact hr₂
        | ok fl₂ =>
          cases fl₂ with
          | ret r =>
            obtain ⟨rfl, h', tk, rfl, hS', hk'⟩ := hr₂
            repeat (any_goals (first | assumption | wp_step))
            exact h _ _ hS' hk'
          | _ => exact hr₂.elim
    | _ => exact hr.elim
end
end TupSet

set_option Elab.async false
set_option linter.all false
set_option maxRecDepth 100000
/-! set(a list of up to three tuples of bools), len of it -/
namespace L2
open PySem PySem.Spec PyProof.Rows
/-- a set of n things -/
def SetN (a : Addr) (n : Nat) : HO := .ext fun h => ∃ o es ep t, h.get? a = some o ∧ o.ExactSet ∧ o.data = .set es ep t ∧ t.fits es.size = true ∧ es.size = n
theorem items_bl {P : Program} {w : World} : ∀ {bs : List Bool} {its : List Value}, Vals (bs.map V.bl) its → ItemsAre (TupSet.boolKind P w) bs its
  | [], _, .nil => .nil
  | b :: r, _, .cons h t => by
    obtain rfl : _ = Value.bool b := h
    exact .cons (show (b == b) = true from beq_self_eq_true b) (items_bl t)
section
variable {X : Cx} {K : PySem.W.Frag} {pins : List (Addr × Obj)} {σ : St} {H : Hp} {s : Shared}
theorem Inv.tk (I : Inv X pins σ H s) {t : Addr} {bs : List Bool} (h : SqT X.K H t (bs.map V.bl)) : TupSet.TK X.prog X.w s.heap bs t := by
  obtain ⟨its, r, ⟨o, ho, hc, n, hd⟩, hz⟩ := I.tuple h
  exact ⟨o, its.toArray, n, ho, hc, hd, by simpa using items_bl r⟩
def rSetT (K : PySem.W.Frag) : List V → Hp → VK → Prop := fun xs H Q => ∃ (l : Addr) (ts : List Addr) (rows : List (List Bool)), xs = [.ref l] ∧ SqL K H l (ts.map V.ref) ∧ Paired (fun t r => SqT K H t (r.map V.bl)) ts rows ∧ rows.length ≤ 3 ∧ ∀ p, H p = none → Q (.ref p) (upd H p (SetN p (TupSet.dd rows).length))
theorem Paired.at1 {α β : Type} {F : α → β → Prop} : ∀ {l₁ : List α} {l₂ : List β} {i : Nat} {a : α}, Paired F l₁ l₂ → l₁[i]? = some a → ∃ b, l₂[i]? = some b ∧ F a b
  | _, _, _, _, .nil, e => by simp at e
  | _, _, 0, _, .cons h _, e => by simp at e; subst e; exact ⟨_, rfl, h⟩
  | _, _, i + 1, a, .cons _ q, e => by
    obtain ⟨t, h1, h2⟩ := Paired.at1 (i := i) (a := a) q (by simpa using e)
    exact ⟨t, by simpa using h1, h2⟩
theorem call_setT (hc : X.calm = true) (hu : X.A.units + 64 < cLine) : CallR X (.type "set") (rSetT X.K) := by
  intro pins s σ H xs us Q I r h
  obtain ⟨l, ts, rows, rfl, hq, hp, h3, q⟩ := h
  obtain ⟨u, rfl, eu⟩ := vals1 r
  obtain rfl : u = Value.ref l := eu
  obtain ⟨its, rv, pl, hz⟩ := I.list hq
  have e1 := rv.length
  have e2 := Paired.length hp
  rw [List.length_map] at e1
  refine TupSet.call_setT (rows := rows) (I.ok.hd hc) (by omega) pl.isList (by rw [List.size_toArray]; omega) (by rw [List.size_toArray]; omega) (fun i v hv => ?_) fun h' tk T k => ?_
  · have hv' : its[i]? = some v := by simpa using hv
    obtain ⟨x, hx, rx⟩ := Vals.get' rv hv'
    rw [List.getElem?_map] at hx
    cases et : ts[i]? with
    | none => rw [et] at hx; cases hx
    | some t =>
      rw [et] at hx
      cases hx
      obtain ⟨x, ex, hx⟩ := Paired.at1 hp et
      exact ⟨t, x, rx, ex, I.tk hx⟩
  · obtain ⟨o, es, ep, t, a1, a2, a3, a4, a5, a6, a7⟩ := T.len
    have dl := TupSet.dd_len rows
    refine ⟨.ref s.heap.objs.size, _, I.laid (t' := tk) (fun b o e => k b o (Heap.lt_size e) e) (Nat.le_refl _) (o := SetN s.heap.objs.size (TupSet.dd rows).length)
      ⟨⟨o, es, ep, t, a1, a2, a3, TupSet.fits_of a4 a5 (by rw [a6]; exact a7) (by omega), a6⟩, ⟨o, a1⟩, fun h1 h2 ⟨o, es, ep, t, b1, b2⟩ kk => ⟨o, es, ep, t, kk o b1, b2⟩⟩, rfl, q _ (I.hok.fresh (Nat.le_refl _))⟩
theorem call_setTK (hK : X.K = K) (hc : X.calm = true) (hu : X.A.units + 64 < cLine) : CallR X (.type "set") (rSetT K) := hK ▸ call_setT hc hu
theorem call_lenS : CallR X (.builtin "len") (fun xs H Q => ∃ p n, xs = [.ref p] ∧ H p = some (SetN p n) ∧ n ≤ 1000 ∧ Q (.int n) H) := by
  intro pins s σ H xs us Q I r h
  obtain ⟨p, n, rfl, hq, hn, q⟩ := h
  obtain ⟨u, rfl, eu⟩ := vals1 r
  obtain rfl : u = Value.ref p := eu
  obtain ⟨⟨o, es, ep, t, a1, a2, a3, a4, a5⟩, _⟩ := I.hok p _ hq
  refine call_len_set a1 a2 a3 a4 (by rw [a5]; omega) ⟨.int n, H, I.tok _, ⟨_, by rw [a5]⟩, q⟩
theorem bt_set : bootBuiltins "set" = some (.type "set") := by decide +kernel
end
end L2

set_option Elab.async false
set_option linter.all false
set_option maxRecDepth 100000
/-! signs of a text; tables of texts by texts; str.split -/
namespace L2
open PySem PySem.Spec PyProof.Rows
def sg (c : Nat) : V := .str ⟨#[c]⟩
def Its (x : Str) : It := ⟨fun i _ => i < x.cps.toList.length, fun i H v H' => H' = H ∧ ∃ c, x.cps.toList[i]? = some c ∧ v = sg c, fun i _ => x.cps.toList.length ≤ i⟩
theorem iterType_in (x : Str) : (["enumerate", "zip", "dict_itemiterator", "dict_reverseitemiterator", "odict_iterator", "itertools.zip_longest", "itertools.pairwise"].contains (strIterType x)) = false := by
  unfold strIterType
  split <;> decide
theorem turn_str {P : Program} {w : World} {K : PySem.W.Frag} {tg : Expr} (x : Str) (t : Tok) (it : Addr) : Turn P w K tg (Its x) [it] it (fun i h => h.IsStrIter it (strIterType x) x t i) where
  mem := by simp
  obj := fun i h st b hb => by
    have e : b = it := by simpa using hb
    subst e
    obtain ⟨o, e, c, d⟩ := st
    exact ⟨o, e, fun v z => by rw [d] at z; cases z⟩
  keep := fun i h h' ⟨o, e, r⟩ k => ⟨o, k it (by simp) o e, r⟩
  item := by
    intro X hP hw hK hc i pins s σ H E I hf st hg
    subst hP hw hK
    obtain ⟨f0, f1, f2, f3, f4, f5⟩ := hf it (by simp)
    have hg' : i < x.cps.toList.length := hg
    have ec : x.cps.toList[i]? = some x.cps.toList[i] := List.getElem?_eq_getElem hg'
    have ec' : x.cps[i]? = some x.cps.toList[i] := by rw [← ec, Array.getElem?_toList]
    have fin : ∀ h', h'.IsStrIter it (strIterType x) x t (i + 1) → Heap.SameBut it s.heap h' → ∃ u, some (Value.str ⟨#[x.cps.toList[i]]⟩ s.toks) = some u ∧
        wpAny (model X.prog X.w) X.A (letOwnedTupleGo tg (.ref it) u) (fun _ s2 => ∃ v H', Inv X pins σ H' s2 ∧ RelV v u ∧ (Its x).yld i H v H' ∧ s2.heap.IsStrIter it (strIterType x) x t (i + 1) ∧ ∀ b ∈ [it], H' b = none) E { s with heap := h', toks := s.toks + 1 } := fun h' st' sb => by
      have I1 : Inv X pins σ H { s with heap := h', toks := s.toks + 1 } := I.turned (fun b o hb e => (sb.2 b hb).trans e) f0 f1 f3 f4 f5
      obtain ⟨o, e, c, d⟩ := id st'
      exact ⟨_, rfl, go_of (s := { s with heap := h', toks := s.toks + 1 }) e c d (iterType_in x) ⟨sg x.cps.toList[i], H, I1, ⟨_, rfl⟩, ⟨rfl, _, ec, rfl⟩, st', fun b hb => (hf b hb).1⟩⟩
    cases ha : x.cps.all (· < 128)
    · have et : strIterType x = "str_iterator" := by simp [strIterType, ha]
      rw [et] at st fin ⊢
      exact wpAny_pyNext_wide_item st ec' fun h' st' sb => fin h' st' sb
    · have et : strIterType x = "str_ascii_iterator" := by simp [strIterType, ha]
      rw [et] at st fin ⊢
      exact wpAny_pyNext_ascii_item st ec' fun h' st' sb => fin h' st' sb
  done := by
    intro X hP hw hK hc i pins s σ H E I hf st hg
    subst hP hw hK
    obtain ⟨f0, f1, f2, f3, f4, f5⟩ := hf it (by simp)
    have hg' : x.cps.toList.length ≤ i := hg
    have en : x.cps[i]? = none := by rw [← Array.getElem?_toList]; exact List.getElem?_eq_none_iff.mpr hg'
    cases ha : x.cps.all (· < 128)
    · have et : strIterType x = "str_iterator" := by simp [strIterType, ha]
      rw [et] at st
      exact wpAny_pyNext_wide_end (I.ok.hd hc) st en fun h' eb => ⟨rfl, I.turned (t' := s.toks) (fun b o hb e => eb b o hb e) f0 f1 f3 f4 f5⟩
    · have et : strIterType x = "str_ascii_iterator" := by simp [strIterType, ha]
      rw [et] at st
      exact wpAny_pyNext_ascii_end (I.ok.hd hc) st en fun h' eb => ⟨rfl, I.turned (t' := s.toks) (fun b o hb e => eb b o hb e) f0 f1 f3 f4 f5⟩
  self := fun A i s Q E st h => by
    cases ha : x.cps.all (· < 128)
    · have et : strIterType x = "str_iterator" := by simp [strIterType, ha]
      rw [et] at st
      exact wpAny_pyIter_striter_wide st h
    · have et : strIterType x = "str_ascii_iterator" := by simp [strIterType, ha]
      rw [et] at st
      exact wpAny_pyIter_striter_ascii st h
section
variable {X : Cx} {K : PySem.W.Frag} {tg : Expr}
def iStr (tl : TE) : TI := fun σ H R => tl σ H fun v H1 => ∃ x, v = .str x ∧ R (Its x) H1
theorem pi_str {l : Expr} {tl : TE} (hl : PE X l tl) : PI X tg l (iStr tl) := by
  intro pins s σ H R I h
  refine thn (hl pins s σ H _ I h) fun v s1 ⟨y, H1, I1, r1, q1⟩ => ?_
  obtain ⟨x, e, q⟩ := q1
  subst e
  obtain ⟨t, rfl⟩ := r1
  refine wpAny_pyIter_strU ?_
  refine ⟨s1.heap.objs.size, [s1.heap.objs.size], _, _, H1, rfl, I1.kept (t' := s1.toks) fun b o e => Heap.get?_push_of_some _ e, turn_str x t _, ⟨_, Heap.get?_push_size _ rfl, rfl, rfl⟩, fun b hb => ?_, q⟩
  have e : b = s1.heap.objs.size := by simpa using hb
  subst e
  exact I1.fpOk (Nat.le_refl _) (I1.hok.fresh (Nat.le_refl _))
end
section
variable {H1 : Hp} {σ0 : St} {g : TG} {tc : TT} {te : TE} {fin : List V → Hp → Prop}
theorem lc_str {x : Str} (Pv : Nat → List V → Hp → Prop) (h0 : Pv 0 [] H1) (hd : ∀ ys H, Pv x.cps.toList.length ys H → fin ys H)
    (hs : ∀ i c ys H, x.cps.toList[i]? = some c → Pv i ys H → ys.length < sizeLine ∧ g (sg c) σ0 H fun σ2 H2 => Sub σ0 σ2 ∧ tc σ2 H2 fun b H3 => if b = true then te σ2 H3 fun v H4 => Pv (i + 1) (ys ++ [v]) H4 else Pv (i + 1) ys H3) :
    LCr (Its x) H1 σ0 g tc te fin := by
  refine lc_of (n := x.cps.toList.length) Pv h0 (fun ys H p => ⟨Nat.le_refl _, hd ys H p⟩) fun i ys H hi p => ?_
  have e : x.cps.toList[i]? = some x.cps.toList[i] := List.getElem?_eq_getElem hi
  obtain ⟨b, c⟩ := hs i _ ys H e p
  refine ⟨hi, b, fun v H' y => ?_⟩
  obtain ⟨z, c', e', y⟩ := y
  rw [e] at e'
  cases e'
  subst z y
  exact c
end
/-! ### a module's table, texts by texts -/
def TabK (K : PySem.W.Frag) (a : Addr) (D : List (Str × Str)) : Prop := KTD.tabLook (KTD.datLooks fun b => K.lookup b) (fun b => K.lookup b) a (D.map fun p => (p.1, KTD.Dat.flat (.str p.2))) = true
section
variable {X : Cx} {K : PySem.W.Frag} {pins : List (Addr × Obj)} {σ : St} {H : Hp} {s : Shared}
theorem Inv.here (I : Inv X pins σ H s) {a : Addr} {D : List (Str × Str)} (h : TabK X.K a D) : KTD.Here s.heap s.heap a (D.map fun p => (p.1, KTD.Dat.flat (.str p.2))) :=
  ⟨KTD.text_of_look (fun b o q => I.kIn b o q) h, fun _ _ e => e⟩
theorem datum_str (k : Str) : ∀ D : List (Str × Str), KTD.datumAt k (D.map fun p => (p.1, KTD.Dat.flat (.str p.2))) = (D.lookup k).map fun v => KTD.Dat.flat (.str v)
  | [] => rfl
  | (x, v) :: D => by
    show (if decide (k = x) = true then _ else _) = _
    rw [List.lookup_cons]
    by_cases e : k = x
    · subst e; simp
    · have e' : (k == x) = false := by simpa using e
      rw [if_neg (by simpa using e), e', datum_str k D]
def rTab (K : PySem.W.Frag) : R2 := fun x y H Q => ∃ a k D v, x = .ref a ∧ y = .str k ∧ TabK K a D ∧ D.lookup k = some v ∧ Q (.str v) H
theorem ix_tab : IxR X (rTab X.K) := by
  intro value slice pins s σ H x y v u Q I rx ry h hs
  obtain ⟨a, k, D, z, rfl, rfl, hD, hk, q⟩ := h
  cases rx
  obtain ⟨t, rfl⟩ := ry
  have T := I.here hD
  refine subscriptTail_builtin_flat T.typeIs slot_dict_getitem.lookup ?_ hs
  unfold getItem
  try with_reducible refine wpAny_holding ?_
  refine wpAny_bind (wpAny_sequenceKey T.typeIs (by decide) ?_)
  refine wpAny_bind (wpAny_callSpecial?_slot (name := Str.ofString "__getitem__") T.typeIs slot_dict_getitem
    (wpAny_call_entry slot_dict_getitem T.typeIs entry_dict_getitem ?_ (args_dict_getitem _ _)))
  show wpAny _ _ (dictGet a (.str k t) >>= _) _ _ s
  have ed := datum_str k D
  rw [hk] at ed
  refine wpAny_bind (KTD.dictGet_text T (fun d v ha hv => ?_) fun hn => ?_)
  · rw [ed] at ha
    cases ha
    obtain ⟨t', rfl⟩ : ∃ t', v = Value.str z t' := by
      have hr : Reads s.heap v (.str z) [] := hv s.heap
      cases hr
      exact ⟨_, rfl⟩
    exact wpAny_pure ⟨_, rfl, wpAny_pure ⟨(fun a e => nomatch e), .str z, H, I.tok _, ⟨_, rfl⟩, q⟩⟩
  · rw [ed] at hn; cases hn
theorem ix_tabK (hK : X.K = K) : IxR X (rTab K) := hK ▸ ix_tab
def rInTab (K : PySem.W.Frag) : R2 := fun x y H Q => ∃ a k D, y = .ref a ∧ x = .str k ∧ TabK K a D ∧ Q (.bl (D.lookup k).isSome) H
theorem op_inTab : OpR X (compareOp .In) (rInTab X.K) := by
  intro pins s σ H x y v u Q I rx ry h
  obtain ⟨a, k, D, rfl, rfl, hD, q⟩ := h
  cases ry
  obtain ⟨t, rfl⟩ := rx
  have T := I.here hD
  refine KTD.in_text T ?_
  rw [← KTD.isSome_datumAt, datum_str, Option.isSome_map]
  exact ⟨.bl _, H, I.tok _, rfl, q⟩
theorem op_inTabK (hK : X.K = K) : OpR X (compareOp .In) (rInTab K) := hK ▸ op_inTab
/-! ### text.split(sign) -/
def rSplit : V → List V → Hp → VK → Prop := fun x vs H Q => ∃ (z : Str) (c : Nat), x = .str z ∧ vs = [sg c] ∧ c < 128 ∧ z.length ≤ 1000 ∧ ∀ p, H p = none → Q (.ref p) (upd H p (.lst ((Txt.split z ⟨#[c]⟩).map V.str)))
theorem vals_strs : ∀ (l : List (Str × Tok)), Vals ((l.map (·.1)).map V.str) (strValues l)
  | [] => .nil
  | p :: r => .cons ⟨p.2, rfl⟩ (vals_strs r)
open PySem.Builtin PySem.Builtin.Str in
theorem mt_split : MtR X "str.split" rSplit := by
  intro pins s σ H x vs v us Q I rx rv h
  obtain ⟨z, c, rfl, rfl, hc, hz, q⟩ := h
  obtain ⟨t, rfl⟩ := rx
  obtain ⟨u', rfl, eu⟩ := vals1 rv
  obtain ⟨u, rfl⟩ : ∃ u, u' = Value.str ⟨#[c]⟩ u := eu
  have hL : sizeLine = 16777216 := sizeLine_eq
  have hy : ((⟨#[c]⟩ : Str).length == 0) = false := rfl
  have hn : (partsBetween z (occurrences z ⟨#[c]⟩ 0 z.length (z.length + 1)) (⟨#[c]⟩ : Str).length).length ≤ sizeLine := by
    have e1 := StrLaws.occ_length_le z ⟨#[c]⟩ 0 z.length (z.length + 1)
    rw [len_partsBetween]; omega
  have fin : ∀ (l : List (Str × Tok)) (k : Nat), l.map (·.1) = Txt.split z ⟨#[c]⟩ → EP X pins σ Q (.ref s.heap.objs.size) { s with toks := k, heap := s.heap.push { cls := .type "list", data := .seq (strValues l).toArray } } := fun l k e => by
    have hl := split_le z ⟨#[c]⟩
    refine ⟨.ref s.heap.objs.size, _, I.laid (t' := k) (fun b o e => Heap.get?_push_of_some _ e) (Nat.le_refl _) (o := .lst ((Txt.split z ⟨#[c]⟩).map V.str)) ⟨by rw [List.length_map]; omega, strValues l, 0, ?_, Heap.get?_push_size _ rfl⟩, rfl, q _ (I.hok.fresh (Nat.le_refl _))⟩
    rw [← e]
    exact vals_strs l
  cases h1 : (decide (z.length < (⟨#[c]⟩ : Str).length) || decide (strKind z < strKind ⟨#[c]⟩))
  · cases hf : (occurrences z ⟨#[c]⟩ 0 z.length (z.length + 1)).isEmpty
    · refine call_meets F.slot_str_split (typeIs_str _ _ _) F.entry_str_split (F.args_str_split_2 _ _) (meets_str_split_sep z ⟨#[c]⟩ t u h1 hy hf (by omega) hn) ?_
      show wants _ _ _ { s with toks := _, heap := s.heap.push { cls := .type "list", data := .seq (strsFrom s.toks (partsBetween z (occurrences z ⟨#[c]⟩ 0 z.length (z.length + 1)) (⟨#[c]⟩ : Str).length)).toArray } }
      rw [strsFrom_eq]
      exact fin (numbered s.toks _) _ ((numbered_texts _ _).trans ((if_neg (ne_true_of_eq_false h1)).trans (if_neg (ne_true_of_eq_false hf))).symm)
    · exact call_meets F.slot_str_split (typeIs_str _ _ _) F.entry_str_split (F.args_str_split_2 _ _) (meets_str_split_not_found z ⟨#[c]⟩ t u h1 hy hf)
        (fin [(z, t)] s.toks ((if_neg (ne_true_of_eq_false h1)).trans (if_pos hf)).symm)
  · exact call_meets F.slot_str_split (typeIs_str _ _ _) F.entry_str_split (F.args_str_split_2 _ _) (meets_str_split_cannot_occur z ⟨#[c]⟩ t u h1)
      (fin [(z, t)] s.toks (if_pos h1).symm)
theorem mt_splitK (hK : X.K = K) : MtR X "str.split" rSplit := mt_split
end
end L2

set_option Elab.async false
set_option linter.all false
set_option maxRecDepth 100000
/-! list.count of flat items; is not, of bools -/
namespace L2
open PySem PySem.Spec PyProof.Rows
section
variable {X : Cx}
theorem count_eqU {y : V} : ∀ {xs : List V} {its : List Value}, Vals xs its → xs.all flatV = true → its.countP (eqU y) = xs.countP fun z => eqV z y
  | _, _, .nil, _ => rfl
  | x :: xs, u :: us, .cons h t, f => by
    rw [List.all_cons, Bool.and_eq_true] at f
    rw [List.countP_cons, List.countP_cons, count_eqU t f.2, eqU_of (x := y) h f.1]
def rCount : V → List V → Hp → VK → Prop := fun x vs H Q => ∃ (l : Addr) (xs : List V) (y : V), x = .ref l ∧ vs = [y] ∧ H l = some (.lst xs) ∧ flatV y = true ∧ xs.all flatV = true ∧ Q (.int (xs.countP fun z => eqV z y : Nat)) H
theorem mt_count : MtM X "list.count" rCount := by
  intro pins s σ H x vs v us Q I rx rv h
  obtain ⟨l, xs, y, rfl, rfl, hH, fy, fs, q⟩ := h
  cases rx
  obtain ⟨u, rfl, ru⟩ := rv.one
  obtain ⟨zz, its, n, r, hl, e⟩ := I.lstM hH
  refine call_meets F.slot_list_count ⟨_, e, rfl⟩ F.entry_list_count (F.args_list_count_2 _ _) (SeqAt.list_countAt l its.toArray n none #[] u (eqU y)) ⟨e, fun w hw => mem_eqAt ru fy r fs w (by simpa using hw), ?_⟩
  have ec : its.toArray.toList.countP (eqU y) = xs.countP fun z => eqV z y := by simpa using count_eqU r fs
  exact ⟨.int _, H, I.tok _, ⟨_, by rw [ec]⟩, q⟩
def rIsNotB : R2 := fun x y H Q => ∃ b c, x = .bl b ∧ y = .bl c ∧ Q (.bl (b != c)) H
theorem op_isNotB : OpR X (compareOp .IsNot) rIsNotB := by
  intro pins s σ H x y v u Q I rx ry h
  obtain ⟨b, c, rfl, rfl, q⟩ := h
  obtain rfl : v = Value.bool b := rx
  obtain rfl : u = Value.bool c := ry
  refine wpAny_isNot_plain rfl ⟨.bl (b != c), H, I, ?_, q⟩
  have e : (Value.bool b == Value.bool c) = (b == c) := by cases b <;> cases c <;> simp
  show Value.bool (!(Value.bool b == Value.bool c)) = Value.bool (b != c)
  rw [e]
  rfl
end
end L2

set_option Elab.async false
set_option linter.all false
set_option maxRecDepth 100000
/-! the rules again, over judgements that do not unfold: walks are read much sooner -/
namespace L2
open PySem PySem.Spec PyProof.Rows
structure YPSs (X : Cx) (b : List Stmt) (t : TS) : Prop where
  o : PSs X b t
structure YPS (X : Cx) (b : Stmt) (t : TS) : Prop where
  o : PS X b t
structure YPE (X : Cx) (e : Expr) (t : TE) : Prop where
  o : PE X e t
structure YPT (X : Cx) (e : Expr) (t : TT) : Prop where
  o : PT X e t
structure YPA (X : Cx) (e : List Expr) (t : TA) : Prop where
  o : PA X e t
structure YPI (X : Cx) (g e : Expr) (t : TI) : Prop where
  o : PI X g e t
structure YPG (X : Cx) (e : Expr) (t : TG) : Prop where
  o : PG X e t
structure YPGs (X : Cx) (e : List Expr) (t : TGs) : Prop where
  o : PGs X e t
structure YPIfs (X : Cx) (e : List Expr) (t : TT) : Prop where
  o : PIfs X e t
structure YPC (X : Cx) (op : CmpOp) (a b : Expr) (t : TE) : Prop where
  o : PC X op a b t
structure YPW (X : Cx) (e : Expr) (t : TT) : Prop where
  o : PW X e t
structure YPO (X : Cx) (e : Option Expr) (t : TO) : Prop where
  o : PO X e t
section

theorem zPW_pt {X : Cx}
    {e : Expr}
    {t : TT}
    (h : YPW X e t) : YPT X e t :=
  ⟨PW.pt h.o⟩
end
section
variable {X : Cx}
theorem zpe_int {i j pos} : YPE X (.Constant (.int i) j pos) (tC (.int i)) :=
  ⟨pe_int ⟩
end
section
variable {X : Cx}
theorem zpe_bl {b j pos} : YPE X (.Constant (.bool b) j pos) (tC (.bl b)) :=
  ⟨pe_bl ⟩
end
section
variable {X : Cx}
theorem zpe_non {j pos} : YPE X (.Constant .none j pos) (tC .non) :=
  ⟨pe_non ⟩
end
section
variable {X : Cx}
theorem zpe_str {x j pos} : YPE X (.Constant (.str x) j pos) (tC (.str x)) :=
  ⟨pe_str ⟩
end
section
variable {X : Cx}
theorem zpe_glob {x : Str}
    {v : V}
    {u : Value}
    {pos : Pos}
    (hg : Gl X x)
    (hm : X.mg x = some u)
    (r : RelV v u)
    (hd : (x == ("__debug__" : Str)) = false := by decide) : YPE X (.Name x pos) (tC v) :=
  ⟨pe_glob hg hm r hd⟩
end
section
variable {X : Cx}
variable {a b : Expr} {ta tb : TE} {pos : Pos}
theorem zpc_isN {j pos'}
    (ha : YPE X a ta) : YPC X .Is a (.Constant .none j pos') (tIsN ta) :=
  ⟨pc_isN ha.o⟩
end
section
variable {X : Cx}
variable {a b : Expr} {ta tb : TE} {pos : Pos}
theorem zpc_notN {j pos'}
    (ha : YPE X a ta) : YPC X .IsNot a (.Constant .none j pos') (tNotN ta) :=
  ⟨pc_notN ha.o⟩
end
section
variable {X : Cx}
variable {a b : Expr} {ta tb : TE} {pos : Pos}
theorem zpe_cmp {op : CmpOp}
    {t : TE}
    (h : YPC X op a b t)
    (h1 : behindInMarks op b = false := by first | exact nobehind _ (by decide) (by decide) | rfl) : YPE X (.Compare a [op] [b] pos) t :=
  ⟨pe_cmp h.o h1⟩
end
section
variable {X : Cx}
variable {a b : Expr} {ta tb : TE} {pos : Pos}
theorem zpt_cmp {op : CmpOp}
    {t : TE}
    (h : YPC X op a b t)
    (h1 : behindInMarks op b = false := by first | exact nobehind _ (by decide) (by decide) | rfl) : YPT X (.Compare a [op] [b] pos) (tB t) :=
  ⟨pt_cmp h.o h1⟩
end
section
variable {X : Cx}
variable {a b : Expr} {ta tb : TE} {pos : Pos}
theorem zpt_val {e : Expr}
    {t : TE}
    (h : YPE X e t)
    (he : ∀ whole, isTrue e X.env whole = (do let v ← whole; standAt e.pos; holding [v] (truthy v)) := by intro _; rfl) : YPT X e (tB t) :=
  ⟨pt_val h.o he⟩
end
section
variable {X : Cx}
variable {a b : Expr} {ta tb : TE} {pos : Pos}
variable {tA tB' : TT} {rest : List Expr}
theorem zpw_and1 (ha : YPT X a tA) : YPW X (.BoolOp .And [a] pos) tA :=
  ⟨pw_and1 ha.o⟩
end
section
variable {X : Cx}
variable {a b : Expr} {ta tb : TE} {pos : Pos}
variable {tA tB' : TT} {rest : List Expr}
theorem zpw_or1 (ha : YPT X a tA) : YPW X (.BoolOp .Or [a] pos) tA :=
  ⟨pw_or1 ha.o⟩
end
section
variable {X : Cx}
variable {a b : Expr} {ta tb : TE} {pos : Pos}
variable {tA tB' : TT} {rest : List Expr}
theorem zpw_and (ha : YPT X a tA)
    (hb : YPW X (.BoolOp .And (b :: rest) pos) tB') : YPW X (.BoolOp .And (a :: b :: rest) pos) (tAnd tA tB') :=
  ⟨pw_and ha.o hb.o⟩
end
section
variable {X : Cx}
variable {a b : Expr} {ta tb : TE} {pos : Pos}
variable {tA tB' : TT} {rest : List Expr}
theorem zpw_or (ha : YPT X a tA)
    (hb : YPW X (.BoolOp .Or (b :: rest) pos) tB') : YPW X (.BoolOp .Or (a :: b :: rest) pos) (tOr tA tB') :=
  ⟨pw_or ha.o hb.o⟩
end
section
variable {X : Cx}
variable {a b : Expr} {ta tb : TE} {pos : Pos}
variable {tA tB' : TT} {rest : List Expr}
theorem zpt_not (ha : YPT X a tA) : YPT X (.UnaryOp .Not a pos) (tNot tA) :=
  ⟨pt_not ha.o⟩
end
section
variable {X : Cx}
variable {a b : Expr} {ta tb : TE} {pos : Pos}
variable {tA tB' : TT} {rest : List Expr}
theorem zpe_one {op}
    {t : TE}
    (h : YPE X a t) : YPE X (.BoolOp op [a] pos) t :=
  ⟨pe_one h.o⟩
end
section
variable {X : Cx}
variable {a b : Expr} {ta tb : TE} {pos : Pos}
variable {tA tB' : TT} {rest : List Expr}
theorem zpe_and (ha : YPE X a ta)
    (hb : YPE X (.BoolOp .And (b :: rest) pos) tb) : YPE X (.BoolOp .And (a :: b :: rest) pos) (tAndV ta tb) :=
  ⟨pe_and ha.o hb.o⟩
end
section
variable {X : Cx}
variable {a b : Expr} {ta tb : TE} {pos : Pos}
variable {tA tB' : TT} {rest : List Expr}
theorem zpe_or (ha : YPE X a ta)
    (hb : YPE X (.BoolOp .Or (b :: rest) pos) tb) : YPE X (.BoolOp .Or (a :: b :: rest) pos) (tOrV ta tb) :=
  ⟨pe_or ha.o hb.o⟩
end
section
variable {X : Cx}
variable {a b : Expr} {ta tb : TE} {pos : Pos}
variable {tA tB' : TT} {rest : List Expr}
theorem zpe_not (ha : YPE X a ta) : YPE X (.UnaryOp .Not a pos) (tNotV ta) :=
  ⟨pe_not ha.o⟩
end
section
variable {X : Cx}
variable {a b : Expr} {ta tb : TE} {pos : Pos}
variable {tA tB' : TT} {rest : List Expr}
theorem zpe_ifExp {c : Expr}
    (hc : YPT X c tA)
    (ha : YPE X a ta)
    (hb : YPE X b tb) : YPE X (.IfExp c a b pos) (tIf tA ta tb) :=
  ⟨pe_ifExp hc.o ha.o hb.o⟩
end
section
variable {X : Cx} {st : Stmt} {rest : List Stmt} {t u : TS} {e : Expr} {te : TE} {pos : Pos}
theorem zpss_nil  : YPSs X [] tNext :=
  ⟨pss_nil ⟩
end
section
variable {X : Cx} {st : Stmt} {rest : List Stmt} {t u : TS} {e : Expr} {te : TE} {pos : Pos}
theorem zpss_cons (h1 : YPS X st t)
    (h2 : YPSs X rest u) : YPSs X (st :: rest) (tSeq t u) :=
  ⟨pss_cons h1.o h2.o⟩
end
section
variable {X : Cx} {st : Stmt} {rest : List Stmt} {t u : TS} {e : Expr} {te : TE} {pos : Pos}
theorem zpss_one (h1 : YPS X st t) : YPSs X [st] t :=
  ⟨pss_one h1.o⟩
end
section
variable {X : Cx} {st : Stmt} {rest : List Stmt} {t u : TS} {e : Expr} {te : TE} {pos : Pos}
theorem zps_pass  : YPS X (.Pass pos) tNext :=
  ⟨ps_pass ⟩
end
section
variable {X : Cx} {st : Stmt} {rest : List Stmt} {t u : TS} {e : Expr} {te : TE} {pos : Pos}
theorem zps_break  : YPS X (.Break pos) tBreak :=
  ⟨ps_break ⟩
end
section
variable {X : Cx} {st : Stmt} {rest : List Stmt} {t u : TS} {e : Expr} {te : TE} {pos : Pos}
theorem zps_continue  : YPS X (.Continue pos) tCont :=
  ⟨ps_continue ⟩
end
section
variable {X : Cx} {st : Stmt} {rest : List Stmt} {t u : TS} {e : Expr} {te : TE} {pos : Pos}
theorem zps_expr (he : YPE X e te)
    (hs : swapsWith e none pos.line X.env = pure false := by rfl) : YPS X (.Expr e pos) (tDrop te) :=
  ⟨ps_expr he.o hs⟩
end
section
variable {X : Cx} {st : Stmt} {rest : List Stmt} {t u : TS} {e : Expr} {te : TE} {pos : Pos}
theorem zps_ret (he : YPE X e te) : YPS X (.Return (some e) pos) (tRet te) :=
  ⟨ps_ret he.o⟩
end
section
variable {X : Cx} {st : Stmt} {rest : List Stmt} {t u : TS} {e : Expr} {te : TE} {pos : Pos}
theorem zps_retN  : YPS X (.Return none pos) tRetN :=
  ⟨ps_retN ⟩
end
section
variable {X : Cx} {st : Stmt} {rest : List Stmt} {t u : TS} {e : Expr} {te : TE} {pos : Pos}
theorem zps_if {c : Expr}
    {a b : List Stmt}
    {tc : TT}
    (hc : YPT X c tc)
    (ha : YPSs X a t)
    (hb : YPSs X b u) : YPS X (.If c a b pos) (tIfS tc t u) :=
  ⟨ps_if hc.o ha.o hb.o⟩
end
section
variable {X : Cx} {st : Stmt} {rest : List Stmt} {t u : TS} {e : Expr} {te : TE} {pos : Pos}
theorem zps_never  : YPS X st tNever :=
  ⟨ps_never ⟩
end
section
variable {X : Cx} {pos : Pos}
theorem zpg_name {i : Nat}
    {x : Str}
    (hN : X.N.Nodup)
    (hi : X.N[i]? = some x)
    (hx : Loc X.env.scope x)
    (hf : X.fn x = true ∨ X.env.scope.names.lookup x = some .local := by first | exact .inl rfl | exact .inr rfl | assumption) : YPG X (.Name x pos) (gName i) :=
  ⟨pg_name hN hi hx hf⟩
end
section
variable {X : Cx} {pos : Pos}
theorem zpgs_nil  : YPGs X [] gNil :=
  ⟨pgs_nil ⟩
end
section
variable {X : Cx} {pos : Pos}
theorem zpgs_cons {e : Expr}
    {es : List Expr}
    {t : TG}
    {u : TGs}
    (h1 : YPG X e t)
    (h2 : YPGs X es u)
    (hs : (assignEach (e :: es) X.env).map (·.2) = assign e X.env :: (assignEach es X.env).map (·.2) := by rfl) : YPGs X (e :: es) (gCons t u) :=
  ⟨pgs_cons h1.o h2.o hs⟩
end
section
variable {X : Cx} {pos : Pos}
theorem zpg_tup {es : List Expr}
    {k : Nat}
    {t : TGs}
    {n : Nat}
    (hc : X.calm = true)
    (h : YPGs X es t)
    (hn : (assignEach es X.env).length = n := by rfl)
    (hst : (assignEach es X.env).findIdx? (·.1) = none := by rfl) : YPG X (.Tuple es k pos) (gTup X.K n t) :=
  ⟨pg_tup hc h.o hn hst⟩
end
section
variable {X : Cx} {pos : Pos}
theorem zpg_sub {o i : Expr}
    {to ti : TE}
    {t : TSet}
    (ho : YPE X o to)
    (hi : YPE X i ti)
    (hs : PSet X t)
    (ha : ∀ v, assign (.Subscript o i pos) X.env v = (do
      let ov ← holding [v] (eval o X.env)
      let iv ← holding [v, ov] (eval i X.env)
      standAt pos
      holding [v, ov, iv] (setItem ov iv v)
      release [v, ov, iv] []) := by intro _; rfl) : YPG X (.Subscript o i pos) (gSub to ti t) :=
  ⟨pg_sub ho.o hi.o hs ha⟩
end
section
variable {X : Cx} {pos : Pos}
theorem zps_asg {tg e : Expr}
    {te : TE}
    {g : TG}
    (he : YPE X e te)
    (hg : YPG X tg g)
    (hs : swapsWithSole [tg] e pos.line X.env = pure false := by rfl)
    (hw : swappedStores [tg] e X.env = pure none := by rfl)
    (h1 : (assignEach [tg] X.env).map (·.2) = [assign tg X.env] := by rfl) : YPS X (.Assign [tg] e pos) (tAsg te g) :=
  ⟨ps_asg he.o hg.o hs hw h1⟩
end
section
variable {X : Cx} {pos : Pos}
theorem zps_set {i : Nat}
    {x : Str}
    {e : Expr}
    {te : TE}
    {pos' : Pos}
    (hN : X.N.Nodup)
    (hi : X.N[i]? = some x)
    (hx : Loc X.env.scope x)
    (he : YPE X e te)
    (hs : swapsWith e (some (.Name x pos')) pos.line X.env = pure false := by rfl)
    (hf : X.fn x = true ∨ X.env.scope.names.lookup x = some .local := by first | exact .inl rfl | exact .inr rfl | assumption) : YPS X (.Assign [.Name x pos'] e pos) (tAsg te (gName i)) :=
  ⟨ps_set hN hi hx he.o hs hf⟩
end
section
variable {X : Cx} {pos : Pos}
theorem zps_while {c : Expr}
    {body : List Stmt}
    {tc : TT}
    {tb : TS}
    (hp : PassesOwn (model X.prog X.w) X.A X.env X.xe)
    (hc : YPT X c tc)
    (hb : YPSs X body tb) : YPS X (.While c body [] pos) (tWhile tc tb) :=
  ⟨ps_while hp hc.o hb.o⟩
end
section
variable {X : Cx} {tg : Expr}
theorem zpi_list {l : Expr}
    {tl : TE}
    (hl : YPE X l tl) : YPI X tg l (iList X.K tl) :=
  ⟨pi_list hl.o⟩
end
section
variable {X : Cx} {tg : Expr}
theorem zpi_tup {l : Expr}
    {tl : TE}
    (hl : YPE X l tl) : YPI X tg l (iTup X.K tl) :=
  ⟨pi_tup hl.o⟩
end
section
variable {X : Cx} {tg : Expr}
theorem zpi_range1 {a : Expr}
    {ta : TA}
    {p pos : Pos}
    (hg : Gl X "range")
    (hm : X.mg "range" = none)
    (ha : YPA X [a] ta)
    (hs : starEach [a] X.env = [(false, eval a X.env)] := by rfl) : YPI X tg (.Call (.Name "range" p) [a] [] pos) (iRng1 ta) :=
  ⟨pi_range1 hg hm ha.o hs⟩
end
section
variable {X : Cx} {tg : Expr}
theorem zpi_range2 {a b : Expr}
    {ta : TA}
    {p pos : Pos}
    (hg : Gl X "range")
    (hm : X.mg "range" = none)
    (ha : YPA X [a, b] ta)
    (hs : starEach [a, b] X.env = [(false, eval a X.env), (false, eval b X.env)] := by rfl)
    (hs2 : starEach [b] X.env = [(false, eval b X.env)] := by rfl) : YPI X tg (.Call (.Name "range" p) [a, b] [] pos) (iRng2 ta) :=
  ⟨pi_range2 hg hm ha.o hs hs2⟩
end
section
variable {X : Cx} {tg : Expr}
theorem zps_for {iter : Expr}
    {body : List Stmt}
    {wi : TI}
    {g : TG}
    {tb : TS}
    {pos : Pos}
    (hp : PassesOwn (model X.prog X.w) X.A X.env X.xe)
    (hc : X.calm = true)
    (hi : YPI X tg iter wi)
    (hg : YPG X tg g)
    (hb : YPSs X body tb)
    (hs : ∀ x, foldedSetIterable iter X.env x = pure x := by intro _; rfl) : YPS X (.For tg iter body [] pos) (tFor wi g tb) :=
  ⟨ps_for hp hc hi.o hg.o hb.o hs⟩
end
section
variable {X : Cx} {a b c : Expr} {ta tb tc : TE} {pos : Pos}
theorem zpe_op {op : Operator}
    {r : R2}
    (ho : OpR X (binaryOp op) r)
    (ha : YPE X a ta)
    (hb : YPE X b tb) : YPE X (.BinOp a op b pos) (tOp r ta tb) :=
  ⟨pe_op ho ha.o hb.o⟩
end
section
variable {X : Cx} {a b c : Expr} {ta tb tc : TE} {pos : Pos}
theorem zpe_un {op : UnaryOp}
    {r : V → Hp → VK → Prop}
    (ho : UnR X (unaryOp op) r)
    (ha : YPE X a ta) : YPE X (.UnaryOp op a pos) (tUn r ta) :=
  ⟨pe_un ho ha.o⟩
end
section
variable {X : Cx} {a b c : Expr} {ta tb tc : TE} {pos : Pos}
theorem zpe_cmpR {op : CmpOp}
    {r : R2}
    (ho : OpR X (compareOp op) r)
    (ha : YPE X a ta)
    (hb : YPE X b tb)
    (hm : behindInMarks op b = false) : YPE X (.Compare a [op] [b] pos) (tOp r ta tb) :=
  ⟨pe_cmpR ho ha.o hb.o hm⟩
end
section
variable {X : Cx} {a b c : Expr} {ta tb tc : TE} {pos : Pos}
theorem zpt_cmpR {op : CmpOp}
    {r : R2}
    (ho : OpR X (compareOp op) r)
    (ha : YPE X a ta)
    (hb : YPE X b tb)
    (hm : behindInMarks op b = false) : YPT X (.Compare a [op] [b] pos) (tTest (tOp r ta tb)) :=
  ⟨pt_cmpR ho ha.o hb.o hm⟩
end
section
variable {X : Cx} {a b c : Expr} {ta tb tc : TE} {pos : Pos}
theorem zpe_chain {op op' : CmpOp}
    {r r' : R2}
    (ho : OpR X (compareOp op) r)
    (ho' : OpR X (compareOp op') r')
    (ha : YPE X a ta)
    (hb : YPE X b tb)
    (hc : YPE X c tc)
    (hm : lastMarks [op, op'] [b, c] = false := by with_unfolding_all rfl) : YPE X (.Compare a [op, op'] [b, c] pos) (tChain r r' ta tb tc) :=
  ⟨pe_chain ho ho' ha.o hb.o hc.o hm⟩
end
section
variable {X : Cx} {a b c : Expr} {ta tb tc : TE} {pos : Pos}
theorem zpt_chain {op op' : CmpOp}
    {r r' : R2}
    (ho : OpR X (compareOp op) r)
    (ho' : OpR X (compareOp op') r')
    (ha : YPE X a ta)
    (hb : YPE X b tb)
    (hc : YPE X c tc)
    (hm : lastMarks [op, op'] [b, c] = false := by with_unfolding_all rfl) : YPT X (.Compare a [op, op'] [b, c] pos) (tTest (tChain r r' ta tb tc)) :=
  ⟨pt_chain ho ho' ha.o hb.o hc.o hm⟩
end
section
variable {X : Cx} {a b c : Expr} {ta tb tc : TE} {pos : Pos}
theorem zpt_truth (ha : YPE X a ta)
    (he : ∀ whole, isTrue a X.env whole = (do let v ← whole; standAt a.pos; holding [v] (truthy v))) : YPT X a (fun σ H Q => ta σ H fun x H' => ∃ k, TruV X.K x H' k ∧ Q k H') :=
  ⟨pt_truth ha.o he⟩
end
section
variable {X : Cx} {e : Expr} {es : List Expr} {te : TE} {t : TA} {pos : Pos}
theorem zpa_nil  : YPA X [] tNil :=
  ⟨pa_nil ⟩
end
section
variable {X : Cx} {e : Expr} {es : List Expr} {te : TE} {t : TA} {pos : Pos}
theorem zpa_cons (ha : YPE X e te)
    (hr : YPA X es t)
    (hs : starEach (e :: es) X.env = (false, eval e X.env) :: starEach es X.env := by rfl) : YPA X (e :: es) (tCons te t) :=
  ⟨pa_cons ha.o hr.o hs⟩
end
section
variable {X : Cx} {e : Expr} {es : List Expr} {te : TE} {t : TA} {pos : Pos}
theorem zpe_tup {x1}
    (h : YPA X es t) : YPE X (.Tuple es x1 pos) (tTup t) :=
  ⟨pe_tup h.o⟩
end
section
variable {X : Cx} {e : Expr} {es : List Expr} {te : TE} {t : TA} {pos : Pos}
theorem zpe_lst (h : YPA X es t) : YPE X (.List es pos) (tLst t) :=
  ⟨pe_lst h.o⟩
end
section
variable {X : Cx} {CX : CXT} {k : Nat} {f C : Addr} {fd : FuncData} {ps : List Str} {sp : Sp} {dvs : List V} {ds : List Value} {E : XK} {x m : Str} {p pos apos : Pos} {e o : Expr} {es : List Expr} {ta : TE} {t : TA}
theorem zpe_call (F : FnOk X.prog X.w X.K X.mg X.base CX k f fd ps sp)
    (hr : Room k X.A)
    (hg : Gl X x)
    (hm : X.mg x = some (.ref f))
    (hk : PySem.W.keepIn X.K (.ref f) = true)
    (hb : Binds X.K fd ps ds)
    (hd : Vals dvs ds)
    (hx : Passes CX X E)
    (ha : YPA X (e :: es) t)
    (hdb : (x == ("__debug__" : Str)) = false := by decide)
    (he : starEach (e :: es) X.env = (false, eval e X.env) :: starEach es X.env := by rfl)
    (hpl : (backTo pos (starEach es X.env)).any (·.1) = false := by rfl) : YPE X (.Call (.Name x p) (e :: es) [] pos) (tCall sp dvs E t) :=
  ⟨pe_call F hr hg hm hk hb hd hx ha.o hdb he hpl⟩
end
section
variable {X : Cx} {x : Str} {p pos : Pos} {e : Expr} {es : List Expr} {t : TA} {id T : String} {r : List V → Hp → VK → Prop}
theorem zpe_callB (hc : CallR X (.builtin id) r)
    (hg : Gl X x)
    (hm : X.mg x = none)
    (hv : bootBuiltins x = some (.builtin id))
    (ha : YPA X (e :: es) t)
    (hn : x ≠ "__name__" := by decide)
    (hdb : (x == ("__debug__" : Str)) = false := by decide)
    (he : starEach (e :: es) X.env = (false, eval e X.env) :: starEach es X.env := by rfl)
    (hpl : (backTo pos (starEach es X.env)).any (·.1) = false := by rfl) : YPE X (.Call (.Name x p) (e :: es) [] pos) (tCB r t) :=
  ⟨pe_callB hc hg hm hv ha.o hn hdb he hpl⟩
end
section
variable {X : Cx} {x : Str} {p pos : Pos} {e : Expr} {es : List Expr} {t : TA} {id T : String} {r : List V → Hp → VK → Prop}
theorem zpe_callTy (hc : CallR X (.type T) r)
    (hg : Gl X x)
    (hm : X.mg x = none)
    (hv : bootBuiltins x = some (.type T))
    (ha : YPA X (e :: es) t)
    (hn : x ≠ "__name__" := by decide)
    (hdb : (x == ("__debug__" : Str)) = false := by decide)
    (he : starEach (e :: es) X.env = (false, eval e X.env) :: starEach es X.env := by rfl)
    (hpl : (backTo pos (starEach es X.env)).any (·.1) = false := by rfl) : YPE X (.Call (.Name x p) (e :: es) [] pos) (tCB r t) :=
  ⟨pe_callTy hc hg hm hv ha.o hn hdb he hpl⟩
end
section
variable {X : Cx} {e : Expr} {te : TE} {lo hi : Option Expr} {tl th : TO} {pos p2 : Pos}
theorem zpo_none  : YPO X none tNoPart :=
  ⟨po_none ⟩
end
section
variable {X : Cx} {e : Expr} {te : TE} {lo hi : Option Expr} {tl th : TO} {pos p2 : Pos}
theorem zpo_some (h : YPE X e te) : YPO X (some e) (tPart te) :=
  ⟨po_some h.o⟩
end
section
variable {X : Cx} {e : Expr} {te : TE} {lo hi : Option Expr} {tl th : TO} {pos p2 : Pos}
theorem zpe_slice {r : V → Option Int → Option Int → Hp → VK → Prop}
    (hr : SlR X r)
    (he : YPE X e te)
    (hl : YPO X lo tl)
    (hu : YPO X hi th) : YPE X (.Subscript e (.Slice lo hi none p2) pos) (tSl r te tl th) :=
  ⟨pe_slice hr he.o hl.o hu.o⟩
end
section
variable {X : Cx} {a b : Expr} {ta tb : TE} {pos : Pos}
theorem zpe_ix {r : R2}
    (hr : IxR X r)
    (ha : YPE X a ta)
    (hb : YPE X b tb)
    (hs : PlainIx b) : YPE X (.Subscript a b pos) (tOp r ta tb) :=
  ⟨pe_ix hr ha.o hb.o hs⟩
end
section
variable {X : Cx} {a b : Expr} {ta tb : TE} {pos : Pos}
variable {o e : Expr} {es : List Expr} {to : TE} {t : TA} {name : Str} {apos cpos : Pos} {T id : String} {r : V → List V → Hp → VK → Prop}
theorem zpe_bm (pa : PlainAttrs T)
    (slot : Slot T name id)
    (hty : typeOf (.builtin id) = pure (.type "method_descriptor"))
    (hm : MtR X id r)
    (ho : YPE X o to)
    (ha : YPA X (e :: es) t)
    (hbase : attributeBase o name X.env (eval o X.env) = eval o X.env := by rfl)
    (hfew : ((backTo cpos (starEach (e :: es) X.env)).all (fun x => !x.1) && (backToKw cpos (keywordEach [] X.env)).all (fun x => x.1.isSome)
      && decide ((e :: es).length + ([] : List Keyword).length + (if ([] : List Keyword).isEmpty then 0 else 1) < 30)) = true := by rfl)
    (hline : (apos.endLine == cpos.line) = true := by rfl)
    (hs : starEach (e :: es) X.env = (false, eval e X.env) :: starEach es X.env := by rfl)
    (hplain : (backTo cpos (starEach es X.env)).any (·.1) = false := by rfl) : YPE X (.Call (.Attribute o name apos) (e :: es) [] cpos) (tBM X.K T r to t) :=
  ⟨pe_bm pa slot hty hm ho.o ha.o hbase hfew hline hs hplain⟩
end
section
variable {X : Cx}
theorem zpv (i : Nat)
    {x : Str}
    {pos : Pos}
    (hN : X.N[i]? = some x := by rfl)
    (hv : Vis X.env.scope x := by first | exact Or.inl rfl | exact Or.inr (Or.inl rfl) | exact Or.inr (Or.inr rfl))
    (hd : (x == ("__debug__" : Str)) = false := by decide)
    (hcd : (x == ("__classdict__" : Str)) = false := by decide) : YPE X (.Name x pos) (tVar i) :=
  ⟨pv i hN hv hd hcd⟩
end
section

theorem zpif_nil {X : Cx} : YPIfs X [] tYes :=
  ⟨pif_nil ⟩
end
section

theorem zpif_one {X : Cx}
    {c : Expr}
    {t : TT}
    (h : YPT X c t) : YPIfs X [c] t :=
  ⟨pif_one h.o⟩
end
section
variable {X : Cx} {tg iter elt : Expr} {ifs : List Expr} {scope : Scope} {N' : List Str} {js : List (Option Nat)} {wi : TI} {g : TG} {tc : TT} {te : TE} {pos : Pos}
theorem zpe_lc (hcalm : X.calm = true)
    (S : CompScope X.env.scope X.N scope N' js)
    (hi : YPI X tg iter wi)
    (hg : ∀ cl C s H ex, YPG (cxComp X scope N' cl C s H ex) tg g)
    (hc : ∀ cl C s H ex, YPIfs (cxComp X scope N' cl C s H ex) ifs tc)
    (he : ∀ cl C s H ex, YPE (cxComp X scope N' cl C s H ex) elt te)
    (hs : ∀ x, foldedSetIterable iter X.env x = pure x := by intro _; rfl) : YPE X (.ListComp elt [⟨tg, iter, ifs, 0⟩] scope pos) (tLC wi js g tc te) :=
  ⟨pe_lc hcalm S hi.o (fun cl C s H ex => (hg cl C s H ex).o) (fun cl C s H ex => (hc cl C s H ex).o) (fun cl C s H ex => (he cl C s H ex).o) hs⟩
end
section
variable {X : Cx} {tg iter elt : Expr} {ifs : List Expr} {scope : Scope} {N' : List Str} {js : List (Option Nat)} {wi : TI} {g : TG} {tc : TT} {te : TE} {pos : Pos}
theorem zps_setlc {i : Nat}
    {y : Str}
    {py spos : Pos}
    (hcalm : X.calm = true)
    (hN : X.N.Nodup)
    (hiN : X.N[i]? = some y)
    (hy : Loc X.env.scope y)
    (S : CompScope X.env.scope X.N scope N' js)
    (hi : YPI X tg iter wi)
    (hg : ∀ cl C s H ex, YPG (cxComp X scope N' cl C s H ex) tg g)
    (hc : ∀ cl C s H ex, YPIfs (cxComp X scope N' cl C s H ex) ifs tc)
    (he : ∀ cl C s H ex, YPE (cxComp X scope N' cl C s H ex) elt te)
    (hsw : swapsWith (.ListComp elt [⟨tg, iter, ifs, 0⟩] scope pos) (some (.Name y py)) spos.line X.env = pure true := by rfl)
    (hf : X.fn y = true ∨ X.env.scope.names.lookup y = some .local := by first | exact .inl rfl | exact .inr rfl | assumption)
    (hs : ∀ x, foldedSetIterable iter X.env x = pure x := by intro _; rfl) : YPS X (.Assign [.Name y py] (.ListComp elt [⟨tg, iter, ifs, 0⟩] scope pos) spos) (tAsg (tLC wi js g tc te) (gName i)) :=
  ⟨ps_setlc hcalm hN hiN hy S hi.o (fun cl C s H ex => (hg cl C s H ex).o) (fun cl C s H ex => (hc cl C s H ex).o) (fun cl C s H ex => (he cl C s H ex).o) hsw hf hs⟩
end
section
variable {X : Cx} {tg : Expr}
theorem zpi_rev {a : Expr}
    {ta : TA}
    {p pos : Pos}
    (hg : Gl X "reversed")
    (hm : X.mg "reversed" = none)
    (ha : YPA X [a] ta)
    (hs : starEach [a] X.env = [(false, eval a X.env)] := by rfl) : YPI X tg (.Call (.Name "reversed" p) [a] [] pos) (iRev ta) :=
  ⟨pi_rev hg hm ha.o hs⟩
end
section
variable {X : Cx} {es : List Expr} {ek : Nat} {ep : Pos}
theorem zpi_zip {k1 k2 : Bool}
    {a b : Expr}
    {ta : TA}
    {p pos : Pos}
    (hg : Gl X "zip")
    (hm : X.mg "zip" = none)
    (ha : YPA X [a, b] ta)
    (hs : starEach [a, b] X.env = [(false, eval a X.env), (false, eval b X.env)] := by rfl)
    (hs2 : starEach [b] X.env = [(false, eval b X.env)] := by rfl) : YPI X (.Tuple es ek ep) (.Call (.Name "zip" p) [a, b] [] pos) (iZip k1 k2 X.K ta) :=
  ⟨pi_zip hg hm ha.o hs hs2⟩
end
section

theorem zpe_gref {X : Cx}
    {x : Str}
    {a : Addr}
    {pos : Pos}
    (hg : Gl X x)
    (hm : X.mg x = some (.ref a))
    (hd : (x == ("__debug__" : Str)) = false := by decide) : YPE X (.Name x pos) (tC (.ref a)) :=
  ⟨pe_gref hg hm hd⟩
end
section
variable {X : Cx} {a b c d : Expr} {ta tb tc td : TE} {pos : Pos}
theorem zpt_chain3 {op op' op'' : CmpOp}
    {r r' r'' : R2}
    (ho : OpR X (compareOp op) r)
    (ho' : OpR X (compareOp op') r')
    (ho'' : OpR X (compareOp op'') r'')
    (ha : YPE X a ta)
    (hb : YPE X b tb)
    (hc : YPE X c tc)
    (hd : YPE X d td)
    (hm : lastMarks [op, op', op''] [b, c, d] = false := by with_unfolding_all rfl) : YPT X (.Compare a [op, op', op''] [b, c, d] pos) (tChain3 r r' r'' ta tb tc td) :=
  ⟨pt_chain3 ho ho' ho'' ha.o hb.o hc.o hd.o hm⟩
end
section
variable {X : Cx} {a d : Expr} {ta td : TE} {p pos kp : Pos}
theorem zpe_minD (hc : X.calm = true)
    (hu : X.A.units + 1 < cLine)
    (hg : Gl X "min")
    (hm : X.mg "min" = none)
    (ha : YPE X a ta)
    (hd : YPE X d td)
    (he : starEach [a] X.env = [(false, eval a X.env)] := by rfl) : YPE X (.Call (.Name "min" p) [a] [⟨some "default", d, kp⟩] pos) (tMinD X.K ta td) :=
  ⟨pe_minD hc hu hg hm ha.o hd.o he⟩
end
section
variable {X : Cx} {K : PySem.W.Frag}
theorem zpg_tupK {es : List Expr}
    {k : Nat}
    {t : TGs}
    {pos : Pos}
    (n : Nat)
    (hK : X.K = K)
    (hc : X.calm = true)
    (h : YPGs X es t)
    (hn : (assignEach es X.env).length = n := by rfl)
    (hst : (assignEach es X.env).findIdx? (·.1) = none := by rfl) : YPG X (.Tuple es k pos) (gTup K n t) :=
  ⟨pg_tupK n hK hc h.o hn hst⟩
end
section
variable {P : Program} {w : World} {K : PySem.W.Frag} {mg : Str → Option Value} {base : Heap} {N : List Str} {qual : Str} {scope : Scope} {f : Addr} {cdv : Value} {A : Around} {outer : List Env} {s : Shared} {H : Hp} {E : XK}
theorem zps_raise {x : Str}
    {C : Addr}
    {np cpos pos : Pos}
    {e : Expr}
    {es : List Expr}
    {t : TA}
    (c : ExcC K C)
    (hh : A.handled = none)
    (hm : mg x = some (.ref C))
    (hg : Gl (cxOf (CX1 P w) P w K mg base N qual scope f cdv A outer s H E) x)
    (ha : YPA (cxOf (CX1 P w) P w K mg base N qual scope f cdv A outer s H E) (e :: es) t)
    (hd : (x == ("__debug__" : Str)) = false := by decide)
    (he : starEach (e :: es) (cxOf (CX1 P w) P w K mg base N qual scope f cdv A outer s H E).env = (false, eval e (cxOf (CX1 P w) P w K mg base N qual scope f cdv A outer s H E).env) :: starEach es (cxOf (CX1 P w) P w K mg base N qual scope f cdv A outer s H E).env := by rfl)
    (hpl : (backTo cpos (starEach es (cxOf (CX1 P w) P w K mg base N qual scope f cdv A outer s H E).env)).any (·.1) = false := by rfl) : YPS (cxOf (CX1 P w) P w K mg base N qual scope f cdv A outer s H E) (.Raise (some (.Call (.Name x np) (e :: es) [] cpos)) none pos) (tRaise E C t) :=
  ⟨ps_raise c hh hm hg ha.o hd he hpl⟩
end
section
variable {X : Cx} {CX : CXT} {k : Nat} {f C : Addr} {fd : FuncData} {ps : List Str} {sp : Sp} {E : XK} {x m : Str} {p pos apos : Pos} {e o : Expr} {es : List Expr} {ta : TE} {t : TA} {σ0 : St}
theorem zpe_callAt (F : FnOk X.prog X.w X.K X.mg X.base CX k f fd ps sp)
    (hr : Room k X.A)
    (hg : Gl X x)
    (hm : X.mg x = some (.ref f))
    (hk : PySem.W.keepIn X.K (.ref f) = true)
    (hb : Binds X.K fd ps [])
    (hx : PassesAt CX X E σ0)
    (ha : YPA X (e :: es) t)
    (hdb : (x == ("__debug__" : Str)) = false := by decide)
    (he : starEach (e :: es) X.env = (false, eval e X.env) :: starEach es X.env := by rfl)
    (hpl : (backTo pos (starEach es X.env)).any (·.1) = false := by rfl) : YPE X (.Call (.Name x p) (e :: es) [] pos) (tCallAt sp σ0 E t) :=
  ⟨pe_callAt F hr hg hm hk hb hx ha.o hdb he hpl⟩
end
section
variable {X : Cx} {body suite : List Stmt} {b₀ : Stmt} {Ln n : Str} {np hpos pos : Pos} {aL : Addr} {ie : Nat} {tb : St → XK → TS} {th : TS}
theorem zps_try (hcalm : X.calm = true)
    (hstk : X.stack = X.env :: X.outer)
    (hfr : X.env.frame = some X.env.locals)
    (hN : X.N.Nodup)
    (hi : X.N[ie]? = some n)
    (hk : X.env.scope.names.lookup n = some .local)
    (hg : Gl X Ln)
    (hm : X.mg Ln = some (.ref aL))
    (cl : CatchC X.K aL)
    (hb : ∀ pins σ E1, YPSs (cxTry X pins σ E1) body (tb σ E1))
    (hs : ∀ a, YPSs (cxHand X a) (b₀ :: suite) th)
    (hd : (Ln == ("__debug__" : Str)) = false := by decide) : YPS X (.Try body [.ExceptHandler (some (.Name Ln np)) (some n) (b₀ :: suite) hpos] [] [] pos) (tTry X.K aL ie tb th) :=
  ⟨ps_try hcalm hstk hfr hN hi hk hg hm cl (fun pins σ E1 => (hb pins σ E1).o) (fun a => (hs a).o) hd⟩
end
section

theorem zpe_ty {X : Cx}
    {x : Str}
    {n : String}
    {pos : Pos}
    (hg : Gl X x)
    (hm : X.mg x = none)
    (hv : bootBuiltins x = some (.type n))
    (hn : x ≠ "__name__" := by decide)
    (hd : (x == ("__debug__" : Str)) = false := by decide) : YPE X (.Name x pos) (tC (.ty n)) :=
  ⟨pe_ty hg hm hv hn hd⟩
end
section
variable {X : Cx} {K : PySem.W.Frag} {o e : Expr} {es : List Expr} {to : TE} {t : TA} {name : Str} {apos cpos : Pos} {T id : String} {r : V → List V → Hp → VK → Prop}
theorem zpe_bmK (hK : X.K = K)
    (pa : PlainAttrs T)
    (slot : Slot T name id)
    (hty : typeOf (.builtin id) = pure (.type "method_descriptor"))
    (hm : MtR X id r)
    (ho : YPE X o to)
    (ha : YPA X (e :: es) t)
    (hbase : attributeBase o name X.env (eval o X.env) = eval o X.env := by rfl)
    (hfew : ((backTo cpos (starEach (e :: es) X.env)).all (fun x => !x.1) && (backToKw cpos (keywordEach [] X.env)).all (fun x => x.1.isSome)
      && decide ((e :: es).length + ([] : List Keyword).length + (if ([] : List Keyword).isEmpty then 0 else 1) < 30)) = true := by rfl)
    (hline : (apos.endLine == cpos.line) = true := by rfl)
    (hs : starEach (e :: es) X.env = (false, eval e X.env) :: starEach es X.env := by rfl)
    (hplain : (backTo cpos (starEach es X.env)).any (·.1) = false := by rfl) : YPE X (.Call (.Attribute o name apos) (e :: es) [] cpos) (tBM K T r to t) :=
  ⟨pe_bmK hK pa slot hty hm ho.o ha.o hbase hfew hline hs hplain⟩
end
theorem zpa_const {X : Cx} {es : List Expr} {vs : List V} (h : constAll es = some vs) : YPA X es (tConsts vs) :=
  ⟨pa_const h⟩
section
variable {X : Cx} {o i e value : Expr} {pos pos' tpos : Pos} {td ty tv : TE}
theorem zpe_dget (hu : X.A.units + 1 < cLine)
    (ho : YPE X o td)
    (hi : YPE X i ty)
    (hs : NoSl i) : YPE X (.Subscript o i pos) (tDGet td ty) :=
  ⟨pe_dget hu ho.o hi.o hs⟩
end
section
variable {X : Cx} {o i e value : Expr} {pos pos' tpos : Pos} {td ty tv : TE}
theorem zpc_din (hu : X.A.units + 1 < cLine)
    (hi : YPE X i ty)
    (ho : YPE X o td) : YPC X .In i o (tDIn ty td) :=
  ⟨pc_din hu hi.o ho.o⟩
end
section
variable {X : Cx} {o i e value : Expr} {pos pos' tpos : Pos} {td ty tv : TE}
theorem zpc_dnotin (hu : X.A.units + 1 < cLine)
    (hi : YPE X i ty)
    (ho : YPE X o td) : YPC X .NotIn i o (tDNotIn ty td) :=
  ⟨pc_dnotin hu hi.o ho.o⟩
end
section
variable {X : Cx} {o i e value : Expr} {pos pos' tpos : Pos} {td ty tv : TE}
theorem zps_dput (hu : X.A.units + 1 < cLine)
    (ho : YPE X o td)
    (hi : YPE X i ty)
    (hv : YPE X value tv)
    (hs : swapsWith value (some (.Subscript o i pos')) pos.line X.env = pure false) : YPS X (.Assign [.Subscript o i pos'] value pos) (sDPut td ty tv) :=
  ⟨ps_dput hu ho.o hi.o hv.o hs⟩
end
section
variable {X : Cx} {pos : Pos}
theorem zpe_dnewT  : YPE X (.Dict [] [] pos) tDNewT :=
  ⟨pe_dnewT ⟩
end
section
variable {X : Cx} {es : List Expr} {ek : Nat} {ep : Pos}
theorem zpi_enum {a : Expr}
    {ta : TA}
    {p pos : Pos}
    (hg : Gl X "enumerate")
    (hm : X.mg "enumerate" = none)
    (ha : YPA X [a] ta)
    (hs : starEach [a] X.env = [(false, eval a X.env)] := by rfl) : YPI X (.Tuple es ek ep) (.Call (.Name "enumerate" p) [a] [] pos) (iEnum X.K ta) :=
  ⟨pi_enum hg hm ha.o hs⟩
end
section
variable {X : Cx} {tg iter elt : Expr} {ifs : List Expr} {scope : Scope} {y0 : Str} {N' : List Str} {js : List (Option Nat)} {wi : TI} {g : TG} {tc : TT} {te : TE} {pos : Pos}
theorem zpe_lcC (hcalm : X.calm = true)
    (S : CompScopeC scope y0 N' js)
    (hi : YPI X tg iter wi)
    (hg : ∀ C s H ex, YPG (cxCompC X scope N' y0 C s H ex) tg g)
    (hc : ∀ C s H ex, YPIfs (cxCompC X scope N' y0 C s H ex) ifs tc)
    (he : ∀ C s H ex, YPE (cxCompC X scope N' y0 C s H ex) elt te)
    (hs : ∀ x, foldedSetIterable iter X.env x = pure x := by intro _; rfl) : YPE X (.ListComp elt [⟨tg, iter, ifs, 0⟩] scope pos) (tLC wi js g tc te) :=
  ⟨pe_lcC hcalm S hi.o (fun C s H ex => (hg C s H ex).o) (fun C s H ex => (hc C s H ex).o) (fun C s H ex => (he C s H ex).o) hs⟩
end
section
variable {X : Cx} {K : PySem.W.Frag} {tg : Expr}
theorem zpi_str {l : Expr}
    {tl : TE}
    (hl : YPE X l tl) : YPI X tg l (iStr tl) :=
  ⟨pi_str hl.o⟩
end
section
variable {P : Program} {w : World} {K : PySem.W.Frag} {mg : Str → Option Value} {base : Heap}
theorem Fun.zok1 {x qual : Str} {st : Stmt} {f : Addr} {fd : FuncData} {N ps : List Str} {k : Nat} {sp : Sp} (F : Fun K x qual st f fd) (S : FnScope N ps (defScope st)) (len : ∀ vs H Q E, sp vs H Q E → vs.length = ps.length)
    (hb : ∀ (cdv : Value) (A : Around) (outer : List Env) (s : Shared) (H : Hp) (vs : List V) (Q : VK) (E : XK), Room k (A.deeper (envOfC qual (defScope st) s.heap.objs.size f cdv)) → sp vs H Q E →
      ∃ t, YPSs (cxOf (CX1 P w) P w K mg base N qual (defScope st) f cdv A outer s H E).nox (defBody st) t ∧ t { nx := fun _ H' => Q .non H', rt := Q } (start N vs) H) : FnOk P w K mg base (CX1 P w) (k + 1) f fd ps sp :=
  F.ok1 S len fun cdv A outer s H vs Q E hr h => by
    obtain ⟨t, a, b⟩ := hb cdv A outer s H vs Q E hr h
    exact ⟨t, a.o, b⟩
theorem Fun.zokX {x qual : Str} {st : Stmt} {f : Addr} {fd : FuncData} {N ps : List Str} {k : Nat} {sp : Sp} {CX : CXT} (F : Fun K x qual st f fd) (S : FnScope N ps (defScope st)) (len : ∀ vs H Q E, sp vs H Q E → vs.length = ps.length)
    (hb : ∀ (cdv : Value) (A : Around) (outer : List Env) (s : Shared) (H : Hp) (vs : List V) (Q : VK) (E : XK), Room k (A.deeper (envOfC qual (defScope st) s.heap.objs.size f cdv)) → sp vs H Q E →
      ∃ t, YPSs (cxOf CX P w K mg base N qual (defScope st) f cdv A outer s H E) (defBody st) t ∧ t { nx := fun _ H' => Q .non H', rt := Q } (start N vs) H) : FnOk P w K mg base CX (k + 1) f fd ps sp :=
  F.okX S len fun cdv A outer s H vs Q E hr h => by
    obtain ⟨t, a, b⟩ := hb cdv A outer s H vs Q E hr h
    exact ⟨t, a.o, b⟩
end
end L2

set_option Elab.async false
set_option linter.all false
set_option maxRecDepth 100000
/-! a list comprehension that an exception may leave -/
namespace L2
open PySem PySem.Spec PyProof.Rows

section
variable {M : Model} {A : Around} {Ex : Value → Shared → Prop} {s : Shared} {B : Heap} {ev : Env} {rest l : List Env} {F x : Addr} {kc ka fl : Value}
/-- what is no record is another than a record -/
theorem rec_ne {h : Heap} {b c : Addr} {ob oc : Obj} {fs : Array Value} (e1 : h.get? b = some ob) (n : ∀ vs, ob.data ≠ .fields vs) (e2 : h.get? c = some oc) (d : oc.data = .fields fs) : b ≠ c := fun z => by
  subst z
  rw [e1] at e2
  cases e2
  exact n fs d
theorem flight_any {Q : Unit → Shared → Prop} (fr : Option Addr) (st : B.StaysIn s.heap) (ff : s.heap.FunFrames B l) (tr : s.heap.TracedAtW B x kc ka fl)
    (k : ∀ h', B.StaysIn h' → h'.FunFrames B l → (∃ fl', h'.TracedAtW B x kc ka fl') → (∀ b o, s.heap.get? b = some o → (∀ vs, o.data ≠ .fields vs) → h'.get? b = some o) → Q () { s with heap := h' }) :
    wpAny M A (setFlight (.ref x) fr) Q Ex s := by
  obtain ⟨ox, xs, tb, ot, tf, g1, g2, g3, g4, g5, g6, g7, g8, g9⟩ := tr
  have room : 3 < tf.size := (Array.getElem?_eq_some_iff.mp g9).1
  have els : ∀ b, b ≠ tb → (s.heap.update tb (Obj.mapFields (·.setIfInBounds 3 (fr.elim Value.none fun f => rawInt f)))).get? b = s.heap.get? b := fun b nb => Heap.get?_update_other _ _ nb.symm
  unfold setFlight
  refine wpAny_bind (wpAny_field g1 g3 g4 ?_)
  rw [if_pos (by simp)]
  refine wpAny_setField g7 g8 room (k _ (fun b o e => (els b fun z => by rw [z, g5] at e; cases e).trans (st b o e)) (ff.of_keeps fun b o e n => ⟨o, (els b (rec_ne e n g7 g8)).trans e, rfl⟩) ⟨(fr.elim Value.none fun f => rawInt f), ?_⟩ fun b o e n => (els b (rec_ne e n g7 g8)).trans e)
  exact ⟨ox, xs, tb, _, _, (els x g6.symm).trans g1, g2, g3, g4, g5, g6, Heap.get?_update_self _ g7 (Obj.isFreed_of_fields (Obj.data_mapFields g8 _)), Obj.data_mapFields g8 _, by rw [Array.getElem?_setIfInBounds_self_of_lt room]⟩
theorem leaves_any {Q : Unit → Shared → Prop} (fr : A.frames = some (ev :: rest)) (st : B.StaysIn s.heap) (nx : B.get? x = none) (ff : s.heap.FunFrames B (ev :: rest)) (tr : s.heap.TracedAtW B x kc ka fl) (hF : ev.frame = some F)
    (k : ∀ h', Heap.LeftW B (ev :: rest) x kc ka s.heap h' → Q () { s with heap := h' }) : wpAny M A (leaving ev (.ref x)) Q Ex s := by
  by_cases q : fl = rawInt F
  · subst q
    unfold leaving
    refine wpAny_bind (wpAny_noteFrame_againW hF tr ?_)
    exact wpAny_setFlight_noneW st ff tr fun h' a1 a2 a3 a4 => k h' ⟨a1, a2, a3, fun b o e n => ⟨o.slots, a4 b o e n⟩⟩
  · obtain ⟨ox, xs, tb, ot, tf, g1, ⟨gc, g2⟩, g3, g4, g5, g6, g7, g8, g9⟩ := tr
    cases gc
    unfold leaving noteFrame
    simp only [hF]
    refine wpAny_bind (wpAny_bind (wpAny_field g1 g3 g4 ?_))
    rw [if_pos (by simp)]
    refine wpAny_bind (wpAny_field g7 g8 g9 ?_)
    rw [if_neg (by simpa using q)]
    refine wpAny_bind (wpAny_setField g7 g8 (Array.getElem?_eq_some_iff.mp g9).1 ?_)
    have els : ∀ b, b ≠ tb → (s.heap.update tb (Obj.mapFields (·.setIfInBounds 3 Value.none))).get? b = s.heap.get? b := fun b nb => Heap.get?_update_other _ _ nb.symm
    refine wpAny_newEntryW fr (ff.of_keeps fun b o e n => ⟨o, (els b (rec_ne e n g7 g8)).trans e, rfl⟩) hF ((els x g6.symm).trans g1) (fun b o e => (els b fun z => by rw [z, g5] at e; cases e).trans (st b o e)) nx g3 (Array.getElem?_eq_some_iff.mp g4).1 g2 fun h' ⟨a1, a2, a3, a4⟩ => k h' ⟨a1, a2, a3, fun b o e n => a4 b o ((els b (rec_ne e n g7 g8)).trans e) n⟩
/-- fewer lie still -/
theorem FunFrames.less {h B B' : Heap} (sub : ∀ b, B.get? b = none → B'.get? b = none) : ∀ {l : List Env}, h.FunFrames B l → h.FunFrames B' l
  | [], _ => trivial
  | _ :: _, ⟨a, ⟨L, o, e1, e2, e3, e4⟩, r⟩ => ⟨a, ⟨L, o, e1, sub L e2, e3, e4⟩, FunFrames.less sub r⟩
theorem hide_none {B : Heap} {b c : Addr} (e : B.get? b = none) : (B.hide c).get? b = none := by
  cases z : (B.hide c).get? b with
  | none => rfl
  | some o => rw [Heap.of_hide z] at e; cases e
end

/-- what leaves the element: it flies above the frames around, the block's own frame is whole -/
def XEc (X : Cx) (scope : Scope) (N' : List Str) (E : XK) (cl : List (Str × Addr)) (C : Addr) (s : Shared) (H : Hp) (fp : List Addr) (e : Value) (s' : Shared) : Prop :=
  ∃ (a Cc t : Addr) (B : Heap) (pins : List (Addr × Obj)) (σ : St) (H' : Hp), e = .ref a ∧ Inv (cxComp X scope N' cl C s H fp) pins σ H' s' ∧ Heap.FlyingW B X.stack a (.ref Cc) (.ref t) s'.heap ∧ (∀ b u, H' b = some u → ∃ o, B.get? b = some o) ∧
    (∀ b o, s.heap.get? b = some o → b ∉ frs X.stack → b ∉ fp → ∃ o', B.get? b = some o') ∧ E (.ref Cc) none H'
/-- the block's context -/
abbrev cxCompX (X : Cx) (scope : Scope) (N' : List Str) (E : XK) (cl : List (Str × Addr)) (C : Addr) (s : Shared) (H : Hp) (fp : List Addr) : Cx := (cxComp X scope N' cl C s H fp).wish (XEc X scope N' E cl C s H fp)
theorem passC {X : Cx} {scope : Scope} {N' : List Str} {E : XK} {cl : List (Str × Addr)} {C : Addr} {s : Shared} {H : Hp} {fp : List Addr} : Passes (CX1 X.prog X.w) (cxCompX X scope N' E cl C s H fp) E := by
  intro pins σ H1 s1 e s' I ⟨a, Cc, t, B, H', he, os, bare, un, hok, fly, trk, all, q⟩
  have J : Inv (cxComp X scope N' cl C s H fp) pins σ H' s' := I.unwish.call' (s' := s') (ch := []) os un hok bare fun b z => absurd z (by simp)
  refine ⟨a, Cc, t, B, pins, σ, H', he, J, fly, trk, fun b o hb hf hx => ?_, q⟩
  obtain ⟨o1, h1⟩ := I.base.there b o hb hx
  exact all b o1 h1 hf

section
variable {P : Program} {w : World} {K : PySem.W.Frag} {mg : Str → Option Value} {base : Heap} {N : List Str} {qual : Str} {sc : Scope} {f : Addr} {cdv : Value} {A : Around} {outer : List Env} {s0 : Shared} {H0 : Hp} {E : XK}
theorem comp_err {pins : List (Addr × Obj)} {σ : St} {H : Hp} {s : Shared} {scope : Scope} {N' : List Str} {C : Addr} {fp : List Addr} {cl : List (Str × Addr)} {e acc : Value} {s' : Shared} {Q : Value → Shared → Prop}
    (I : Inv (cxOf (CX1 P w) P w K mg base N qual sc f cdv A outer s0 H0 E) pins σ H s) (hf : ∀ b ∈ fp, FpOk (cxOf (CX1 P w) P w K mg base N qual sc f cdv A outer s0 H0 E) pins H b) (hC : s.heap.objs.size ≤ C) (x : XEc (cxOf (CX1 P w) P w K mg base N qual sc f cdv A outer s0 H0 E) scope N' E cl C s H fp e s') :
    notedBy (model P w) (cxOf (CX1 P w) P w K mg base N qual sc f cdv A outer s0 H0 E).A (compEnvC scope cl C (cxOf (CX1 P w) P w K mg base N qual sc f cdv A outer s0 H0 E).env) (fun x s'' => compPost (model P w) (cxOf (CX1 P w) P w K mg base N qual sc f cdv A outer s0 H0 E).A (cxOf (CX1 P w) P w K mg base N qual sc f cdv A outer s0 H0 E).xe none Q acc C (.error x) s'') e s' := by
  obtain ⟨a, Cc, t, B, pins', σ', H', rfl, J, fly, trk, all, q⟩ := x
  have J2 : Inv (cxOf (CX1 P w) P w K mg base N qual sc f cdv A outer s0 H0 E) pins σ H' s' := I.call' (ch := fp) J.os J.base J.hok J.bare fun b hb => ⟨(hf b hb).2.2.2.1, (hf b hb).2.1, (hf b hb).2.2.2.2.1, (hf b hb).2.2.2.2.2⟩
  obtain ⟨m, hm, _⟩ := J.loc
  have hm : s'.heap.Ns C m := hm
  have nC : H' C = none := J.free
  have fC : C ∉ frs (cxOf (CX1 P w) P w K mg base N qual sc f cdv A outer s0 H0 E).stack := fun z => by
    rcases List.mem_cons.mp (I.stkSub C z) with r | r
    · exact absurd (Nat.lt_of_lt_of_le I.lt hC) (by rw [r]; exact Nat.lt_irrefl _)
    · exact I.nofs hC r
  have flB : Heap.FlyingW (B.hide C) (cxOf (CX1 P w) P w K mg base N qual sc f cdv A outer s0 H0 E).stack a (.ref Cc) (.ref t) s'.heap := by
    obtain ⟨f1, f2, f3, ox, xs, tb, ot, tf, g1, g2, g3, g4, g5, g6⟩ := fly
    exact ⟨fun b o z => f1 b o (Heap.of_hide z), hide_none f2, FunFrames.less (fun b z => hide_none z) f3, ox, xs, tb, ot, tf, g1, g2, g3, g4, hide_none g5, g6⟩
  have nf : ∀ b ∈ frs outer, ∀ o, s'.heap.get? b = some o → ∀ vs, o.data ≠ .fields vs := fun b hb o ho vs hd => by
    obtain ⟨_, o', ho', hn⟩ := fly.2.2.1.mem (b := b) (show b ∈ s0.heap.objs.size :: frs outer from List.mem_cons_of_mem _ hb)
    rw [ho] at ho'
    cases ho'
    exact hn vs hd
  have fO : ∀ b ∈ frs outer, b ≠ C := fun b hb z => fC (by rw [← z]; exact List.mem_cons_of_mem _ hb)
  have all' : ∀ b o, s0.heap.get? b = some o → b ∉ frs outer → ∃ o', (B.hide C).get? b = some o' := fun b o ho hb => by
    have lt0 := Heap.lt_size ho
    obtain ⟨o1, h1⟩ := I.base.there b o ho (fun z => absurd z (by show b ∉ ([] : List Addr); simp))
    obtain ⟨o2, h2⟩ := all b o1 h1 (fun z => by
      rcases List.mem_cons.mp (show b ∈ s0.heap.objs.size :: frs outer from z) with z | z
      · exact absurd lt0 (by rw [z]; exact Nat.lt_irrefl _)
      · exact hb z) (fun z => by
      rcases (hf b z).2.2.2.1 with r | r
      · exact absurd r (by show b ∉ ([] : List Addr); simp)
      · exact absurd (Nat.lt_of_lt_of_le lt0 r) (Nat.lt_irrefl _))
    exact ⟨o2, (Heap.hide_ne B (fun z => absurd (Nat.lt_of_lt_of_le (Heap.lt_size h1) (by rw [z]; exact hC)) (Nat.lt_irrefl _))).trans h2⟩
  have trk' : ∀ b u, H' b = some u → ∃ o, (B.hide C).get? b = some o := fun b u hu => by
    obtain ⟨o, ho⟩ := trk b u hu
    exact ⟨o, (Heap.hide_ne B (fun z => by rw [z, nC] at hu; cases hu)).trans ho⟩
  have same : noteFrame (.ref a) (compEnvC scope cl C (cxOf (CX1 P w) P w K mg base N qual sc f cdv A outer s0 H0 E).env) = noteFrame (.ref a) (cxOf (CX1 P w) P w K mg base N qual sc f cdv A outer s0 H0 E).env := by
    unfold noteFrame PySem.frameOf compEnvC
    rfl
  unfold notedBy
  rw [same]
  refine wpAny_looks_onW (L := s0.heap.objs.size) (outer := outer) I.ok.frames rfl flB fun h1 held sl1 => ?_
  refine ⟨m, sl1.ns hm, fun h2 sb cenv _ => ?_⟩
  obtain ⟨oC, es, ep, gC, dC, _⟩ := sl1.ns hm
  have oC' : ∀ vs, oC.data ≠ .fields vs := fun vs z => by rw [dC] at z; cases z
  obtain ⟨k1, k2, k3, ox, xs, tb, ot, tf, g1, g2, g3, g4, g5, g6, g7, g8, g9⟩ := held
  have nx : a ≠ C := (rec_ne gC oC' g1 g3).symm
  have nt : tb ≠ C := (rec_ne gC oC' g7 g8).symm
  have st2 : (B.hide C).StaysIn h2 := fun b o z => (sb.2 b fun r => by rw [r, Heap.hide_self] at z; cases z).trans (k1 b o z)
  have ff2 : h2.FunFrames (B.hide C) (cxOf (CX1 P w) P w K mg base N qual sc f cdv A outer s0 H0 E).stack := by
    have go : ∀ l : List Env, (∀ b ∈ frs l, b ≠ C) → h1.FunFrames (B.hide C) l → h2.FunFrames (B.hide C) l := fun l => by
      induction l with
      | nil => exact fun _ _ => trivial
      | cons v r ih =>
        rintro hn ⟨a1, ⟨L, o, e1, e2, e3, e4⟩, rr⟩
        exact ⟨a1, ⟨L, o, e1, e2, (sb.2 L (hn L (List.mem_filterMap.mpr ⟨v, List.mem_cons_self, e1⟩))).trans e3, e4⟩, ih (fun b hb => hn b (by
          obtain ⟨y, hy, ey⟩ := List.mem_filterMap.mp hb
          exact List.mem_filterMap.mpr ⟨y, List.mem_cons_of_mem _ hy, ey⟩)) rr⟩
    exact go _ (fun b hb z => fC (by rw [← z]; exact hb)) k3
  have tr2 : h2.TracedAtW (B.hide C) a (.ref Cc) (.ref t) (rawInt s0.heap.objs.size) := ⟨ox, xs, tb, ot, tf, (sb.2 a nx).trans g1, g2, g3, g4, g5, g6, (sb.2 tb nt).trans g7, g8, g9⟩
  unfold PySem.passOn
  refine wpAny_bind (wpAny_field (s := { s' with heap := h2 }) ((sb.2 a nx).trans g1) g3 g4 ?_)
  rw [if_neg (by simp)]
  refine wpAny_bind (flight_any (s := { s' with heap := h2 }) cenv.frame st2 ff2 tr2 fun h3 st3 ff3 ⟨fl3, tr3⟩ kp3 => ?_)
  refine wpAny_throw ?_
  show wpAny _ _ (leaving _ (.ref a)) _ _ _
  refine leaves_any (s := { s' with heap := h3 }) (F := s0.heap.objs.size) (rest := outer) I.ok.frames st3 k2 ff3 tr3 rfl fun h4 ⟨st4, ⟨_, _, ff4⟩, tr4, sl4⟩ => ?_
  have slots : ∀ b ∈ frs outer, ∀ o, s'.heap.get? b = some o → ∃ sl, h4.get? b = some { o with slots := sl } := fun b hb o ho => by
    obtain ⟨sa, ea⟩ := sl1 b o ho (nf b hb o ho)
    have eb : h3.get? b = some { o with slots := sa } := kp3 b _ ((sb.2 b (fO b hb)).trans ea) (nf b hb o ho)
    obtain ⟨sc', ec⟩ := sl4 b _ eb (nf b hb o ho)
    exact ⟨sc', ec⟩
  have un : Un (frs outer) [] H0 H' s0.heap h4 := by
    have u := (show Un (frs outer) [] H0 H' s0.heap s'.heap from J2.base)
    refine ⟨fun b o e n hb hx => ?_, fun b o e n hb hx => ?_, u.free, fun b o e hx => ?_, u.tups, u.frzs, u.tbls⟩
    · obtain ⟨o', hB⟩ := all' b o e hb
      have e1 := u.keep b o e n hb hx
      have e2 := flB.1 b o' hB
      rw [e1] at e2
      cases e2
      exact st4 b _ hB
    · obtain ⟨s1, e1⟩ := u.slot b o e n hb hx
      obtain ⟨s2, e2⟩ := slots b hb _ e1
      exact ⟨s2, e2⟩
    · by_cases hb : b ∈ frs outer
      · obtain ⟨o1, e1⟩ := u.there b o e hx
        obtain ⟨s2, e2⟩ := slots b hb _ e1
        exact ⟨_, e2⟩
      · obtain ⟨o', hB⟩ := all' b o e hb
        exact ⟨o', st4 b o' hB⟩
  exact ⟨a, Cc, t, B.hide C, H', rfl, J2.os, J2.bare, un, fly_hok J2.hok flB.1 st4 trk', ⟨st4, k2, ff4, tr4⟩, trk', all', q⟩
end
theorem compLoop_goX {prog : Program} {w : World} {A : Around} {R : Result → Shared → Prop} {s : Shared} {elt target iter : Expr} {ifs : List Expr} {scope : Scope} {pos : Pos} {it acc : Value} {env : Env} (I : Nat → Shared → Prop)
    (turn : ∀ n s, I n s → wpAny (model prog w) A (pyNext it) (fun r s₁ => match r with
      | none => R (.ok .next) s₁
      | some v => wpAny (model prog w) A (letOwnedTupleGo target it v) (fun _ s₁' => wpAny (model prog w) A (assign target env v) (fun _ s₂ =>
          wpAny (model prog w) A (forIn ifs true fun c r => if r = true then do let ok ← isTrue c env (eval c env); pure (ForInStep.yield ok) else pure (ForInStep.yield r)) (fun ok s₃ =>
            if ok = true then wpAny (model prog w) A (eval elt env) (fun x s₄ =>
              wpAny (model prog w) A (call (.builtin "list.append") [acc, x]) (fun _ s₅ => ∃ m, m < n ∧ I m s₅) (fun _ _ => False) s₄) (notedBy (model prog w) A env fun x s' => R (.error x) s') s₃
            else ∃ m, m < n ∧ I m s₃) (fun _ _ => False) s₂) (fun _ _ => False) s₁') (fun _ _ => False) s₁) (fun _ _ => False) s)
    (n : Nat) (h : I n s) : codeAny (model prog w) A (.compLoop (.ListComp elt [⟨target, iter, ifs, 0⟩] scope pos) 0 it acc env) R s := by
  refine codeAny_loop rfl I (fun n s hI => ?_) n h
  show wpAny _ A ((compTurn (.ListComp elt [⟨target, iter, ifs, 0⟩] scope pos) 0 it acc env).onRaise (fun x => do noteFrame x env; theTreesLotGoes x)) _ _ s
  refine wpAny_noted ?_
  rw [compTurn_list]
  refine wpAny_bind (wpAny_standAt (wpAny_bind (wpAny_mono (turn n s hI) (fun r s₁ h₁ => ?_) fun _ _ h' => h'.elim)))
  cases r with
  | none => exact wpAny_pure h₁
  | some v =>
    refine wpAny_bind (wpAny_mono h₁ (fun _ s₁' h₁' => ?_) fun _ _ h' => h'.elim)
    refine wpAny_bind (wpAny_mono h₁' (fun _ s₂ h₂ => wpAny_bind (wpAny_mono h₂ (fun ok s₃ h₃ => ?_) fun _ _ h' => h'.elim)) fun _ _ h' => h'.elim)
    cases ok with
    | false => exact wpAny_pure ⟨rfl, h₃⟩
    | true =>
      exact wpAny_bind (wpAny_bind (wpAny_mono h₃ (fun x s₄ h₄ => wpAny_bind (wpAny_mono h₄ (fun _ s₅ h₅ => wpAny_pure (wpAny_pure ⟨rfl, h₅⟩)) fun _ _ h' => h'.elim)) fun _ _ h' => h'))

section
variable {X : Cx} {tg iter elt : Expr} {ifs : List Expr} {scope : Scope} {N' : List Str} {js : List (Option Nat)} {wi : TI} {g : TG} {tc : TT} {te : TE} {pos : Pos}
/-- the block runs, and may be left -/
theorem comp_blockX {pins : List (Addr × Obj)} {σ : St} {H : Hp} {s : Shared} {E : Value → Shared → Prop} {E0 : XK} {it : Addr} {fp : List Addr} {tn : Nat → Heap → Prop} {J : It} {fin : List V → Hp → Prop} {RR : Value → Addr → Result → Shared → Prop}
    (hcalm : X.calm = true) (S : CompScope X.env.scope X.N scope N' js)
    (hg : ∀ cl C s H ex, PG (cxComp X scope N' cl C s H ex) tg g) (hc : ∀ cl C s H ex, PIfs (cxComp X scope N' cl C s H ex) ifs tc) (he : ∀ cl C s H ex, PE (cxCompX X scope N' E0 cl C s H ex) elt te)
    (I : Inv X pins σ H s) (T : Turn X.prog X.w X.K tg J fp it tn) (st : tn 0 s.heap) (hf : ∀ b ∈ fp, FpOk X pins H b) (L : LCr J H (capS js σ) g tc te fin)
    (hRR : ∀ (D C : Addr) (oC : Obj) (m : Str → Option Value) (H' : Hp) (ys : List V) (s' : Shared), fin ys H' → H' D = none → s.heap.objs.size ≤ C → s'.heap.get? C = some oC → (∀ h'' : Heap, h''.get? C = some oC → h''.Ns C m) → C ≠ D → H' C = none →
      Inv X (pins ++ [(C, oC)]) σ (upd H' D (.lst ys)) s' → RR (.ref D) C (.ok .next) s')
    (hRE : ∀ (acc : Value) (C : Addr) (e : Value) (s' : Shared), s.heap.objs.size ≤ C → XEc X scope N' E0 (clOf X.env.cells scope.names) C s H fp e s' → notedBy (model X.prog X.w) X.A (compEnvC scope (clOf X.env.cells scope.names) C X.env) (fun x s'' => RR acc C (.error x) s'') e s') :
    wpAny (model X.prog X.w) X.A (newList []) (fun acc s₃ => wpAny (model X.prog X.w) X.A (newFunctionEnv scope X.env.globals (clOf X.env.cells scope.names) [] X.env.qual none .none (some X.env)) (fun cenv s₄ =>
      codeAny (model X.prog X.w) X.A (.compStart (.ListComp elt [⟨tg, iter, ifs, 0⟩] scope pos) 0 (.ref it) acc { cenv with scope := relabel scope X.env }) (RR acc cenv.locals) s₄) E s₃) E s := by
  refine wpAny_newObj_type (wpAny_newFunctionEnv S.cell (by intro y hy; simp at hy) (fun h₁ hns₁ hsb₁ => ?_) S.kind)
  dsimp only at hns₁ hsb₁ ⊢
  generalize hH2 : s.heap.push { cls := .type "list", dict := none, data := .seq ([] : List Value).toArray } = H2 at hns₁ hsb₁ ⊢
  have hC : H2.objs.size = s.heap.objs.size + 1 := by rw [← hH2, Heap.size_push]
  have hDC : s.heap.objs.size ≠ H2.objs.size := by rw [hC]; exact Nat.ne_of_lt (Nat.lt_succ_self _)
  have hCle : s.heap.objs.size ≤ H2.objs.size := by rw [hC]; exact Nat.le_succ _
  have old : ∀ b o, s.heap.get? b = some o → h₁.get? b = some o := fun b o e => hsb₁.extBut b o (by rw [hC]; exact Nat.ne_of_lt (Nat.lt_succ_of_lt (Heap.lt_size e))) (Heap.get?_push_of_some _ (hH2 ▸ Heap.get?_push_of_some _ e))
  have hacc : h₁.get? s.heap.objs.size = some (lstO []) := hsb₁.extBut _ _ hDC (Heap.get?_push_of_some _ (hH2 ▸ Heap.get?_push_size _ rfl))
  have fpo : ∀ b ∈ fp, ∃ o, s.heap.get? b = some o := fun b hb => let ⟨o, e, _⟩ := T.obj _ _ st b hb; ⟨o, e⟩
  have fplt : ∀ b ∈ fp, b < s.heap.objs.size := fun b hb => let ⟨o, e⟩ := fpo b hb; Heap.lt_size e
  obtain ⟨W, ⟨m0, w0⟩, turn⟩ := L
  generalize hs5 : ({ s with heap := h₁, toks := s.toks + ([] : List (Str × Value)).length } : Shared) = s5
  have I5 : Inv (cxComp X scope N' (clOf X.env.cells scope.names) H2.objs.size s H fp) [(s.heap.objs.size, lstO [])] (capS js σ) H s5 := by
    subst hs5
    exact comp_start I S hf fpo hCle (Nat.le_refl _) hDC old (by simpa using hns₁) hacc (fun v z => by cases z)
  have st5 : tn 0 s5.heap := by
    subst hs5
    exact T.keep _ _ _ st fun b hb o e => old b o e
  have stat : ∀ {H' : Hp} {its : List Value}, (∀ b ∈ fp, H' b = none) → ∀ b ∈ fp, FpOk (cxComp X scope N' (clOf X.env.cells scope.names) H2.objs.size s H fp) [(s.heap.objs.size, lstO its)] H' b := fun {H' its} hn b hb => by
    obtain ⟨f0, f1, f2, f3, f4, f5⟩ := hf b hb
    have ok := comp_ok (C := H2.objs.size) I S hf fpo hCle
    refine ⟨hn b hb, (ok.exf b hb).1, ok.exfs b hb, .inl hb, (ok.exf b hb).2, fun p hp => ?_⟩
    have e : p = (s.heap.objs.size, lstO its) := List.mem_singleton.mp (show p ∈ [(s.heap.objs.size, lstO its)] from hp)
    rw [e]
    exact Nat.ne_of_gt (fplt b hb)
  have loop : codeAny (model X.prog X.w) X.A (.compLoop (.ListComp elt [⟨tg, iter, ifs, 0⟩] scope pos) 0 (.ref it) (.ref s.heap.objs.size) (compEnvC scope (clOf X.env.cells scope.names) H2.objs.size X.env)) (RR (.ref s.heap.objs.size) H2.objs.size) s5 := by
    refine compLoop_goX (fun n s' => ∃ i H' ys its, Inv (cxComp X scope N' (clOf X.env.cells scope.names) H2.objs.size s H fp) [(s.heap.objs.size, lstO its)] (capS js σ) H' s' ∧ Vals ys its ∧ ys.length ≤ sizeLine ∧ tn i s'.heap ∧ (∀ b ∈ fp, H' b = none) ∧ W i n ys H') ?_ m0
      ⟨0, H, [], [], I5, .nil, Nat.zero_le _, st5, fun b hb => (hf b hb).1, w0⟩
    rintro n s3 ⟨i, H3, ys, its, I3, rv, hz, st3, fr3, w3⟩
    rcases turn i n ys H3 w3 with ⟨stop, qn⟩ | ⟨go, hlt, N, hN, step⟩
    · refine thn (T.done (cxComp X scope N' (clOf X.env.cells scope.names) H2.objs.size s H fp) rfl rfl rfl hcalm i _ s3 _ H3 _ I3 (stat fr3) st3 stop) fun r s4 ⟨hr, I4⟩ => ?_
      subst hr
      obtain ⟨oC, m, e1, e2, e3, e4, I6⟩ := comp_end I hf hCle (Nat.le_refl _) I4 rv hz
      exact hRR _ _ oC m H3 ys s4 qn e3 hCle e1 e4 (Ne.symm hDC) I4.free I6
    · refine thn (T.item (cxComp X scope N' (clOf X.env.cells scope.names) H2.objs.size s H fp) rfl rfl rfl hcalm i _ s3 _ H3 _ I3 (stat fr3) st3 go) fun r s4 ⟨u, hr, h4⟩ => ?_
      subst hr
      refine thn h4 fun _ s5' ⟨x, H5, I5', r5, y5, st5', fr5⟩ => ?_
      have I5'' := I5'.pinned (stat fr5) (T.obj _ _ st5')
      refine thn (hg _ _ _ _ _ _ s5' _ H5 x u _ I5'' r5 (step x H5 y5)) fun _ s6 ⟨σ6, H6, I6, sub6, q6⟩ => ?_
      refine thn (hc _ _ _ _ _ _ s6 σ6 H6 _ I6 q6) fun ok s7 ⟨H7, I7, q7⟩ => ?_
      have back : ∀ {σ7 : St} {H7 : Hp} {s7 : Shared}, Inv (cxComp X scope N' (clOf X.env.cells scope.names) H2.objs.size s H fp) ([(s.heap.objs.size, lstO its)] ++ pinsAt fp s5'.heap) σ7 H7 s7 → σ7.length = (capS js σ).length ∧ tn (i + 1) s7.heap ∧ ∀ b ∈ fp, H7 b = none := fun {σ7 H7 s7} I7 =>
        ⟨by rw [I7.len, I3.len], T.keep _ _ _ st5' fun b hb o e => (I7.pin (b, o) (List.mem_append_right _ (List.mem_append_right _ (mem_pinsAt hb e)))).1, fun b hb => by
          obtain ⟨o, e, d⟩ := T.obj _ _ st5' b hb
          exact (I7.pin (b, o) (List.mem_append_right _ (List.mem_append_right _ (mem_pinsAt hb e)))).2.1⟩
      have down : ∀ {H7 : Hp} {s7 : Shared}, Inv (cxComp X scope N' (clOf X.env.cells scope.names) H2.objs.size s H fp) ([(s.heap.objs.size, lstO its)] ++ pinsAt fp s5'.heap) σ6 H7 s7 →
          Inv (cxComp X scope N' (clOf X.env.cells scope.names) H2.objs.size s H fp) [(s.heap.objs.size, lstO its)] (capS js σ) H7 s7 := fun {H7 s7} I7 => I7.unpinned.weak (back I7).1.symm sub6
      cases ok with
      | false =>
        rw [if_neg Bool.false_ne_true]
        rw [if_neg Bool.false_ne_true] at q7
        obtain ⟨m', hm, w7⟩ := hN _ _ q7
        obtain ⟨b1, b2, b3⟩ := back I7
        exact ⟨m', hm, i + 1, H7, ys, its, down I7, rv, hz, b2, b3, w7⟩
      | true =>
        rw [if_pos rfl]
        rw [if_pos rfl] at q7
        refine wpAny_mono (he _ _ _ _ _ _ s7 σ6 H7 _ (I7.wish _) q7) (fun y s8 ⟨v8, H8, I8w, r8, q8⟩ => ?_) fun e s' z => hRE _ _ e s' hCle z
        have I8 := I8w.unwish
        obtain ⟨m', hm, w8⟩ := hN _ _ q8
        obtain ⟨b1, b2, b3⟩ := back I8
        have I9 := down I8
        obtain ⟨gD, nD, neD, nfD, dD⟩ := I9.pin (s.heap.objs.size, lstO its) (List.mem_append_right _ (List.mem_singleton.mpr rfl))
        have hlen := rv.length
        refine append_at (hsz := by show its.toArray.size ≤ sizeLine; rw [List.size_toArray]; omega) gD fun h₉ hs₉ hD₉ => ?_
        have I10 : Inv (cxComp X scope N' (clOf X.env.cells scope.names) H2.objs.size s H fp) [] (capS js σ) H8 { s8 with heap := h₉ } :=
          (I9.pins_of (pins' := []) fun p hp => nomatch hp).turned (t' := s8.toks) (fun b o hb e => hs₉.extBut b o hb e) nD neD (.inr (Nat.le_refl _)) (fun x c e z => by
            obtain ⟨v, o, ho, hd⟩ := I9.cell x c e
            have gD' : s8.heap.get? s.heap.objs.size = some (lstO its) := gD
            rw [z, gD'] at ho
            cases ho
            exact dD v hd) fun p hp => absurd (show p ∈ ([] : List (Addr × Obj)) from hp) (by simp)
        have eD : h₉.get? s.heap.objs.size = some (lstO (its ++ [y])) := by
          rw [hD₉]
          show some ({ cls := .type "list", data := .seq (its.toArray.push y) (its.length + 1) } : Obj) = some { cls := .type "list", data := .seq (its ++ [y]).toArray (its ++ [y]).length }
          rw [List.length_append, List.length_singleton, List.push_toArray]
        refine ⟨m', hm, i + 1, H8, ys ++ [v8], its ++ [y], I10.pins_of fun p hp => ?_, rv.append (.cons r8 .nil), by rw [List.length_append, List.length_singleton]; omega, T.keep _ _ _ b2 fun b hb o e => hs₉.extBut b o (Nat.ne_of_lt (fplt b hb)) e, b3, w8⟩
        have e := List.mem_singleton.mp hp
        subst e
        exact ⟨eD, nD, neD, nfD, fun v z => by cases z⟩
  have loop' : codeAny (model X.prog X.w) X.A (.compLoop (.ListComp elt [⟨tg, iter, ifs, 0⟩] scope pos) 0 (.ref it) (.ref s.heap.objs.size) { newEnv scope H2.objs.size X.env.globals (clOf X.env.cells scope.names) X.env.qual none .none (some X.env) builtinsNs with scope := relabel scope X.env }) (RR (.ref s.heap.objs.size) H2.objs.size) s5 := loop
  exact codeAny_compStart_list loop' (T.self X.A 0 s5 _ _ st5 loop')

end
section
variable {P : Program} {w : World} {K : PySem.W.Frag} {mg : Str → Option Value} {base : Heap} {N : List Str} {qual : Str} {sc : Scope} {f : Addr} {cdv : Value} {A : Around} {outer : List Env} {s0 : Shared} {H0 : Hp} {E : XK}
variable {tg iter elt : Expr} {ifs : List Expr} {scope : Scope} {N' : List Str} {js : List (Option Nat)} {wi : TI} {g : TG} {tc : TT} {te : TE} {pos : Pos}
/-- [elt for tg in iter if ..] in a def that an exception may leave -/
theorem pe_lcX (S : CompScope (cxOf (CX1 P w) P w K mg base N qual sc f cdv A outer s0 H0 E).env.scope (cxOf (CX1 P w) P w K mg base N qual sc f cdv A outer s0 H0 E).N scope N' js) (hi : PI (cxOf (CX1 P w) P w K mg base N qual sc f cdv A outer s0 H0 E) tg iter wi)
    (hg : ∀ cl C s H ex, PG (cxComp (cxOf (CX1 P w) P w K mg base N qual sc f cdv A outer s0 H0 E) scope N' cl C s H ex) tg g) (hc : ∀ cl C s H ex, PIfs (cxComp (cxOf (CX1 P w) P w K mg base N qual sc f cdv A outer s0 H0 E) scope N' cl C s H ex) ifs tc) (he : ∀ cl C s H ex, PE (cxCompX (cxOf (CX1 P w) P w K mg base N qual sc f cdv A outer s0 H0 E) scope N' E cl C s H ex) elt te)
    (hs : ∀ x, foldedSetIterable iter (cxOf (CX1 P w) P w K mg base N qual sc f cdv A outer s0 H0 E).env x = pure x := by intro _; rfl) : PE (cxOf (CX1 P w) P w K mg base N qual sc f cdv A outer s0 H0 E) (.ListComp elt [⟨tg, iter, ifs, 0⟩] scope pos) (tLC wi js g tc te) := by
  intro pins s σ H Q I h
  rw [eval_ListComp]
  refine wpAny_comprehension_free (use := none) rfl hs (closure_is (comp_cells I S).1) S.kind S.names ?_
  refine thn (hi pins s σ H _ I h) fun xv s₁ h₁ => thn h₁ fun itv s₂ h₂ => ?_
  obtain ⟨it, fp, tn, J, H2, e, I2, T, st2, f2, L⟩ := h₂
  subst e
  refine comp_blockX (RR := fun acc C => compPost (model P w) (cxOf (CX1 P w) P w K mg base N qual sc f cdv A outer s0 H0 E).A (cxOf (CX1 P w) P w K mg base N qual sc f cdv A outer s0 H0 E).xe none (EP (cxOf (CX1 P w) P w K mg base N qual sc f cdv A outer s0 H0 E) pins σ Q) acc C) rfl S hg hc he I2 T st2 f2 L (fun D C oC m H' ys s' fn hD hCle gC hNs hCD nC I' => ?_) fun acc C e s' hCle z => comp_err I2 f2 hCle z
  refine ⟨m, hNs _ gC, fun h'' hs'' => ?_⟩
  have I3 : Inv (cxOf (CX1 P w) P w K mg base N qual sc f cdv A outer s0 H0 E) pins σ (upd H' D (.lst ys)) s' := I'.unpinned
  obtain ⟨_, _, pL, pfs, _⟩ := I'.pin (C, oC) (List.mem_append_right _ (List.mem_append_right _ (List.mem_singleton.mpr rfl)))
  have I4 : Inv (cxOf (CX1 P w) P w K mg base N qual sc f cdv A outer s0 H0 E) pins σ (upd H' D (.lst ys)) { s' with heap := h'' } := I3.turned (t' := s'.toks) (it := C) (fun b o hb e => hs''.extBut b o hb e) (by rw [upd_ne hCD]; exact nC) pL (.inr (Nat.le_trans I2.sz hCle)) (fun x c e z => by
    obtain ⟨v, o, ho, hd⟩ := I2.cell x c e
    exact absurd (Nat.lt_of_lt_of_le (Heap.lt_size ho) (by rw [z]; exact hCle)) (Nat.lt_irrefl _)) fun p hp z => by
    have q := (I2.pin p hp).1
    exact absurd (Nat.lt_of_lt_of_le (Heap.lt_size q) (by rw [z]; exact hCle)) (Nat.lt_irrefl _)
  exact ⟨.ref D, _, I4, rfl, fn D hD⟩
end
end L2

set_option Elab.async false
set_option linter.all false
set_option maxRecDepth 100000
/-! a part of a text (only its length is told); text.find; a for over a text -/
namespace L2
open PySem PySem.Spec PyProof.Rows
section
variable {X : Cx}
/-- z[lo:hi], of which nothing is told but that it is no longer than z -/
def rSlS : V → Option Int → Option Int → Hp → VK → Prop := fun x lo hi H Q => ∃ z : Str, x = .str z ∧ z.length ≤ 1000 ∧ ∀ y : Str, y.length ≤ z.length → Q (.str y) H
theorem part_value {v : Value} {o : Option Int} (h : IsPart v o) : ∃ p : Option (Int × Tok), v = partValue p := by
  cases h with
  | none => exact ⟨none, rfl⟩
  | int i t => exact ⟨some (i, t), rfl⟩
theorem sl_str : SlR X rSlS := by
  intro pins s σ H x v vl vu lo hi sl Q I rx hs pl pu h
  obtain ⟨z, rfl, hz, q⟩ := h
  obtain ⟨t, rfl⟩ := rx
  obtain ⟨l, rfl⟩ := part_value pl
  obtain ⟨u, rfl⟩ := part_value pu
  have hL : sizeLine = 16777216 := sizeLine_eq
  refine ⟨"str", _, F.slot_str_getitem.lookup, typeIs_str _ _ _, ?_⟩
  refine wpAny_getItem_str_slice (l := l) (u := u) (st := none) hs rfl ?_
  have short : (slicePicked z l u none).length ≤ z.length := sliceIndices_le _ _ _
  unfold sliceMade
  by_cases c : (((none : Option (Int × Tok)).map (·.1)).getD 1 == 1 && (slicePicked z l u none).length == z.length) = true
  · rw [if_pos c]
    exact ⟨.str z, H, I, ⟨_, rfl⟩, q z (Nat.le_refl _)⟩
  · rw [if_neg c]
    have le : (⟨((slicePicked z l u none).filterMap (z.cps[·]?)).toArray⟩ : Str).length ≤ z.length := by
      show (((slicePicked z l u none).filterMap (z.cps[·]?)).toArray).size ≤ _
      rw [List.size_toArray]
      exact Nat.le_trans (List.length_filterMap_le ..) short
    exact ⟨by omega, .str _, H, I.tok _, ⟨_, rfl⟩, q _ le⟩
def rFind : V → List V → Hp → VK → Prop := fun x vs H Q => ∃ z y : Str, x = .str z ∧ vs = [.str y] ∧ Q (.int (Txt.find z y)) H
theorem mt_find : MtR X "str.find" rFind := by
  intro pins s σ H x vs v us Q I rx rv h
  obtain ⟨z, y, rfl, rfl, q⟩ := h
  obtain ⟨t, rfl⟩ := rx
  obtain ⟨u', rfl, eu⟩ := vals1 rv
  obtain ⟨u, rfl⟩ := eu
  refine call_meets F.slot_str_find (typeIs_str _ _ _) F.entry_str_find (F.args_str_find_2 _ _) (gives_str_find z y t u).meets ?_
  exact ⟨.int _, H, I.tok _, ⟨_, rfl⟩, q⟩
/-- over a text -/
theorem for_str {x : Str} {g : TG} {tb : TS} {D : Ends} {σ : St} {H : Hp} (Pv : Nat → St → Hp → Prop) (h0 : Pv 0 σ H)
    (hs : ∀ i c σ H, x.cps.toList[i]? = some c → Pv i σ H → g (sg c) σ H fun σ2 H2 => tb { D with nx := Pv (i + 1), ct := Pv (i + 1), bk := D.nx } σ2 H2) (hd : ∀ σ H, Pv x.cps.toList.length σ H → D.nx σ H) :
    ∃ W : Nat → Nat → St → Hp → Prop, (∃ m, W 0 m σ H) ∧ ∀ i m σ H, W i m σ H →
      ((Its x).stop i H ∧ D.nx σ H) ∨ ((Its x).go i H ∧ ∃ N : St → Hp → Prop, (∀ σ' H', N σ' H' → ∃ m', m' < m ∧ W (i + 1) m' σ' H') ∧ ∀ y H', (Its x).yld i H y H' → g y σ H' fun σ2 H2 => tb { D with nx := N, ct := N, bk := D.nx } σ2 H2) := by
  refine ⟨fun i m σ H => m = x.cps.toList.length - i ∧ i ≤ x.cps.toList.length ∧ Pv i σ H, ⟨_, rfl, Nat.zero_le _, h0⟩, ?_⟩
  rintro i m σ H ⟨rfl, hi, p⟩
  by_cases hlt : i < x.cps.toList.length
  · refine .inr ⟨hlt, Pv (i + 1), fun σ' H' p' => ⟨x.cps.toList.length - (i + 1), by omega, rfl, hlt, p'⟩, fun y H' z => ?_⟩
    obtain ⟨e1, c, e2, e3⟩ := z
    have e : x.cps.toList[i]? = some x.cps.toList[i] := List.getElem?_eq_getElem hlt
    rw [e] at e2
    cases e2
    subst e1 e3
    exact hs i _ σ _ e p
  · have e : i = x.cps.toList.length := by omega
    subst e
    exact .inl ⟨Nat.le_refl _, hd σ H p⟩
end
end L2

set_option Elab.async false
set_option linter.all false
set_option maxRecDepth 100000
namespace L2
open PySem PySem.Spec PyProof.Rows
section
variable {P : Program} {w : World} {K : PySem.W.Frag} {mg : Str → Option Value} {base : Heap} {N : List Str} {qual : Str} {sc : Scope} {f : Addr} {cdv : Value} {A : Around} {outer : List Env} {s0 : Shared} {H0 : Hp} {E : XK}
variable {tg iter elt : Expr} {ifs : List Expr} {scope : Scope} {N' : List Str} {js : List (Option Nat)} {wi : TI} {g : TG} {tc : TT} {te : TE} {pos : Pos}
theorem zpe_lcX (S : CompScope (cxOf (CX1 P w) P w K mg base N qual sc f cdv A outer s0 H0 E).env.scope (cxOf (CX1 P w) P w K mg base N qual sc f cdv A outer s0 H0 E).N scope N' js) (hi : YPI (cxOf (CX1 P w) P w K mg base N qual sc f cdv A outer s0 H0 E) tg iter wi)
    (hg : ∀ cl C s H ex, YPG (cxComp (cxOf (CX1 P w) P w K mg base N qual sc f cdv A outer s0 H0 E) scope N' cl C s H ex) tg g) (hc : ∀ cl C s H ex, YPIfs (cxComp (cxOf (CX1 P w) P w K mg base N qual sc f cdv A outer s0 H0 E) scope N' cl C s H ex) ifs tc) (he : ∀ cl C s H ex, YPE (cxCompX (cxOf (CX1 P w) P w K mg base N qual sc f cdv A outer s0 H0 E) scope N' E cl C s H ex) elt te)
    (hs : ∀ x, foldedSetIterable iter (cxOf (CX1 P w) P w K mg base N qual sc f cdv A outer s0 H0 E).env x = pure x := by intro _; rfl) : YPE (cxOf (CX1 P w) P w K mg base N qual sc f cdv A outer s0 H0 E) (.ListComp elt [⟨tg, iter, ifs, 0⟩] scope pos) (tLC wi js g tc te) :=
  ⟨pe_lcX S hi.o (fun cl C s H ex => (hg cl C s H ex).o) (fun cl C s H ex => (hc cl C s H ex).o) (fun cl C s H ex => (he cl C s H ex).o) hs⟩
end
end L2

set_option Elab.async false
set_option linter.all false
set_option maxRecDepth 100000
namespace Lit
open PySem L2
/-! ### the mirror: each def's value over plain lists -/
def shapes : List Int := [63, 6, 91, 79, 102, 109, 125, 7, 127, 111]
def strokes : List Int := [1, 2, 4, 8, 16, 32, 64]
def isLit (stroke : Int) (mark : Str) (whole : Int) : Bool := if mark = "good" then !decide (Builtin.bitAnd whole stroke = 0) else decide (mark = "stuck")
def shapeM (f : Int) : Int := shapes.getD f.toNat 0
def litAt (whole : Int) (p : Int × Str) : Bool := isLit p.1 p.2 whole
def seenM (f : Int) (ms : List Str) : Int := (((strokes.zip ms).filter (litAt (shapeM f))).map (·.1)).sum
def figsTo (n : Nat) : List Int := (List.range n).map fun (i : Nat) => (i : Int)
def mayM (look : Int) (ms : List Str) : List Int := (figsTo 10).filter fun f => decide (seenM f ms = look)
def worthsM (n : Nat) : List Int := (List.range n).map fun k => (10 : Int) ^ (n - 1 - k)
def mixM (cell k : Int) : Int :=
  let a := (cell * 69621 + 7001 * k + 3) % 2147483629
  let b := (a * a + 39373 * a + k) % 2147483647
  (b * b + 16807 * b + 7 * k) % 2147483587
/-! ### data -/
abbrev dP (ms : List Str) : PyData := .list (ms.map .str)
abbrev dPs (pn : List (List Str)) : List PyData := pn.map dP
theorem rep_place {K : PySem.W.Frag} {H : Hp} {v : V} {ms : List Str} (h : Rep K H v (dP ms)) : ∃ a, v = .ref a ∧ SqL K H a (ms.map V.str) := by
  cases h with
  | list q r => exact ⟨_, rfl, by rw [← RepAll.strs_inv r]; exact q⟩
theorem rep_list {K : PySem.W.Frag} {H : Hp} {v : V} {ds : List PyData} (h : Rep K H v (.list ds)) : ∃ a xs, v = .ref a ∧ SqL K H a xs ∧ RepAll K H xs ds := by
  cases h with
  | list q r => exact ⟨_, _, rfl, q, r⟩
/-! ### the text -/
def top (i : Nat) : Stmt := PySem.Challenge.pw_litfigures_k13_read.main.body.getD i (.Pass ⟨0, 0, 0, 0⟩)
/-- Python's own names, and the module's tables -/
structure Txt (K : PySem.W.Frag) (mg : Str → Option Value) (aS aT : Addr) : Prop where
  range : mg "range" = none
  len : mg "len" = none
  zip : mg "zip" = none
  sum : mg "sum" = none
  min : mg "min" = none
  max : mg "max" = none
  list : mg "list" = none
  int : mg "int" = none
  str : mg "str" = none
  bool : mg "bool" = none
  isinstance : mg "isinstance" = none
  reversed : mg "reversed" = none
  tuple : mg "tuple" = none
  all : mg "all" = none
  enumerate : mg "enumerate" = none
  ValueError : mg "ValueError" = none
theorem dec_str' (x y : Str) : decide (V.str x = V.str y) = decide (x = y) := by
  by_cases e : x = y
  · subst e; simp
  · rw [decide_eq_false e, decide_eq_false fun q => e (V.str.inj q)]
theorem dec_int' (x y : Int) : decide (V.int x = V.int y) = decide (x = y) := by
  by_cases e : x = y
  · subst e; simp
  · rw [decide_eq_false e, decide_eq_false fun q => e (V.int.inj q)]
theorem filter_take {α : Type} (p : α → Bool) (xs : List α) (i : Nat) (x : α) (h : xs[i]? = some x) : (xs.take (i + 1)).filter p = (xs.take i).filter p ++ (if p x = true then [x] else []) := by
  rw [List.take_add_one, h, List.filter_append]
  cases e : p x <;> simp [e]
/-- a new list of these ints is handed out, all else stays -/
def Gives (H : Hp) (Q : VK) (ns : List Int) : Prop := ∀ l H', Same H H' → H l = none → H' l = some (.lst (ns.map V.int)) → Q (.ref l) H'
theorem small_line {n : Nat} (h : n ≤ 1000000) : n < sizeLine := Nat.lt_of_le_of_lt h (by decide)
theorem figsTo_succ (n : Nat) : figsTo (n + 1) = figsTo n ++ [(n : Int)] := by
  unfold figsTo
  rw [List.range_succ, List.map_append]
  rfl
theorem map_take {α β : Type} (f : α → β) (xs : List α) (i : Nat) (x : α) (h : xs[i]? = some x) : (xs.take (i + 1)).map f = (xs.take i).map f ++ [f x] := by
  rw [List.take_add_one, h, List.map_append]
  rfl
theorem int_get {ns : List Int} {i : Nat} {x : V} (h : (ns.map V.int)[i]? = some x) : ∃ n, ns[i]? = some n ∧ x = .int n := by
  rw [List.getElem?_map] at h
  cases q : ns[i]? with
  | none => rw [q] at h; cases h
  | some n => rw [q] at h; cases h; exact ⟨n, rfl, rfl⟩
def cellM (ns : List Int) (k : Nat) : Int := ns.getD k 0
def pickM (ns : List Int) (k : Nat) : Int := if k < ns.length then ns.getD k 0 else (cellM ns 0 + 7 * (k : Int) + 3) * 48271 % 2147483647 / 13
theorem mod64 (x m : Int) (h : 0 < m) (h2 : m < 2 ^ 63) : -(2 ^ 64) < x % m ∧ x % m < 2 ^ 64 := ⟨by have := Int.emod_nonneg x (show m ≠ 0 by omega); omega, by have := Int.emod_lt_of_pos x h; omega⟩
/-- a mark -/
def IsMark (m : Str) : Prop := m = "good" ∨ m = "dead" ∨ m = "stuck"
def GoodPlace (ms : List Str) : Prop := ms.length = 7 ∧ ∀ m ∈ ms, IsMark m
theorem mark_ok {m : Str} (h : IsMark m) : PyData.strOk m = true := by rcases h with rfl | rfl | rfl <;> decide +kernel
theorem plainM {ms : List Str} (h : GoodPlace ms) : Plain 1 (dP ms) := Plain.strs ms fun x hx => mark_ok (h.2 x hx)
theorem eqv_ints : ∀ (ns ms : List Int), PyData.eqvAll (ns.map .int) (ms.map .int) = decide (ns = ms)
  | [], [] => by simp [PyData.eqvAll]
  | [], _ :: _ => by simp [PyData.eqvAll]
  | _ :: _, [] => by simp [PyData.eqvAll]
  | n :: ns, m :: ms => by
    simp only [List.map_cons, PyData.eqvAll, PyData.eqv, eqv_ints ns ms, List.cons.injEq, Bool.decide_and]
    congr 1
theorem eqv_list (ns ms : List Int) : PyData.eqv (.list (ns.map .int)) (.list (ms.map .int)) = decide (ns = ms) := by
  rw [PyData.eqv]
  exact eqv_ints ns ms
def spLaw (K : PySem.W.Frag) : Sp := fun vs H Q _ => ∃ (a : Addr) (ns : List Int), vs = [.ref a] ∧ SqL K H a (ns.map V.int) ∧ ns.length ≤ 63 ∧ ∀ H', Q (.bl true) H'
def litL (m : Str) (has : Bool) : Bool := if m = "good" then has else decide (m = "stuck")
def hasT : List (List Bool) := [[true, true, true, true, true, true, false], [false, true, true, false, false, false, false], [true, true, false, true, true, false, true], [true, true, true, true, false, false, true], [false, true, true, false, false, true, true],
  [true, false, true, true, false, true, true], [true, false, true, true, true, true, true], [true, true, true, false, false, false, false], [true, true, true, true, true, true, true], [true, true, true, true, false, true, true]]
def hasM (f s : Nat) : Bool := (hasT.getD f []).getD s false
def b2n (b : Bool) : Int := if b = true then 1 else 0
def lseenTo (f : Nat) (ms : List Str) : Nat → Int
  | 0 => 0
  | i + 1 => 2 * lseenTo f ms i + b2n (litL (ms.getD (6 - i) "") (hasM f (6 - i)))
def lseenM (f : Nat) (ms : List Str) : Int := lseenTo f ms 7
theorem has_bits : ∀ f, f < 10 → ∀ s, s < 7 → (!decide (Builtin.bitAnd (shapeM (f : Nat)) (strokes.getD s 0) = 0)) = hasM f s := by decide +kernel
theorem filter_sum (p : Int × Str → Bool) : ∀ l : List (Int × Str), ((l.filter p).map (·.1)).sum = (l.map fun x => x.1 * b2n (p x)).sum
  | [] => rfl
  | x :: l => by
    rw [List.filter_cons, List.map_cons, List.sum_cons, ← filter_sum p l]
    unfold b2n
    split
    · simp
    · simp
theorem lit_bits {f s : Nat} (hf : f < 10) (hs : s < 7) (m : Str) : isLit (strokes.getD s 0) m (shapeM f) = litL m (hasM f s) := by
  unfold isLit litL
  rw [has_bits f hf s hs]
theorem seen_law {f : Nat} (hf : f < 10) {ms : List Str} (hm : ms.length = 7) : seenM f ms = lseenM f ms := by
  match ms, hm with
  | [m0, m1, m2, m3, m4, m5, m6], _ =>
    unfold seenM lseenM
    rw [filter_sum]
    simp only [strokes, List.zip_cons_cons, List.zip_nil_right, List.map_cons, List.map_nil, List.sum_cons, List.sum_nil, litAt, lseenTo]
    have h0 := lit_bits hf (show 0 < 7 by decide) m0
    have h1 := lit_bits hf (show 1 < 7 by decide) m1
    have h2 := lit_bits hf (show 2 < 7 by decide) m2
    have h3 := lit_bits hf (show 3 < 7 by decide) m3
    have h4 := lit_bits hf (show 4 < 7 by decide) m4
    have h5 := lit_bits hf (show 5 < 7 by decide) m5
    have h6 := lit_bits hf (show 6 < 7 by decide) m6
    simp only [strokes, List.getD_cons_zero, List.getD_cons_succ] at h0 h1 h2 h3 h4 h5 h6
    rw [h0, h1, h2, h3, h4, h5, h6]
    simp only [List.getD_cons_zero, List.getD_cons_succ, Nat.sub_zero, Nat.reduceSub]
    omega
theorem shape_good {f : Nat} (hf : f < 10) : shapeM f = lseenM f ["good", "good", "good", "good", "good", "good", "good"] := by
  have : ∀ f, f < 10 → shapeM (f : Nat) = lseenM f ["good", "good", "good", "good", "good", "good", "good"] := by decide +kernel
  exact this f hf
def shownM (n : Nat) (pn : List (List Str)) : List Int := ((worthsM pn.length).zip pn).map fun p => seenM ((n : Int) / p.1 % 10) p.2
def lenM (hs ls : List Int) : List Int := hs.flatMap fun h => ls.map fun l => h * 10 + l
def numbersM (ls : List Int) (pn : List (List Str)) : List Int := (ls.zip pn).foldl (fun hs p => lenM hs (mayM p.1 p.2)) [0]
def pairOf (ls : List Int) : Option (Int × Int) := match ls with
  | a :: b :: _ => some (a, b)
  | _ => none
def alikeTo (n : Nat) (ms : List Str) : Option (Int × Int) := (figsTo n).findSome? fun f => pairOf (mayM (seenM f ms) ms)
def pairsM (pn : List (List Str)) : List (Int × Int) := ((worthsM pn.length).zip pn).filterMap fun p => (alikeTo 10 p.2).map fun q => (q.1 * p.1, q.2 * p.1)
def alikeM (pn : List (List Str)) : Option (Int × Int) := (leastIx ((pairsM pn).map fun q => [q.1, q.2])).bind fun j => (pairsM pn)[j]?
theorem worths_len (n : Nat) : (worthsM n).length = n := by simp [worthsM]
theorem worths_at {n i : Nat} (h : i < n) : (worthsM n)[i]? = some ((10 : Int) ^ (n - 1 - i)) := by simp [worthsM, h]
theorem dPs_get {K : PySem.W.Frag} {H : Hp} {xs : List V} {pn : List (List Str)} {i : Nat} {x : V} (h : RepAll K H xs (dPs pn)) (e : xs[i]? = some x) : ∃ ms, pn[i]? = some ms ∧ Rep K H x (dP ms) := by
  obtain ⟨d, e1, e2⟩ := h.get e
  rw [List.getElem?_map] at e1
  cases q : pn[i]? with
  | none => rw [q] at e1; cases e1
  | some ms => rw [q] at e1; cases e1; exact ⟨ms, rfl, e2⟩
theorem p10 {k : Nat} (h : k ≤ 8) : (0 : Int) < 10 ^ k ∧ (10 : Int) ^ k < 1073741824 := by
  have : k = 0 ∨ k = 1 ∨ k = 2 ∨ k = 3 ∨ k = 4 ∨ k = 5 ∨ k = 6 ∨ k = 7 ∨ k = 8 := by omega
  rcases this with rfl | rfl | rfl | rfl | rfl | rfl | rfl | rfl | rfl <;> decide
/-- a panel of few whole places -/
structure PanelAt (K : PySem.W.Frag) (H : Hp) (v : V) (pn : List (List Str)) : Prop where
  rep : Rep K H v (.list (dPs pn))
  few : pn.length ≤ 4
  whole : ∀ (i : Nat) (ms : List Str), pn[i]? = some ms → ms.length = 7
theorem PanelAt.same {K : PySem.W.Frag} {H H' : Hp} {v : V} {pn : List (List Str)} (h : PanelAt K H v pn) (s : Same H H') : PanelAt K H' v pn := ⟨h.rep.same s, h.few, h.whole⟩
abbrev s_l_cell_at : Stmt := top 13
abbrev s_l_pick : Stmt := top 14
abbrev s_l_mix : Stmt := top 15
abbrev s_l_place : Stmt := top 16
abbrev s_l_panel : Stmt := top 17
section
variable {P : Program} {w : World} {K : PySem.W.Frag} {mg : Str → Option Value} {base : Heap} {aS aT : Addr}
theorem sc_l_cell_at : FnScope ["script", "k"] ["script", "k"] (defScope s_l_cell_at) := ⟨rfl, rfl, rfl, by decide +kernel, rfl, by decide +kernel, by decide +kernel⟩
def sp_l_cell_at (K : PySem.W.Frag) : Sp := fun vs H Q _ => ∃ (a : Addr) (ns : List Int) (k : Nat), vs = [.ref a, .int k] ∧ SqL K H a (ns.map V.int) ∧ Q (.int (cellM ns k)) H
theorem ok_l_cell_at {f : Addr} {fd : FuncData} (F : Fun K "_law_cell_at" "_law_cell_at" s_l_cell_at f fd) (T : Txt K mg aS aT) : FnOk P w K mg base (CX1 P w) 1 f fd ["script", "k"] (sp_l_cell_at K) := by
  refine F.zok1 sc_l_cell_at (fun vs H Q E h => ?_) (fun cdv A outer s H vs Q E hr h => ?_)
  · obtain ⟨a, ns, k, rfl, _⟩ := h
    rfl
  · obtain ⟨a, ns, k, rfl, ha, q⟩ := h
    refine ⟨_, (zpss_cons (zps_if (zpt_cmpR op_lt (zpv 1) (zpe_callB call_len_seq rfl T.len PySem.boot_len (zpa_cons (zpv 0) zpa_nil)) (nomark _)) (zpss_one (zps_ret (zpe_ix ix_list (zpv 0) (zpv 1) (fun _ _ => rfl)))) zpss_nil) (zpss_one (zps_ret zpe_int))), ?_⟩
    refine ⟨_, rfl, _, rfl, a, _, rfl, .inl ha, _, _, rfl, rfl, _, rfl, ?_⟩
    rw [List.length_map]
    unfold cellM at q
    by_cases h : k < ns.length
    · rw [decide_eq_true (by omega)]
      rw [List.getD_eq_getElem?_getD, List.getElem?_eq_getElem h] at q
      refine iteT ⟨_, rfl, _, rfl, a, _, _, .int ns[k], rfl, rfl, ha, atI_nat ?_, q⟩
      rw [List.getElem?_map, List.getElem?_eq_getElem h]
      rfl
    · rw [decide_eq_false (by omega)]
      rw [List.getD_eq_getElem?_getD, List.getElem?_eq_none (by omega)] at q
      exact iteF q

theorem sc_l_pick : FnScope ["script", "k"] ["script", "k"] (defScope s_l_pick) := ⟨rfl, rfl, rfl, by decide +kernel, rfl, by decide +kernel, by decide +kernel⟩
def sp_l_pick (K : PySem.W.Frag) : Sp := fun vs H Q _ => ∃ (a : Addr) (ns : List Int) (k : Nat), vs = [.ref a, .int k] ∧ SqL K H a (ns.map V.int) ∧ Q (.int (pickM ns k)) H
theorem ok_l_pick {f f1 : Addr} {fd fd1 : FuncData} (F : Fun K "_law_pick" "_law_pick" s_l_pick f fd) (T : Txt K mg aS aT) (T_l_cell_at : FnAt K mg "_law_cell_at" ["script", "k"] f1 fd1) (G_l_cell_at : FnOk P w K mg base (CX1 P w) 1 f1 fd1 ["script", "k"] (sp_l_cell_at K)) :
    FnOk P w K mg base (CX1 P w) 2 f fd ["script", "k"] (sp_l_pick K) := by
  refine F.zok1 sc_l_pick (fun vs H Q E h => ?_) (fun cdv A outer s H vs Q E hr h => ?_)
  · obtain ⟨a, ns, k, rfl, _⟩ := h
    rfl
  · obtain ⟨a, ns, k, rfl, ha, q⟩ := h
    refine ⟨_, (zpss_cons (zps_if (zpt_cmpR op_lt (zpv 1) (zpe_callB call_len_seq rfl T.len PySem.boot_len (zpa_cons (zpv 0) zpa_nil)) (nomark _)) (zpss_one (zps_ret (zpe_ix ix_list (zpv 0) (zpv 1) (fun _ _ => rfl)))) zpss_nil) (zpss_one (zps_ret (zpe_op op_fdiv (zpe_op op_mod (zpe_op op_mul (zpe_op op_add (zpe_op op_add (zpe_call G_l_cell_at (hr.mono (by decide)) rfl T_l_cell_at.m T_l_cell_at.k T_l_cell_at.b .nil pass1n (zpa_cons (zpv 0) (zpa_cons zpe_int zpa_nil))) (zpe_op op_mul zpe_int (zpv 1))) zpe_int) zpe_int) zpe_int) zpe_int)))), ?_⟩
    refine ⟨_, rfl, _, rfl, a, _, rfl, .inl ha, _, _, rfl, rfl, _, rfl, ?_⟩
    rw [List.length_map]
    unfold pickM at q
    by_cases h : k < ns.length
    · rw [if_pos h] at q
      rw [decide_eq_true (by omega)]
      rw [List.getD_eq_getElem?_getD, List.getElem?_eq_getElem h] at q
      refine iteT ⟨_, rfl, _, rfl, a, _, _, .int ns[k], rfl, rfl, ha, atI_nat ?_, q⟩
      rw [List.getElem?_map, List.getElem?_eq_getElem h]
      rfl
    · rw [if_neg h] at q
      rw [decide_eq_false (by omega)]
      refine iteF ⟨_, rfl, a, ns, 0, rfl, ha, _, rfl, _, _, rfl, rfl, .inl ⟨by decide, by decide⟩, _, _, rfl, rfl, _, _, rfl, rfl, _, _, rfl, rfl, .inr ⟨by decide, by decide⟩, _, _, rfl, rfl, (by show (0 : Int) < 2147483647; decide), _, _, rfl, rfl, ⟨by decide, by decide⟩, q⟩

theorem sc_l_mix : FnScope ["cell", "k", "mixed"] ["cell", "k"] (defScope s_l_mix) := ⟨rfl, rfl, rfl, by decide +kernel, rfl, by decide +kernel, by decide +kernel⟩
def sp_l_mix : Sp := fun vs H Q _ => ∃ (c : Int) (k : Nat), vs = [.int c, .int k] ∧ Q (.int (mixM c k)) H
theorem ok_l_mix {f : Addr} {fd : FuncData} (F : Fun K "_law_mix" "_law_mix" s_l_mix f fd) (T : Txt K mg aS aT) : FnOk P w K mg base (CX1 P w) 1 f fd ["cell", "k"] sp_l_mix := by
  refine F.zok1 sc_l_mix (fun vs H Q E h => ?_) (fun cdv A outer s H vs Q E hr h => ?_)
  · obtain ⟨c, k, rfl, _⟩ := h
    rfl
  · obtain ⟨c, k, rfl, q⟩ := h
    refine ⟨_, (zpss_cons (zps_set (i := 2) sc_l_mix.nd rfl (Or.inl rfl) (zpe_op op_mod (zpe_op op_add (zpe_op op_add (zpe_op op_mul (zpv 0) zpe_int) (zpe_op op_mul zpe_int (zpv 1))) zpe_int) zpe_int)) (zpss_cons (zps_set (i := 2) sc_l_mix.nd rfl (Or.inl rfl) (zpe_op op_mod (zpe_op op_add (zpe_op op_add (zpe_op op_mul (zpv 2) (zpv 2)) (zpe_op op_mul zpe_int (zpv 2))) (zpv 1)) zpe_int)) (zpss_one (zps_ret (zpe_op op_mod (zpe_op op_add (zpe_op op_add (zpe_op op_mul (zpv 2) (zpv 2)) (zpe_op op_mul zpe_int (zpv 2))) (zpe_op op_mul zpe_int (zpv 1))) zpe_int))))), ?_⟩
    refine ⟨_, rfl, _, _, rfl, rfl, .inr ⟨by decide, by decide⟩, _, rfl, _, _, rfl, rfl, .inl ⟨by decide, by decide⟩, _, _, rfl, rfl, _, _, rfl, rfl, _, _, rfl, rfl, (by show (0 : Int) < 2147483629; decide), ?_⟩
    refine ⟨_, rfl, _, rfl, _, _, rfl, rfl, .inl (mod64 _ _ (by decide) (by decide)), _, rfl, _, _, rfl, rfl, .inl ⟨by decide, by decide⟩, _, _, rfl, rfl, _, rfl, _, _, rfl, rfl, _, _, rfl, rfl, (by show (0 : Int) < 2147483647; decide), ?_⟩
    refine ⟨_, rfl, _, rfl, _, _, rfl, rfl, .inl (mod64 _ _ (by decide) (by decide)), _, rfl, _, _, rfl, rfl, .inl ⟨by decide, by decide⟩, _, _, rfl, rfl, _, rfl, _, _, rfl, rfl, .inl ⟨by decide, by decide⟩, _, _, rfl, rfl, _, _, rfl, rfl, (by show (0 : Int) < 2147483587; decide), q⟩

theorem sc_l_place : FnScope ["cell", "rare", "found", "stroke", "mixed", "mark"] ["cell"] (defScope s_l_place) := ⟨rfl, rfl, rfl, by decide +kernel, rfl, by decide +kernel, by decide +kernel⟩
def sp_l_place : Sp := fun vs H Q _ => ∃ c : Int, vs = [.int c] ∧ ∀ (ms : List Str) (l : Addr) (H' : Hp), GoodPlace ms → Same H H' → H l = none → H' l = some (.lst (ms.map V.str)) → Q (.ref l) H'
theorem ok_l_place {f f1 : Addr} {fd fd1 : FuncData} (F : Fun K "_law_place" "_law_place" s_l_place f fd) (T : Txt K mg aS aT) (T_l_mix : FnAt K mg "_law_mix" ["cell", "k"] f1 fd1) (G_l_mix : FnOk P w K mg base (CX1 P w) 1 f1 fd1 ["cell", "k"] sp_l_mix) :
    FnOk P w K mg base (CX1 P w) 2 f fd ["cell"] sp_l_place := by
  refine F.zok1 sc_l_place (fun vs H Q E h => ?_) (fun cdv A outer s H vs Q E hr h => ?_)
  · obtain ⟨c, rfl, _⟩ := h
    rfl
  · obtain ⟨c, rfl, q⟩ := h
    refine ⟨_, (zpss_cons (zps_set (i := 1) sc_l_place.nd rfl (Or.inl rfl) (zpe_ix ix_list (zpe_lst (zpa_const (vs := [.int 3, .int 6, .int 20]) rfl)) (zpe_op op_mod (zpe_call G_l_mix (hr.mono (by decide)) rfl T_l_mix.m T_l_mix.k T_l_mix.b .nil pass1n (zpa_cons (zpv 0) (zpa_cons zpe_int zpa_nil))) zpe_int) (fun _ _ => rfl))) (zpss_cons (zps_set (i := 2) sc_l_place.nd rfl (Or.inl rfl) (zpe_lst zpa_nil)) (zpss_cons (zps_for PassesOwn.never rfl (zpi_range1 rfl T.range (zpa_cons zpe_int zpa_nil)) (zpg_name (i := 3) sc_l_place.nd rfl (Or.inl rfl)) (zpss_cons (zps_set (i := 4) sc_l_place.nd rfl (Or.inl rfl) (zpe_op op_fdiv (zpe_call G_l_mix (hr.mono (by decide)) rfl T_l_mix.m T_l_mix.k T_l_mix.b .nil pass1n (zpa_cons (zpv 0) (zpa_cons (zpe_op op_add zpe_int (zpv 3)) zpa_nil))) zpe_int)) (zpss_cons (zps_set (i := 5) sc_l_place.nd rfl (Or.inl rfl) zpe_str) (zpss_cons (zps_if (zpt_cmpR op_eq (zpe_op op_mod (zpv 4) (zpv 1)) zpe_int (nomark _)) (zpss_one (zps_set (i := 5) sc_l_place.nd rfl (Or.inl rfl) (zpe_ix ix_list (zpe_lst (zpa_const (vs := [.str "dead", .str "stuck"]) rfl)) (zpe_op op_mod (zpe_op op_fdiv (zpv 4) (zpv 1)) zpe_int) (fun _ _ => rfl)))) zpss_nil) (zpss_one (zps_expr (zpe_bm PySem.F.plainAttrs_list PySem.F.slot_list_append PySem.F.type_list_append mt_append (zpv 2) (zpa_cons (zpv 5) zpa_nil)))))))) (zpss_one (zps_ret (zpv 2)))))), ?_⟩
    refine ⟨by show 3 ≤ sizeLine; decide, fun l0 n0 => ⟨_, rfl, c, 9, rfl, _, _, rfl, rfl, (by show (0 : Int) < 3; decide), ?_⟩⟩
    have s0 : Same H (upd H l0 (.lst [.int 3, .int 6, .int 20])) := Same.new n0
    obtain ⟨i, hi, ei⟩ : ∃ i : Nat, i < 3 ∧ mixM c 9 % 3 = (i : Int) := ⟨(mixM c 9 % 3).toNat, by omega, by omega⟩
    obtain ⟨ra, hra, era⟩ : ∃ ra : Int, (ra = 3 ∨ ra = 6 ∨ ra = 20) ∧ ([V.int 3, V.int 6, V.int 20])[i]? = some (.int ra) := by
      have : i = 0 ∨ i = 1 ∨ i = 2 := by omega
      rcases this with rfl | rfl | rfl
      · exact ⟨3, .inl rfl, rfl⟩
      · exact ⟨6, .inr (.inl rfl), rfl⟩
      · exact ⟨20, .inr (.inr rfl), rfl⟩
    have rpos : 0 < ra ∧ ra < 1073741824 := by rcases hra with rfl | rfl | rfl <;> decide
    refine ⟨l0, _, _, .int ra, rfl, rfl, SqL.of upd_same, (by show atI _ (mixM c 9 % 3) = _; rw [ei]; exact atI_nat era), ?_⟩
    refine ⟨Nat.zero_le _, fun lf nf => ?_⟩
    have nfH : H lf = none := s0.free nf
    refine ⟨7, rfl, by decide, by decide, for_range (n := 7) (fun i σ H' => Same H H' ∧ ∃ (ms : List Str) (v1 v2 v3 : Option V), ms.length = i ∧ (∀ m ∈ ms, IsMark m) ∧ H' lf = some (.lst (ms.map V.str)) ∧ σ = [some (.int c), some (.int ra), some (.ref lf), v1, v2, v3]) ⟨s0.upd nfH, [], none, none, none, rfl, (fun m h => nomatch h), upd_same, rfl⟩ ?_ ?_⟩
    · rintro j σ H' hj ⟨s1, ms, v1, v2, v3, hlen, hm, hlf, rfl⟩
      have fin : ∀ (m : Str) (H2 : Hp) (x1 x2 : Option V), IsMark m → Same H H2 → H2 lf = some (.lst (ms.map V.str)) → Same H (upd H2 lf (.lst (ms.map V.str ++ [.str m]))) ∧ ∃ (ms' : List Str) (v1 v2 v3 : Option V), ms'.length = j + 1 ∧ (∀ m ∈ ms', IsMark m) ∧ (upd H2 lf (.lst (ms.map V.str ++ [.str m]))) lf = some (.lst (ms'.map V.str)) ∧ [some (V.int c), some (.int ra), some (.ref lf), x1, x2, some (.str m)] = [some (.int c), some (.int ra), some (.ref lf), v1, v2, v3] := fun m H2 x1 x2 im s2 h2 => by
        refine ⟨s2.upd nfH, ms ++ [m], x1, x2, _, by rw [List.length_append, hlen]; rfl, fun y hy => ?_, ?_, rfl⟩
        · rcases List.mem_append.mp hy with z | z
          · exact hm y z
          · rw [List.mem_singleton.mp z]; exact im
        · rw [upd_same, List.map_append]; rfl
      have hsz : (ms.map V.str).length < sizeLine := by rw [List.length_map]; exact small1000 (by omega)
      refine ⟨_, rfl, _, rfl, _, _, rfl, rfl, c, 10 + j, ?_, _, _, rfl, rfl, ⟨by decide, by decide⟩, ?_⟩
      · show [V.int c, V.int (10 + (0 + (j : Int)))] = _
        rw [Int.zero_add]
        rfl
      refine ⟨_, rfl, _, rfl, _, _, rfl, rfl, rpos.1, rfl, _, rfl, ?_⟩
      refine ite2 (fun _ => ?_) fun _ => ?_
      · refine ⟨by show 2 ≤ sizeLine; decide, fun l2 n2 => ⟨_, rfl, _, rfl, _, _, rfl, rfl, rpos, _, _, rfl, rfl, (by show (0 : Int) < 2; decide), ?_⟩⟩
        have t2 : Same H' (upd H' l2 (.lst [.str "dead", .str "stuck"])) := Same.new n2
        generalize hx : mixM c ((10 + j : Nat) : Int) / 7 / ra = x
        obtain ⟨b, hb, eb⟩ : ∃ b : Nat, b < 2 ∧ x % 2 = (b : Int) := ⟨(x % 2).toNat, by omega, by omega⟩
        have hb' : b = 0 ∨ b = 1 := by omega
        rcases hb' with rfl | rfl
        · refine ⟨l2, _, _, .str "dead", rfl, rfl, SqL.of upd_same, (by show atI _ (x % 2) = _; rw [eb]; exact atI_nat rfl), ?_⟩
          refine ⟨_, rfl, .inl ⟨rfl, _, SqL.of (t2 _ _ hlf)⟩, _, rfl, lf, _, _, rfl, rfl, t2 _ _ hlf, hsz, ?_⟩
          exact fin "dead" _ _ _ (.inr (.inl rfl)) (s1.trans t2) (t2 _ _ hlf)
        · refine ⟨l2, _, _, .str "stuck", rfl, rfl, SqL.of upd_same, (by show atI _ (x % 2) = _; rw [eb]; exact atI_nat rfl), ?_⟩
          refine ⟨_, rfl, .inl ⟨rfl, _, SqL.of (t2 _ _ hlf)⟩, _, rfl, lf, _, _, rfl, rfl, t2 _ _ hlf, hsz, ?_⟩
          exact fin "stuck" _ _ _ (.inr (.inr rfl)) (s1.trans t2) (t2 _ _ hlf)
      · refine ⟨_, rfl, .inl ⟨rfl, _, SqL.of hlf⟩, _, rfl, lf, _, _, rfl, rfl, hlf, hsz, ?_⟩
        exact fin "good" _ _ _ (.inl rfl) s1 hlf
    · rintro σ H' ⟨s1, ms, v1, v2, v3, hlen, hm, hlf, rfl⟩
      exact ⟨_, rfl, q ms lf H' ⟨hlen, hm⟩ s1 nfH hlf⟩

theorem sc_l_panel : FnScope ["script", "start", "places"] ["script", "start", "places"] (defScope s_l_panel) := ⟨rfl, rfl, rfl, by decide +kernel, rfl, by decide +kernel, by decide +kernel⟩
def sp_l_panel (K : PySem.W.Frag) : Sp := fun vs H Q _ => ∃ (a : Addr) (ns : List Int) (st pl : Nat), vs = [.ref a, .int st, .int pl] ∧ SqL K H a (ns.map V.int) ∧ pl ≤ 100 ∧ ∀ (pn : List (List Str)) (l : Addr) (xs : List V) (H' : Hp), pn.length = pl → (∀ ms ∈ pn, GoodPlace ms) → Same H H' → H l = none → H' l = some (.lst xs) → RepAll K H' xs (dPs pn) → Q (.ref l) H'
theorem ok_l_panel {f f1 f2 : Addr} {fd fd1 fd2 : FuncData} (F : Fun K "_law_panel" "_law_panel" s_l_panel f fd) (T : Txt K mg aS aT) (T_l_pick : FnAt K mg "_law_pick" ["script", "k"] f1 fd1) (G_l_pick : FnOk P w K mg base (CX1 P w) 2 f1 fd1 ["script", "k"] (sp_l_pick K))
    (T_l_place : FnAt K mg "_law_place" ["cell"] f2 fd2) (G_l_place : FnOk P w K mg base (CX1 P w) 2 f2 fd2 ["cell"] sp_l_place) : FnOk P w K mg base (CX1 P w) 3 f fd ["script", "start", "places"] (sp_l_panel K) := by
  refine F.zok1 sc_l_panel (fun vs H Q E h => ?_) (fun cdv A outer s H vs Q E hr h => ?_)
  · obtain ⟨a, ns, st, pl, rfl, _⟩ := h
    rfl
  · obtain ⟨a, ns, st, pl, rfl, ha, hpl, q⟩ := h
    refine ⟨_, (zpss_one (zps_ret (zpe_lc (N' := ["k", "script", "start"]) (js := [none, some 0, some 1]) rfl (compOk.scope (sc := defScope s_l_panel) (N := ["script", "start", "places"]) (by decide +kernel)) (zpi_range1 rfl T.range (zpa_cons (zpv 2) zpa_nil)) (fun _ _ _ _ _ => (zpg_name (i := 0) (show (["k", "script", "start"] : List Str).Nodup from by decide +kernel) rfl (Or.inl rfl))) (fun _ _ _ _ _ => zpif_nil) (fun _ _ _ _ _ => (zpe_call G_l_place (hr.mono (by decide)) rfl T_l_place.m T_l_place.k T_l_place.b .nil pass1n (zpa_cons (zpe_call G_l_pick (hr.mono (by decide)) rfl T_l_pick.m T_l_pick.k T_l_pick.b .nil pass1n (zpa_cons (zpv 1) (zpa_cons (zpe_op op_add (zpv 2) (zpv 0)) zpa_nil))) zpa_nil)))))), ?_⟩
    refine ⟨_, rfl, (pl : Int), rfl, by omega, by omega, lc_range (n := (pl : Int).toNat) (fun i ys H' => Same H H' ∧ ys.length = i ∧ i ≤ pl ∧ ∃ pn : List (List Str), pn.length = i ∧ (∀ ms ∈ pn, GoodPlace ms) ∧ RepAll K H' ys (dPs pn)) ⟨Same.refl H, rfl, Nat.zero_le _, [], rfl, (fun ms h => nomatch h), .nil⟩ ?_ ?_⟩
    · rintro ys H' ⟨s1, hy, _, pn, hn, hg, hr⟩ l nl
      have s2 : Same H' (upd H' l (.lst ys)) := Same.new nl
      exact q pn l ys _ (by rw [hn]; simp) hg (s1.trans s2) (s1.free nl) upd_same (hr.same s2)
    · rintro i ys H' hi ⟨s1, hy, hi2, pn, hn, hg, hr⟩
      refine ⟨by rw [hy]; exact small1000 (by omega), Sub.set rfl, _, rfl, _, rfl, _, rfl, _, _, rfl, rfl, a, ns, st + i, ?_, s1.seq ha, _, rfl, fun ms l H2 gm s2 nl hl => ?_⟩
      · show [V.ref a, V.int ((st : Int) + (0 + (i : Int)))] = _
        rw [Int.zero_add]
        rfl
      · refine ⟨s1.trans s2, by rw [List.length_append, hy]; rfl, by simp at hi; omega, pn ++ [ms], by rw [List.length_append, hn]; rfl, fun m hm => ?_, ?_⟩
        · rcases List.mem_append.mp hm with z | z
          · exact hg m z
          · rw [List.mem_singleton.mp z]; exact gm
        · unfold dPs
          rw [List.map_append]
          exact (hr.same s2).snoc (.list (SqL.of hl) (RepAll.strs ms))
end
end Lit

set_option Elab.async false
set_option linter.all false
set_option maxRecDepth 100000
namespace Lit
open PySem L2
abbrev s_read_place : Stmt := top 10
abbrev s_read : Stmt := top 11
abbrev s_l_rows_like : Stmt := top 19
abbrev s_l_text : Stmt := top 18
abbrev s_l_refused : Stmt := top 20
abbrev s_l_told : Stmt := top 21
abbrev s_l_due : Stmt := top 22
abbrev s_law : Stmt := top 23
/-- lists of marks stand at ts -/
def MarksAt (H : Hp) (ts : List Addr) (mk : List (List Str)) : Prop := Paired (fun t one => H t = some (.lst (one.map V.str))) ts mk
theorem MarksAt.same {H H' : Hp} (s : Same H H') {ts : List Addr} {mk : List (List Str)} (h : MarksAt H ts mk) : MarksAt H' ts mk := Paired.mapP h fun t q e => s _ _ e
theorem MarksAt.off {H : Hp} {a : Addr} {o : HO} : ∀ {ts : List Addr} {mk : List (List Str)}, MarksAt H ts mk → H a = none → MarksAt (upd H a o) ts mk
  | _, _, .nil, _ => .nil
  | _, _, .cons e r, h => .cons (by rw [upd_ne (ne_of_none e h)]; exact e) (MarksAt.off r h)
theorem MarksAt.get {H : Hp} : ∀ {ts : List Addr} {mk : List (List Str)} {j : Nat} {one : List Str}, MarksAt H ts mk → mk[j]? = some one → ∃ t, ts[j]? = some t ∧ H t = some (.lst (one.map V.str))
  | _, _, _, _, .nil, e => by simp at e
  | _, _, 0, _, .cons h _, e => by simp at e; subst e; exact ⟨_, rfl, h⟩
  | _, _, j + 1, one, .cons _ r, e => by
    obtain ⟨q, h1, h2⟩ := MarksAt.get (j := j) (one := one) r (by simpa using e)
    exact ⟨q, by simpa using h1, h2⟩
/-- showings stand at ts -/
def ShowsAt (H : Hp) (ts : List Addr) (qs : List (Int × Int)) : Prop := Paired (fun t q => H t = some (.tup [.int q.1, .int q.2])) ts qs
theorem ShowsAt.same {H H' : Hp} (s : Same H H') {ts : List Addr} {qs : List (Int × Int)} (h : ShowsAt H ts qs) : ShowsAt H' ts qs := Paired.mapP h fun t q e => s _ _ e
theorem ShowsAt.off {H : Hp} {a : Addr} {o : HO} : ∀ {ts : List Addr} {qs : List (Int × Int)}, ShowsAt H ts qs → (∀ t ∈ ts, t ≠ a) → ShowsAt (upd H a o) ts qs
  | _, _, .nil, _ => .nil
  | _, _, .cons e r, h => .cons (by rw [upd_ne (h _ List.mem_cons_self)]; exact e) (ShowsAt.off r fun t ht => h t (List.mem_cons_of_mem _ ht))
theorem ShowsAt.get {H : Hp} : ∀ {ts : List Addr} {qs : List (Int × Int)} {j : Nat} {t : Addr}, ShowsAt H ts qs → ts[j]? = some t → ∃ q, qs[j]? = some q ∧ H t = some (.tup [.int q.1, .int q.2])
  | _, _, _, _, .nil, e => by simp at e
  | _, _, 0, _, .cons h _, e => by simp at e; subst e; exact ⟨_, rfl, h⟩
  | _, _, j + 1, t, .cons _ r, e => by
    obtain ⟨q, h1, h2⟩ := ShowsAt.get (j := j) (t := t) r (by simpa using e)
    exact ⟨q, by simpa using h1, h2⟩
theorem ref_get {ts : List Addr} {i : Nat} {x : V} (h : (ts.map V.ref)[i]? = some x) : ∃ t, ts[i]? = some t ∧ x = .ref t := by
  rw [List.getElem?_map] at h
  cases q : ts[i]? with
  | none => rw [q] at h; cases h
  | some n => rw [q] at h; cases h; exact ⟨n, rfl, rfl⟩
theorem MarksAt.offs {H : Hp} {a : Addr} {o : HO} : ∀ {ts : List Addr} {mk : List (List Str)}, MarksAt H ts mk → (∀ t ∈ ts, t ≠ a) → MarksAt (upd H a o) ts mk
  | _, _, .nil, _ => .nil
  | _, _, .cons e r, h => .cons (by rw [upd_ne (h _ List.mem_cons_self)]; exact e) (MarksAt.offs r fun t ht => h t (List.mem_cons_of_mem _ ht))
theorem MarksAt.at {H : Hp} : ∀ {ts : List Addr} {mk : List (List Str)} {j : Nat} {t : Addr}, MarksAt H ts mk → ts[j]? = some t → ∃ one, mk[j]? = some one ∧ H t = some (.lst (one.map V.str))
  | _, _, _, _, .nil, e => by simp at e
  | _, _, 0, _, .cons h _, e => by simp at e; subst e; exact ⟨_, rfl, h⟩
  | _, _, j + 1, t, .cons _ r, e => by
    obtain ⟨q, h1, h2⟩ := MarksAt.at (j := j) (t := t) r (by simpa using e)
    exact ⟨q, by simpa using h1, h2⟩
section
variable {P : Program} {w : World} {K : PySem.W.Frag} {mg : Str → Option Value} {base : Heap} {aS aT : Addr}
theorem sc_l_rows_like : FnScope ["found", "due", "one", "own"] ["found", "due"] (defScope s_l_rows_like) := ⟨rfl, rfl, rfl, by decide +kernel, rfl, by decide +kernel, by decide +kernel⟩
def sp_l_rows_like (K : PySem.W.Frag) : Sp := fun vs H Q _ => ∃ (a : Addr) (p : V) (ts : List Addr) (mk : List (List Str)), vs = [.ref a, p] ∧ H a = some (.lst (ts.map V.ref)) ∧ MarksAt H ts mk ∧ Rep K H p (.list (dPs mk)) ∧ (∀ one ∈ mk, ∀ x ∈ one, PyData.strOk x = true) ∧ mk.length ≤ 100 ∧ (∀ one ∈ mk, one.length ≤ 100) ∧ ∀ H', Same H H' → Q (.bl true) H'
set_option maxHeartbeats 2000000 in
theorem ok_l_rows_like {f : Addr} {fd : FuncData} (F : Fun K "_law_rows_like" "_law_rows_like" s_l_rows_like f fd) (T : Txt K mg aS aT) : FnOk P w K mg base (CX1 P w) 1 f fd ["found", "due"] (sp_l_rows_like K) := by
  refine F.zok1 sc_l_rows_like (fun vs H Q E h => ?_) (fun cdv A outer s H vs Q E hr h => ?_)
  · obtain ⟨a, p, ts, mk, rfl, _⟩ := h
    rfl
  · obtain ⟨a, p, ts, mk, rfl, ha, hts, hp, hok, h100, o100, k⟩ := h
    obtain ⟨pa, xs, rfl, hq, hx⟩ := rep_list hp
    have el : xs.length = mk.length := by rw [hx.length, List.length_map]
    have tl := hts.length
    refine ⟨_, (zpss_cons (zps_if (zPW_pt (zpw_or (zpt_not (zpt_val (zpe_callB (call_isinstK (K := K) rfl) rfl T.isinstance bt_isinstance (zpa_cons (zpv 0) (zpa_cons (zpe_ty rfl T.list bt_list) zpa_nil))))) (zpw_or1 (zpt_cmpR op_ne (zpe_callB call_len_seq rfl T.len PySem.boot_len (zpa_cons (zpv 0) zpa_nil)) (zpe_callB call_len_seq rfl T.len PySem.boot_len (zpa_cons (zpv 1) zpa_nil)) (nomark _))))) (zpss_one (zps_ret zpe_bl)) zpss_nil) (zpss_cons (zps_for PassesOwn.never rfl (zpi_zip (k1 := true) (k2 := true) rfl T.zip (zpa_cons (zpv 0) (zpa_cons (zpv 1) zpa_nil))) (zpg_tup rfl (zpgs_cons (zpg_name (i := 2) sc_l_rows_like.nd rfl (Or.inl rfl)) (zpgs_cons (zpg_name (i := 3) sc_l_rows_like.nd rfl (Or.inl rfl)) zpgs_nil))) (zpss_one (zps_if (zPW_pt (zpw_or (zpt_not (zpt_val (zpe_callB (call_isinstK (K := K) rfl) rfl T.isinstance bt_isinstance (zpa_cons (zpv 2) (zpa_cons (zpe_ty rfl T.list bt_list) zpa_nil))))) (zpw_or (zpt_cmpR (op_neK (K := K) rfl hr.units) (zpv 2) (zpv 3) (nomark _)) (zpw_or1 (zpt_not (zpt_val (zpe_callB (call_allK (K := K) rfl rfl) rfl T.all bt_all (zpa_cons (zpe_lc (N' := ["mark"]) (js := [none]) rfl (compOk.scope (sc := defScope s_l_rows_like) (N := ["found", "due", "one", "own"]) (by decide +kernel)) (zpi_list (zpv 2)) (fun _ _ _ _ _ => (zpg_name (i := 0) (show (["mark"] : List Str).Nodup from by decide +kernel) rfl (Or.inl rfl))) (fun _ _ _ _ _ => zpif_nil) (fun _ _ _ _ _ => (zpe_callB (call_isinstK (K := K) rfl) rfl T.isinstance bt_isinstance (zpa_cons (zpv 0) (zpa_cons (zpe_ty rfl T.str bt_str) zpa_nil))))) zpa_nil)))))))) (zpss_one (zps_ret zpe_bl)) zpss_nil))) (zpss_one (zps_ret zpe_bl)))), ?_⟩
    refine ⟨_, rfl, isi_list ha ⟨_, rfl, iteF ⟨_, rfl, a, _, rfl, .inl (SqL.of ha), _, rfl, pa, _, rfl, .inl hq, rfl, _, rfl, iteNS (by rw [List.length_map, tl, el]) ?_⟩⟩⟩
    refine ⟨_, rfl, _, rfl, a, pa, ts.map V.ref, xs, rfl, .inl (.inl ha), hq, for_zip (xs := ts.map V.ref) (zs := xs) (by rw [List.length_map, tl, el])
      (fun i σ H' => Same H H' ∧ ∃ v2 v3, σ = [some (.ref a), some (.ref pa), v2, v3]) ⟨Same.refl _, none, none, rfl⟩ (fun i σ H' p => ⟨SqL.of (p.1 _ _ ha), p.1.seq hq⟩) ?_ ?_⟩
    · rintro i x z Tt σ H1 ex ez ⟨s1, v2, v3, rfl⟩ nT
      obtain ⟨t, et, rfl⟩ := ref_get ex
      obtain ⟨one, eo, ht⟩ := hts.at et
      obtain ⟨ms, em, hm⟩ := dPs_get hx ez
      rw [eo] at em
      cases em
      have s2 : Same H1 (upd H1 Tt (.tup [.ref t, z])) := Same.new nT
      have s02 := s1.trans s2
      have ht2 := s02 _ _ ht
      have rO : Rep K (upd H1 Tt (.tup [.ref t, z])) (.ref t) (dP one) := .list (SqL.of ht2) (RepAll.strs one)
      refine ⟨_, _, rfl, SqT.of upd_same, rfl, _, _, rfl, _, _, rfl, rfl, ?_⟩
      generalize upd H1 Tt (.tup [.ref t, z]) = H2 at *
      refine ⟨_, rfl, isi_list ht2 ⟨_, rfl, iteF ⟨_, rfl, _, rfl, neD_self (Plain.strs one (hok one (List.mem_of_getElem? eo))) rO (hm.same s02) ⟨_, rfl, iteF ?_⟩⟩⟩⟩
      refine ⟨_, rfl, t, rfl, ⟨_, SqL.of ht2⟩, lc_list (xs := one.map V.str) (fun j ys H' => Same H2 H' ∧ ys.length ≤ j ∧ j ≤ one.length ∧ ys = ((one.take j).map fun _ => true).map V.bl) ⟨Same.refl _, by decide, Nat.zero_le _, rfl⟩ (fun j ys H' p => SqL.of (p.1 _ _ ht2)) ?_ ?_⟩
      · rintro ys H3 ⟨s3, _, _, rfl⟩ lw nlw
        have s4 : Same H2 (upd H3 lw (.lst (((one.take (one.map V.str).length).map fun _ => true).map V.bl))) := s3.upd (s3.free nlw)
        refine ⟨lw, (one.take (one.map V.str).length).map fun _ => true, rfl, SqL.of upd_same, _, rfl, ?_⟩
        rw [show ((one.take (one.map V.str).length).map fun _ => true).all id = true by simp]
        exact iteF ⟨s02.trans s4, _, _, rfl⟩
      · rintro j x ys H3 ex3 ⟨s3, hy, hj, rfl⟩
        obtain ⟨m, emk, rfl⟩ : ∃ m, one[j]? = some m ∧ x = .str m := by
          rw [List.getElem?_map] at ex3
          cases q : one[j]? with
          | none => rw [q] at ex3; cases ex3
          | some m => rw [q] at ex3; cases ex3; exact ⟨m, rfl, rfl⟩
        have hj' : j < one.length := (List.getElem?_eq_some_iff.mp emk).1
        have o1 := o100 one (List.mem_of_getElem? eo)
        refine ⟨Nat.lt_of_le_of_lt hy (small1000 (by omega)), Sub.set rfl, _, rfl, isi_str_str ⟨s3, ?_, hj', ?_⟩⟩
        · rw [List.length_append, List.length_singleton]; omega
        · rw [map_take _ _ _ _ emk, List.map_append]; rfl
    · rintro σ H1 ⟨s1, v2, v3, rfl⟩
      exact k H1 s1

theorem sc_l_text : FnScope ["panel", "words", "place", "word", "mark"] ["panel"] (defScope s_l_text) := ⟨rfl, rfl, rfl, by decide +kernel, rfl, by decide +kernel, by decide +kernel⟩
def signM (m : Str) : Str := if m = "good" then "." else if m = "dead" then "-" else "+"
def wordM (ms : List Str) : Str := ms.foldl (fun w m => w ++ signM m) ""
def textM (pn : List (List Str)) : Str := Txt.join " " (pn.map wordM)
theorem sign_len {m : Str} (h : IsMark m) : (signM m).length = 1 := by rcases h with rfl | rfl | rfl <;> decide +kernel
theorem word_snoc (ms : List Str) (m : Str) : wordM (ms ++ [m]) = wordM ms ++ signM m := by
  unfold wordM
  rw [List.foldl_append]
  rfl
theorem snoc_ind' {α : Type} {p : List α → Prop} (h0 : p []) (hs : ∀ l x, p l → p (l ++ [x])) : ∀ l, p l := by
  intro l
  rw [← List.reverse_reverse l]
  generalize l.reverse = r
  induction r with
  | nil => exact h0
  | cons x r ih => rw [List.reverse_cons]; exact hs _ _ ih
theorem word_len (ms : List Str) : (∀ m ∈ ms, IsMark m) → (wordM ms).length = ms.length := by
  refine snoc_ind' (p := fun ms => (∀ m ∈ ms, IsMark m) → (wordM ms).length = ms.length) (fun _ => by decide +kernel) (fun ms m ih h => ?_) ms
  rw [word_snoc, Str.length_append, ih fun x hx => h x (List.mem_append_left _ hx), sign_len (h m (by simp)), List.length_append, List.length_singleton]
def sp_l_text (K : PySem.W.Frag) : Sp := fun vs H Q _ => ∃ (p : V) (pn : List (List Str)), vs = [p] ∧ Rep K H p (.list (dPs pn)) ∧ pn.length ≤ 10 ∧ (∀ ms ∈ pn, GoodPlace ms) ∧ ∀ H', Same H H' → Q (.str (textM pn)) H'
set_option maxHeartbeats 2000000 in
theorem ok_l_text {f : Addr} {fd : FuncData} (F : Fun K "_law_text" "_law_text" s_l_text f fd) (T : Txt K mg aS aT) : FnOk P w K mg base (CX1 P w) 1 f fd ["panel"] (sp_l_text K) := by
  refine F.zok1 sc_l_text (fun vs H Q E h => ?_) (fun cdv A outer s H vs Q E hr h => ?_)
  · obtain ⟨p, pn, rfl, _⟩ := h
    rfl
  · obtain ⟨p, pn, rfl, hp, h10, hg, k⟩ := h
    obtain ⟨pa, xs, rfl, hq, hx⟩ := rep_list hp
    have el : xs.length = pn.length := by rw [hx.length, List.length_map]
    refine ⟨_, (zpss_cons (zps_set (i := 1) sc_l_text.nd rfl (Or.inl rfl) (zpe_lst zpa_nil)) (zpss_cons (zps_for PassesOwn.never rfl (zpi_list (zpv 0)) (zpg_name (i := 2) sc_l_text.nd rfl (Or.inl rfl)) (zpss_cons (zps_set (i := 3) sc_l_text.nd rfl (Or.inl rfl) zpe_str) (zpss_cons (zps_for PassesOwn.never rfl (zpi_list (zpv 2)) (zpg_name (i := 4) sc_l_text.nd rfl (Or.inl rfl)) (zpss_one (zps_set (i := 3) sc_l_text.nd rfl (Or.inl rfl) (zpe_op op_add_str (zpv 3) (zpe_ix ix_str zpe_str (zpe_bm PySem.F.plainAttrs_list PySem.F.slot_list_index PySem.F.type_list_index mt_index (zpe_lst (zpa_const (vs := [.str "good", .str "dead", .str "stuck"]) rfl)) (zpa_cons (zpv 4) zpa_nil)) (fun _ _ => rfl)))))) (zpss_one (zps_expr (zpe_bm PySem.F.plainAttrs_list PySem.F.slot_list_append PySem.F.type_list_append mt_append (zpv 1) (zpa_cons (zpv 3) zpa_nil))))))) (zpss_one (zps_ret (zpe_bm PySem.F.plainAttrs_str PySem.F.slot_str_join PySem.F.type_str_join mt_join zpe_str (zpa_cons (zpv 1) zpa_nil)))))), ?_⟩
    refine ⟨Nat.zero_le _, fun lw nw => ⟨_, rfl, pa, rfl, ⟨_, (Same.new nw).seq hq⟩, for_list (xs := xs) (fun i σ H' => Same H H' ∧ i ≤ pn.length ∧ ∃ v2 v3 v4, H' lw = some (.lst (((pn.take i).map wordM).map V.str)) ∧ σ = [some (.ref pa), some (.ref lw), v2, v3, v4])
      ⟨Same.new nw, Nat.zero_le _, none, none, none, upd_same, rfl⟩ (fun i σ H' _ p => p.1.seq hq) ?_ ?_⟩⟩
    · rintro i x σ H1 ex ⟨s1, hi, v2, v3, v4, hlw, rfl⟩
      obtain ⟨ms, em, hm⟩ := dPs_get hx ex
      obtain ⟨za, rfl, hza⟩ := rep_place hm
      have hi' : i < pn.length := (List.getElem?_eq_some_iff.mp em).1
      obtain ⟨m7, mok⟩ := hg ms (List.mem_of_getElem? em)
      refine ⟨_, rfl, za, rfl, ⟨_, s1.seq hza⟩, for_list (xs := ms.map V.str) (fun j σ H' => Same H1 H' ∧ j ≤ ms.length ∧ ∃ v4, σ = [some (.ref pa), some (.ref lw), some (.ref za), some (.str (wordM (ms.take j))), v4])
        ⟨Same.refl _, Nat.zero_le _, v4, rfl⟩ (fun j σ H' _ p => (s1.trans p.1).seq hza) ?_ ?_⟩
      · rintro j x σ H2 exj ⟨s2, hj, w4, rfl⟩
        obtain ⟨m, emk, rfl⟩ : ∃ m, ms[j]? = some m ∧ x = .str m := by
          rw [List.getElem?_map] at exj
          cases q : ms[j]? with
          | none => rw [q] at exj; cases exj
          | some m => rw [q] at exj; cases exj; exact ⟨m, rfl, rfl⟩
        have hj' : j < ms.length := (List.getElem?_eq_some_iff.mp emk).1
        have im := mok m (List.mem_of_getElem? emk)
        have wl : (wordM (ms.take j)).length = j := by
          rw [word_len _ fun x hx => mok x (List.mem_of_mem_take hx), List.length_take]
          omega
        have fin : ∀ (c : Str) (H3 : Hp), Same H1 H3 → c = signM m → ∃ i j_1, V.str (wordM (ms.take j)) = V.str i ∧ V.str c = V.str j_1 ∧ i.length + j_1.length ≤ sizeLine ∧ (Same H1 H3 ∧ j + 1 ≤ ms.length ∧ ∃ v4, [some (V.ref pa), some (V.ref lw), some (V.ref za), some (V.str (i ++ j_1)), some (V.str m)] = [some (.ref pa), some (.ref lw), some (.ref za), some (.str (wordM (ms.take (j + 1)))), v4]) := by
          rintro c H3 s3 rfl
          refine ⟨_, _, rfl, rfl, ?_, s3, hj', some (.str m), ?_⟩
          · rw [wl, sign_len im]
            exact Nat.le_of_lt (small1000 (by omega))
          · rw [List.take_add_one, emk]
            show _ = [some (V.ref pa), some (V.ref lw), some (V.ref za), some (V.str (wordM (ms.take j ++ [m]))), _]
            rw [word_snoc]
        refine ⟨_, rfl, by show 3 ≤ sizeLine; decide, fun l3 n3 => ?_⟩
        have s3 : Same H1 (upd H2 l3 (.lst [.str "good", .str "dead", .str "stuck"])) := s2.upd (s2.free n3)
        refine ⟨.inl ⟨rfl, _, SqL.of upd_same⟩, _, rfl, ?_⟩
        rcases im with rfl | rfl | rfl
        · refine ⟨l3, _, _, .str "good", 0, rfl, rfl, upd_same, rfl, rfl, rfl, by decide +kernel, fun m u hm => absurd hm (Nat.not_lt_zero _), by decide, ?_⟩
          exact ⟨_, _, 46, rfl, rfl, by decide +kernel, by decide +kernel, fin _ _ s3 (by decide +kernel)⟩
        · refine ⟨l3, _, _, .str "dead", 1, rfl, rfl, upd_same, rfl, rfl, rfl, by decide +kernel, fun m u hm eu => ?_, by decide, ?_⟩
          · have : m = 0 := by omega
            subst this
            cases eu
            decide +kernel
          · exact ⟨_, _, 45, rfl, rfl, by decide +kernel, by decide +kernel, fin _ _ s3 (by decide +kernel)⟩
        · refine ⟨l3, _, _, .str "stuck", 2, rfl, rfl, upd_same, rfl, rfl, rfl, by decide +kernel, fun m u hm eu => ?_, by decide, ?_⟩
          · have : m = 0 ∨ m = 1 := by omega
            rcases this with rfl | rfl <;> cases eu <;> decide +kernel
          · exact ⟨_, _, 43, rfl, rfl, by decide +kernel, by decide +kernel, fin _ _ s3 (by decide +kernel)⟩
      · rintro σ H2 ⟨s2, hj, w4, rfl⟩
        have e7 : ms.take (ms.map V.str).length = ms := List.take_of_length_le (by rw [List.length_map]; exact Nat.le_refl _)
        rw [e7]
        have hlw2 := s2 _ _ hlw
        refine ⟨_, rfl, .inl ⟨rfl, _, SqL.of hlw2⟩, _, rfl, lw, _, _, rfl, rfl, hlw2, ?_, ?_⟩
        · rw [List.length_map, List.length_map, List.length_take]
          exact small1000 (by omega)
        · refine ⟨(s1.trans s2).upd nw, hi', _, _, _, ?_, rfl⟩
          rw [upd_same, List.take_add_one, em, List.map_append, List.map_append]
          rfl
    · rintro σ H1 ⟨s1, hi, v2, v3, v4, hlw, rfl⟩
      rw [List.take_of_length_le (by omega)] at hlw
      refine ⟨rfl, _, rfl, " ", lw, pn.map wordM, rfl, rfl, SqL.of hlw, ?_, k H1 s1⟩
      have e : ∀ l : List (List Str), (∀ ms ∈ l, GoodPlace ms) → ((l.map wordM).map (·.length)).sum = 7 * l.length := by
        intro l
        induction l with
        | nil => intro _; rfl
        | cons a r ih =>
          intro h
          have ha := h a List.mem_cons_self
          simp only [List.map_cons, List.sum_cons, List.length_cons]
          rw [ih fun x hx => h x (List.mem_cons_of_mem _ hx), word_len a ha.2, ha.1]
          omega
      rw [e pn hg, List.length_map]
      have : (" " : Str).length = 1 := by decide +kernel
      rw [this]
      omega

def refB (n : Nat) : List Bool := [decide (n = 0), decide (n = 1), decide (n = 2), decide (n = 3), true]
theorem sc_l_refused : FnScope ["marks", "which"] ["marks", "which"] (defScope s_l_refused) := ⟨rfl, rfl, rfl, by decide +kernel, rfl, by decide +kernel, by decide +kernel⟩
def sp_l_refused (K : PySem.W.Frag) : Sp := fun vs H Q _ => ∃ (a : Addr) (n : Nat), vs = [.ref a, .int n] ∧ SqL K H a ((refB n).map V.bl) ∧ ∀ H', Same H H' → Q (.bl true) H'
theorem refB_take (n : Nat) : ((List.range 4).map fun k => decide (k = n)) ++ [true] = refB n := by
  have e : ∀ k : Nat, decide (k = n) = decide (n = k) := fun k => by
    by_cases h : k = n
    · subst h; simp
    · rw [decide_eq_false h, decide_eq_false fun q => h q.symm]
  simp only [refB, List.range, List.range.loop, List.map_cons, List.map_nil, e]
  rfl
theorem ok_l_refused {f : Addr} {fd : FuncData} (F : Fun K "_law_refused" "_law_refused" s_l_refused f fd) (T : Txt K mg aS aT) : FnOk P w K mg base (CX1 P w) 1 f fd ["marks", "which"] (sp_l_refused K) := by
  refine F.zok1 sc_l_refused (fun vs H Q E h => ?_) (fun cdv A outer s H vs Q E hr h => ?_)
  · obtain ⟨a, n, rfl, _⟩ := h
    rfl
  · obtain ⟨a, n, rfl, ha, k⟩ := h
    refine ⟨_, (zpss_one (zps_ret (zpe_cmpR (op_eqK (K := K) rfl hr.units) (zpv 0) (zpe_op op_cat (zpe_lc (N' := ["k", "which"]) (js := [none, some 1]) rfl (compOk.scope (sc := defScope s_l_refused) (N := ["marks", "which"]) (by decide +kernel)) (zpi_range1 rfl T.range (zpa_cons zpe_int zpa_nil)) (fun _ _ _ _ _ => (zpg_name (i := 0) (show (["k", "which"] : List Str).Nodup from by decide +kernel) rfl (Or.inl rfl))) (fun _ _ _ _ _ => zpif_nil) (fun _ _ _ _ _ => (zpe_cmpR op_eq (zpv 0) (zpv 1) (nomark _)))) (zpe_lst (zpa_cons zpe_bl zpa_nil))) (nomark _)))), ?_⟩
    refine ⟨_, rfl, 4, rfl, by decide, by decide, lc_range (n := 4) (fun i ys H' => H' = H ∧ ys = ((List.range i).map fun k => decide (k = n)).map V.bl) ⟨rfl, rfl⟩ ?_ ?_⟩
    · rintro ys H' ⟨rfl, rfl⟩ l nl
      refine ⟨by show 1 ≤ sizeLine; decide, fun l1 n1 => ?_⟩
      refine ⟨l, l1, ((List.range 4).map fun k => decide (k = n)).map V.bl, [.bl true], rfl, rfl, ?_, upd_same, ?_, fun p np => ?_⟩
      · rw [upd_ne (ne_of_none upd_same n1)]
        exact upd_same
      · rw [List.length_map, List.length_map, List.length_range]
        show 5 ≤ sizeLine
        decide
      · have s1 : Same H' (upd H' l (.lst (((List.range 4).map fun k => decide (k = n)).map V.bl))) := Same.new nl
        have s2 := s1.upd (a := l1) (o := .lst [.bl true]) (s1.free n1)
        have s3 := s2.upd (a := p) (o := .lst (((List.range 4).map fun k => decide (k = n)).map V.bl ++ [V.bl true])) (s2.free np)
        refine eqD_self (Plain.bools (refB n)) (.list (s3.seq ha) (RepAll.bls _)) (.list (SqL.of ?_) (RepAll.bls (refB n))) (k _ s3)
        rw [upd_same, ← refB_take, List.map_append]
        rfl
    · rintro i ys H' hi ⟨rfl, rfl⟩
      refine ⟨by rw [List.length_map, List.length_map, List.length_range]; exact small1000 (by omega), Sub.set rfl, _, rfl, _, rfl, rfl, rfl, ?_⟩
      rw [List.range_succ, List.map_append, List.map_append, Int.zero_add, dec_int']
      have e : decide ((i : Int) = (n : Int)) = decide (i = n) := by
        by_cases h : i = n
        · subst h; simp
        · rw [decide_eq_false h, decide_eq_false (by omega)]
      rw [e]
      rfl
end
end Lit

set_option Elab.async false
set_option linter.all false
set_option maxRecDepth 100000
namespace Lit
open PySem L2
theorem str_get {ms : List Str} {q : Nat} {x : V} (h : (ms.map V.str)[q]? = some x) : ∃ m, ms[q]? = some m ∧ x = .str m := by
  rw [List.getElem?_map] at h
  cases z : ms[q]? with
  | none => rw [z] at h; cases h
  | some m => rw [z] at h; cases h; exact ⟨m, rfl, rfl⟩
def signD : List (Str × Str) := [("good", "."), ("dead", "-"), ("stuck", "+")]
def markD : List (Str × Str) := [(".", "good"), ("-", "dead"), ("+", "stuck")]
section
variable {P : Program} {w : World} {K : PySem.W.Frag} {mg : Str → Option Value} {base : Heap} {aS aT : Addr}
theorem sc_read_place : FnScope ["part"] ["part"] (defScope s_read_place) := ⟨rfl, rfl, rfl, by decide +kernel, rfl, by decide +kernel, by decide +kernel⟩
def markOf (c : Nat) : Option Str := markD.lookup ⟨#[c]⟩
def placeM (part : Str) : Option (List Str) := if part.length = 7 ∧ (part.cps.toList.all fun c => (markOf c).isSome) = true then some (part.cps.toList.map fun c => (markOf c).getD "") else none
def sp_read_place : Sp := fun vs H Q _ => ∃ (part : Str) (ms : List Str), vs = [.str part] ∧ placeM part = some ms ∧ ∀ l H', Same H H' → H l = none → H' l = some (.lst (ms.map V.str)) → Q (.ref l) H'
def spx_read_place (cO : Addr) : Sp := fun vs H Q E => sp_read_place vs H Q E ∨ ∃ part : Str, vs = [.str part] ∧ part.length ≤ 1000 ∧ placeM part = none ∧ ∀ H', Same H H' → E (.ref cO) none H'
theorem cps_len (x : Str) : x.cps.toList.length = x.length := by simp [Str.length]
theorem iteND {c A B : Prop} [Decidable c] (hc : ¬ c) (h : A) : if (!decide c) = true then A else B := by
  rw [decide_eq_false hc]
  exact h
theorem ok_read_place {f aM cO : Addr} {fd : FuncData} {t7 : Tok} (F : Fun K "read_place" "read_place" s_read_place f fd) (T : Txt K mg aS aT) (T_MARK_OF : mg "MARK_OF" = some (.ref aM)) (D_MARK_OF : TabK K aM markD) (T_SIGNS_IN_PLACE : mg "SIGNS_IN_PLACE" = some (.int 7 t7))
    (mk_NoNote : ExcC K cO) (m_NoNote : mg "NoNote" = some (.ref cO)) : FnOk P w K mg base (CX1 P w) 1 f fd ["part"] (spx_read_place cO) := by
  refine F.zokX sc_read_place (fun vs H Q E h => ?_) (fun cdv A outer s H vs Q E hr h => ?_)
  · rcases h with ⟨part, ms, rfl, _⟩ | ⟨part, rfl, _⟩ <;> rfl
  · refine ⟨_, (zpss_cons (zps_if (zpt_cmpR op_ne (zpe_callB call_len_str rfl T.len PySem.boot_len (zpa_cons (zpv 0) zpa_nil)) (zpe_glob (v := .int 7) rfl T_SIGNS_IN_PLACE ⟨_, rfl⟩) (nomark _)) (zpss_one (zps_raise mk_NoNote hr.hd m_NoNote rfl (zpa_const (vs := [.str "a place is written by seven signs, with one blank between two places"]) rfl))) zpss_nil) (zpss_cons (zps_if (zpt_not (zpt_val (zpe_callB (call_allK (K := K) rfl rfl) rfl T.all bt_all (zpa_cons (zpe_lc (N' := ["sign"]) (js := [none]) rfl (compOk.scope (sc := defScope s_read_place) (N := ["part"]) (by decide +kernel)) (zpi_str (zpv 0)) (fun _ _ _ _ _ => (zpg_name (i := 0) (show (["sign"] : List Str).Nodup from by decide +kernel) rfl (Or.inl rfl))) (fun _ _ _ _ _ => zpif_nil) (fun _ _ _ _ _ => (zpe_cmpR (op_inTabK (K := K) rfl) (zpv 0) (zpe_gref rfl T_MARK_OF) rfl))) zpa_nil)))) (zpss_one (zps_raise mk_NoNote hr.hd m_NoNote rfl (zpa_const (vs := [.str "a sign of a place is none of the three"]) rfl))) zpss_nil) (zpss_one (zps_ret (zpe_lc (N' := ["sign"]) (js := [none]) rfl (compOk.scope (sc := defScope s_read_place) (N := ["part"]) (by decide +kernel)) (zpi_str (zpv 0)) (fun _ _ _ _ _ => (zpg_name (i := 0) (show (["sign"] : List Str).Nodup from by decide +kernel) rfl (Or.inl rfl))) (fun _ _ _ _ _ => zpif_nil) (fun _ _ _ _ _ => (zpe_ix (ix_tabK (K := K) rfl) (zpe_gref rfl T_MARK_OF) (zpv 0) (fun _ _ => rfl)))))))), ?_⟩
    have hL : sizeLine = 16777216 := sizeLine_eq
    rcases h with ⟨part, ms, rfl, hm, k⟩ | ⟨part, rfl, h1000, bad, k⟩
    · have both : (part.length = 7 ∧ (part.cps.toList.all fun c => (markOf c).isSome) = true) ∧ ms = part.cps.toList.map fun c => (markOf c).getD "" := by
        unfold placeM at hm
        by_cases g : part.length = 7 ∧ (part.cps.toList.all fun c => (markOf c).isSome) = true
        · rw [if_pos g] at hm
          exact ⟨g, (Option.some.inj hm).symm⟩
        · rw [if_neg g] at hm; cases hm
      obtain ⟨⟨h7, hall⟩, ems⟩ := both
      have c7 := cps_len part
      refine ⟨_, rfl, part, rfl, by omega, rfl, _, rfl, iteNS (by rw [h7]; rfl) ?_⟩
      refine ⟨_, rfl, part, rfl, lc_str (x := part) (fun i ys H' => Same H H' ∧ ys.length ≤ i ∧ i ≤ 7 ∧ ys = ((part.cps.toList.take i).map fun c => (markOf c).isSome).map V.bl) ⟨Same.refl _, by decide, by decide, rfl⟩ ?_ ?_⟩
      · rintro ys H1 ⟨s1, _, _, rfl⟩ l nl
        refine ⟨l, _, rfl, SqL.of upd_same, _, rfl, ?_⟩
        rw [List.take_length, List.all_map, show ((fun b => id b) ∘ fun c => (markOf c).isSome) = (fun c => (markOf c).isSome) from rfl, hall]
        have s2 : Same H (upd H1 l (.lst (((part.cps.toList).map fun c => (markOf c).isSome).map V.bl))) := s1.upd (s1.free nl)
        generalize upd H1 l (.lst (((part.cps.toList).map fun c => (markOf c).isSome).map V.bl)) = H2 at *
        refine iteF ⟨_, rfl, part, rfl, lc_str (x := part) (fun i ys H' => Same H2 H' ∧ ys.length ≤ i ∧ i ≤ 7 ∧ ys = ((part.cps.toList.take i).map fun c => (markOf c).getD "").map V.str) ⟨Same.refl _, by decide, by decide, rfl⟩ ?_ ?_⟩
        · rintro ys H3 ⟨s3, _, _, rfl⟩ l2 nl2
          have s4 := s2.trans s3
          refine k l2 _ (s4.upd (s4.free nl2)) (s4.free nl2) ?_
          rw [upd_same, List.take_length, ems]
        · rintro i c ys H3 ec ⟨s3, hy, hi, rfl⟩
          have hi' : i < 7 := by have := (List.getElem?_eq_some_iff.mp ec).1; omega
          have hc : (markOf c).isSome = true := List.all_eq_true.mp hall c (List.mem_of_getElem? ec)
          obtain ⟨m, hm'⟩ := Option.isSome_iff_exists.mp hc
          refine ⟨Nat.lt_of_le_of_lt hy (small1000 (by omega)), Sub.set rfl, _, rfl, aM, _, markD, m, rfl, rfl, D_MARK_OF, hm', s3, ?_, by omega, ?_⟩
          · rw [List.length_append, List.length_singleton]; omega
          · rw [map_take _ _ _ _ ec, List.map_append, hm']
            rfl
      · rintro i c ys H3 ec ⟨s3, hy, hi, rfl⟩
        have hi' : i < 7 := by have := (List.getElem?_eq_some_iff.mp ec).1; omega
        refine ⟨Nat.lt_of_le_of_lt hy (small1000 (by omega)), Sub.set rfl, _, rfl, aM, _, markD, rfl, rfl, D_MARK_OF, s3, ?_, by omega, ?_⟩
        · rw [List.length_append, List.length_singleton]; omega
        · rw [map_take _ _ _ _ ec, List.map_append]
          rfl
    · refine ⟨_, rfl, part, rfl, by omega, rfl, _, rfl, ?_⟩
      by_cases h7 : part.length = 7
      · have hall : (part.cps.toList.all fun c => (markOf c).isSome) = false := by
          unfold placeM at bad
          cases g : part.cps.toList.all fun c => (markOf c).isSome with
          | false => rfl
          | true => rw [if_pos ⟨h7, g⟩] at bad; cases bad
        have c7 := cps_len part
        refine iteNS (by rw [h7]; rfl) ?_
        refine ⟨_, rfl, part, rfl, lc_str (x := part) (fun i ys H' => Same H H' ∧ ys.length ≤ i ∧ i ≤ 7 ∧ ys = ((part.cps.toList.take i).map fun c => (markOf c).isSome).map V.bl) ⟨Same.refl _, by decide, by decide, rfl⟩ ?_ ?_⟩
        · rintro ys H1 ⟨s1, _, _, rfl⟩ l nl
          refine ⟨l, _, rfl, SqL.of upd_same, _, rfl, ?_⟩
          rw [List.take_length, List.all_map, show ((fun b => id b) ∘ fun c => (markOf c).isSome) = (fun c => (markOf c).isSome) from rfl, hall]
          exact iteT ⟨by show 1 ≤ sizeLine; decide, k _ (s1.upd (s1.free nl))⟩
        · rintro i c ys H3 ec ⟨s3, hy, hi, rfl⟩
          have hi' : i < 7 := by have := (List.getElem?_eq_some_iff.mp ec).1; omega
          refine ⟨Nat.lt_of_le_of_lt hy (small1000 (by omega)), Sub.set rfl, _, rfl, aM, _, markD, rfl, rfl, D_MARK_OF, s3, ?_, by omega, ?_⟩
          · rw [List.length_append, List.length_singleton]; omega
          · rw [map_take _ _ _ _ ec, List.map_append]
            rfl
      · refine iteND (fun z => h7 (by have z' := V.int.inj z; omega)) ⟨by show 1 ≤ sizeLine; decide, k _ (Same.refl _)⟩
theorem sc_read : FnScope ["text", "parts"] ["text"] (defScope s_read) := ⟨rfl, rfl, rfl, by decide +kernel, rfl, by decide +kernel, by decide +kernel⟩
def partsM (text : Str) : List Str := PySem.Txt.split text ⟨#[32]⟩
def readM (text : Str) : Option (List (List Str)) := if (partsM text).length ≤ 4 ∧ ((partsM text).all fun p => (placeM p).isSome) = true then some ((partsM text).map fun p => (placeM p).getD []) else none
theorem mem_sum {n : Nat} : ∀ {l : List Nat}, n ∈ l → n ≤ l.sum
  | a :: r, h => by
    rw [List.sum_cons]
    rcases List.mem_cons.mp h with e | e
    · omega
    · have := mem_sum e
      omega
theorem part_le {text p : Str} (h : p ∈ partsM text) : p.length ≤ text.length := by
  unfold partsM PySem.Txt.split at h
  split at h
  · rw [List.mem_singleton.mp h]; exact Nat.le_refl _
  · split at h
    · rw [List.mem_singleton.mp h]; exact Nat.le_refl _
    · have e := congrArg Str.length (PySem.StrLaws.glued_between_self text ⟨#[32]⟩ (text.length + 1))
      rw [PySem.size_glued] at e
      have m := mem_sum (List.mem_map.mpr ⟨p, h, rfl⟩ : p.length ∈ List.map (·.length) _)
      omega
def spx_read (cO : Addr) : Sp := fun vs H Q E => ∃ text : Str, vs = [.str text] ∧ text.length ≤ 900 ∧
  (∀ pn, readM text = some pn → ∀ (l : Addr) (us : List Addr) (H' : Hp), Same H H' → H l = none → H' l = some (.lst (us.map V.ref)) → MarksAt H' us pn → (∀ u ∈ us, u ≠ l ∧ H u = none) → us.Nodup → Q (.ref l) H') ∧
  (readM text = none → ∀ H', Same H H' → E (.ref cO) none H')
theorem ok_read {cO f f1 : Addr} {fd fd1 : FuncData} {t4 : Tok} (F : Fun K "read" "read" s_read f fd) (T : Txt K mg aS aT) (T_MOST_PLACES : mg "MOST_PLACES" = some (.int 4 t4)) (mk_NoNote : ExcC K cO) (m_NoNote : mg "NoNote" = some (.ref cO)) (T_read_place : FnAt K mg "read_place" ["part"] f1 fd1) (G_read_place : FnOk P w K mg base (CX1 P w) 1 f1 fd1 ["part"] (spx_read_place cO)) :
    FnOk P w K mg base (CX1 P w) 2 f fd ["text"] (spx_read cO) := by
  refine F.zokX sc_read (fun vs H Q E h => ?_) (fun cdv A outer s H vs Q E hr h => ?_)
  · obtain ⟨text, rfl, _⟩ := h
    rfl
  · obtain ⟨text, rfl, h9, kQ, kE⟩ := h
    refine ⟨_, (zpss_cons (zps_set (i := 1) sc_read.nd rfl (Or.inl rfl) (zpe_bm PySem.F.plainAttrs_str PySem.F.slot_str_split PySem.F.type_str_split mt_split (zpv 0) (zpa_const (vs := [.str " "]) rfl))) (zpss_cons (zps_if (zpt_cmpR op_gt (zpe_callB call_len_seq rfl T.len PySem.boot_len (zpa_cons (zpv 1) zpa_nil)) (zpe_glob (v := .int 4) rfl T_MOST_PLACES ⟨_, rfl⟩) (nomark _)) (zpss_one (zps_raise mk_NoNote hr.hd m_NoNote rfl (zpa_const (vs := [.str "a panel has at most 4 places"]) rfl))) zpss_nil) (zpss_one (zps_ret (zpe_lcX (N' := ["part"]) (js := [none])  (compOk.scope (sc := defScope s_read) (N := ["text", "parts"]) (by decide +kernel)) (zpi_list (zpv 1)) (fun _ _ _ _ _ => (zpg_name (i := 0) (show (["part"] : List Str).Nodup from by decide +kernel) rfl (Or.inl rfl))) (fun _ _ _ _ _ => zpif_nil) (fun _ _ _ _ _ => (zpe_call G_read_place (hr.mono (by decide)) rfl T_read_place.m T_read_place.k T_read_place.b .nil passC (zpa_cons (zpv 0) zpa_nil)))))))), ?_⟩
    refine ⟨_, rfl, rfl, text, 32, rfl, rfl, by decide, by omega, fun lp np => ?_⟩
    show _
    have pl := PyProof.Rows.split_le text ⟨#[32]⟩
    rw [show PySem.Txt.split text ⟨#[32]⟩ = partsM text from rfl] at pl ⊢
    have s1 : Same H (upd H lp (.lst ((partsM text).map V.str))) := Same.new np
    have hlp : (upd H lp (.lst ((partsM text).map V.str))) lp = some (.lst ((partsM text).map V.str)) := upd_same
    generalize upd H lp (.lst ((partsM text).map V.str)) = H1 at *
    refine ⟨_, rfl, lp, _, rfl, .inl (SqL.of hlp), _, _, rfl, rfl, _, rfl, ?_⟩
    rw [List.length_map]
    by_cases h4 : (partsM text).length ≤ 4
    case neg =>
      have none' : readM text = none := by unfold readM; rw [if_neg fun z => h4 z.1]
      rw [decide_eq_true (by omega)]
      exact iteT ⟨by show 1 ≤ sizeLine; decide, kE none' H1 s1⟩
    rw [decide_eq_false (by omega)]
    refine iteF ⟨_, rfl, lp, rfl, ⟨_, SqL.of hlp⟩, lc_list (xs := (partsM text).map V.str) (fun i ys H' => Same H1 H' ∧ i ≤ (partsM text).length ∧ (((partsM text).take i).all fun p => (placeM p).isSome) = true ∧ ∃ us, MarksAt H' us (((partsM text).take i).map fun p => (placeM p).getD []) ∧ ys = us.map V.ref ∧ (∀ u ∈ us, H u = none) ∧ us.Nodup)
      ⟨Same.refl _, Nat.zero_le _, rfl, [], .nil, rfl, (fun u h => nomatch h), .nil⟩ (fun i ys H' p => SqL.of (p.1 _ _ hlp)) ?_ ?_⟩
    · rintro ys H2 ⟨s2, _, al, us, hus, rfl, hn, hnd⟩ l nl
      rw [List.length_map, List.take_length] at hus al
      have s02 := s1.trans s2
      refine kQ _ (by unfold readM; rw [if_pos ⟨h4, al⟩]) l us _ (s02.upd (s02.free nl)) (s02.free nl) upd_same (hus.off nl) (fun u hu => ⟨fun z => ?_, hn u hu⟩) hnd
      obtain ⟨i, hi⟩ := List.getElem?_of_mem hu
      obtain ⟨one, _, hu2⟩ := hus.at hi
      rw [z, nl] at hu2
      cases hu2
    · rintro i x ys H2 ex ⟨s2, hi, al, us, hus, rfl, hn, hnd⟩
      obtain ⟨wd, ew, rfl⟩ := str_get ex
      have hi' : i < (partsM text).length := (List.getElem?_eq_some_iff.mp ew).1
      have ul := hus.length
      rw [List.length_map, List.length_take] at ul
      have wl := part_le (List.mem_of_getElem? ew)
      refine ⟨by rw [List.length_map]; exact small1000 (by omega), Sub.set rfl, _, rfl, ?_⟩
      cases em : placeM wd with
      | none =>
        have none' : readM text = none := by
          unfold readM
          rw [if_neg fun z => ?_]
          have := List.all_eq_true.mp z.2 wd (List.mem_of_getElem? ew)
          rw [em] at this
          cases this
        exact .inr ⟨wd, rfl, by omega, em, fun H3 s3 => kE none' H3 ((s1.trans s2).trans s3)⟩
      | some ms =>
        refine .inl ⟨wd, ms, rfl, em, fun l H3 s3 nl hl => ⟨s2.trans s3, hi', ?_, us ++ [l], ?_, by rw [List.map_append]; rfl, fun u hu => ?_, ?_⟩⟩
        · rw [List.take_add_one, ew, List.all_append, al]
          show (true && ((placeM wd).isSome && true)) = true
          rw [em]
          rfl
        · rw [map_take _ _ _ _ ew, em]
          exact Paired.snoc (hus.same s3) hl
        · rcases List.mem_append.mp hu with z | z
          · exact hn u z
          · rw [List.mem_singleton.mp z]; exact (s1.trans s2).free nl
        · rw [List.nodup_append]
          refine ⟨hnd, by simp, fun a ha b hb => ?_⟩
          rw [List.mem_singleton.mp hb]
          intro z
          obtain ⟨j, hj⟩ := List.getElem?_of_mem ha
          obtain ⟨one, _, ha2⟩ := hus.at hj
          rw [z, nl] at ha2
          cases ha2
end
end Lit

set_option Elab.async false
set_option linter.all false
set_option maxRecDepth 100000
namespace Lit
open PySem L2
section
variable {P : Program} {w : World} {K : PySem.W.Frag} {mg : Str → Option Value} {base : Heap} {aS aT : Addr}
/-- what a refused call is told as: None, and which of the errors it was -/
def ToldBad (H : Hp) (Q : VK) (n : Nat) : Prop := ∀ (t m : Addr) (H' : Hp), Same H H' → H' t = some (.tup [.non, .ref m]) → H' m = some (.lst ((refB n).map V.bl)) → Q (.ref t) H'
theorem sc_l_due : FnScope ["text", "found", "word", "place", "sign"] ["text"] (defScope s_l_due) := ⟨rfl, rfl, rfl, by decide +kernel, rfl, by decide +kernel, by decide +kernel⟩
/-- whether a sign is one of the three, and its mark -/
theorem mark_sign (c : Nat) : (∃ m, markOf c = some m ∧ inV (sg c) [.str ".", .str "-", .str "+"] = true ∧ atI [V.str "good", V.str "dead", V.str "stuck"] (PySem.Txt.find ".-+" ⟨#[c]⟩) = some (.str m)) ∨ (markOf c = none ∧ inV (sg c) [.str ".", .str "-", .str "+"] = false) := by
  by_cases h1 : c = 46
  · subst h1; exact .inl ⟨"good", by decide +kernel, by decide +kernel, by decide +kernel⟩
  by_cases h2 : c = 45
  · subst h2; exact .inl ⟨"dead", by decide +kernel, by decide +kernel, by decide +kernel⟩
  by_cases h3 : c = 43
  · subst h3; exact .inl ⟨"stuck", by decide +kernel, by decide +kernel, by decide +kernel⟩
  have e : ∀ d : Nat, c ≠ d → ((⟨#[c]⟩ : Str) = ⟨#[d]⟩) = False := fun d h => by simp [h]
  refine .inr ⟨?_, ?_⟩
  · unfold markOf markD
    have b : ∀ (d : Nat), c ≠ d → ((⟨#[c]⟩ : Str) == ⟨#[d]⟩) = false := fun d h => by simp [h]
    rw [show (".": Str) = ⟨#[46]⟩ from rfl, show ("-": Str) = ⟨#[45]⟩ from rfl, show ("+": Str) = ⟨#[43]⟩ from rfl]
    simp only [List.lookup_cons, b 46 h1, b 45 h2, b 43 h3, List.lookup_nil]
  · unfold inV
    have b : ∀ (d : Nat), c ≠ d → eqV (.str ⟨#[d]⟩) (sg c) = false := fun d h => by
      show decide _ = false
      simp [h, Ne.symm h]
    rw [show (".": Str) = ⟨#[46]⟩ from rfl, show ("-": Str) = ⟨#[45]⟩ from rfl, show ("+": Str) = ⟨#[43]⟩ from rfl]
    simp only [List.any_cons, List.any_nil, b 46 h1, b 45 h2, b 43 h3, Bool.or_false]
theorem marks_ne {H : Hp} {a : Addr} {o : HO} : ∀ {ts : List Addr} {mk : List (List Str)}, MarksAt H ts mk → (∀ t ∈ ts, t ≠ a) → MarksAt (upd H a o) ts mk
  | _, _, .nil, _ => .nil
  | _, _, .cons e r, h => .cons (by rw [upd_ne (h _ List.mem_cons_self)]; exact e) (marks_ne r fun t ht => h t (List.mem_cons_of_mem _ ht))
def sp_l_due : Sp := fun vs H Q _ => ∃ text : Str, vs = [.str text] ∧ text.length ≤ 900 ∧ (readM text = none → ∀ H', Same H H' → Q .non H') ∧
  (∀ pn, readM text = some pn → ∀ (l : Addr) (ts : List Addr) (H' : Hp), Same H H' → H l = none → H' l = some (.lst (ts.map V.ref)) → MarksAt H' ts pn → Q (.ref l) H')
theorem read_none {text p : Str} (h : p ∈ partsM text) (e : placeM p = none) : readM text = none := by
  unfold readM
  rw [if_neg fun z => ?_]
  have := List.all_eq_true.mp z.2 p h
  rw [e] at this
  cases this
set_option maxHeartbeats 2000000 in
theorem ok_l_due {f : Addr} {fd : FuncData} (F : Fun K "_law_due" "_law_due" s_l_due f fd) (T : Txt K mg aS aT) : FnOk P w K mg base (CX1 P w) 1 f fd ["text"] sp_l_due := by
  refine F.zok1 sc_l_due (fun vs H Q E h => ?_) (fun cdv A outer s H vs Q E hr h => ?_)
  · obtain ⟨text, rfl, _⟩ := h
    rfl
  · obtain ⟨text, rfl, h9, kN, kS⟩ := h
    have pl := PyProof.Rows.split_le text ⟨#[32]⟩
    rw [show PySem.Txt.split text ⟨#[32]⟩ = partsM text from rfl] at pl
    refine ⟨_, (zpss_cons (zps_set (i := 1) sc_l_due.nd rfl (Or.inl rfl) (zpe_lst zpa_nil)) (zpss_cons (zps_for PassesOwn.never rfl (zpi_list (zpe_bm PySem.F.plainAttrs_str PySem.F.slot_str_split PySem.F.type_str_split mt_split (zpv 0) (zpa_const (vs := [.str " "]) rfl))) (zpg_name (i := 2) sc_l_due.nd rfl (Or.inl rfl)) (zpss_cons (zps_set (i := 3) sc_l_due.nd rfl (Or.inl rfl) (zpe_lst zpa_nil)) (zpss_cons (zps_for PassesOwn.never rfl (zpi_str (zpv 2)) (zpg_name (i := 4) sc_l_due.nd rfl (Or.inl rfl)) (zpss_cons (zps_if (zpt_cmpR op_notIn_seq (zpv 4) (zpe_tup (zpa_const (vs := [.str ".", .str "-", .str "+"]) rfl)) rfl) (zpss_one (zps_ret zpe_non)) zpss_nil) (zpss_one (zps_expr (zpe_bm PySem.F.plainAttrs_list PySem.F.slot_list_append PySem.F.type_list_append mt_append (zpv 3) (zpa_cons (zpe_ix ix_list (zpe_lst (zpa_const (vs := [.str "good", .str "dead", .str "stuck"]) rfl)) (zpe_bm PySem.F.plainAttrs_str PySem.F.slot_str_find PySem.F.type_str_find mt_find zpe_str (zpa_cons (zpv 4) zpa_nil)) (fun _ _ => rfl)) zpa_nil)))))) (zpss_cons (zps_if (zpt_cmpR op_ne (zpe_callB call_len_seq rfl T.len PySem.boot_len (zpa_cons (zpv 3) zpa_nil)) zpe_int (nomark _)) (zpss_one (zps_ret zpe_non)) zpss_nil) (zpss_one (zps_expr (zpe_bm PySem.F.plainAttrs_list PySem.F.slot_list_append PySem.F.type_list_append mt_append (zpv 1) (zpa_cons (zpv 3) zpa_nil)))))))) (zpss_cons (zps_if (zpt_cmpR op_gt (zpe_callB call_len_seq rfl T.len PySem.boot_len (zpa_cons (zpv 1) zpa_nil)) zpe_int (nomark _)) (zpss_one (zps_ret zpe_non)) zpss_nil) (zpss_one (zps_ret (zpv 1)))))), ?_⟩
    refine ⟨Nat.zero_le _, fun lf nf => ?_⟩
    have s0 : Same H (upd H lf (.lst [])) := Same.new nf
    have hlf : (upd H lf (.lst [])) lf = some (.lst []) := upd_same
    generalize upd H lf (.lst []) = H0 at *
    refine ⟨_, rfl, rfl, text, 32, rfl, rfl, by decide, by omega, fun ls nls => ?_⟩
    rw [show PySem.Txt.split text ⟨#[32]⟩ = partsM text from rfl]
    have s1 : Same H0 (upd H0 ls (.lst ((partsM text).map V.str))) := Same.new nls
    have hls : (upd H0 ls (.lst ((partsM text).map V.str))) ls = some (.lst ((partsM text).map V.str)) := upd_same
    have nll : ls ≠ lf := fun z => by rw [z, hlf] at nls; cases nls
    have hlf1 := s1 _ _ hlf
    generalize upd H0 ls (.lst ((partsM text).map V.str)) = H1 at *
    refine ⟨ls, rfl, ⟨_, SqL.of hls⟩, for_list (xs := (partsM text).map V.str) (fun i σ H' => Same H H' ∧ H' ls = some (.lst ((partsM text).map V.str)) ∧ i ≤ (partsM text).length ∧ (((partsM text).take i).all fun p => (placeM p).isSome) = true ∧
      ∃ us v2 v3 v4, MarksAt H' us (((partsM text).take i).map fun p => (placeM p).getD []) ∧ H' lf = some (.lst (us.map V.ref)) ∧ (∀ u ∈ us, u ≠ lf) ∧ σ = [some (.str text), some (.ref lf), v2, v3, v4])
      ⟨s0.trans s1, hls, Nat.zero_le _, rfl, [], none, none, none, .nil, hlf1, (fun u h => nomatch h), rfl⟩ (fun i σ H' _ p => SqL.of p.2.1) ?_ ?_⟩
    · rintro i x σ H2 ex ⟨s2, hls2, hi, al, us, v2, v3, v4, hus, hlf2, une, rfl⟩
      obtain ⟨wd, ew, rfl⟩ := str_get ex
      have hi' : i < (partsM text).length := (List.getElem?_eq_some_iff.mp ew).1
      have win := List.mem_of_getElem? ew
      have wl := part_le win
      have cl := cps_len wd
      have ul := hus.length
      rw [List.length_map, List.length_take] at ul
      refine ⟨Nat.zero_le _, fun lp np => ?_⟩
      refine ⟨_, rfl, wd, rfl, for_str (x := wd) (fun j σ H' => Same H2 H' ∧ j ≤ wd.length ∧ ((wd.cps.toList.take j).all fun c => (markOf c).isSome) = true ∧ ∃ v4, H' lp = some (.lst (((wd.cps.toList.take j).map fun c => (markOf c).getD "").map V.str)) ∧ σ = [some (.str text), some (.ref lf), some (.str wd), some (.ref lp), v4])
        ⟨Same.new np, Nat.zero_le _, rfl, v4, upd_same, rfl⟩ ?_ ?_⟩
      · rintro j c σ H3 ec ⟨s3, hj, al3, w4, hlp, rfl⟩
        have hj' : j < wd.length := by have := (List.getElem?_eq_some_iff.mp ec).1; omega
        have nlp : ∀ {J : Hp} {b : Addr}, J lp = some (.lst (((wd.cps.toList.take j).map fun c => (markOf c).getD "").map V.str)) → J b = none → b ≠ lp := fun e n z => by rw [z, e] at n; cases n
        refine ⟨_, rfl, by show 3 ≤ sizeLine; decide, fun tp ntp => ?_⟩
        have s4 : Same H3 (upd H3 tp (.tup [.str ".", .str "-", .str "+"])) := Same.new ntp
        have hlp4 := s4 _ _ hlp
        refine ⟨tp, _, rfl, .inr (SqT.of upd_same), rfl, rfl, _, rfl, ?_⟩
        generalize upd H3 tp (.tup [.str ".", .str "-", .str "+"]) = H4 at *
        rcases mark_sign c with ⟨m, em, iv, av⟩ | ⟨em, iv⟩
        · rw [show (!inV (sg c) [V.str ".", V.str "-", V.str "+"]) = false by rw [iv]; rfl]
          refine iteF ⟨_, rfl, .inl ⟨rfl, _, SqL.of hlp4⟩, by show 3 ≤ sizeLine; decide, fun l3 n3 => ?_⟩
          have s5 : Same H4 (upd H4 l3 (.lst [.str "good", .str "dead", .str "stuck"])) := Same.new n3
          refine ⟨rfl, _, rfl, ".-+", ⟨#[c]⟩, rfl, rfl, l3, _, _, .str m, rfl, rfl, SqL.of upd_same, av, ?_⟩
          have hlp5 := s5 _ _ hlp4
          generalize upd H4 l3 (.lst [.str "good", .str "dead", .str "stuck"]) = H5 at *
          refine ⟨lp, _, .str m, rfl, rfl, hlp5, by rw [List.length_map, List.length_map, List.length_take]; exact small1000 (by omega), ?_⟩
          refine ⟨((s3.trans s4).trans s5).upd np, hj', ?_, _, ?_, rfl⟩
          · rw [List.take_add_one, ec, List.all_append, al3]
            show (true && ((markOf c).isSome && true)) = true
            rw [em]
            rfl
          · rw [upd_same, map_take _ _ _ _ ec, List.map_append, em]
            rfl
        · rw [show (!inV (sg c) [V.str ".", V.str "-", V.str "+"]) = true by rw [iv]; rfl]
          refine iteT (kN (read_none win ?_) H4 ((s2.trans s3).trans s4))
          unfold placeM
          rw [if_neg fun z => ?_]
          have := List.all_eq_true.mp z.2 c (List.mem_of_getElem? ec)
          rw [em] at this
          cases this
      · rintro σ H3 ⟨s3, _, al3, w4, hlp, rfl⟩
        rw [List.take_length] at al3 hlp
        refine ⟨_, rfl, lp, _, rfl, .inl (SqL.of hlp), rfl, _, rfl, ?_⟩
        rw [List.length_map, List.length_map, cl]
        by_cases h7 : wd.length = 7
        · have em : placeM wd = some (wd.cps.toList.map fun c => (markOf c).getD "") := by
            unfold placeM
            rw [if_pos ⟨h7, al3⟩]
          refine iteNS (by rw [h7]; rfl) ⟨_, rfl, .inl ⟨rfl, _, SqL.of (s3 _ _ hlf2)⟩, _, rfl, lf, us.map V.ref, .ref lp, rfl, rfl, s3 _ _ hlf2, by rw [List.length_map]; exact small1000 (by omega), ?_⟩
          have npf : lp ≠ lf := fun z => by rw [z, hlf2] at np; cases np
          refine ⟨(s2.trans s3).upd nf, ?_, hi', ?_, us ++ [lp], _, _, _, ?_, ?_, ?_, rfl⟩
          · rw [upd_ne nll]; exact s3 _ _ hls2
          · rw [List.take_add_one, ew, List.all_append, al]
            show (true && ((placeM wd).isSome && true)) = true
            rw [em]
            rfl
          · rw [map_take _ _ _ _ ew, em]
            have b0 : MarksAt (upd H3 lf (.lst (us.map V.ref ++ [.ref lp]))) us (((partsM text).take i).map fun p => (placeM p).getD []) := by
              have := hus.same s3
              exact marks_ne this une
            exact Paired.snoc b0 (by rw [upd_ne npf]; exact hlp)
          · rw [upd_same, List.map_append]; rfl
          · intro u hu
            rcases List.mem_append.mp hu with z | z
            · exact une u z
            · rw [List.mem_singleton.mp z]; exact npf
        · refine iteND (fun z => h7 ?_) (kN (read_none win ?_) H3 (s2.trans s3))
          · have := V.int.inj z
            omega
          · unfold placeM
            rw [if_neg fun z => h7 z.1]
    · rintro σ H2 ⟨s2, hls2, _, al, us, v2, v3, v4, hus, hlf2, une, rfl⟩
      rw [List.length_map, List.take_length] at hus al
      have ul := hus.length
      rw [List.length_map] at ul
      refine ⟨_, rfl, lf, _, rfl, .inl (SqL.of hlf2), _, _, rfl, rfl, _, rfl, ?_⟩
      rw [List.length_map, ul]
      by_cases h4 : (partsM text).length ≤ 4
      · rw [decide_eq_false (by omega)]
        exact iteF ⟨_, rfl, kS _ (by unfold readM; rw [if_pos ⟨h4, al⟩]) lf us H2 s2 nf hlf2 hus⟩
      · rw [decide_eq_true (by omega)]
        exact iteT (kN (by unfold readM; rw [if_neg fun z => h4 z.1]) H2 s2)
theorem sc_l_told : FnScope ["text", "found", "marks", "e"] ["text"] (defScope s_l_told) := ⟨rfl, rfl, rfl, by decide +kernel, rfl, by decide +kernel, by decide +kernel⟩
def ToldOpen (H : Hp) (Q : VK) (mk : List (List Str)) : Prop := ∀ (t m l : Addr) (us : List Addr) (H' : Hp), Same H H' → H' t = some (.tup [.ref l, .ref m]) → H' m = some (.lst []) → H' l = some (.lst (us.map V.ref)) → MarksAt H' us mk → Q (.ref t) H'
def sp_l_told : Sp := fun vs H Q _ => ∃ text : Str, vs = [.str text] ∧ text.length ≤ 900 ∧ (∀ pn, readM text = some pn → ToldOpen H Q pn) ∧ (readM text = none → ToldBad H Q 3)
theorem ok_l_told {cL cF cN cC cO f f1 : Addr} {fd fd1 : FuncData} (F : Fun K "_law_told" "_law_told" s_l_told f fd) (T : Txt K mg aS aT) (TX : ExcT K mg cL cF cN cC cO) (RO : RaisedC K cL cF cN cC cO cO false false false true)
    (T_read : FnAt K mg "read" ["text"] f1 fd1) (G_read : FnOk P w K mg base (CX1 P w) 2 f1 fd1 ["text"] (spx_read cO)) : FnOk P w K mg base (CX1 P w) 4 f fd ["text"] sp_l_told := by
  refine F.zok1 sc_l_told (fun vs H Q E h => ?_) (fun cdv A outer s H vs Q E hr h => ?_)
  · obtain ⟨text, rfl, _⟩ := h
    rfl
  · obtain ⟨text, rfl, h9, kQ, kO⟩ := h
    refine ⟨_, (zpss_cons (zps_set (i := 1) sc_l_told.nd rfl (Or.inl rfl) zpe_non) (zpss_cons (zps_set (i := 2) sc_l_told.nd rfl (Or.inl rfl) (zpe_lst zpa_nil)) (zpss_cons (zps_try (ie := 3) rfl rfl rfl sc_l_told.nd rfl rfl rfl TX.m_LitError TX.cat (fun _ _ _ => (zpss_one (zps_set (i := 1) sc_l_told.nd rfl (Or.inl rfl) (zpe_callAt G_read (hr.mono (by decide)) rfl T_read.m T_read.k T_read.b (passT rfl) (zpa_cons (zpv 0) zpa_nil))))) (fun _ => (zpss_cons (zps_set (i := 2) sc_l_told.nd rfl (Or.inl rfl) (zpe_lst (zpa_cons (zpe_callB (call_isinstK (K := K) rfl) rfl T.isinstance bt_isinstance (zpa_cons (zpv 3) (zpa_cons (zpe_gref rfl TX.m_NoFigure) zpa_nil))) (zpa_cons (zpe_callB (call_isinstK (K := K) rfl) rfl T.isinstance bt_isinstance (zpa_cons (zpv 3) (zpa_cons (zpe_gref rfl TX.m_NoNumber) zpa_nil))) (zpa_cons (zpe_callB (call_isinstK (K := K) rfl) rfl T.isinstance bt_isinstance (zpa_cons (zpv 3) (zpa_cons (zpe_gref rfl TX.m_Clash) zpa_nil))) (zpa_cons (zpe_callB (call_isinstK (K := K) rfl) rfl T.isinstance bt_isinstance (zpa_cons (zpv 3) (zpa_cons (zpe_gref rfl TX.m_NoNote) zpa_nil))) zpa_nil)))))) (zpss_one (zps_expr (zpe_bmK (K := K) rfl PySem.F.plainAttrs_list PySem.F.slot_list_append PySem.F.type_list_append mt_append (zpv 2) (zpa_cons (zpe_callB (call_isinstK (K := K) rfl) rfl T.isinstance bt_isinstance (zpa_cons (zpv 3) (zpa_cons (zpe_ty rfl T.ValueError bt_ValueError) zpa_nil))) zpa_nil))))))) (zpss_one (zps_ret (zpe_tup (zpa_cons (zpv 1) (zpa_cons (zpv 2) zpa_nil)))))))), ?_⟩
    refine ⟨Nat.zero_le _, fun lm nm => ?_⟩
    have s1 : Same H (upd H lm (.lst [])) := Same.new nm
    have hlm : (upd H lm (.lst [])) lm = some (.lst []) := upd_same
    generalize upd H lm (.lst []) = H0 at *
    refine ⟨rfl, _, rfl, text, rfl, h9, fun pn er l us H1 s2 nl hl hus une und => ?_, fun er H1 s2 => ⟨cO, rfl, RO.sub, fun x nx => ?_⟩⟩
    · have s02 := s1.trans s2
      refine ⟨_, rfl, _, rfl, by show 2 ≤ sizeLine; decide, fun t nt => ?_⟩
      have s3 : Same H1 (upd H1 t (.tup [.ref l, .ref lm])) := Same.new nt
      exact kQ pn er t lm l us _ (s02.trans s3) upd_same (s3 _ _ (s2 _ _ hlm)) (s3 _ _ hl) (hus.same s3)
    · have s2' := (s1.trans s2).upd (a := x) (o := excO x cO) ((s1.trans s2).free nx)
      refine ⟨_, rfl, isi_exc upd_same RO.lk RO.kF ⟨_, rfl, isi_exc upd_same RO.lk RO.kN ⟨_, rfl, isi_exc upd_same RO.lk RO.kC ⟨_, rfl, isi_exc upd_same RO.lk RO.kO ⟨by show 4 ≤ sizeLine; decide, fun l4 n4 => ?_⟩⟩⟩⟩⟩
      have s3 := s2'.upd (a := l4) (o := .lst [.bl false, .bl false, .bl false, .bl true]) (s2'.free n4)
      refine ⟨_, rfl, .inl ⟨rfl, _, SqL.of upd_same⟩, _, rfl, isi_excT (by rw [upd_ne (ne_of_none upd_same n4)]; exact upd_same) RO.lk RO.kV ⟨l4, _, _, rfl, rfl, upd_same, by show 4 < sizeLine; decide, ?_⟩⟩
      have s4 := s3.upd (a := l4) (o := .lst ([.bl false, .bl false, .bl false, .bl true] ++ [.bl true])) (s2'.free n4)
      refine ⟨_, rfl, _, rfl, by show 2 ≤ sizeLine; decide, fun t nt => kO er t l4 _ (s4.upd (s4.free nt)) upd_same ?_⟩
      rw [upd_ne (ne_of_none upd_same nt), upd_same]
      rfl
end
end Lit

set_option Elab.async false
set_option linter.all false
set_option maxRecDepth 100000
namespace Lit
open PySem L2
theorem words_sum : ∀ pn : List (List Str), (∀ ms ∈ pn, GoodPlace ms) → ((pn.map wordM).map (·.length)).sum = 7 * pn.length
  | [], _ => rfl
  | ms :: r, h => by
    rw [List.map_cons, List.map_cons, List.sum_cons, words_sum r fun x hx => h x (List.mem_cons_of_mem _ hx), word_len ms (h ms List.mem_cons_self).2, (h ms List.mem_cons_self).1, List.length_cons]
    omega
theorem text_short {pn : List (List Str)} (h5 : pn.length ≤ 5) (h : ∀ ms ∈ pn, GoodPlace ms) : (textM pn).length ≤ 100 := by
  unfold textM PySem.Txt.join
  rw [PySem.size_glued, words_sum pn h, List.length_map, show (" " : Str).length = 1 by decide +kernel]
  omega
theorem read_good {text : Str} {pn : List (List Str)} (h : readM text = some pn) : pn.length ≤ 4 ∧ ∀ one ∈ pn, one.length ≤ 100 ∧ ∀ x ∈ one, PyData.strOk x = true := by
  unfold readM at h
  by_cases c : (partsM text).length ≤ 4 ∧ ((partsM text).all fun p => (placeM p).isSome) = true
  · rw [if_pos c] at h
    cases h
    refine ⟨by rw [List.length_map]; exact c.1, fun one ho => ?_⟩
    obtain ⟨p, hp, rfl⟩ := List.mem_map.mp ho
    have q := List.all_eq_true.mp c.2 p hp
    unfold placeM at q ⊢
    by_cases d : p.length = 7 ∧ (p.cps.toList.all fun c => (markOf c).isSome) = true
    · rw [if_pos d]
      refine ⟨?_, fun x hx => ?_⟩
      · show (List.map _ _).length ≤ 100
        rw [List.length_map, cps_len, d.1]
        decide
      · obtain ⟨z, hz, rfl⟩ := List.mem_map.mp (show x ∈ List.map _ _ from hx)
        rcases mark_sign z with ⟨m, em, _, av⟩ | ⟨em, _⟩
        · rw [em]
          show PyData.strOk m = true
          have hz' := em
          unfold markOf markD at hz'
          simp only [List.lookup_cons, List.lookup_nil] at hz'
          split at hz'
          · cases hz'; decide +kernel
          · split at hz'
            · cases hz'; decide +kernel
            · split at hz'
              · cases hz'; decide +kernel
              · cases hz'
        · have := List.all_eq_true.mp d.2 z hz
          rw [em] at this
          cases this
    · rw [if_neg d] at q
      cases q
  · rw [if_neg c] at h
    cases h
theorem put_at (n : Int) : ∃ ch, atI (".-+ ,0g_*:" : Str).cps.toList (n % 10) = some ch := by
  obtain ⟨d, hd, ed⟩ : ∃ d : Nat, d < 10 ∧ n % 10 = (d : Int) := ⟨(n % 10).toNat, by omega, by omega⟩
  rw [ed]
  have all : ∀ d : Fin 10, ((atI (".-+ ,0g_*:" : Str).cps.toList ((d.val : Nat) : Int)).isSome) = true := by decide +kernel
  exact Option.isSome_iff_exists.mp (all ⟨d, hd⟩)
abbrev oddT : List Str := ["", " ", ".......", "...... .", "....... ", " .......", "--------", ".-+.-+.  .-+.-+."]
theorem odd_at (n : Int) : ∃ z, atI (oddT.map V.str) (n % 8) = some (.str z) ∧ z.length ≤ 100 := by
  obtain ⟨d, hd, ed⟩ : ∃ d : Nat, d < 8 ∧ n % 8 = (d : Int) := ⟨(n % 8).toNat, by omega, by omega⟩
  rw [ed]
  have e : oddT[d]? = some (oddT.getD d "") := by
    rw [List.getD_eq_getElem?_getD, List.getElem?_eq_getElem (show d < oddT.length from hd)]
    rfl
  refine ⟨oddT.getD d "", atI_nat (by rw [List.getElem?_map, e]; rfl), ?_⟩
  have all : ∀ d : Fin 8, decide ((oddT.getD d.val "").length ≤ 100) = true := by decide +kernel
  exact of_decide_eq_true (all ⟨d, hd⟩)
abbrev lawN : List Str := ["script", "text", "way", "at", "put", "some", "due", "told"]
section
variable {P : Program} {w : World} {K : PySem.W.Frag} {mg : Str → Option Value} {base : Heap} {aS aT : Addr}
theorem sc_law : FnScope lawN ["script"] (defScope s_law) := ⟨rfl, rfl, rfl, by decide +kernel, rfl, by decide +kernel, by decide +kernel⟩
theorem marks_rep {H : Hp} : ∀ {us : List Addr} {mk : List (List Str)}, MarksAt H us mk → RepAll K H (us.map V.ref) (dPs mk)
  | _, _, .nil => .nil
  | _, _, .cons (b := one) e r => .cons (.list (SqL.of e) (RepAll.strs one)) (marks_rep r)
set_option maxHeartbeats 4000000 in
theorem ok_law {f f1 f2 f3 f4 f5 f6 f7 : Addr} {fd fd1 fd2 fd3 fd4 fd5 fd6 fd7 : FuncData} (F : Fun K "law" "law" s_law f fd) (T : Txt K mg aS aT)
    (T_l_cell_at : FnAt K mg "_law_cell_at" ["script", "k"] f1 fd1) (G_l_cell_at : FnOk P w K mg base (CX1 P w) 1 f1 fd1 ["script", "k"] (sp_l_cell_at K))
    (T_l_panel : FnAt K mg "_law_panel" ["script", "start", "places"] f2 fd2) (G_l_panel : FnOk P w K mg base (CX1 P w) 3 f2 fd2 ["script", "start", "places"] (sp_l_panel K))
    (T_l_text : FnAt K mg "_law_text" ["panel"] f3 fd3) (G_l_text : FnOk P w K mg base (CX1 P w) 1 f3 fd3 ["panel"] (sp_l_text K))
    (T_l_rows_like : FnAt K mg "_law_rows_like" ["found", "due"] f4 fd4) (G_l_rows_like : FnOk P w K mg base (CX1 P w) 1 f4 fd4 ["found", "due"] (sp_l_rows_like K))
    (T_l_refused : FnAt K mg "_law_refused" ["marks", "which"] f5 fd5) (G_l_refused : FnOk P w K mg base (CX1 P w) 1 f5 fd5 ["marks", "which"] (sp_l_refused K))
    (T_l_told : FnAt K mg "_law_told" ["text"] f6 fd6) (G_l_told : FnOk P w K mg base (CX1 P w) 4 f6 fd6 ["text"] sp_l_told)
    (T_l_due : FnAt K mg "_law_due" ["text"] f7 fd7) (G_l_due : FnOk P w K mg base (CX1 P w) 1 f7 fd7 ["text"] sp_l_due) : FnOk P w K mg base (CX1 P w) 7 f fd ["script"] (spLaw K) := by
  refine F.zok1 sc_law (fun vs H Q E h => ?_) (fun cdv A outer s H vs Q E hr h => ?_)
  · obtain ⟨a, ns, rfl, _⟩ := h
    rfl
  · obtain ⟨a, ns, rfl, ha, hlen, k⟩ := h
    have tail : ∃ tl, YPSs (cxOf (CX1 P w) P w K mg base lawN "law" (defScope s_law) f cdv A outer s H E).nox ((defBody s_law).drop 5) tl ∧
        ∀ (H3 : Hp) (y : Str) (v2 v3 v4 v5 : Option V), y.length ≤ 900 → tl { nx := fun _ H' => Q .non H', rt := Q } [some (.ref a), some (.str y), v2, v3, v4, v5, none, none] H3 := by
      refine ⟨_, (zpss_cons (zps_set (i := 6) sc_law.nd rfl (Or.inl rfl) (zpe_call G_l_due (hr.mono (by decide)) rfl T_l_due.m T_l_due.k T_l_due.b .nil pass1n (zpa_cons (zpv 1) zpa_nil))) (zpss_cons (zps_set (i := 7) sc_law.nd rfl (Or.inl rfl) (zpe_call G_l_told (hr.mono (by decide)) rfl T_l_told.m T_l_told.k T_l_told.b .nil pass1n (zpa_cons (zpv 1) zpa_nil))) (zpss_cons (zps_if (zpt_cmp (zpc_isN (zpv 6))) (zpss_one (zps_ret (zpe_call G_l_refused (hr.mono (by decide)) rfl T_l_refused.m T_l_refused.k T_l_refused.b .nil pass1n (zpa_cons (zpe_ix ix_tup (zpv 7) zpe_int (fun _ _ => rfl)) (zpa_cons zpe_int zpa_nil))))) zpss_nil) (zpss_one (zps_ret (zpe_and (zpe_cmpR (op_eqK (K := K) rfl hr.units) (zpe_ix ix_tup (zpv 7) zpe_int (fun _ _ => rfl)) (zpe_lst zpa_nil) (nomark _)) (zpe_one (zpe_call G_l_rows_like (hr.mono (by decide)) rfl T_l_rows_like.m T_l_rows_like.k T_l_rows_like.b .nil pass1n (zpa_cons (zpe_ix ix_tup (zpv 7) zpe_int (fun _ _ => rfl)) (zpa_cons (zpv 6) zpa_nil)))))))))), fun H3 y v2 v3 v4 v5 hy => ?_⟩
      refine ⟨_, rfl, y, rfl, hy, fun er H4 s4 => ?_, fun pn er l ts H4 s4 nl hl hts => ?_⟩
      · refine ⟨_, rfl, y, rfl, hy, (fun pn er' => by rw [er] at er'; cases er'), fun _ t m H5 s5 ht hm => ?_⟩
        refine ⟨_, rfl, _, rfl, iteT ⟨_, rfl, t, _, 1, .ref m, rfl, rfl, SqT.of ht, rfl, m, 3, rfl, SqL.of hm, fun H6 _ => k H6⟩⟩
      · refine ⟨_, rfl, y, rfl, hy, fun pn' er' t m l2 us H5 s5 ht hm hl2 hus => ?_, fun er' => by rw [er] at er'; cases er'⟩
        rw [er] at er'
        cases er'
        obtain ⟨g1, g2⟩ := read_good er
        have hl5 := s5 _ _ hl
        have hts5 := hts.same s5
        refine ⟨_, rfl, _, rfl, iteF ⟨_, rfl, t, _, 1, .ref m, rfl, rfl, SqT.of ht, rfl, Nat.zero_le _, fun l0 n0 => ?_⟩⟩
        have s6 : Same H5 (upd H5 l0 (.lst [])) := Same.new n0
        refine eqD_self (n := 1) (d := .list []) (.list fun d hd => nomatch hd) (.list (SqL.of (s6 _ _ hm)) .nil) (.list (SqL.of upd_same) .nil) ?_
        refine ⟨_, rfl, iteT ⟨_, rfl, t, _, 0, .ref l2, rfl, rfl, SqT.of (s6 _ _ ht), rfl, _, rfl, l2, .ref l, us, pn, rfl, s6 _ _ hl2, hus.same s6, .list (SqL.of (s6 _ _ hl5)) (marks_rep (hts5.same s6)), fun one ho => (g2 one ho).2, by omega, fun one ho => (g2 one ho).1, fun H7 _ => k H7⟩⟩
    obtain ⟨tl, tl_h, tl_q⟩ := tail
    refine ⟨_, (zpss_cons (zps_set (i := 1) sc_law.nd rfl (Or.inl rfl) (zpe_call G_l_text (hr.mono (by decide)) rfl T_l_text.m T_l_text.k T_l_text.b .nil pass1n (zpa_cons (zpe_call G_l_panel (hr.mono (by decide)) rfl T_l_panel.m T_l_panel.k T_l_panel.b .nil pass1n (zpa_cons (zpv 0) (zpa_cons zpe_int (zpa_cons (zpe_op op_add zpe_int (zpe_op op_mod (zpe_call G_l_cell_at (hr.mono (by decide)) rfl T_l_cell_at.m T_l_cell_at.k T_l_cell_at.b .nil pass1n (zpa_cons (zpv 0) (zpa_cons zpe_int zpa_nil))) zpe_int)) zpa_nil)))) zpa_nil))) (zpss_cons (zps_set (i := 2) sc_law.nd rfl (Or.inl rfl) (zpe_op op_mod (zpe_call G_l_cell_at (hr.mono (by decide)) rfl T_l_cell_at.m T_l_cell_at.k T_l_cell_at.b .nil pass1n (zpa_cons (zpv 0) (zpa_cons zpe_int zpa_nil))) zpe_int)) (zpss_cons (zps_set (i := 3) sc_law.nd rfl (Or.inl rfl) (zpe_op op_mod (zpe_call G_l_cell_at (hr.mono (by decide)) rfl T_l_cell_at.m T_l_cell_at.k T_l_cell_at.b .nil pass1n (zpa_cons (zpv 0) (zpa_cons zpe_int zpa_nil))) (zpe_op op_add (zpe_callB call_len_str rfl T.len PySem.boot_len (zpa_cons (zpv 1) zpa_nil)) zpe_int))) (zpss_cons (zps_set (i := 4) sc_law.nd rfl (Or.inl rfl) (zpe_ix ix_str zpe_str (zpe_op op_mod (zpe_call G_l_cell_at (hr.mono (by decide)) rfl T_l_cell_at.m T_l_cell_at.k T_l_cell_at.b .nil pass1n (zpa_cons (zpv 0) (zpa_cons zpe_int zpa_nil))) zpe_int) (fun _ _ => rfl))) (zpss_cons (zps_if (zpt_cmpR op_lt (zpv 2) zpe_int (nomark _)) (zpss_one (zps_set (i := 1) sc_law.nd rfl (Or.inl rfl) (zpe_op op_add_str (zpe_op op_add_str (zpe_slice sl_str (zpv 1) zpo_none (zpo_some (zpv 3))) (zpv 4)) (zpe_slice sl_str (zpv 1) (zpo_some (zpv 3)) zpo_none)))) (zpss_one (zps_if (zpt_cmpR op_lt (zpv 2) zpe_int (nomark _)) (zpss_one (zps_set (i := 1) sc_law.nd rfl (Or.inl rfl) (zpe_op op_add_str (zpe_op op_add_str (zpe_slice sl_str (zpv 1) zpo_none (zpo_some (zpv 3))) (zpv 4)) (zpe_slice sl_str (zpv 1) (zpo_some (zpe_op op_add (zpv 3) zpe_int)) zpo_none)))) (zpss_one (zps_if (zpt_cmpR op_lt (zpv 2) zpe_int (nomark _)) (zpss_one (zps_set (i := 1) sc_law.nd rfl (Or.inl rfl) (zpe_op op_add_str (zpe_slice sl_str (zpv 1) zpo_none (zpo_some (zpv 3))) (zpe_slice sl_str (zpv 1) (zpo_some (zpe_op op_add (zpv 3) zpe_int)) zpo_none)))) (zpss_one (zps_if (zpt_cmpR op_eq (zpv 2) zpe_int (nomark _)) (zpss_cons (zps_set (i := 5) sc_law.nd rfl (Or.inl rfl) (zpe_lst (zpa_const (vs := [.str "", .str " ", .str ".......", .str "...... .", .str "....... ", .str " .......", .str "--------", .str ".-+.-+.  .-+.-+."]) rfl))) (zpss_one (zps_set (i := 1) sc_law.nd rfl (Or.inl rfl) (zpe_ix ix_list (zpv 5) (zpe_op op_mod (zpe_call G_l_cell_at (hr.mono (by decide)) rfl T_l_cell_at.m T_l_cell_at.k T_l_cell_at.b .nil pass1n (zpa_cons (zpv 0) (zpa_cons zpe_int zpa_nil))) zpe_int) (fun _ _ => rfl))))) zpss_nil))))))) tl_h))))), ?_⟩
    obtain ⟨c, hc, ec⟩ : ∃ c : Nat, c < 5 ∧ cellM ns 0 % 5 = (c : Int) := ⟨(cellM ns 0 % 5).toNat, by omega, by omega⟩
    have e1 : (1 : Int) + (c : Int) = ((c + 1 : Nat) : Int) := by omega
    refine ⟨_, rfl, _, rfl, a, ns, 0, rfl, ha, _, _, rfl, rfl, (by show (0 : Int) < 5; decide), _, _, rfl, rfl, ?_⟩
    simp only [ec, e1]
    refine ⟨a, ns, 4, c + 1, rfl, ha, by omega, fun pn l xs H1 hpn hgood s1 nl hl hrep => ?_⟩
    refine ⟨.ref l, pn, rfl, .list (SqL.of hl) hrep, by omega, hgood, fun H2 s2 => ?_⟩
    have tlen := text_short (by omega) hgood
    generalize textM pn = y at *
    have ha2 := (s1.trans s2).seq ha
    have hL : sizeLine = 16777216 := sizeLine_eq
    have hz : ∀ z : Str, z.length ≤ 900 → z.length ≤ sizeLine := fun z h => by omega
    refine ⟨_, rfl, a, ns, 1, rfl, ha2, _, _, rfl, rfl, (by show (0 : Int) < 10; decide), ?_⟩
    refine ⟨_, rfl, a, ns, 2, rfl, ha2, _, rfl, y, rfl, hz y (by omega), _, _, rfl, rfl, _, _, rfl, rfl, (by show (0 : Int) < (y.length : Int) + 1; omega), ?_⟩
    obtain ⟨ch, ech⟩ := put_at (cellM ns 3)
    refine ⟨_, rfl, a, ns, 3, rfl, ha2, _, _, rfl, rfl, (by show (0 : Int) < 10; decide), _, _, ch, rfl, rfl, by decide +kernel, ech, ?_⟩
    have one : (⟨#[ch]⟩ : Str).length = 1 := rfl
    refine ⟨_, rfl, _, _, rfl, rfl, _, rfl, ?_⟩
    by_cases w2 : cellM ns 1 % 10 < 2
    · rw [decide_eq_true w2]
      refine iteT ⟨_, rfl, _, rfl, _, rfl, y, rfl, by omega, fun y1 h1 => ⟨_, rfl, _, _, rfl, rfl, ?_, _, rfl, _, rfl, _, rfl, y, rfl, by omega, fun y2 h2 => ⟨_, _, rfl, rfl, ?_, tl_q H2 _ _ _ _ _ ?_⟩⟩⟩
      · omega
      · rw [Str.length_append]; omega
      · rw [Str.length_append, Str.length_append]; omega
    rw [decide_eq_false w2]
    refine iteF ⟨_, rfl, _, _, rfl, rfl, _, rfl, ?_⟩
    by_cases w5 : cellM ns 1 % 10 < 5
    · rw [decide_eq_true w5]
      refine iteT ⟨_, rfl, _, rfl, _, rfl, y, rfl, by omega, fun y1 h1 => ⟨_, rfl, _, _, rfl, rfl, ?_, _, rfl, _, rfl, _, _, rfl, rfl, _, rfl, y, rfl, by omega, fun y2 h2 => ⟨_, _, rfl, rfl, ?_, tl_q H2 _ _ _ _ _ ?_⟩⟩⟩
      · omega
      · rw [Str.length_append]; omega
      · rw [Str.length_append, Str.length_append]; omega
    rw [decide_eq_false w5]
    refine iteF ⟨_, rfl, _, _, rfl, rfl, _, rfl, ?_⟩
    by_cases w7 : cellM ns 1 % 10 < 7
    · rw [decide_eq_true w7]
      refine iteT ⟨_, rfl, _, rfl, _, rfl, y, rfl, by omega, fun y1 h1 => ⟨_, rfl, _, rfl, _, _, rfl, rfl, _, rfl, y, rfl, by omega, fun y2 h2 => ⟨_, _, rfl, rfl, ?_, tl_q H2 _ _ _ _ _ ?_⟩⟩⟩
      · omega
      · rw [Str.length_append]; omega
    rw [decide_eq_false w7]
    refine iteF ⟨_, rfl, rfl, _, rfl, ?_⟩
    by_cases e7 : V.int (cellM ns 1 % 10) = V.int 7
    · rw [decide_eq_true e7]
      refine iteT ⟨by show 8 ≤ sizeLine; decide, fun l8 n8 => ?_⟩
      obtain ⟨z, ez, lz⟩ := odd_at (cellM ns 3)
      have s3 : Same H2 (upd H2 l8 (.lst (oddT.map V.str))) := Same.new n8
      exact ⟨_, rfl, _, rfl, a, ns, 3, rfl, s3.seq ha2, _, _, rfl, rfl, (by show (0 : Int) < 8; decide), l8, _, _, .str z, rfl, rfl, SqL.of upd_same, ez, tl_q _ _ _ _ _ _ (by omega)⟩
    · rw [decide_eq_false e7]
      exact iteF (tl_q H2 _ _ _ _ _ (by omega))
end
end Lit

set_option Elab.async false
set_option linter.all false
set_option maxRecDepth 100000
namespace Lit
open PySem L2
theorem all_mk {l : PySem.W.OpenLaw} {w : World} {K : PySem.W.Frag} {h : Heap} {mg : Str → Option Value} {fa  cL cF cN cC cO f1 f2 f3 f4 f5 f6 f7 f8 f9 f10 f11 f12 f13 : Addr} (X : K.In h) (G : h.Ns mainGlobals mg) (hfa : mg "law" = some (.ref fa))
    {od1 an1 od2 an2 od3 an3 od4 an4 od5 an5 od6 an6 od7 an7 od8 an8 od9 an9 od10 an10 od11 an11 od12 an12 od13 an13 : Option Addr} {sl1 sl2 sl3 sl4 sl5 sl6 sl7 sl8 sl9 sl10 sl11 sl12 sl13 : Array (Option Value)} {oc1 kV1 dc1 pm1 cd1 ct1 oc2 kV2 dc2 pm2 cd2 ct2 oc3 kV3 dc3 pm3 cd3 ct3 oc4 kV4 dc4 pm4 cd4 ct4 oc5 kV5 dc5 pm5 cd5 ct5 oc6 kV6 dc6 pm6 cd6 ct6 oc7 kV7 dc7 pm7 cd7 ct7 oc8 kV8 dc8 pm8 cd8 ct8 oc9 kV9 dc9 pm9 cd9 ct9 oc10 kV10 dc10 pm10 cd10 ct10 oc11 kV11 dc11 pm11 cd11 ct11 oc12 kV12 dc12 pm12 cd12 ct12 oc13 kV13 dc13 pm13 cd13 ct13 : Value}
    (a1 : PySem.W.nsIn K mainGlobals "read_place" = some (some (.ref f1)))
    (l1 : K.lookup f1 = some ⟨oc1, od1, .func (PySem.W.fnOf "read_place" "read_place" (defArgs s_read_place) (defBody s_read_place) (defScope s_read_place) .none kV1 dc1 pm1 an1 cd1 ct1), sl1⟩)
    (c1 : PySem.W.codeIn K cd1 "read_place" = true)
    (k1 : PySem.W.keepIn K (.ref f1) = true)
    (a2 : PySem.W.nsIn K mainGlobals "read" = some (some (.ref f2)))
    (l2 : K.lookup f2 = some ⟨oc2, od2, .func (PySem.W.fnOf "read" "read" (defArgs s_read) (defBody s_read) (defScope s_read) .none kV2 dc2 pm2 an2 cd2 ct2), sl2⟩)
    (c2 : PySem.W.codeIn K cd2 "read" = true)
    (k2 : PySem.W.keepIn K (.ref f2) = true)
    (a3 : PySem.W.nsIn K mainGlobals "_law_cell_at" = some (some (.ref f3)))
    (l3 : K.lookup f3 = some ⟨oc3, od3, .func (PySem.W.fnOf "_law_cell_at" "_law_cell_at" (defArgs s_l_cell_at) (defBody s_l_cell_at) (defScope s_l_cell_at) .none kV3 dc3 pm3 an3 cd3 ct3), sl3⟩)
    (c3 : PySem.W.codeIn K cd3 "_law_cell_at" = true)
    (k3 : PySem.W.keepIn K (.ref f3) = true)
    (a4 : PySem.W.nsIn K mainGlobals "_law_pick" = some (some (.ref f4)))
    (l4 : K.lookup f4 = some ⟨oc4, od4, .func (PySem.W.fnOf "_law_pick" "_law_pick" (defArgs s_l_pick) (defBody s_l_pick) (defScope s_l_pick) .none kV4 dc4 pm4 an4 cd4 ct4), sl4⟩)
    (c4 : PySem.W.codeIn K cd4 "_law_pick" = true)
    (k4 : PySem.W.keepIn K (.ref f4) = true)
    (a5 : PySem.W.nsIn K mainGlobals "_law_mix" = some (some (.ref f5)))
    (l5 : K.lookup f5 = some ⟨oc5, od5, .func (PySem.W.fnOf "_law_mix" "_law_mix" (defArgs s_l_mix) (defBody s_l_mix) (defScope s_l_mix) .none kV5 dc5 pm5 an5 cd5 ct5), sl5⟩)
    (c5 : PySem.W.codeIn K cd5 "_law_mix" = true)
    (k5 : PySem.W.keepIn K (.ref f5) = true)
    (a6 : PySem.W.nsIn K mainGlobals "_law_place" = some (some (.ref f6)))
    (l6 : K.lookup f6 = some ⟨oc6, od6, .func (PySem.W.fnOf "_law_place" "_law_place" (defArgs s_l_place) (defBody s_l_place) (defScope s_l_place) .none kV6 dc6 pm6 an6 cd6 ct6), sl6⟩)
    (c6 : PySem.W.codeIn K cd6 "_law_place" = true)
    (k6 : PySem.W.keepIn K (.ref f6) = true)
    (a7 : PySem.W.nsIn K mainGlobals "_law_panel" = some (some (.ref f7)))
    (l7 : K.lookup f7 = some ⟨oc7, od7, .func (PySem.W.fnOf "_law_panel" "_law_panel" (defArgs s_l_panel) (defBody s_l_panel) (defScope s_l_panel) .none kV7 dc7 pm7 an7 cd7 ct7), sl7⟩)
    (c7 : PySem.W.codeIn K cd7 "_law_panel" = true)
    (k7 : PySem.W.keepIn K (.ref f7) = true)
    (a8 : PySem.W.nsIn K mainGlobals "_law_rows_like" = some (some (.ref f8)))
    (l8 : K.lookup f8 = some ⟨oc8, od8, .func (PySem.W.fnOf "_law_rows_like" "_law_rows_like" (defArgs s_l_rows_like) (defBody s_l_rows_like) (defScope s_l_rows_like) .none kV8 dc8 pm8 an8 cd8 ct8), sl8⟩)
    (c8 : PySem.W.codeIn K cd8 "_law_rows_like" = true)
    (k8 : PySem.W.keepIn K (.ref f8) = true)
    (a9 : PySem.W.nsIn K mainGlobals "_law_text" = some (some (.ref f9)))
    (l9 : K.lookup f9 = some ⟨oc9, od9, .func (PySem.W.fnOf "_law_text" "_law_text" (defArgs s_l_text) (defBody s_l_text) (defScope s_l_text) .none kV9 dc9 pm9 an9 cd9 ct9), sl9⟩)
    (c9 : PySem.W.codeIn K cd9 "_law_text" = true)
    (k9 : PySem.W.keepIn K (.ref f9) = true)
    (a10 : PySem.W.nsIn K mainGlobals "_law_refused" = some (some (.ref f10)))
    (l10 : K.lookup f10 = some ⟨oc10, od10, .func (PySem.W.fnOf "_law_refused" "_law_refused" (defArgs s_l_refused) (defBody s_l_refused) (defScope s_l_refused) .none kV10 dc10 pm10 an10 cd10 ct10), sl10⟩)
    (c10 : PySem.W.codeIn K cd10 "_law_refused" = true)
    (k10 : PySem.W.keepIn K (.ref f10) = true)
    (a11 : PySem.W.nsIn K mainGlobals "_law_told" = some (some (.ref f11)))
    (l11 : K.lookup f11 = some ⟨oc11, od11, .func (PySem.W.fnOf "_law_told" "_law_told" (defArgs s_l_told) (defBody s_l_told) (defScope s_l_told) .none kV11 dc11 pm11 an11 cd11 ct11), sl11⟩)
    (c11 : PySem.W.codeIn K cd11 "_law_told" = true)
    (k11 : PySem.W.keepIn K (.ref f11) = true)
    (a12 : PySem.W.nsIn K mainGlobals "_law_due" = some (some (.ref f12)))
    (l12 : K.lookup f12 = some ⟨oc12, od12, .func (PySem.W.fnOf "_law_due" "_law_due" (defArgs s_l_due) (defBody s_l_due) (defScope s_l_due) .none kV12 dc12 pm12 an12 cd12 ct12), sl12⟩)
    (c12 : PySem.W.codeIn K cd12 "_law_due" = true)
    (k12 : PySem.W.keepIn K (.ref f12) = true)
    (a13 : PySem.W.nsIn K mainGlobals "law" = some (some (.ref f13)))
    (l13 : K.lookup f13 = some ⟨oc13, od13, .func (PySem.W.fnOf "law" "law" (defArgs s_law) (defBody s_law) (defScope s_law) .none kV13 dc13 pm13 an13 cd13 ct13), sl13⟩)
    (c13 : PySem.W.codeIn K cd13 "law" = true)
    (k13 : PySem.W.keepIn K (.ref f13) = true)
    {tMARK_OF : Addr}
    (aMARK_OF : PySem.W.nsIn K mainGlobals "MARK_OF" = some (some (.ref tMARK_OF)))
    (dMARK_OF : TabK K tMARK_OF markD)
    {kSIGNS_IN_PLACE : Tok}
    (gSIGNS_IN_PLACE : PySem.W.nsIn K mainGlobals "SIGNS_IN_PLACE" = some (some (.int 7 kSIGNS_IN_PLACE)))
    {kMOST_PLACES : Tok}
    (gMOST_PLACES : PySem.W.nsIn K mainGlobals "MOST_PLACES" = some (some (.int 4 kMOST_PLACES)))
    (b1 : PySem.W.nsIn K mainGlobals "range" = some none)
    (b2 : PySem.W.nsIn K mainGlobals "len" = some none)
    (b3 : PySem.W.nsIn K mainGlobals "zip" = some none)
    (b4 : PySem.W.nsIn K mainGlobals "sum" = some none)
    (b5 : PySem.W.nsIn K mainGlobals "min" = some none)
    (b6 : PySem.W.nsIn K mainGlobals "max" = some none)
    (b7 : PySem.W.nsIn K mainGlobals "list" = some none)
    (b8 : PySem.W.nsIn K mainGlobals "int" = some none)
    (b9 : PySem.W.nsIn K mainGlobals "str" = some none)
    (b10 : PySem.W.nsIn K mainGlobals "bool" = some none)
    (b11 : PySem.W.nsIn K mainGlobals "isinstance" = some none)
    (b12 : PySem.W.nsIn K mainGlobals "reversed" = some none)
    (b13 : PySem.W.nsIn K mainGlobals "tuple" = some none)
    (b14 : PySem.W.nsIn K mainGlobals "all" = some none)
    (b15 : PySem.W.nsIn K mainGlobals "enumerate" = some none)
    (b16 : PySem.W.nsIn K mainGlobals "ValueError" = some none)
    (ncL : PySem.W.nsIn K mainGlobals "LitError" = some (some (.ref cL)))
    (ncF : PySem.W.nsIn K mainGlobals "NoFigure" = some (some (.ref cF)))
    (ncN : PySem.W.nsIn K mainGlobals "NoNumber" = some (some (.ref cN)))
    (ncC : PySem.W.nsIn K mainGlobals "Clash" = some (some (.ref cC)))
    (ncO : PySem.W.nsIn K mainGlobals "NoNote" = some (some (.ref cO)))
    (tyL : PySem.W.typeIn K (.ref cL) = some (.type "type"))
    (bsL : PySem.W.mroIn K cL (.type "BaseException") = some true)
    (qcO : PySem.W.excIn K cO [.type "ValueError", .type "Exception", .type "BaseException", .type "object"] "ValueError.__new__" = true)
    (gacO : PySem.W.findIn K (.ref cO) "__getattribute__" = some (some (.builtin "BaseException.__getattribute__")))
    (ghcO : PySem.W.findIn K (.ref cO) "__getattr__" = some none)
    (cacO : PySem.W.findIn K (.ref cO) "__class__" = some (some (.builtin "object.__class__")))
    (mocO : PySem.W.mroIn K cO (.type "object") = some true)
    (mbcO : PySem.W.mroIn K cO (.type "BaseException") = some true)
    (sbcO : PySem.W.subIn K (.ref cO) (.ref cL) = some true)
    (tcOcF : PySem.W.kitOne K (.ref cO) (.ref cF) = some false)
    (tcOcN : PySem.W.kitOne K (.ref cO) (.ref cN) = some false)
    (tcOcC : PySem.W.kitOne K (.ref cO) (.ref cC) = some false)
    (tcOcO : PySem.W.kitOne K (.ref cO) (.ref cO) = some true)
    (tcOV : PySem.W.kitOne K (.ref cO) (.type "ValueError") = some true)
    : ∃ fd : FuncData, (∀ (s : Shared) (v : Value), BindsTo s fd ⟨[v], []⟩ [("script", v)]) ∧ ∀ base : Heap, K.In base → base.Ns mainGlobals mg → FnOk l.prog w K mg base (CX1 l.prog w) 7 fa fd ["script"] (spLaw K) := by
  have e := hfa.symm.trans (PySem.W.mg_of X G a13)
  cases e
  have T : Txt K mg 0 0 := ⟨PySem.W.mg_none_of X G b1, PySem.W.mg_none_of X G b2, PySem.W.mg_none_of X G b3, PySem.W.mg_none_of X G b4, PySem.W.mg_none_of X G b5, PySem.W.mg_none_of X G b6, PySem.W.mg_none_of X G b7, PySem.W.mg_none_of X G b8, PySem.W.mg_none_of X G b9, PySem.W.mg_none_of X G b10, PySem.W.mg_none_of X G b11, PySem.W.mg_none_of X G b12, PySem.W.mg_none_of X G b13, PySem.W.mg_none_of X G b14, PySem.W.mg_none_of X G b15, PySem.W.mg_none_of X G b16⟩
  have TX : ExcT K mg cL cF cN cC cO := ⟨PySem.W.mg_of X G ncL, PySem.W.mg_of X G ncF, PySem.W.mg_of X G ncN, PySem.W.mg_of X G ncC, PySem.W.mg_of X G ncO, ⟨tyL, bsL⟩⟩
  have RcO : RaisedC K cL cF cN cC cO cO false false false true := ⟨ExcC.of qcO, ⟨gacO, ghcO, cacO, mocO, mbcO⟩, sbcO, tcOcF, tcOcN, tcOcC, tcOcO, tcOV⟩
  have F1 := fun_mk (st := s_read_place) l1 c1 k1
  have T1 : FnAt K mg "read_place" ["part"] f1 _ := ⟨PySem.W.mg_of X G a1, k1, F1.binds (ps := ["part"]) fun _ _ _ _ _ _ us hl => match us, hl with | [_], _ => rfl⟩
  have F2 := fun_mk (st := s_read) l2 c2 k2
  have T2 : FnAt K mg "read" ["text"] f2 _ := ⟨PySem.W.mg_of X G a2, k2, F2.binds (ps := ["text"]) fun _ _ _ _ _ _ us hl => match us, hl with | [_], _ => rfl⟩
  have F3 := fun_mk (st := s_l_cell_at) l3 c3 k3
  have T3 : FnAt K mg "_law_cell_at" ["script", "k"] f3 _ := ⟨PySem.W.mg_of X G a3, k3, F3.binds (ps := ["script", "k"]) fun _ _ _ _ _ _ us hl => match us, hl with | [_, _], _ => rfl⟩
  have F4 := fun_mk (st := s_l_pick) l4 c4 k4
  have T4 : FnAt K mg "_law_pick" ["script", "k"] f4 _ := ⟨PySem.W.mg_of X G a4, k4, F4.binds (ps := ["script", "k"]) fun _ _ _ _ _ _ us hl => match us, hl with | [_, _], _ => rfl⟩
  have F5 := fun_mk (st := s_l_mix) l5 c5 k5
  have T5 : FnAt K mg "_law_mix" ["cell", "k"] f5 _ := ⟨PySem.W.mg_of X G a5, k5, F5.binds (ps := ["cell", "k"]) fun _ _ _ _ _ _ us hl => match us, hl with | [_, _], _ => rfl⟩
  have F6 := fun_mk (st := s_l_place) l6 c6 k6
  have T6 : FnAt K mg "_law_place" ["cell"] f6 _ := ⟨PySem.W.mg_of X G a6, k6, F6.binds (ps := ["cell"]) fun _ _ _ _ _ _ us hl => match us, hl with | [_], _ => rfl⟩
  have F7 := fun_mk (st := s_l_panel) l7 c7 k7
  have T7 : FnAt K mg "_law_panel" ["script", "start", "places"] f7 _ := ⟨PySem.W.mg_of X G a7, k7, F7.binds (ps := ["script", "start", "places"]) fun _ _ _ _ _ _ us hl => match us, hl with | [_, _, _], _ => rfl⟩
  have F8 := fun_mk (st := s_l_rows_like) l8 c8 k8
  have T8 : FnAt K mg "_law_rows_like" ["found", "due"] f8 _ := ⟨PySem.W.mg_of X G a8, k8, F8.binds (ps := ["found", "due"]) fun _ _ _ _ _ _ us hl => match us, hl with | [_, _], _ => rfl⟩
  have F9 := fun_mk (st := s_l_text) l9 c9 k9
  have T9 : FnAt K mg "_law_text" ["panel"] f9 _ := ⟨PySem.W.mg_of X G a9, k9, F9.binds (ps := ["panel"]) fun _ _ _ _ _ _ us hl => match us, hl with | [_], _ => rfl⟩
  have F10 := fun_mk (st := s_l_refused) l10 c10 k10
  have T10 : FnAt K mg "_law_refused" ["marks", "which"] f10 _ := ⟨PySem.W.mg_of X G a10, k10, F10.binds (ps := ["marks", "which"]) fun _ _ _ _ _ _ us hl => match us, hl with | [_, _], _ => rfl⟩
  have F11 := fun_mk (st := s_l_told) l11 c11 k11
  have T11 : FnAt K mg "_law_told" ["text"] f11 _ := ⟨PySem.W.mg_of X G a11, k11, F11.binds (ps := ["text"]) fun _ _ _ _ _ _ us hl => match us, hl with | [_], _ => rfl⟩
  have F12 := fun_mk (st := s_l_due) l12 c12 k12
  have T12 : FnAt K mg "_law_due" ["text"] f12 _ := ⟨PySem.W.mg_of X G a12, k12, F12.binds (ps := ["text"]) fun _ _ _ _ _ _ us hl => match us, hl with | [_], _ => rfl⟩
  have F13 := fun_mk (st := s_law) l13 c13 k13
  refine ⟨PySem.W.fnOf "law" "law" (defArgs s_law) (defBody s_law) (defScope s_law) .none kV13 dc13 pm13 an13 cd13 ct13, fun s v => .of_eq rfl, fun base _ _ => ?_⟩
  have G1 := ok_read_place (P := l.prog) (w := w) (mg := mg) (base := base) F1 T (PySem.W.mg_of X G aMARK_OF) dMARK_OF (PySem.W.mg_of X G gSIGNS_IN_PLACE) RcO.made TX.m_NoNote
  have GS1 := G1.imp (sp' := sp_read_place) fun _ _ _ _ h => .inl h
  have G2 := ok_read (P := l.prog) (w := w) (mg := mg) (base := base) F2 T (PySem.W.mg_of X G gMOST_PLACES) RcO.made TX.m_NoNote T1 G1
  have G3 := ok_l_cell_at (P := l.prog) (w := w) (mg := mg) (base := base) F3 T
  have G4 := ok_l_pick (P := l.prog) (w := w) (mg := mg) (base := base) F4 T T3 G3
  have G5 := ok_l_mix (P := l.prog) (w := w) (mg := mg) (base := base) F5 T
  have G6 := ok_l_place (P := l.prog) (w := w) (mg := mg) (base := base) F6 T T5 G5
  have G7 := ok_l_panel (P := l.prog) (w := w) (mg := mg) (base := base) F7 T T4 G4 T6 G6
  have G8 := ok_l_rows_like (P := l.prog) (w := w) (mg := mg) (base := base) F8 T
  have G9 := ok_l_text (P := l.prog) (w := w) (mg := mg) (base := base) F9 T
  have G10 := ok_l_refused (P := l.prog) (w := w) (mg := mg) (base := base) F10 T
  have G11 := ok_l_told (P := l.prog) (w := w) (mg := mg) (base := base) F11 T TX RcO T2 G2
  have G12 := ok_l_due (P := l.prog) (w := w) (mg := mg) (base := base) F12 T
  exact ok_law F13 T T3 G3 T7 G7 T9 G9 T8 G8 T10 G10 T11 G11 T12 G12
theorem walk {l : PySem.W.OpenLaw} {q : Program} {loose : List Str} {XP : (Str → Option Value) → Heap → Prop} {YP : World → Heap → Prop} {d : DefRec} {K : Params → PySem.W.Frag} (hn : l.most = some 63) (hdf : d.params.defaults = [])
    (hY : ∀ (w : World) (h : Heap), YP w h → (K w.params).In h)
    (F : ∀ (w : World) (mg : Str → Option Value) (fa : Addr) (h : Heap), (K w.params).In h → h.Ns mainGlobals mg → mg d.name = some (.ref fa) →
      ∃ fd : FuncData, (∀ (s : Shared) (u : Value), BindsTo s fd ⟨[u], []⟩ [("script", u)]) ∧ ∀ base : Heap, (K w.params).In base → base.Ns mainGlobals mg → FnOk l.prog w (K w.params) mg base (CX1 l.prog w) 7 fa fd ["script"] (spLaw (K w.params))) :
    PySem.W.WalkO q loose XP YP l.row.toRowW d [] (fun f vs => PySem.call f vs) :=
  L2.walk_of (n := 63) (k := 7) (x := "script") (CX := fun w => CX1 l.prog w) (sp := fun w => spLaw (K w.params)) hn (by decide) hdf ⟨rfl, by decide, by decide⟩ hY F (fun _ _ a ns hl _ hS => ⟨a, ns, rfl, hS, hl, fun _ => rfl⟩) fun _ _ _ _ _ ⟨_, _, _, _, _, _, _, _, _, _, _, _, _, z⟩ => z
end Lit
open PySem PySem.W PyProof.Rows
set_option maxRecDepth 100000 in
set_option maxHeartbeats 0 in
theorem PySem.Challenge.cw_litfigures_k13_read_holds : PySem.Challenge.rw_litfigures_k13_read.Holds := by
  w_on; o_law; k_head; (case hw => w_witness2)
  k_fill
  refine Lit.walk (l := PySem.Challenge.rw_litfigures_k13_read) rfl rfl (fun w h Y => PySem.W.kIn_of Y) ?F
  case F =>
    intro w mg fa h KX G hmg
    refine' Lit.all_mk KX G hmg ?a1 ?l1 ?c1 ?k1 ?a2 ?l2 ?c2 ?k2 ?a3 ?l3 ?c3 ?k3 ?a4 ?l4 ?c4 ?k4 ?a5 ?l5 ?c5 ?k5 ?a6 ?l6 ?c6 ?k6 ?a7 ?l7 ?c7 ?k7 ?a8 ?l8 ?c8 ?k8 ?a9 ?l9 ?c9 ?k9 ?a10 ?l10 ?c10 ?k10 ?a11 ?l11 ?c11 ?k11 ?a12 ?l12 ?c12 ?k12 ?a13 ?l13 ?c13 ?k13 ?aMARK_OF ?dMARK_OF ?gSIGNS_IN_PLACE ?gMOST_PLACES ?b1 ?b2 ?b3 ?b4 ?b5 ?b6 ?b7 ?b8 ?b9 ?b10 ?b11 ?b12 ?b13 ?b14 ?b15 ?b16 ?ncL ?ncF ?ncN ?ncC ?ncO ?tyL ?bsL ?qcO ?gacO ?ghcO ?cacO ?mocO ?mbcO ?sbcO ?tcOcF ?tcOcN ?tcOcC ?tcOcO ?tcOV
    (case a1 => k_is)
    (case l1 => k_is)
    (case c1 => k_is)
    (case k1 => k_is)
    (case a2 => k_is)
    (case l2 => k_is)
    (case c2 => k_is)
    (case k2 => k_is)
    (case a3 => k_is)
    (case l3 => k_is)
    (case c3 => k_is)
    (case k3 => k_is)
    (case a4 => k_is)
    (case l4 => k_is)
    (case c4 => k_is)
    (case k4 => k_is)
    (case a5 => k_is)
    (case l5 => k_is)
    (case c5 => k_is)
    (case k5 => k_is)
    (case a6 => k_is)
    (case l6 => k_is)
    (case c6 => k_is)
    (case k6 => k_is)
    (case a7 => k_is)
    (case l7 => k_is)
    (case c7 => k_is)
    (case k7 => k_is)
    (case a8 => k_is)
    (case l8 => k_is)
    (case c8 => k_is)
    (case k8 => k_is)
    (case a9 => k_is)
    (case l9 => k_is)
    (case c9 => k_is)
    (case k9 => k_is)
    (case a10 => k_is)
    (case l10 => k_is)
    (case c10 => k_is)
    (case k10 => k_is)
    (case a11 => k_is)
    (case l11 => k_is)
    (case c11 => k_is)
    (case k11 => k_is)
    (case a12 => k_is)
    (case l12 => k_is)
    (case c12 => k_is)
    (case k12 => k_is)
    (case a13 => k_is)
    (case l13 => k_is)
    (case c13 => k_is)
    (case k13 => k_is)
    (case aMARK_OF => k_is)
    (case dMARK_OF => (unfold L2.TabK; kernel_rfl))
    (case gSIGNS_IN_PLACE => k_is)
    (case gMOST_PLACES => k_is)
    (case b1 => k_is)
    (case b2 => k_is)
    (case b3 => k_is)
    (case b4 => k_is)
    (case b5 => k_is)
    (case b6 => k_is)
    (case b7 => k_is)
    (case b8 => k_is)
    (case b9 => k_is)
    (case b10 => k_is)
    (case b11 => k_is)
    (case b12 => k_is)
    (case b13 => k_is)
    (case b14 => k_is)
    (case b15 => k_is)
    (case b16 => k_is)
    (case ncL => k_is)
    (case ncF => k_is)
    (case ncN => k_is)
    (case ncC => k_is)
    (case ncO => k_is)
    (case tyL => k_is)
    (case bsL => k_is)
    (case qcO => k_exc)
    (case gacO => k_is)
    (case ghcO => k_is)
    (case cacO => k_is)
    (case mocO => k_is)
    (case mbcO => k_is)
    (case sbcO => k_is)
    (case tcOcF => kit_is)
    (case tcOcN => kit_is)
    (case tcOcC => kit_is)
    (case tcOcO => kit_is)
    (case tcOV => kit_is)
