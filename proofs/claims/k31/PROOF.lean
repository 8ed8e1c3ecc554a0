import PyProof.Rows.All
import Wide.All
import OpenK.AllK
import Wide.FinOn
import PyProof.EqAt
import PyProof.EqKinds
import PyProof.TupleCall
import Lean
import PySem.Challenge.RW_limb_k31_words_of_kinds
set_option Elab.async false
set_option linter.all false
set_option maxRecDepth 100000
/-! THE HAND LAYER, for ints, bools, texts, own classes, LISTS and tuples (index, slices, in, append, pop ..), calls, loops. Paste it whole ahead of your own text; what your proof does not reach may be deleted. -/
namespace L2
open PySem PySem.Spec PyProof.Rows

/-- a key: an int or a str -/
abbrev Key := Sum Int Str
def keyIs : Key → Value → Bool
  | .inl k, v => Value.isInt k v
  | .inr x, v => Value.isStrOf x v
def keyH (w : World) : Key → Int
  | .inl k => hashInt k
  | .inr x => hashStr w x
theorem keyIs_shape : ∀ {k : Key} {v : Value}, keyIs k v = true → (∃ i t, k = Sum.inl i ∧ v = Value.int i t) ∨ (∃ x t, k = Sum.inr x ∧ v = Value.str x t)
  | .inl i, v, h => by
    obtain ⟨t, e⟩ := Value.isInt_shape (k := i) (v := v) h
    exact .inl ⟨i, t, rfl, e⟩
  | .inr x, v, h => by
    obtain ⟨t, e⟩ := Value.isStrOf_shape (x := x) (v := v) h
    exact .inr ⟨x, t, rfl, e⟩
theorem keyIs_int (i : Int) (t : Tok) : keyIs (.inl i) (.int i t) = true := by simp [keyIs, Value.isInt]
theorem keyIs_str (x : Str) (t : Tok) : keyIs (.inr x) (.str x t) = true := by simp [keyIs, Value.isStrOf]
theorem key_ll (a b : Int) : decide ((Sum.inl a : Key) = Sum.inl b) = (a == b) := by
  by_cases e : a = b
  · subst e; simp
  · have h : ¬ (Sum.inl a : Key) = Sum.inl b := fun q => e (Sum.inl.inj q)
    rw [decide_eq_false h]
    exact (beq_eq_false_iff_ne.mpr e).symm
theorem key_rr (a b : Str) : decide ((Sum.inr a : Key) = Sum.inr b) = decide (a = b) := by
  by_cases e : a = b
  · subst e; simp
  · have h : ¬ (Sum.inr a : Key) = Sum.inr b := fun q => e (Sum.inr.inj q)
    rw [decide_eq_false h, decide_eq_false e]
theorem key_lr (a : Int) (b : Str) : decide ((Sum.inl a : Key) = Sum.inr b) = false := decide_eq_false (fun q => nomatch q)
theorem key_rl (a : Str) (b : Int) : decide ((Sum.inr a : Key) = Sum.inl b) = false := decide_eq_false (fun q => nomatch q)

def mixKind (prog : Program) (w : World) : PySem.KeyKind prog w Key where
  is := keyIs
  hash := keyH w
  inj := fun v a b ha hb => by
    rcases keyIs_shape ha with ⟨i, t, rfl, rfl⟩ | ⟨x, t, rfl, rfl⟩
    · rcases keyIs_shape hb with ⟨j, u, rfl, e⟩ | ⟨y, u, rfl, e⟩
      · injection e with e1 _; rw [e1]
      · exact nomatch e
    · rcases keyIs_shape hb with ⟨j, u, rfl, e⟩ | ⟨y, u, rfl, e⟩
      · exact nomatch e
      · injection e with e1 _; rw [e1]
  byValue := fun k v h => by
    rcases keyIs_shape h with ⟨i, t, rfl, rfl⟩ | ⟨x, t, rfl, rfl⟩ <;> rfl
  pyHash := fun hv h => by
    rcases keyIs_shape hv with ⟨i, t, rfl, rfl⟩ | ⟨x, t, rfl, rfl⟩
    · exact wpAny_pyHash_int h
    · exact wpAny_pyHash_str h
  eqBool := fun hu hv h => by
    rcases keyIs_shape hu with ⟨i, t, rfl, rfl⟩ | ⟨x, t, rfl, rfl⟩
    · rcases keyIs_shape hv with ⟨j, u, rfl, rfl⟩ | ⟨y, u, rfl, rfl⟩
      · rw [key_ll] at h; exact wpAny_eqBool_int h
      · rw [key_lr] at h; exact SeqAt.EqAt.int_str i t y u _ _ _ _ h
    · rcases keyIs_shape hv with ⟨j, u, rfl, rfl⟩ | ⟨y, u, rfl, rfl⟩
      · rw [key_rl] at h; exact SeqAt.EqAt.str_int x t j u _ _ _ _ h
      · rw [key_rr] at h; exact wpAny_eqBool_str h
  «strs» := fun k x t v h => by
    rcases keyIs_shape h with ⟨i, u, rfl, e⟩ | ⟨y, u, rfl, e⟩
    · exact nomatch e
    · injection e with e1 _
      subst e1
      cases v <;> rfl

theorem mixKind_int (prog : Program) (w : World) (i : Int) (t : Tok) : (mixKind prog w).is (.inl i) (.int i t) = true := keyIs_int i t
theorem mixKind_str (prog : Program) (w : World) (x : Str) (t : Tok) : (mixKind prog w).is (.inr x) (.str x t) = true := keyIs_str x t
end L2

namespace L2
open PySem PySem.Spec PyProof.Rows

/-- a value, without the heap -/
inductive V where
  | non | bl (b : Bool) | int (i : Int) | str (x : Str) | byt (b : Array UInt8) | flt (b : UInt64) | ref (a : Addr) | ty (n : String)
  deriving DecidableEq

def RelV : V → Value → Prop
  | .non, u => u = Value.none
  | .bl b, u => u = Value.bool b
  | .int i, u => ∃ t, u = Value.int i t
  | .str x, u => ∃ t, u = Value.str x t
  | .byt b, u => ∃ t, u = Value.bytes b t
  | .flt b, u => ∃ t, u = Value.float b t
  | .ref a, u => u = Value.ref a
  | .ty n, u => u = Value.type n

abbrev Vals : List V → List Value → Prop := Paired RelV
theorem Vals.length {xs : List V} {us : List Value} (r : Vals xs us) : xs.length = us.length := Paired.length r
theorem Vals.get : ∀ {xs : List V} {us : List Value} {i : Nat} {x : V}, Vals xs us → xs[i]? = some x → ∃ u, us[i]? = some u ∧ RelV x u
  | _, _, _, _, .nil, e => by simp at e
  | _, _, 0, _, .cons r _, e => by simp at e; subst e; exact ⟨_, rfl, r⟩
  | _, _, i + 1, x, .cons _ t, e => by
    obtain ⟨u, h1, h2⟩ := Vals.get (i := i) (x := x) t (by simpa using e)
    exact ⟨u, by simpa using h1, h2⟩
theorem Vals.set {x : V} {u : Value} (r : RelV x u) : ∀ {xs : List V} {us : List Value} (i : Nat), Vals xs us → Vals (xs.set i x) (us.set i u)
  | _, _, _, .nil => .nil
  | _, _, 0, .cons _ t => .cons r t
  | _, _, i + 1, .cons q t => .cons q (Vals.set r i t)
theorem Vals.append : ∀ {xs ys : List V} {us ws : List Value}, Vals xs us → Vals ys ws → Vals (xs ++ ys) (us ++ ws)
  | _, _, _, _, .nil, s => s
  | _, _, _, _, .cons r t, s => .cons r (Vals.append t s)
theorem Vals.take : ∀ {xs : List V} {us : List Value} (n : Nat), Vals xs us → Vals (xs.take n) (us.take n)
  | _, _, 0, _ => .nil
  | _, _, _ + 1, .nil => .nil
  | _, _, n + 1, .cons r t => .cons r (Vals.take n t)
theorem Vals.drop : ∀ {xs : List V} {us : List Value} (n : Nat), Vals xs us → Vals (xs.drop n) (us.drop n)
  | _, _, 0, r => r
  | _, _, _ + 1, .nil => .nil
  | _, _, n + 1, .cons _ t => Vals.drop n t
theorem Vals.none_of : ∀ {xs : List V} {us : List Value} {i : Nat}, Vals xs us → xs[i]? = none → us[i]? = none := fun {xs us i} r e => by
  have h1 := r.length
  have h2 : xs.length ≤ i := List.getElem?_eq_none_iff.mp e
  exact List.getElem?_eq_none_iff.mpr (by omega)

def RelO : Option V → Option Value → Prop
  | some v, some u => RelV v u
  | none, none => True
  | _, _ => False
def KV {κ : Type} : List (κ × V) → List (κ × Value) → Prop := Paired fun (p : κ × V) (q : κ × Value) => p.1 = q.1 ∧ RelV p.2 q.2

/-- a key of a dict (00_mix): an int or a text -/
def kV : Key → V
  | .inl i => .int i
  | .inr x => .str x

/-- what stands at a tracked address -/
inductive HO where
  /-- a list -/
  | lst (xs : List V)
  /-- a tuple (never changes) -/
  | tup (xs : List V)
  /-- a dict whose keys are ints and texts; one whose keys are tuples of ints and texts (the empty one is both) -/
  | dK (kvs : List (Key × V)) | dT (kvs : List (List Key × V))
  /-- a set of ints: its members, its size -/
  | set (S : Int → Bool) (n : Nat)
  /-- an instance of the class at C, its dict at dx, its attributes -/
  | ins (C dx : Addr) (fs : List (Str × V))
  /-- the dict of the instance at x -/
  | own (x : Addr)
  /-- the dict of an exception -/
  | xd (fs : List (Str × V))
  /-- a bound method, f of x -/
  | met (f x : Addr)
  /-- a range object lo, lo + 1, .. below hi -/
  | rng (lo hi : Int)
  /-- a thing that is known to the object (the script; a dict while a loop walks it): read, never written while it is so -/
  | frz (o : Obj) (u : HO)
  /-- a code object's table -/
  | tbl (ps : Array Value)
  /-- any other thing, by what is true of its one object (a def of one's own: SetO a S n := HO.ext fun h => ..) -/
  | ext (φ : Heap → Prop)

abbrev Hp := Addr → Option HO
def upd (H : Hp) (a : Addr) (o : HO) : Hp := fun b => if b = a then some o else H b
theorem upd_same {H : Hp} {a : Addr} {o : HO} : upd H a o a = some o := by unfold upd; rw [if_pos rfl]
theorem upd_ne {H : Hp} {a b : Addr} {o : HO} (h : b ≠ a) : upd H a o b = H b := by unfold upd; rw [if_neg h]
/-- two objects of different content stand apart -/
theorem ne_of {H : Hp} {a b : Addr} {o u : HO} (h : H a = some o) (h' : H b = some u) (d : o ≠ u) : a ≠ b := by
  intro e; subst e; rw [h] at h'; exact d (Option.some.inj h')
theorem ne_of_none {H : Hp} {a b : Addr} {o : HO} (h : H a = some o) (h' : H b = none) : a ≠ b := by
  intro e; subst e; rw [h] at h'; cases h'

section
variable (P : Program) (w : World)
def ObjOk (H : Hp) (h : Heap) (a : Addr) : HO → Prop
  | .lst xs => xs.length ≤ sizeLine ∧ ∃ (its : List Value) (n : Nat), Vals xs its ∧ h.get? a = some { cls := .type "list", data := .seq its.toArray n }
  | .tup xs => xs.length ≤ sizeLine ∧ ∃ its : List Value, Vals xs its ∧ IsTup h a its.toArray
  | .dK kvs => kvs.length ≤ sizeLine ∧ (a == sysModules) = false ∧ ∃ vs, KV kvs vs ∧ h.DictOf (mixKind P w) a vs
  | .dT kvs => kvs.length ≤ sizeLine ∧ (a == sysModules) = false ∧ ∃ xs : List (List Key × Addr × Value),
      Paired (fun (p : List Key × V) (q : List Key × Addr × Value) => p.1 = q.1 ∧ H q.2.1 = some (.tup (p.1.map kV)) ∧ RelV p.2 q.2.2) kvs xs ∧
      ∃ o es ep, h.get? a = some o ∧ o.ExactDict ∧ o.data = .dict es ep ∧ es.toList = xs.map (entryOfKey (tupleKind (mixKind P w))) ∧ (xs.map (·.1)).Nodup
  | .set S n => h.SetOf (intKind P w) a S n
  | .ins C dx fs => H dx = some (.own a) ∧ fs.length ≤ 1000 ∧ dx ≠ a ∧ h.get? a = some (PySem.W.instObj C dx) ∧
      ∃ mA, h.Ns1 dx mA ∧ (∀ f, RelO (fs.lookup f) (mA f)) ∧ PySem.Within mA (fs.map (·.1))
  | .own _ => ∃ o, h.get? a = some o
  | .xd fs => ∃ mA, h.Ns1 a mA ∧ ∀ f, RelO (fs.lookup f) (mA f)
  | .rng lo hi => ∃ t u v, h.get? a = some { cls := .type "range", data := .fields #[.int lo t, .int hi u, .int 1 v] }
  | .frz o u => h.get? a = some o ∧ ObjOk H h a u
  | .tbl ps => h.get? a = some { cls := .none, data := .fields ps }
  | .met f x => h.get? a = some (PySem.W.methodObj (.ref f) (.ref x))
  | .ext φ => φ h ∧ (∃ o, h.get? a = some o) ∧ ∀ h1 h2 : Heap, φ h1 → (∀ o, h1.get? a = some o → h2.get? a = some o) → φ h2
/-- the abstract heap is held -/
def HOk (H : Hp) (h : Heap) : Prop := ∀ a o, H a = some o → ObjOk P w H h a o
end

section
variable {P : Program} {w : World} {H H' : Hp} {h h' : Heap} {a : Addr} {o : HO}
theorem ObjOk.lt (x : ObjOk P w H h a o) : a < h.objs.size := by
  cases o with
  | lst xs => obtain ⟨_, _, _, _, e⟩ := x; exact Heap.lt_size e
  | tup xs => obtain ⟨_, _, _, p⟩ := x; exact p.lt
  | dK kvs => obtain ⟨_, _, _, _, o, _, _, e, _⟩ := x; exact Heap.lt_size e
  | dT kvs => obtain ⟨_, _, _, _, o, _, _, e, _⟩ := x; exact Heap.lt_size e
  | set S n => obtain ⟨o, _, _, _, e, _⟩ := x; exact Heap.lt_size e
  | ins C dx fs => obtain ⟨_, _, _, e, _⟩ := x; exact Heap.lt_size e
  | own y => obtain ⟨_, e⟩ := x; exact Heap.lt_size e
  | xd fs => obtain ⟨_, ⟨_, _, _, e, _⟩, _⟩ := x; exact Heap.lt_size e
  | rng lo hi => obtain ⟨_, _, _, e⟩ := x; exact Heap.lt_size e
  | frz ob u => obtain ⟨e, _⟩ := x; exact Heap.lt_size e
  | tbl ps => exact Heap.lt_size (show h.get? a = some _ from x)
  | met f y => exact Heap.lt_size (show h.get? a = some _ from x)
  | ext φ => obtain ⟨_, ⟨_, e⟩, _⟩ := x; exact Heap.lt_size e
theorem Paired.mapP {α β : Type} {F G : α → β → Prop} : ∀ {l₁ : List α} {l₂ : List β}, Paired F l₁ l₂ → (∀ a b, F a b → G a b) → Paired G l₁ l₂
  | _, _, .nil, _ => .nil
  | _, _, .cons r t, f => .cons (f _ _ r) (Paired.mapP t f)
/-- what an object's description leans on: its own object, its own dict, the tuples -/
theorem ObjOk.stay (x : ObjOk P w H h a o) (k : ∀ b u, (b = a ∨ H b = some (.own a)) → h.get? b = some u → h'.get? b = some u)
    (ho : ∀ b, H b = some (.own a) → H' b = some (.own a)) (ht : ∀ b xs, H b = some (.tup xs) → H' b = some (.tup xs)) : ObjOk P w H' h' a o := by
  induction o with
  | lst xs => obtain ⟨z, its, n, r, e⟩ := x; exact ⟨z, its, n, r, k _ _ (.inl rfl) e⟩
  | tup xs => obtain ⟨z, its, r, ob, e, c⟩ := x; exact ⟨z, its, r, ob, k _ _ (.inl rfl) e, c⟩
  | dK kvs => obtain ⟨z, y, vs, r, ob, es, ep, e, c⟩ := x; exact ⟨z, y, vs, r, ob, es, ep, k _ _ (.inl rfl) e, c⟩
  | dT kvs =>
    obtain ⟨z, y, xs, r, ob, es, ep, e, c⟩ := x
    exact ⟨z, y, xs, Paired.mapP r fun p q z => ⟨z.1, ht _ _ z.2.1, z.2.2⟩, ob, es, ep, k _ _ (.inl rfl) e, c⟩
  | set S n => obtain ⟨ob, es, ep, t, e, c⟩ := x; exact ⟨ob, es, ep, t, k _ _ (.inl rfl) e, c⟩
  | ins C dx fs =>
    obtain ⟨d, z, ne, e, mA, ⟨od, es, ep, e2, c⟩, r⟩ := x
    exact ⟨ho _ d, z, ne, k _ _ (.inl rfl) e, mA, ⟨od, es, ep, k _ _ (.inr d) e2, c⟩, r⟩
  | own y => obtain ⟨ob, e⟩ := x; exact ⟨ob, k _ _ (.inl rfl) e⟩
  | xd fs => obtain ⟨mA, ⟨od, es, ep, e, c⟩, r⟩ := x; exact ⟨mA, ⟨od, es, ep, k _ _ (.inl rfl) e, c⟩, r⟩
  | rng lo hi => obtain ⟨t, u, v, e⟩ := x; exact ⟨t, u, v, k _ _ (.inl rfl) e⟩
  | frz ob u ih => obtain ⟨e, q⟩ := x; exact ⟨k _ _ (.inl rfl) e, ih q⟩
  | tbl ps =>
    have e : h.get? a = some { cls := .none, data := .fields ps } := x
    show h'.get? a = some { cls := .none, data := .fields ps }
    exact k a _ (.inl rfl) e
  | met f y =>
    have e : h.get? a = some (PySem.W.methodObj (.ref f) (.ref y)) := x
    show h'.get? a = some (PySem.W.methodObj (.ref f) (.ref y))
    exact k a _ (.inl rfl) e
  | ext φ => obtain ⟨p, ⟨o, e⟩, st⟩ := x; exact ⟨st _ _ p fun o q => k _ _ (.inl rfl) q, ⟨o, k _ _ (.inl rfl) e⟩, st⟩
theorem HOk.lt (x : HOk P w H h) (e : H a = some o) : a < h.objs.size := (x a o e).lt
theorem HOk.fresh (x : HOk P w H h) (e : h.objs.size ≤ a) : H a = none := by
  cases q : H a with
  | none => rfl
  | some u => exact absurd (Nat.lt_of_lt_of_le (x.lt q) e) (Nat.lt_irrefl _)
/-- every object of the heap is kept -/
theorem HOk.kept (x : HOk P w H h) (k : ∀ b u, h.get? b = some u → h'.get? b = some u) : HOk P w H h' := fun a o e =>
  (x a o e).stay (fun b u _ q => k b u q) (fun _ q => q) fun _ _ q => q
/-- a new object is laid and tracked -/
theorem HOk.laid (x : HOk P w H h) (k : ∀ b u, h.get? b = some u → h'.get? b = some u) (hp : h.objs.size ≤ a) (new : ObjOk P w (upd H a o) h' a o) : HOk P w (upd H a o) h' := fun b u e => by
  have hn := x.fresh hp
  by_cases hb : b = a
  · subst hb; rw [upd_same] at e; cases e; exact new
  · rw [upd_ne hb] at e
    exact (x b u e).stay (fun c v _ q => k c v q) (fun c q => by rw [upd_ne (ne_of_none q hn)]; exact q) fun c xs q => by rw [upd_ne (ne_of_none q hn)]; exact q
end

/-- what may be read as u: it is u, or a known u -/
def Rd (H : Hp) (a : Addr) (u : HO) : Prop := H a = some u ∨ ∃ o, H a = some (.frz o u)
theorem Rd.of {H : Hp} {a : Addr} {u : HO} (h : H a = some u) : Rd H a u := .inl h
theorem Rd.ok {P : Program} {w : World} {H : Hp} {h : Heap} {a : Addr} {u : HO} (r : Rd H a u) (x : HOk P w H h) : ObjOk P w H h a u := by
  rcases r with r | ⟨o, r⟩
  · exact x a u r
  · obtain ⟨_, q⟩ := x a _ r
    exact q
/-- what may be written -/
def Mut : Option HO → Prop
  | some (.lst _) => True
  | some (.dK _) => True
  | some (.dT _) => True
  | some (.set _ _) => True
  | some (.ins _ _ _) => True
  | some (.ext _) => True
  | _ => False
section
variable {P : Program} {w : World} {H : Hp} {h h' : Heap} {x e : Addr} {o' : HO}
/-- the object at e is changed: x itself, or the dict of the instance x -/
theorem HOk.write (ok : HOk P w H h) (mu : Mut (H x)) (he : e = x ∨ H e = some (.own x)) (k : ∀ b u, b ≠ e → h.get? b = some u → h'.get? b = some u) (heo : ∃ u, h'.get? e = some u)
    (new : ObjOk P w (upd H x o') h' x o') : HOk P w (upd H x o') h' := fun b u q => by
  have nown : ∀ c y, H c = some (.own y) → c ≠ x := fun c y r z => by subst z; rw [r] at mu; exact mu
  have ntup : ∀ c xs, H c = some (.tup xs) → c ≠ x := fun c xs r z => by subst z; rw [r] at mu; exact mu
  by_cases hb : b = x
  · subst hb; rw [upd_same] at q; cases q; exact new
  · rw [upd_ne hb] at q
    by_cases hbe : b = e
    · have q' : H b = some (.own x) := by
        rcases he with z | z
        · exact absurd (hbe.trans z) hb
        · rw [hbe]; exact z
      rw [q] at q'; cases q'
      obtain ⟨v, hv⟩ := heo
      exact ⟨v, by rw [hbe]; exact hv⟩
    · refine (ok b u q).stay (fun c v hc r => k c v ?_ r) (fun c r => by rw [upd_ne (nown c b r)]; exact r) fun c xs r => by rw [upd_ne (ntup c xs r)]; exact r
      rcases hc with rfl | hc
      · exact hbe
      · rintro rfl
        rcases he with z | z
        · exact nown c b hc z
        · rw [hc] at z; cases z; exact hb rfl
end

/-! ### kept unless tracked; of the frames at fs (the callers') the slots may change (an exception that passes writes there); of the records at ex (iterators) nothing is said -/
structure Un (fs ex : List Addr) (H H' : Hp) (h h' : Heap) : Prop where
  keep : ∀ b o, h.get? b = some o → H b = none → b ∉ fs → b ∉ ex → h'.get? b = some o
  slot : ∀ b o, h.get? b = some o → H b = none → b ∈ fs → b ∉ ex → ∃ sl, h'.get? b = some { o with slots := sl }
  free : ∀ b o, h.get? b = some o → H b = none → b ∉ ex → H' b = none
  there : ∀ b o, h.get? b = some o → b ∉ ex → ∃ o', h'.get? b = some o'
  tups : ∀ b xs, H b = some (.tup xs) → H' b = some (.tup xs)
  frzs : ∀ b o u, H b = some (.frz o u) → H' b = some (.frz o u)
  tbls : ∀ b ps, H b = some (.tbl ps) → ∃ more, H' b = some (.tbl (ps ++ more))
section
variable {fs fs' ex ex' : List Addr} {H H1 H2 : Hp} {h h1 h2 h' : Heap} {a x e : Addr} {o : HO}
theorem Un.any (u : Un fs ex H H1 h h1) {b : Addr} {ob : Obj} (q : h.get? b = some ob) (n : H b = none) (hx : b ∉ ex) : ∃ sl, h1.get? b = some { ob with slots := sl } := by
  by_cases hb : b ∈ fs
  · exact u.slot b ob q n hb hx
  · exact ⟨ob.slots, u.keep b ob q n hb hx⟩
theorem Un.trans (a : Un fs ex H H1 h h1) (b : Un fs ex H1 H2 h1 h2) : Un fs ex H H2 h h2 where
  keep := fun c ob q n hc hx => b.keep c ob (a.keep c ob q n hc hx) (a.free c ob q n hx) hc hx
  slot := fun c ob q n hc hx => by
    obtain ⟨sl, e1⟩ := a.slot c ob q n hc hx
    obtain ⟨sl', e2⟩ := b.slot c _ e1 (a.free c ob q n hx) hc hx
    exact ⟨sl', e2⟩
  free := fun c ob q n hx => by
    obtain ⟨o', e1⟩ := a.there c ob q hx
    exact b.free c o' e1 (a.free c ob q n hx) hx
  there := fun c ob q hx => by
    obtain ⟨o', e1⟩ := a.there c ob q hx
    exact b.there c o' e1 hx
  tups := fun c xs q => b.tups c xs (a.tups c xs q)
  frzs := fun c ob xs q => b.frzs c ob xs (a.frzs c ob xs q)
  tbls := fun c ps q => by
    obtain ⟨m1, e1⟩ := a.tbls c ps q
    obtain ⟨m2, e2⟩ := b.tbls c _ e1
    exact ⟨m1 ++ m2, by rw [e2, Array.append_assoc]⟩
theorem Un.kept (k : ∀ b u, h.get? b = some u → h'.get? b = some u) : Un fs ex H H h h' :=
  ⟨fun b ob q _ _ _ => k b ob q, fun b ob q _ _ _ => ⟨ob.slots, k b ob q⟩, fun _ _ _ n _ => n, fun b ob q _ => ⟨ob, k b ob q⟩, fun _ _ q => q, fun _ _ _ q => q, fun _ ps q => ⟨#[], by rw [q]; simp⟩⟩
theorem Un.refl : Un fs ex H H h h := Un.kept fun _ _ q => q
theorem Un.laid (k : ∀ b u, h.get? b = some u → h'.get? b = some u) (hp : h.objs.size ≤ a) (hn : H a = none) : Un fs ex H (upd H a o) h h' where
  keep := fun b u q _ _ _ => k b u q
  slot := fun b u q _ _ _ => ⟨u.slots, k b u q⟩
  free := fun b u q n _ => by rw [upd_ne (Nat.ne_of_lt (Nat.lt_of_lt_of_le (Heap.lt_size q) hp))]; exact n
  there := fun b u q _ => ⟨u, k b u q⟩
  tups := fun b xs q => by rw [upd_ne (ne_of_none q hn)]; exact q
  frzs := fun b u xs q => by rw [upd_ne (ne_of_none q hn)]; exact q
  tbls := fun b ps q => ⟨#[], by rw [upd_ne (ne_of_none q hn), q]; simp⟩
theorem Un.write (mu : Mut (H x)) (he : e = x ∨ H e = some (.own x)) (k : ∀ b u, b ≠ e → h.get? b = some u → h'.get? b = some u) (heo : ∃ u, h'.get? e = some u) : Un fs ex H (upd H x o) h h' := by
  have hx : ∀ b, H b = none → b ≠ x := fun b n z => by subst z; rw [n] at mu; exact mu
  have hb : ∀ b, H b = none → b ≠ e := fun b n z => by
    subst z
    rcases he with r | r
    · exact hx b n r
    · rw [n] at r; cases r
  have hm : ∀ b u, H b = some u → ¬ Mut (some u) → b ≠ x := fun b u q nm z => by subst z; rw [q] at mu; exact nm mu
  refine ⟨fun b u q n _ _ => k b u (hb b n) q, fun b u q n _ _ => ⟨u.slots, k b u (hb b n) q⟩, fun b u q n _ => by rw [upd_ne (hx b n)]; exact n, fun b u q _ => ?_,
    fun b xs q => by rw [upd_ne (hm b _ q fun z => z)]; exact q, fun b u xs q => by rw [upd_ne (hm b _ q fun z => z)]; exact q, fun b ps q => ⟨#[], by rw [upd_ne (hm b _ q fun z => z), q]; simp⟩⟩
  by_cases hbe : b = e
  · subst hbe; exact heo
  · exact ⟨u, k b u hbe q⟩
theorem Un.mono (u : Un fs ex H H1 h h1) (hs : ∀ b ∈ fs, b ∈ fs') (hx : ∀ b ∈ ex, b ∈ ex') : Un fs' ex' H H1 h h1 :=
  ⟨fun b ob q n hb he => u.keep b ob q n (fun z => hb (hs b z)) fun z => he (hx b z), fun _ _ q n _ he => u.any q n fun z => he (hx _ z), fun b ob q n he => u.free b ob q n fun z => he (hx b z), fun b ob q he => u.there b ob q fun z => he (hx b z), u.tups, u.frzs, u.tbls⟩
end

/-! ### the heap without what is tracked -/
def trk (h : Heap) (H : Hp) : List Addr := (List.range h.objs.size).filter fun a => (H a).isSome
def hidT (h : Heap) (H : Hp) : Heap := PySem.W.hideAll h (trk h H)
theorem hidT_size (h : Heap) (H : Hp) : (hidT h H).objs.size = h.objs.size := PySem.W.hideAll_size _ _
theorem hidT_get {h : Heap} {H : Hp} {b : Addr} {o : Obj} (e : h.get? b = some o) (n : H b = none) : (hidT h H).get? b = some o :=
  PySem.W.hideAll_get _ e fun hm => by
    have q : (H b).isSome = true := (List.mem_filter.mp hm).2
    rw [n] at q; simp at q
theorem of_hidT {h : Heap} {H : Hp} {b : Addr} {o : Obj} (e : (hidT h H).get? b = some o) : h.get? b = some o ∧ H b = none := by
  have e' : h.get? b = some o := PySem.W.of_hideAll (trk h H) e
  refine ⟨e', ?_⟩
  cases q : H b with
  | none => rfl
  | some x =>
    have hm : b ∈ trk h H := List.mem_filter.mpr ⟨List.mem_range.mpr (Heap.lt_size e'), by simp [q]⟩
    have z : (hidT h H).get? b = none := PySem.W.hideAll_none (trk h H) hm
    rw [z] at e; cases e

/-! ### OpenK's ledger, filled with every new object but one -/
def allNews (g h : Heap) (L : Addr) : List (Addr × Obj) := (List.range h.objs.size).filterMap fun a => if a = L ∨ (g.get? a).isSome = true then none else (h.get? a).map fun o => (a, o)
def rest (g h : Heap) (L d : Addr) : List (Addr × Obj) := (allNews g h L).filter fun p => decide (p.1 ≠ d)
end L2

namespace L2
open PySem PySem.Spec PyProof.Rows

/-- the module's facts, over the base: the heap at the law's entry without what is tracked there -/
structure Mod (K : PySem.W.Frag) (mg : Str → Option Value) (base : Heap) : Prop where
  kin : K.In base
  glob : base.Ns mainGlobals mg
  blt : ∃ mb, base.Ns builtinsNs mb ∧ ∀ x : Str, x ≠ "__name__" → mb x = bootBuiltins x
  nolimit : base.NoLimit

/-- the context: a def's body (or a comprehension's block) running. base: fixed through the whole law; s₀, H₀: the entry; outer: the frames whose slots others may change (a def's callers); stack: all frames that run;
   ex: iterators that were made ahead of the entry and are walked here (a comprehension's); fn: the names whose cells were made at the entry (a def: all; a comprehension's block: its own); calm: not within an except suite; pn: pins that every state bears; xe: what is wanted of an exception that leaves the code -/
structure Cx where
  prog : Program
  w : World
  K : PySem.W.Frag
  mg : Str → Option Value
  base : Heap
  A : Around
  N : List Str
  s₀ : Shared
  H₀ : Hp
  env : Env
  outer : List Env
  stack : List Env
  ex : List Addr
  fn : Str → Bool
  calm : Bool
  pn : List (Addr × Obj)
  xe : Value → Shared → Prop
/-- the callers' frames -/
def frs (l : List Env) : List Addr := l.filterMap (·.frame)
abbrev Cx.fs (X : Cx) : List Addr := frs X.outer

def Vis (sc : Scope) (x : Str) : Prop := sc.names.lookup x = some .local ∨ sc.names.lookup x = some .cell ∨ sc.names.lookup x = some .free
def Loc (sc : Scope) (x : Str) : Prop := sc.names.lookup x = some .local ∨ sc.names.lookup x = some .cell
def Look (env : Env) (h : Heap) (m : Str → Option Value) (x : Str) (u : Value) : Prop :=
  (env.kindOf x = some .local ∧ m x = some u) ∨ ((env.kindOf x = some .cell ∨ env.kindOf x = some .free) ∧ ∃ c, env.cells.lookup x = some c ∧ h.IsCell c (some u))

structure Cx.Ok (X : Cx) : Prop where
  mod : Mod X.K X.mg X.base
  kind : X.env.scope.kind = .function
  glob : X.env.globals = mainGlobals
  blt : X.env.builtins = builtinsNs
  above : X.s₀.heap.objs.size ≤ X.env.locals
  inj : ∀ x y c, X.env.cells.lookup x = some c → X.env.cells.lookup y = some c → x = y
  has : ∀ x, (X.env.kindOf x = some .cell ∨ X.env.kindOf x = some .free) → ∃ c, X.env.cells.lookup x = some c
  cab : ∀ x c, X.fn x = true → X.env.cells.lookup x = some c → X.s₀.heap.objs.size ≤ c
  hd : X.calm = true → X.A.handled = none
  frames : X.A.frames = some X.stack
  stk : X.stack = X.outer ∨ (X.stack = X.env :: X.outer ∧ X.env.frame = some X.env.locals)
  exf : ∀ b ∈ X.ex, b ≠ X.env.locals ∧ ∀ x c, X.env.cells.lookup x = some c → c ≠ b
  bs : ∀ b o, X.base.get? b = some o → X.s₀.heap.get? b = some o ∧ X.H₀ b = none
  bsz : X.base.objs.size ≤ X.s₀.heap.objs.size
  noex : ∀ b o, X.base.get? b = some o → b ∉ X.ex
  exfs : ∀ b ∈ X.ex, b ∉ X.fs
  funs : X.s₀.heap.FunFrames X.base X.outer
  frf : ∀ b ∈ X.fs, X.H₀ b = none

structure Inv (X : Cx) (pins : List (Addr × Obj)) (σ : List (Option V)) (H : Hp) (s : Shared) : Prop where
  ok : X.Ok
  os : s.os = X.s₀.os
  bare : AllBare s.gens
  base : Un X.fs X.ex X.H₀ H X.s₀.heap s.heap
  loc : ∃ m, s.heap.Ns X.env.locals m ∧ ∀ (i : Nat) (x : Str) (v : V), X.N[i]? = some x → σ[i]? = some (some v) → Vis X.env.scope x → ∃ u, RelV v u ∧ Look X.env s.heap m x u
  cell : ∀ x c, X.env.cells.lookup x = some c → ∃ v, s.heap.IsCell c v
  free : H X.env.locals = none
  freeC : ∀ x c, X.env.cells.lookup x = some c → H c = none
  pin : ∀ p ∈ X.pn ++ pins, s.heap.get? p.1 = some p.2 ∧ H p.1 = none ∧ p.1 ≠ X.env.locals ∧ p.1 ∉ X.fs ∧ ∀ v, p.2.data ≠ .cell v
  hok : HOk X.prog X.w H s.heap
  len : σ.length = X.N.length

section
variable {X : Cx} {pins : List (Addr × Obj)} {σ : List (Option V)} {H H' : Hp} {s : Shared} {h' : Heap}

theorem Cx.Ok.nofr (ok : X.Ok) {b : Addr} {o : Obj} (e : X.base.get? b = some o) : b ∉ X.fs := fun hb => by
  have := (ok.funs.mem hb).1
  rw [e] at this; cases this
theorem Inv.bs (I : Inv X pins σ H s) : ∀ b o, X.base.get? b = some o → s.heap.get? b = some o ∧ H b = none := fun b o e =>
  ⟨I.base.keep b o (I.ok.bs b o e).1 (I.ok.bs b o e).2 (I.ok.nofr e) (I.ok.noex b o e), I.base.free b o (I.ok.bs b o e).1 (I.ok.bs b o e).2 (I.ok.noex b o e)⟩
theorem Inv.bk (I : Inv X pins σ H s) : ∀ b o, X.base.get? b = some o → s.heap.get? b = some o := fun b o e => (I.bs b o e).1
theorem Inv.mod (I : Inv X pins σ H s) : Mod X.K X.mg X.base := I.ok.mod
theorem Inv.kIn (I : Inv X pins σ H s) : X.K.In s.heap := I.ok.mod.kin.keeps I.bk
theorem Inv.nolimit (I : Inv X pins σ H s) : s.heap.NoLimit := I.ok.mod.nolimit.keeps I.bk
/-- the frame over the base: for OpenK's rules (K.In X.base is I.mod.kin) -/
theorem Inv.fr (I : Inv X pins σ H s) : ∃ m, Fr X.base X.env.locals s.heap m :=
  let ⟨m, hn, _⟩ := I.loc
  ⟨m, hn, I.bk, Nat.le_trans I.ok.bsz I.ok.above⟩
theorem Inv.lt (I : Inv X pins σ H s) : X.env.locals < s.heap.objs.size := let ⟨_, hn, _⟩ := I.loc; hn.lt
theorem Inv.sz (I : Inv X pins σ H s) : X.s₀.heap.objs.size ≤ s.heap.objs.size := Nat.le_trans I.ok.above (Nat.le_of_lt I.lt)
theorem Inv.nofs (I : Inv X pins σ H s) {a : Addr} (h : s.heap.objs.size ≤ a) : a ∉ X.fs := fun hb => by
  obtain ⟨_, o, ho, _⟩ := I.ok.funs.mem hb
  exact absurd (Nat.lt_of_lt_of_le (Heap.lt_size ho) (Nat.le_trans I.sz h)) (Nat.lt_irrefl _)
theorem Inv.cne (I : Inv X pins σ H s) : ∀ x c, X.env.cells.lookup x = some c → c ≠ X.env.locals := fun x c e z => by
  obtain ⟨v, o, ho, hd⟩ := I.cell x c e
  obtain ⟨m, ⟨o', es, ep, ho', hd', _⟩, _⟩ := I.loc
  rw [z, ho'] at ho; cases ho; rw [hd'] at hd; cases hd
theorem Inv.funs (I : Inv X pins σ H s) : s.heap.FunFrames X.base X.outer := by
  have all : ∀ (l : List Env), (∀ b ∈ frs l, b ∈ X.fs) → X.s₀.heap.FunFrames X.base l → s.heap.FunFrames X.base l := by
    intro l
    induction l with
    | nil => intro _ _; trivial
    | cons env r ih =>
      intro hs hl
      obtain ⟨hk, ⟨L, o, hf, hn, ho, hd⟩, hr⟩ := hl
      have hL : L ∈ X.fs := hs L (by unfold frs; rw [List.filterMap_cons, hf]; exact List.mem_cons_self)
      obtain ⟨sl, e⟩ := I.base.slot L o ho (I.ok.frf L hL) hL fun z => I.ok.exfs L z hL
      exact ⟨hk, ⟨L, _, hf, hn, e, hd⟩, ih (fun b hb => hs b (by unfold frs; rw [List.filterMap_cons, hf]; exact List.mem_cons_of_mem _ hb)) hr⟩
  exact all X.outer (fun _ hb => hb) I.ok.funs

/-- the frames that run, for a call -/
theorem Inv.stack (I : Inv X pins σ H s) : s.heap.FunFrames X.base X.stack := by
  rcases I.ok.stk with e | ⟨e, hf⟩
  · rw [e]; exact I.funs
  · rw [e]
    obtain ⟨m, hn, _⟩ := I.loc
    refine .cons (by rw [I.ok.kind]; decide) hf hn ?_ I.funs
    exact Heap.get?_none_of_le (Nat.le_trans I.ok.bsz I.ok.above)
theorem Inv.stkSub (I : Inv X pins σ H s) : ∀ b ∈ frs X.stack, b ∈ X.env.locals :: X.fs := fun b hb => by
  rcases I.ok.stk with e | ⟨e, hf⟩
  · rw [e] at hb; exact List.mem_cons_of_mem _ hb
  · rw [e] at hb
    unfold frs at hb
    rw [List.filterMap_cons, hf] at hb
    exact hb
theorem Inv.stkFree (I : Inv X pins σ H s) : ∀ b ∈ frs X.stack, H b = none := fun b hb => by
  rcases List.mem_cons.mp (I.stkSub b hb) with e | hb
  · rw [e]; exact I.free
  · obtain ⟨_, o, ho, _⟩ := I.ok.funs.mem hb
    exact I.base.free b o ho (I.ok.frf b hb) fun z => I.ok.exfs b z hb

/-- THE STEP: the untracked objects but the frame and the records at ch are kept (the callers' frames up to slots), the frame's map is kept, the new abstract heap is held -/
theorem Inv.step {g' : Array GenState} {t' : Nat} {d' : Drawn} {ch : List Addr} (I : Inv X pins σ H s)
    (hch : ∀ b ∈ ch, (b ∈ X.ex ∨ X.s₀.heap.objs.size ≤ b) ∧ b ≠ X.env.locals ∧ (∀ x c, X.env.cells.lookup x = some c → c ≠ b) ∧ ∀ p ∈ X.pn ++ pins, p.1 ≠ b)
    (keep : ∀ b o, b ≠ X.env.locals → b ∉ X.fs → b ∉ ch → s.heap.get? b = some o → H b = none → h'.get? b = some o)
    (slot : ∀ b o, b ≠ X.env.locals → b ∈ X.fs → b ∉ ch → s.heap.get? b = some o → H b = none → ∃ sl, h'.get? b = some { o with slots := sl }) (free : ∀ b o, b ∉ ch → s.heap.get? b = some o → H b = none → H' b = none)
    (there : ∀ b o, b ∉ ch → s.heap.get? b = some o → ∃ o', h'.get? b = some o')
    (tups : ∀ b xs, H b = some (.tup xs) → H' b = some (.tup xs)) (frzs : ∀ b o u, H b = some (.frz o u) → H' b = some (.frz o u)) (tbls : ∀ b ps, H b = some (.tbl ps) → ∃ more, H' b = some (.tbl (ps ++ more)))
    (ns : ∀ m, s.heap.Ns X.env.locals m → h'.Ns X.env.locals m) (hok : HOk X.prog X.w H' h') (hg : AllBare g') :
    Inv X pins σ H' { s with heap := h', gens := g', drawn := d', toks := t' } := by
  have neL : ∀ b o, X.s₀.heap.get? b = some o → b ≠ X.env.locals := fun b o e => Nat.ne_of_lt (Nat.lt_of_lt_of_le (Heap.lt_size e) I.ok.above)
  have neC : ∀ b o, X.s₀.heap.get? b = some o → b ∉ X.ex → b ∉ ch := fun b o e hx hb => by
    rcases (hch b hb).1 with z | z
    · exact hx z
    · exact absurd (Nat.lt_of_lt_of_le (Heap.lt_size e) z) (Nat.lt_irrefl _)
  have cellK : ∀ x c, X.env.cells.lookup x = some c → ∀ v, s.heap.IsCell c v → h'.IsCell c v := fun x c e v ⟨o, ho, hd⟩ => by
    have nch : c ∉ ch := fun z => (hch c z).2.2.1 x c e rfl
    by_cases hc : c ∈ X.fs
    · obtain ⟨sl, q⟩ := slot c o (I.cne x c e) hc nch ho (I.freeC x c e)
      exact ⟨_, q, hd⟩
    · exact ⟨o, keep c o (I.cne x c e) hc nch ho (I.freeC x c e), hd⟩
  refine ⟨I.ok, I.os, hg, ⟨fun b o e n hb hx => ?_, fun b o e n hb hx => ?_, fun b o e n hx => ?_, fun b o e hx => ?_, fun b xs e => tups b xs (I.base.tups b xs e), fun b o xs e => frzs b o xs (I.base.frzs b o xs e), fun b ps e => ?_⟩, ?_, fun x c e => ?_, ?_, fun x c e => ?_, fun p hp => ?_, hok, I.len⟩
  · exact keep b o (neL b o e) hb (neC b o e hx) (I.base.keep b o e n hb hx) (I.base.free b o e n hx)
  · obtain ⟨sl, e1⟩ := I.base.slot b o e n hb hx
    obtain ⟨sl', e2⟩ := slot b _ (neL b o e) hb (neC b o e hx) e1 (I.base.free b o e n hx)
    exact ⟨sl', e2⟩
  · obtain ⟨o', e1⟩ := I.base.there b o e hx
    exact free b o' (neC b o e hx) e1 (I.base.free b o e n hx)
  · obtain ⟨o', e1⟩ := I.base.there b o e hx
    exact there b o' (neC b o e hx) e1
  · obtain ⟨m1, e1⟩ := I.base.tbls b ps e
    obtain ⟨m2, e2⟩ := tbls b _ e1
    exact ⟨m1 ++ m2, by rw [e2, Array.append_assoc]⟩
  · obtain ⟨m, hn, hl⟩ := I.loc
    refine ⟨m, ns m hn, fun i x v e1 e2 e3 => ?_⟩
    obtain ⟨u, r, l⟩ := hl i x v e1 e2 e3
    refine ⟨u, r, ?_⟩
    rcases l with l | ⟨k, c, e, z⟩
    · exact .inl l
    · exact .inr ⟨k, c, e, cellK x c e _ z⟩
  · obtain ⟨v, z⟩ := I.cell x c e
    exact ⟨v, cellK x c e v z⟩
  · obtain ⟨m, ⟨o, _, _, ho, _⟩, _⟩ := I.loc
    exact free _ o (fun z => (hch _ z).2.1 rfl) ho I.free
  · obtain ⟨v, o, ho, hd⟩ := I.cell x c e
    exact free c o (fun z => (hch c z).2.2.1 x c e rfl) ho (I.freeC x c e)
  · obtain ⟨e, n, ne, nf, d⟩ := I.pin p hp
    have nch : p.1 ∉ ch := fun z => (hch p.1 z).2.2.2 p hp rfl
    exact ⟨keep p.1 p.2 ne nf nch e n, free p.1 p.2 nch e n, ne, nf, d⟩
/-- .. where the frame's own object is kept too -/
theorem Inv.un {t' : Nat} (I : Inv X pins σ H s) (u : Un X.fs [] H H' s.heap h') (hok : HOk X.prog X.w H' h') : Inv X pins σ H' { s with heap := h', toks := t' } := by
  obtain ⟨m, ⟨o, es, ep, ho, r⟩, _⟩ := id I.loc
  obtain ⟨sl, hL⟩ := u.any ho I.free (by simp)
  exact I.step (g' := s.gens) (d' := s.drawn) (ch := []) (fun _ z => nomatch z) (fun b o _ hb _ e n => u.keep b o e n hb (by simp)) (fun b o _ hb _ e n => u.slot b o e n hb (by simp)) (fun b o _ e n => u.free b o e n (by simp)) (fun b o _ e => u.there b o e (by simp)) u.tups u.frzs u.tbls (fun m' hm => by
    obtain ⟨o', es', ep', ho', r'⟩ := hm
    rw [ho] at ho'; cases ho'
    exact ⟨_, es', ep', hL, r'⟩) hok I.bare
/-- behind a call (or a comprehension's block): the slots of this frame may have changed too, the records at ch may have turned -/
theorem Inv.call {g' : Array GenState} {t' : Nat} {d' : Drawn} {ch : List Addr} (I : Inv X pins σ H s) (u : Un (frs X.stack) ch H H' s.heap h') (hok : HOk X.prog X.w H' h') (hg : AllBare g')
    (hch : ∀ b ∈ ch, (b ∈ X.ex ∨ X.s₀.heap.objs.size ≤ b) ∧ b ≠ X.env.locals ∧ (∀ x c, X.env.cells.lookup x = some c → c ≠ b) ∧ ∀ p ∈ X.pn ++ pins, p.1 ≠ b) :
    Inv X pins σ H' { s with heap := h', gens := g', drawn := d', toks := t' } := by
  obtain ⟨m, ⟨o, es, ep, ho, r⟩, _⟩ := id I.loc
  obtain ⟨sl, hL⟩ := u.any ho I.free fun z => (hch _ z).2.1 rfl
  exact I.step (ch := ch) hch (fun b o hL hb hc e n => u.keep b o e n (fun z => (List.mem_cons.mp (I.stkSub b z)).elim hL hb) hc) (fun b o _ _ hc e n => u.any e n hc) (fun b o hc e n => u.free b o e n hc) (fun b o hc e => u.there b o e hc) u.tups u.frzs u.tbls (fun m' hm => by
    obtain ⟨o', es', ep', ho', r'⟩ := hm
    rw [ho] at ho'; cases ho'
    exact ⟨_, es', ep', hL, r'⟩) hok hg
/-- an untracked record of ours (an iterator) has turned -/
theorem Inv.turned {t' : Nat} {it : Addr} (I : Inv X pins σ H s) (k : ∀ b o, b ≠ it → s.heap.get? b = some o → h'.get? b = some o) (hn : H it = none) (hL : it ≠ X.env.locals)
    (h1 : it ∈ X.ex ∨ X.s₀.heap.objs.size ≤ it) (h2 : ∀ x c, X.env.cells.lookup x = some c → c ≠ it) (h3 : ∀ p ∈ X.pn ++ pins, p.1 ≠ it) : Inv X pins σ H { s with heap := h', toks := t' } := by
  have nit : ∀ b u, H b = some u → b ≠ it := fun b u e z => by rw [z, hn] at e; cases e
  refine I.step (g' := s.gens) (d' := s.drawn) (ch := [it]) (fun b hb => ?_) (fun b o _ _ hc e _ => k b o (fun z => hc (by simp [z])) e) (fun b o _ _ hc e _ => ⟨o.slots, k b o (fun z => hc (by simp [z])) e⟩) (fun _ _ _ _ n => n)
    (fun b o hc e => ⟨o, k b o (fun z => hc (by simp [z])) e⟩) (fun _ _ e => e) (fun _ _ _ e => e) (fun b ps e => ⟨#[], by rw [e]; simp⟩) (fun m hm => ?_) (fun b u e => ?_) I.bare
  · have e : b = it := by simpa using hb
    subst e
    exact ⟨h1, hL, h2, h3⟩
  · obtain ⟨o, es, ep, ho, r⟩ := hm
    exact ⟨o, es, ep, k _ o (Ne.symm hL) ho, r⟩
  · refine (I.hok b u e).stay (fun c v hc q => k c v ?_ q) (fun _ q => q) fun _ _ q => q
    rcases hc with z | z
    · rw [z]; exact nit b u e
    · exact nit c _ z
theorem Inv.tok (I : Inv X pins σ H s) (t : Nat) : Inv X pins σ H { s with toks := t } := I.un (h' := s.heap) (t' := t) Un.refl I.hok
/-- all objects kept -/
theorem Inv.kept {t' : Nat} (I : Inv X pins σ H s) (k : ∀ b u, s.heap.get? b = some u → h'.get? b = some u) : Inv X pins σ H { s with heap := h', toks := t' } := I.un (Un.kept k) (I.hok.kept k)
/-- a new object laid and tracked -/
theorem Inv.laid {a : Addr} {o : HO} {t' : Nat} (I : Inv X pins σ H s) (k : ∀ b u, s.heap.get? b = some u → h'.get? b = some u) (hp : s.heap.objs.size ≤ a) (new : ObjOk X.prog X.w (upd H a o) h' a o) :
    Inv X pins σ (upd H a o) { s with heap := h', toks := t' } := I.un (Un.laid k hp (I.hok.fresh hp)) (I.hok.laid k hp new)
/-- an object written -/
theorem Inv.write {x e : Addr} {o : HO} {t' : Nat} (I : Inv X pins σ H s) (mu : Mut (H x)) (he : e = x ∨ H e = some (.own x)) (k : ∀ b u, b ≠ e → s.heap.get? b = some u → h'.get? b = some u) (heo : ∃ u, h'.get? e = some u)
    (new : ObjOk X.prog X.w (upd H x o) h' x o) : Inv X pins σ (upd H x o) { s with heap := h', toks := t' } := I.un (Un.write mu he k heo) (I.hok.write mu he k heo new)
/-- forgetting slots, pins -/
theorem Inv.weak {σ' : List (Option V)} (I : Inv X pins σ H s) (hl : σ'.length = σ.length) (w : ∀ (i : Nat) v, σ'[i]? = some (some v) → σ[i]? = some (some v)) : Inv X pins σ' H s :=
  ⟨I.ok, I.os, I.bare, I.base, let ⟨m, hn, hl'⟩ := I.loc; ⟨m, hn, fun i x v e1 e2 e3 => hl' i x v e1 (w i v e2) e3⟩, I.cell, I.free, I.freeC, I.pin, I.hok, hl.trans I.len⟩
theorem Inv.pins_of {pins' : List (Addr × Obj)} (I : Inv X pins σ H s) (h : ∀ p ∈ pins', s.heap.get? p.1 = some p.2 ∧ H p.1 = none ∧ p.1 ≠ X.env.locals ∧ p.1 ∉ X.fs ∧ ∀ v, p.2.data ≠ .cell v) : Inv X pins' σ H s :=
  ⟨I.ok, I.os, I.bare, I.base, I.loc, I.cell, I.free, I.freeC, fun p hp => (List.mem_append.mp hp).elim (fun z => I.pin p (List.mem_append_left _ z)) (h p), I.hok, I.len⟩

theorem nodup_ix {N : List Str} (hN : N.Nodup) {i j : Nat} {x : Str} (a : N[i]? = some x) (b : N[j]? = some x) : i = j := by
  obtain ⟨h1, e1⟩ := List.getElem?_eq_some_iff.mp a
  obtain ⟨h2, e2⟩ := List.getElem?_eq_some_iff.mp b
  exact (List.getElem_inj hN).mp (e1.trans e2.symm)

/-- a name is stored; what changed -/
theorem store_ok2 {M : Model} {A : Around} {E : Value → Shared → Prop} {i : Nat} {x : Str} {v : V} {u : Value} {Q : Unit → Shared → Prop} (I : Inv X pins σ H s) (hN : X.N.Nodup) (hi : X.N[i]? = some x) (hx : Loc X.env.scope x) (r : RelV v u)
    (h : ∀ s', Inv X pins (σ.set i (some v)) H s' → (∃ a, Heap.SameBut a s.heap s'.heap ∧ (a = X.env.locals ∨ X.env.cells.lookup x = some a)) → Q () s') (hf : X.fn x = true ∨ X.env.scope.names.lookup x = some .local := by first | exact .inl rfl | exact .inr rfl | assumption) : wpAny M A (storeName X.env x u) Q E s := by
  obtain ⟨m, hn, hl⟩ := id I.loc
  have hcls : (X.env.scope.kind == .class || (X.env.scope.kind == .module && X.env.locals != X.env.globals)) = false := by rw [I.ok.kind]; rfl
  have hiσ : i < σ.length := by rw [I.len]; exact (List.getElem?_eq_some_iff.mp hi).1
  have cne := I.cne
  have tracked : ∀ {a : Addr} {h' : Heap}, (∃ o, s.heap.get? a = some o ∧ H a = none) → Heap.SameBut a s.heap h' → HOk X.prog X.w H h' := fun {a h'} ha hs b ob e => by
    obtain ⟨_, _, hfree⟩ := ha
    refine (I.hok b ob e).stay (fun c w' hc q => (hs.2 c ?_).trans q) (fun _ q => q) fun _ _ q => q
    rintro rfl
    rcases hc with rfl | hc
    · rw [hfree] at e; cases e
    · rw [hfree] at hc; cases hc
  rcases hx with hk | hk
  · refine wpAny_storeName_local hk hn (fun h' hn' hs => ?_) hcls
    obtain ⟨oL, _, _, hoL, _⟩ := id hn
    refine h _ ⟨I.ok, I.os, I.bare, ⟨fun b o e n hb hx => ?_, fun b o e n hb hx => ?_, I.base.free, fun b o e hx => ?_, I.base.tups, I.base.frzs, I.base.tbls⟩, ⟨_, hn', fun j y v' e1 e2 e3 => ?_⟩, fun y c e => ?_, I.free, I.freeC, fun p hp => ?_, tracked ⟨oL, hoL, I.free⟩ hs, by simpa using I.len⟩ ⟨_, hs, .inl rfl⟩
    · exact (hs.2 b (Nat.ne_of_lt (Nat.lt_of_lt_of_le (Heap.lt_size e) I.ok.above))).trans (I.base.keep b o e n hb hx)
    · obtain ⟨sl, e1⟩ := I.base.slot b o e n hb hx
      exact ⟨sl, (hs.2 b (Nat.ne_of_lt (Nat.lt_of_lt_of_le (Heap.lt_size e) I.ok.above))).trans e1⟩
    · obtain ⟨o', e1⟩ := I.base.there b o e hx
      exact ⟨o', (hs.2 b (Nat.ne_of_lt (Nat.lt_of_lt_of_le (Heap.lt_size e) I.ok.above))).trans e1⟩
    · by_cases hj : j = i
      · subst hj
        rw [hi] at e1; cases e1
        rw [List.getElem?_set_self hiσ] at e2
        cases e2
        exact ⟨u, r, .inl ⟨hk, by simp⟩⟩
      · rw [List.getElem?_set_ne (Ne.symm hj)] at e2
        obtain ⟨u', r', q⟩ := hl j y v' e1 e2 e3
        refine ⟨u', r', ?_⟩
        rcases q with ⟨k, e⟩ | ⟨k, c, e, z⟩
        · refine .inl ⟨k, ?_⟩
          have : y ≠ x := fun e => hj (nodup_ix hN e1 (e ▸ hi))
          simp [this, e]
        · exact .inr ⟨k, c, e, z.sameBut hs (cne y c e)⟩
    · obtain ⟨w', z⟩ := I.cell y c e
      exact ⟨w', z.sameBut hs (cne y c e)⟩
    · obtain ⟨e, n, ne, nf, d⟩ := I.pin p hp
      exact ⟨(hs.2 p.1 ne).trans e, n, ne, nf, d⟩
  · have hfn : X.fn x = true := by
      rcases hf with z | z
      · exact z
      · rw [z] at hk; cases hk
    obtain ⟨c, hc⟩ := I.ok.has x (.inl hk)
    obtain ⟨w', z⟩ := I.cell x c hc
    refine wpAny_storeName_cell I.ok.kind hk hc z (fun h' hc' hs => ?_)
    obtain ⟨oc, hoc, hocd⟩ := id z
    refine h { s with heap := h' } ⟨I.ok, I.os, I.bare, ⟨fun b o e n hb hx => ?_, fun b o e n hb hx => ?_, I.base.free, fun b o e hx => ?_, I.base.tups, I.base.frzs, I.base.tbls⟩, ⟨m, hn.sameBut hs (Ne.symm (cne x c hc)), fun j y v' e1 e2 e3 => ?_⟩, fun y c' e => ?_, I.free, I.freeC, fun p hp => ?_, tracked ⟨oc, hoc, I.freeC x c hc⟩ hs, by simpa using I.len⟩ ⟨c, hs, .inr hc⟩
    · exact (hs.2 b (Nat.ne_of_lt (Nat.lt_of_lt_of_le (Heap.lt_size e) (I.ok.cab x c hfn hc)))).trans (I.base.keep b o e n hb hx)
    · obtain ⟨sl, e1⟩ := I.base.slot b o e n hb hx
      exact ⟨sl, (hs.2 b (Nat.ne_of_lt (Nat.lt_of_lt_of_le (Heap.lt_size e) (I.ok.cab x c hfn hc)))).trans e1⟩
    · obtain ⟨o', e1⟩ := I.base.there b o e hx
      exact ⟨o', (hs.2 b (Nat.ne_of_lt (Nat.lt_of_lt_of_le (Heap.lt_size e) (I.ok.cab x c hfn hc)))).trans e1⟩
    · by_cases hj : j = i
      · subst hj
        rw [hi] at e1; cases e1
        rw [List.getElem?_set_self hiσ] at e2
        cases e2
        exact ⟨u, r, .inr ⟨.inl hk, c, hc, hc'⟩⟩
      · rw [List.getElem?_set_ne (Ne.symm hj)] at e2
        obtain ⟨u', r', q⟩ := hl j y v' e1 e2 e3
        refine ⟨u', r', ?_⟩
        rcases q with q | ⟨k, c', e, z'⟩
        · exact .inl q
        · refine .inr ⟨k, c', e, z'.sameBut hs ?_⟩
          rintro rfl
          exact hj (nodup_ix hN e1 (I.ok.inj _ _ _ e hc ▸ hi))
    · by_cases hcc : c' = c
      · subst hcc; exact ⟨_, hc'⟩
      · obtain ⟨w2, z2⟩ := I.cell y c' e
        exact ⟨w2, z2.sameBut hs hcc⟩
    · obtain ⟨e, n, ne, nf, d⟩ := I.pin p hp
      refine ⟨(hs.2 p.1 ?_).trans e, n, ne, nf, d⟩
      intro q
      rw [q, hoc] at e
      have q' : oc = p.2 := Option.some.inj e
      exact d w' (by rw [← q']; exact hocd)
theorem store_ok {M : Model} {A : Around} {E : Value → Shared → Prop} {i : Nat} {x : Str} {v : V} {u : Value} {Q : Unit → Shared → Prop} (I : Inv X pins σ H s) (hN : X.N.Nodup) (hi : X.N[i]? = some x) (hx : Loc X.env.scope x) (r : RelV v u)
    (h : ∀ s', Inv X pins (σ.set i (some v)) H s' → Q () s') (hf : X.fn x = true ∨ X.env.scope.names.lookup x = some .local := by first | exact .inl rfl | exact .inr rfl | assumption) : wpAny M A (storeName X.env x u) Q E s :=
  store_ok2 I hN hi hx r (fun s' I' _ => h s' I') hf
/-- behind a call or a block, the state as it is -/
theorem Inv.call' {s' : Shared} {ch : List Addr} (I : Inv X pins σ H s) (ho : s'.os = s.os) (u : Un (frs X.stack) ch H H' s.heap s'.heap) (hok : HOk X.prog X.w H' s'.heap) (hg : AllBare s'.gens)
    (hch : ∀ b ∈ ch, (b ∈ X.ex ∨ X.s₀.heap.objs.size ≤ b) ∧ b ≠ X.env.locals ∧ (∀ x c, X.env.cells.lookup x = some c → c ≠ b) ∧ ∀ p ∈ X.pn ++ pins, p.1 ≠ b) : Inv X pins σ H' s' := by
  obtain ⟨h', g', d', t', o'⟩ := s'
  have e : o' = s.os := ho
  subst e
  exact I.call (g' := g') (t' := t') (d' := d') u hok hg hch
end

/-! ### the judgements -/
/-- an exception: its class, its own dict's address (where it has one), the abstract heap behind it -/
abbrev XK := Value → Option Addr → Hp → Prop
abbrev St := List (Option V)
abbrev VK := V → Hp → Prop
/-- an expression's reading; a test's; an argument list's -/
abbrev TE := St → Hp → VK → Prop
abbrev TT := St → Hp → (Bool → Hp → Prop) → Prop
abbrev TA := St → Hp → (List V → Hp → Prop) → Prop
/-- what is wanted behind a statement -/
structure Ends where
  nx : St → Hp → Prop
  rt : VK
  bk : St → Hp → Prop := fun _ _ => False
  ct : St → Hp → Prop := fun _ _ => False
abbrev TS := Ends → St → Hp → Prop

def EP (X : Cx) (pins : List (Addr × Obj)) (σ : St) (Q : VK) (u : Value) (s' : Shared) : Prop := ∃ v H', Inv X pins σ H' s' ∧ RelV v u ∧ Q v H'
def TP (X : Cx) (pins : List (Addr × Obj)) (σ : St) (Q : Bool → Hp → Prop) (b : Bool) (s' : Shared) : Prop := ∃ H', Inv X pins σ H' s' ∧ Q b H'
def AP (X : Cx) (pins : List (Addr × Obj)) (σ : St) (Q : List V → Hp → Prop) (us : List Value) (s' : Shared) : Prop := ∃ vs H', Inv X pins σ H' s' ∧ Vals vs us ∧ Q vs H'
def SP (X : Cx) (pins : List (Addr × Obj)) (D : Ends) (f : Flow) (s' : Shared) : Prop :=
  match f with
  | .next => ∃ σ' H', Inv X pins σ' H' s' ∧ D.nx σ' H'
  | .brk => ∃ σ' H', Inv X pins σ' H' s' ∧ D.bk σ' H'
  | .cont => ∃ σ' H', Inv X pins σ' H' s' ∧ D.ct σ' H'
  | .ret u => ∃ v σ' H', Inv X pins σ' H' s' ∧ RelV v u ∧ D.rt v H'

def PE (X : Cx) (e : Expr) (t : TE) : Prop :=
  ∀ (pins : List (Addr × Obj)) (s : Shared) (σ : St) (H : Hp) (Q : VK), Inv X pins σ H s → t σ H Q → wpAny (model X.prog X.w) X.A (eval e X.env) (EP X pins σ Q) X.xe s
def PT (X : Cx) (e : Expr) (t : TT) : Prop :=
  ∀ (pins : List (Addr × Obj)) (s : Shared) (σ : St) (H : Hp) (Q : Bool → Hp → Prop), Inv X pins σ H s → t σ H Q → wpAny (model X.prog X.w) X.A (isTrue e X.env (eval e X.env)) (TP X pins σ Q) X.xe s
/-- a test whatever its 'whole' is (and, or) -/
def PW (X : Cx) (e : Expr) (t : TT) : Prop :=
  ∀ (whole : Sem Value) (pins : List (Addr × Obj)) (s : Shared) (σ : St) (H : Hp) (Q : Bool → Hp → Prop), Inv X pins σ H s → t σ H Q → wpAny (model X.prog X.w) X.A (isTrue e X.env whole) (TP X pins σ Q) X.xe s
theorem PW.pt {X : Cx} {e : Expr} {t : TT} (h : PW X e t) : PT X e t := h _
/-- an argument list (no star), from the left -/
def PA (X : Cx) (es : List Expr) (t : TA) : Prop :=
  ∀ (pos : Pos) (pins : List (Addr × Obj)) (s : Shared) (σ : St) (H : Hp) (Q : List V → Hp → Prop), Inv X pins σ H s → t σ H Q → wpAny (model X.prog X.w) X.A (spliced (backTo pos (starEach es X.env))) (AP X pins σ Q) X.xe s
def PS (X : Cx) (st : Stmt) (t : TS) : Prop :=
  ∀ (pins : List (Addr × Obj)) (s : Shared) (σ : St) (H : Hp) (D : Ends), Inv X pins σ H s → t D σ H → wpAny (model X.prog X.w) X.A (exec st X.env) (SP X pins D) X.xe s
def PSs (X : Cx) (st : List Stmt) (t : TS) : Prop :=
  ∀ (pins : List (Addr × Obj)) (s : Shared) (σ : St) (H : Hp) (D : Ends), Inv X pins σ H s → t D σ H → wpAny (model X.prog X.w) X.A (execs st X.env) (SP X pins D) X.xe s
/-- weaken the end -/
theorem thn {α : Type} {t : Sem α} {Q Q' : α → Shared → Prop} {M : Model} {A : Around} {E : Value → Shared → Prop} {s : Shared} (h : wpAny M A t Q E s) (hQ : ∀ a s, Q a s → Q' a s) : wpAny M A t Q' E s := wpAny_mono h hQ fun _ _ x => x
end L2

namespace L2
open PySem PySem.Spec PyProof.Rows
section
variable {X : Cx}

/-! ### names and constants -/
def tVar (i : Nat) : TE := fun σ H Q => ∃ v, σ[i]? = some (some v) ∧ Q v H
def tC (v : V) : TE := fun _ H Q => Q v H
theorem pe_var {i : Nat} {x : Str} {pos : Pos} (hN : X.N[i]? = some x) (hv : Vis X.env.scope x) (hd : (x == ("__debug__" : Str)) = false := by decide) (hcd : (x == ("__classdict__" : Str)) = false := by decide) : PE X (.Name x pos) (tVar i) := by
  intro pins s σ H Q I h
  obtain ⟨v, e, h⟩ := h
  obtain ⟨m, hn, hl⟩ := I.loc
  obtain ⟨u, r, l⟩ := hl i x v hN e hv
  have fin : EP X pins σ Q u s := ⟨v, H, I, r, h⟩
  rcases l with ⟨hk, hm⟩ | ⟨hk, c, hc, hcell⟩
  · exact wpAny_Name (wpAny_loadName_local I.ok.kind hk hn hm fin) hd
  · rcases hk with hk | hk
    · exact wpAny_Name (wpAny_loadName_cell I.ok.kind hk hc hcell fin) hd
    · exact wpAny_Name (wpAny_loadName_free I.ok.kind hk hc hcell fin hcd) hd
theorem pe_int {i j pos} : PE X (.Constant (.int i) j pos) (tC (.int i)) := fun _ _ _ H _ I h => wpAny_Constant_int ⟨.int i, H, I.tok _, ⟨_, rfl⟩, h⟩
theorem pe_bl {b j pos} : PE X (.Constant (.bool b) j pos) (tC (.bl b)) := fun _ _ _ H _ I h => Constant_bool ⟨.bl b, H, I, rfl, h⟩
theorem pe_non {j pos} : PE X (.Constant .none j pos) (tC .non) := fun _ _ _ H _ I h => Constant_none ⟨.non, H, I, rfl, h⟩
theorem pe_str {x j pos} : PE X (.Constant (.str x) j pos) (tC (.str x)) := fun _ _ _ H _ I h => Calls.Constant_str ⟨.str x, H, I.tok _, ⟨_, rfl⟩, h⟩

/-- a global name of the def -/
def Gl (X : Cx) (x : Str) : Prop := X.env.kindOf x = some .globalImplicit
theorem ld_glob {E : Value → Shared → Prop} {pins : List (Addr × Obj)} {s : Shared} {σ : St} {H : Hp} {x : Str} {u : Value} {pos : Pos} {Q : Value → Shared → Prop} (I : Inv X pins σ H s) (hg : Gl X x) (hm : X.mg x = some u) (h : Q u s)
    (hd : (x == ("__debug__" : Str)) = false := by decide) : wpAny (model X.prog X.w) X.A (eval (.Name x pos) X.env) Q E s :=
  Calls.Name_function_global I.ok.kind hg (Calls.loadGlobal_global (by rw [I.ok.glob]; exact I.mod.glob.keeps I.bk) hm h) hd
theorem ld_blt {E : Value → Shared → Prop} {pins : List (Addr × Obj)} {s : Shared} {σ : St} {H : Hp} {x : Str} {u : Value} {pos : Pos} {Q : Value → Shared → Prop} (I : Inv X pins σ H s) (hg : Gl X x) (hm : X.mg x = none) (hv : bootBuiltins x = some u) (h : Q u s)
    (hn : x ≠ "__name__" := by decide) (hd : (x == ("__debug__" : Str)) = false := by decide) : wpAny (model X.prog X.w) X.A (eval (.Name x pos) X.env) Q E s := by
  obtain ⟨mb, h1, h2⟩ := I.mod.blt
  exact Calls.Name_function_global I.ok.kind hg (Calls.loadGlobal_builtin (by rw [I.ok.glob]; exact I.mod.glob.keeps I.bk) hm (by rw [I.ok.blt]; exact h1.keeps I.bk) ((h2 x hn).trans hv) h) hd
/-- a module's constant, a class, a function, as a value -/
theorem pe_glob {x : Str} {v : V} {u : Value} {pos : Pos} (hg : Gl X x) (hm : X.mg x = some u) (r : RelV v u) (hd : (x == ("__debug__" : Str)) = false := by decide) : PE X (.Name x pos) (tC v) :=
  fun _ _ _ H _ I h => ld_glob I hg hm ⟨v, H, I, r, h⟩ hd
/-! ### arithmetic -/
variable {a b : Expr} {ta tb : TE} {pos : Pos}
/-! ### comparisons -/
def PC (X : Cx) (op : CmpOp) (a b : Expr) (t : TE) : Prop :=
  ∀ (pins : List (Addr × Obj)) (s : Shared) (σ : St) (H : Hp) (Q : VK), Inv X pins σ H s → t σ H Q →
    wpAny (model X.prog X.w) X.A (eval a X.env) (fun v s₁ => wpAny (model X.prog X.w) X.A (eval b X.env) (fun u s₂ => wpAny (model X.prog X.w) X.A (compareOp op v u) (EP X pins σ Q) X.xe s₂) X.xe s₁) X.xe s
theorem nobehind (b : Expr) {op : CmpOp} (h : op ≠ .In) (h2 : op ≠ .NotIn) : behindInMarks op b = false := by
  have e1 : (op == CmpOp.In) = false := by cases op <;> first | rfl | exact absurd rfl h
  have e2 : (op == CmpOp.NotIn) = false := by cases op <;> first | rfl | exact absurd rfl h2
  cases b <;> simp [behindInMarks, e1, e2]
/-- a comparison as a value, as a test -/
def tB (t : TE) : TT := fun σ H Q => t σ H fun x H1 => ∃ c, x = .bl c ∧ Q c H1
theorem pe_cmp {op : CmpOp} {t : TE} (h : PC X op a b t) (h1 : behindInMarks op b = false := by first | exact nobehind _ (by decide) (by decide) | rfl) : PE X (.Compare a [op] [b] pos) t := fun pins s σ H Q I hw => wpAny_Compare1 (h pins s σ H Q I hw) h1
theorem pt_cmp {op : CmpOp} {t : TE} (h : PC X op a b t) (h1 : behindInMarks op b = false := by first | exact nobehind _ (by decide) (by decide) | rfl) : PT X (.Compare a [op] [b] pos) (tB t) := by
  intro pins s σ H Q I hw
  refine wpAny_isTrue_Compare1 (thn (h pins s σ H _ I hw) fun v s1 h1 => thn h1 fun u s2 h2 => thn h2 fun c s3 ⟨x, H1, I1, r1, q1⟩ => ?_) h1
  obtain ⟨d, rfl, q⟩ := q1
  cases r1
  exact wpAny_truthy_bool ⟨H1, I1, q⟩
/-- an expression whose value is a bool, as a test -/
theorem pt_val {e : Expr} {t : TE} (h : PE X e t) (he : ∀ whole, isTrue e X.env whole = (do let v ← whole; standAt e.pos; holding [v] (truthy v)) := by intro _; rfl) : PT X e (tB t) := by
  intro pins s σ H Q I hw
  refine isTrue_plain (thn (h pins s σ H _ I hw) fun v s1 ⟨x, H1, I1, r1, q1⟩ => ?_) (he _)
  obtain ⟨d, rfl, q⟩ := q1
  cases r1
  exact wpAny_truthy_bool ⟨H1, I1, q⟩

/-! ### and, or, not -/
variable {tA tB' : TT} {rest : List Expr}
def tAnd (t u : TT) : TT := fun σ H Q => t σ H fun c H1 => if c = true then u σ H1 Q else Q false H1
def tOr (t u : TT) : TT := fun σ H Q => t σ H fun c H1 => if c = true then Q true H1 else u σ H1 Q
def tNot (t : TT) : TT := fun σ H Q => t σ H fun c H1 => Q (!c) H1
theorem pw_and1 (ha : PT X a tA) : PW X (.BoolOp .And [a] pos) tA := by
  intro wh pins s σ H Q I h
  refine isTrue_and (thn (ha pins s σ H Q I h) fun c s1 e => ?_)
  cases c with
  | true => exact isTrue_and_nil e
  | false => exact e
theorem pw_or1 (ha : PT X a tA) : PW X (.BoolOp .Or [a] pos) tA := by
  intro wh pins s σ H Q I h
  refine isTrue_or (thn (ha pins s σ H Q I h) fun c s1 e => ?_)
  cases c with
  | false => exact isTrue_or_nil e
  | true => exact e
theorem pw_and (ha : PT X a tA) (hb : PW X (.BoolOp .And (b :: rest) pos) tB') : PW X (.BoolOp .And (a :: b :: rest) pos) (tAnd tA tB') := by
  intro wh pins s σ H Q I h
  refine isTrue_and (thn (ha pins s σ H _ I h) fun c s1 ⟨H1, I1, q1⟩ => ?_)
  cases c with
  | true => exact hb wh pins s1 σ H1 Q I1 q1
  | false => exact ⟨H1, I1, q1⟩
theorem pw_or (ha : PT X a tA) (hb : PW X (.BoolOp .Or (b :: rest) pos) tB') : PW X (.BoolOp .Or (a :: b :: rest) pos) (tOr tA tB') := by
  intro wh pins s σ H Q I h
  refine isTrue_or (thn (ha pins s σ H _ I h) fun c s1 ⟨H1, I1, q1⟩ => ?_)
  cases c with
  | true => exact ⟨H1, I1, q1⟩
  | false => exact hb wh pins s1 σ H1 Q I1 q1
theorem pt_not (ha : PT X a tA) : PT X (.UnaryOp .Not a pos) (tNot tA) := by
  intro pins s σ H Q I h
  exact isTrue_not (ha pins s σ H (fun c H1 => Q (!c) H1) I h)
/-- .. as values (bools) -/
def tAndV (ta tb : TE) : TE := fun σ H Q => ta σ H fun x H1 => ∃ c, x = .bl c ∧ if c = true then tb σ H1 Q else Q (.bl false) H1
def tOrV (ta tb : TE) : TE := fun σ H Q => ta σ H fun x H1 => ∃ c, x = .bl c ∧ if c = true then Q (.bl true) H1 else tb σ H1 Q
def tNotV (ta : TE) : TE := fun σ H Q => ta σ H fun x H1 => ∃ c, x = .bl c ∧ Q (.bl (!c)) H1
theorem pe_one {op} {t : TE} (h : PE X a t) : PE X (.BoolOp op [a] pos) t := fun pins s σ H Q I hw => BoolOp_one (h pins s σ H Q I hw)
theorem pe_and (ha : PE X a ta) (hb : PE X (.BoolOp .And (b :: rest) pos) tb) : PE X (.BoolOp .And (a :: b :: rest) pos) (tAndV ta tb) := by
  intro pins s σ H Q I h
  refine BoolOp_and (thn (ha pins s σ H _ I h) fun v s1 ⟨x, H1, I1, r1, q1⟩ => ?_)
  obtain ⟨c, rfl, q1⟩ := q1
  cases r1
  refine wpAny_truthy_bool ?_
  cases c with
  | true => exact hb pins s1 σ H1 Q I1 q1
  | false => exact ⟨.bl false, H1, I1, rfl, q1⟩
theorem pe_or (ha : PE X a ta) (hb : PE X (.BoolOp .Or (b :: rest) pos) tb) : PE X (.BoolOp .Or (a :: b :: rest) pos) (tOrV ta tb) := by
  intro pins s σ H Q I h
  refine BoolOp_or (thn (ha pins s σ H _ I h) fun v s1 ⟨x, H1, I1, r1, q1⟩ => ?_)
  obtain ⟨c, rfl, q1⟩ := q1
  cases r1
  refine wpAny_truthy_bool ?_
  cases c with
  | false => exact hb pins s1 σ H1 Q I1 q1
  | true => exact ⟨.bl true, H1, I1, rfl, q1⟩
theorem pe_not (ha : PE X a ta) : PE X (.UnaryOp .Not a pos) (tNotV ta) := by
  intro pins s σ H Q I h
  refine UnaryOp_ (thn (ha pins s σ H _ I h) fun v s1 ⟨x, H1, I1, r1, q1⟩ => ?_)
  obtain ⟨c, rfl, q1⟩ := q1
  cases r1
  exact not_of (wpAny_truthy_bool ⟨.bl (!c), H1, I1, rfl, q1⟩)
/-- a if t else b -/
def tIf (t : TT) (ta tb : TE) : TE := fun σ H Q => t σ H fun c H1 => if c = true then ta σ H1 Q else tb σ H1 Q
theorem pe_ifExp {c : Expr} (hc : PT X c tA) (ha : PE X a ta) (hb : PE X b tb) : PE X (.IfExp c a b pos) (tIf tA ta tb) := by
  intro pins s σ H Q I h
  refine wpAny_IfExp (thn (hc pins s σ H _ I h) fun d s1 ⟨H1, I1, q1⟩ => ?_)
  cases d with
  | true => exact ha pins s1 σ H1 Q I1 q1
  | false => exact hb pins s1 σ H1 Q I1 q1
end
end L2

namespace L2
open PySem PySem.Spec PyProof.Rows

/-! ### a list, a tuple that is read: tracked, frozen, or an object of the module -/
def SqL (K : PySem.W.Frag) (H : Hp) (a : Addr) (xs : List V) : Prop :=
  Rd H a (.lst xs) ∨
    ∃ (o : Obj) (its : Array Value) (n : Nat), K.lookup a = some o ∧ o.cls = .type "list" ∧ o.dict = none ∧ o.data = .seq its n ∧ its.size ≤ sizeLine ∧ Vals xs its.toList
def SqT (K : PySem.W.Frag) (H : Hp) (a : Addr) (xs : List V) : Prop :=
  Rd H a (.tup xs) ∨
    ∃ (o : Obj) (its : Array Value) (n : Nat), K.lookup a = some o ∧ o.cls = .type "tuple" ∧ o.data = .seq its n ∧ its.size ≤ sizeLine ∧ Vals xs its.toList
def absV : Value → Option V
  | .none => some .non
  | .bool b => some (.bl b)
  | .int i _ => some (.int i)
  | .str x _ => some (.str x)
  | .bytes b _ => some (.byt b)
  | .float b _ => some (.flt b)
  | .ref a => some (.ref a)
  | .type n => some (.ty n)
  | _ => none
theorem RelV.abs {x : V} {u : Value} (r : RelV x u) : absV u = some x := by
  cases x with
  | non => cases r; rfl
  | bl _ => cases r; rfl
  | int _ => obtain ⟨t, rfl⟩ := r; rfl
  | str _ => obtain ⟨t, rfl⟩ := r; rfl
  | byt _ => obtain ⟨t, rfl⟩ := r; rfl
  | flt _ => obtain ⟨t, rfl⟩ := r; rfl
  | ref _ => cases r; rfl
  | ty _ => cases r; rfl
theorem RelV.inj {x y : V} {u : Value} (r : RelV x u) (q : RelV y u) : x = y := Option.some.inj (r.abs.symm.trans q.abs)
theorem Vals.inj : ∀ {xs ys : List V} {us : List Value}, Vals xs us → Vals ys us → xs = ys
  | _, _, _, .nil, .nil => rfl
  | _, _, _, .cons r t, .cons r' t' => by rw [r.inj r', Vals.inj t t']
section
variable {X : Cx} {pins : List (Addr × Obj)} {σ : St} {H : Hp} {s : Shared} {a : Addr} {xs ys : List V}
theorem SqL.of {K : PySem.W.Frag} (h : H a = some (.lst xs)) : SqL K H a xs := .inl (.inl h)
theorem SqT.of {K : PySem.W.Frag} (h : H a = some (.tup xs)) : SqT K H a xs := .inl (.inl h)
theorem Inv.list (I : Inv X pins σ H s) (h : SqL X.K H a xs) : ∃ its : List Value, Vals xs its ∧ PlainL s.heap a its.toArray ∧ xs.length ≤ sizeLine := by
  rcases h with h | ⟨o, its, n, hk, hc, hd, hs, hz, r⟩
  · obtain ⟨z, its, n, r, e⟩ := h.ok I.hok
    exact ⟨its, r, ⟨_, n, e, rfl, rfl, rfl⟩, z⟩
  · refine ⟨its.toList, r, ⟨o, n, I.kIn a o hk, hc, hd, by simpa using hs⟩, ?_⟩
    have e := r.length
    simp only [Array.length_toList] at e
    omega
theorem Inv.tuple (I : Inv X pins σ H s) (h : SqT X.K H a xs) : ∃ its : List Value, Vals xs its ∧ IsTup s.heap a its.toArray ∧ xs.length ≤ sizeLine := by
  rcases h with h | ⟨o, its, n, hk, hc, hs, hz, r⟩
  · obtain ⟨z, its, r, p⟩ := h.ok I.hok
    exact ⟨its, r, p, z⟩
  · refine ⟨its.toList, r, ⟨o, I.kIn a o hk, hc, n, by simpa using hs⟩, ?_⟩
    have e := r.length
    simp only [Array.length_toList] at e
    omega
theorem Inv.list_inj (I : Inv X pins σ H s) (h : SqL X.K H a xs) (h' : SqL X.K H a ys) : xs = ys := by
  obtain ⟨its, r, ⟨o, n, e, _, _, d⟩, _⟩ := I.list h
  obtain ⟨its', r', ⟨o', n', e', _, _, d'⟩, _⟩ := I.list h'
  rw [e] at e'; cases e'
  rw [d] at d'
  injection d' with d1 _
  have : its = its' := by simpa using congrArg Array.toList d1
  subst this
  exact r.inj r'
end

/-! ### another wish about exceptions -/
abbrev Cx.wish (X : Cx) (E : Value → Shared → Prop) : Cx := { X with xe := E }
/-- no exception leaves -/
abbrev Cx.nox (X : Cx) : Cx := X.wish fun _ _ => False
theorem Cx.Ok.wish {X : Cx} (ok : X.Ok) (E : Value → Shared → Prop) : (X.wish E).Ok :=
  ⟨ok.mod, ok.kind, ok.glob, ok.blt, ok.above, ok.inj, ok.has, ok.cab, ok.hd, ok.frames, ok.stk, ok.exf, ok.bs, ok.bsz, ok.noex, ok.exfs, ok.funs, ok.frf⟩
theorem Cx.Ok.unwish {X : Cx} {E : Value → Shared → Prop} (ok : (X.wish E).Ok) : X.Ok :=
  ⟨ok.mod, ok.kind, ok.glob, ok.blt, ok.above, ok.inj, ok.has, ok.cab, ok.hd, ok.frames, ok.stk, ok.exf, ok.bs, ok.bsz, ok.noex, ok.exfs, ok.funs, ok.frf⟩
section
variable {X : Cx} {pins : List (Addr × Obj)} {σ : St} {H : Hp} {s : Shared} {E : Value → Shared → Prop}
theorem Inv.wish (I : Inv X pins σ H s) (E : Value → Shared → Prop) : Inv (X.wish E) pins σ H s := ⟨I.ok.wish E, I.os, I.bare, I.base, I.loc, I.cell, I.free, I.freeC, I.pin, I.hok, I.len⟩
theorem Inv.unwish (I : Inv (X.wish E) pins σ H s) : Inv X pins σ H s := ⟨I.ok.unwish, I.os, I.bare, I.base, I.loc, I.cell, I.free, I.freeC, I.pin, I.hok, I.len⟩
theorem SP.unwish {D : Ends} {f : Flow} {s' : Shared} (h : SP (X.wish E) pins D f s') : SP X pins D f s' := by
  cases f with
  | next => obtain ⟨σ', H', I, q⟩ := h; exact ⟨σ', H', I.unwish, q⟩
  | brk => obtain ⟨σ', H', I, q⟩ := h; exact ⟨σ', H', I.unwish, q⟩
  | cont => obtain ⟨σ', H', I, q⟩ := h; exact ⟨σ', H', I.unwish, q⟩
  | ret u => obtain ⟨v, σ', H', I, r, q⟩ := h; exact ⟨v, σ', H', I.unwish, r, q⟩
theorem PE.nox {e : Expr} {t : TE} (h : PE X.nox e t) : PE X e t := fun pins s σ H Q I hw =>
  wpAny_mono (h pins s σ H Q (I.wish _) hw) (fun _ _ ⟨v, H', I', r, q⟩ => ⟨v, H', I'.unwish, r, q⟩) fun _ _ z => False.elim z
theorem PT.nox {e : Expr} {t : TT} (h : PT X.nox e t) : PT X e t := fun pins s σ H Q I hw =>
  wpAny_mono (h pins s σ H Q (I.wish _) hw) (fun _ _ ⟨H', I', q⟩ => ⟨H', I'.unwish, q⟩) fun _ _ z => False.elim z
theorem PSs.nox {st : List Stmt} {t : TS} (h : PSs X.nox st t) : PSs X st t := fun pins s σ H D I hw =>
  wpAny_mono (h pins s σ H D (I.wish _) hw) (fun _ _ q => q.unwish) fun _ _ z => False.elim z
end

/-! ### blocks and small statements -/
section
variable {X : Cx} {st : Stmt} {rest : List Stmt} {t u : TS} {e : Expr} {te : TE} {pos : Pos}
def tNext : TS := fun D σ H => D.nx σ H
def tSeq (t u : TS) : TS := fun D σ H => t { D with nx := u D } σ H
theorem pss_nil : PSs X [] tNext := fun _ _ σ H _ I h => wpAny_execs_nil ⟨σ, H, I, h⟩
theorem pss_cons (h1 : PS X st t) (h2 : PSs X rest u) : PSs X (st :: rest) (tSeq t u) := by
  intro pins s σ H D I h
  refine wpAny_execs_cons (thn (h1 pins s σ H { D with nx := u D } I h) fun f s1 q => ?_)
  cases f with
  | next =>
    obtain ⟨σ', H', I', q⟩ := q
    exact h2 pins s1 σ' H' D I' q
  | ret v => exact q
  | brk => exact q
  | cont => exact q
theorem pss_one (h1 : PS X st t) : PSs X [st] t := by
  intro pins s σ H D I h
  refine wpAny_execs_cons (thn (h1 pins s σ H D I h) fun f s1 q => ?_)
  cases f with
  | next => exact wpAny_execs_nil q
  | ret v => exact q
  | brk => exact q
  | cont => exact q
/-- in a def's body nothing is shown -/
theorem Inv.quiet {pins : List (Addr × Obj)} {σ : St} {H : Hp} {s : Shared} (I : Inv X pins σ H s) : interactive X.env = false := by simp [interactive, I.ok.kind]
/-- an expression whose value is dropped -/
def tDrop (te : TE) : TS := fun D σ H => te σ H fun _ H1 => D.nx σ H1
theorem ps_expr (he : PE X e te) (hs : swapsWith e none pos.line X.env = pure false := by rfl) : PS X (.Expr e pos) (tDrop te) := by
  intro pins s σ H D I h
  exact wpAny_Expr_any (thn (he pins s σ H _ I h) fun v s1 ⟨x, H1, I1, r1, q1⟩ => ⟨σ, H1, I1, q1⟩) I.quiet hs
def tRet (te : TE) : TS := fun D σ H => te σ H D.rt
theorem ps_ret (he : PE X e te) : PS X (.Return (some e) pos) (tRet te) := by
  intro pins s σ H D I h
  exact wpAny_Return_some (thn (he pins s σ H _ I h) fun v s1 ⟨x, H1, I1, r1, q1⟩ => ⟨x, σ, H1, I1, r1, q1⟩)
def tIfS (c : TT) (t u : TS) : TS := fun D σ H => c σ H fun b H1 => if b = true then t D σ H1 else u D σ H1
theorem ps_if {c : Expr} {a b : List Stmt} {tc : TT} (hc : PT X c tc) (ha : PSs X a t) (hb : PSs X b u) : PS X (.If c a b pos) (tIfS tc t u) := by
  intro pins s σ H D I h
  refine wpAny_If (thn (hc pins s σ H _ I h) fun d s1 ⟨H1, I1, q1⟩ => ?_)
  cases d with
  | true => exact ha pins s1 σ H1 D I1 q1
  | false => exact hb pins s1 σ H1 D I1 q1
end

/-! ### targets -/
abbrev TG := V → St → Hp → (St → Hp → Prop) → Prop
abbrev TGs := List V → St → Hp → (St → Hp → Prop) → Prop
def PG (X : Cx) (target : Expr) (t : TG) : Prop :=
  ∀ (pins : List (Addr × Obj)) (s : Shared) (σ : St) (H : Hp) (v : V) (u : Value) (Q : St → Hp → Prop), Inv X pins σ H s → RelV v u → t v σ H Q →
    wpAny (model X.prog X.w) X.A (assign target X.env u) (fun _ s' => ∃ σ' H', Inv X pins σ' H' s' ∧ Q σ' H') X.xe s
/-- several targets, one after another -/
def PGs (X : Cx) (ts : List Expr) (t : TGs) : Prop :=
  ∀ (pins : List (Addr × Obj)) (s : Shared) (σ : St) (H : Hp) (vs : List V) (us : List Value) (Q : St → Hp → Prop), Inv X pins σ H s → Vals vs us → t vs σ H Q →
    wpAny (model X.prog X.w) X.A (assignInOrder ((assignEach ts X.env).map (·.2)) us) (fun _ s' => ∃ σ' H', Inv X pins σ' H' s' ∧ Q σ' H') X.xe s
/-- o[i] = v, by values -/
abbrev TSet := V → V → V → Hp → (Hp → Prop) → Prop
def PSet (X : Cx) (t : TSet) : Prop :=
  ∀ (pins : List (Addr × Obj)) (s : Shared) (σ : St) (H : Hp) (o i v : V) (ov iv u : Value) (Q : Hp → Prop), Inv X pins σ H s → RelV o ov → RelV i iv → RelV v u → t o i v H Q →
    wpAny (model X.prog X.w) X.A (setItem ov iv u) (fun _ s' => ∃ H', Inv X pins σ H' s' ∧ Q H') X.xe s
/-- a op= b, by values -/
abbrev TIp := V → V → Hp → VK → Prop
def PIp (X : Cx) (op : Operator) (t : TIp) : Prop :=
  ∀ (pins : List (Addr × Obj)) (s : Shared) (σ : St) (H : Hp) (x y : V) (v u : Value) (Q : VK), Inv X pins σ H s → RelV x v → RelV y u → t x y H Q →
    wpAny (model X.prog X.w) X.A (inplaceOp op v u) (EP X pins σ Q) X.xe s
section
variable {X : Cx} {pos : Pos}
def gName (i : Nat) : TG := fun v σ H Q => Q (σ.set i (some v)) H
theorem pg_name {i : Nat} {x : Str} (hN : X.N.Nodup) (hi : X.N[i]? = some x) (hx : Loc X.env.scope x) (hf : X.fn x = true ∨ X.env.scope.names.lookup x = some .local := by first | exact .inl rfl | exact .inr rfl | assumption) : PG X (.Name x pos) (gName i) := by
  intro pins s σ H v u Q I r h
  exact wpAny_assign_Name (store_ok I hN hi hx r (fun s' I' => ⟨_, H, I', h⟩) hf)
def gNil : TGs := fun vs σ H Q => vs = [] ∧ Q σ H
def gCons (t : TG) (u : TGs) : TGs := fun vs σ H Q => ∃ v r, vs = v :: r ∧ t v σ H fun σ' H' => u r σ' H' Q
theorem pgs_nil : PGs X [] gNil := by
  intro pins s σ H vs us Q I r h
  obtain ⟨e, h⟩ := h
  subst e
  cases r
  exact assignInOrder_nil ⟨σ, H, I, h⟩
theorem pgs_cons {e : Expr} {es : List Expr} {t : TG} {u : TGs} (h1 : PG X e t) (h2 : PGs X es u)
    (hs : (assignEach (e :: es) X.env).map (·.2) = assign e X.env :: (assignEach es X.env).map (·.2) := by rfl) : PGs X (e :: es) (gCons t u) := by
  intro pins s σ H vs us Q I r h
  obtain ⟨v, vr, e1, h⟩ := h
  subst e1
  cases r with
  | cons r rr =>
    rw [hs]
    refine assignInOrder_cons (thn (h1 pins s σ H _ _ _ I r h) fun _ s1 ⟨σ1, H1, I1, q1⟩ => ?_)
    exact h2 pins s1 σ1 H1 _ _ Q I1 rr q1
/-- (a, b, ..) = a tuple of that length -/
def gTup (K : PySem.W.Frag) (n : Nat) (t : TGs) : TG := fun v σ H Q => ∃ a xs, v = .ref a ∧ SqT K H a xs ∧ xs.length = n ∧ t xs σ H Q
theorem pg_tup {es : List Expr} {k : Nat} {t : TGs} {n : Nat} (hc : X.calm = true) (h : PGs X es t)
    (hn : (assignEach es X.env).length = n := by rfl) (hst : (assignEach es X.env).findIdx? (·.1) = none := by rfl) : PG X (.Tuple es k pos) (gTup X.K n t) := by
  intro pins s σ H v u Q I r hw
  obtain ⟨a, xs, e1, hq, hl, hw⟩ := hw
  subst e1
  cases r
  obtain ⟨its, rv, ht, hz⟩ := I.tuple hq
  refine assign_Tuple_tuple (I.ok.hd hc) ht (by simp [hn, ← hl, rv.length]) hst fun h' hx => ?_
  have I1 : Inv X pins σ H { s with heap := h' } := I.kept (t' := s.toks) fun b o e => hx b o (Nat.ne_of_lt (Heap.lt_size e)) e
  exact h pins _ σ H xs _ Q I1 (by simpa using rv) hw
/-- o[i] = .. -/
def gSub (to ti : TE) (t : TSet) : TG := fun v σ H Q => to σ H fun o H1 => ti σ H1 fun i H2 => t o i v H2 fun H3 => Q σ H3
theorem pg_sub {o i : Expr} {to ti : TE} {t : TSet} (ho : PE X o to) (hi : PE X i ti) (hs : PSet X t)
    (ha : ∀ v, assign (.Subscript o i pos) X.env v = (do
      let ov ← holding [v] (eval o X.env)
      let iv ← holding [v, ov] (eval i X.env)
      standAt pos
      holding [v, ov, iv] (setItem ov iv v)
      release [v, ov, iv] []) := by intro _; rfl) : PG X (.Subscript o i pos) (gSub to ti t) := by
  intro pins s σ H v u Q I r h
  rw [ha]
  refine wpAny_bind (wpAny_holding (thn (ho pins s σ H _ I h) fun ov s1 ⟨x, H1, I1, r1, q1⟩ => ?_))
  refine wpAny_bind (wpAny_holding (thn (hi pins s1 σ H1 _ I1 q1) fun iv s2 ⟨y, H2, I2, r2, q2⟩ => ?_))
  refine wpAny_bind (wpAny_standAt (wpAny_bind (wpAny_holding (thn (hs pins s2 σ H2 x y v ov iv u _ I2 r1 r2 r q2) fun _ s3 ⟨H3, I3, q3⟩ => ?_))))
  exact wpAny_release ⟨σ, H3, I3, q3⟩
/-- target = value -/
def tAsg (te : TE) (g : TG) : TS := fun D σ H => te σ H fun x H1 => g x σ H1 D.nx
theorem ps_asg {tg e : Expr} {te : TE} {g : TG} (he : PE X e te) (hg : PG X tg g) (hs : swapsWithSole [tg] e pos.line X.env = pure false := by rfl) (hw : swappedStores [tg] e X.env = pure none := by rfl)
    (h1 : (assignEach [tg] X.env).map (·.2) = [assign tg X.env] := by rfl) : PS X (.Assign [tg] e pos) (tAsg te g) := by
  intro pins s σ H D I h
  refine wpAny_Assign_stores (thn (he pins s σ H _ I h) fun v s1 ⟨x, H1, I1, r1, q1⟩ => ?_) hs hw
  rw [h1]
  exact thn (hg pins s1 σ H1 x v _ I1 r1 q1) fun _ s2 q => q
/-- name = value -/
theorem ps_set {i : Nat} {x : Str} {e : Expr} {te : TE} {pos' : Pos} (hN : X.N.Nodup) (hi : X.N[i]? = some x) (hx : Loc X.env.scope x) (he : PE X e te) (hs : swapsWith e (some (.Name x pos')) pos.line X.env = pure false := by rfl) (hf : X.fn x = true ∨ X.env.scope.names.lookup x = some .local := by first | exact .inl rfl | exact .inr rfl | assumption) :
    PS X (.Assign [.Name x pos'] e pos) (tAsg te (gName i)) := by
  intro pins s σ H D I h
  refine wpAny_Assign_Name (thn (he pins s σ H _ I h) fun v s1 ⟨y, H1, I1, r1, q1⟩ => ?_) hs
  exact store_ok I1 hN hi hx r1 (fun s2 I2 => ⟨_, H1, I2, q1⟩) hf
end

/-! ### while -/
section
variable {X : Cx} {pos : Pos}
/-- the invariant W with its measure -/
def tWhile (c : TT) (tb : TS) : TS := fun D σ H => ∃ W : Nat → St → Hp → Prop, (∃ m, W m σ H) ∧ ∀ m σ H, W m σ H →
  c σ H fun b H1 => if b = true then ∃ N : St → Hp → Prop, (∀ σ' H', N σ' H' → ∃ m', m' < m ∧ W m' σ' H') ∧ tb { D with nx := N, ct := N, bk := D.nx } σ H1 else D.nx σ H1
theorem ps_while {c : Expr} {body : List Stmt} {tc : TT} {tb : TS} (hp : PassesOwn (model X.prog X.w) X.A X.env X.xe) (hc : PT X c tc) (hb : PSs X body tb) : PS X (.While c body [] pos) (tWhile tc tb) := by
  intro pins s σ H D I h
  obtain ⟨W, ⟨m0, w0⟩, turn⟩ := h
  refine wpAny_While (codeAny_whileLoop (fun n s' => ∃ σ' H', Inv X pins σ' H' s' ∧ W n σ' H') ?_ m0 ⟨σ, H, I, w0⟩)
  rintro n s1 ⟨σ1, H1, I1, w1⟩
  refine wpAny_passesOwn hp (thn (hc pins s1 σ1 H1 _ I1 (turn n σ1 H1 w1)) fun b s2 ⟨H2, I2, q2⟩ => ?_)
  cases b with
  | true =>
    obtain ⟨N, hN, q2⟩ := q2
    rw [if_pos rfl]
    refine wpAny_passesOwn hp (thn (hb pins s2 σ1 H2 _ I2 q2) fun f s3 q3 => ?_)
    cases f with
    | next =>
      obtain ⟨σ3, H3, I3, n3⟩ := q3
      obtain ⟨m', hm, w3⟩ := hN σ3 H3 n3
      exact ⟨m', hm, σ3, H3, I3, w3⟩
    | cont =>
      obtain ⟨σ3, H3, I3, n3⟩ := q3
      obtain ⟨m', hm, w3⟩ := hN σ3 H3 n3
      exact ⟨m', hm, σ3, H3, I3, w3⟩
    | brk => exact q3
    | ret v => exact q3
  | false =>
    rw [if_neg Bool.false_ne_true]
    exact wpAny_execs_nil ⟨σ1, H2, I2, q2⟩
end

/-! ### what a loop or a comprehension walks -/
/-- at turn i: it yields x (the heap may grow), or it stops -/
structure It where
  go : Nat → Hp → Prop
  yld : Nat → Hp → V → Hp → Prop
  stop : Nat → Hp → Prop
/-- the iterator's own objects may turn: they are not the frame's, not pinned, younger than the entry (or a comprehension's own) -/
def FpOk (X : Cx) (pins : List (Addr × Obj)) (H : Hp) (b : Addr) : Prop :=
  H b = none ∧ b ≠ X.env.locals ∧ b ∉ X.fs ∧ (b ∈ X.ex ∨ X.s₀.heap.objs.size ≤ b) ∧ (∀ x c, X.env.cells.lookup x = some c → c ≠ b) ∧ ∀ p ∈ X.pn ++ pins, p.1 ≠ b
theorem Inv.fpOk {X : Cx} {pins : List (Addr × Obj)} {σ : St} {H H' : Hp} {s : Shared} {b : Addr} (I : Inv X pins σ H s) (hb : s.heap.objs.size ≤ b) (hn : H' b = none) : FpOk X pins H' b := by
  refine ⟨hn, Nat.ne_of_gt (Nat.lt_of_lt_of_le I.lt hb), I.nofs hb, .inr (Nat.le_trans I.sz hb), fun x c e z => ?_, fun p hp z => ?_⟩
  · obtain ⟨v, q⟩ := I.cell x c e
    exact absurd (Nat.lt_of_lt_of_le q.lt (by rw [z]; exact hb)) (Nat.lt_irrefl _)
  · exact absurd (Nat.lt_of_lt_of_le (Heap.lt_size (I.pin p hp).1) (by rw [z]; exact hb)) (Nat.lt_irrefl _)
structure Turn (P : Program) (w : World) (K : PySem.W.Frag) (tg : Expr) (J : It) (fp : List Addr) (it : Addr) (tn : Nat → Heap → Prop) : Prop where
  mem : it ∈ fp
  obj : ∀ i h, tn i h → ∀ b ∈ fp, ∃ o, h.get? b = some o ∧ ∀ v, o.data ≠ .cell v
  keep : ∀ i h h', tn i h → (∀ b ∈ fp, ∀ o, h.get? b = some o → h'.get? b = some o) → tn i h'
  item : ∀ (X : Cx), X.prog = P → X.w = w → X.K = K → X.calm = true → ∀ (i : Nat) (pins : List (Addr × Obj)) (s : Shared) (σ : St) (H : Hp) (E : Value → Shared → Prop), Inv X pins σ H s → (∀ b ∈ fp, FpOk X pins H b) → tn i s.heap → J.go i H →
    wpAny (model P w) X.A (pyNext (.ref it)) (fun r s1 => ∃ u, r = some u ∧
      wpAny (model P w) X.A (letOwnedTupleGo tg (.ref it) u) (fun _ s2 => ∃ x H', Inv X pins σ H' s2 ∧ RelV x u ∧ J.yld i H x H' ∧ tn (i + 1) s2.heap ∧ ∀ b ∈ fp, H' b = none) E s1) E s
  done : ∀ (X : Cx), X.prog = P → X.w = w → X.K = K → X.calm = true → ∀ (i : Nat) (pins : List (Addr × Obj)) (s : Shared) (σ : St) (H : Hp) (E : Value → Shared → Prop), Inv X pins σ H s → (∀ b ∈ fp, FpOk X pins H b) → tn i s.heap → J.stop i H →
    wpAny (model P w) X.A (pyNext (.ref it)) (fun r s1 => r = none ∧ Inv X pins σ H s1) E s
  self : ∀ (A : Around) (i : Nat) (s : Shared) (Q : Value → Shared → Prop) (E : Value → Shared → Prop), tn i s.heap → Q (.ref it) s → wpAny (model P w) A (pyIter (.ref it)) Q E s
abbrev TI := St → Hp → (It → Hp → Prop) → Prop
/-- an iterator has come -/
def PIE (X : Cx) (pins : List (Addr × Obj)) (σ : St) (tg : Expr) (R : It → Hp → Prop) (itv : Value) (s2 : Shared) : Prop :=
  ∃ (it : Addr) (fp : List Addr) (tn : Nat → Heap → Prop) (J : It) (H' : Hp), itv = .ref it ∧ Inv X pins σ H' s2 ∧ Turn X.prog X.w X.K tg J fp it tn ∧ tn 0 s2.heap ∧ (∀ b ∈ fp, FpOk X pins H' b) ∧ R J H'
def PI (X : Cx) (tg iter : Expr) (wi : TI) : Prop :=
  ∀ (pins : List (Addr × Obj)) (s : Shared) (σ : St) (H : Hp) (R : It → Hp → Prop), Inv X pins σ H s → wi σ H R →
    wpAny (model X.prog X.w) X.A (eval iter X.env) (fun v s1 => wpAny (model X.prog X.w) X.A (pyIter v) (PIE X pins σ tg R) X.xe s1) X.xe s

/-- the step ahead of the store is nothing for an iterator that keeps no tuple -/
theorem go_of {M : Model} {A : Around} {E : Value → Shared → Prop} {s : Shared} {tg : Expr} {it : Addr} {u : Value} {o : Obj} {n : String} {vs : Array Value} {Q : Unit → Shared → Prop} (ho : s.heap.get? it = some o) (hc : o.cls = .type n) (hd : o.data = .fields vs)
    (hn : ["enumerate", "zip", "dict_itemiterator", "dict_reverseitemiterator", "odict_iterator", "itertools.zip_longest", "itertools.pairwise"].contains n = false) (hQ : Q () s) : wpAny M A (letOwnedTupleGo tg (.ref it) u) Q E s := by
  unfold letOwnedTupleGo
  cases tg <;> first
    | exact wpAny_pure hQ
    | (cases u <;> first
        | exact wpAny_pure hQ
        | (refine wpAny_bind (wpAny_load ho ?_)
           rw [hc, hd]
           show wpAny M A (if (["enumerate", "zip", "dict_itemiterator", "dict_reverseitemiterator", "odict_iterator", "itertools.zip_longest", "itertools.pairwise"].contains n && vs[0]? == some (rawInt _)) = true then _ else _) Q E s
           rw [if_neg (by intro h; rw [hn, Bool.false_and] at h; cases h)]
           exact wpAny_pure hQ))

/-- the list at a, as it stands at each turn (a loop may append to it) -/
def Itl (K : PySem.W.Frag) (a : Addr) : It :=
  ⟨fun i H => ∃ xs x, SqL K H a xs ∧ xs[i]? = some x, fun i H x H' => H' = H ∧ ∀ xs, SqL K H a xs → xs[i]? = some x, fun i H => ∃ xs, SqL K H a xs ∧ xs.length ≤ i⟩
/-- lo, lo + 1, .. (n of them) -/
def Itr (lo : Int) (n : Nat) : It := ⟨fun i _ => i < n, fun i H x H' => H' = H ∧ x = .int (lo + i), fun i _ => n ≤ i⟩
theorem turn_list {P : Program} {w : World} {K : PySem.W.Frag} {tg : Expr} (a it : Addr) : Turn P w K tg (Itl K a) [it] it (fun i h => h.IsListIter it a i) where
  mem := by simp
  obj := fun i h st b hb => by
    have e : b = it := by simpa using hb
    subst e
    obtain ⟨o, e, c, d⟩ := st
    exact ⟨o, e, fun v z => by rw [d] at z; cases z⟩
  keep := fun i h h' st k => st.at fun o e => k it (by simp) o e
  item := by
    intro X hP hw hK hc i pins s σ H E I hf st hg
    subst hP hw hK
    obtain ⟨xs, x, hq, hx⟩ := hg
    obtain ⟨its, rv, p, hz⟩ := I.list hq
    obtain ⟨u, hu, ru⟩ := rv.get hx
    obtain ⟨f0, f1, f2, f3, f4, f5⟩ := hf it (by simp)
    refine wpAny_pyNext_list_item st p.isList (x := u) (by simpa using hu) fun h' st' sb => ?_
    have I1 : Inv X pins σ H { s with heap := h' } := I.turned (t' := s.toks) (fun b o hb e => (sb.2 b hb).trans e) f0 f1 f3 f4 f5
    obtain ⟨o, e, c, d⟩ := id st'
    exact ⟨u, rfl, go_of (s := { s with heap := h' }) e c d (by decide) ⟨x, H, I1, ru, ⟨rfl, fun ys hy => by rw [I.list_inj hy hq]; exact hx⟩, st', fun b hb => (hf b hb).1⟩⟩
  done := by
    intro X hP hw hK hc i pins s σ H E I hf st hg
    subst hP hw hK
    obtain ⟨xs, hq, hx⟩ := hg
    obtain ⟨its, rv, p, hz⟩ := I.list hq
    obtain ⟨f0, f1, f2, f3, f4, f5⟩ := hf it (by simp)
    have hl := rv.length
    exact wpAny_pyNext_list_end (I.ok.hd hc) st p.isList (by simp; omega) fun h' eb => ⟨rfl, I.turned (t' := s.toks) (fun b o hb e => eb b o hb e) f0 f1 f3 f4 f5⟩
  self := fun _ _ _ _ _ st h => wpAny_pyIter_listiter st h
theorem turn_range {P : Program} {w : World} {K : PySem.W.Frag} {tg : Expr} (it : Addr) (lo : Int) (n : Nat) : Turn P w K tg (Itr lo n) [it] it (fun i h => IsRangeIter h it (lo + (i : Nat) * 1) ((n : Int) - (i : Nat)) 1) where
  mem := by simp
  obj := fun i h st b hb => by
    have e : b = it := by simpa using hb
    subst e
    exact ⟨_, st, fun v z => by
      have z' : Data.fields _ = Data.cell v := z
      cases z'⟩
  keep := fun i h h' st k => k it (by simp) _ st
  item := by
    intro X hP hw hK hc i pins s σ H E I hf st hg
    subst hP hw hK
    obtain ⟨f0, f1, f2, f3, f4, f5⟩ := hf it (by simp)
    have W := Walks.range (prog := X.prog) (w := X.w) (I.ok.hd hc) it lo 1 n
    refine W.item i s _ _ hg st fun v h' tk hv st' kk => ?_
    obtain ⟨t, rfl⟩ := hv
    have I1 : Inv X pins σ H { s with heap := h', toks := tk } := I.turned (fun b o hb e => kk b o (by simpa using hb) e) f0 f1 f3 f4 f5
    refine ⟨_, rfl, go_of (s := { s with heap := h', toks := tk }) (n := "range_iterator") st' rfl rfl (by decide) ⟨.int (lo + i), H, I1, ⟨t, ?_⟩, ⟨rfl, rfl⟩, st', fun b hb => (hf b hb).1⟩⟩
    rw [Int.mul_one]
  done := by
    intro X hP hw hK hc i pins s σ H E I hf st hg
    subst hP hw hK
    obtain ⟨f0, f1, f2, f3, f4, f5⟩ := hf it (by simp)
    exact wpAny_pyNext_range_end (I.ok.hd hc) st (by have : n ≤ i := hg; omega) fun h' eb => ⟨rfl, I.turned (t' := s.toks) (fun b o hb e => eb b o hb e) f0 f1 f3 f4 f5⟩
  self := fun _ _ _ _ _ st h => wpAny_pyIter_rangeiter st h
end L2

namespace L2
open PySem PySem.Spec PyProof.Rows
section
variable {X : Cx} {tg : Expr}
def iList (K : PySem.W.Frag) (tl : TE) : TI := fun σ H R => tl σ H fun x H1 => ∃ a, x = .ref a ∧ (∃ xs, SqL K H1 a xs) ∧ R (Itl K a) H1
theorem pi_list {l : Expr} {tl : TE} (hl : PE X l tl) : PI X tg l (iList X.K tl) := by
  intro pins s σ H R I h
  refine thn (hl pins s σ H _ I h) fun v s1 ⟨x, H1, I1, r1, q1⟩ => ?_
  obtain ⟨a, e, ⟨xs, hq⟩, q⟩ := q1
  subst e
  cases r1
  obtain ⟨its, rv, p, hz⟩ := I1.list hq
  refine wpAny_pyIter_list p.isList ?_
  refine ⟨s1.heap.objs.size, [s1.heap.objs.size], _, _, H1, rfl, I1.kept (t' := s1.toks) fun b o e => Heap.get?_push_of_some _ e, turn_list a _, ⟨_, Heap.get?_push_size _ rfl, rfl, rfl⟩, fun b hb => ?_, q⟩
  have e : b = s1.heap.objs.size := by simpa using hb
  subst e
  exact I1.fpOk (Nat.le_refl _) (I1.hok.fresh (Nat.le_refl _))
/-- a range object just made, walked -/
theorem range_it {pins : List (Addr × Obj)} {σ : St} {H : Hp} {s : Shared} {R : It → Hp → Prop} {E : Value → Shared → Prop} {lo hi : Int} {t u v : Tok} {tk : Nat} (I : Inv X pins σ H s) (h1 : -(2 ^ 62) ≤ lo) (h2 : lo < 2 ^ 62) (h3 : -(2 ^ 62) ≤ hi) (h4 : hi < 2 ^ 62)
    (q : R (Itr lo (hi - lo).toNat) H) : wpAny (model X.prog X.w) X.A (pyIter (.ref s.heap.objs.size)) (PIE X pins σ tg R) E { s with heap := s.heap.push { cls := .type "range", data := .fields #[.int lo t, .int hi u, .int 1 v] }, toks := tk } := by
  refine wpAny_pyIter_range (IsRange.new ..) (small_one h1 h2 h3 h4) ?_
  have I1 : Inv X pins σ H { s with heap := s.heap.push { cls := .type "range", data := .fields #[.int lo t, .int hi u, .int 1 v] }, toks := tk } := I.kept fun b o e => Heap.get?_push_of_some _ e
  refine ⟨(s.heap.push { cls := .type "range", data := .fields #[.int lo t, .int hi u, .int 1 v] }).objs.size, [(s.heap.push { cls := .type "range", data := .fields #[.int lo t, .int hi u, .int 1 v] }).objs.size], _, _, H, rfl,
    I1.kept (t' := tk) fun b o e => Heap.get?_push_of_some _ e, turn_range _ lo (hi - lo).toNat, ?_, fun b hb => ?_, q⟩
  · have e1 : lo + ((0 : Nat) : Int) * 1 = lo := by simp
    have e2 : (((hi - lo).toNat : Nat) : Int) - ((0 : Nat) : Int) = Builtin.Range.rangeSize lo hi 1 := by rw [rangeSize_one]; split <;> omega
    show IsRangeIter _ _ (lo + ((0 : Nat) : Int) * 1) ((((hi - lo).toNat : Nat) : Int) - ((0 : Nat) : Int)) 1
    rw [e1, e2]
    exact Heap.get?_push_size _ rfl
  · have e : b = (s.heap.push { cls := .type "range", data := .fields #[.int lo t, .int hi u, .int 1 v] }).objs.size := by simpa using hb
    subst e
    exact I1.fpOk (Nat.le_refl _) (I1.hok.fresh (Nat.le_refl _))
def iRng1 (ta : TA) : TI := fun σ H R => ta σ H fun vs H1 => ∃ j : Int, vs = [.int j] ∧ -(2 ^ 62) ≤ j ∧ j < 2 ^ 62 ∧ R (Itr 0 j.toNat) H1
theorem pi_range1 {a : Expr} {ta : TA} {p pos : Pos} (hg : Gl X "range") (hm : X.mg "range" = none) (ha : PA X [a] ta) (hs : starEach [a] X.env = [(false, eval a X.env)] := by rfl) : PI X tg (.Call (.Name "range" p) [a] [] pos) (iRng1 ta) := by
  intro pins s σ H R I h
  refine Call_ (ld_blt I hg hm boot_range (PyProof.Rows.callWith_type1 (thn (ha pos pins s σ H _ I h) fun us s1 ⟨vs, H1, I1, r1, q1⟩ => ?_) hs rfl))
  obtain ⟨j, e, q1, q2, q⟩ := q1
  subst e
  cases r1 with
  | cons r rr =>
    cases rr
    obtain ⟨t, rfl⟩ := r
    exact call_range_1 (range_it I1 (by omega) (by omega) q1 q2 (by simpa using q))
/-! ### for -/
/-- W: the invariant by the turn and a measure; N: what the body is to reach -/
def tFor (wi : TI) (g : TG) (tb : TS) : TS := fun D σ H => wi σ H fun J H1 => ∃ W : Nat → Nat → St → Hp → Prop, (∃ m, W 0 m σ H1) ∧ ∀ i m σ H, W i m σ H →
  (J.stop i H ∧ D.nx σ H) ∨ (J.go i H ∧ ∃ N : St → Hp → Prop, (∀ σ' H', N σ' H' → ∃ m', m' < m ∧ W (i + 1) m' σ' H') ∧ ∀ x H', J.yld i H x H' → g x σ H' fun σ2 H2 => tb { D with nx := N, ct := N, bk := D.nx } σ2 H2)
/-- the records at fp as they stand -/
def pinsAt (fp : List Addr) (h : Heap) : List (Addr × Obj) := fp.filterMap fun b => (h.get? b).map fun o => (b, o)
theorem mem_pinsAt {fp : List Addr} {h : Heap} {b : Addr} {o : Obj} (hb : b ∈ fp) (e : h.get? b = some o) : (b, o) ∈ pinsAt fp h := List.mem_filterMap.mpr ⟨b, hb, by rw [e]; rfl⟩
theorem of_pinsAt {fp : List Addr} {h : Heap} {p : Addr × Obj} (hp : p ∈ pinsAt fp h) : p.1 ∈ fp ∧ h.get? p.1 = some p.2 := by
  obtain ⟨b, hb, e⟩ := List.mem_filterMap.mp hp
  cases q : h.get? b with
  | none => rw [q] at e; cases e
  | some o =>
    rw [q] at e
    have e' : (b, o) = p := Option.some.inj e
    subst e'
    exact ⟨hb, q⟩
theorem Inv.pinned {pins : List (Addr × Obj)} {σ : St} {H : Hp} {s : Shared} {fp : List Addr} (I : Inv X pins σ H s) (hf : ∀ b ∈ fp, FpOk X pins H b) (ho : ∀ b ∈ fp, ∃ o, s.heap.get? b = some o ∧ ∀ v, o.data ≠ .cell v) : Inv X (pins ++ pinsAt fp s.heap) σ H s :=
  I.pins_of fun p hp => (List.mem_append.mp hp).elim (fun z => I.pin p (List.mem_append_right _ z)) fun z => by
    obtain ⟨hb, e⟩ := of_pinsAt z
    obtain ⟨f0, f1, f2, _⟩ := hf p.1 hb
    obtain ⟨o, e', d⟩ := ho p.1 hb
    rw [e] at e'; cases e'
    exact ⟨e, f0, f1, f2, d⟩
theorem Inv.unpinned {pins pl : List (Addr × Obj)} {σ : St} {H : Hp} {s : Shared} (I : Inv X (pins ++ pl) σ H s) : Inv X pins σ H s := I.pins_of fun p hp => I.pin p (List.mem_append_right _ (List.mem_append_left _ hp))
theorem ps_for {iter : Expr} {body : List Stmt} {wi : TI} {g : TG} {tb : TS} {pos : Pos} (hp : PassesOwn (model X.prog X.w) X.A X.env X.xe) (hc : X.calm = true) (hi : PI X tg iter wi) (hg : PG X tg g) (hb : PSs X body tb)
    (hs : ∀ x, foldedSetIterable iter X.env x = pure x := by intro _; rfl) : PS X (.For tg iter body [] pos) (tFor wi g tb) := by
  intro pins s σ H D I h
  refine wpAny_For (thn (hi pins s σ H _ I h) fun v s1 h1 => thn h1 fun itv s2 h2 => ?_) hs
  obtain ⟨it, fp, tn, J, H2, e, I2, T, st2, f2, W, ⟨m0, w0⟩, turn⟩ := h2
  subst e
  -- what stays true of the iterator's objects through the loop
  have stat : ∀ {H' : Hp}, (∀ b ∈ fp, H' b = none) → ∀ b ∈ fp, FpOk X pins H' b := fun hn b hb => ⟨hn b hb, (f2 b hb).2⟩
  refine codeAny_forLoop_any (fun n s' => ∃ i σ' H', Inv X pins σ' H' s' ∧ tn i s'.heap ∧ (∀ b ∈ fp, H' b = none) ∧ W i n σ' H') ?_ m0 ⟨0, σ, H2, I2, st2, fun b hb => (f2 b hb).1, w0⟩
  rintro n s3 ⟨i, σ3, H3, I3, st3, fr3, w3⟩
  rcases turn i n σ3 H3 w3 with ⟨stop, qn⟩ | ⟨go, N, hN, step⟩
  · refine wpAny_passesOwn hp (thn (T.done X rfl rfl rfl hc i pins s3 σ3 H3 X.xe I3 (stat fr3) st3 stop) fun r s4 ⟨hr, I4⟩ => ?_)
    subst hr
    exact wpAny_execs_nil ⟨σ3, H3, I4, qn⟩
  · refine wpAny_passesOwn hp (thn (T.item X rfl rfl rfl hc i pins s3 σ3 H3 X.xe I3 (stat fr3) st3 go) fun r s4 ⟨u, hr, h4⟩ => ?_)
    subst hr
    refine wpAny_passesOwn hp (thn h4 fun _ s5 ⟨x, H5, I5, r5, y5, st5, fr5⟩ => ?_)
    have I5' := I5.pinned (stat fr5) (T.obj _ _ st5)
    refine wpAny_passesOwn hp (thn (hg _ s5 σ3 H5 x u _ I5' r5 (step x H5 y5)) fun _ s6 ⟨σ6, H6, I6, q6⟩ => ?_)
    refine wpAny_passesOwn hp (thn (hb _ s6 σ6 H6 _ I6 q6) fun f s7 q7 => ?_)
    have again : ∀ {σ7 : St} {H7 : Hp}, Inv X (pins ++ pinsAt fp s5.heap) σ7 H7 s7 → N σ7 H7 → ∃ m, m < n ∧ ∃ i σ' H', Inv X pins σ' H' s7 ∧ tn i s7.heap ∧ (∀ b ∈ fp, H' b = none) ∧ W i m σ' H' := fun {σ7 H7} I7 n7 => by
      obtain ⟨m', hm, w7⟩ := hN σ7 H7 n7
      refine ⟨m', hm, i + 1, σ7, H7, I7.unpinned, T.keep _ _ _ st5 fun b hb o e => (I7.pin (b, o) (List.mem_append_right _ (List.mem_append_right _ (mem_pinsAt hb e)))).1, fun b hb => ?_, w7⟩
      obtain ⟨o, e, d⟩ := T.obj _ _ st5 b hb
      exact (I7.pin (b, o) (List.mem_append_right _ (List.mem_append_right _ (mem_pinsAt hb e)))).2.1
    cases f with
    | next => obtain ⟨σ7, H7, I7, n7⟩ := q7; exact again I7 n7
    | cont => obtain ⟨σ7, H7, I7, n7⟩ := q7; exact again I7 n7
    | brk => obtain ⟨σ7, H7, I7, q7⟩ := q7; exact ⟨σ7, H7, I7.unpinned, q7⟩
    | ret v => obtain ⟨x7, σ7, H7, I7, r7, q7⟩ := q7; exact ⟨x7, σ7, H7, I7.unpinned, r7, q7⟩
end

/-! ### the forms one uses -/
/-- over a list that the body leaves as it is -/
theorem for_list {K : PySem.W.Frag} {a : Addr} {xs : List V} {g : TG} {tb : TS} {D : Ends} {σ : St} {H : Hp} (Pv : Nat → St → Hp → Prop) (h0 : Pv 0 σ H) (hl : ∀ i σ H, i ≤ xs.length → Pv i σ H → SqL K H a xs)
    (hs : ∀ i x σ H, xs[i]? = some x → Pv i σ H → g x σ H fun σ2 H2 => tb { D with nx := Pv (i + 1), ct := Pv (i + 1), bk := D.nx } σ2 H2) (hd : ∀ σ H, Pv xs.length σ H → D.nx σ H) :
    ∃ W : Nat → Nat → St → Hp → Prop, (∃ m, W 0 m σ H) ∧ ∀ i m σ H, W i m σ H →
      ((Itl K a).stop i H ∧ D.nx σ H) ∨ ((Itl K a).go i H ∧ ∃ N : St → Hp → Prop, (∀ σ' H', N σ' H' → ∃ m', m' < m ∧ W (i + 1) m' σ' H') ∧ ∀ x H', (Itl K a).yld i H x H' → g x σ H' fun σ2 H2 => tb { D with nx := N, ct := N, bk := D.nx } σ2 H2) := by
  refine ⟨fun i m σ H => m = xs.length - i ∧ i ≤ xs.length ∧ Pv i σ H, ⟨xs.length, by simp, Nat.zero_le _, h0⟩, ?_⟩
  rintro i m σ H ⟨rfl, hi, p⟩
  have q := hl i σ H hi p
  by_cases hlt : i < xs.length
  · refine .inr ⟨⟨xs, xs[i], q, by simp [hlt]⟩, Pv (i + 1), fun σ' H' p' => ⟨xs.length - (i + 1), by omega, rfl, hlt, p'⟩, fun x H' y => ?_⟩
    obtain ⟨e, y⟩ := y
    subst e
    exact hs i x σ _ (y xs q) p
  · have e : i = xs.length := by omega
    subst e
    exact .inl ⟨⟨xs, q, Nat.le_refl _⟩, hd σ H p⟩
end L2

namespace L2
open PySem PySem.Spec PyProof.Rows

abbrev R2 := V → V → Hp → VK → Prop
/-- a two-place operation on values: f is binaryOp op, inplaceOp op or compareOp op -/
def OpR (X : Cx) (f : Value → Value → Sem Value) (r : R2) : Prop :=
  ∀ (pins : List (Addr × Obj)) (s : Shared) (σ : St) (H : Hp) (x y : V) (v u : Value) (Q : VK), Inv X pins σ H s → RelV x v → RelV y u → r x y H Q →
    wpAny (model X.prog X.w) X.A (f v u) (EP X pins σ Q) X.xe s
/-- a one-place operation -/
def UnR (X : Cx) (f : Value → Sem Value) (r : V → Hp → VK → Prop) : Prop :=
  ∀ (pins : List (Addr × Obj)) (s : Shared) (σ : St) (H : Hp) (x : V) (v : Value) (Q : VK), Inv X pins σ H s → RelV x v → r x H Q →
    wpAny (model X.prog X.w) X.A (f v) (EP X pins σ Q) X.xe s
/-- a call of a value that is known (a builtin, a type) with values -/
def CallR (X : Cx) (f : Value) (r : List V → Hp → VK → Prop) : Prop :=
  ∀ (pins : List (Addr × Obj)) (s : Shared) (σ : St) (H : Hp) (xs : List V) (us : List Value) (Q : VK), Inv X pins σ H s → Vals xs us → r xs H Q →
    wpAny (model X.prog X.w) X.A (call f us) (EP X pins σ Q) X.xe s
def tOp (r : R2) (ta tb : TE) : TE := fun σ H Q => ta σ H fun x H1 => tb σ H1 fun y H2 => r x y H2 Q
/-- ints in, under C, and a value out -/
def rI (C : Int → Int → Prop) (g : Int → Int → V) : R2 := fun x y H Q => ∃ i j, x = .int i ∧ y = .int j ∧ C i j ∧ Q (g i j) H
def rI0 (g : Int → Int → V) : R2 := fun x y H Q => ∃ i j, x = .int i ∧ y = .int j ∧ Q (g i j) H
section
variable {X : Cx} {a b c : Expr} {ta tb tc : TE} {pos : Pos}

theorem binT (ha : PE X a ta) (hb : PE X b tb) {pins : List (Addr × Obj)} {s : Shared} {σ : St} {H : Hp} {R : V → V → Hp → Prop} (I : Inv X pins σ H s)
    (h : ta σ H fun x H1 => tb σ H1 fun y H2 => R x y H2) {Q : Value → Shared → Prop} {f : Value → Value → Sem Value}
    (hf : ∀ v u s2 x y H2, Inv X pins σ H2 s2 → RelV x v → RelV y u → R x y H2 → wpAny (model X.prog X.w) X.A (f v u) Q X.xe s2) :
    wpAny (model X.prog X.w) X.A (eval a X.env) (fun v s₁ => wpAny (model X.prog X.w) X.A (eval b X.env) (fun u s₂ => wpAny (model X.prog X.w) X.A (f v u) Q X.xe s₂) X.xe s₁) X.xe s := by
  refine thn (ha pins s σ H _ I h) fun v s1 ⟨x, H1, I1, r1, q1⟩ => ?_
  refine thn (hb pins s1 σ H1 _ I1 q1) fun u s2 ⟨y, H2, I2, r2, q2⟩ => ?_
  exact hf v u s2 x y H2 I2 r1 r2 q2

theorem pe_op {op : Operator} {r : R2} (ho : OpR X (binaryOp op) r) (ha : PE X a ta) (hb : PE X b tb) : PE X (.BinOp a op b pos) (tOp r ta tb) := by
  intro pins s σ H Q I h
  exact wpAny_BinOp (binT ha hb I h fun v u s2 x y H2 I2 rx ry q => ho pins s2 σ H2 x y v u Q I2 rx ry q)
/-! ### ints -/
theorem opI {f : Value → Value → Sem Value} {C : Int → Int → Prop} {g : Int → Int → Int}
    (rule : ∀ (i j : Int) (t u : Tok) (s : Shared) (Q : Value → Shared → Prop) (E : Value → Shared → Prop), C i j → Q (.int (g i j) s.toks) { s with toks := s.toks + 1 } → wpAny (model X.prog X.w) X.A (f (.int i t) (.int j u)) Q E s) :
    OpR X f (rI C fun i j => .int (g i j)) := by
  intro pins s σ H x y v u Q I rx ry h
  obtain ⟨i, j, rfl, rfl, hc, q⟩ := h
  obtain ⟨t, rfl⟩ := rx
  obtain ⟨t', rfl⟩ := ry
  exact rule i j t t' s _ _ hc ⟨.int (g i j), H, I.tok _, ⟨_, rfl⟩, q⟩
theorem opI0 {f : Value → Value → Sem Value} {g : Int → Int → Int}
    (rule : ∀ (i j : Int) (t u : Tok) (s : Shared) (Q : Value → Shared → Prop) (E : Value → Shared → Prop), Q (.int (g i j) s.toks) { s with toks := s.toks + 1 } → wpAny (model X.prog X.w) X.A (f (.int i t) (.int j u)) Q E s) :
    OpR X f (rI0 fun i j => .int (g i j)) := by
  intro pins s σ H x y v u Q I rx ry h
  obtain ⟨i, j, rfl, rfl, q⟩ := h
  obtain ⟨t, rfl⟩ := rx
  obtain ⟨t', rfl⟩ := ry
  exact rule i j t t' s _ _ ⟨.int (g i j), H, I.tok _, ⟨_, rfl⟩, q⟩
theorem opB0 {f : Value → Value → Sem Value} {g : Int → Int → Bool}
    (rule : ∀ (i j : Int) (t u : Tok) (s : Shared) (Q : Value → Shared → Prop) (E : Value → Shared → Prop), Q (.bool (g i j)) s → wpAny (model X.prog X.w) X.A (f (.int i t) (.int j u)) Q E s) :
    OpR X f (rI0 fun i j => .bl (g i j)) := by
  intro pins s σ H x y v u Q I rx ry h
  obtain ⟨i, j, rfl, rfl, q⟩ := h
  obtain ⟨t, rfl⟩ := rx
  obtain ⟨t', rfl⟩ := ry
  exact rule i j t t' s _ _ ⟨.bl (g i j), H, I, rfl, q⟩

def CDiv (i j : Int) : Prop := 0 < j ∧ j < 1073741824
def CPow (i j : Int) : Prop := 0 ≤ j ∧ j ≤ 1000000 ∧ i.natAbs < 2 ^ 64
def CMul (i j : Int) : Prop := (-(2 ^ 64) < i ∧ i < 2 ^ 64) ∨ (-(2 ^ 64) < j ∧ j < 2 ^ 64)
theorem CMul.ok {i j : Int} (h : CMul i j) : IntMulOk i j := by
  rcases h with ⟨h1, h2⟩ | ⟨h1, h2⟩
  · exact .of_left (intBits_le_64 h1 h2)
  · exact .of_right (intBits_le_64 h1 h2)
theorem op_add : OpR X (binaryOp .Add) (rI0 fun i j => .int (i + j)) := opI0 fun _ _ _ _ _ _ _ q => add_int q
theorem op_sub : OpR X (binaryOp .Sub) (rI0 fun i j => .int (i - j)) := opI0 fun _ _ _ _ _ _ _ q => sub_int q
theorem op_mul : OpR X (binaryOp .Mult) (rI CMul fun i j => .int (i * j)) := opI fun _ _ _ _ _ _ _ hc q => mul_int q hc.ok
/-- // by a positive divisor -/
theorem op_fdiv : OpR X (binaryOp .FloorDiv) (rI CDiv fun i j => .int (i / j)) := opI fun i j _ _ _ _ _ hc q => by
  have h1 : (0 : Int) < j := hc.1
  have h2 : j < 1073741824 := hc.2
  exact floordiv_int (by omega) (by rw [Int.fdiv_eq_ediv_of_nonneg i (by omega)]; exact q) (.inl (PyProof.noPylong_small (by omega)))
/-- % by a positive divisor of any size -/
theorem op_mod : OpR X (binaryOp .Mod) (rI (fun _ j => 0 < j) fun i j => .int (i % j)) := opI fun i j _ _ _ _ _ hc q => by
  have h1 : (0 : Int) < j := hc
  exact mod_int' (by omega) (by rw [Int.fmod_eq_emod_of_nonneg i (by omega)]; exact q)
theorem op_pow : OpR X (binaryOp .Pow) (rI CPow fun i j => .int (i ^ j.toNat)) := opI fun _ _ _ _ _ _ _ hc q => pow_int_small hc.1 hc.2.1 hc.2.2 q
/-! ### bools among ints: n += (a < b) -/
end

/-! ### comparisons -/
/-- the scalars that == tells apart as data does -/
def scal : V → V → Bool
  | .non, .non => true | .non, .int _ => true | .int _, .non => true | .non, .bl _ => true | .bl _, .non => true | .non, .str _ => true | .str _, .non => true
  | .int _, .int _ => true | .bl _, .bl _ => true | .str _, .str _ => true | .byt _, .byt _ => true
  | .int _, .str _ => true | .str _, .int _ => true | .bl _, .str _ => true | .str _, .bl _ => true
  | _, _ => false
def rEq : R2 := fun x y H Q => scal x y = true ∧ Q (.bl (decide (x = y))) H
theorem dec_int {i j : Int} : decide (V.int i = V.int j) = (i == j) := by
  rw [Bool.eq_iff_iff]
  simp
theorem dec_bl {i j : Bool} : decide (V.bl i = V.bl j) = (i == j) := by
  rw [Bool.eq_iff_iff]
  simp
theorem dec_str {i j : Str} : decide (V.str i = V.str j) = (i == j) := by
  rw [Bool.eq_iff_iff]
  simp
theorem dec_byt {i j : Array UInt8} : decide (V.byt i = V.byt j) = (i.toList == j.toList) := by
  rw [Bool.eq_iff_iff]
  cases i
  cases j
  simp

section
variable {X : Cx} {a b c : Expr} {ta tb tc : TE} {pos : Pos}
theorem fin_bl {pins : List (Addr × Obj)} {σ : St} {H : Hp} {s : Shared} {Q : VK} {k k' : Bool} (I : Inv X pins σ H s) (q : Q (.bl k) H) (e : k = k') : EP X pins σ Q (.bool k') s := by
  subst e
  exact ⟨.bl k, H, I, rfl, q⟩
theorem op_eq : OpR X (compareOp .Eq) rEq := by
  intro pins s σ H x y v u Q I rx ry h
  obtain ⟨hs, q⟩ := h
  cases x with
  | non =>
    cases rx
    cases y with
    | non => cases ry; exact PySem.EqNone.eq_none_none (fin_bl I q (by simp))
    | bl j => cases ry; exact PySem.EqNone.eq_none_bool (fin_bl I q (by simp))
    | int j => obtain ⟨t', rfl⟩ := ry; exact PySem.EqNone.eq_none_int (fin_bl I q (by simp))
    | str j => obtain ⟨t', rfl⟩ := ry; exact PySem.EqNone.eq_none_str (fin_bl I q (by simp))
    | _ => exact absurd (show false = true from hs) Bool.false_ne_true
  | bl i =>
    cases rx
    cases y with
    | non => cases ry; exact PySem.EqNone.eq_bool_none (fin_bl I q (by simp))
    | bl j => cases ry; exact eq_bool (fin_bl I q dec_bl)
    | str j => obtain ⟨t', rfl⟩ := ry; exact PySem.EqMixed.eq_bool_str (fin_bl I q (by simp))
    | _ => exact absurd (show false = true from hs) Bool.false_ne_true
  | int i =>
    obtain ⟨t, rfl⟩ := rx
    cases y with
    | non => cases ry; exact PySem.EqNone.eq_int_none (fin_bl I q (by simp))
    | int j => obtain ⟨t', rfl⟩ := ry; exact eq_int (fin_bl I q dec_int)
    | str j => obtain ⟨t', rfl⟩ := ry; exact PySem.EqMixed.eq_int_str (fin_bl I q (by simp))
    | _ => exact absurd (show false = true from hs) Bool.false_ne_true
  | str i =>
    obtain ⟨t, rfl⟩ := rx
    cases y with
    | non => cases ry; exact PySem.EqNone.eq_str_none (fin_bl I q (by simp))
    | bl j => cases ry; exact PySem.EqMixed.eq_str_bool (fin_bl I q (by simp))
    | int j => obtain ⟨t', rfl⟩ := ry; exact PySem.EqMixed.eq_str_int (fin_bl I q (by simp))
    | str j => obtain ⟨t', rfl⟩ := ry; exact eq_str (fin_bl I q dec_str)
    | _ => exact absurd (show false = true from hs) Bool.false_ne_true
  | byt i =>
    obtain ⟨t, rfl⟩ := rx
    cases y with
    | byt j => obtain ⟨t', rfl⟩ := ry; exact PySem.W.eq_bytes (fin_bl I q dec_byt)
    | _ => exact absurd (show false = true from hs) Bool.false_ne_true
  | _ => cases y <;> exact absurd (show false = true from hs) Bool.false_ne_true
theorem op_lt : OpR X (compareOp .Lt) (rI0 fun i j => .bl (decide (i < j))) := opB0 fun _ _ _ _ _ _ _ q => lt_int q
theorem op_gt : OpR X (compareOp .Gt) (rI0 fun i j => .bl (decide (j < i))) := opB0 fun _ _ _ _ _ _ _ q => gt_int q
theorem op_notN : OpR X (compareOp .IsNot) (fun x y H Q => y = .non ∧ Q (.bl (!decide (x = .non))) H) := by
  intro pins s σ H x y v u Q I rx ry h
  obtain ⟨rfl, q⟩ := h
  cases ry
  refine isnot_none_gen (fin_bl I q ?_)
  cases x <;> first
    | (cases rx; rfl)
    | (obtain ⟨t, rfl⟩ := rx; rfl)

/-- two rules for one operation: by cases -/
theorem OpR.or {f : Value → Value → Sem Value} {r r' : R2} (h : OpR X f r) (h' : OpR X f r') : OpR X f (fun x y H Q => r x y H Q ∨ r' x y H Q) := by
  intro pins s σ H x y v u Q I rx ry q
  rcases q with q | q
  · exact h pins s σ H x y v u Q I rx ry q
  · exact h' pins s σ H x y v u Q I rx ry q

theorem nomark (b : Expr) {op : CmpOp} (h : op ≠ .In := by decide) (h2 : op ≠ .NotIn := by decide) : behindInMarks op b = false := by
  have e1 : (op == CmpOp.In) = false := by cases op <;> first | rfl | exact absurd rfl h
  have e2 : (op == CmpOp.NotIn) = false := by cases op <;> first | rfl | exact absurd rfl h2
  cases b <;> simp [behindInMarks, e1, e2]
/-- a comparison as a value; hm: nomark b, or (for in, not in) by with_unfolding_all rfl -/
theorem pe_cmpR {op : CmpOp} {r : R2} (ho : OpR X (compareOp op) r) (ha : PE X a ta) (hb : PE X b tb) (hm : behindInMarks op b = false) : PE X (.Compare a [op] [b] pos) (tOp r ta tb) := by
  intro pins s σ H Q I h
  exact wpAny_Compare1 (binT ha hb I h fun v u s2 x y H2 I2 rx ry q => ho pins s2 σ H2 x y v u Q I2 rx ry q) hm
/-- a reading of a value as a test -/
def tTest (t : TE) : TT := fun σ H Q => t σ H fun x H' => ∃ k, x = .bl k ∧ Q k H'
theorem pt_cmpR {op : CmpOp} {r : R2} (ho : OpR X (compareOp op) r) (ha : PE X a ta) (hb : PE X b tb) (hm : behindInMarks op b = false) : PT X (.Compare a [op] [b] pos) (tTest (tOp r ta tb)) := by
  intro pins s σ H Q I h
  refine wpAny_isTrue_Compare1 (thn (ha pins s σ H _ I h) fun v s1 ⟨x, H1, I1, r1, q1⟩ => thn (hb pins s1 σ H1 _ I1 q1) fun u s2 ⟨y, H2, I2, r2, q2⟩ =>
    thn (ho pins s2 σ H2 x y v u _ I2 r1 r2 q2) fun c s3 ⟨z, H3, I3, r3, k, e, q3⟩ => ?_) hm
  subst e
  cases r3
  exact wpAny_truthy_bool ⟨H3, I3, q3⟩
/-! ### truth -/
theorem line63 : (sizeLine : Nat) < 2 ^ 63 := by rw [sizeLine_eq]; decide
/-! ### strs and bytes -/
theorem op_add_str : OpR X (binaryOp .Add) (fun x y H Q => ∃ i j, x = .str i ∧ y = .str j ∧ i.length + j.length ≤ sizeLine ∧ Q (.str (i ++ j)) H) := by
  intro pins s σ H x y v u Q I rx ry h
  obtain ⟨i, j, rfl, rfl, hz, q⟩ := h
  obtain ⟨t, rfl⟩ := rx
  obtain ⟨t', rfl⟩ := ry
  exact add_str (fun t' tk => ⟨.str (i ++ j), H, I.tok _, ⟨_, rfl⟩, q⟩) hz
/-! ### scalar builtins, by CallR -/
theorem vals1 {x : V} {us : List Value} (r : Vals [x] us) : ∃ u, us = [u] ∧ RelV x u := by
  cases r with
  | cons r1 r2 => cases r2; exact ⟨_, rfl, r1⟩
theorem vals2 {x y : V} {us : List Value} (r : Vals [x, y] us) : ∃ u w', us = [u, w'] ∧ RelV x u ∧ RelV y w' := by
  cases r with
  | cons r1 r2 =>
    cases r2 with
    | cons r3 r4 => cases r4; exact ⟨_, _, rfl, r1, r3⟩
theorem call_max2 (hc : X.calm = true) : CallR X (.builtin "max") (fun xs H Q => ∃ i j, xs = [.int i, .int j] ∧ Q (.int (if j > i then j else i)) H) := by
  intro pins s σ H xs us Q I r h
  obtain ⟨i, j, rfl, q⟩ := h
  obtain ⟨u, w', rfl, ⟨t, rfl⟩, ⟨t', rfl⟩⟩ := vals2 r
  refine max_two_ints (I.ok.hd hc) fun h' tk k => ⟨_, H, I.kept k, ?_, q⟩
  by_cases hj : j > i
  · rw [if_pos hj, if_pos hj]; exact ⟨_, rfl⟩
  · rw [if_neg hj, if_neg hj]; exact ⟨_, rfl⟩
theorem call_int1 : CallR X (.type "int") (fun xs H Q => (∃ i, xs = [.int i] ∧ Q (.int i) H) ∨ ∃ k, xs = [.bl k] ∧ Q (.int (if k then 1 else 0)) H) := by
  intro pins s σ H xs us Q I r h
  rcases h with ⟨i, rfl, q⟩ | ⟨k, rfl, q⟩
  · obtain ⟨u, rfl, t, rfl⟩ := vals1 r
    exact call_int_int ⟨.int i, H, I, ⟨_, rfl⟩, q⟩
  · obtain ⟨u, rfl, r1⟩ := vals1 r
    cases r1
    exact call_int_bool ⟨.int (if k then 1 else 0), H, I.tok _, ⟨_, rfl⟩, q⟩
end
end L2

namespace L2
open PySem PySem.Spec PyProof.Rows

/-! ### an instance, its attributes a map -/
structure ObjM (h : Heap) (x dx C : Addr) (mA : Str → Option Value) : Prop where
  obj : h.get? x = some (PySem.W.instObj C dx)
  ns : h.Ns1 dx mA
  ne : dx ≠ x

theorem lookIn_ns {h : Heap} {dx : Addr} {mA : Str → Option Value} (n : h.Ns1 dx mA) : ∃ od, h.get? dx = some od ∧ ∀ name, PySem.W.lookIn name od = some (mA name) := by
  obtain ⟨o, es, ep, ho, hd, hk, _, hm⟩ := n
  refine ⟨o, ho, fun name => ?_⟩
  have e := hm name
  unfold nsFind findBy at e
  rw [← Array.find?_toList] at e
  unfold PySem.W.lookIn
  rw [hd]
  dsimp only
  split
  · rename_i y q
    rw [q] at e
    exact congrArg some e
  · rename_i q
    rw [q] at e
    have a : es.toList.any (·.refKey) = false := by
      rw [List.any_eq_false]
      intro y hy
      obtain ⟨z, t, hkey⟩ := hk y (Array.mem_toList_iff.mp hy)
      simp [DictEntry.refKey, hkey]
    have a' : ¬ es.toList.any (·.refKey) = true := by rw [a]; exact Bool.false_ne_true
    rw [if_neg a']
    exact congrArg some e

theorem ObjM.look {h : Heap} {x dx C : Addr} {mA : Str → Option Value} (I : ObjM h x dx C mA) : ∃ od, PySem.W.InstAt h x (PySem.W.instObj C dx) C (some od) ∧ ∀ name, PySem.W.lookIn name od = some (mA name) :=
  let ⟨od, ho, hl⟩ := lookIn_ns I.ns
  ⟨od, ⟨I.obj, rfl, rfl, ho⟩, hl⟩

section
variable {prog : Program} {w : World} {A : Around} {E : Value → Shared → Prop} {s : Shared} {K : PySem.W.Frag} {x dx C f : Addr} {mA : Str → Option Value} {name : Str} {v : Value}

theorem get_map {expr : Bool} {Q : Value → Shared → Prop} (X : K.In s.heap) (I : ObjM s.heap x dx C mA) (hg : PySem.W.plainGet K C name = true) (hh : PySem.W.hasDictIn K C = true)
    (ha : PySem.W.findIn K (.ref C) name = some none) (hv : mA name = some v) (hv' : PySem.W.handedIn v = true) (h : Q v { s with toks := s.toks + 1 }) :
    wpAny (model prog w) A (getAttr (.ref x) name expr) Q E s := by
  obtain ⟨od, J, hl⟩ := I.look
  exact PySem.W.get_value X J (PySem.W.plainGet_of hg).1 (PySem.W.findObj_own hh ha rfl (by rw [hl, hv])) hv' h

theorem get_meth {pl : Sem Bool} {Q : Value × List Value → Shared → Prop} (X : K.In s.heap) (I : ObjM s.heap x dx C mA) (hg : PySem.W.plainGet K C name = true)
    (hf : PySem.W.findIn K (.ref C) name = some (some (.ref f))) (ht : PySem.W.isFn K (.ref f) = true) (hv : mA name = none) (h : Q (.ref f, [.ref x]) s) :
    wpAny (model prog w) A (getMethod (.ref x) name pl) Q E s := by
  obtain ⟨od, J, hl⟩ := I.look
  exact PySem.W.method_fn X J (PySem.W.plainGet_of hg).1 (PySem.W.plainGet_of hg).2 hf (beq_iff_eq.mp ht) (by show (PySem.W.lookIn name od).map (·.isSome) = some false; rw [hl, hv]; rfl) h

theorem set_map {ns : List Str} {Q : Unit → Shared → Prop} (X : K.In s.heap) (I : ObjM s.heap x dx C mA)
    (hs : PySem.W.findIn K (.ref C) "__setattr__" = some (some (.builtin "object.__setattr__"))) (hp : PySem.W.plainOver K C = true) (ht : PySem.W.takerIn K C name = some none) (hh : PySem.W.hasDictIn K C = true)
    (hw : PySem.Within mA ns) (hsz : ns.length ≤ sizeLine)
    (h : ∀ h', ObjM h' x dx C (fun y => if y = name then some v else mA y) → Heap.SameBut dx s.heap h' → Q () { s with heap := h', toks := s.toks + 2 }) :
    wpAny (model prog w) A (setAttr (.ref x) name v) Q E s := by
  obtain ⟨od, J, hl⟩ := I.look
  refine PySem.W.set_plain X J hs (PySem.W.osa_open (s := { s with toks := s.toks + 1 }) (r := none) X J hp ht fun b => ?_)
  obtain ⟨cd, hc, hd'⟩ := PySem.W.any_some hh
  have hx : s.heap.get? x = some ⟨.ref C, some dx, .plain, #[]⟩ := I.obj
  refine wpAny_bind (wpAny_pure (wpAny_bind (wpAny_bind (wpAny_loadPart hx (wpAny_bind (PySem.W.Looks.here (s := { s with toks := s.toks + 1 }) (PySem.W.looks_clsIn X hc) ?_))))))
  rw [hd']
  refine wpAny_pure (a := some dx) (wpAny_bind (wpAny_pure (wpAny_bind ?_)))
  refine wpAny_nsSet1 (s := { s with toks := s.toks + 1 }) I.ns fun h' hn2 hs2 => ?_
  obtain ⟨oD, esD, epD, hoD, hdD, hcD⟩ := hn2.count (PySem.Within.cons name v hw)
  refine wpAny_bind (wpAny_lookBehind hoD (by rw [hdD]; exact pastItsLine_dict (Nat.le_trans hcD (by rw [List.length_cons]; omega))) ?_)
  exact wpAny_pure (h _ ⟨(hs2.2 _ (Ne.symm I.ne)).trans I.obj, hn2, I.ne⟩ hs2)

/-- C(..): the dict at the heap's end, the instance behind it; then its __init__ -/
theorem make_map {R : Result → Shared → Prop} {vs : List Value} {kw : List (Str × Value)} (X : K.In s.heap) (hm : PySem.W.makesIn K C = true)
    (hi : PySem.W.findIn K (.ref C) "__init__" = some (some (.ref f))) (hf : PySem.W.typeIn K (.ref f) = some (.type "function"))
    (h : codeAny (model prog w) (A.under (.builtin "type.__call__" ⟨.ref C :: vs, kw⟩)) (.call (.ref f) ⟨.ref (s.heap.objs.size + 1) :: vs, kw⟩) (PySem.W.InitBack (s.heap.objs.size + 1) R)
      { s with heap := (s.heap.push PySem.W.emptyDict).push (PySem.W.instObj C s.heap.objs.size) }) :
    codeAny (model prog w) A (.call (.ref C) ⟨vs, kw⟩) R s := by
  obtain ⟨hh, g, d, t, os⟩ := s
  exact PySem.W.make_core (PySem.W.makes_of X hm) (PySem.W.looks_findIn X hi) (fun self => PySem.W.bind_fn X self hf) (.inl rfl) h
end

/-! ### the attributes as a list of pairs -/
def putF (f : Str) (v : V) : List (Str × V) → List (Str × V)
  | [] => [(f, v)]
  | (g, x) :: r => if g = f then (g, v) :: r else (g, x) :: putF f v r
theorem lookup_putF (f g : Str) (v : V) : ∀ fs : List (Str × V), (putF f v fs).lookup g = if g = f then some v else fs.lookup g
  | [] => by
    show List.lookup g [(f, v)] = _
    by_cases h : g = f
    · have hb : (g == f) = true := beq_iff_eq.mpr h
      simp only [List.lookup, hb, if_pos h]
    · have hb : (g == f) = false := beq_eq_false_iff_ne.mpr h
      simp only [List.lookup, hb, if_neg h]
  | (k, x) :: r => by
    have ih := lookup_putF f g v r
    rw [show putF f v ((k, x) :: r) = (if k = f then (k, v) :: r else (k, x) :: putF f v r) from rfl]
    by_cases hk : k = f
    · rw [if_pos hk]
      by_cases h : g = k
      · have hb : (g == k) = true := beq_iff_eq.mpr h
        simp only [List.lookup, hb, if_pos (h.trans hk)]
      · have hb : (g == k) = false := beq_eq_false_iff_ne.mpr h
        simp only [List.lookup, hb, if_neg (fun e : g = f => h (e.trans hk.symm))]
    · rw [if_neg hk]
      by_cases h : g = k
      · have hb : (g == k) = true := beq_iff_eq.mpr h
        simp only [List.lookup, hb, if_neg (fun e : g = f => hk (h.symm.trans e))]
      · have hb : (g == k) = false := beq_eq_false_iff_ne.mpr h
        simp only [List.lookup, hb]
        exact ih
theorem keys_putF (f : Str) (v : V) : ∀ fs : List (Str × V), f ∈ (putF f v fs).map (·.1) ∧ ∀ g, g ∈ fs.map (·.1) → g ∈ (putF f v fs).map (·.1)
  | [] => ⟨by simp [putF], fun g h => by simp at h⟩
  | (k, x) :: r => by
    obtain ⟨i1, i2⟩ := keys_putF f v r
    rw [show putF f v ((k, x) :: r) = (if k = f then (k, v) :: r else (k, x) :: putF f v r) from rfl]
    by_cases hk : k = f
    · rw [if_pos hk]
      subst hk
      exact ⟨by simp, fun g h => by simpa using h⟩
    · rw [if_neg hk]
      refine ⟨?_, fun g h => ?_⟩
      · rw [List.map_cons]
        exact List.mem_cons_of_mem _ i1
      · rw [List.map_cons] at h ⊢
        rcases List.mem_cons.mp h with e | e
        · exact List.mem_cons.mpr (.inl e)
        · exact List.mem_cons_of_mem _ (i2 g e)
theorem length_putF (f : Str) (v : V) : ∀ fs : List (Str × V), (putF f v fs).length ≤ fs.length + 1
  | [] => by simp [putF]
  | (k, x) :: r => by
    have ih := length_putF f v r
    rw [show putF f v ((k, x) :: r) = (if k = f then (k, v) :: r else (k, x) :: putF f v r) from rfl]
    by_cases hk : k = f
    · rw [if_pos hk, List.length_cons, List.length_cons]; omega
    · rw [if_neg hk, List.length_cons, List.length_cons]; omega

theorem RelO.some_of {v : V} {o : Option Value} (r : RelO (some v) o) : ∃ u, o = some u ∧ RelV v u := by
  cases o with
  | none => exact (show False from r).elim
  | some u => exact ⟨u, rfl, r⟩
theorem RelO.none_of {o : Option Value} (r : RelO none o) : o = none := by
  cases o with
  | none => rfl
  | some u => exact (show False from r).elim
theorem handed_of {v : V} {u : Value} (r : RelV v u) : PySem.W.handedIn u = true := by
  cases v with
  | non => cases (show u = Value.none from r); rfl
  | bl b => cases (show u = Value.bool b from r); rfl
  | int i => obtain ⟨t, e⟩ := (show ∃ t, u = Value.int i t from r); cases e; rfl
  | str x => obtain ⟨t, e⟩ := (show ∃ t, u = Value.str x t from r); cases e; rfl
  | byt b => obtain ⟨t, e⟩ := (show ∃ t, u = Value.bytes b t from r); cases e; rfl
  | flt b => obtain ⟨t, e⟩ := (show ∃ t, u = Value.float b t from r); cases e; rfl
  | ref a => cases (show u = Value.ref a from r); rfl
  | ty n => cases (show u = Value.type n from r); rfl

section
variable {P : Program} {w : World} {H H' : Hp} {h h' : Heap} {a C dx : Addr} {fs fs' : List (Str × V)}
theorem ins_get (hok : HOk P w H h) (e : H a = some (.ins C dx fs)) : ∃ mA, ObjM h a dx C mA ∧ (∀ f, RelO (fs.lookup f) (mA f)) ∧ PySem.Within mA (fs.map (·.1)) ∧ fs.length ≤ 1000 ∧ H dx = some (.own a) := by
  obtain ⟨d, z, ne, ob, mA, n, r, q⟩ := (show ObjOk P w H h a (.ins C dx fs) from hok a _ e)
  exact ⟨mA, ⟨ob, n, ne⟩, r, q, z, d⟩
end

/-! ### what of the text a class must have -/
structure Cls (K : PySem.W.Frag) (C : Addr) : Prop where
  pg : PySem.W.plainGet K C Str.empty = true
  hd : PySem.W.hasDictIn K C = true
  po : PySem.W.plainOver K C = true
  sa : PySem.W.findIn K (.ref C) "__setattr__" = some (some (.builtin "object.__setattr__"))
theorem Cls.get {K : PySem.W.Frag} {C : Addr} (c : Cls K C) (f : Str) : PySem.W.plainGet K C f = true := c.pg
/-- no class of it has the name -/
def NoAttr (K : PySem.W.Frag) (C : Addr) (f : Str) : Prop := PySem.W.findIn K (.ref C) f = some none
theorem NoAttr.taker {K : PySem.W.Frag} {C : Addr} {f : Str} (n : NoAttr K C f) : PySem.W.takerIn K C f = some none := by
  unfold PySem.W.takerIn
  rw [show PySem.W.findIn K (.ref C) f = some none from n]
  rfl
/-- a constant of the class -/
structure Con (K : PySem.W.Frag) (C : Addr) (f : Str) (v : V) (u : Value) : Prop where
  at_ : PySem.W.findIn K (.ref C) f = some (some u)
  rel : RelV v u
  get : PySem.W.specialIn K u "__get__" = some none
  cp : PySem.W.copiedNames.contains f = false
/-- a method: a plain def of the class or of one above it -/
structure Meth (K : PySem.W.Frag) (C : Addr) (m : Str) (f : Addr) : Prop where
  at_ : PySem.W.findIn K (.ref C) m = some (some (.ref f))
  fn : PySem.W.isFn K (.ref f) = true
  kp : PySem.W.keepIn K (.ref f) = true

section
variable {X : Cx} {pins : List (Addr × Obj)} {σ : St} {H : Hp} {s : Shared} {a C dx : Addr} {fs : List (Str × V)} {f : Str} {v : V} {A : Around} {E : Value → Shared → Prop}

theorem getattr_ok {b : Bool} {Q : Value → Shared → Prop} (I : Inv X pins σ H s) (e : H a = some (.ins C dx fs)) (c : Cls X.K C) (n : NoAttr X.K C f) (l : fs.lookup f = some v)
    (h : ∀ u s', Inv X pins σ H s' → RelV v u → Q u s') : wpAny (model X.prog X.w) A (getAttr (.ref a) f b) Q E s := by
  obtain ⟨mA, O, r, _, _, _⟩ := ins_get I.hok e
  obtain ⟨u, hu, ru⟩ := RelO.some_of (v := v) (o := mA f) (by rw [← l]; exact r f)
  exact get_map I.kIn O (c.get f) c.hd n hu (handed_of ru) (h u _ (I.tok _) ru)

theorem getmeth_ok {m : Str} {g : Addr} {pl : Sem Bool} {Q : Value × List Value → Shared → Prop} (I : Inv X pins σ H s) (e : H a = some (.ins C dx fs)) (c : Cls X.K C) (k : Meth X.K C m g) (l : fs.lookup m = none)
    (h : Q (.ref g, [.ref a]) s) : wpAny (model X.prog X.w) A (getMethod (.ref a) m pl) Q E s := by
  obtain ⟨mA, O, r, _, _, _⟩ := ins_get I.hok e
  have hn : mA m = none := RelO.none_of (by rw [← l]; exact r m)
  exact get_meth I.kIn O (c.get m) k.at_ k.fn hn h

theorem setattr_ok {y : V} {u : Value} {Q : Unit → Shared → Prop} (I : Inv X pins σ H s) (e : H a = some (.ins C dx fs)) (c : Cls X.K C) (n : NoAttr X.K C f) (hl : fs.length < 1000) (ry : RelV y u)
    (h : ∀ s', Inv X pins σ (upd H a (.ins C dx (putF f y fs))) s' → Q () s') : wpAny (model X.prog X.w) A (setAttr (.ref a) f u) Q E s := by
  obtain ⟨mA, O, r, wi, _, ho⟩ := ins_get I.hok e
  have hz : (fs.map (·.1)).length ≤ sizeLine := by rw [List.length_map, sizeLine_eq]; omega
  refine set_map I.kIn O c.sa c.po n.taker c.hd wi hz fun h' O' sb => h _ ?_
  have hd : ∃ o, h'.get? dx = some o := let ⟨o, _, _, e', _⟩ := O'.ns; ⟨o, e'⟩
  refine I.write (x := a) (e := dx) (by rw [e]; exact True.intro) (.inr ho) (fun b q hb z => (sb.2 b hb).trans z) hd ?_
  refine ⟨by rw [upd_ne O.ne]; exact ho, ?_, O.ne, O'.obj, _, O'.ns, fun g => ?_, fun g hg => ?_⟩
  · have := length_putF f y fs; omega
  · show RelO ((putF f y fs).lookup g) (if g = f then some u else mA g)
    rw [lookup_putF]
    by_cases q : g = f
    · rw [if_pos q, if_pos q]; exact ry
    · rw [if_neg q, if_neg q]; exact r g
  · by_cases q : g = f
    · rw [q]; exact (keys_putF f y fs).1
    · refine (keys_putF f y fs).2 g (wi g fun z => hg ?_)
      show (if g = f then some u else mA g) = none
      rw [if_neg q]; exact z

/-- a new instance, tracked, without attributes -/
theorem Inv.made (I : Inv X pins σ H s) : Inv X pins σ (upd (upd H s.heap.objs.size (.own (s.heap.objs.size + 1))) (s.heap.objs.size + 1) (.ins C s.heap.objs.size []))
    { s with heap := (s.heap.push PySem.W.emptyDict).push (PySem.W.instObj C s.heap.objs.size) } := by
  have e1 : (s.heap.push PySem.W.emptyDict).get? s.heap.objs.size = some PySem.W.emptyDict := Heap.get?_push_size s.heap rfl
  have e2 : ((s.heap.push PySem.W.emptyDict).push (PySem.W.instObj C s.heap.objs.size)).get? (s.heap.objs.size + 1) = some (PySem.W.instObj C s.heap.objs.size) := by
    have := Heap.get?_push_size (s.heap.push PySem.W.emptyDict) (o := PySem.W.instObj C s.heap.objs.size) rfl
    rwa [Heap.size_push] at this
  have e3 : (s.heap.push PySem.W.emptyDict).Ns s.heap.objs.size (fun _ => none) := ⟨PySem.W.emptyDict, #[], _, e1, rfl, (fun e he => absurd he (by simp)), fun _ => rfl⟩
  have I1 := I.laid (a := s.heap.objs.size) (o := .own (s.heap.objs.size + 1)) (h' := s.heap.push PySem.W.emptyDict) (t' := s.toks) (fun b u q => Heap.get?_push_of_some _ q) (Nat.le_refl _) ⟨_, e1⟩
  refine I1.laid (a := s.heap.objs.size + 1) (o := .ins C s.heap.objs.size []) (t' := s.toks) (fun b u q => Heap.get?_push_of_some _ q) (Nat.le_of_eq (Heap.size_push _ _)) ?_
  have ne : s.heap.objs.size ≠ s.heap.objs.size + 1 := Nat.ne_of_lt (Nat.lt_succ_self _)
  refine ⟨by rw [upd_ne ne, upd_same], Nat.zero_le _, ne, e2, fun _ => none, (Heap.Ns1.of_empty e3).at fun o q => Heap.get?_push_of_some _ q, fun _ => True.intro, fun y hy => absurd rfl hy⟩

/-- e.f where nothing but the object is asked: through attributeBase (super) and the last hold -/
theorem attr_of {prog : Program} {w : World} {env : Env} {e : Expr} {f : Str} {pos : Pos} {s : Shared} {Q : Value → Shared → Prop} (hb : attributeBase e f env (eval e env) = eval e env)
    (h : wpAny (model prog w) A (eval e env) (fun o s₁ => wpAny (model prog w) A (getAttr o f true) Q E s₁) E s) : wpAny (model prog w) A (eval (.Attribute e f pos) env) Q E s :=
  Attribute_any_ h (by rw [arm_eval_Attribute, hb])
end

/-! ### readings and rules -/
/-- e.f, an attribute of the instance -/
def tFld (K : PySem.W.Frag) (ta : TE) (f : Str) : TE := fun σ H Q => ta σ H fun x H1 => ∃ a C dx fs v, x = .ref a ∧ H1 a = some (.ins C dx fs) ∧ Cls K C ∧ NoAttr K C f ∧ fs.lookup f = some v ∧ Q v H1
/-- e.f = value -/
def sFld (K : PySem.W.Frag) (ta tv : TE) (f : Str) : TS := fun D σ H => tv σ H fun y H1 => ta σ H1 fun x H2 => ∃ a C dx fs, x = .ref a ∧ H2 a = some (.ins C dx fs) ∧ Cls K C ∧ NoAttr K C f ∧ fs.length < 1000 ∧
  D.nx σ (upd H2 a (.ins C dx (putF f y fs)))
section
variable {X : Cx} {o e value : Expr} {f : Str} {pos pos' tpos : Pos} {ta tv : TE}
theorem pe_fld (he : PE X e ta) (hb : attributeBase e f X.env (eval e X.env) = eval e X.env) : PE X (.Attribute e f pos) (tFld X.K ta f) := by
  intro pins s σ H Q I h
  refine attr_of hb (thn (he pins s σ H _ I h) fun u s1 ⟨x, H1, I1, rx, a, C, dx, fs, v, ex, ea, c, n, l, q⟩ => ?_)
  subst ex
  obtain rfl : u = Value.ref a := rx
  exact getattr_ok I1 ea c n l fun u' s2 I2 ru => ⟨v, H1, I2, ru, q⟩
theorem ps_fld (ha : PE X o ta) (hv : PE X value tv) (hs : swapsWith value (some (.Attribute o f pos')) pos.line X.env = pure false) : PS X (.Assign [.Attribute o f pos'] value pos) (sFld X.K ta tv f) := by
  intro pins s σ H D I h
  refine plainObj_wpAny_Assign_Attribute (thn (hv pins s σ H _ I h) fun u s1 ⟨y, H1, I1, ry, q⟩ => thn (ha pins s1 σ H1 _ I1 q) fun ov s2 ⟨x, H2, I2, rx, a, C, dx, fs, ex, ea, c, n, l, q2⟩ => ?_) hs
  subst ex
  obtain rfl : ov = Value.ref a := rx
  exact setattr_ok I2 ea c n l ry fun s3 I3 => ⟨σ, _, I3, q2⟩
end

/-! ### isinstance -/
section
variable {X : Cx} {pins : List (Addr × Obj)} {σ : St} {H : Hp} {s : Shared} {A : Around} {E : Value → Shared → Prop} {Q : Value → Shared → Prop} {c : Value} {b : Bool}
/-- the type of a value, as the fragment's deciders take it; for an instance its class -/
inductive TyOf (K : PySem.W.Frag) (H : Hp) : V → Value → Prop where
  | non : TyOf K H .non (.type "NoneType")
  | bl (x : Bool) : TyOf K H (.bl x) (.type "bool")
  | int (i : Int) : TyOf K H (.int i) (.type "int")
  | str (x : Str) : TyOf K H (.str x) (.type "str")
  | flt (x : UInt64) : TyOf K H (.flt x) (.type "float")
  | lst {a : Addr} {xs : List V} (e : H a = some (.lst xs)) : TyOf K H (.ref a) (.type "list")
  | frz {a : Addr} {o : Obj} {xs : List V} (e : H a = some (.frz o (.lst xs))) : TyOf K H (.ref a) (.type "list")
  | tup {a : Addr} {xs : List V} (e : H a = some (.tup xs)) : TyOf K H (.ref a) (.type "tuple")
  | dK {a : Addr} {kvs : List (Key × V)} (e : H a = some (.dK kvs)) : TyOf K H (.ref a) (.type "dict")
  | dT {a : Addr} {kvs : List (List Key × V)} (e : H a = some (.dT kvs)) : TyOf K H (.ref a) (.type "dict")
  | ins {a C dx : Addr} {fs : List (Str × V)} (e : H a = some (.ins C dx fs)) (cl : Cls K C) (ha : PySem.W.findIn K (.ref C) "__class__" = some (some (.builtin "object.__class__")))
      (hn : PySem.W.specialIn K (.builtin "object.__class__") "__get__" = some (some (.builtin "getset_descriptor.__get__"))) (htk : PySem.W.takesIn K (.builtin "object.__class__") = some true)
      (hm : PySem.W.mroIn K C (.type "object") = some true) : TyOf K H (.ref a) (.ref C)
end
end L2

namespace L2
open PySem PySem.Spec PyProof.Rows

/-! ### room -/
structure Room (k : Nat) (A : Around) : Prop where
  hd : A.handled = none
  dp : A.depth + 3 * k + 5 < recursionLimit
  un : A.units + 16 * k + 200 < cLine
theorem Room.mono {j k : Nat} {A : Around} (r : Room k A) (h : j ≤ k) : Room j A := ⟨r.hd, by have := r.dp; omega, by have := r.un; omega⟩
theorem Room.deeper {k : Nat} {A : Around} (r : Room (k + 1) A) (env : Env) : Room k (A.deeper env) :=
  ⟨r.hd, by have := r.dp; show A.depth + 1 + 3 * k + 5 < _; omega, by have := r.un; show A.units + 3 + 16 * k + 200 < _; omega⟩
theorem Room.in1 {k : Nat} {A : Around} (r : Room (k + 1) A) : Room k A.in1 :=
  ⟨r.hd, by have := r.dp; show A.depth + 3 * k + 5 < _; omega, by have := r.un; show A.units + 1 + 16 * k + 200 < _; omega⟩
theorem make_depth {A : Around} {C : Addr} {us : List Value} {kw : List (Str × Value)} : (A.under (.builtin "type.__call__" ⟨.ref C :: us, kw⟩)).depth = A.depth + 1 := by
  first | rfl | simp [Around.under, Code.weight, Code.isCreation, Code.isGuard, Code.isCaller, Code.frames, Code.isFrame, guardIds]
theorem make_units {A : Around} {C : Addr} {us : List Value} {kw : List (Str × Value)} : (A.under (.builtin "type.__call__" ⟨.ref C :: us, kw⟩)).units = A.units + 1 := by
  first | rfl | simp [Around.under, Code.cUnits, Code.frames, Code.isFrame]
theorem Room.make {k : Nat} {A : Around} (r : Room (k + 1) A) (C : Addr) (us : List Value) (kw : List (Str × Value)) : Room k (A.under (.builtin "type.__call__" ⟨.ref C :: us, kw⟩)) :=
  ⟨r.hd, by have := r.dp; rw [make_depth]; omega, by have := r.un; rw [make_units]; omega⟩
theorem Room.depth {k : Nat} {A : Around} (r : Room k A) : A.depth < recursionLimit := by have := r.dp; omega
theorem Room.units {k : Nat} {A : Around} (r : Room k A) : A.units + 64 < cLine := by have := r.un; omega
/-! ### argument lists and displays -/
def tNil : TA := fun _ H Q => Q [] H
def tCons (ta : TE) (tr : TA) : TA := fun σ H Q => ta σ H fun x H1 => tr σ H1 fun xs H2 => Q (x :: xs) H2
section
variable {X : Cx} {e : Expr} {es : List Expr} {te : TE} {t : TA} {pos : Pos}
theorem pa_nil : PA X [] tNil := fun _ _ _ _ H Q I h => Calls.spliced_nil ⟨[], H, I, .nil, h⟩
theorem pa_cons (ha : PE X e te) (hr : PA X es t) (hs : starEach (e :: es) X.env = (false, eval e X.env) :: starEach es X.env := by rfl) : PA X (e :: es) (tCons te t) := by
  intro pos pins s σ H Q I h
  rw [hs]
  show wpAny _ _ (spliced ((false, eval e X.env) :: backTo pos (starEach es X.env))) _ _ s
  refine Calls.spliced_cons (thn (ha pins s σ H _ I h) fun u s1 ⟨x, H1, I1, r1, q1⟩ => ?_)
  exact thn (hr pos pins s1 σ H1 _ I1 q1) fun us s2 ⟨xs, H2, I2, r2, q2⟩ => ⟨x :: xs, H2, I2, .cons r1 r2, q2⟩

/-- a tuple, a list of written items -/
def tTup (t : TA) : TE := fun σ H Q => t σ H fun xs H1 => xs.length ≤ sizeLine ∧ ∀ p, H1 p = none → Q (.ref p) (upd H1 p (.tup xs))
def tLst (t : TA) : TE := fun σ H Q => t σ H fun xs H1 => xs.length ≤ sizeLine ∧ ∀ p, H1 p = none → Q (.ref p) (upd H1 p (.lst xs))
theorem pe_tup {x1} (h : PA X es t) : PE X (.Tuple es x1 pos) (tTup t) := by
  intro pins s σ H Q I hq
  refine wpAny_Tuple_spliced (thn (h pos pins s σ H _ I hq) fun us s1 ⟨xs, H1, I1, r, z, q⟩ => ⟨by rw [← r.length]; exact z, ?_⟩)
  have hf : H1 s1.heap.objs.size = none := I1.hok.fresh (Nat.le_refl _)
  refine ⟨.ref s1.heap.objs.size, upd H1 s1.heap.objs.size (.tup xs), I1.laid (t' := s1.toks) (fun b u e => Heap.get?_push_of_some _ e) (Nat.le_refl _) ?_, rfl, q _ hf⟩
  exact ⟨z, us, r, ⟨_, Heap.get?_push_size _ rfl, rfl, _, rfl⟩⟩
theorem pe_lst (h : PA X es t) : PE X (.List es pos) (tLst t) := by
  intro pins s σ H Q I hq
  refine wpAny_List_spliced (thn (h pos pins s σ H _ I hq) fun us s1 ⟨xs, H1, I1, r, z, q⟩ => ⟨by rw [← r.length]; exact z, ?_⟩)
  have hf : H1 s1.heap.objs.size = none := I1.hok.fresh (Nat.le_refl _)
  refine ⟨.ref s1.heap.objs.size, upd H1 s1.heap.objs.size (.lst xs), I1.laid (t' := s1.toks) (fun b u e => Heap.get?_push_of_some _ e) (Nat.le_refl _) ?_, rfl, q _ hf⟩
  exact ⟨z, us, 0, r, Heap.get?_push_size _ rfl⟩
end

/-! ### what a def promises -/
/-- a def's promise: the bound arguments in the parameters' order, the heap, the wanted end, the wanted exception -/
abbrev Sp := List V → Hp → VK → XK → Prop
/-- how an exception lies behind a call (file 08 gives it): the callers' frames, abstract heap and state ahead of the call, the wish, the exception, the state -/
abbrev CXT := List Env → Hp → Shared → XK → Value → Shared → Prop

/-- the state at a call -/
structure Env0 (P : Program) (w : World) (K : PySem.W.Frag) (mg : Str → Option Value) (base : Heap) (A : Around) (outer : List Env) (s : Shared) (H : Hp) : Prop where
  frames : A.frames = some outer
  mod : Mod K mg base
  bs : ∀ b o, base.get? b = some o → s.heap.get? b = some o ∧ H b = none
  bsz : base.objs.size ≤ s.heap.objs.size
  funs : s.heap.FunFrames base outer
  frf : ∀ b ∈ frs outer, H b = none
  hok : HOk P w H s.heap
  bare : AllBare s.gens
/-- a call's end -/
def CE (outer : List Env) (P : Program) (w : World) (H : Hp) (s : Shared) (Q : VK) (u : Value) (s' : Shared) : Prop :=
  ∃ v H', s'.os = s.os ∧ AllBare s'.gens ∧ Un (frs outer) [] H H' s.heap s'.heap ∧ HOk P w H' s'.heap ∧ RelV v u ∧ Q v H'
def CR (CX : CXT) (outer : List Env) (P : Program) (w : World) (H : Hp) (s : Shared) (Q : VK) (E : XK) (r : Result) (s' : Shared) : Prop :=
  match r with
  | .ok (.ret u) => CE outer P w H s Q u s'
  | .ok _ => False
  | .error e => CX outer H s E e s'
structure FnOk (P : Program) (w : World) (K : PySem.W.Frag) (mg : Str → Option Value) (base : Heap) (CX : CXT) (k : Nat) (f : Addr) (fd : FuncData) (ps : List Str) (sp : Sp) : Prop where
  len : ∀ vs H Q E, sp vs H Q E → vs.length = ps.length
  run : ∀ (A : Around) (outer : List Env) (s : Shared) (H : Hp) (args : Args) (us : List Value) (vs : List V) (Q : VK) (E : XK), Room k A → Env0 P w K mg base A outer s H → BindsTo s fd args (ps.zip us) → Vals vs us → sp vs H Q E →
    codeAny (model P w) A (.call (.ref f) args) (CR CX outer P w H s Q E) s
theorem FnOk.mono {P : Program} {w : World} {K : PySem.W.Frag} {mg : Str → Option Value} {base : Heap} {CX : CXT} {j k : Nat} {f : Addr} {fd : FuncData} {ps : List Str} {sp : Sp} (F : FnOk P w K mg base CX j f fd ps sp) (h : j ≤ k) :
    FnOk P w K mg base CX k f fd ps sp := ⟨F.len, fun A outer s H args us vs Q E hr => F.run A outer s H args us vs Q E (hr.mono h)⟩
/-- a weaker promise -/
theorem FnOk.imp {P : Program} {w : World} {K : PySem.W.Frag} {mg : Str → Option Value} {base : Heap} {CX : CXT} {k : Nat} {f : Addr} {fd : FuncData} {ps : List Str} {sp sp' : Sp} (F : FnOk P w K mg base CX k f fd ps sp)
    (h : ∀ vs H Q E, sp' vs H Q E → sp vs H Q E) : FnOk P w K mg base CX k f fd ps sp' :=
  ⟨fun vs H Q E q => F.len vs H Q E (h _ _ _ _ q), fun A outer s H args us vs Q E hr he hb hv hs => F.run A outer s H args us vs Q E hr he hb hv (h _ _ _ _ hs)⟩

theorem Env0.make {P : Program} {w : World} {K : PySem.W.Frag} {mg : Str → Option Value} {base : Heap} {A : Around} {outer : List Env} {s : Shared} {H : Hp} (e : Env0 P w K mg base A outer s H) (C : Addr) (us : List Value) (kw : List (Str × Value)) :
    Env0 P w K mg base (A.under (.builtin "type.__call__" ⟨.ref C :: us, kw⟩)) outer s H := ⟨by first | exact e.frames | (simpa [Around.under, Code.envs, Code.isFrame, pushEnvs] using e.frames), e.mod, e.bs, e.bsz, e.funs, e.frf, e.hok, e.bare⟩
theorem Env0.in1 {P : Program} {w : World} {K : PySem.W.Frag} {mg : Str → Option Value} {base : Heap} {A : Around} {outer : List Env} {s : Shared} {H : Hp} (e : Env0 P w K mg base A outer s H) :
    Env0 P w K mg base A.in1 outer s H := ⟨e.frames, e.mod, e.bs, e.bsz, e.funs, e.frf, e.hok, e.bare⟩

section
variable {X : Cx} {pins : List (Addr × Obj)} {σ : St} {H : Hp} {s s' : Shared}
/-- from a body: what a callee wants -/
theorem Inv.env0 (I : Inv X pins σ H s) : Env0 X.prog X.w X.K X.mg X.base X.A X.stack s H :=
  ⟨I.ok.frames, I.ok.mod, I.bs, Nat.le_trans I.ok.bsz I.sz, I.stack, I.stkFree, I.hok, I.bare⟩
/-- behind a call -/
theorem Inv.after {Q : VK} {u : Value} (I : Inv X pins σ H s) (h : CE X.stack X.prog X.w H s Q u s') : EP X pins σ Q u s' := by
  obtain ⟨v, H', os, bare, un, hok, r, q⟩ := h
  obtain ⟨hh, g, d, t, os'⟩ := s'
  obtain rfl : os' = s.os := os
  exact ⟨v, H', I.call (h' := hh) (g' := g) (d' := d) (t' := t) (ch := []) un hok bare (fun b z => absurd z (by simp)), r, q⟩
end

/-! ### calls -/
/-- f(..): the written arguments, then the defaults dvs; E: what is wanted of an exception -/
def tCall (sp : Sp) (dvs : List V) (E : XK) (t : TA) : TE := fun σ H Q => t σ H fun vs H1 => sp (vs ++ dvs) H1 Q E
/-- o.m(..) of an instance of the class at C -/
def tMeth (C : Addr) (m : Str) (sp : Sp) (dvs : List V) (E : XK) (ta : TE) (t : TA) : TE := fun σ H Q => ta σ H fun x H1 => ∃ a dx fs, x = .ref a ∧ H1 a = some (.ins C dx fs) ∧ fs.lookup m = none ∧
  t σ H1 fun vs H2 => sp (x :: (vs ++ dvs)) H2 Q E
/-- C(..): a new instance and its dict, then __init__ -/
def tMake (C : Addr) (sp : Sp) (dvs : List V) (E : XK) (t : TA) : TE := fun σ H Q => t σ H fun vs H1 => ∀ x dx, H1 x = none → H1 dx = none → dx ≠ x →
  sp (.ref x :: (vs ++ dvs)) (upd (upd H1 dx (.own x)) x (.ins C dx [])) (fun v H2 => v = .non ∧ Q (.ref x) H2) E

/-- how the parameters are bound: us the positional arguments, kw the keywords' values by name, ds the defaults that fill up -/
def Binds (K : PySem.W.Frag) (fd : FuncData) (ps : List Str) (ds : List Value) : Prop :=
  ∀ (s : Shared) (us : List Value), K.In s.heap → (us ++ ds).length = ps.length → BindsTo s fd ⟨us, []⟩ (ps.zip (us ++ ds))
/-- every parameter is given -/
theorem Binds.all {K : PySem.W.Frag} {fd : FuncData} {ps : List Str} (h : ∀ us : List Value, us.length = ps.length → bindArgs fd ⟨us, []⟩ = pure (ps.zip us)) : Binds K fd ps [] := fun s us _ hl => by
  rw [List.append_nil] at hl ⊢
  exact .of_eq (h us hl)

/-- an exception of a callee reaches what this body wants of exceptions -/
def Passes (CX : CXT) (X : Cx) (E : XK) : Prop := ∀ (pins : List (Addr × Obj)) (σ : St) (H : Hp) (s : Shared) (e : Value) (s' : Shared), Inv X pins σ H s → CX X.stack H s E e s' → X.xe e s'

section
variable {X : Cx} {CX : CXT} {k : Nat} {f C : Addr} {fd : FuncData} {ps : List Str} {sp : Sp} {dvs : List V} {ds : List Value} {E : XK} {x m : Str} {p pos apos : Pos} {e o : Expr} {es : List Expr} {ta : TE} {t : TA}

/-- the callee runs -/
theorem run_fn {pins : List (Addr × Obj)} {σ : St} {H : Hp} {s : Shared} {Q : VK} {us : List Value} {vs : List V} (F : FnOk X.prog X.w X.K X.mg X.base CX k f fd ps sp) (hr : Room k X.A) (hb : Binds X.K fd ps ds) (hd : Vals dvs ds) (hx : Passes CX X E)
    (I : Inv X pins σ H s) (r : Vals vs us) (h : sp (vs ++ dvs) H Q E) : wpAny (model X.prog X.w) X.A (call (.ref f) us) (EP X pins σ Q) X.xe s := by
  have r2 : Vals (vs ++ dvs) (us ++ ds) := r.append hd
  have hl : (us ++ ds).length = ps.length := by rw [← r2.length]; exact F.len _ _ _ _ h
  refine wpAny_call (codeAny_mono (F.run X.A X.stack s H ⟨us, []⟩ (us ++ ds) (vs ++ dvs) Q E hr I.env0 (hb s us I.kIn hl) r2 h) fun r s' hq => ?_)
  cases r with
  | error e => exact hx pins σ H s e s' I hq
  | ok fl =>
    cases fl with
    | ret u => exact I.after hq
    | next => exact False.elim hq
    | brk => exact False.elim hq
    | cont => exact False.elim hq

theorem pe_call (F : FnOk X.prog X.w X.K X.mg X.base CX k f fd ps sp) (hr : Room k X.A) (hg : Gl X x) (hm : X.mg x = some (.ref f)) (hk : PySem.W.keepIn X.K (.ref f) = true) (hb : Binds X.K fd ps ds) (hd : Vals dvs ds) (hx : Passes CX X E)
    (ha : PA X (e :: es) t) (hdb : (x == ("__debug__" : Str)) = false := by decide) (he : starEach (e :: es) X.env = (false, eval e X.env) :: starEach es X.env := by rfl) (hpl : (backTo pos (starEach es X.env)).any (·.1) = false := by rfl) :
    PE X (.Call (.Name x p) (e :: es) [] pos) (tCall sp dvs E t) := by
  intro pins s σ H Q I h
  refine wpAny_Call_Name_kw (ld_glob I hg hm ?_ hdb)
  refine PySem.W.callWith_K (h₀ := X.base) I.ok.mod.kin hk (thn (ha pos pins s σ H _ I h) fun us s1 ⟨vs, H1, I1, r, q⟩ => ⟨I1.kIn, ?_⟩) he hpl
  exact run_fn F hr hb hd hx I1 r q
/-- o.m(e, ..) -/
theorem pe_meth {pl : Sem Bool} (he : PE X o ta) (c : Cls X.K C) (hm : Meth X.K C m f) (F : FnOk X.prog X.w X.K X.mg X.base CX k f fd ps sp) (hr : Room k X.A) (hb : Binds X.K fd ps ds) (hd : Vals dvs ds) (hx : Passes CX X E) (ha : PA X (e :: es) t)
    (hst : starEach (e :: es) X.env = (false, eval e X.env) :: starEach es X.env := by rfl) (hpl : (backTo pos (starEach es X.env)).any (·.1) = false := by rfl)
    (ht : eval (.Call (.Attribute o m apos) (e :: es) [] pos) X.env = (do
      let ov ← eval o X.env
      standAt apos.atName
      let (f, first) ← holding [ov] (getMethod ov m pl)
      callWith pos f first (backTo pos (starEach (e :: es) X.env)) (backToKw pos (keywordEach [] X.env))) := by rfl) :
    PE X (.Call (.Attribute o m apos) (e :: es) [] pos) (tMeth C m sp dvs E ta t) := by
  intro pins s σ H Q I h
  refine PySem.W.methodCall_KW (pl := pl) (thn (he pins s σ H _ I h) fun u s1 ⟨x, H1, I1, rx, a, dx, fs, ex, ea, l, q⟩ => ?_) ht
  subst ex
  obtain rfl : u = Value.ref a := rx
  refine getmeth_ok I1 ea c hm l ?_
  refine PySem.W.callWith_K (first := [.ref a]) (h₀ := X.base) I.ok.mod.kin hm.kp (thn (ha pos pins s1 σ H1 _ I1 q) fun us s2 ⟨vs, H2, I2, r, q2⟩ => ⟨I2.kIn, ?_⟩) hst hpl
  exact run_fn (us := .ref a :: us) (vs := .ref a :: vs) F hr hb hd hx I2 (.cons rfl r) q2
/-- what a class must have to be made -/
structure Mk (K : PySem.W.Frag) (C f : Addr) : Prop where
  makes : PySem.W.makesIn K C = true
  init : PySem.W.findIn K (.ref C) "__init__" = some (some (.ref f))
  fn : PySem.W.isFn K (.ref f) = true
  kp : PySem.W.keepIn K (.ref C) = true

theorem run_make {pins : List (Addr × Obj)} {σ : St} {H : Hp} {s : Shared} {Q : VK} {us : List Value} {vs : List V} (M : Mk X.K C f) (F : FnOk X.prog X.w X.K X.mg X.base CX k f fd ps sp) (hr : Room (k + 1) X.A) (hb : Binds X.K fd ps ds) (hd : Vals dvs ds)
    (hx : Passes CX X E) (I : Inv X pins σ H s) (r : Vals vs us)
    (h : ∀ x dx, H x = none → H dx = none → dx ≠ x → sp (.ref x :: (vs ++ dvs)) (upd (upd H dx (.own x)) x (.ins C dx [])) (fun v H2 => v = .non ∧ Q (.ref x) H2) E) :
    wpAny (model X.prog X.w) X.A (call (.ref C) us) (EP X pins σ Q) X.xe s := by
  have hq := h (s.heap.objs.size + 1) s.heap.objs.size (I.hok.fresh (Nat.le_succ _)) (I.hok.fresh (Nat.le_refl _)) (Nat.ne_of_lt (Nat.lt_succ_self _))
  have I2 := Inv.made (C := C) I
  have r2 : Vals (V.ref (s.heap.objs.size + 1) :: (vs ++ dvs)) (Value.ref (s.heap.objs.size + 1) :: (us ++ ds)) := .cons rfl (r.append hd)
  have hl : (Value.ref (s.heap.objs.size + 1) :: us ++ ds).length = ps.length := by
    have e := r2.length
    rw [F.len _ _ _ _ hq] at e
    exact e.symm
  refine wpAny_call (make_map (f := f) I.kIn M.makes M.init (beq_iff_eq.mp M.fn) (codeAny_mono (F.run _ X.stack _ _ ⟨Value.ref (s.heap.objs.size + 1) :: us, []⟩ (Value.ref (s.heap.objs.size + 1) :: (us ++ ds)) _ _ E (hr.make C us [])
    (I2.env0.make C us []) (hb _ (Value.ref (s.heap.objs.size + 1) :: us) I2.kIn hl) r2 hq) fun r s' hq' => ?_))
  cases r with
  | error e => exact hx pins σ _ _ e s' I2 hq'
  | ok fl =>
    cases fl with
    | ret u =>
      obtain ⟨v, H', I3, rv, ev, q3⟩ := I2.after hq'
      subst ev
      exact ⟨rv, ⟨V.ref (s.heap.objs.size + 1), H', I3, rfl, q3⟩⟩
    | next => exact False.elim hq'
    | brk => exact False.elim hq'
    | cont => exact False.elim hq'
theorem pe_make0 (M : Mk X.K C f) (F : FnOk X.prog X.w X.K X.mg X.base CX k f fd ps sp) (hr : Room (k + 1) X.A) (hg : Gl X x) (hm : X.mg x = some (.ref C)) (hb : Binds X.K fd ps ds) (hd : Vals dvs ds) (hx : Passes CX X E)
    (hdb : (x == ("__debug__" : Str)) = false := by decide) : PE X (.Call (.Name x p) [] [] pos) (tMake C sp dvs E tNil) := by
  intro pins s σ H Q I h
  refine wpAny_Call_Name_kw (ld_glob I hg hm ?_ hdb)
  exact PySem.W.callWith_K0 I.kIn M.kp (run_make (us := []) M F hr hb hd hx I .nil h)
end

/-! ### keywords -/
section
variable {X : Cx} {CX : CXT} {k : Nat} {f C : Addr} {fd : FuncData} {ps ks : List Str} {sp : Sp} {E : XK} {x m : Str} {p pos apos kpos : Pos} {e o : Expr} {es : List Expr} {kws : List Keyword} {te ta : TE} {t tk : TA} {nm : Option Str}
/-- how a call with keywords binds: g puts the positional values us and the keywords' values ws (names ks) in the parameters' order, defaults among them -/
structure KBinds (K : PySem.W.Frag) (fd : FuncData) (ps ks : List Str) (g : List Value → List Value → List Value) (gV : List V → List V → List V) : Prop where
  to : ∀ (s : Shared) (us ws : List Value), K.In s.heap → (g us ws).length = ps.length → BindsTo s fd ⟨us, ks.zip ws⟩ (ps.zip (g us ws))
  rel : ∀ {vs : List V} {us : List Value} {zs : List V} {ws : List Value}, Vals vs us → Vals zs ws → Vals (gV vs zs) (g us ws)
variable {g : List Value → List Value → List Value} {gV : List V → List V → List V}
end

/-! ### a def's body keeps its promise -/
/-- names: the parameters first -/
structure FnScope (N P : List Str) (sc : Scope) : Prop where
  kind : sc.kind = .function
  co : sc.isCoroutine = false
  gen : sc.isGenerator = false
  nd : N.Nodup
  pre : N.take P.length = P
  par : ∀ x ∈ P, sc.names.lookup x = some .local ∨ sc.names.lookup x = some .cell
  nofree : ∀ y ∈ sc.names, y.2 ≠ .free

theorem bindL_out {kindOf : Str → Option NameKind} {x : Str} : ∀ {binds : List (Str × Value)} {m : Str → Option Value}, (∀ v, (x, v) ∉ binds) → bindL kindOf binds m x = m x
  | [], _, _ => rfl
  | (n, v) :: r, m, h => by
    unfold bindL
    rw [bindL_out fun w hw => h w (List.mem_cons_of_mem _ hw)]
    split
    · have : x ≠ n := by rintro rfl; exact h v List.mem_cons_self
      simp [this]
    · rfl
theorem bindC_out {kindOf : Str → Option NameKind} {x : Str} : ∀ {binds : List (Str × Value)} {m : Str → Option Value}, (∀ v, (x, v) ∉ binds) → bindC kindOf binds m x = m x
  | [], _, _ => rfl
  | (n, v) :: r, m, h => by
    unfold bindC
    rw [bindC_out fun w hw => h w (List.mem_cons_of_mem _ hw)]
    split
    · rfl
    · have : x ≠ n := by rintro rfl; exact h v List.mem_cons_self
      simp [this]
theorem bindL_get {kindOf : Str → Option NameKind} {x : Str} {v : Value} : ∀ {P : List Str} {vs : List Value} {i : Nat} {m : Str → Option Value}, P.Nodup → P[i]? = some x → vs[i]? = some v → kindOf x = some .local →
    bindL kindOf (P.zip vs) m x = some v
  | [], _, _, _, _, h, _, _ => by simp at h
  | _ :: _, [], _, _, _, _, h, _ => by simp at h
  | p :: P, w :: vs, 0, m, nd, h1, h2, hk => by
    simp at h1 h2; subst h1; subst h2
    show bindL kindOf ((p, w) :: P.zip vs) m p = _
    unfold bindL
    rw [bindL_out fun v hv => (List.nodup_cons.mp nd).1 (List.of_mem_zip hv).1, if_pos hk]
    simp
  | p :: P, w :: vs, i + 1, m, nd, h1, h2, hk => by
    show bindL kindOf ((p, w) :: P.zip vs) m x = _
    unfold bindL
    exact bindL_get (i := i) (List.nodup_cons.mp nd).2 (by simpa using h1) (by simpa using h2) hk
theorem bindC_get {kindOf : Str → Option NameKind} {x : Str} {v : Value} : ∀ {P : List Str} {vs : List Value} {i : Nat} {m : Str → Option Value}, P.Nodup → P[i]? = some x → vs[i]? = some v → kindOf x ≠ some .local →
    bindC kindOf (P.zip vs) m x = some v
  | [], _, _, _, _, h, _, _ => by simp at h
  | _ :: _, [], _, _, _, _, h, _ => by simp at h
  | p :: P, w :: vs, 0, m, nd, h1, h2, hk => by
    simp at h1 h2; subst h1; subst h2
    show bindC kindOf ((p, w) :: P.zip vs) m p = _
    unfold bindC
    rw [bindC_out fun v hv => (List.nodup_cons.mp nd).1 (List.of_mem_zip hv).1, if_neg hk]
    simp
  | p :: P, w :: vs, i + 1, m, nd, h1, h2, hk => by
    show bindC kindOf ((p, w) :: P.zip vs) m x = _
    unfold bindC
    exact bindC_get (i := i) (List.nodup_cons.mp nd).2 (by simpa using h1) (by simpa using h2) hk

/-- the names' values at the entry -/
def start (N : List Str) (vs : List V) : St := vs.map some ++ List.replicate (N.length - vs.length) none

/-- the context of a def's body, at its entry; an exception leaves the frame, then lies as CX says -/
def cxOf (CX : CXT) (P : Program) (w : World) (K : PySem.W.Frag) (mg : Str → Option Value) (base : Heap) (N : List Str) (qual : Str) (scope : Scope) (f : Addr) (cd : Value) (A : Around) (outer : List Env) (s : Shared) (H : Hp) (E : XK) : Cx where
  prog := P
  w := w
  K := K
  mg := mg
  base := base
  A := A.deeper (envOfC qual scope s.heap.objs.size f cd)
  N := N
  s₀ := s
  H₀ := H
  env := envOfC qual scope s.heap.objs.size f cd
  outer := outer
  stack := envOfC qual scope s.heap.objs.size f cd :: outer
  ex := []
  calm := true
  fn := fun _ => true
  pn := []
  xe := fun e s' => wpAny (model P w) (A.deeper (envOfC qual scope s.heap.objs.size f cd)) (leaving (envOfC qual scope s.heap.objs.size f cd) e) (fun _ s'' => CX outer H s E e s'') (fun e' s'' => CX outer H s E e' s'') s'

theorem cell_has {sc : Scope} {n : Nat} {x : Str} (h : sc.names.lookup x = some .cell) : ∃ c, (cellsFrom n sc.names []).lookup x = some c := by
  have q := PySem.W.cellsFrom_some sc.names n [] (.inl h)
  exact Option.isSome_iff_exists.mp q

theorem inv_start {CX : CXT} {P : Program} {w : World} {K : PySem.W.Frag} {mg : Str → Option Value} {base : Heap} {N ps : List Str} {qual : Str} {scope : Scope} {f : Addr} {cd : Value} {A : Around} {outer : List Env} {s s1 : Shared} {H : Hp} {E : XK} {us : List Value} {vs : List V}
    (S : FnScope N ps scope) (hd : A.handled = none) (e0 : Env0 P w K mg base A outer s H) (hl : vs.length = ps.length) (r : Vals vs us)
    (x : InCallC s s.heap.objs.size (bindL (envOfC qual scope s.heap.objs.size f cd).kindOf (ps.zip us) fun _ => none) (cellsFrom (s.heap.objs.size + 1) scope.names []) (bindC (envOfC qual scope s.heap.objs.size f cd).kindOf (ps.zip us) fun _ => none) s1) :
    Inv (cxOf CX P w K mg base N qual scope f cd A outer s H E) [] (start N vs) H s1 := by
  have hpl : ps.length ≤ N.length := by have := congrArg List.length S.pre; rw [List.length_take] at this; omega
  obtain ⟨h1, tk, rfl, hk⟩ := x.done
  have noA : ∀ b : Addr, b ∉ (cxOf CX P w K mg base N qual scope f cd A outer s H E).ex := fun b z => absurd (show b ∈ ([] : List Addr) from z) (by simp)
  refine ⟨⟨e0.mod, S.kind, rfl, rfl, Nat.le_refl _, fun y z c h1 h2 => ?_, fun y hy => ?_, fun y c _ h => ?_, fun _ => hd, Around.frames_deeper e0.frames, .inr ⟨rfl, rfl⟩, fun b z => absurd z (noA b), e0.bs, e0.bsz, fun b _ _ => noA b, fun b z => absurd z (noA b), e0.funs, e0.frf⟩,
    rfl, e0.bare, Un.kept hk, ⟨_, x.toInCall.ns, fun i y v h1 h2 h3 => ?_⟩, fun y c h => ⟨_, x.cell y c h⟩, e0.hok.fresh (Nat.le_refl _), fun y c h => ?_, fun p hp => absurd (show p ∈ ([] : List (Addr × Obj)) from hp) (by simp), e0.hok.kept hk, ?_⟩
  · exact name_of_addr x.apart (PySem.mem_of_lookup h1) (PySem.mem_of_lookup h2)
  · have hy : scope.names.lookup y = some .cell ∨ scope.names.lookup y = some .free := hy
    rcases hy with hy | hy
    · exact cell_has hy
    · exact absurd rfl (S.nofree _ (PySem.mem_of_lookup hy))
  · exact Nat.le_of_lt (x.above y c (PySem.mem_of_lookup h))
  · have hi : i < vs.length := by
      unfold start at h2
      by_cases hi : i < vs.length
      · exact hi
      · rw [List.getElem?_append_right (by simpa using hi)] at h2
        rw [List.getElem?_replicate] at h2
        split at h2 <;> cases h2
    have ha : vs[i]? = some v := by
      unfold start at h2
      rw [List.getElem?_append_left (by simpa using hi), List.getElem?_map] at h2
      cases e : vs[i]? with
      | none => rw [e] at h2; cases h2
      | some a => rw [e] at h2; cases h2; rfl
    obtain ⟨u, hu, rv⟩ := r.get ha
    have hp : ps[i]? = some y := by
      rw [← S.pre, List.getElem?_take_of_lt (by omega)]; exact h1
    have ndP : ps.Nodup := by rw [← S.pre]; exact S.nd.sublist (List.take_sublist _ _)
    refine ⟨u, rv, ?_⟩
    rcases S.par y (List.mem_of_getElem? hp) with k | k
    · exact .inl ⟨k, bindL_get ndP hp hu k⟩
    · obtain ⟨c, e⟩ := cell_has (n := s.heap.objs.size + 1) k
      refine .inr ⟨.inl k, c, e, ?_⟩
      have q := x.cell y c e
      rw [bindC_get ndP hp hu (by show scope.names.lookup y ≠ _; rw [k]; decide)] at q
      exact q
  · exact e0.hok.fresh (Nat.le_of_lt (x.above y c (PySem.mem_of_lookup h)))
  · unfold start
    show _ = N.length
    rw [List.length_append, List.length_map, List.length_replicate]
    omega

/-- THE RULE: a def (or a method) of the text, by its body. The body's reading t is chosen for each entry; it is run at the parameters' values -/
theorem fn_of {CX : CXT} {P : Program} {w : World} {K : PySem.W.Frag} {mg : Str → Option Value} {base : Heap} {k : Nat} {f : Addr} {name qual : Str} {params : Arguments} {body : List Stmt} {scope : Scope} {dV kV doc pm cdv ct oc : Value} {an od : Option Addr}
    {osl : Array (Option Value)} {N ps : List Str} {sp : Sp} (lk : K.lookup f = some ⟨oc, od, .func (PySem.W.fnOf name qual params body scope dV kV doc pm an cdv ct), osl⟩) (hcd : PySem.W.codeIn K cdv qual = true) (S : FnScope N ps scope)
    (len : ∀ vs H Q E, sp vs H Q E → vs.length = ps.length)
    (hbody : ∀ (A : Around) (outer : List Env) (s : Shared) (H : Hp) (vs : List V) (Q : VK) (E : XK), Room k (A.deeper (envOfC qual scope s.heap.objs.size f cdv)) → sp vs H Q E →
      ∃ t, PSs (cxOf CX P w K mg base N qual scope f cdv A outer s H E) body t ∧ t { nx := fun _ H' => Q .non H', rt := Q } (start N vs) H) :
    FnOk P w K mg base CX (k + 1) f (PySem.W.fnOf name qual params body scope dV kV doc pm an cdv ct) ps sp := by
  refine ⟨len, fun A outer s H args us vs Q E hr e0 hb r hsp => ?_⟩
  have hl := len _ _ _ _ hsp
  have KX : K.In s.heap := e0.mod.kin.keeps fun b o e => (e0.bs b o e).1
  have lim : s.heap.NoLimit := e0.mod.nolimit.keeps fun b o e => (e0.bs b o e).1
  have hkind : ∀ y ∈ ps.zip us, scope.names.lookup y.1 = some .local ∨ (scope.names.lookup y.1 = some .cell ∧ ((cellsFrom (s.heap.objs.size + 1) scope.names []).lookup y.1).isSome = true) := fun ⟨n, v⟩ hy => by
    rcases S.par n (List.of_mem_zip hy).1 with q | q
    · exact .inl q
    · exact .inr ⟨q, PySem.W.cellsFrom_some _ _ _ (.inl q)⟩
  refine codeAny_call_function hr.depth (KX _ _ lk) rfl S.co S.gen rfl (PySem.W.codeRec_of KX hcd) (hb _ _ _ _ ?_)
  refine wpAny_newFunctionEnv_cells S.kind hkind fun env he s1 x => ?_
  subst he
  refine ⟨lim.keeps x.toInCall.keep, codeAny_func ?_⟩
  obtain ⟨t, ht, hq⟩ := hbody A outer s H vs Q E (hr.deeper _) hsp
  have I : Inv (cxOf CX P w K mg base N qual scope f cdv A outer s H E) [] (start N vs) H s1 := inv_start S hr.hd e0 hl r x
  refine wpAny_mono (ht [] s1 (start N vs) H _ I hq) (fun fl s' hs => ?_) fun e s' hs => hs
  have fin : ∀ {σ' : St} {H' : Hp} {v : V} {u : Value}, Inv (cxOf CX P w K mg base N qual scope f cdv A outer s H E) [] σ' H' s' → RelV v u → Q v H' → CE outer P w H s Q u s' :=
    fun {σ' H' v u} J rv q => ⟨v, H', J.os, J.bare, J.base, J.hok, rv, q⟩
  cases fl with
  | ret u =>
    obtain ⟨v, σ', H', J, rv, q⟩ := hs
    exact fin J rv q
  | next =>
    obtain ⟨σ', H', J, q⟩ := hs
    exact fin (v := V.non) (u := Value.none) J rfl q
  | brk =>
    obtain ⟨_, _, _, q⟩ := hs
    exact False.elim q
  | cont =>
    obtain ⟨_, _, _, q⟩ := hs
    exact False.elim q
end L2

namespace L2
open PySem PySem.Spec PyProof.Rows
section
variable {X : Cx} {x : Str} {p pos : Pos} {e : Expr} {es : List Expr} {t : TA} {id T : String} {r : List V → Hp → VK → Prop}

def tCB (r : List V → Hp → VK → Prop) (t : TA) : TE := fun σ H Q => t σ H fun vs H1 => r vs H1 Q
/-- f(e, ..), f a built-in function -/
theorem pe_callB (hc : CallR X (.builtin id) r) (hg : Gl X x) (hm : X.mg x = none) (hv : bootBuiltins x = some (.builtin id)) (ha : PA X (e :: es) t) (hn : x ≠ "__name__" := by decide) (hdb : (x == ("__debug__" : Str)) = false := by decide)
    (he : starEach (e :: es) X.env = (false, eval e X.env) :: starEach es X.env := by rfl) (hpl : (backTo pos (starEach es X.env)).any (·.1) = false := by rfl) : PE X (.Call (.Name x p) (e :: es) [] pos) (tCB r t) := by
  intro pins s σ H Q I h
  refine wpAny_Call_Name_kw (ld_blt I hg hm hv ?_ hn hdb)
  exact PyProof.Rows.callWith_builtin1 (thn (ha pos pins s σ H _ I h) fun us s1 ⟨vs, H1, I1, r1, q1⟩ => hc pins s1 σ H1 vs us Q I1 r1 q1) he hpl
/-- T(e, ..), T a built-in type -/
theorem pe_callTy (hc : CallR X (.type T) r) (hg : Gl X x) (hm : X.mg x = none) (hv : bootBuiltins x = some (.type T)) (ha : PA X (e :: es) t) (hn : x ≠ "__name__" := by decide) (hdb : (x == ("__debug__" : Str)) = false := by decide)
    (he : starEach (e :: es) X.env = (false, eval e X.env) :: starEach es X.env := by rfl) (hpl : (backTo pos (starEach es X.env)).any (·.1) = false := by rfl) : PE X (.Call (.Name x p) (e :: es) [] pos) (tCB r t) := by
  intro pins s σ H Q I h
  refine wpAny_Call_Name_kw (ld_blt I hg hm hv ?_ hn hdb)
  exact PyProof.Rows.callWith_type1 (thn (ha pos pins s σ H _ I h) fun us s1 ⟨vs, H1, I1, r1, q1⟩ => hc pins s1 σ H1 vs us Q I1 r1 q1) he hpl
end
end L2

namespace HT
open PySem PyProof.Rows

section
open PySem.SeqAt
open PySem.AutoSeq1 (wpAny_loadPart')
open PySem.MeetsSeq PySem.MeetsSeq2 PySem.MeetsSeq3

end

section
variable {prog : Program} {w : World} {A : Around} {E : Value → Shared → Prop} {s : Shared}

/-- t + u, t not empty -/
theorem cat_tup {t b : Addr} {vs ws : List Value} {Q : Value → Shared → Prop} (ht : IsTup s.heap t vs.toArray) (hb : IsTup s.heap b ws.toArray) (hv : vs ≠ [])
    (h1 : ws = [] → Q (.ref t) s) (h2 : ws ≠ [] → Q (.ref s.heap.objs.size) { s with heap := s.heap.push { cls := .type "tuple", data := .seq (vs ++ ws).toArray } })
    (hsz : vs.length + ws.length ≤ sizeLine) : wpAny (model prog w) A (binaryOp .Add (.ref t) (.ref b)) Q E s := by
  obtain ⟨⟨cls, dd, data, sl⟩, ho, hc, n, hd⟩ := id ht
  obtain ⟨⟨cls2, dd2, data2, sl2⟩, ho2, hc2, n2, hd2⟩ := id hb
  simp only at hc hd hc2 hd2
  subst hc hd hc2 hd2
  have e : vs.toArray ++ ws.toArray = (vs ++ ws).toArray := by simp
  by_cases hw : ws = []
  · exact concat_meets ⟨_, ho, rfl⟩ ⟨_, ho2, rfl⟩ noFill_tuple_add seq_tuple_add PySem.F.slot_tuple_add PySem.F.entry_tuple_add (PySem.F.args_tuple_add_2 _ _)
      (tuple_addW1 t b vs.toArray ws.toArray n n2 dd dd2 sl sl2 (by simpa using hv) (by simp [hw])) ⟨ho, ho2, h1 hw⟩
  · refine concat_meets ⟨_, ho, rfl⟩ ⟨_, ho2, rfl⟩ noFill_tuple_add seq_tuple_add PySem.F.slot_tuple_add PySem.F.entry_tuple_add (PySem.F.args_tuple_add_2 _ _)
      (tuple_addW2 t b vs.toArray ws.toArray n n2 dd dd2 sl sl2 (by simpa using hv) (by simpa using hw) (by rw [List.size_toArray, List.size_toArray]; exact hsz)) ⟨ho, ho2, ?_⟩
    rw [e]
    exact h2 hw

/-! ### t[a:b], not the whole -/
/-- a slice's bound as a place among n (d where it is left out) -/
def sIx (n d : Nat) : Option Int → Nat
  | none => d
  | some v => if v < 0 then (v + (n : Int)).toNat else min v.toNat n
theorem sIx_none (n d : Nat) : sIx n d none = d := rfl
theorem sIx_nat (n d k : Nat) : sIx n d (some (k : Int)) = min k n := by
  show (if (k : Int) < 0 then ((k : Int) + (n : Int)).toNat else min (k : Int).toNat n) = min k n
  rw [if_neg (by omega), Int.toNat_natCast]
theorem sIx_le (n d : Nat) (hd : d ≤ n) (o : Option Int) : sIx n d o ≤ n := by
  cases o with
  | none => exact hd
  | some v =>
    show (if v < 0 then (v + (n : Int)).toNat else min v.toNat n) ≤ n
    by_cases hv : v < 0
    · rw [if_pos hv]; omega
    · rw [if_neg hv]; exact Nat.min_le_right _ _
theorem clip_eq (v : Int) (n d : Nat) : (if v < 0 then max (v + (n : Int)) 0 else min v (n : Int)) = ((sIx n d (some v) : Nat) : Int) := by
  show (if v < 0 then max (v + (n : Int)) 0 else min v (n : Int)) = (((if v < 0 then (v + (n : Int)).toNat else min v.toNat n) : Nat) : Int)
  by_cases hv : v < 0
  · simp only [if_pos hv]; omega
  · simp only [if_neg hv]; omega
theorem adjust_gen (lo hi : Option Int) (n : Nat) : Builtin.Slice.sliceAdjust lo hi 1 (n : Int) = (((sIx n 0 lo : Nat) : Int), ((sIx n n hi : Nat) : Int)) := by
  have h1 : ¬ ((1 : Int) < 0) := by omega
  unfold Builtin.Slice.sliceAdjust
  simp only [h1, if_false]
  refine Prod.ext ?_ ?_
  · cases lo with
    | none => rfl
    | some v => exact clip_eq v n 0
  · cases hi with
    | none => rfl
    | some v => exact clip_eq v n n
theorem places_gen (i j : Nat) : Builtin.Slice.slicePlaces (i : Int) (j : Int) 1 = j - i := by
  unfold Builtin.Slice.slicePlaces
  have h1 : (1 : Int) > 0 := by omega
  simp only [h1, if_true, Int.ediv_one]
  split <;> omega
theorem slicePart_ {v : Value} {o : Option Int} {Q : Option Int → Shared → Prop} (p : IsPart v o) (h : Q o s) : wpAny (model prog w) A (Builtin.Slice.slicePartIndex v) Q E s := by
  cases p with
  | none => exact slicePart_none h
  | int i t => exact slicePart_int h
theorem sliceApplied_gen {sl : Addr} {vl vu : Value} {lo hi : Option Int} {n : Nat} {Q : Int × Int × Nat → Shared → Prop} (hs : s.heap.IsSliceOf sl vl vu .none) (pl : IsPart vl lo) (pu : IsPart vu hi)
    (h : Q (((sIx n 0 lo : Nat) : Int), 1, sIx n n hi - sIx n 0 lo) s) : wpAny (model prog w) A (Builtin.Slice.sliceApplied (.ref sl) (pure (n : Int))) Q E s := by
  obtain ⟨os, hos, hcs, hds⟩ := id hs
  unfold Builtin.Slice.sliceApplied Builtin.Slice.sliceFields
  refine wpAny_bind (wpAny_bind (wpAny_field hos hds (x := vl) rfl (wpAny_bind (wpAny_field hos hds (x := vu) rfl (wpAny_bind (wpAny_field hos hds (x := .none) rfl (wpAny_pure ?_)))))))
  refine wpAny_bind (slicePart_none ?_)
  show wpAny _ _ (if ((1 : Int) == 0) = true then _ else _) _ _ s
  rw [if_neg (by decide)]
  refine wpAny_bind (slicePart_ pl (wpAny_bind (slicePart_ pu (wpAny_bind (wpAny_pure ?_)))))
  show wpAny _ _ (match Builtin.Slice.sliceAdjust lo hi 1 (n : Int) with | (lo, hi) => pure (lo, (1 : Int), Builtin.Slice.slicePlaces lo hi 1)) _ _ s
  rw [adjust_gen lo hi n]
  show wpAny _ _ (pure (((sIx n 0 lo : Nat) : Int), (1 : Int), Builtin.Slice.slicePlaces ((sIx n 0 lo : Nat) : Int) ((sIx n n hi : Nat) : Int) 1)) _ _ s
  rw [places_gen]
  exact wpAny_pure h
theorem pick_gen (xs : Array Value) (i k : Nat) : ((List.range k).filterMap fun (m : Nat) => xs[((i : Int) + (m : Int) * 1).toNat]?).toArray = ((xs.toList.drop i).take k).toArray := by
  have e : (fun (m : Nat) => xs[((i : Int) + (m : Int) * 1).toNat]?) = fun m => xs[i + m]? := by
    funext m
    have : ((i : Int) + (m : Int) * 1).toNat = i + m := by omega
    rw [this]
  rw [e]
  have := pick_run xs i k
  rw [List.filterMap_map] at this
  have e2 : ((fun x => xs[x]?) ∘ fun x => i + x) = fun m => xs[i + m]? := rfl
  rw [e2] at this
  rw [this]

theorem getItem_tuple_cut {t sl : Addr} {items : Array Value} {vl vu : Value} {lo hi : Option Int} {Q : Value → Shared → Prop} (ht : IsTup s.heap t items) (hs : s.heap.IsSliceOf sl vl vu .none) (pl : IsPart vl lo) (pu : IsPart vu hi)
    (hw : ¬ (sIx items.size 0 lo = 0 ∧ sIx items.size items.size hi = items.size))
    (h : Q (.ref s.heap.objs.size) { s with heap := s.heap.push { cls := .type "tuple", data := .seq ((items.toList.drop (sIx items.size 0 lo)).take (sIx items.size items.size hi - sIx items.size 0 lo)).toArray } })
    (hsz : items.size ≤ sizeLine) : wpAny (model prog w) A (getItem (.ref t) (.ref sl)) Q E s := by
  have htake : sizeOk (.seq ((items.toList.drop (sIx items.size 0 lo)).take (sIx items.size items.size hi - sIx items.size 0 lo)).toArray) := by
    show ((items.toList.drop (sIx items.size 0 lo)).take (sIx items.size items.size hi - sIx items.size 0 lo)).toArray.size ≤ sizeLine
    rw [List.size_toArray, List.length_take, List.length_drop, Array.length_toList]
    omega
  have hj : sIx items.size items.size hi ≤ items.size := sIx_le _ _ (Nat.le_refl _) hi
  obtain ⟨os, hos, hcs, hds⟩ := id hs
  have hTs : s.TypeIs (.ref sl) "slice" := ⟨os, hos, hcs⟩
  unfold getItem
  try with_reducible refine wpAny_holding ?_
  first | refine wpAny_bind (wpAny_pure ?_) | skip
  refine wpAny_bind (wpAny_sequenceKey ht.typeIs (by decide) ?_)
  refine wpAny_bind (wpAny_callSpecial?_slot (name := Str.ofString "__getitem__") ht.typeIs PyProof.Rows.slot_tuple_getitem
    (wpAny_call_entry PyProof.Rows.slot_tuple_getitem ht.typeIs entry_tuple_getitem ?_ (args_tuple_getitem _ _)))
  show wpAny _ _ (Builtin.Tuple.tupleItemsOf (.ref t) >>= _) _ _ s
  refine wpAny_bind (tupleItemsOf_ ht ?_)
  refine wpAny_bind (wpAny_typeOf hTs ?_)
  rw [if_pos (by decide)]
  refine wpAny_bind (sliceApplied_gen hs pl pu ?_)
  have hno : ¬ ((((sIx items.size 0 lo : Nat) : Int) == 0 && (1 : Int) == 1 && (sIx items.size items.size hi - sIx items.size 0 lo) == items.size) = true) := by
    intro q
    rw [Bool.and_eq_true, Bool.and_eq_true] at q
    have q1 : ((sIx items.size 0 lo : Nat) : Int) = 0 := eq_of_beq q.1.1
    have q2 : sIx items.size items.size hi - sIx items.size 0 lo = items.size := eq_of_beq q.2
    exact hw ⟨by omega, by omega⟩
  show wpAny _ _ (if (((sIx items.size 0 lo : Nat) : Int) == 0 && (1 : Int) == 1 && (sIx items.size items.size hi - sIx items.size 0 lo) == items.size) = true then _ else _) _ _ s
  rw [if_neg hno, pick_gen]
  first
    | exact wpAny_bind (m := Builtin.Tuple.tupleExact _) (wpAny_newObj_type (wpAny_pure ⟨_, rfl, wpAny_pure h⟩) htake)
    | exact wpAny_bind (m := Builtin.Tuple.tupleExact _) (wpAny_newObj_type (wpAny_bind (wpAny_pure (wpAny_pure ⟨_, rfl, wpAny_pure h⟩))) htake)
    | exact wpAny_bind (wpAny_bind (m := Builtin.Tuple.tupleExact _) (wpAny_newObj_type (wpAny_pure (wpAny_pure ⟨_, rfl, wpAny_pure h⟩)) htake))
    | exact wpAny_bind (wpAny_bind (m := Builtin.Tuple.tupleExact _) (wpAny_newObj_type (wpAny_pure ⟨_, rfl, wpAny_pure h⟩) htake))
end
end HT

namespace L2
open PySem PySem.Spec PyProof.Rows

/-! ### the parts of a slice -/
abbrev TO := St → Hp → (Option Int → Hp → Prop) → Prop
/-- a slice's part (left out, or an int) -/
def PO (X : Cx) (e : Option Expr) (t : TO) : Prop :=
  ∀ (pins : List (Addr × Obj)) (s : Shared) (σ : St) (H : Hp) (Q : Option Int → Hp → Prop), Inv X pins σ H s → t σ H Q →
    wpAny (model X.prog X.w) X.A (evalPart e X.env) (fun u s' => ∃ o H', Inv X pins σ H' s' ∧ IsPart u o ∧ Q o H') X.xe s
def tNoPart : TO := fun _ H Q => Q none H
def tPart (t : TE) : TO := fun σ H Q => t σ H fun x H1 => ∃ i, x = .int i ∧ Q (some i) H1

section
variable {X : Cx} {e : Expr} {te : TE} {lo hi : Option Expr} {tl th : TO} {pos p2 : Pos}

theorem po_none : PO X none tNoPart := by
  intro pins s σ H Q I h
  rw [evalPart_none]
  exact wpAny_pure ⟨none, H, I, .none, h⟩
theorem po_some (h : PE X e te) : PO X (some e) (tPart te) := by
  intro pins s σ H Q I hw
  rw [evalPart_some]
  refine thn (h pins s σ H _ I hw) fun u s1 ⟨x, H1, I1, r1, q1⟩ => ?_
  obtain ⟨i, rfl, q⟩ := q1
  obtain ⟨t, rfl⟩ := r1
  exact ⟨some i, H1, I1, .int i t, q⟩

/-- what a slice of a value is, by values: the slice object stands at sl -/
def SlR (X : Cx) (r : V → Option Int → Option Int → Hp → VK → Prop) : Prop :=
  ∀ (pins : List (Addr × Obj)) (s : Shared) (σ : St) (H : Hp) (x : V) (v vl vu : Value) (lo hi : Option Int) (sl : Addr) (Q : VK), Inv X pins σ H s → RelV x v → s.heap.IsSliceOf sl vl vu .none → IsPart vl lo → IsPart vu hi → r x lo hi H Q →
    ∃ T id, typeLookup (.type T) "__getitem__" = pure (some (.builtin id)) ∧ s.TypeIs v T ∧ wpAny (model X.prog X.w) X.A (getItem v (.ref sl)) (EP X pins σ Q) X.xe s
theorem SlR.or {r r' : V → Option Int → Option Int → Hp → VK → Prop} (h : SlR X r) (h' : SlR X r') : SlR X (fun x lo hi H Q => r x lo hi H Q ∨ r' x lo hi H Q) := by
  intro pins s σ H x v vl vu lo hi sl Q I rx hs pl pu q
  rcases q with q | q
  · exact h pins s σ H x v vl vu lo hi sl Q I rx hs pl pu q
  · exact h' pins s σ H x v vl vu lo hi sl Q I rx hs pl pu q
def tSl (r : V → Option Int → Option Int → Hp → VK → Prop) (te : TE) (tl th : TO) : TE := fun σ H Q => te σ H fun x H1 => tl σ H1 fun l H2 => th σ H2 fun u H3 => r x l u H3 Q
/-- a[lo:hi], any a -/
theorem pe_slice {r : V → Option Int → Option Int → Hp → VK → Prop} (hr : SlR X r) (he : PE X e te) (hl : PO X lo tl) (hu : PO X hi th) : PE X (.Subscript e (.Slice lo hi none p2) pos) (tSl r te tl th) := by
  intro pins s σ H Q I h
  refine Subscript_ (thn (he pins s σ H _ I h) fun v s1 ⟨x, H1, I1, r1, q1⟩ => ?_)
  refine wpAny_Slice (thn (hl pins s1 σ H1 _ I1 q1) fun vl s2 ⟨l, H2, I2, pl, q2⟩ => thn (hu pins s2 σ H2 _ I2 q2) fun vu s3 ⟨u, H3, I3, pu, q3⟩ => ?_)
  rw [evalPart_none]
  refine wpAny_pure ?_
  have I4 : Inv X pins σ H3 { s3 with heap := s3.heap.push { cls := .type "slice", data := .fields #[vl, vu, .none] } } := I3.kept (t' := s3.toks) fun b ob q => Heap.get?_push_of_some _ q
  obtain ⟨T, id, hT, ht, hg⟩ := hr pins { s3 with heap := s3.heap.push { cls := .type "slice", data := .fields #[vl, vu, .none] } } σ H3 x v vl vu l u s3.heap.objs.size Q I4 r1 (Heap.IsSliceOf.new ..) pl pu q3
  show wpAny (model X.prog X.w) X.A (subscriptTail e (.Slice lo hi none p2) v (.ref s3.heap.objs.size)) (EP X pins σ Q) X.xe { s3 with heap := s3.heap.push { cls := .type "slice", data := .fields #[vl, vu, .none] } }
  exact tail_any (ops := [.ref s3.heap.objs.size, v]) ht hT hg (by with_unfolding_all rfl)

/-- the items of xs[lo:hi] -/
def cutV (xs : List V) (lo hi : Option Int) : List V := (xs.drop (HT.sIx xs.length 0 lo)).take (HT.sIx xs.length xs.length hi - HT.sIx xs.length 0 lo)
theorem cutV_length (xs : List V) (lo hi : Option Int) : (cutV xs lo hi).length ≤ xs.length := by
  unfold cutV
  rw [List.length_take, List.length_drop]
  omega
/-- t[lo:hi], not the whole of it (the whole would be t itself) -/
def rSlT (K : PySem.W.Frag) : V → Option Int → Option Int → Hp → VK → Prop := fun x lo hi H Q => ∃ a xs, x = .ref a ∧ SqT K H a xs ∧
  ¬ (HT.sIx xs.length 0 lo = 0 ∧ HT.sIx xs.length xs.length hi = xs.length) ∧ ∀ p, H p = none → Q (.ref p) (upd H p (.tup (cutV xs lo hi)))
theorem sl_tup : SlR X (rSlT X.K) := by
  intro pins s σ H x v vl vu lo hi sl Q I rx hs pl pu h
  obtain ⟨a, xs, rfl, hx, hw, q⟩ := h
  cases rx
  obtain ⟨its, r, ht, hz⟩ := I.tuple hx
  have hlen : its.toArray.size = xs.length := by rw [List.size_toArray]; exact r.length.symm
  refine ⟨"tuple", _, PyProof.Rows.slot_tuple_getitem.lookup, ht.typeIs, ?_⟩
  refine HT.getItem_tuple_cut ht hs pl pu (by rw [hlen]; exact hw) ?_ (by rw [hlen]; exact hz)
  rw [hlen]
  refine ⟨.ref s.heap.objs.size, _, I.laid (t' := s.toks) (o := .tup (cutV xs lo hi)) (fun b ob q => Heap.get?_push_of_some _ q) (Nat.le_refl _) ?_, rfl, q _ (I.hok.fresh (Nat.le_refl _))⟩
  exact ⟨Nat.le_trans (cutV_length xs lo hi) hz, _, (r.drop (HT.sIx xs.length 0 lo)).take (HT.sIx xs.length xs.length hi - HT.sIx xs.length 0 lo), IsTup.new _ _⟩

/-! ### t < u, t + u -/
/-- t + u, t not empty: u empty gives t itself -/
def rCatT (K : PySem.W.Frag) : R2 := fun x y H Q => ∃ a b xs ys, x = .ref a ∧ y = .ref b ∧ SqT K H a xs ∧ SqT K H b ys ∧ xs ≠ [] ∧ xs.length + ys.length ≤ sizeLine ∧
  (ys = [] → Q (.ref a) H) ∧ (ys ≠ [] → ∀ p, H p = none → Q (.ref p) (upd H p (.tup (xs ++ ys))))
theorem Vals.nil_iff {xs : List V} {us : List Value} (r : Vals xs us) : us = [] ↔ xs = [] := by
  cases r with
  | nil => simp
  | cons _ _ => simp
theorem op_catT : OpR X (binaryOp .Add) (rCatT X.K) := by
  intro pins s σ H x y v u Q I rx ry h
  obtain ⟨a, b, xs, ys, rfl, rfl, ha, hb, hx, hz, q1, q2⟩ := h
  cases rx
  cases ry
  obtain ⟨its, r1, p1, _⟩ := I.tuple ha
  obtain ⟨its2, r2, p2, _⟩ := I.tuple hb
  refine HT.cat_tup p1 p2 (fun z => hx (r1.nil_iff.mp z)) (fun z => ⟨.ref a, H, I, rfl, q1 (r2.nil_iff.mp z)⟩) (fun z => ?_) (by rw [← r1.length, ← r2.length]; exact hz)
  refine ⟨.ref s.heap.objs.size, _, I.laid (t' := s.toks) (o := .tup (xs ++ ys)) (fun b ob q => Heap.get?_push_of_some _ q) (Nat.le_refl _) ?_, rfl, q2 (fun w => z (r2.nil_iff.mpr w)) _ (I.hok.fresh (Nat.le_refl _))⟩
  exact ⟨by rw [List.length_append]; exact hz, _, r1.append r2, IsTup.new _ _⟩
end
end L2

namespace L2
open PySem PySem.Spec PyProof.Rows

/-! ### places -/
/-- the place that an index of any sign means -/
def ixN (n : Nat) (i : Int) : Option Nat := if 0 ≤ i then (if i < n then some i.toNat else none) else if -(n : Int) ≤ i then some (i + n).toNat else none
def atI {α : Type} (xs : List α) (i : Int) : Option α := (ixN xs.length i).bind fun j => xs[j]?
theorem ixN_seq {n : Nat} {i : Int} {j : Nat} (h : ixN n i = some j) : seqIndex? i n = some j ∧ j < n ∧ -(n : Int) ≤ i ∧ i < n := by
  unfold ixN at h
  by_cases h0 : 0 ≤ i
  · rw [if_pos h0] at h
    by_cases h1 : i < n
    · rw [if_pos h1] at h
      have e : i.toNat = j := Option.some.inj h
      exact ⟨by rw [seqIndex_of h0 h1, e], by omega, by omega, h1⟩
    · rw [if_neg h1] at h; cases h
  · rw [if_neg h0] at h
    by_cases h1 : -(n : Int) ≤ i
    · rw [if_pos h1] at h
      have e : (i + n).toNat = j := Option.some.inj h
      exact ⟨by rw [seqIndex_neg (by omega) h1, e], by omega, h1, by omega⟩
    · rw [if_neg h1] at h; cases h
theorem atI_get {α : Type} {xs : List α} {i : Int} {v : α} (h : atI xs i = some v) : ∃ j, seqIndex? i xs.length = some j ∧ xs[j]? = some v ∧ j < xs.length ∧ -(xs.length : Int) ≤ i ∧ i < xs.length := by
  unfold atI at h
  cases e : ixN xs.length i with
  | none => rw [e] at h; cases h
  | some j =>
    rw [e] at h
    obtain ⟨h1, h2, h3, h4⟩ := ixN_seq e
    exact ⟨j, h1, h, h2, h3, h4⟩
theorem atI_nat {α : Type} {xs : List α} {j : Nat} {v : α} (h : xs[j]? = some v) : atI xs (j : Int) = some v := by
  have hj : j < xs.length := (List.getElem?_eq_some_iff.mp h).1
  have e : ixN xs.length (j : Int) = some j := by
    unfold ixN
    rw [if_pos (by omega), if_pos (by omega)]; simp
  unfold atI; rw [e]; exact h
/-! ### what may be subscripted -/
/-- what stands as an index of a plain subscript -/
def PlainIx (b : Expr) : Prop := ∀ o i, subscripted b false o i = operate [o, i] (getItem o i)
/-- a subscript by values -/
def IxR (X : Cx) (r : R2) : Prop :=
  ∀ (value slice : Expr) (pins : List (Addr × Obj)) (s : Shared) (σ : St) (H : Hp) (x y : V) (v u : Value) (Q : VK), Inv X pins σ H s → RelV x v → RelV y u → r x y H Q →
    subscripted slice false v u = operate [v, u] (getItem v u) → wpAny (model X.prog X.w) X.A (subscriptTail value slice v u) (EP X pins σ Q) X.xe s
/-- a call of a builtin's method by values: the receiver, the arguments -/
def MtR (X : Cx) (id : String) (r : V → List V → Hp → VK → Prop) : Prop :=
  ∀ (pins : List (Addr × Obj)) (s : Shared) (σ : St) (H : Hp) (x : V) (xs : List V) (v : Value) (us : List Value) (Q : VK), Inv X pins σ H s → RelV x v → Vals xs us → r x xs H Q →
    wpAny (model X.prog X.w) X.A (call (.builtin id) (v :: us)) (EP X pins σ Q) X.xe s
section
variable {X : Cx} {a b : Expr} {ta tb : TE} {pos : Pos}
theorem IxR.or {r r' : R2} (h : IxR X r) (h' : IxR X r') : IxR X (fun x y H Q => r x y H Q ∨ r' x y H Q) := by
  intro value slice pins s σ H x y v u Q I rx ry q hs
  rcases q with q | q
  · exact h value slice pins s σ H x y v u Q I rx ry q hs
  · exact h' value slice pins s σ H x y v u Q I rx ry q hs
theorem MtR.or {id : String} {r r' : V → List V → Hp → VK → Prop} (h : MtR X id r) (h' : MtR X id r') : MtR X id (fun x xs H Q => r x xs H Q ∨ r' x xs H Q) := by
  intro pins s σ H x xs v us Q I rx rs q
  rcases q with q | q
  · exact h pins s σ H x xs v us Q I rx rs q
  · exact h' pins s σ H x xs v us Q I rx rs q
/-- a[b] -/
theorem pe_ix {r : R2} (hr : IxR X r) (ha : PE X a ta) (hb : PE X b tb) (hs : PlainIx b) : PE X (.Subscript a b pos) (tOp r ta tb) := by
  intro pins s σ H Q I h
  exact Subscript_ (binT ha hb I h fun v u s2 x y H2 I2 rx ry q => hr a b pins s2 σ H2 x y v u Q I2 rx ry q (hs _ _))

def rIxL (K : PySem.W.Frag) : R2 := fun x y H Q => ∃ p xs i v, x = .ref p ∧ y = .int i ∧ SqL K H p xs ∧ atI xs i = some v ∧ Q v H
def rIxT (K : PySem.W.Frag) : R2 := fun x y H Q => ∃ p xs i v, x = .ref p ∧ y = .int i ∧ SqT K H p xs ∧ atI xs i = some v ∧ Q v H
def rIxS : R2 := fun x y H Q => ∃ z i c, x = .str z ∧ y = .int i ∧ z.length ≤ sizeLine ∧ atI z.cps.toList i = some c ∧ Q (.str ⟨#[c]⟩) H
theorem ix_list : IxR X (rIxL X.K) := by
  intro value slice pins s σ H x y v u Q I rx ry h hs
  obtain ⟨p, xs, i, z, rfl, rfl, hq, he, q⟩ := h
  cases rx
  obtain ⟨t, rfl⟩ := ry
  obtain ⟨its, r, pl, hz⟩ := I.list hq
  obtain ⟨j, h1, h2, h3, h4, h5⟩ := atI_get he
  obtain ⟨w, ew, rw'⟩ := r.get h2
  have hl := r.length
  have hn := line63
  have fin : EP X pins σ Q w s := ⟨z, H, I, rw', q⟩
  by_cases h0 : 0 ≤ i
  · have hj : i.toNat = j := by
      rw [seqIndex_of h0 h5] at h1
      exact Option.some.inj h1
    exact item_listR pl.isList h0 (by omega) (by rw [hj]; simpa using ew) fin hs
  · have hj : (i + (its.toArray.size : Int)).toNat = j := by
      rw [seqIndex_neg (by omega) h4] at h1
      rw [List.size_toArray, ← hl]
      exact Option.some.inj h1
    exact subscriptTail_builtinR (x := w) pl.isList.typeIs slot_list_getitem.lookup
      (wpAny_getItem_list_neg (Q := fun r s' => r = w ∧ EP X pins σ Q r s') pl.isList (by omega) (by rw [List.size_toArray] <;> omega) (by omega) (by rw [hj]; simpa using ew) ⟨rfl, fin⟩) hs
theorem ix_tup : IxR X (rIxT X.K) := by
  intro value slice pins s σ H x y v u Q I rx ry h hs
  obtain ⟨p, xs, i, z, rfl, rfl, hq, he, q⟩ := h
  cases rx
  obtain ⟨t, rfl⟩ := ry
  obtain ⟨its, r, pl, hz⟩ := I.tuple hq
  obtain ⟨j, h1, h2, h3, h4, h5⟩ := atI_get he
  obtain ⟨w, ew, rw'⟩ := r.get h2
  have hl := r.length
  have hn := line63
  have fin : EP X pins σ Q w s := ⟨z, H, I, rw', q⟩
  exact subscriptTail_builtinR (x := w) pl.typeIs slot_tuple_getitem.lookup
    (getItem_tuple (j := j) (Q := fun r s' => r = w ∧ EP X pins σ Q r s') pl (by omega) (by omega) (by rw [List.size_toArray, ← hl]; exact h1) (by simpa using ew) ⟨rfl, fin⟩) hs
theorem ix_str : IxR X rIxS := by
  intro value slice pins s σ H x y v u Q I rx ry h hs
  obtain ⟨z, i, c, rfl, rfl, hz, he, q⟩ := h
  obtain ⟨t, rfl⟩ := rx
  obtain ⟨t', rfl⟩ := ry
  obtain ⟨j, h1, h2, h3, h4, h5⟩ := atI_get he
  have hl : z.cps.toList.length = z.length := by simp [Str.length]
  rw [hl] at h1 h4 h5
  have hn := line63
  exact tail_any (typeIs_str s z t) slot_str_getitem.lookup (getItem_str (c := c) (by
    have e1 : decide (i < -(2 ^ 63 : Int)) = false := decide_eq_false (by omega)
    have e2 : decide (i ≥ 2 ^ 63) = false := decide_eq_false (by omega)
    rw [e1, e2, Bool.or_false]) (by rw [h1]; simpa using h2) ⟨.str ⟨#[c]⟩, H, I.tok _, ⟨_, rfl⟩, q⟩) hs
/-! ### xs[i] = v, any sign -/
/-- the list's object behind a store -/
theorem mapSeq_set (its : List Value) (n j : Nat) (u : Value) : Obj.mapSeq (·.setIfInBounds j u) { cls := .type "list", data := .seq its.toArray n } = { cls := .type "list", data := .seq (its.set j u).toArray n } := by
  simp [Obj.mapSeq]
theorem Inv.lst {pins : List (Addr × Obj)} {σ : St} {H : Hp} {s : Shared} {p : Addr} {xs : List V} (I : Inv X pins σ H s) (h : H p = some (.lst xs)) :
    ∃ (its : List Value) (n : Nat), Vals xs its ∧ s.heap.get? p = some { cls := .type "list", data := .seq its.toArray n } ∧ xs.length ≤ sizeLine := by
  obtain ⟨z, its, n, r, e⟩ := I.hok p _ h
  exact ⟨its, n, r, e, z⟩
/-- the list at p is written by an update of its object -/
theorem Inv.lstUpd {pins : List (Addr × Obj)} {σ : St} {H : Hp} {s : Shared} {p : Addr} {xs ys : List V} {its its' : List Value} {n n' : Nat} {f : Obj → Obj} (I : Inv X pins σ H s) (h : H p = some (.lst xs))
    (ho : s.heap.get? p = some { cls := .type "list", data := .seq its.toArray n }) (hf : f { cls := .type "list", data := .seq its.toArray n } = { cls := .type "list", data := .seq its'.toArray n' }) (r : Vals ys its') (hz : ys.length ≤ sizeLine) (t : Nat) :
    Inv X pins σ (upd H p (.lst ys)) { s with heap := s.heap.update p f, toks := t } := by
  have e : (s.heap.update p f).get? p = some { cls := .type "list", data := .seq its'.toArray n' } := by
    rw [Heap.get?_update_self f ho (by rw [hf] <;> rfl), hf]
  refine I.write (x := p) (e := p) (by rw [h]; trivial) (.inl rfl) (fun b u hb q => (Heap.get?_update_other _ _ (Ne.symm hb)).trans q) ⟨_, e⟩ ?_
  exact ⟨hz, its', n', r, e⟩
def rSetL : V → V → V → Hp → (Hp → Prop) → Prop := fun o i v H Q => ∃ p xs k j, o = .ref p ∧ i = .int k ∧ H p = some (.lst xs) ∧ ixN xs.length k = some j ∧ Q (upd H p (.lst (xs.set j v)))
theorem set_list : PSet X rSetL := by
  intro pins s σ H o i v ov iv u Q I ro ri rv h
  obtain ⟨p, xs, k, j, rfl, rfl, hp, hj, q⟩ := h
  cases ro
  obtain ⟨t, rfl⟩ := ri
  obtain ⟨its, n, r, ho, hz⟩ := I.lst hp
  obtain ⟨h1, h2, h3, h4⟩ := ixN_seq hj
  have hl := r.length
  have hn := line63
  have I' : Inv X pins σ (upd H p (.lst (xs.set j v))) { s with heap := s.heap.update p (Obj.mapSeq (·.setIfInBounds j u)) } :=
    I.lstUpd hp ho (mapSeq_set its n j u) (r.set rv j) (by rw [List.length_set]; exact hz) s.toks
  by_cases h0 : 0 ≤ k
  · have hk : k.toNat = j := by
      rw [seqIndex_of h0 h4] at h1
      exact Option.some.inj h1
    exact PySem.W.ki_setAt ho h0 (by omega) (by rw [List.size_toArray, ← hl]; exact h4) (by rw [hk]; exact ⟨_, I', q⟩)
  · have hk : (k + (its.toArray.size : Int)).toNat = j := by
      rw [seqIndex_neg (by omega) h3] at h1
      rw [List.size_toArray, ← hl]
      exact Option.some.inj h1
    exact PySem.W.ki_setBack ho (by omega) (by rw [List.size_toArray, ← hl]; exact h3) (by omega) (by rw [hk]; exact ⟨_, I', q⟩)

/-! ### slices -/
theorem slice_bounds (lo hi : Option Int) (n : Nat) : (sliceBounds lo hi none n).1 = ((HT.sIx n 0 lo : Nat) : Int) ∧ (sliceBounds lo hi none n).2.1 = ((HT.sIx n n hi : Nat) : Int) ∧ (sliceBounds lo hi none n).2.2 = 1 := by
  refine ⟨?_, ?_, rfl⟩
  · cases lo with
    | none => simp [sliceBounds, HT.sIx]
    | some i =>
      simp only [sliceBounds, HT.sIx, Option.getD_none, show (1 : Int) > 0 by decide, if_true]
      by_cases h : i < 0
      · simp only [h, if_true] <;> omega
      · simp only [h, if_false] <;> omega
  · cases hi with
    | none => simp [sliceBounds, HT.sIx]
    | some i =>
      simp only [sliceBounds, HT.sIx, Option.getD_none, show (1 : Int) > 0 by decide, if_true]
      by_cases h : i < 0
      · simp only [h, if_true] <;> omega
      · simp only [h, if_false] <;> omega
theorem slicePick_cut (its : List Value) (lo hi : Option Int) : slicePick its.toArray lo hi none = ((its.drop (HT.sIx its.length 0 lo)).take (HT.sIx its.length its.length hi - HT.sIx its.length 0 lo)).toArray := by
  obtain ⟨h1, h2, h3⟩ := slice_bounds lo hi its.toArray.size
  unfold slicePick
  rw [h1, h2, h3]
  simp only [sliceRange_one, pick_run, List.size_toArray] <;> rfl
/-- xs[lo:hi] of a list: a new list -/
def rSlL (K : PySem.W.Frag) : V → Option Int → Option Int → Hp → VK → Prop := fun x lo hi H Q => ∃ a xs, x = .ref a ∧ SqL K H a xs ∧ ∀ p, H p = none → Q (.ref p) (upd H p (.lst (cutV xs lo hi)))
theorem sl_list : SlR X (rSlL X.K) := by
  intro pins s σ H x v vl vu lo hi sl Q I rx hs pl pu h
  obtain ⟨a, xs, rfl, hx, q⟩ := h
  cases rx
  obtain ⟨its, r, ht, hz⟩ := I.list hx
  have hlen := r.length
  refine ⟨"list", _, slot_list_getitem.lookup, ht.isList.typeIs, ?_⟩
  refine wpAny_getItem_list_slice ht.isList hs pl pu .none (by simp) ?_ (by rw [List.size_toArray] <;> omega)
  rw [slicePick_cut, ← hlen]
  refine ⟨.ref s.heap.objs.size, _, I.laid (t' := s.toks) (o := .lst (cutV xs lo hi)) (fun b ob q => Heap.get?_push_of_some _ q) (Nat.le_refl _) ?_, rfl, q _ (I.hok.fresh (Nat.le_refl _))⟩
  exact ⟨Nat.le_trans (cutV_length xs lo hi) hz, _, 0, (r.drop (HT.sIx xs.length 0 lo)).take (HT.sIx xs.length xs.length hi - HT.sIx xs.length 0 lo), Heap.get?_push_size _ rfl⟩

/-! ### in, not in: flat items -/
def flatV : V → Bool
  | .non => true
  | .bl _ => true
  | .int _ => true
  | .str _ => true
  | _ => false
/-- == of flat values -/
def eqV : V → V → Bool
  | .non, .non => true
  | .bl a, .bl b => a == b
  | .bl a, .int b => (if a then 1 else 0) == b
  | .int a, .bl b => a == (if b then 1 else 0)
  | .int a, .int b => a == b
  | .str a, .str b => a == b
  | _, _ => false
theorem eqAt_V {A : Around} {s : Shared} {y x : V} {u v : Value} (ry : RelV y u) (rx : RelV x v) (fy : flatV y = true) (fx : flatV x = true) : SeqAt.EqAt A s u v (eqV y x) := by
  cases y with
  | non =>
    cases ry
    cases x with
    | non => cases rx; exact SeqAt.EqAt.same _
    | bl b => cases rx; exact SeqAt.EqAt.none_bool b
    | int b => obtain ⟨t, rfl⟩ := rx; exact SeqAt.EqAt.none_int b t
    | str b => obtain ⟨t, rfl⟩ := rx; exact SeqAt.EqAt.none_str b t
    | _ => exact absurd (show false = true from fx) Bool.false_ne_true
  | bl a =>
    cases ry
    cases x with
    | non => cases rx; exact SeqAt.EqAt.bool_none a
    | bl b => cases rx; exact SeqAt.EqAt.bool_bool a b
    | int b => obtain ⟨t, rfl⟩ := rx; exact SeqAt.EqAt.bool_int a b t
    | str b => obtain ⟨t, rfl⟩ := rx; exact SeqAt.EqAt.bool_str a b t
    | _ => exact absurd (show false = true from fx) Bool.false_ne_true
  | int a =>
    obtain ⟨t', rfl⟩ := ry
    cases x with
    | non => cases rx; exact SeqAt.EqAt.int_none a t'
    | bl b => cases rx; exact SeqAt.EqAt.int_bool a t' b
    | int b => obtain ⟨t, rfl⟩ := rx; exact SeqAt.EqAt.int_int a t' b t
    | str b => obtain ⟨t, rfl⟩ := rx; exact SeqAt.EqAt.int_str a t' b t
    | _ => exact absurd (show false = true from fx) Bool.false_ne_true
  | str a =>
    obtain ⟨t', rfl⟩ := ry
    cases x with
    | non => cases rx; exact SeqAt.EqAt.str_none a t'
    | bl b => cases rx; exact SeqAt.EqAt.str_bool a t' b
    | int b => obtain ⟨t, rfl⟩ := rx; exact SeqAt.EqAt.str_int a t' b t
    | str b => obtain ⟨t, rfl⟩ := rx; exact SeqAt.EqAt.str_str a t' b t
    | _ => exact absurd (show false = true from fx) Bool.false_ne_true
  | _ => exact absurd (show false = true from fy) Bool.false_ne_true
/-- the items' answers, read off the values (a value's own answer does not lean on its token) -/
def eqU (x : V) (u : Value) : Bool := match u with
  | .none => eqV .non x
  | .bool b => eqV (.bl b) x
  | .int i _ => eqV (.int i) x
  | .str z _ => eqV (.str z) x
  | _ => false
theorem eqU_of {x y : V} {u : Value} (r : RelV y u) (f : flatV y = true) : eqU x u = eqV y x := by
  cases y with
  | non => cases r; rfl
  | bl b => cases r; rfl
  | int i => obtain ⟨t, rfl⟩ := r; rfl
  | str z => obtain ⟨t, rfl⟩ := r; rfl
  | _ => exact absurd (show false = true from f) Bool.false_ne_true
theorem any_eqU {x : V} : ∀ {xs : List V} {us : List Value}, Vals xs us → xs.all flatV = true → us.any (eqU x) = xs.any fun y => eqV y x
  | _, _, .nil, _ => rfl
  | y :: xs, u :: us, .cons r t, f => by
    rw [List.all_cons, Bool.and_eq_true] at f
    rw [List.any_cons, List.any_cons, eqU_of r f.1, any_eqU t f.2]
theorem mem_eqAt {A : Around} {s : Shared} {x : V} {v : Value} (rx : RelV x v) (fx : flatV x = true) : ∀ {xs : List V} {us : List Value}, Vals xs us → xs.all flatV = true → ∀ u ∈ us, SeqAt.EqAt A s u v (eqU x u)
  | _, _, .nil, _ => fun u hu => by cases hu
  | y :: xs, u :: us, .cons r t, f => fun u' hu => by
    rw [List.all_cons, Bool.and_eq_true] at f
    rcases List.mem_cons.mp hu with rfl | hu
    · rw [eqU_of r f.1]; exact eqAt_V r rx f.1 fx
    · exact mem_eqAt rx fx t f.2 u' hu
def inV (x : V) (xs : List V) : Bool := xs.any fun y => eqV y x
/-- x in a list or tuple of flat items -/
def rIn (K : PySem.W.Frag) (neg : Bool) : R2 := fun x y H Q => ∃ p xs, y = .ref p ∧ (SqL K H p xs ∨ SqT K H p xs) ∧ flatV x = true ∧ xs.all flatV = true ∧ Q (.bl (if neg then !inV x xs else inV x xs)) H
theorem op_in_seq : OpR X (compareOp .In) (rIn X.K false) := by
  intro pins s σ H x y v u Q I rx ry h
  obtain ⟨p, xs, rfl, hq, fx, fs, q⟩ := h
  cases ry
  rcases hq with hq | hq
  · obtain ⟨its, r, pl, hz⟩ := I.list hq
    refine SeqAt.in_listAt (eqU x) pl.isList (fun w hw => mem_eqAt rx fx r fs w (by simpa using hw)) ⟨.bl _, H, I, rfl, ?_⟩
    rw [show its.toArray.any (eqU x) = its.any (eqU x) by simp, any_eqU r fs]
    exact q
  · obtain ⟨its, r, pl, hz⟩ := I.tuple hq
    refine SeqAt.in_tupleAt (eqU x) pl (fun w hw => mem_eqAt rx fx r fs w (by simpa using hw)) ⟨.bl _, H, I, rfl, ?_⟩
    rw [show its.toArray.any (eqU x) = its.any (eqU x) by simp, any_eqU r fs]
    exact q
theorem op_notIn_seq : OpR X (compareOp .NotIn) (rIn X.K true) := by
  intro pins s σ H x y v u Q I rx ry h
  obtain ⟨p, xs, rfl, hq, fx, fs, q⟩ := h
  cases ry
  rcases hq with hq | hq
  · obtain ⟨its, r, pl, hz⟩ := I.list hq
    refine SeqAt.notIn_listAt (eqU x) pl.isList (fun w hw => mem_eqAt rx fx r fs w (by simpa using hw)) ⟨.bl _, H, I, rfl, ?_⟩
    rw [show its.toArray.any (eqU x) = its.any (eqU x) by simp, any_eqU r fs]
    exact q
  · obtain ⟨its, r, pl, hz⟩ := I.tuple hq
    refine SeqAt.notIn_tupleAt (eqU x) pl (fun w hw => mem_eqAt rx fx r fs w (by simpa using hw)) ⟨.bl _, H, I, rfl, ?_⟩
    rw [show its.toArray.any (eqU x) = its.any (eqU x) by simp, any_eqU r fs]
    exact q
/-! ### len, list(x), tuple(x) of any list or tuple that is read -/
theorem call_len_seq : CallR X (.builtin "len") (fun xs H Q => ∃ p ys, xs = [.ref p] ∧ (SqL X.K H p ys ∨ SqT X.K H p ys) ∧ Q (.int ys.length) H) := by
  intro pins s σ H xs us Q I r h
  obtain ⟨p, ys, rfl, hq, q⟩ := h
  obtain ⟨u, rfl, rx⟩ := vals1 r
  cases rx
  have hn := line63
  rcases hq with hq | hq
  · obtain ⟨its, r', pl, hz⟩ := I.list hq
    have hlen := r'.length
    exact Calls.call_len_list pl.isList (by simp only [List.size_toArray] <;> omega) ⟨.int ys.length, H, I.tok _, ⟨s.toks + 1, by rw [List.size_toArray, hlen]⟩, q⟩
  · obtain ⟨its, r', pl, hz⟩ := I.tuple hq
    have hlen := r'.length
    exact len_tuple pl (by simp only [List.size_toArray] <;> omega) ⟨.int ys.length, H, I.tok _, ⟨s.toks + 1, by rw [List.size_toArray, hlen]⟩, q⟩
theorem CallR.or {f : Value} {r r' : List V → Hp → VK → Prop} (h : CallR X f r) (h' : CallR X f r') : CallR X f (fun xs H Q => r xs H Q ∨ r' xs H Q) := by
  intro pins s σ H xs us Q I rs q
  rcases q with q | q
  · exact h pins s σ H xs us Q I rs q
  · exact h' pins s σ H xs us Q I rs q
theorem call_list_of : CallR X (.type "list") (fun xs H Q => ∃ p ys, xs = [.ref p] ∧ (SqL X.K H p ys ∨ SqT X.K H p ys) ∧ ∀ l, H l = none → Q (.ref l) (upd H l (.lst ys))) := by
  intro pins s σ H xs us Q I r h
  obtain ⟨p, ys, rfl, hq, q⟩ := h
  obtain ⟨u, rfl, rx⟩ := vals1 r
  cases rx
  have fin : ∀ (its : List Value), Vals ys its → ys.length ≤ sizeLine → ∀ (h' : Heap) (c' : Nat), (∀ b o', s.heap.get? b = some o' → h'.get? b = some o') →
      h'.get? s.heap.objs.size = some { cls := .type "list", dict := none, data := .seq its.toArray c', slots := #[] } → EP X pins σ Q (.ref s.heap.objs.size) { s with heap := h' } := fun its r' hz h' c' kp e =>
    ⟨.ref s.heap.objs.size, _, I.laid (t' := s.toks) kp (Nat.le_refl _) (show ObjOk X.prog X.w _ h' _ (.lst ys) from ⟨hz, its, c', r', e⟩), rfl, q _ (I.hok.fresh (Nat.le_refl _))⟩
  rcases hq with hq | hq
  · obtain ⟨its, r', pl, hz⟩ := I.list hq
    have hlen := r'.length
    obtain ⟨o, ho, hc, n, hd⟩ := pl.isList
    exact call_list_seq p (.inl rfl) ho hc hd (fun h' c' kp e => fin its r' hz h' c' kp e) (by simp only [List.size_toArray] <;> omega)
  · obtain ⟨its, r', pl, hz⟩ := I.tuple hq
    have hlen := r'.length
    obtain ⟨o, ho, hc, n, hd⟩ := pl
    exact call_list_seq p (.inr rfl) ho hc hd (fun h' c' kp e => fin its r' hz h' c' kp e) (by simp only [List.size_toArray] <;> omega)
/-! ### the call of a builtin's method: o.m(..) -/
/-- the value is of that builtin type -/
def tyV (K : PySem.W.Frag) (T : String) (x : V) (H : Hp) : Prop := match x with
  | .str _ => T = "str"
  | .int _ => T = "int"
  | .ref p => (T = "list" ∧ ∃ xs, SqL K H p xs) ∨ (T = "tuple" ∧ ∃ o, K.lookup p = some o ∧ o.cls = .type "tuple" ∧ o.dict = none) ∨
      (T = "dict" ∧ ((∃ kvs, H p = some (.dK kvs)) ∨ ∃ kvs, H p = some (.dT kvs))) ∨ (T = "set" ∧ ∃ S n, H p = some (.set S n))
  | _ => False
theorem tyV_is {pins : List (Addr × Obj)} {σ : St} {H : Hp} {s : Shared} {T : String} {x : V} {v : Value} (I : Inv X pins σ H s) (r : RelV x v) (ty : tyV X.K T x H) :
    s.TypeIs v T ∧ ∀ a, v = .ref a → ∃ ob, s.heap.get? a = some ob ∧ ob.dict = none := by
  cases x with
  | str z =>
    obtain ⟨t, rfl⟩ := r
    cases (show T = "str" from ty)
    exact ⟨typeIs_str s z t, fun _ e => nomatch e⟩
  | int i =>
    obtain ⟨t, rfl⟩ := r
    cases (show T = "int" from ty)
    exact ⟨typeIs_int s i t, fun _ e => nomatch e⟩
  | ref p =>
    cases r
    rcases ty with ⟨rfl, xs, hq⟩ | ⟨rfl, o, hk, hc, hd⟩ | ⟨rfl, hk⟩ | ⟨rfl, S, n, hk⟩
    · obtain ⟨its, _, pl, _⟩ := I.list hq
      refine ⟨pl.isList.typeIs, fun a e => ?_⟩
      cases e
      obtain ⟨o, n, e, c, hd, _⟩ := pl
      exact ⟨o, e, hd⟩
    · refine ⟨⟨o, I.kIn p o hk, hc⟩, fun a e => ?_⟩
      cases e
      exact ⟨o, I.kIn _ o hk, hd⟩
    · have z : ∃ o, s.heap.get? p = some o ∧ o.ExactDict := by
        rcases hk with ⟨kvs, hk⟩ | ⟨kvs, hk⟩
        · obtain ⟨_, _, _, _, o, _, _, e, ex, _⟩ := I.hok p _ hk
          exact ⟨o, e, ex⟩
        · obtain ⟨_, _, _, _, o, _, _, e, ex, _⟩ := I.hok p _ hk
          exact ⟨o, e, ex⟩
      obtain ⟨o, e, ex⟩ := z
      refine ⟨⟨o, e, ex.1⟩, fun a e2 => ?_⟩
      cases e2
      exact ⟨o, e, ex.2.1⟩
    · obtain ⟨o, _, _, _, e, ex, _⟩ := I.hok p _ hk
      refine ⟨⟨o, e, ex.1⟩, fun a e2 => ?_⟩
      cases e2
      exact ⟨o, e, ex.2.1⟩
  | _ => exact False.elim ty
def tBM (K : PySem.W.Frag) (T : String) (r : V → List V → Hp → VK → Prop) (to : TE) (t : TA) : TE := fun σ H Q => to σ H fun x H1 => tyV K T x H1 ∧ t σ H1 fun xs H2 => r x xs H2 Q
variable {o e : Expr} {es : List Expr} {to : TE} {t : TA} {name : Str} {apos cpos : Pos} {T id : String} {r : V → List V → Hp → VK → Prop}
theorem pe_bm (pa : PlainAttrs T) (slot : Slot T name id) (hty : typeOf (.builtin id) = pure (.type "method_descriptor")) (hm : MtR X id r) (ho : PE X o to) (ha : PA X (e :: es) t)
    (hbase : attributeBase o name X.env (eval o X.env) = eval o X.env := by rfl)
    (hfew : ((backTo cpos (starEach (e :: es) X.env)).all (fun x => !x.1) && (backToKw cpos (keywordEach [] X.env)).all (fun x => x.1.isSome)
      && decide ((e :: es).length + ([] : List Keyword).length + (if ([] : List Keyword).isEmpty then 0 else 1) < 30)) = true := by rfl)
    (hline : (apos.endLine == cpos.line) = true := by rfl) (hs : starEach (e :: es) X.env = (false, eval e X.env) :: starEach es X.env := by rfl) (hplain : (backTo cpos (starEach es X.env)).any (·.1) = false := by rfl) :
    PE X (.Call (.Attribute o name apos) (e :: es) [] cpos) (tBM X.K T r to t) := by
  intro pins s σ H Q I h
  refine wpAny_Call_method_late hbase hfew hline rfl (thn (ho pins s σ H _ I h) fun v s1 ⟨x, H1, I1, r1, ty, q1⟩ => ?_)
  obtain ⟨h1, h2⟩ := tyV_is I1 r1 ty
  refine ⟨T, id, pa, slot, hty, h1, h2, ?_⟩
  have hA := ha cpos pins s1 σ H1 _ I1 q1
  rw [hs] at hA ⊢
  refine Calls.callWith_builtin (by show (false || (backTo cpos (starEach es X.env)).any (·.1)) = false; rw [hplain] <;> rfl) (Calls.evalArgs_plain ?_)
  exact thn hA fun us s2 ⟨vs, H2, I2, r2, q2⟩ => hm pins s2 σ H2 x vs v us Q I2 r1 r2 q2
/- xs.append(e), list.index on a module's tuple .. are MtR facts of 06m -/
end
end L2

namespace L2
open PySem PySem.Spec PyProof.Rows

def MtM (X : Cx) (id : String) (r : V → List V → Hp → VK → Prop) : Prop :=
  ∀ (pins : List (Addr × Obj)) (s : Shared) (σ : St) (H : Hp) (x : V) (xs : List V) (v : Value) (us : List Value) (Q : VK), Inv X pins σ H s → RelV x v → Vals xs us → r x xs H Q →
    wpAny (model X.prog X.w) X.A (call (.builtin id) (v :: us)) (EP X pins σ Q) X.xe s

/-! ### lists of values -/
theorem Vals.one : ∀ {x : V} {us : List Value}, Vals [x] us → ∃ u, us = [u] ∧ RelV x u
  | _, _, .cons r .nil => ⟨_, rfl, r⟩
theorem Vals.two : ∀ {x y : V} {us : List Value}, Vals [x, y] us → ∃ u v, us = [u, v] ∧ RelV x u ∧ RelV y v
  | _, _, _, .cons r (.cons q .nil) => ⟨_, _, rfl, r, q⟩
theorem Vals.zero : ∀ {us : List Value}, Vals [] us → us = []
  | _, .nil => rfl
section
variable {X : Cx} {pins : List (Addr × Obj)} {σ : St} {H : Hp} {s : Shared} {l b : Addr} {xs ys zs : List V}

/-! ### the two steps: a tracked list is rewritten, a new list is laid -/
theorem Inv.lset {its its' : List Value} {n : Nat} {f : Array Value → Array Value} {t' : Nat} (I : Inv X pins σ H s) (hH : H l = some (.lst xs))
    (e : s.heap.get? l = some { cls := .type "list", data := .seq its.toArray n }) (hf : f its.toArray = its'.toArray) (hv : Vals ys its') (hz : ys.length ≤ sizeLine) :
    Inv X pins σ (upd H l (.lst ys)) { s with heap := s.heap.update l (Obj.mapSeq f), toks := t' } := by
  have q := PySem.IsL.update e f
  rw [hf] at q
  refine I.write (x := l) (e := l) (by rw [hH]; exact trivial) (.inl rfl) (fun b' u hb hu => (Heap.get?_update_other s.heap (Obj.mapSeq f) (Ne.symm hb)).trans hu) ⟨_, q⟩ ?_
  exact ⟨hz, its', _, hv, q⟩
theorem Inv.lnew {its : List Value} {t' : Nat} (I : Inv X pins σ H s) (hv : Vals ys its) (hz : ys.length ≤ sizeLine) :
    Inv X pins σ (upd H s.heap.objs.size (.lst ys)) { s with heap := s.heap.push { cls := .type "list", data := .seq its.toArray }, toks := t' } :=
  I.laid (fun _ _ q => Heap.get?_push_of_some _ q) (Nat.le_refl _) ⟨hz, its, 0, hv, Heap.get?_push_size _ rfl⟩
theorem Inv.fresh (I : Inv X pins σ H s) : H s.heap.objs.size = none := I.hok.fresh (Nat.le_refl _)
theorem Inv.lstM (I : Inv X pins σ H s) (hH : H l = some (.lst xs)) : xs.length ≤ sizeLine ∧ ∃ (its : List Value) (n : Nat), Vals xs its ∧ xs.length = its.length ∧ s.heap.get? l = some { cls := .type "list", data := .seq its.toArray n } := by
  obtain ⟨z, its, n, r, e⟩ := I.hok l _ hH
  exact ⟨z, its, n, r, r.length, e⟩

theorem notLongL {n : Nat} (h : n ≤ sizeLine) : Builtin.List.listTooLong n = false := by
  unfold Builtin.List.listTooLong
  exact decide_eq_false (by omega)
end

section
variable {X : Cx}

/-! ### methods -/
def rAppend : V → List V → Hp → VK → Prop := fun x vs H Q => ∃ l xs y, x = .ref l ∧ vs = [y] ∧ H l = some (.lst xs) ∧ xs.length < sizeLine ∧ Q .non (upd H l (.lst (xs ++ [y])))
theorem mt_append : MtM X "list.append" rAppend := by
  intro pins s σ H x vs v us Q I rx rv h
  obtain ⟨l, xs, y, rfl, rfl, hH, hz, q⟩ := h
  cases rx
  obtain ⟨u, rfl, ru⟩ := rv.one
  obtain ⟨z, its, n, r, hl, e⟩ := I.lstM hH
  refine call_meets F.slot_list_append ⟨_, e, rfl⟩ F.entry_list_append (F.args_list_append_2 _ _) (PySem.list_append l its.toArray n u (by rw [List.size_toArray]; omega)) ⟨e, ?_⟩
  refine ⟨.non, _, I.lset (its' := its ++ [u]) hH e (by simp) (r.append (.cons ru .nil)) ?_, rfl, q⟩
  rw [List.length_append, List.length_singleton]
  omega

/-! ### list + list, list += list, list * int -/
def rCat : R2 := fun x y H Q => ∃ l b xs zs, x = .ref l ∧ y = .ref b ∧ H l = some (.lst xs) ∧ H b = some (.lst zs) ∧ xs.length + zs.length ≤ sizeLine ∧ ∀ p, H p = none → Q (.ref p) (upd H p (.lst (xs ++ zs)))
theorem op_cat : OpR X (binaryOp .Add) rCat := by
  intro pins s σ H x y v u Q I rx ry h
  obtain ⟨l, b, xs, zs, rfl, rfl, hH, hB, hz, q⟩ := h
  cases rx
  cases ry
  obtain ⟨z, its, n, r, hl, e⟩ := I.lstM hH
  obtain ⟨z2, its2, n2, r2, hl2, e2⟩ := I.lstM hB
  refine PySem.P.add_list e e2 ?_ (by rw [List.size_toArray, List.size_toArray]; omega)
  have ea : its.toArray ++ its2.toArray = (its ++ its2).toArray := by simp
  rw [ea]
  exact ⟨.ref _, _, I.lnew (t' := s.toks) (r.append r2) (by rw [List.length_append]; omega), rfl, q _ I.fresh⟩
/-! ### del xs[i] -/
end

/-! ### xs[a:b] = ys -/
section
variable {prog : Program} {w : World} {A : Around} {E : Value → Shared → Prop} {s : Shared}
theorem bounds_run {a c n : Nat} (hac : a ≤ c) (hc : c ≤ n) : sliceBounds (some (a : Int)) (some (c : Int)) none n = ((a : Int), (c : Int), 1) := by
  simp only [sliceBounds, Option.getD_none]
  have h1 : ¬ ((a : Int) < 0) := by omega
  have h2 : ¬ ((c : Int) < 0) := by omega
  simp only [h1, h2, if_false, show (1 : Int) > 0 by decide, if_true]
  congr 1
  · omega
  · congr 1; omega
set_option maxRecDepth 100000 in
/-- list.__setitem__ with a slice of step one and another list -/
theorem setItem_slice {l b sl : Addr} {items new : Array Value} {n n2 : Nat} {vl vu : Value} {a c : Nat} {Q : Unit → Shared → Prop}
    (e : s.heap.get? l = some { cls := .type "list", data := .seq items n }) (e2 : s.heap.get? b = some { cls := .type "list", data := .seq new n2 }) (hne : l ≠ b)
    (hs : s.heap.IsSliceOf sl vl vu .none) (pl : IsPart vl (some (a : Int))) (pu : IsPart vu (some (c : Int))) (hac : a ≤ c) (hc : c ≤ items.size)
    (hsz : items.size + new.size ≤ sizeLine) (h : Q () { s with heap := s.heap.update l (Obj.mapSeq fun xs => xs.extract 0 a ++ new ++ xs.extract c xs.size) }) :
    wpAny (model prog w) A (setItem (.ref l) (.ref sl) (.ref b)) Q E s := by
  have hl : s.heap.IsList l items := PySem.IsL.isList e
  have hb : s.heap.IsList b new := PySem.IsL.isList e2
  obtain ⟨os, hos, hcs, hds⟩ := id hs
  have hTs : s.TypeIs (.ref sl) "slice" := ⟨os, hos, hcs⟩
  have hstep : ¬ ((rawPart none == rawInt 0) = true) := Bool.false_ne_true
  have hsame : Builtin.List.listSameRef (.ref l) (.ref b) = false := by
    unfold Builtin.List.listSameRef
    exact beq_eq_false_iff_ne.mpr hne
  have hmax : (max (a : Int) (c : Int)).toNat = c := by omega
  have hz' : ((fun xs : Array Value => xs.extract 0 a ++ new ++ xs.extract c xs.size) items).size ≤ sizeLine + 1 := by
    simp only [Array.size_append, Array.size_extract]
    omega
  unfold setItem
  try with_reducible refine wpAny_holding ?_
  first | refine wpAny_bind (wpAny_pure ?_) | skip
  refine wpAny_bind (wpAny_sequenceKey hl.typeIs (by decide) ?_)
  refine wpAny_bind (wpAny_callSpecial?_slot (name := Str.ofString "__setitem__") hl.typeIs slot_list_setitem
    (wpAny_call_entry slot_list_setitem hl.typeIs entry_list_setitem ?_ (args_list_setitem _ _ _)))
  show wpAny _ _ (Builtin.List.listSubscript? (.ref sl) >>= _) _ _ s
  refine wpAny_bind ?_
  unfold Builtin.List.listSubscript?
  refine wpAny_bind (wpAny_specialOf hTs slice_no_index ?_)
  simp only [Option.isNone_none, if_true]
  refine wpAny_pure ?_
  show wpAny _ _ (typeOf (.ref sl) >>= _) _ _ s
  refine wpAny_bind (wpAny_typeOf hTs ?_)
  first
    | rw [if_neg (by decide)]
    | refine PySem.W.KFB.if_not (by decide) ?_
  rw [listSliceParts_eq]
  refine wpAny_bind (wpAny_bind (wpAny_field hos hds (x := .none) rfl (wpAny_bind (wpAny_listPart .none ?_))))
  rw [if_neg hstep]
  refine wpAny_bind (wpAny_field hos hds (x := vl) rfl (wpAny_bind (wpAny_listPart pl ?_)))
  refine wpAny_bind (wpAny_field hos hds (x := vu) rfl (wpAny_bind (wpAny_listPart pu (wpAny_pure ?_))))
  first
    | simp only [hsame, Bool.false_eq_true, if_false]
    | refine PySem.W.KFB.if_not hsame ?_
    | (dsimp only
       rw [if_neg (by rw [hsame]; exact Bool.false_ne_true)])
  refine wpAny_bind (m := Builtin.List.listAllItems (.ref b) "must assign iterable to extended slice") ?_
  unfold Builtin.List.listAllItems
  refine wpAny_bind (wpAny_typeOf hb.typeIs ?_)
  first
    | refine PySem.W.KFB.if_so (by decide) ?_
    | rw [if_pos (by decide)]
    | simp only [beq_self_eq_true, Bool.true_or, if_true]
  unfold Builtin.List.listItems
  refine wpAny_bind (wpAny_seqItems e2 rfl (wpAny_pure ?_))
  refine wpAny_bind (wpAny_bind (wpAny_seqItems e rfl (wpAny_pure ?_)))
  refine wpAny_bind (wpAny_of_eq ((sliceIndices_raw (some (a : Int)) (some (c : Int)) none items.size (by simp)).trans (congrArg (pure : Int × Int × Int → Sem (Int × Int × Int)) (bounds_run hac hc))) ?_)
  show wpAny _ _ (if ((1 : Int) == 1) = true then _ else _) _ _ s
  rw [if_pos (by decide)]
  refine wpAny_bind (wpAny_rule ?_)
  first
    | simp only [notLongL hsz, Bool.false_eq_true, if_false]
    | refine PySem.W.KFB.if_not (notLongL hsz) ?_
  first | refine wpAny_bind (wpAny_pure ?_) | skip
  show wpAny _ _ (updateSeq l (fun xs => xs.extract 0 ((a : Int)).toNat ++ new ++ xs.extract (max (a : Int) (c : Int)).toNat xs.size) >>= _) _ _ s
  rw [hmax, Int.toNat_natCast]
  refine wpAny_bind (wpAny_updateSeq (hz := Nat.le_trans (Nat.le_add_right _ _) hsz) (_hz' := hz') e rfl ?_)
  refine wpAny_bind (wpAny_letGo ?_)
  first
    | exact wpAny_bind (wpAny_pure (wpAny_pure ⟨.none, rfl, wpAny_pure h⟩))
    | exact wpAny_pure ⟨.none, rfl, wpAny_pure h⟩
end

section
variable {X : Cx}
end
end L2

namespace L2
open PySem PySem.Spec PyProof.Rows

/-! ### lists of pairs as tables -/
section
variable {κ : Type} [DecidableEq κ]
def valV (kvs : List (κ × V)) (k : κ) : Option V := (kvs.find? fun kv => decide (kv.1 = k)).map (·.2)
/-- in its place, or at the end -/
def putK (kvs : List (κ × V)) (k : κ) (v : V) : List (κ × V) :=
  if (kvs.any fun kv => decide (kv.1 = k)) = true then kvs.map (fun kv => if kv.1 = k then (kv.1, v) else kv) else kvs ++ [(k, v)]
def dropK (kvs : List (κ × V)) (k : κ) : List (κ × V) := kvs.filter fun kv => decide (kv.1 ≠ k)

theorem valV_pos {p : κ × V} {r : List (κ × V)} {k : κ} (e : p.1 = k) : valV (p :: r) k = some p.2 := by simp [valV, List.find?_cons, e]
theorem valV_neg {p : κ × V} {r : List (κ × V)} {k : κ} (e : ¬ p.1 = k) : valV (p :: r) k = valV r k := by simp [valV, List.find?_cons, e]
theorem valV_any (k : κ) : ∀ kvs : List (κ × V), (kvs.any fun kv => decide (kv.1 = k)) = (valV kvs k).isSome
  | [] => rfl
  | p :: r => by
    rw [List.any_cons]
    by_cases e : p.1 = k
    · simp only [valV_pos e, decide_eq_true e, Bool.true_or, Option.isSome_some]
    · rw [valV_neg e, decide_eq_false e, Bool.false_or]; exact valV_any k r
theorem length_putK (kvs : List (κ × V)) (k : κ) (v : V) : (putK kvs k v).length ≤ kvs.length + 1 := by
  unfold putK
  split
  · rw [List.length_map]; omega
  · rw [List.length_append, List.length_cons, List.length_nil]; omega
theorem putK_new {kvs : List (κ × V)} {k : κ} (v : V) (h : valV kvs k = none) : putK kvs k v = kvs ++ [(k, v)] := by
  unfold putK
  rw [valV_any, h]
  exact if_neg (by decide)

theorem RelO.isSome_eq {o : Option V} {u : Option Value} (r : RelO o u) : o.isSome = u.isSome := by
  cases o with
  | none => cases u with
    | none => rfl
    | some _ => exact (show False from r).elim
  | some _ => cases u with
    | none => exact (show False from r).elim
    | some _ => rfl
theorem RelO.getD {o : Option V} {u : Option Value} {d : V} {d' : Value} (r : RelO o u) (rd : RelV d d') : RelV (o.getD d) (u.getD d') := by
  cases o with
  | none => cases u with
    | none => exact rd
    | some _ => exact (show False from r).elim
  | some _ => cases u with
    | none => exact (show False from r).elim
    | some _ => exact r

/-- raw tables of the same keys -/
theorem KV.val {kvs : List (κ × V)} {vs : List (κ × Value)} (r : KV kvs vs) (k : κ) : RelO (valV kvs k) (valueAt vs k) := by
  unfold KV at r
  induction r with
  | nil => exact True.intro
  | @cons p q ps qs h t ih =>
    obtain ⟨h1, h2⟩ := h
    by_cases e : p.1 = k
    · have e' : q.1 = k := h1.symm.trans e
      have b : valueAt (q :: qs) k = some q.2 := by simp [valueAt, List.find?_cons, e']
      rw [valV_pos e, b]; exact h2
    · have e' : ¬ q.1 = k := fun z => e (h1.trans z)
      have b : valueAt (q :: qs) k = valueAt qs k := by simp [valueAt, List.find?_cons, e']
      rw [valV_neg e, b]; exact ih
theorem KV.any {kvs : List (κ × V)} {vs : List (κ × Value)} (r : KV kvs vs) (k : κ) : (kvs.any fun kv => decide (kv.1 = k)) = vs.any fun kv => decide (kv.1 = k) := by
  unfold KV at r
  induction r with
  | nil => rfl
  | cons h t ih => rw [List.any_cons, List.any_cons, ih, h.1]
theorem KV.repl {kvs : List (κ × V)} {vs : List (κ × Value)} (r : KV kvs vs) (k : κ) {y : V} {u : Value} (ry : RelV y u) :
    KV (kvs.map fun kv => if kv.1 = k then (kv.1, y) else kv) (vs.map fun kv => if kv.1 = k then (kv.1, u) else kv) := by
  unfold KV at r ⊢
  induction r with
  | nil => exact .nil
  | @cons p q ps qs h t ih =>
    rw [List.map_cons, List.map_cons]
    refine .cons ?_ ih
    obtain ⟨h1, h2⟩ := h
    by_cases e : p.1 = k
    · rw [if_pos e, if_pos (h1.symm.trans e)]; exact ⟨h1, ry⟩
    · rw [if_neg e, if_neg (fun z => e (h1.trans z))]; exact ⟨h1, h2⟩
theorem KV.put {kvs : List (κ × V)} {vs : List (κ × Value)} (r : KV kvs vs) (k : κ) {y : V} {u : Value} (ry : RelV y u) : KV (putK kvs k y) (stored vs k u) := by
  unfold putK stored
  rw [r.any k]
  by_cases e : (vs.any fun kv => decide (kv.1 = k)) = true
  · rw [if_pos e, if_pos e]; exact r.repl k ry
  · rw [if_neg e, if_neg e]; exact Paired.snoc r ⟨rfl, ry⟩
theorem KV.drop {kvs : List (κ × V)} {vs : List (κ × Value)} (r : KV kvs vs) (k : κ) : KV (dropK kvs k) (without vs k) := by
  unfold KV at r ⊢
  unfold dropK without
  induction r with
  | nil => exact .nil
  | @cons p q ps qs h t ih =>
    obtain ⟨h1, h2⟩ := h
    rw [List.filter_cons, List.filter_cons]
    by_cases e : p.1 = k
    · have a : ¬ decide (p.1 ≠ k) = true := by simp [e]
      have b : ¬ decide (q.1 ≠ k) = true := by simp [h1.symm.trans e]
      rw [if_neg a, if_neg b]; exact ih
    · have e' : ¬ q.1 = k := fun z => e (h1.trans z)
      have a : decide (p.1 ≠ k) = true := by simp [e]
      have b : decide (q.1 ≠ k) = true := by simp [e']
      rw [if_pos a, if_pos b]; exact .cons ⟨h1, h2⟩ ih
theorem KV.keys {kvs : List (κ × V)} {vs : List (κ × Value)} (r : KV kvs vs) : kvs.map (·.1) = vs.map (·.1) := by
  unfold KV at r
  induction r with
  | nil => rfl
  | cons h t ih => rw [List.map_cons, List.map_cons, ih, h.1]
theorem KV.length {kvs : List (κ × V)} {vs : List (κ × Value)} (r : KV kvs vs) : kvs.length = vs.length := Paired.length r
end


/-! ### a tracked dict, its keys ints and texts or tuples of these -/
theorem kV_is {P : Program} {w : World} {k : Key} {u : Value} (r : RelV (kV k) u) : (mixKind P w).is k u = true := by
  cases k with
  | inl i => obtain ⟨t, e⟩ := (show ∃ t, u = Value.int i t from r); subst e; exact mixKind_int P w i t
  | inr x => obtain ⟨t, e⟩ := (show ∃ t, u = Value.str x t from r); subst e; exact mixKind_str P w x t
theorem items_are {P : Program} {w : World} : ∀ {ks : List Key} {us : List Value}, Vals (ks.map kV) us → ItemsAre (mixKind P w) ks us
  | [], _, r => by rw [List.map_nil] at r; cases r; exact .nil
  | k :: ks, _, r => by
    rw [List.map_cons] at r
    cases r with
    | cons h t => exact .cons (kV_is h) (items_are t)

/-- raw entries of a dict with tuple keys -/
abbrev KT (H : Hp) : List (List Key × V) → List (List Key × Addr × Value) → Prop := Paired fun p q => p.1 = q.1 ∧ H q.2.1 = some (.tup (p.1.map kV)) ∧ RelV p.2 q.2.2
theorem KT.val {H : Hp} {kvs : List (List Key × V)} {xs : List (List Key × Addr × Value)} (r : KT H kvs xs) (k : List Key) : RelO (valV kvs k) ((atKey xs k).map (·.2)) := by
  induction r with
  | nil => exact True.intro
  | @cons p q ps qs h t ih =>
    obtain ⟨h1, _, h2⟩ := h
    by_cases e : p.1 = k
    · have e' : q.1 = k := h1.symm.trans e
      have b : atKey (q :: qs) k = some q.2 := by simp [atKey, List.find?_cons, e']
      rw [valV_pos e, b]; exact h2
    · have e' : ¬ q.1 = k := fun z => e (h1.trans z)
      have b : atKey (q :: qs) k = atKey qs k := by simp [atKey, List.find?_cons, e']
      rw [valV_neg e, b]; exact ih
theorem KT.repl {H : Hp} {kvs : List (List Key × V)} {xs : List (List Key × Addr × Value)} (r : KT H kvs xs) (k : List Key) {y : V} {u : Value} (ry : RelV y u) :
    KT H (kvs.map fun kv => if kv.1 = k then (kv.1, y) else kv) (xs.map (putAt k u)) := by
  induction r with
  | nil => exact .nil
  | @cons p q ps qs h t ih =>
    rw [List.map_cons, List.map_cons]
    refine .cons ?_ ih
    obtain ⟨h1, h2, h3⟩ := h
    unfold putAt
    by_cases e : p.1 = k
    · rw [if_pos e, if_pos (h1.symm.trans e)]; exact ⟨h1, h2, ry⟩
    · rw [if_neg e, if_neg (fun z => e (h1.trans z))]; exact ⟨h1, h2, h3⟩
theorem KT.put {H : Hp} {kvs : List (List Key × V)} {xs : List (List Key × Addr × Value)} (r : KT H kvs xs) (k : List Key) {b : Addr} {y : V} {u : Value} (hb : H b = some (.tup (k.map kV))) (ry : RelV y u) :
    KT H (putK kvs k y) (storedH xs k b u) := by
  have e : (kvs.any fun kv => decide (kv.1 = k)) = (atKey xs k).isSome := by
    rw [valV_any, (r.val k).isSome_eq, Option.isSome_map]
  unfold putK storedH
  rw [e]
  by_cases q : (atKey xs k).isSome = true
  · rw [if_pos q, if_pos q]; exact r.repl k ry
  · rw [if_neg q, if_neg q]; exact Paired.snoc r ⟨rfl, hb, ry⟩
theorem KT.keeps {H H' : Hp} {kvs : List (List Key × V)} {xs : List (List Key × Addr × Value)} (r : KT H kvs xs) (ht : ∀ b ys, H b = some (.tup ys) → H' b = some (.tup ys)) : KT H' kvs xs :=
  Paired.mapP r fun _ _ z => ⟨z.1, ht _ _ z.2.1, z.2.2⟩

section
variable {P : Program} {w : World} {H : Hp} {h : Heap} {a : Addr}
theorem rd_of {u : HO} (ok : HOk P w H h) (e : Rd H a u) : ObjOk P w H h a u := e.ok ok
theorem dk_rd {kvs : List (Key × V)} (ok : HOk P w H h) (e : Rd H a (.dK kvs)) : kvs.length ≤ sizeLine ∧ (a == sysModules) = false ∧ ∃ vs, KV kvs vs ∧ h.DictOf (mixKind P w) a vs :=
  show ObjOk P w H h a (.dK kvs) from rd_of ok e
theorem dk_of {kvs : List (Key × V)} (ok : HOk P w H h) (e : H a = some (.dK kvs)) : kvs.length ≤ sizeLine ∧ (a == sysModules) = false ∧ ∃ vs, KV kvs vs ∧ h.DictOf (mixKind P w) a vs := dk_rd ok (.inl e)
/-- a tracked tuple of ints and texts is a key -/
theorem key_of {ks : List Key} (ok : HOk P w H h) (e : H a = some (.tup (ks.map kV))) : (tupleKind (mixKind P w)).is h ks a := by
  obtain ⟨_, its, r, o, h1, h2, n, h3⟩ := (show ObjOk P w H h a (.tup (ks.map kV)) from ok a _ e)
  exact ⟨o, its.toArray, n, h1, h2, h3, by simpa using items_are r⟩
theorem dt_rd {kvs : List (List Key × V)} (ok : HOk P w H h) (e : Rd H a (.dT kvs)) : kvs.length ≤ sizeLine ∧ (a == sysModules) = false ∧
    ∃ xs, KT H kvs xs ∧ h.DictOfH (tupleKind (mixKind P w)) a xs := by
  obtain ⟨z, y, xs, r, o, es, ep, h1, h2, h3, h4, h5⟩ := (show ObjOk P w H h a (.dT kvs) from rd_of ok e)
  refine ⟨z, y, xs, r, o, es, ep, h1, h2, h3, h4, fun x hx => ?_, h5⟩
  have all : ∀ {l : List (List Key × V)} {m : List (List Key × Addr × Value)}, KT H l m → ∀ x ∈ m, (tupleKind (mixKind P w)).is h x.1 x.2.1 := by
    intro l m q
    induction q with
    | nil => intro x hx; exact nomatch hx
    | @cons p q ps qs hq t ih =>
      intro x hx
      rcases List.mem_cons.mp hx with e | hx
      · subst e
        exact key_of ok (by rw [← hq.1]; exact hq.2.1)
      · exact ih x hx
  exact all r x hx
theorem dt_of {kvs : List (List Key × V)} (ok : HOk P w H h) (e : H a = some (.dT kvs)) : kvs.length ≤ sizeLine ∧ (a == sysModules) = false ∧
    ∃ xs, KT H kvs xs ∧ h.DictOfH (tupleKind (mixKind P w)) a xs := dt_rd ok (.inl e)
end

/-- what the dict at a holds at the key y -/
def DGet (H : Hp) (a : Addr) (y : V) (r : Option V) : Prop :=
  (∃ kvs k, Rd H a (.dK kvs) ∧ y = kV k ∧ r = valV kvs k) ∨ ∃ kvs k b, Rd H a (.dT kvs) ∧ y = .ref b ∧ H b = some (.tup (k.map kV)) ∧ r = valV kvs k
/-- the heap behind a[y] = v -/
def DPut (H : Hp) (a : Addr) (y v : V) (H' : Hp) : Prop :=
  (∃ kvs k, H a = some (.dK kvs) ∧ y = kV k ∧ kvs.length < sizeLine ∧ H' = upd H a (.dK (putK kvs k v))) ∨
  ∃ kvs k b, H a = some (.dT kvs) ∧ y = .ref b ∧ H b = some (.tup (k.map kV)) ∧ kvs.length < sizeLine ∧ H' = upd H a (.dT (putK kvs k v))
theorem DGet.k {H : Hp} {a : Addr} {kvs : List (Key × V)} {k : Key} (e : H a = some (.dK kvs)) : DGet H a (kV k) (valV kvs k) := .inl ⟨kvs, k, .inl e, rfl, rfl⟩
theorem DGet.t {H : Hp} {a b : Addr} {kvs : List (List Key × V)} {k : List Key} (e : H a = some (.dT kvs)) (eb : H b = some (.tup (k.map kV))) : DGet H a (.ref b) (valV kvs k) := .inr ⟨kvs, k, b, .inl e, rfl, eb, rfl⟩
theorem DPut.k {H : Hp} {a : Addr} {kvs : List (Key × V)} {k : Key} {v : V} (e : H a = some (.dK kvs)) (hl : kvs.length < sizeLine) : DPut H a (kV k) v (upd H a (.dK (putK kvs k v))) := .inl ⟨kvs, k, e, rfl, hl, rfl⟩
theorem DPut.t {H : Hp} {a b : Addr} {kvs : List (List Key × V)} {k : List Key} {v : V} (e : H a = some (.dT kvs)) (eb : H b = some (.tup (k.map kV))) (hl : kvs.length < sizeLine) :
    DPut H a (.ref b) v (upd H a (.dT (putK kvs k v))) := .inr ⟨kvs, k, b, e, rfl, eb, hl, rfl⟩


section
variable {X : Cx} {pins : List (Addr × Obj)} {σ : St} {H : Hp} {s : Shared} {a : Addr} {y v : V} {u r : Value} {o : Option V} {A : Around} {E : Value → Shared → Prop}

theorem Inv.big (I : Inv X pins σ H s) : sysModules < s.heap.objs.size := by
  have h : mainGlobals < s.heap.objs.size := (I.mod.glob.keeps I.bk).lt
  exact Nat.lt_trans (by decide) h

/-- d[y], there -/
theorem d_getItem {Q : Value → Shared → Prop} (hu : A.units + 1 < cLine) (I : Inv X pins σ H s) (g : DGet H a y (some v)) (ry : RelV y u) (h : ∀ w' s', Inv X pins σ H s' → RelV v w' → Q w' s') :
    wpAny (model X.prog X.w) A (getItem (.ref a) u) Q E s := by
  rcases g with ⟨kvs, k, e, ey, l⟩ | ⟨kvs, k, b, e, ey, eb, l⟩
  · subst ey
    obtain ⟨z, hd, vs, rel, dd⟩ := dk_rd I.hok e
    obtain ⟨w', hw, rw'⟩ := RelO.some_of (v := v) (o := valueAt vs k) (by rw [l]; exact rel.val k)
    exact wpAny_getItem_of (kV_is ry) dd.mapOf hw (h w' _ (I.tok _) rw')
  · subst ey
    cases (show u = Value.ref b from ry)
    obtain ⟨z, hd, xs, rel, dd⟩ := dt_rd I.hok e
    obtain ⟨w', hw, rw'⟩ := RelO.some_of (v := v) (o := (atKey xs k).map (·.2)) (by rw [l]; exact rel.val k)
    obtain ⟨p, hp, hp2⟩ := Option.map_eq_some_iff.mp hw
    refine wpAny_getItem_heap (tupleKind_room_in1 hu) (key_of I.hok eb) dd hp ?_
    rw [hp2]
    exact h w' _ (I.tok _) rw'
/-- y in d -/
theorem d_in {Q : Value → Shared → Prop} (hu : A.units + 1 < cLine) (I : Inv X pins σ H s) (g : DGet H a y o) (ry : RelV y u) (h : ∀ s', Inv X pins σ H s' → Q (.bool o.isSome) s') :
    wpAny (model X.prog X.w) A (compareOp .In u (.ref a)) Q E s := by
  rcases g with ⟨kvs, k, e, ey, l⟩ | ⟨kvs, k, b, e, ey, eb, l⟩
  · subst ey
    obtain ⟨z, hd, vs, rel, dd⟩ := dk_rd I.hok e
    refine wpAny_in_of (kV_is ry) hd dd.mapOf ?_
    rw [← (rel.val k).isSome_eq, ← l]
    exact h _ (I.tok _)
  · subst ey
    cases (show u = Value.ref b from ry)
    obtain ⟨z, hd, xs, rel, dd⟩ := dt_rd I.hok e
    refine wpAny_in_heap (tupleKind_room_in1 hu) (key_of I.hok eb) hd dd ?_
    have q := (rel.val k).isSome_eq
    rw [Option.isSome_map] at q
    rw [← q, ← l]
    exact h _ (I.tok _)
theorem d_notIn {Q : Value → Shared → Prop} (hu : A.units + 1 < cLine) (I : Inv X pins σ H s) (g : DGet H a y o) (ry : RelV y u) (h : ∀ s', Inv X pins σ H s' → Q (.bool (!o.isSome)) s') :
    wpAny (model X.prog X.w) A (compareOp .NotIn u (.ref a)) Q E s := by
  rcases g with ⟨kvs, k, e, ey, l⟩ | ⟨kvs, k, b, e, ey, eb, l⟩
  · subst ey
    obtain ⟨z, hd, vs, rel, dd⟩ := dk_rd I.hok e
    refine wpAny_notIn_of (kV_is ry) hd dd.mapOf ?_
    rw [← (rel.val k).isSome_eq, ← l]
    exact h _ (I.tok _)
  · subst ey
    cases (show u = Value.ref b from ry)
    obtain ⟨z, hd, xs, rel, dd⟩ := dt_rd I.hok e
    refine wpAny_notIn_heap (tupleKind_room_in1 hu) (key_of I.hok eb) hd dd ?_
    have q := (rel.val k).isSome_eq
    rw [Option.isSome_map] at q
    rw [← q, ← l]
    exact h _ (I.tok _)
/-- a dict's object is replaced -/
theorem d_write {h' : Heap} {t' : Nat} {ob : HO} (I : Inv X pins σ H s) (mu : Mut (H a)) (hs : Heap.SameBut a s.heap h') (he : ∃ q, h'.get? a = some q) (new : ObjOk X.prog X.w (upd H a ob) h' a ob) :
    Inv X pins σ (upd H a ob) { s with heap := h', toks := t' } :=
  I.write (x := a) (e := a) mu (.inl rfl) (fun b q hb z => (hs.2 b hb).trans z) he new
theorem dk_new {P : Program} {w : World} {H' : Hp} {h' : Heap} {kvs : List (Key × V)} {vs : List (Key × Value)} (z : kvs.length ≤ sizeLine) (hd : (a == sysModules) = false) (rel : KV kvs vs) (dd : h'.DictOf (mixKind P w) a vs) :
    ObjOk P w H' h' a (.dK kvs) := ⟨z, hd, vs, rel, dd⟩
/-- d[y] = v -/
theorem d_setItem {H' : Hp} {Q : Unit → Shared → Prop} (hu : A.units + 1 < cLine) (I : Inv X pins σ H s) (g : DPut H a y v H') (ry : RelV y u) (rv : RelV v r) (h : ∀ s', Inv X pins σ H' s' → Q () s') :
    wpAny (model X.prog X.w) A (setItem (.ref a) u r) Q E s := by
  rcases g with ⟨kvs, k, e, ey, l, eH⟩ | ⟨kvs, k, b, e, ey, eb, l, eH⟩
  · subst ey eH
    obtain ⟨z, hd, vs, rel, dd⟩ := dk_of I.hok e
    have hz : vs.length ≤ sizeLine := by rw [← rel.length]; exact z
    have hl : (putK kvs k v).length ≤ sizeLine := by have := length_putK kvs k v; omega
    refine wpAny_setItem_pairs (hsz := hz) (kV_is ry) dd fun h' dd' hs => h _ ?_
    have he : ∃ q, h'.get? a = some q := let ⟨q, _, _, hq, _⟩ := dd'; ⟨q, hq⟩
    exact d_write I (by rw [e]; exact True.intro) hs he (dk_new hl hd (rel.put k rv) dd')
  · subst ey eH
    cases (show u = Value.ref b from ry)
    obtain ⟨z, hd, xs, rel, dd⟩ := dt_of I.hok e
    have hz : xs.length ≤ sizeLine := by rw [← Paired.length rel]; exact z
    have hl : (putK kvs k v).length ≤ sizeLine := by have := length_putK kvs k v; omega
    refine wpAny_setItem_heap (hsz := hz) (tupleKind_room_in1 hu) (key_of I.hok eb) dd fun h' dd' hs => h _ ?_
    obtain ⟨q, es, ep, hq, h2, h3, h4, _, h5⟩ := dd'
    refine d_write I (by rw [e]; exact True.intro) hs ⟨q, hq⟩ ⟨hl, hd, _, (rel.put k eb rv).keeps fun c ys ec => ?_, q, es, ep, hq, h2, h3, h4, h5⟩
    rw [upd_ne (ne_of ec e (fun z => nomatch z))]
    exact ec
end

section
variable {X : Cx} {pins : List (Addr × Obj)} {σ : St} {H : Hp} {s : Shared} {a : Addr} {kvs : List (Key × V)} {k : Key} {u : Value} {A : Around} {E : Value → Shared → Prop}
end


/-! ### readings and rules -/
/-- the element of a subscription, not a slice -/
def NoSl (i : Expr) : Prop := ∀ ov iv, subscripted i false ov iv = operate [ov, iv] (getItem ov iv)
theorem subD_of {prog : Program} {w : World} {A : Around} {E : Value → Shared → Prop} {s : Shared} {env : Env} {value slice : Expr} {pos : Pos} {T id : String} {Q : Value → Shared → Prop}
    (hl : typeLookup (.type T) "__getitem__" = pure (some (.builtin id))) (hs : NoSl slice)
    (h : wpAny (model prog w) A (eval value env) (fun o s₁ => wpAny (model prog w) A (eval slice env) (fun i s₂ => s₂.TypeIs o T ∧ wpAny (model prog w) A (getItem o i) Q E s₂) E s₁) E s) :
    wpAny (model prog w) A (eval (.Subscript value slice pos) env) Q E s := by
  refine Subscript_ (wpAny_mono h (fun o s₁ h₁ => wpAny_mono h₁ (fun i s₂ h₂ => ?_) fun _ _ x => x) fun _ _ x => x)
  obtain ⟨hT, h₂⟩ := h₂
  unfold subscriptTail
  refine wpAny_bind ?_
  rw [getitemInPython_of_ne hT.not_modules]
  refine wpAny_bind (wpAny_specialOf hT hl ?_)
  have fin : wpAny (model prog w) A (subscripted slice false o i) (fun r s₃ => wpAny (model prog w) A (letTemporaryGo value o r >>= fun _ => pure r) Q E s₃) E s₂ := by
    rw [hs o i]
    exact wpAny_operating (wpAny_mono h₂ (fun r s₃ h₃ => wpAny_bind (wpAny_letTemporaryGo (wpAny_pure h₃))) fun _ _ x => x)
  first
    | exact wpAny_pure (wpAny_bind fin)
    | exact wpAny_bind (wpAny_pure (wpAny_bind fin))
    | exact wpAny_bind fin

theorem dict_typeIs {X : Cx} {pins : List (Addr × Obj)} {σ : St} {H : Hp} {s : Shared} {a : Addr} {y : V} {o : Option V} (I : Inv X pins σ H s) (g : DGet H a y o) : s.TypeIs (.ref a) "dict" := by
  rcases g with ⟨kvs, k, e, _, _⟩ | ⟨kvs, k, b, e, _, _, _⟩
  · obtain ⟨_, _, vs, _, dd⟩ := dk_rd I.hok e
    exact dd.typeIs
  · obtain ⟨_, _, xs, _, dd⟩ := dt_rd I.hok e
    exact dd.typeIs
/-- d[y] -/
def tDGet (td ty : TE) : TE := fun σ H Q => td σ H fun x H1 => ty σ H1 fun y H2 => ∃ a v, x = .ref a ∧ DGet H2 a y (some v) ∧ Q v H2
/-- y in d, y not in d -/
def tDIn (ty td : TE) : TE := fun σ H Q => ty σ H fun y H1 => td σ H1 fun x H2 => ∃ a o, x = .ref a ∧ DGet H2 a y o ∧ Q (.bl o.isSome) H2
def tDNotIn (ty td : TE) : TE := fun σ H Q => ty σ H fun y H1 => td σ H1 fun x H2 => ∃ a o, x = .ref a ∧ DGet H2 a y o ∧ Q (.bl (!o.isSome)) H2
/-- d[y] = v -/
def sDPut (td ty tv : TE) : TS := fun D σ H => tv σ H fun v H1 => td σ H1 fun x H2 => ty σ H2 fun y H3 => ∃ a H4, x = .ref a ∧ DPut H3 a y v H4 ∧ D.nx σ H4
section
variable {X : Cx} {o i e value : Expr} {pos pos' tpos : Pos} {td ty tv : TE}
theorem pe_dget (hu : X.A.units + 1 < cLine) (ho : PE X o td) (hi : PE X i ty) (hs : NoSl i) : PE X (.Subscript o i pos) (tDGet td ty) := by
  intro pins s σ H Q I h
  refine subD_of PySem.F.slot_dict_getitem.lookup hs (thn (ho pins s σ H _ I h) fun u s1 ⟨x, H1, I1, rx, q1⟩ => thn (hi pins s1 σ H1 _ I1 q1) fun iv s2 ⟨y, H2, I2, ry, a, v, ex, g, q2⟩ => ?_)
  subst ex
  obtain rfl : u = Value.ref a := rx
  exact ⟨dict_typeIs I2 g, d_getItem hu I2 g ry fun w' s3 I3 rw' => ⟨v, H2, I3, rw', q2⟩⟩
theorem pc_din (hu : X.A.units + 1 < cLine) (hi : PE X i ty) (ho : PE X o td) : PC X .In i o (tDIn ty td) := by
  intro pins s σ H Q I h
  refine thn (hi pins s σ H _ I h) fun iv s1 ⟨y, H1, I1, ry, q1⟩ => thn (ho pins s1 σ H1 _ I1 q1) fun u s2 ⟨x, H2, I2, rx, a, ov, ex, g, q2⟩ => ?_
  subst ex
  obtain rfl : u = Value.ref a := rx
  exact d_in hu I2 g ry fun s3 I3 => ⟨.bl ov.isSome, H2, I3, rfl, q2⟩
theorem pc_dnotin (hu : X.A.units + 1 < cLine) (hi : PE X i ty) (ho : PE X o td) : PC X .NotIn i o (tDNotIn ty td) := by
  intro pins s σ H Q I h
  refine thn (hi pins s σ H _ I h) fun iv s1 ⟨y, H1, I1, ry, q1⟩ => thn (ho pins s1 σ H1 _ I1 q1) fun u s2 ⟨x, H2, I2, rx, a, ov, ex, g, q2⟩ => ?_
  subst ex
  obtain rfl : u = Value.ref a := rx
  exact d_notIn hu I2 g ry fun s3 I3 => ⟨.bl (!ov.isSome), H2, I3, rfl, q2⟩
theorem ps_dput (hu : X.A.units + 1 < cLine) (ho : PE X o td) (hi : PE X i ty) (hv : PE X value tv) (hs : swapsWith value (some (.Subscript o i pos')) pos.line X.env = pure false) :
    PS X (.Assign [.Subscript o i pos'] value pos) (sDPut td ty tv) := by
  intro pins s σ H D I h
  refine wpAny_Assign_Subscript (thn (hv pins s σ H _ I h) fun r s1 ⟨v, H1, I1, rv, q1⟩ => thn (ho pins s1 σ H1 _ I1 q1) fun u s2 ⟨x, H2, I2, rx, q2⟩ => thn (hi pins s2 σ H2 _ I2 q2) fun iv s3 ⟨y, H3, I3, ry, a, H4, ex, g, q3⟩ => ?_) hs
  subst ex
  obtain rfl : u = Value.ref a := rx
  exact d_setItem hu I3 g ry rv fun s4 I4 => ⟨σ, H4, I4, q3⟩
end


/-! ### displays -/
theorem dt_empty {P : Program} {w : World} {H : Hp} (h : Heap) (hb : sysModules < h.objs.size) : ObjOk P w H (h.push { cls := .type "dict", data := .dict #[] }) h.objs.size (.dT []) :=
  ⟨Nat.zero_le _, beq_eq_false_iff_ne.mpr (Ne.symm (Nat.ne_of_lt hb)), [], .nil, _, #[], 0, Heap.get?_push_size _ rfl, ⟨rfl, rfl, rfl⟩, rfl, rfl, List.nodup_nil⟩
def tDNewT : TE := fun _ H Q => ∀ p, H p = none → Q (.ref p) (upd H p (.dT []))
section
variable {X : Cx} {pos : Pos}
theorem pe_dnewT : PE X (.Dict [] [] pos) tDNewT := fun pins s σ H Q I h =>
  wpAny_Dict_empty ⟨.ref s.heap.objs.size, _, I.laid (a := s.heap.objs.size) (o := .dT []) (t' := s.toks) (fun _ _ q => Heap.get?_push_of_some _ q) (Nat.le_refl _) (dt_empty s.heap I.big), rfl, h _ (I.hok.fresh (Nat.le_refl _))⟩
end

/-- the pairs of a display, from the left -/
def tPairs : List (TE × TE) → St → Hp → (List (V × V) → Hp → Prop) → Prop
  | [], _, H, Q => Q [] H
  | (tk, tv) :: r, σ, H, Q => tk σ H fun x H1 => tv σ H1 fun y H2 => tPairs r σ H2 fun ps H3 => Q ((x, y) :: ps) H3
abbrev VV : List (V × V) → List (Value × Value) → Prop := Paired fun p q => RelV p.1 q.1 ∧ RelV p.2 q.2
def PPs (X : Cx) (pos : Pos) (keys : List (Option Expr)) (values : List Expr) (trs : List (TE × TE)) : Prop :=
  ∀ (pins : List (Addr × Obj)) (s : Shared) (σ : St) (H : Hp) (Q : List (V × V) → Hp → Prop), Inv X pins σ H s → tPairs trs σ H Q →
    wpAny (model X.prog X.w) X.A (evalPairs (pairTrees keys values X.env pos)) (fun vs s' => ∃ ps H', Inv X pins σ H' s' ∧ VV ps vs ∧ Q ps H') X.xe s
/-! ### methods -/
/-- a method call o.m(e) of a built-in, with one argument: what must be seen of the text -/
structure M1 (X : Cx) (o : Expr) (m : Str) (apos : Pos) (e : Expr) (cpos : Pos) : Prop where
  base : attributeBase o m X.env (eval o X.env) = eval o X.env
  few : ((backTo cpos (starEach [e] X.env)).all (fun x => !x.1) && (backToKw cpos (keywordEach [] X.env)).all (fun x => x.1.isSome)
    && decide (([e] : List Expr).length + ([] : List Keyword).length + (if ([] : List Keyword).isEmpty then 0 else 1) < 30)) = true
  line : (apos.endLine == cpos.line) = true
  trees : backTo cpos (starEach [e] X.env) = [(false, eval e X.env)]
structure M2 (X : Cx) (o : Expr) (m : Str) (apos : Pos) (e f : Expr) (cpos : Pos) : Prop where
  base : attributeBase o m X.env (eval o X.env) = eval o X.env
  few : ((backTo cpos (starEach [e, f] X.env)).all (fun x => !x.1) && (backToKw cpos (keywordEach [] X.env)).all (fun x => x.1.isSome)
    && decide (([e, f] : List Expr).length + ([] : List Keyword).length + (if ([] : List Keyword).isEmpty then 0 else 1) < 30)) = true
  line : (apos.endLine == cpos.line) = true
  trees : backTo cpos (starEach [e, f] X.env) = [(false, eval e X.env), (false, eval f X.env)]

section
variable {X : Cx} {pins : List (Addr × Obj)} {σ : St} {H : Hp} {s : Shared} {a : Addr} {y d : V} {u r : Value} {o : Option V} {A : Around} {E : Value → Shared → Prop}
end

section
variable {X : Cx} {o e f : Expr} {apos cpos : Pos} {td ty tx : TE}
end

/-! ### dict(d): a copy -/
section
variable {X : Cx} {pins : List (Addr × Obj)} {σ : St} {H : Hp} {s : Shared} {a : Addr} {kvs : List (Key × V)} {A : Around} {E : Value → Shared → Prop}
end


section
variable {X : Cx} {pins : List (Addr × Obj)} {σ : St} {H : Hp} {s : Shared} {a : Addr} {y : V} {u : Value} {A : Around} {E : Value → Shared → Prop}
end
end L2

namespace Att
open PySem PySem.W PySem.Calls PyProof.Rows

/-! ### the script -/
theorem ints_of_wellAll {P : Params} {h : Heap} : ∀ (ns : List Int) (vs : List Value), WellAll P h vs (ns.map WData.int) → IntsAre vs ns := by
  intro ns
  induction ns with
  | nil =>
    intro vs w
    rw [List.map_nil] at w
    cases w
    exact .nil
  | cons n ns ih =>
    intro vs w
    rw [List.map_cons] at w
    cases w with
    | cons a b =>
      cases a
      exact .cons _ _ (ih _ b)

theorem script_of {l : OpenLaw} {n : Nat} (hn : l.most = some n) {P : Params} {h : Heap} {args : List WData} {vals : List Value}
    (hpre : l.row.toRowW.claim.pre args = true) (hwl : WellAll P h vals args) :
    ∃ a vs ns, vals = [Value.ref a] ∧ args = [WData.list (ns.map WData.int)] ∧ h.get? a = some { cls := .type "list", data := .seq vs.toArray } ∧ IntsAre vs ns ∧ ns.length ≤ n := by
  have hsh : WShape.hasAll [] args [.list .int] = true := (pre_splitW hpre).1
  have hc : l.pre.holds [] { args := args } = true := (pre_splitW hpre).2
  obtain ⟨d, r, rfl, h1, h2⟩ := hasAllW_cons hsh
  obtain rfl := hasAllW_nil h2
  obtain ⟨xs, rfl, h3⟩ := hasW_list h1
  obtain ⟨ns, rfl⟩ := items_int h3
  have hlen : ns.length ≤ n := by
    unfold OpenLaw.pre at hc
    have h4 : (WTm.not (.lt (.lit (.int (n : Int))) (.len (.arg 0)))).holds [] { args := [.list (ns.map .int)] } = true := by
      have h4 := (holds_andW hc).1
      rw [hn] at h4
      exact h4
    have h5 := condW_of h4 (w_not (w_lt w_lit (w_len_list (w_arg rfl))))
    rw [List.length_map] at h5
    refine Nat.le_of_not_lt fun q => ?_
    have q' : (n : Int) < ((ns.length : Nat) : Int) := by omega
    first
      | (rw [decide_eq_true q'] at h5; exact absurd h5 (by decide))
      | (simp at h5; omega)
  cases hwl with
  | cons w1 w2 =>
    cases w2
    cases w1 with
    | list ho hall => exact ⟨_, _, ns, rfl, rfl, ho, ints_of_wellAll ns _ hall, hlen⟩

theorem post_true (l : OpenLaw) (args : List WData) : l.row.toRowW.claim.post args (.bool true) args = true :=
  postW_of (r := l.row.toRowW) (X := (true == true))
    (show WShape.has [] (.bool true) .bool = true by first | rfl | decide | simp [WShape.has, WShape.arms, WShape.armsAll])
    (show (WTm.eq .res (.lit (.bool true))).value [] { args := args, res := some (.bool true), after := args } = some (.bool (true == true)) from w_eq_bool (w_res rfl) w_lit) rfl

/-! ### the attachment: holds_open's last premise (the goal 'hc' behind k_head) from a wpAny of the law's body -/
/-- the same from a codeAny of the CALL (for a layer whose function contracts speak of calls) -/
theorem attach_call {l : OpenLaw} {n : Nat} {q : Program} {loose : List Str} {XP : (Str → Option Value) → Heap → Prop} {YP : World → Heap → Prop} {d : DefRec}
    (hn : l.most = some n) (hdf : d.params.defaults = [])
    (call : ∀ (w : World) (s₀ s₁ : Shared) (mg mb : Str → Option Value) (fa : Addr) (o : Obj) (pm cd doc : Value) (a : Addr) (vs : List Value) (ns : List Int),
      Ground q loose [] XP w s₀ mg mb s₁.heap → YP w s₁.heap →
      s₁.heap.get? fa = some o → o.data = .func (docDef d.name d.params d.body d.scope pm cd doc) → s₁.heap.CodeRec cd d.name → mg d.name = some (.ref fa) →
      s₁.heap.get? a = some { cls := .type "list", data := .seq vs.toArray } → IntsAre vs ns → ns.length ≤ n → s₁.gens = #[] →
      codeAny (model l.prog w) callerA (.call (.ref fa) ⟨[.ref a], []⟩) (fun r s' => r = .ok (.ret (.bool true)) ∧ OldK s₁.heap s'.heap ∧ s'.os = s₁.os ∧ AllBare s'.gens) s₁) :
    WalkO q loose XP YP l.row.toRowW d [] (fun f vs => PySem.call f vs) := by
  intro w s₀ s₁ mg mb G Y fa o pm cd doc dV kV ho hd hcd hD hmg hg args vals as hpre hlay hrd hwl hlo
  obtain rfl : dV = .none := Dflts.none hD hdf
  obtain rfl : kV = .none := Dflts.noKw hD
  obtain ⟨a, vs, ns, rfl, rfl, hobj, hints, hlen⟩ := script_of hn hpre hwl
  refine enter_call (codeAny_mono (call w s₀ s₁ mg mb fa o pm cd doc a vs ns G Y ho (fd_plain hd) hcd hmg hobj hints hlen hg) fun r s' hq => ?_)
  obtain ⟨rfl, h2, h3, h4⟩ := hq
  exact ⟨.inl ⟨.bool true, .bool true, [], rfl, fun _ => rfl, .bool true, post_true l _, fun _ => ⟨List.Pairwise.nil, fun _ hm => (nomatch hm)⟩⟩, h2, h3, h4⟩

/-! ### rules over ANY heap (no ledger) from facts about the written part K: the library's own take a ledger (News) for what they write -/
section
variable {prog : Program} {w : World} {A : Around} {E : Value → Shared → Prop} {s : Shared} {K : Frag}

/-! the whole heap as the ledger: makes every rule that writes through a ledger a rule over any heap -/
def ledger (h : Heap) (L d : Addr) : List (Addr × Obj) := (List.range h.objs.size).filterMap fun a => if a = L ∨ a = d then none else (h.get? a).map fun o => (a, o)
end
end Att

namespace L2
open PySem PySem.Spec PyProof.Rows

theorem vals_ints : ∀ {vs : List Value} {ns : List Int}, IntsAre vs ns → Vals (ns.map V.int) vs
  | _, _, .nil => .nil
  | _, _, .cons n t h => .cons ⟨t, rfl⟩ (vals_ints h)

/-- nothing is tracked but the script, known to the object (or it is an object of the module) -/
def Only (H : Hp) : Prop := ∀ b, H b = none ∨ ∃ o xs, H b = some (.frz o (.lst xs))

/-- THE HEAD: the law's promise, at the heap behind the top. F, the promise of the law's def, may use that base is part of the heap (so K.In base, base.Ns mainGlobals mg stand in Mod) -/
theorem law_call {P : Program} {w : World} {K : PySem.W.Frag} {mg mb : Str → Option Value} {CX : CXT} {k : Nat} {fa a : Addr} {fd : FuncData} {x : Str} {sp : Sp} {s₁ : Shared} {vs : List Value} {ns : List Int}
    (KX : K.In s₁.heap) (hns : s₁.heap.Ns mainGlobals mg) (hb : s₁.heap.Ns builtinsNs mb) (hbb : ∀ x : Str, x ≠ "__name__" → mb x = bootBuiltins x) (hlim : s₁.heap.NoLimit) (hg : s₁.gens = #[])
    (ha : s₁.heap.get? a = some { cls := .type "list", data := .seq vs.toArray }) (hi : IntsAre vs ns) (hl : ns.length ≤ sizeLine) (hr : Room k callerA)
    (F : ∀ base : Heap, K.In base → base.Ns mainGlobals mg → FnOk P w K mg base CX k fa fd [x] sp) (hbind : ∀ (s : Shared) (u : Value), BindsTo s fd ⟨[u], []⟩ [(x, u)])
    (hsp : ∀ H : Hp, Only H → SqL K H a (ns.map V.int) → sp [.ref a] H (fun v _ => v = .bl true) fun _ _ _ => False)
    (hCX : ∀ H e s', CX [] H s₁ (fun _ _ _ => False) e s' → False) :
    codeAny (model P w) callerA (.call (.ref fa) ⟨[.ref a], []⟩) (fun r s' => r = .ok (.ret (.bool true)) ∧ OldK s₁.heap s'.heap ∧ s'.os = s₁.os ∧ AllBare s'.gens) s₁ := by
  have rv := vals_ints hi
  have lenV := hi.length
  -- from an abstract heap in which nothing but the script may be tracked
  have core : ∀ H : Hp, Only H → SqL K H a (ns.map V.int) → HOk P w H s₁.heap → (∀ b, H b ≠ none → b = a) → (H a ≠ none → K.lookup a = none) →
      codeAny (model P w) callerA (.call (.ref fa) ⟨[.ref a], []⟩) (fun r s' => r = .ok (.ret (.bool true)) ∧ OldK s₁.heap s'.heap ∧ s'.os = s₁.os ∧ AllBare s'.gens) s₁ := by
    intro H hO hS hok hA hK
    have base_of : ∀ {b : Addr} {o : Obj}, s₁.heap.get? b = some o → H b = none → (hidT s₁.heap H).get? b = some o := fun e n => hidT_get e n
    have noA : ∀ {b : Addr} {o : Obj} {es : Array DictEntry} {ep : Nat}, s₁.heap.get? b = some o → o.data = .dict es ep → H b = none := fun {b o es ep} e d => by
      cases q : H b with
      | none => rfl
      | some u =>
        have e' : b = a := hA b (by rw [q]; simp)
        subst e'
        rw [ha] at e; cases e
        have d' : Data.seq vs.toArray _ = Data.dict es ep := d
        cases d'
    have nsK : ∀ {b : Addr} {m : Str → Option Value}, s₁.heap.Ns b m → (hidT s₁.heap H).Ns b m := fun {b m} ⟨o, es, ep, e, d, r⟩ => ⟨o, es, ep, base_of e (noA e d), d, r⟩
    have hKb : K.In (hidT s₁.heap H) := fun b o e => base_of (KX b o e) (by
      cases q : H b with
      | none => rfl
      | some u =>
        have e' : b = a := hA b (by rw [q]; simp)
        subst e'
        rw [hK (by rw [q]; simp)] at e; cases e)
    have hM : Mod K mg (hidT s₁.heap H) := ⟨hKb, nsK hns, ⟨mb, nsK hb, hbb⟩, let ⟨mc, h1, h2⟩ := hlim; ⟨mc, nsK h1, h2⟩⟩
    have e0 : Env0 P w K mg (hidT s₁.heap H) callerA [] s₁ H := ⟨rfl, hM, fun b o e => of_hidT e, Nat.le_of_eq (hidT_size _ _), trivial, fun b hb => absurd (show b ∈ ([] : List Addr) from hb) (by simp), hok, .of_eq hg⟩
    refine codeAny_mono ((F _ hKb (nsK hns)).run callerA [] s₁ H ⟨[.ref a], []⟩ [.ref a] [.ref a] _ _ hr e0 (hbind s₁ (.ref a)) (.cons rfl .nil) (hsp H hO hS)) fun r s' h => ?_
    cases r with
    | error e => exact (hCX H e s' h).elim
    | ok fl =>
      cases fl with
      | next => exact False.elim h
      | brk => exact False.elim h
      | cont => exact False.elim h
      | ret u =>
        obtain ⟨v, H', os, bare, un, hok', r', q⟩ := h
        have q' : v = .bl true := q
        subst q'
        obtain rfl : u = Value.bool true := r'
        refine ⟨rfl, OldK.of_keep fun b o e => ?_, os, bare⟩
        cases q : H b with
        | none => exact un.keep b o e q (by intro z; exact absurd (show b ∈ ([] : List Addr) from z) (by simp)) (by simp)
        | some u =>
          rcases hO b with z | ⟨ob, xs, z⟩
          · rw [q] at z; cases z
          · have z2 := un.frzs b ob _ z
            obtain ⟨e1, _⟩ := hok b _ z
            obtain ⟨e2, _⟩ := hok' b _ z2
            rw [e] at e1; cases e1
            exact e2
  cases hk : K.lookup a with
  | some o =>
    -- the script is one of the module's own objects
    have e := KX a o hk
    rw [ha] at e
    cases e
    refine core (fun _ => none) (fun _ => .inl rfl) (.inr ⟨_, vs.toArray, _, hk, rfl, rfl, rfl, by rw [List.size_toArray, lenV]; exact hl, by simpa using rv⟩) (fun b u z => by have z' : (none : Option HO) = some u := z; cases z') (fun b z => absurd rfl z) fun z => absurd rfl z
  | none =>
    refine core (fun b => if b = a then some (.frz { cls := .type "list", data := .seq vs.toArray } (.lst (ns.map V.int))) else none) (fun b => ?_) (.inl (.inr ⟨{ cls := .type "list", data := .seq vs.toArray }, if_pos rfl⟩)) (fun b u z => ?_) (fun b z => ?_) fun _ => hk
    · by_cases hb : b = a
      · exact .inr ⟨_, _, if_pos hb⟩
      · exact .inl (if_neg hb)
    · by_cases hb : b = a
      · have z' := (if_pos hb).symm.trans z
        cases z'
        subst hb
        exact ⟨ha, by rw [List.length_map]; exact hl, vs, _, rv, ha⟩
      · have z' := (if_neg hb).symm.trans z
        cases z'
    · by_cases hb : b = a
      · exact hb
      · exact absurd (if_neg hb) z
end L2

namespace L2
open PySem PySem.Spec PyProof.Rows

abbrev KOf {K : PySem.W.Frag} {h : Heap} (_ : K.In h) : PySem.W.Frag := K

/-- the goal that k_head leaves (case hc), from the law's promise. F gives the function object fd (K's own) once, then the promise over every base -/
theorem walk_of {l : PySem.W.OpenLaw} {n k : Nat} {q : Program} {loose : List Str} {XP : (Str → Option Value) → Heap → Prop} {YP : World → Heap → Prop} {d : DefRec} {K : Params → PySem.W.Frag} {CX : World → CXT} {sp : World → Sp} {x : Str}
    (hn : l.most = some n) (hn2 : n ≤ sizeLine) (hdf : d.params.defaults = []) (hr : Room k callerA)
    (hY : ∀ (w : World) (h : Heap), YP w h → (K w.params).In h)
    (F : ∀ (w : World) (mg : Str → Option Value) (fa : Addr) (h : Heap), (K w.params).In h → h.Ns mainGlobals mg → mg d.name = some (.ref fa) →
      ∃ fd : FuncData, (∀ (s : Shared) (u : Value), BindsTo s fd ⟨[u], []⟩ [(x, u)]) ∧
        ∀ base : Heap, (K w.params).In base → base.Ns mainGlobals mg → FnOk l.prog w (K w.params) mg base (CX w) k fa fd [x] (sp w))
    (hsp : ∀ (w : World) (H : Hp) (a : Addr) (ns : List Int), ns.length ≤ n → Only H → SqL (K w.params) H a (ns.map V.int) → sp w [.ref a] H (fun v _ => v = .bl true) fun _ _ _ => False)
    (hCX : ∀ (w : World) (H : Hp) (s : Shared) (e : Value) (s' : Shared), CX w [] H s (fun _ _ _ => False) e s' → False) :
    PySem.W.WalkO q loose XP YP l.row.toRowW d [] (fun f vs => PySem.call f vs) := by
  refine Att.attach_call hn hdf fun w s₀ s₁ mg mb fa o pm cd doc a vs ns G Y ho hd hcd hmg hobj hints hlen hg => ?_
  have KX := hY w _ Y
  obtain ⟨fd, hb, hF⟩ := F w mg fa _ KX G.T.g hmg
  exact law_call KX G.T.g G.T.b G.T.builtins G.T.nolimit hg hobj hints (Nat.le_trans hlen hn2) hr hF hb (fun H hO hS => hsp w H a ns hlen hO hS) fun H e s' => hCX w H s₁ e s'
end L2

/- THE LAST THEOREM (shape; LID, My.* are yours):
   My.Adr: a structure of the addresses that your layer names (classes, functions); My.Txt K t: a structure (Prop) of the equations over K;
   My.txt_mk : {K} {implicit addresses ..} (e1 : nsIn K mainGlobals "law" = some (some (.ref f))) (e2 : K.lookup f = some ⟨oc, od, .func (fnOf "law" "law" params body scope dV kV doc pm an cdv ct), sl⟩) (e3 : codeIn K cdv "law" = true) .. : ∃ t, My.Txt K t

set_option maxRecDepth 100000 in
set_option maxHeartbeats 0 in
theorem PySem.Challenge.cw_LID_holds : PySem.Challenge.rw_LID.Holds := by
  w_on; o_law; k_head; (case hw => w_witness2)
  k_fill
  refine L2.walk_of (l := PySem.Challenge.rw_LID) (n := 63) (k := 40) (x := "script") (CX := fun w => ..) (sp := fun _ => My.sp_law) rfl (by decide) rfl ⟨rfl, by decide, by decide⟩ (fun w h Y => PySem.W.kIn_of Y) ?F ?S ?C
  case F =>
    intro w mg fa h KX G hmg
    have T : ∃ t, My.Txt (L2.KOf KX) t := by
      dsimp only [L2.KOf]                          -- K must stand as «<heap const> w.params» for k_is
      refine' My.txt_mk ?e1 ?e2 ?e3 ..
      (case e1 => PySem.W.k_is)                    -- in the order: a name -> its address -> its object -> its parts
      (case e2 => PySem.W.k_is)
      ..
    obtain ⟨t, T⟩ := T
    have e0 := hmg.symm.trans (PySem.W.mg_of KX G T.law)
    cases e0                                       -- fa is the law's own address
    exact ⟨_, fun s u => .of_eq rfl, fun base kb nb => My.law_fn T kb nb⟩     -- if «.of_eq rfl» comes too early: refine' ⟨_, ?b, fun base kb nb => My.law_fn T kb nb⟩; exact fun s u => .of_eq rfl
  case S => exact fun w H a ns hl hO hS => ..
  case C => exact ..
(the tactic k_is has no namespace: write k_is) -/

/-! SHORT WORDS over the layer: a def of the text, its body, what a loop and a test want. -/
namespace L2
open PySem PySem.Spec PyProof.Rows

/-! ### the text by places -/
/-- the j-th statement of a class's body -/
def inClass (s : Stmt) (j : Nat) : Stmt := match s with
  | .ClassDef _ _ _ body _ _ _ _ _ _ _ => body.getD j (.Pass ⟨0, 0, 0, 0⟩)
  | _ => .Pass ⟨0, 0, 0, 0⟩
def defArgs (s : Stmt) : Arguments := match s with
  | .FunctionDef _ a _ _ _ _ _ _ _ _ => a
  | _ => { posonlyargs := [], args := [], vararg := none, kwonlyargs := [], kw_defaults := [], kwarg := none, defaults := [] }
def defBody (s : Stmt) : List Stmt := match s with
  | .FunctionDef _ _ b _ _ _ _ _ _ _ => b
  | _ => []
def defScope (s : Stmt) : Scope := match s with
  | .FunctionDef _ _ _ _ _ _ sc _ _ _ => sc
  | _ => { kind := .function, names := [], isGenerator := false, isCoroutine := false }

/-! ### no exception leaves a def -/
abbrev CX0 : CXT := fun _ _ _ _ _ _ => False
abbrev E0 : XK := fun _ _ _ => False
theorem pass0 {X : Cx} : Passes CX0 X E0 := fun _ _ _ _ _ _ _ h => h.elim

/-! ### a def (or method) of the text as it stands behind the top -/
structure Fun (K : PySem.W.Frag) (x qual : Str) (st : Stmt) (f : Addr) (fd : FuncData) : Prop where
  ex : ∃ (oc : Value) (od : Option Addr) (kV doc pm : Value) (an : Option Addr) (cdv ct : Value) (osl : Array (Option Value)),
    fd = PySem.W.fnOf x qual (defArgs st) (defBody st) (defScope st) .none kV doc pm an cdv ct ∧ K.lookup f = some ⟨oc, od, .func fd, osl⟩ ∧ PySem.W.codeIn K cdv qual = true
  kp : PySem.W.keepIn K (.ref f) = true
section
variable {P : Program} {w : World} {K : PySem.W.Frag} {mg : Str → Option Value} {base : Heap}
/-- THE RULE for a def: its body as a term of rules, and the reading of that term -/
theorem Fun.ok {x qual : Str} {st : Stmt} {f : Addr} {fd : FuncData} {N ps : List Str} {k : Nat} {sp : Sp} (F : Fun K x qual st f fd) (S : FnScope N ps (defScope st)) (len : ∀ vs H Q E, sp vs H Q E → vs.length = ps.length)
    (hbody : ∀ (cdv : Value) (A : Around) (outer : List Env) (s : Shared) (H : Hp) (vs : List V) (Q : VK) (E : XK), Room k (A.deeper (envOfC qual (defScope st) s.heap.objs.size f cdv)) → sp vs H Q E →
      ∃ t, PSs (cxOf CX0 P w K mg base N qual (defScope st) f cdv A outer s H E).nox (defBody st) t ∧ t { nx := fun _ H' => Q .non H', rt := Q } (start N vs) H) : FnOk P w K mg base CX0 (k + 1) f fd ps sp := by
  obtain ⟨oc, od, kV, doc, pm, an, cdv, ct, osl, rfl, lk, hcd⟩ := F.ex
  refine fn_of lk hcd S len fun A outer s H vs Q E hr hsp => ?_
  obtain ⟨t, h, q⟩ := hbody cdv A outer s H vs Q E hr hsp
  exact ⟨t, h.nox, q⟩
/-- how its arguments bind (no defaults): h is «fun _ _ _ _ _ _ us hl => match us, hl with | [_, _], _ => rfl», one _ a parameter -/
theorem Fun.binds {x qual : Str} {st : Stmt} {f : Addr} {fd : FuncData} {ps : List Str} (F : Fun K x qual st f fd)
    (h : ∀ (kV doc pm : Value) (an : Option Addr) (cdv ct : Value) (us : List Value), us.length = ps.length → bindArgs (PySem.W.fnOf x qual (defArgs st) (defBody st) (defScope st) .none kV doc pm an cdv ct) ⟨us, []⟩ = pure (ps.zip us)) : Binds K fd ps [] := by
  obtain ⟨oc, od, kV, doc, pm, an, cdv, ct, osl, rfl, lk, hcd⟩ := F.ex
  exact .all (h kV doc pm an cdv ct)
theorem fun_mk {x qual : Str} {st : Stmt} {f : Addr} {oc : Value} {od an : Option Addr} {osl : Array (Option Value)} {kV doc pm cdv ct : Value} (l : K.lookup f = some ⟨oc, od, .func (PySem.W.fnOf x qual (defArgs st) (defBody st) (defScope st) .none kV doc pm an cdv ct), osl⟩)
    (c : PySem.W.codeIn K cdv qual = true) (k : PySem.W.keepIn K (.ref f) = true) : Fun K x qual st f (PySem.W.fnOf x qual (defArgs st) (defBody st) (defScope st) .none kV doc pm an cdv ct) := ⟨⟨oc, od, kV, doc, pm, an, cdv, ct, osl, rfl, l, c⟩, k⟩
end
theorem small1000 {n : Nat} (h : n ≤ 1000) : n < sizeLine := Nat.lt_of_le_of_lt h (by decide)

/-! ### expressions in short: the name that stands in the i-th slot -/
section
variable {X : Cx}
theorem pv (i : Nat) {x : Str} {pos : Pos} (hN : X.N[i]? = some x := by rfl) (hv : Vis X.env.scope x := by first | exact Or.inl rfl | exact Or.inr (Or.inl rfl) | exact Or.inr (Or.inr rfl)) (hd : (x == ("__debug__" : Str)) = false := by decide)
    (hcd : (x == ("__classdict__" : Str)) = false := by decide) : PE X (.Name x pos) (tVar i) := pe_var hN hv hd hcd
end

/-! ### tests -/
theorem iteF {A B : Prop} (h : B) : if false = true then A else B := by
  rw [if_neg Bool.false_ne_true]
  exact h
theorem iteT {A B : Prop} (h : A) : if true = true then A else B := by
  rw [if_pos rfl]
  exact h
theorem ite2 {c A B : Prop} [Decidable c] (h1 : c → A) (h2 : ¬ c → B) : if c then A else B := by
  by_cases h : c
  · rw [if_pos h]
    exact h1 h
  · rw [if_neg h]
    exact h2 h
theorem iteNS {c A B : Prop} [Decidable c] (hc : c) (h : B) : if (!decide c) = true then A else B := by
  rw [decide_eq_true hc]
  exact iteF h

/-! ### heaps -/
/-- all that was tracked is as it was -/
def Same (H H' : Hp) : Prop := ∀ b o, H b = some o → H' b = some o
theorem Same.refl (H : Hp) : Same H H := fun _ _ h => h
theorem Same.trans {H H1 H2 : Hp} (a : Same H H1) (b : Same H1 H2) : Same H H2 := fun c o h => b c o (a c o h)
theorem Same.free {H H' : Hp} (e : Same H H') {l : Addr} (h : H' l = Option.none) : H l = Option.none := by
  cases q : H l with
  | none => rfl
  | some o =>
    rw [e l o q] at h
    cases h
theorem Same.seq {K : PySem.W.Frag} {H H' : Hp} {a : Addr} {xs : List V} (e : Same H H') (h : SqL K H a xs) : SqL K H' a xs := by
  rcases h with (h | ⟨o, h⟩) | h
  · exact .inl (.inl (e _ _ h))
  · exact .inl (.inr ⟨o, e _ _ h⟩)
  · exact .inr h

end L2


namespace L2
open PySem PySem.Spec PyProof.Rows
section
variable {X : Cx}
end
/-! ### a dict's pairs: keys that differ -/
section
variable {κ : Type} [DecidableEq κ]
theorem valV_not {kvs : List (κ × V)} {k : κ} (h : valV kvs k = none) : ¬ k ∈ kvs.map (·.1) := by
  intro m
  obtain ⟨p, hp, e⟩ := List.mem_map.mp m
  have q : (kvs.any fun kv => decide (kv.1 = k)) = true := List.any_eq_true.mpr ⟨p, hp, decide_eq_true e⟩
  rw [valV_any, h] at q
  exact absurd q (by simp)
theorem valV_in {kvs : List (κ × V)} {k : κ} {v : V} (h : valV kvs k = some v) : k ∈ kvs.map (·.1) := by
  have q : (kvs.any fun kv => decide (kv.1 = k)) = true := by
    rw [valV_any, h]
    all_goals rfl
  obtain ⟨p, hp, e⟩ := List.any_eq_true.mp q
  exact List.mem_map.mpr ⟨p, hp, of_decide_eq_true e⟩
end
end L2


namespace L2
open PySem PySem.Spec PyProof.Rows

/-! ### comprehensions -/
theorem relabel_lookup {env : Env} : ∀ {names : List (Str × NameKind)} {x : Str} {k : NameKind},
    (names.map fun (n, k) => if (k == NameKind.free && env.scope.kind == .function && env.kindOf n == some .cell) then (n, NameKind.cell) else (n, k)).lookup x = some k →
    ∃ k', names.lookup x = some k' ∧ (k = k' ∨ (k' = .free ∧ k = .cell))
  | [], _, _, h => by simp at h
  | (n, k0) :: r, x, k, h => by
    have ih := @relabel_lookup env r x k
    rw [List.map_cons] at h
    by_cases hc : (k0 == NameKind.free && env.scope.kind == .function && env.kindOf n == some .cell) = true
    · have e : (if (k0 == NameKind.free && env.scope.kind == .function && env.kindOf n == some .cell) = true then (n, NameKind.cell) else (n, k0)) = (n, NameKind.cell) := if_pos hc
      simp only [e] at h
      cases hx : x == n with
      | true =>
        simp only [List.lookup_cons, hx] at h ⊢
        have hf : k0 = .free := by
          have := hc
          simp only [Bool.and_eq_true, beq_iff_eq] at this
          exact this.1.1
        exact ⟨k0, rfl, .inr ⟨hf, (Option.some.inj h).symm⟩⟩
      | false =>
        simp only [List.lookup_cons, hx] at h ⊢
        exact ih h
    · have e : (if (k0 == NameKind.free && env.scope.kind == .function && env.kindOf n == some .cell) = true then (n, NameKind.cell) else (n, k0)) = (n, k0) := if_neg hc
      simp only [e] at h
      cases hx : x == n with
      | true =>
        simp only [List.lookup_cons, hx] at h ⊢
        exact ⟨k0, rfl, .inl (Option.some.inj h).symm⟩
      | false =>
        simp only [List.lookup_cons, hx] at h ⊢
        exact ih h

theorem relabel_free {env : Env} : ∀ {names : List (Str × NameKind)} {x : Str}, names.lookup x = some .free →
    (names.map fun (n, k) => if (k == NameKind.free && env.scope.kind == .function && env.kindOf n == some .cell) then (n, NameKind.cell) else (n, k)).lookup x = some .cell ∨
    (names.map fun (n, k) => if (k == NameKind.free && env.scope.kind == .function && env.kindOf n == some .cell) then (n, NameKind.cell) else (n, k)).lookup x = some .free
  | [], _, h => by simp at h
  | (n, k0) :: r, x, h => by
    have ih := @relabel_free env r x
    rw [List.map_cons]
    by_cases hc : (k0 == NameKind.free && env.scope.kind == .function && env.kindOf n == some .cell) = true
    · have e : (if (k0 == NameKind.free && env.scope.kind == .function && env.kindOf n == some .cell) = true then (n, NameKind.cell) else (n, k0)) = (n, NameKind.cell) := if_pos hc
      simp only [e]
      cases hx : x == n with
      | true =>
        simp only [List.lookup_cons, hx] at h ⊢
        first | exact .inl rfl | exact .inl trivial
      | false =>
        simp only [List.lookup_cons, hx] at h ⊢
        exact ih h
    · have e : (if (k0 == NameKind.free && env.scope.kind == .function && env.kindOf n == some .cell) = true then (n, NameKind.cell) else (n, k0)) = (n, k0) := if_neg hc
      simp only [e]
      cases hx : x == n with
      | true =>
        simp only [List.lookup_cons, hx] at h ⊢
        exact .inr h
      | false =>
        simp only [List.lookup_cons, hx] at h ⊢
        exact ih h

/-! ### the cells that a block closes over -/
def cloOf (env : Env) : List (Str × NameKind) → List (Str × Addr) → List (Str × Addr)
  | [], acc => acc
  | y :: r, acc => if (y.2 == NameKind.free) = true then cloOf env r ((y.1, (env.cells.lookup y.1).getD 0) :: acc) else cloOf env r acc
theorem clo_run {env : Env} : ∀ {names : List (Str × NameKind)} {acc : List (Str × Addr)}, (∀ y ∈ names, y.2 = .free → ∃ c, env.cells.lookup y.1 = some c) →
    (forIn names acc fun (x : Str × NameKind) (cs : List (Str × Addr)) => if (x.2 == NameKind.free) = true then do let c ← cellOf env x.1; pure (ForInStep.yield ((x.1, c) :: cs)) else pure (ForInStep.yield cs) : Sem (List (Str × Addr))) = pure (cloOf env names acc)
  | [], _, _ => rfl
  | y :: r, acc, h => by
    rw [List.forIn_cons]
    by_cases hy : (y.2 == NameKind.free) = true
    · obtain ⟨c, hc⟩ := h y List.mem_cons_self (by simpa using hy)
      have e : cellOf env y.1 = pure c := by unfold cellOf; rw [hc]
      rw [if_pos hy, e, pure_bind, pure_bind]
      show (forIn r ((y.1, c) :: acc) _ : Sem (List (Str × Addr))) = _
      rw [clo_run fun z hz => h z (List.mem_cons_of_mem _ hz)]
      show _ = pure (if (y.2 == NameKind.free) = true then cloOf env r ((y.1, (env.cells.lookup y.1).getD 0) :: acc) else cloOf env r acc)
      rw [if_pos hy, hc]
      rfl
    · rw [if_neg hy, pure_bind]
      show (forIn r acc _ : Sem (List (Str × Addr))) = _
      rw [clo_run fun z hz => h z (List.mem_cons_of_mem _ hz)]
      show _ = pure (if (y.2 == NameKind.free) = true then cloOf env r ((y.1, (env.cells.lookup y.1).getD 0) :: acc) else cloOf env r acc)
      rw [if_neg hy]
theorem clo_for {scope : Scope} {env : Env} (h : ∀ y ∈ scope.names, y.2 = .free → ∃ c, env.cells.lookup y.1 = some c) : closureFor scope env = pure (cloOf env scope.names []) := by
  have q := clo_run (env := env) (names := scope.names) (acc := []) h
  unfold closureFor
  exact (by first | (simp only [bind_pure]; exact q) | (rw [bind_pure]; exact q) | exact q)
theorem clo_sub {env : Env} : ∀ {names : List (Str × NameKind)} {acc : List (Str × Addr)}, (∀ y ∈ names, y.2 = .free → ∃ c, env.cells.lookup y.1 = some c) → (∀ x c, acc.lookup x = some c → env.cells.lookup x = some c) →
    ∀ x c, (cloOf env names acc).lookup x = some c → env.cells.lookup x = some c
  | [], _, _, ha => ha
  | y :: r, acc, h, ha => by
    have hr : ∀ z ∈ r, z.2 = .free → ∃ c, env.cells.lookup z.1 = some c := fun z hz => h z (List.mem_cons_of_mem _ hz)
    intro x c e
    unfold cloOf at e
    by_cases hy : (y.2 == NameKind.free) = true
    · rw [if_pos hy] at e
      refine clo_sub hr (fun x' c' e' => ?_) x c e
      obtain ⟨d, hd⟩ := h y List.mem_cons_self (by simpa using hy)
      rw [hd, Option.getD_some] at e'
      cases hx : x' == y.1 with
      | true =>
        simp only [List.lookup_cons, hx] at e'
        have e1 : x' = y.1 := eq_of_beq hx
        rw [e1, hd]
        exact e'
      | false =>
        simp only [List.lookup_cons, hx] at e'
        exact ha x' c' e'
    · rw [if_neg hy] at e
      exact clo_sub hr ha x c e
theorem clo_keep {env : Env} : ∀ {names : List (Str × NameKind)} {acc : List (Str × Addr)} {x : Str}, (∃ c, acc.lookup x = some c) → ∃ c, (cloOf env names acc).lookup x = some c
  | [], _, _, h => h
  | y :: r, acc, x, h => by
    unfold cloOf
    by_cases hy : (y.2 == NameKind.free) = true
    · rw [if_pos hy]
      refine clo_keep ?_
      cases hx : x == y.1 with
      | true => exact ⟨(env.cells.lookup y.1).getD 0, by simp only [List.lookup_cons, hx]⟩
      | false =>
        obtain ⟨c, e⟩ := h
        exact ⟨c, by simp only [List.lookup_cons, hx]; exact e⟩
    · rw [if_neg hy]
      exact clo_keep h
theorem clo_has {env : Env} : ∀ {names : List (Str × NameKind)} {acc : List (Str × Addr)} {x : Str}, names.lookup x = some .free → ∃ c, (cloOf env names acc).lookup x = some c
  | [], _, _, h => by simp at h
  | (n, k) :: r, acc, x, h => by
    unfold cloOf
    cases hx : x == n with
    | true =>
      simp only [List.lookup_cons, hx] at h
      have hy : (k == NameKind.free) = true := by rw [Option.some.inj h]; rfl
      rw [if_pos hy]
      exact clo_keep ⟨(env.cells.lookup n).getD 0, by simp only [List.lookup_cons, hx]⟩
    | false =>
      simp only [List.lookup_cons, hx] at h
      by_cases hy : (k == NameKind.free) = true
      · rw [if_pos hy]; exact clo_has h
      · rw [if_neg hy]; exact clo_has h

abbrev compCx (X : Cx) (scope : Scope) (N' : List Str) (C : Addr) (s0 : Shared) (H0 : Hp) (ex : List Addr) : Cx where
  prog := X.prog
  w := X.w
  K := X.K
  mg := X.mg
  base := X.base
  A := X.A
  N := N'
  s₀ := s0
  H₀ := H0
  env := compEnvC scope (cloOf X.env scope.names []) C X.env
  outer := X.stack
  stack := X.stack
  ex := ex
  fn := fun _ => false
  calm := X.calm
  pn := []
  xe := fun _ _ => False

/-- what the block reads of the names around it -/
def CapOk (X : Cx) (sc : Scope) : List Nat → List Str → Prop
  | [], [] => True
  | j :: js, x :: xs => X.N[j]? = some x ∧ sc.names.lookup x = some .free ∧ CapOk X sc js xs
  | _, _ => False
theorem CapOk.get {X : Cx} {sc : Scope} : ∀ {js : List Nat} {xs : List Str} {i : Nat} {x : Str}, CapOk X sc js xs → xs[i]? = some x →
    ∃ j, js[i]? = some j ∧ X.N[j]? = some x ∧ sc.names.lookup x = some .free
  | [], [], _, _, _, e => by simp at e
  | j :: js, y :: xs, 0, x, h, e => by
    obtain ⟨h1, h2, _⟩ := h
    have e' : y = x := by simpa using e
    subst e'
    exact ⟨j, rfl, h1, h2⟩
  | j :: js, y :: xs, i + 1, x, h, e => by
    obtain ⟨_, _, h6⟩ := h
    obtain ⟨j', q⟩ := CapOk.get (i := i) (x := x) h6 (by simpa using e)
    exact ⟨j', by simpa using q.1, q.2⟩
  | [], _ :: _, _, _, h, _ => h.elim
  | _ :: _, [], _, _, h, _ => h.elim
theorem CapOk.len {X : Cx} {sc : Scope} : ∀ {js : List Nat} {xs : List Str}, CapOk X sc js xs → js.length = xs.length
  | [], [], _ => rfl
  | j :: js, y :: xs, h => by
    obtain ⟨_, _, h6⟩ := h
    simp [CapOk.len h6]
  | [], _ :: _, h => h.elim
  | _ :: _, [], h => h.elim

/-- the block's names: checks that compute; names that are free in it are cells (or free) around it -/
structure CompOk (X : Cx) (scope : Scope) (cap : List Nat) (capN : List Str) : Prop where
  kind : scope.kind = .function
  names : ∀ x ∈ scope.names, x.2 = .local → scope.names.lookup x.1 = some .local
  nocell : ∀ y ∈ scope.names, y.2 ≠ .cell
  frees : (scope.names.all fun y => !(y.2 == NameKind.free) || (X.env.kindOf y.1 == some .cell || X.env.kindOf y.1 == some .free)) = true
  cap : CapOk X scope cap capN
section
variable {X : Cx} {scope : Scope} {cap : List Nat} {capN : List Str}
theorem CompOk.around (O : CompOk X scope cap capN) {y : Str × NameKind} (hy : y ∈ scope.names) (hf : y.2 = .free) : X.env.kindOf y.1 = some .cell ∨ X.env.kindOf y.1 = some .free := by
  have q := List.all_eq_true.mp O.frees y hy
  rw [hf] at q
  simpa using q
theorem CompOk.cells (O : CompOk X scope cap capN) (ok : X.Ok) : ∀ y ∈ scope.names, y.2 = .free → ∃ c, X.env.cells.lookup y.1 = some c := fun y hy hf => ok.has _ (O.around hy hf)
theorem CompOk.clos (O : CompOk X scope cap capN) (ok : X.Ok) : closureFor scope X.env = pure (cloOf X.env scope.names []) := clo_for (O.cells ok)
theorem CompOk.sub (O : CompOk X scope cap capN) (ok : X.Ok) : ∀ x c, (cloOf X.env scope.names []).lookup x = some c → X.env.cells.lookup x = some c := clo_sub (O.cells ok) fun x c e => by simp at e
theorem CompOk.has (_O : CompOk X scope cap capN) {x : Str} (h : scope.names.lookup x = some .free) : ∃ c, (cloOf X.env scope.names []).lookup x = some c := clo_has h
end

def compSt (n : Nat) (cap : List Nat) (σ : St) : St := List.replicate n none ++ cap.map (fun j => (σ[j]?).join)
theorem compSt_len {n : Nat} {cap : List Nat} {σ : St} : (compSt n cap σ).length = n + cap.length := by
  unfold compSt
  rw [List.length_append, List.length_replicate, List.length_map]
theorem compSt_get {n : Nat} {cap : List Nat} {σ : St} {i : Nat} {v : V} (h : (compSt n cap σ)[i]? = some (some v)) : n ≤ i ∧ ∃ j, cap[i - n]? = some j ∧ σ[j]? = some (some v) := by
  unfold compSt at h
  by_cases hi : i < n
  · rw [List.getElem?_append_left (by simpa using hi), List.getElem?_replicate] at h
    rw [if_pos hi] at h
    cases h
  · have hi' : n ≤ i := Nat.le_of_not_lt hi
    rw [List.getElem?_append_right (by simpa using hi'), List.length_replicate, List.getElem?_map] at h
    refine ⟨hi', ?_⟩
    cases e : cap[i - n]? with
    | none => rw [e] at h; cases h
    | some j =>
      rw [e] at h
      refine ⟨j, rfl, ?_⟩
      have h' : (σ[j]?).join = some v := by simpa using h
      cases q : σ[j]? with
      | none => rw [q] at h'; cases h'
      | some o =>
        rw [q] at h'
        have : o = some v := h'
        rw [this]

section
variable {X : Cx} {pins : List (Addr × Obj)} {σ : St} {H : Hp} {s : Shared} {scope : Scope} {cap : List Nat} {capN N' : List Str} {C : Addr} {ex : List Addr}
theorem compCx_ok (I : Inv X pins σ H s) (O : CompOk X scope cap capN) (hC : s.heap.objs.size ≤ C) (hex : ∀ b ∈ ex, FpOk X pins H b ∧ b < s.heap.objs.size) : (compCx X scope N' C s H ex).Ok where
  mod := I.ok.mod
  kind := O.kind
  glob := I.ok.glob
  blt := I.ok.blt
  above := hC
  inj := fun x y c h1 h2 => I.ok.inj x y c (O.sub I.ok x c h1) (O.sub I.ok y c h2)
  has := fun x hx => by
    have hx' : (relabel scope X.env).names.lookup x = some .cell ∨ (relabel scope X.env).names.lookup x = some .free := hx
    have key : ∀ k, (relabel scope X.env).names.lookup x = some k → (k = .cell ∨ k = .free) → scope.names.lookup x = some .free := fun k e hk => by
      obtain ⟨k', e', q⟩ := relabel_lookup (env := X.env) e
      rcases q with q | ⟨q, _⟩
      · subst q
        rcases hk with z | z
        · subst z; exact absurd rfl (O.nocell _ (PySem.mem_of_lookup e'))
        · subst z; exact e'
      · subst q; exact e'
    rcases hx' with e | e
    · exact O.has (key _ e (.inl rfl))
    · exact O.has (key _ e (.inr rfl))
  cab := fun x c h _ => by cases h
  hd := I.ok.hd
  frames := I.ok.frames
  stk := .inl rfl
  exf := fun b hb => by
    obtain ⟨⟨f0, f1, f2, f3, f4, f5⟩, lt⟩ := hex b hb
    exact ⟨Nat.ne_of_lt (Nat.lt_of_lt_of_le lt hC), fun x c e => f4 x c (O.sub I.ok x c e)⟩
  bs := I.bs
  bsz := Nat.le_trans I.ok.bsz I.sz
  noex := fun b o e hb => by
    obtain ⟨⟨f0, f1, f2, f3, f4, f5⟩, lt⟩ := hex b hb
    rcases f3 with z | z
    · exact I.ok.noex b o e z
    · exact absurd (Nat.lt_of_lt_of_le (Heap.lt_size e) (Nat.le_trans I.ok.bsz z)) (Nat.lt_irrefl _)
  exfs := fun b hb z => by
    obtain ⟨⟨f0, f1, f2, f3, f4, f5⟩, lt⟩ := hex b hb
    rcases List.mem_cons.mp (I.stkSub b z) with e | e
    · exact f1 e
    · exact f2 e
  funs := I.stack
  frf := I.stkFree

theorem not_stack (I : Inv X pins σ H s) {b : Addr} (hb : s.heap.objs.size ≤ b) : b ∉ frs X.stack := fun z => by
  rcases List.mem_cons.mp (I.stkSub b z) with e | e
  · exact absurd (Nat.lt_of_lt_of_le I.lt hb) (by rw [e]; exact Nat.lt_irrefl _)
  · exact I.nofs hb e
theorem not_cell (I : Inv X pins σ H s) {b : Addr} (hb : s.heap.objs.size ≤ b) : ∀ x c, X.env.cells.lookup x = some c → c ≠ b := fun x c e z => by
  obtain ⟨v, q⟩ := I.cell x c e
  exact absurd (Nat.lt_of_lt_of_le q.lt (by rw [z]; exact hb)) (Nat.lt_irrefl _)

/-- the block's first state -/
theorem comp_start {n : Nat} {h1 : Heap} {m1 : Str → Option Value} {tk : Nat} (I : Inv X pins σ H s) (O : CompOk X scope cap capN) (hN : N'.length = n + capN.length) (hN2 : ∀ i x, n ≤ i → N'[i]? = some x → capN[i - n]? = some x) (hC : s.heap.objs.size ≤ C) (hex : ∀ b ∈ ex, FpOk X pins H b ∧ b < s.heap.objs.size)
    (hk : ∀ b o, s.heap.get? b = some o → h1.get? b = some o) (hn : h1.Ns C m1) : Inv (compCx X scope N' C s H ex) [] (compSt n cap σ) H { s with heap := h1, toks := tk } := by
  refine ⟨compCx_ok I O hC hex, rfl, I.bare, Un.kept hk, ⟨m1, hn, fun i x v e1 e2 e3 => ?_⟩, fun x c e => ?_, I.hok.fresh hC, fun x c e => I.freeC x c (O.sub I.ok x c e), fun p hp => absurd (show p ∈ ([] : List (Addr × Obj)) from hp) (by simp), I.hok.kept hk, ?_⟩
  · obtain ⟨hi, j, ej, es⟩ := compSt_get e2
    obtain ⟨j', q1, q2, qf⟩ := O.cap.get (hN2 i x hi e1)
    have q3 := O.around (PySem.mem_of_lookup qf) rfl
    have q4 := relabel_free (env := X.env) qf
    obtain ⟨c, q5⟩ := O.has qf
    have q6 := O.sub I.ok x c q5
    rw [q1] at ej
    cases ej
    obtain ⟨m0, hn0, hl0⟩ := I.loc
    obtain ⟨u, r, l⟩ := hl0 _ x v q2 es (by
      rcases q3 with z | z
      · exact .inr (.inl z)
      · exact .inr (.inr z))
    refine ⟨u, r, .inr ⟨q4, c, q5, ?_⟩⟩
    rcases l with ⟨k, _⟩ | ⟨_, c', e', z⟩
    · rcases q3 with z | z
      · have z' : X.env.kindOf x = some .cell := z
        rw [z'] at k; cases k
      · have z' : X.env.kindOf x = some .free := z
        rw [z'] at k; cases k
    · rw [q6] at e'
      cases e'
      obtain ⟨o, ho, hd⟩ := z
      exact ⟨o, hk _ _ ho, hd⟩
  · obtain ⟨v, o, ho, hd⟩ := I.cell x c (O.sub I.ok x c e)
    exact ⟨v, o, hk _ _ ho, hd⟩
  · rw [compSt_len, O.cap.len]
    exact hN.symm
end

/-! ### the tests of a comprehension -/
def PIfs (X : Cx) (ifs : List Expr) (t : TT) : Prop :=
  ∀ (pins : List (Addr × Obj)) (s : Shared) (σ : St) (H : Hp) (Q : Bool → Hp → Prop), Inv X pins σ H s → t σ H Q →
    wpAny (model X.prog X.w) X.A (forIn ifs true fun c r => if r = true then do let ok ← isTrue c X.env (eval c X.env); pure (ForInStep.yield ok) else pure (ForInStep.yield r)) (TP X pins σ Q) X.xe s
def tNoIf : TT := fun _ H Q => Q true H
theorem pifs_nil {X : Cx} : PIfs X [] tNoIf := fun _ _ _ H _ I h => wpAny_tests_nil ⟨H, I, h⟩
theorem pifs_one {X : Cx} {c : Expr} {t : TT} (h : PT X c t) : PIfs X [c] t := fun pins s σ H Q I hw => wpAny_tests_one (h pins s σ H Q I hw)

/-- a target that leaves the later names as they are -/
def GK (n : Nat) (g : TG) : Prop := ∀ x σ H Q, g x σ H Q → g x σ H (fun σ2 H2 => (σ2.length = σ.length ∧ ∀ i, n ≤ i → σ2[i]? = σ[i]?) ∧ Q σ2 H2)
theorem gk_name {n i : Nat} (hi : i < n) : GK n (gName i) := fun x σ H Q h => ⟨⟨List.length_set, fun j hj => List.getElem?_set_ne (by omega)⟩, h⟩
def GKs (n : Nat) (g : TGs) : Prop := ∀ xs σ H Q, g xs σ H Q → g xs σ H (fun σ2 H2 => (σ2.length = σ.length ∧ ∀ i, n ≤ i → σ2[i]? = σ[i]?) ∧ Q σ2 H2)
theorem gks_nil {n : Nat} : GKs n gNil := fun xs σ H Q h => ⟨h.1, ⟨rfl, fun _ _ => rfl⟩, h.2⟩
/-- targets are monotone -/
def GM (g : TG) : Prop := ∀ x σ H Q Q', (∀ σ2 H2, Q σ2 H2 → Q' σ2 H2) → g x σ H Q → g x σ H Q'
def GMs (g : TGs) : Prop := ∀ xs σ H Q Q', (∀ σ2 H2, Q σ2 H2 → Q' σ2 H2) → g xs σ H Q → g xs σ H Q'
theorem gm_name {i : Nat} : GM (gName i) := fun _ _ _ _ _ f h => f _ _ h
theorem gms_nil : GMs gNil := fun _ _ _ _ _ f h => ⟨h.1, f _ _ h.2⟩
theorem gms_cons {t : TG} {u : TGs} (a : GM t) (b : GMs u) : GMs (gCons t u) := fun xs σ H Q Q' f h => by
  obtain ⟨v, r, e, h⟩ := h
  exact ⟨v, r, e, a _ _ _ _ _ (fun σ2 H2 z => b _ _ _ _ _ f z) h⟩
theorem gks_cons {n : Nat} {t : TG} {u : TGs} (a : GK n t) (m : GM t) (b : GKs n u) (mb : GMs u) : GKs n (gCons t u) := fun xs σ H Q h => by
  obtain ⟨v, r, e, h⟩ := h
  refine ⟨v, r, e, m _ _ _ _ _ (fun σ2 H2 z => ?_) (a _ _ _ _ h)⟩
  obtain ⟨⟨l1, k1⟩, z⟩ := z
  refine mb _ _ _ _ _ (fun σ3 H3 w => ?_) (b _ _ _ _ z)
  obtain ⟨⟨l2, k2⟩, w⟩ := w
  exact ⟨⟨l2.trans l1, fun i hi => (k2 i hi).trans (k1 i hi)⟩, w⟩
theorem gk_tup {n m : Nat} {K : PySem.W.Frag} {t : TGs} (a : GKs n t) : GK n (gTup K m t) := fun x σ H Q h => by
  obtain ⟨b, xs, e, h1, h2, h3⟩ := h
  exact ⟨b, xs, e, h1, h2, a _ _ _ _ h3⟩
/-- the reading of a comprehension over what J yields -/
def tCompR (n : Nat) (cap : List Nat) (g : TG) (tc : TT) (te : TE) (σ : St) (J : It) (H1 : Hp) (Q : VK) : Prop :=
  ∃ W : Nat → Nat → List V → Hp → Prop, (∃ m, W 0 m [] H1) ∧ ∀ i m ys H, W i m ys H →
    (J.stop i H ∧ ∀ p, H p = none → Q (.ref p) (upd H p (.lst ys))) ∨
    (J.go i H ∧ ys.length < sizeLine ∧ ∀ x H', J.yld i H x H' → g x (compSt n cap σ) H' fun σ2 H2 => tc σ2 H2 fun b H3 =>
      if b = true then te σ2 H3 fun y H4 => ∃ m', m' < m ∧ W (i + 1) m' (ys ++ [y]) H4 else ∃ m', m' < m ∧ W (i + 1) m' ys H3)
def tComp (n : Nat) (cap : List Nat) (wi : TI) (g : TG) (tc : TT) (te : TE) : TE := fun σ H Q => wi σ H fun J H1 => tCompR n cap g tc te σ J H1 Q

/-- one turn of a comprehension, nothing raised -/
theorem codeAny_compLoop_gen {prog : Program} {w : World} {A : Around} {R : Result → Shared → Prop} {s : Shared} {elt target iter : Expr} {ifs : List Expr} {scope : Scope} {pos : Pos} {it acc : Value} {env : Env} (I : Nat → Shared → Prop)
    (turn : ∀ n s, I n s → wpAny (model prog w) A (pyNext it) (fun r s₁ => match r with
      | none => R (.ok .next) s₁
      | some v => wpAny (model prog w) A (letOwnedTupleGo target it v) (fun _ s₁' => wpAny (model prog w) A (assign target env v) (fun _ s₂ =>
          wpAny (model prog w) A (forIn ifs true fun c r => if r = true then do let ok ← isTrue c env (eval c env); pure (ForInStep.yield ok) else pure (ForInStep.yield r)) (fun ok s₃ =>
            if ok = true then wpAny (model prog w) A (eval elt env) (fun x s₄ =>
              wpAny (model prog w) A (call (.builtin "list.append") [acc, x]) (fun _ s₅ => ∃ m, m < n ∧ I m s₅) (fun _ _ => False) s₄) (fun _ _ => False) s₃
            else ∃ m, m < n ∧ I m s₃) (fun _ _ => False) s₂) (fun _ _ => False) s₁') (fun _ _ => False) s₁) (fun _ _ => False) s)
    (n : Nat) (h : I n s) :
    codeAny (model prog w) A (.compLoop (.ListComp elt [⟨target, iter, ifs, 0⟩] scope pos) 0 it acc env) R s := by
  refine codeAny_loop rfl I (fun n s hI => ?_) n h
  show wpAny _ A ((compTurn (.ListComp elt [⟨target, iter, ifs, 0⟩] scope pos) 0 it acc env).onRaise (fun x => do noteFrame x env; theTreesLotGoes x)) _ _ s
  refine wpAny_noted (wpAny_noRaise ?_)
  rw [compTurn_list]
  refine wpAny_bind (wpAny_standAt (wpAny_bind (wpAny_mono (turn n s hI) (fun r s₁ h₁ => ?_) fun _ _ h' => h')))
  cases r with
  | none => exact wpAny_pure h₁
  | some v =>
    refine wpAny_bind (wpAny_mono h₁ (fun _ s₁' h₁' => ?_) fun _ _ h' => h')
    refine wpAny_bind (wpAny_mono h₁' (fun _ s₂ h₂ => wpAny_bind (wpAny_mono h₂ (fun ok s₃ h₃ => ?_) fun _ _ h' => h')) fun _ _ h' => h')
    cases ok with
    | false => exact wpAny_pure ⟨rfl, h₃⟩
    | true =>
      exact wpAny_bind (wpAny_bind (wpAny_mono h₃ (fun x s₄ h₄ => wpAny_bind (wpAny_mono h₄ (fun _ s₅ h₅ => wpAny_pure (wpAny_pure ⟨rfl, h₅⟩)) fun _ _ h' => h')) fun _ _ h' => h'))

theorem own_get {own capN : List Str} : ∀ (i : Nat) (x : Str), own.length ≤ i → (own ++ capN)[i]? = some x → capN[i - own.length]? = some x := fun i x hi e => by
  rw [List.getElem?_append_right hi] at e
  exact e

section
variable {X : Cx} {pins : List (Addr × Obj)} {σ : St} {H2 : Hp} {s2 : Shared} {scope : Scope} {cap : List Nat} {capN own : List Str}
variable {elt tg iter : Expr} {ifs : List Expr} {pos : Pos} {g : TG} {tc : TT} {te : TE} {Q : VK}
abbrev lobj (its : List Value) (nn : Nat) : Obj := { cls := .type "list", data := .seq its.toArray nn }

theorem comp_core {J : It} {fp : List Addr} {it : Addr} {tn : Nat → Heap → Prop} {E : Value → Shared → Prop} {RR : Value → Addr → Result → Shared → Prop}
    (O : CompOk X scope cap capN) (hc : X.calm = true)
    (hg : ∀ C s0 H0 ex, PG (compCx X scope (own ++ capN) C s0 H0 ex) tg g) (gk : GK own.length g) (ht : ∀ C s0 H0 ex, PIfs (compCx X scope (own ++ capN) C s0 H0 ex) ifs tc) (he : ∀ C s0 H0 ex, PE (compCx X scope (own ++ capN) C s0 H0 ex) elt te)
    (I2 : Inv X pins σ H2 s2) (T : Turn X.prog X.w X.K tg J fp it tn) (st2 : tn 0 s2.heap) (f2 : ∀ b ∈ fp, FpOk X pins H2 b) (hq : tCompR own.length cap g tc te σ J H2 Q)
    (fin : ∀ (D C : Addr) (s4 : Shared) (H4 : Hp) (ys : List V), Inv X pins σ (upd H4 D (.lst ys)) s4 → (∃ m, s4.heap.Ns C m) → FpOk X pins (upd H4 D (.lst ys)) C → Q (.ref D) (upd H4 D (.lst ys)) → RR (.ref D) C (.ok .next) s4) :
    wpAny (model X.prog X.w) X.A (newList []) (fun acc s₃ => wpAny (model X.prog X.w) X.A (newFunctionEnv scope X.env.globals (cloOf X.env scope.names []) [] X.env.qual none .none (some X.env)) (fun cenv s₄ =>
      codeAny (model X.prog X.w) X.A (.compStart (.ListComp elt [⟨tg, iter, ifs, 0⟩] scope pos) 0 (.ref it) acc { cenv with scope := relabel scope X.env }) (RR acc cenv.locals) s₄) E s₃) E s2 := by
  obtain ⟨W, ⟨m0, w0⟩, turn⟩ := hq
  refine wpAny_newObj_type (wpAny_newFunctionEnv O.nocell (by intro y hy; simp at hy) (fun h₁ hns₁ hsb₁ => ?_) O.kind)
  dsimp only at hns₁ hsb₁ ⊢
  generalize hHp : s2.heap.push { cls := .type "list", dict := none, data := .seq ([] : List Value).toArray } = Hp2 at hns₁ hsb₁ ⊢
  have hC : Hp2.objs.size = s2.heap.objs.size + 1 := by rw [← hHp, Heap.size_push]
  have hDC : s2.heap.objs.size ≠ Hp2.objs.size := by rw [hC]; exact Nat.ne_of_lt (Nat.lt_succ_self _)
  have hCle : s2.heap.objs.size ≤ Hp2.objs.size := by rw [hC]; exact Nat.le_succ _
  have below : ∀ b, b < s2.heap.objs.size → b ≠ Hp2.objs.size ∧ b ≠ s2.heap.objs.size := fun b hb => ⟨by rw [hC]; exact Nat.ne_of_lt (Nat.lt_succ_of_lt hb), Nat.ne_of_lt hb⟩
  have old : ∀ b o, s2.heap.get? b = some o → h₁.get? b = some o := fun b o e => hsb₁.extBut b o (below b (Heap.lt_size e)).1 (Heap.get?_push_of_some _ (hHp ▸ Heap.get?_push_of_some _ e))
  have hacc : h₁.get? s2.heap.objs.size = some (lobj [] 0) := hsb₁.extBut _ _ hDC (Heap.get?_push_of_some _ (hHp ▸ Heap.get?_push_size _ rfl))
  generalize hDe : s2.heap.objs.size = D at *
  generalize hCe : Hp2.objs.size = C at *
  have hfpl : ∀ b ∈ fp, b < s2.heap.objs.size := fun b hb => by
    obtain ⟨o, e, _⟩ := T.obj _ _ st2 b hb
    exact Heap.lt_size e
  have hex : ∀ b ∈ fp, FpOk X pins H2 b ∧ b < s2.heap.objs.size := fun b hb => ⟨f2 b hb, hfpl b hb⟩
  have hCle' : s2.heap.objs.size ≤ C := by rw [hDe]; exact hCle
  have hDle : s2.heap.objs.size ≤ D := by rw [hDe]; exact Nat.le_refl _
  have hDfp : ∀ b ∈ fp, D ≠ b := fun b hb z => by have := hfpl b hb; rw [← z] at this; exact absurd this (Nat.not_lt.mpr hDle)
  have I0 : ∀ tk, Inv (compCx X scope (own ++ capN) C s2 H2 fp) [] (compSt own.length cap σ) H2 { s2 with heap := h₁, toks := tk } := fun tk => comp_start I2 O (by simp) own_get hCle' hex old hns₁
  have Dst : D ∉ frs X.stack := not_stack I2 hDle
  have Dcell : ∀ x c, (compCx X scope (own ++ capN) C s2 H2 fp).env.cells.lookup x = some c → c ≠ D := fun x c e => not_cell I2 hDle x c (O.sub I2.ok x c e)
  have pinD : ∀ {σ' : St} {H' : Hp} {s' : Shared} {its : List Value} {nn : Nat}, Inv (compCx X scope (own ++ capN) C s2 H2 fp) [] σ' H' s' → s'.heap.get? D = some (lobj its nn) → H' D = none → Inv (compCx X scope (own ++ capN) C s2 H2 fp) [(D, lobj its nn)] σ' H' s' := fun {σ' H' s' its nn} I e hn =>
    I.pins_of fun p hp => by
      have z : p = (D, lobj its nn) := by simpa using hp
      subst z
      exact ⟨e, hn, hDC, Dst, fun v q => by cases q⟩
  have loop : ∀ s₃ : Shared, s₃ = { s2 with heap := h₁, toks := s2.toks + ([] : List (Str × Value)).length } →
      codeAny (model X.prog X.w) X.A (.compLoop (.ListComp elt [⟨tg, iter, ifs, 0⟩] scope pos) 0 (.ref it) (.ref D) (compEnvC scope (cloOf X.env scope.names []) C X.env)) (RR (.ref D) C) s₃ := by
    rintro s₃ rfl
    refine codeAny_compLoop_gen (fun k s' => ∃ (i : Nat) (ys : List V) (its : List Value) (nn : Nat) (H' : Hp), Inv (compCx X scope (own ++ capN) C s2 H2 fp) [(D, lobj its nn)] (compSt own.length cap σ) H' s' ∧ tn i s'.heap ∧ (∀ b ∈ fp, H' b = none) ∧ Vals ys its ∧ ys.length ≤ sizeLine ∧ W i k ys H') ?_ m0
      ⟨0, [], [], 0, H2, pinD (I0 _) hacc (I2.hok.fresh hDle), T.keep _ _ _ st2 (fun b hb o e => old b o e), fun b hb => (f2 b hb).1, .nil, Nat.zero_le _, w0⟩
    rintro k s3 ⟨i, ys, its, nn, H3, I3, st3, fr3, rv, hz, w3⟩
    have oD3 : s3.heap.get? D = some (lobj its nn) := (I3.pin (D, lobj its nn) (by simp)).1
    have fpY : ∀ {H' : Hp}, (∀ b ∈ fp, H' b = none) → ∀ b ∈ fp, FpOk (compCx X scope (own ++ capN) C s2 H2 fp) [(D, lobj its nn)] H' b := fun {H'} hn b hb => by
      obtain ⟨f0, f1, g2, f3, f4, f5⟩ := f2 b hb
      refine ⟨hn b hb, Nat.ne_of_lt (Nat.lt_of_lt_of_le (hfpl b hb) hCle'), fun z => ?_, .inl hb, fun x c e => f4 x c (O.sub I2.ok x c e), fun p hp => ?_⟩
      · rcases List.mem_cons.mp (I2.stkSub b z) with e | e
        · exact f1 e
        · exact g2 e
      · have z : p = (D, lobj its nn) := by simpa [compCx] using hp
        subst z
        exact hDfp b hb
    rcases turn i k ys H3 w3 with ⟨stop, qn⟩ | ⟨go, hlt, step⟩
    · refine thn (T.done (compCx X scope (own ++ capN) C s2 H2 fp) rfl rfl rfl hc i _ s3 _ H3 _ I3 (fpY fr3) st3 stop) fun r s4 ⟨hr, I4⟩ => ?_
      subst hr
      obtain ⟨oD, nD, _⟩ := I4.pin (D, lobj its nn) (by simp)
      have neD : ∀ {b : Addr} {u : HO}, H3 b = some u → b ≠ D := fun {b u} e => ne_of_none e nD
      have JX : Inv X pins σ (upd H3 D (.lst ys)) s4 := by
        refine I2.call' (ch := fp) I4.os ⟨I4.base.keep, I4.base.slot, fun b o e nb hx => ?_, I4.base.there, fun b xs e => ?_, fun b o u e => ?_, fun b ps e => ?_⟩ (fun b u e => ?_) I4.bare (fun b hb => ?_)
        · rw [upd_ne (by rw [← hDe]; exact Nat.ne_of_lt (Heap.lt_size e))]
          exact I4.base.free b o e nb hx
        · have q := I4.base.tups b xs e
          rw [upd_ne (neD q)]
          exact q
        · have q := I4.base.frzs b o u e
          rw [upd_ne (neD q)]
          exact q
        · obtain ⟨more, q⟩ := I4.base.tbls b ps e
          exact ⟨more, by rw [upd_ne (neD q)]; exact q⟩
        · by_cases hb : b = D
          · subst hb
            rw [upd_same] at e
            cases e
            exact ⟨hz, its, nn, rv, oD⟩
          · rw [upd_ne hb] at e
            exact (I4.hok b u e).stay (fun _ _ _ q => q) (fun c q => by rw [upd_ne (neD q)]; exact q) fun c xs q => by rw [upd_ne (neD q)]; exact q
        · obtain ⟨f0, f1, g2, f3, f4, f5⟩ := f2 b hb
          exact ⟨f3, f1, f4, f5⟩
      obtain ⟨m4, hn4, _⟩ := I4.loc
      refine fin D C s4 H3 ys JX ⟨m4, hn4⟩ ?_ (qn D nD)
      refine I2.fpOk (b := C) hCle' ?_
      rw [upd_ne (Ne.symm hDC)]
      exact I4.free
    · refine thn (T.item (compCx X scope (own ++ capN) C s2 H2 fp) rfl rfl rfl hc i _ s3 _ H3 _ I3 (fpY fr3) st3 go) fun r s4 ⟨u, hr, h4⟩ => ?_
      subst hr
      refine thn h4 fun _ s5 ⟨x, H5, I5, r5, y5, st5, fr5⟩ => ?_
      have I5' := I5.pinned (fpY fr5) (T.obj _ _ st5)
      refine thn (hg C s2 H2 fp _ s5 _ H5 x u _ I5' r5 (gk _ _ _ _ (step x H5 y5))) fun _ s6 ⟨σ6, H6, I6, ⟨l6, k6⟩, q6⟩ => ?_
      refine thn (ht C s2 H2 fp _ s6 σ6 H6 _ I6 q6) fun ok s7 ⟨H7, I7, q7⟩ => ?_
      -- what stands at a turn's end
      have wk : ∀ {H8 : Hp} {s8 : Shared} {pl : List (Addr × Obj)}, Inv (compCx X scope (own ++ capN) C s2 H2 fp) pl σ6 H8 s8 → Inv (compCx X scope (own ++ capN) C s2 H2 fp) pl (compSt own.length cap σ) H8 s8 := fun I => I.weak l6.symm fun j v e => by
        obtain ⟨hj, _⟩ := compSt_get e
        rw [k6 j hj]
        exact e
      have tn8 : ∀ {σ8 : St} {H8 : Hp} {s8 : Shared}, Inv (compCx X scope (own ++ capN) C s2 H2 fp) ([(D, lobj its nn)] ++ pinsAt fp s5.heap) σ8 H8 s8 → (∀ b ∈ fp, ∀ o, s5.heap.get? b = some o → s8.heap.get? b = some o) ∧ ∀ b ∈ fp, H8 b = none := fun {σ8 H8 s8} I => by
        refine ⟨fun b hb o e => (I.pin (b, o) (List.mem_append_right _ (List.mem_append_right _ (mem_pinsAt hb e)))).1, fun b hb => ?_⟩
        obtain ⟨o, e, d⟩ := T.obj _ _ st5 b hb
        exact (I.pin (b, o) (List.mem_append_right _ (List.mem_append_right _ (mem_pinsAt hb e)))).2.1
      cases ok with
      | false =>
        rw [if_neg Bool.false_ne_true] at q7 ⊢
        obtain ⟨m', hm, w7⟩ := q7
        obtain ⟨t1, t2⟩ := tn8 I7
        exact ⟨m', hm, i + 1, ys, its, nn, H7, wk I7.unpinned, T.keep _ _ _ st5 t1, t2, rv, hz, w7⟩
      | true =>
        rw [if_pos rfl] at q7 ⊢
        refine thn (he C s2 H2 fp _ s7 σ6 H7 _ I7 q7) fun y s8 ⟨yv, H8, I8, r8, m', hm, w8⟩ => ?_
        obtain ⟨t1, t2⟩ := tn8 I8
        obtain ⟨oD, nD, _⟩ := I8.pin (D, lobj its nn) (by simp)
        have hil := rv.length
        refine call_meets F.slot_list_append ⟨_, oD, rfl⟩ F.entry_list_append (F.args_list_append_2 _ _) (PySem.list_append D its.toArray nn y (by rw [List.size_toArray]; omega)) ⟨oD, ?_⟩
        have q := PySem.IsL.update oD (fun x_1 => x_1.push y)
        have hf : its.toArray.push y = (its ++ [y]).toArray := by simp
        rw [hf] at q
        have keepO : ∀ b o, b ≠ D → s8.heap.get? b = some o → (s8.heap.update D (Obj.mapSeq fun x_1 => x_1.push y)).get? b = some o := fun b o hb e => (Heap.get?_update_other s8.heap (Obj.mapSeq fun x_1 => x_1.push y) (Ne.symm hb)).trans e
        have I9 : Inv (compCx X scope (own ++ capN) C s2 H2 fp) [] σ6 H8 { s8 with heap := s8.heap.update D (Obj.mapSeq fun x_1 => x_1.push y), toks := s8.toks } :=
          (I8.pins_of (pins' := []) fun p hp => absurd hp (by simp)).turned (it := D) keepO nD hDC (.inr hDle) Dcell (fun p hp => absurd (show p ∈ ([] : List (Addr × Obj)) from hp) (by simp))
        refine ⟨m', hm, i + 1, ys ++ [yv], its ++ [y], _, H8, wk (pinD I9 q nD), T.keep _ _ _ st5 (fun b hb o e => keepO b o (Ne.symm (hDfp b hb)) (t1 b hb o e)), t2, rv.append (.cons r8 .nil), ?_, w8⟩
        rw [List.length_append, List.length_singleton]
        omega
  exact codeAny_compStart_list (loop _ rfl) (T.self _ 0 _ _ _ (T.keep _ _ _ st2 (fun b hb o e => old b o e)) (loop _ rfl))

/-- [elt for tg in iter if ..] -/
theorem pe_comp {wi : TI} (O : CompOk X scope cap capN) (hc : X.calm = true) (hi : PI X tg iter wi)
    (hg : ∀ C s0 H0 ex, PG (compCx X scope (own ++ capN) C s0 H0 ex) tg g) (gk : GK own.length g) (ht : ∀ C s0 H0 ex, PIfs (compCx X scope (own ++ capN) C s0 H0 ex) ifs tc) (he : ∀ C s0 H0 ex, PE (compCx X scope (own ++ capN) C s0 H0 ex) elt te)
    (hs : ∀ x, foldedSetIterable iter X.env x = pure x := by intro _; rfl) : PE X (.ListComp elt [⟨tg, iter, ifs, 0⟩] scope pos) (tComp own.length cap wi g tc te) := by
  intro pins s σ H Q I h
  rw [eval_ListComp]
  refine wpAny_comprehension_free (use := none) rfl hs (O.clos I.ok) O.kind O.names (thn (hi pins s σ H _ I h) fun v s1 h1 => thn h1 fun itv s2 h2 => ?_)
  obtain ⟨it, fp, tn, J, H2, e, I2, T, st2, f2, hq⟩ := h2
  subst e
  refine comp_core (RR := fun acc C => compPost (model X.prog X.w) X.A X.xe none (EP X pins σ Q) acc C) O hc hg gk ht he I2 T st2 f2 hq fun D C s4 H4 ys J4 hn4 fC q4 => ?_
  obtain ⟨m, hn⟩ := hn4
  obtain ⟨f0, f1, g2, f3, f4, f5⟩ := fC
  exact ⟨m, hn, fun h' sb => ⟨.ref D, _, J4.turned (t' := s4.toks) (fun b o hb e => (sb.2 b hb).trans e) f0 f1 f3 f4 f5, rfl, q4⟩⟩

/-- y = [elt for tg in iter if ..], the store ahead of the block's end -/
theorem ps_setC {wi : TI} {j : Nat} {y : Str} {py spos : Pos} (hN0 : X.N.Nodup) (hj : X.N[j]? = some y) (hy : Loc X.env.scope y) (O : CompOk X scope cap capN) (hc : X.calm = true) (hi : PI X tg iter wi)
    (hg : ∀ C s0 H0 ex, PG (compCx X scope (own ++ capN) C s0 H0 ex) tg g) (gk : GK own.length g) (ht : ∀ C s0 H0 ex, PIfs (compCx X scope (own ++ capN) C s0 H0 ex) ifs tc) (he : ∀ C s0 H0 ex, PE (compCx X scope (own ++ capN) C s0 H0 ex) elt te)
    (hsw : swapsWith (.ListComp elt [⟨tg, iter, ifs, 0⟩] scope pos) (some (.Name y py)) spos.line X.env = pure true := by rfl)
    (hs : ∀ x, foldedSetIterable iter X.env x = pure x := by intro _; rfl) (hf : X.fn y = true ∨ X.env.scope.names.lookup y = some .local := by first | exact .inl rfl | exact .inr rfl | assumption) :
    PS X (.Assign [.Name y py] (.ListComp elt [⟨tg, iter, ifs, 0⟩] scope pos) spos) (tAsg (tComp own.length cap wi g tc te) (gName j)) := by
  intro pins s σ H D0 I h
  rw [exec_Assign_Name_used _ _ _ _ hsw]
  refine wpAny_bind (wpAny_standAt (wpAny_bind ?_))
  show wpAny _ X.A (do let _ ← comprehension (.ListComp elt [⟨tg, iter, ifs, 0⟩] scope pos) scope X.env _ (newList []) false (eval iter X.env) (some (assign (.Name y py) X.env))) _ _ s
  refine wpAny_bind (wpAny_mono (wpAny_comprehension_free (use := some (assign (.Name y py) X.env)) (Q := fun _ s' => SP X pins D0 .next s') rfl hs (O.clos I.ok) O.kind O.names (thn (hi pins s σ H _ I h) fun v s1 h1 => thn h1 fun itv s2 h2 => ?_)) (fun _ s' hq => wpAny_pure (wpAny_pure hq)) fun _ _ e => e)
  obtain ⟨it, fp, tn, J, H2, e, I2, T, st2, f2, hq⟩ := h2
  subst e
  refine comp_core (RR := fun acc C => compPost (model X.prog X.w) X.A X.xe (some (assign (.Name y py) X.env)) (fun _ s' => SP X pins D0 .next s') acc C) O hc hg gk ht he I2 T st2 f2 hq fun D C s4 H4 ys J4 hn4 fC q4 => ?_
  obtain ⟨m, hn⟩ := hn4
  obtain ⟨f0, f1, g2, f3, f4, f5⟩ := fC
  show wpAny _ X.A (assign (.Name y py) X.env (.ref D)) _ _ _
  refine wpAny_assign_Name (store_ok2 J4 hN0 hj hy (v := .ref D) rfl (fun s5 I5 ⟨a, sba, ha⟩ => ?_) hf)
  have hCa : C ≠ a := by
    rcases ha with z | z
    · rw [z]; exact f1
    · exact Ne.symm (f4 _ _ z)
  refine ⟨m, hn.sameBut sba hCa, fun h' sb => ?_⟩
  exact ⟨_, _, I5.turned (t' := s5.toks) (fun b o hb e => (sb.2 b hb).trans e) f0 f1 f3 f4 f5, q4⟩
end
end L2
namespace L2
open PySem PySem.Spec PyProof.Rows

/-! ### a def of the text, all in one -/
structure Fn (P : Program) (w : World) (K : PySem.W.Frag) (mg : Str → Option Value) (base : Heap) (k : Nat) (x : Str) (ps : List Str) (sp : Sp) : Prop where
  ex : ∃ f fd, FnOk P w K mg base CX0 k f fd ps sp ∧ mg x = some (.ref f) ∧ PySem.W.keepIn K (.ref f) = true ∧ Binds K fd ps []
theorem Fn.mk' {P : Program} {w : World} {K : PySem.W.Frag} {mg : Str → Option Value} {base : Heap} {k : Nat} {x : Str} {ps : List Str} {sp : Sp} {f : Addr} {fd : FuncData}
    (G : FnOk P w K mg base CX0 k f fd ps sp) (m : mg x = some (.ref f)) (kp : PySem.W.keepIn K (.ref f) = true) (b : Binds K fd ps []) : Fn P w K mg base k x ps sp := ⟨f, fd, G, m, kp, b⟩
section
variable {X : Cx} {k : Nat} {x : Str} {p pos : Pos} {e : Expr} {es : List Expr} {ps : List Str} {sp : Sp} {t : TA}
theorem pe_fn (F : Fn X.prog X.w X.K X.mg X.base k x ps sp) (hr : Room k X.A) (ha : PA X (e :: es) t) (hg : Gl X x := by rfl) (hdb : (x == ("__debug__" : Str)) = false := by decide)
    (he : starEach (e :: es) X.env = (false, eval e X.env) :: starEach es X.env := by rfl) (hpl : (backTo pos (starEach es X.env)).any (·.1) = false := by rfl) :
    PE X (.Call (.Name x p) (e :: es) [] pos) (tCall sp [] E0 t) := by
  obtain ⟨f, fd, G, m, kp, b⟩ := F.ex
  exact pe_call G hr hg m kp b .nil pass0 ha hdb he hpl
end

/-! ### built-ins -/
section
variable {X : Cx} {x : Str} {p pos : Pos} {e : Expr} {es : List Expr} {t : TA} {id T : String} {r : List V → Hp → VK → Prop}
end
theorem boot_max : bootBuiltins "max" = some (.builtin "max") := by decide +kernel
theorem boot_int : bootBuiltins "int" = some (.type "int") := by decide +kernel
theorem boot_list : bootBuiltins "list" = some (.type "list") := by decide +kernel
section
variable {X : Cx}
end

/-! ### kinds -/
def isI : V → Bool
  | .int _ => true
  | .bl _ => true
  | _ => false
/-! ### heaps -/
theorem same_new {H : Hp} {p : Addr} (h : H p = none) (o : HO) : Same H (upd H p o) := fun b u q => by rw [upd_ne (ne_of_none q h)]; exact q
theorem same_ty {K : PySem.W.Frag} {H H' : Hp} {v : V} {n : Value} (e : Same H H') (h : TyOf K H v n) : TyOf K H' v n := by
  cases h with
  | non => exact .non
  | bl x => exact .bl x
  | int i => exact .int i
  | str x => exact .str x
  | flt x => exact .flt x
  | lst q => exact .lst (e _ _ q)
  | frz q => exact .frz (e _ _ q)
  | tup q => exact .tup (e _ _ q)
  | dK q => exact .dK (e _ _ q)
  | dT q => exact .dT (e _ _ q)
  | ins q cl ha hn htk hm => exact .ins (e _ _ q) cl ha hn htk hm
theorem size63 {n : Nat} (h : n ≤ 1000) : n ≤ sizeLine := Nat.le_of_lt (small1000 h)

/-! ### a comprehension without tests, its elements leave what was there -/
theorem comp_pure {J : It} {N n : Nat} {cap : List Nat} {te : TE} {σ : St} {H0 : Hp} {Q : VK} (x0 f : Nat → V) (hz : N ≤ 1000)
    (hgo : ∀ i H, i < N → Same H0 H → J.go i H) (hst : ∀ H, Same H0 H → J.stop N H) (hy : ∀ i H x H', i < N → Same H0 H → J.yld i H x H' → H' = H ∧ x = x0 i)
    (he : ∀ i H, i < N → Same H0 H → ∀ R : VK, (∀ H', Same H H' → R (f i) H') → te ((compSt n cap σ).set 0 (some (x0 i))) H R)
    (hq : ∀ p H, Same H0 H → H p = none → Q (.ref p) (upd H p (.lst ((List.range N).map f)))) : tCompR n cap (gName 0) tNoIf te σ J H0 Q := by
  refine ⟨fun i m ys H => m = N - i ∧ i ≤ N ∧ Same H0 H ∧ ys = (List.range i).map f, ⟨N, by simp, Nat.zero_le _, Same.refl _, rfl⟩, ?_⟩
  rintro i m ys H ⟨rfl, hi, sm, rfl⟩
  by_cases hlt : i < N
  · refine .inr ⟨hgo i H hlt sm, ?_, fun x H' y => ?_⟩
    · rw [List.length_map, List.length_range]
      exact small1000 (by omega)
    · obtain ⟨e1, e2⟩ := hy i H x H' hlt sm y
      subst e1 e2
      refine he i H' hlt sm _ fun H4 sm4 => ⟨N - (i + 1), by omega, rfl, hlt, sm.trans sm4, ?_⟩
      rw [List.range_succ, List.map_append]
      rfl
  · have e : i = N := by omega
    subst e
    exact .inl ⟨hst H sm, fun p hp => hq p H sm hp⟩
theorem comp_range {N n : Nat} {lo : Int} {cap : List Nat} {te : TE} {σ : St} {H0 : Hp} {Q : VK} (f : Nat → V) (hz : N ≤ 1000)
    (he : ∀ i H, i < N → Same H0 H → ∀ R : VK, (∀ H', Same H H' → R (f i) H') → te ((compSt n cap σ).set 0 (some (.int (lo + i)))) H R)
    (hq : ∀ p H, Same H0 H → H p = none → Q (.ref p) (upd H p (.lst ((List.range N).map f)))) : tCompR n cap (gName 0) tNoIf te σ (Itr lo N) H0 Q :=
  comp_pure (N := N) (fun i => .int (lo + i)) f hz (fun _ _ hi _ => hi) (fun _ _ => Nat.le_refl N) (fun _ _ _ _ _ _ y => y) he hq
end L2
namespace L2
open PySem PySem.Spec PyProof.Rows
/-! ### argument lists: no star, told once -/
def noStar : Expr → Bool
  | .Starred _ _ => false
  | _ => true
theorem star_cons {e : Expr} {es : List Expr} {env : Env} (h : noStar e = true) : starEach (e :: es) env = (false, eval e env) :: starEach es env := by
  cases e <;> first | rfl | cases h
theorem plain_back {env : Env} {pos : Pos} : ∀ {es : List Expr}, es.all noStar = true → (backTo pos (starEach es env)).any (·.1) = false
  | [], _ => rfl
  | e :: es, h => by
    rw [List.all_cons, Bool.and_eq_true] at h
    rw [star_cons h.1]
    show (false || (backTo pos (starEach es env)).any (·.1)) = false
    rw [Bool.false_or]
    exact plain_back h.2
section
variable {X : Cx} {x : Str} {p pos : Pos} {e : Expr} {es : List Expr} {te : TE} {t : TA} {id T : String} {r : List V → Hp → VK → Prop} {k : Nat} {ps : List Str} {sp : Sp}
theorem pa (ha : PE X e te) (hr : PA X es t) (hs : noStar e = true := by rfl) : PA X (e :: es) (tCons te t) := pa_cons ha hr (star_cons hs)
theorem pB (hc : CallR X (.builtin id) r) (hm : X.mg x = none) (hv : bootBuiltins x = some (.builtin id)) (ha : PA X (e :: es) t) (hg : Gl X x := by rfl) (hs : (e :: es).all noStar = true := by rfl) (hn : x ≠ "__name__" := by decide) (hdb : (x == ("__debug__" : Str)) = false := by decide) :
    PE X (.Call (.Name x p) (e :: es) [] pos) (tCB r t) := by
  rw [List.all_cons, Bool.and_eq_true] at hs
  exact pe_callB hc hg hm hv ha hn hdb (star_cons hs.1) (plain_back hs.2)
theorem pTy (hc : CallR X (.type T) r) (hm : X.mg x = none) (hv : bootBuiltins x = some (.type T)) (ha : PA X (e :: es) t) (hg : Gl X x := by rfl) (hs : (e :: es).all noStar = true := by rfl) (hn : x ≠ "__name__" := by decide) (hdb : (x == ("__debug__" : Str)) = false := by decide) :
    PE X (.Call (.Name x p) (e :: es) [] pos) (tCB r t) := by
  rw [List.all_cons, Bool.and_eq_true] at hs
  exact pe_callTy hc hg hm hv ha hn hdb (star_cons hs.1) (plain_back hs.2)
theorem pfn (F : Fn X.prog X.w X.K X.mg X.base k x ps sp) (hr : Room k X.A) (ha : PA X (e :: es) t) (hg : Gl X x := by rfl) (hs : (e :: es).all noStar = true := by rfl) (hdb : (x == ("__debug__" : Str)) = false := by decide) :
    PE X (.Call (.Name x p) (e :: es) [] pos) (tCall sp [] E0 t) := by
  rw [List.all_cons, Bool.and_eq_true] at hs
  exact pe_fn F hr ha hg hdb (star_cons hs.1) (plain_back hs.2)
end
end L2
namespace L2
open PySem PySem.Spec PyProof.Rows
/-! ### the judgements, closed up: nothing looks into them while a term of rules is read -/
structure QE (X : Cx) (e : Expr) (t : TE) : Prop where
  h : PE X e t
structure QT (X : Cx) (e : Expr) (t : TT) : Prop where
  h : PT X e t
structure QW (X : Cx) (e : Expr) (t : TT) : Prop where
  h : PW X e t
structure QA (X : Cx) (es : List Expr) (t : TA) : Prop where
  h : PA X es t
structure QS (X : Cx) (st : Stmt) (t : TS) : Prop where
  h : PS X st t
structure QB (X : Cx) (st : List Stmt) (t : TS) : Prop where
  h : PSs X st t
structure QG (X : Cx) (tg : Expr) (g : TG) : Prop where
  h : PG X tg g
structure QGs (X : Cx) (ts : List Expr) (g : TGs) : Prop where
  h : PGs X ts g
structure QI (X : Cx) (tg iter : Expr) (wi : TI) : Prop where
  h : PI X tg iter wi
structure QIf (X : Cx) (ifs : List Expr) (t : TT) : Prop where
  h : PIfs X ifs t
structure QO (X : Cx) (e : Option Expr) (t : TO) : Prop where
  h : PO X e t
structure QOp (X : Cx) (f : Value → Value → Sem Value) (r : R2) : Prop where
  h : OpR X f r
structure QCall (X : Cx) (f : Value) (r : List V → Hp → VK → Prop) : Prop where
  h : CallR X f r
structure QIx (X : Cx) (r : R2) : Prop where
  h : IxR X r
structure QSl (X : Cx) (r : V → Option Int → Option Int → Hp → VK → Prop) : Prop where
  h : SlR X r
structure QSet (X : Cx) (t : TSet) : Prop where
  h : PSet X t
structure QUn (X : Cx) (f : Value → Sem Value) (r : V → Hp → VK → Prop) : Prop where
  h : UnR X f r
structure QIp (X : Cx) (op : Operator) (t : TIp) : Prop where
  h : PIp X op t
section
variable {X : Cx} {pos p : Pos} {e a b c o : Expr} {es rest : List Expr} {te ta tb tc : TE} {t : TA} {tA tB' : TT} {x : Str}
theorem q_v (i : Nat) {x : Str} {pos : Pos} (hN : X.N[i]? = some x := by rfl) (hv : Vis X.env.scope x := by first | exact Or.inl rfl | exact Or.inr (Or.inl rfl) | exact Or.inr (Or.inr rfl)) (hd : (x == ("__debug__" : Str)) = false := by decide)
    (hcd : (x == ("__classdict__" : Str)) = false := by decide) : QE X (.Name x pos) (tVar i) := ⟨pe_var hN hv hd hcd⟩
theorem q_int {i : Int} {j : Nat} : QE X (.Constant (.int i) j pos) (tC (.int i)) := ⟨pe_int⟩
theorem q_bl {i : Bool} {j : Nat} : QE X (.Constant (.bool i) j pos) (tC (.bl i)) := ⟨pe_bl⟩
theorem q_non {j : Nat} : QE X (.Constant .none j pos) (tC .non) := ⟨pe_non⟩
theorem q_str {i : Str} {j : Nat} : QE X (.Constant (.str i) j pos) (tC (.str i)) := ⟨pe_str⟩
theorem q_gI {i : Int} {tk : Tok} (hm : X.mg x = some (.int i tk)) (hg : Gl X x := by rfl) (hd : (x == ("__debug__" : Str)) = false := by decide) : QE X (.Name x pos) (tC (.int i)) := ⟨pe_glob hg hm ⟨_, rfl⟩ hd⟩
theorem q_op {op : Operator} {r : R2} (ho : QOp X (binaryOp op) r) (ha : QE X a ta) (hb : QE X b tb) : QE X (.BinOp a op b pos) (tOp r ta tb) := ⟨pe_op ho.h ha.h hb.h⟩
theorem q_one {op} (h : QE X a ta) : QE X (.BoolOp op [a] pos) ta := ⟨pe_one h.h⟩
theorem q_and (ha : QE X a ta) (hb : QE X (.BoolOp .And (b :: rest) pos) tb) : QE X (.BoolOp .And (a :: b :: rest) pos) (tAndV ta tb) := ⟨pe_and ha.h hb.h⟩
theorem q_or (ha : QE X a ta) (hb : QE X (.BoolOp .Or (b :: rest) pos) tb) : QE X (.BoolOp .Or (a :: b :: rest) pos) (tOrV ta tb) := ⟨pe_or ha.h hb.h⟩
theorem q_not (ha : QE X a ta) : QE X (.UnaryOp .Not a pos) (tNotV ta) := ⟨pe_not ha.h⟩
theorem q_cmp {op : CmpOp} {r : R2} (ho : QOp X (compareOp op) r) (ha : QE X a ta) (hb : QE X b tb) (hm : behindInMarks op b = false := by first | exact nomark _ | with_unfolding_all rfl) : QE X (.Compare a [op] [b] pos) (tOp r ta tb) := ⟨pe_cmpR ho.h ha.h hb.h hm⟩
theorem q_if (hc : QT X c tA) (ha : QE X a ta) (hb : QE X b tb) : QE X (.IfExp c a b pos) (tIf tA ta tb) := ⟨pe_ifExp hc.h ha.h hb.h⟩
theorem q_lst (h : QA X es t) : QE X (.List es pos) (tLst t) := ⟨pe_lst h.h⟩
theorem q_tup {x1} (h : QA X es t) : QE X (.Tuple es x1 pos) (tTup t) := ⟨pe_tup h.h⟩
theorem q_ix {r : R2} (hr : QIx X r) (ha : QE X a ta) (hb : QE X b tb) (hs : PlainIx b := by intro _ _; rfl) : QE X (.Subscript a b pos) (tOp r ta tb) := ⟨pe_ix hr.h ha.h hb.h hs⟩
theorem q_sl {r : V → Option Int → Option Int → Hp → VK → Prop} {lo hi : Option Expr} {tl th : TO} {p2 : Pos} (hr : QSl X r) (he : QE X e te) (hl : QO X lo tl) (hu : QO X hi th) : QE X (.Subscript e (.Slice lo hi none p2) pos) (tSl r te tl th) := ⟨pe_slice hr.h he.h hl.h hu.h⟩
theorem q_o0 : QO X none tNoPart := ⟨po_none⟩
theorem q_o1 (h : QE X e te) : QO X (some e) (tPart te) := ⟨po_some h.h⟩
theorem q_a0 : QA X [] tNil := ⟨pa_nil⟩
theorem q_a (ha : QE X e te) (hr : QA X es t) (hs : noStar e = true := by rfl) : QA X (e :: es) (tCons te t) := ⟨pa ha.h hr.h hs⟩
theorem q_B {id : String} {r : List V → Hp → VK → Prop} (hc : QCall X (.builtin id) r) (hm : X.mg x = none) (hv : bootBuiltins x = some (.builtin id)) (ha : QA X (e :: es) t) (hg : Gl X x := by rfl) (hs : (e :: es).all noStar = true := by rfl) (hn : x ≠ "__name__" := by decide) (hdb : (x == ("__debug__" : Str)) = false := by decide) :
    QE X (.Call (.Name x p) (e :: es) [] pos) (tCB r t) := ⟨pB hc.h hm hv ha.h hg hs hn hdb⟩
theorem q_Ty {T : String} {r : List V → Hp → VK → Prop} (hc : QCall X (.type T) r) (hm : X.mg x = none) (hv : bootBuiltins x = some (.type T)) (ha : QA X (e :: es) t) (hg : Gl X x := by rfl) (hs : (e :: es).all noStar = true := by rfl) (hn : x ≠ "__name__" := by decide) (hdb : (x == ("__debug__" : Str)) = false := by decide) :
    QE X (.Call (.Name x p) (e :: es) [] pos) (tCB r t) := ⟨pTy hc.h hm hv ha.h hg hs hn hdb⟩
theorem q_fn {k : Nat} {ps : List Str} {sp : Sp} (F : Fn X.prog X.w X.K X.mg X.base k x ps sp) (hr : Room k X.A) (ha : QA X (e :: es) t) (hg : Gl X x := by rfl) (hs : (e :: es).all noStar = true := by rfl) (hdb : (x == ("__debug__" : Str)) = false := by decide) :
    QE X (.Call (.Name x p) (e :: es) [] pos) (tCall sp [] E0 t) := ⟨pfn F hr ha.h hg hs hdb⟩
/-! tests -/
theorem t_cmp {op : CmpOp} {r : R2} (ho : QOp X (compareOp op) r) (ha : QE X a ta) (hb : QE X b tb) (hm : behindInMarks op b = false := by first | exact nomark _ | with_unfolding_all rfl) : QT X (.Compare a [op] [b] pos) (tTest (tOp r ta tb)) := ⟨pt_cmpR ho.h ha.h hb.h hm⟩
theorem t_not (ha : QT X a tA) : QT X (.UnaryOp .Not a pos) (tNot tA) := ⟨pt_not ha.h⟩
theorem t_val (h : QE X e te) (he : ∀ whole, isTrue e X.env whole = (do let v ← whole; standAt e.pos; holding [v] (truthy v)) := by intro _; rfl) : QT X e (tB te) := ⟨pt_val h.h he⟩
theorem w_and1 (ha : QT X a tA) : QW X (.BoolOp .And [a] pos) tA := ⟨pw_and1 ha.h⟩
theorem w_or1 (ha : QT X a tA) : QW X (.BoolOp .Or [a] pos) tA := ⟨pw_or1 ha.h⟩
theorem w_and (ha : QT X a tA) (hb : QW X (.BoolOp .And (b :: rest) pos) tB') : QW X (.BoolOp .And (a :: b :: rest) pos) (tAnd tA tB') := ⟨pw_and ha.h hb.h⟩
theorem w_or (ha : QT X a tA) (hb : QW X (.BoolOp .Or (b :: rest) pos) tB') : QW X (.BoolOp .Or (a :: b :: rest) pos) (tOr tA tB') := ⟨pw_or ha.h hb.h⟩
theorem t_w (h : QW X e tA) : QT X e tA := ⟨h.h.pt⟩
end
section
variable {X : Cx} {pos : Pos} {tg iter elt : Expr} {ifs : List Expr} {g : TG} {gs : TGs} {tc : TT} {te : TE} {scope : Scope} {cap : List Nat} {capN own : List Str} {wi : TI}
/-! targets, what is walked -/
theorem g_name {i : Nat} {x : Str} (hN : X.N.Nodup) (hi : X.N[i]? = some x := by rfl) (hx : Loc X.env.scope x := by first | exact Or.inl rfl | exact Or.inr rfl) (hf : X.fn x = true ∨ X.env.scope.names.lookup x = some .local := by first | exact .inl rfl | exact .inr rfl) : QG X (.Name x pos) (gName i) := ⟨pg_name hN hi hx hf⟩
theorem gs_0 : QGs X [] gNil := ⟨pgs_nil⟩
theorem gs_1 {e : Expr} {es : List Expr} (h1 : QG X e g) (h2 : QGs X es gs) (hs : (assignEach (e :: es) X.env).map (·.2) = assign e X.env :: (assignEach es X.env).map (·.2) := by rfl) : QGs X (e :: es) (gCons g gs) := ⟨pgs_cons h1.h h2.h hs⟩
theorem g_tup {es : List Expr} {k n : Nat} (hc : X.calm = true) (h : QGs X es gs) (hn : (assignEach es X.env).length = n := by rfl) (hst : (assignEach es X.env).findIdx? (·.1) = none := by rfl) : QG X (.Tuple es k pos) (gTup X.K n gs) := ⟨pg_tup hc h.h hn hst⟩
theorem g_sub {o i : Expr} {to ti : TE} {t : TSet} (ho : QE X o to) (hi : QE X i ti) (hs : QSet X t)
    (ha : ∀ v, assign (.Subscript o i pos) X.env v = (do
      let ov ← holding [v] (eval o X.env)
      let iv ← holding [v, ov] (eval i X.env)
      standAt pos
      holding [v, ov, iv] (setItem ov iv v)
      release [v, ov, iv] []) := by intro _; rfl) : QG X (.Subscript o i pos) (gSub to ti t) := ⟨pg_sub ho.h hi.h hs.h ha⟩
theorem i_list {l : Expr} (hl : QE X l te) : QI X tg l (iList X.K te) := ⟨pi_list hl.h⟩
theorem i_rng1 {a : Expr} {ta : TA} {p : Pos} (hm : X.mg "range" = none) (ha : QA X [a] ta) (hg : Gl X "range" := by rfl) (hs : noStar a = true := by rfl) : QI X tg (.Call (.Name "range" p) [a] [] pos) (iRng1 ta) := ⟨pi_range1 hg hm ha.h (star_cons hs)⟩
theorem if_0 : QIf X [] tNoIf := ⟨pifs_nil⟩
theorem if_1 {c : Expr} {t : TT} (h : QT X c t) : QIf X [c] t := ⟨pifs_one h.h⟩
theorem q_comp (O : CompOk X scope cap capN) (hc : X.calm = true) (hi : QI X tg iter wi) (hg : ∀ C s0 H0 ex, QG (compCx X scope (own ++ capN) C s0 H0 ex) tg g) (gk : GK own.length g) (ht : ∀ C s0 H0 ex, QIf (compCx X scope (own ++ capN) C s0 H0 ex) ifs tc)
    (he : ∀ C s0 H0 ex, QE (compCx X scope (own ++ capN) C s0 H0 ex) elt te) (hs : ∀ x, foldedSetIterable iter X.env x = pure x := by intro _; rfl) : QE X (.ListComp elt [⟨tg, iter, ifs, 0⟩] scope pos) (tComp own.length cap wi g tc te) :=
  ⟨pe_comp O hc hi.h (fun C s0 H0 ex => (hg C s0 H0 ex).h) gk (fun C s0 H0 ex => (ht C s0 H0 ex).h) (fun C s0 H0 ex => (he C s0 H0 ex).h) hs⟩
/-! statements -/
variable {st : Stmt} {rest : List Stmt} {t u : TS} {e c : Expr}
theorem b_0 : QB X [] tNext := ⟨pss_nil⟩
theorem b_1 (h : QS X st t) : QB X [st] t := ⟨pss_one h.h⟩
theorem b_c (h1 : QS X st t) (h2 : QB X rest u) : QB X (st :: rest) (tSeq t u) := ⟨pss_cons h1.h h2.h⟩
theorem s_ret (h : QE X e te) : QS X (.Return (some e) pos) (tRet te) := ⟨ps_ret h.h⟩
theorem s_expr (h : QE X e te) (hs : swapsWith e none pos.line X.env = pure false := by rfl) : QS X (.Expr e pos) (tDrop te) := ⟨ps_expr h.h hs⟩
theorem s_if {body els : List Stmt} (hc : QT X c tc) (ht : QB X body t) (hu : QB X els u) : QS X (.If c body els pos) (tIfS tc t u) := ⟨ps_if hc.h ht.h hu.h⟩
theorem s_set {i : Nat} {x : Str} {pos' : Pos} (hN : X.N.Nodup) (he : QE X e te) (hi : X.N[i]? = some x := by rfl) (hx : Loc X.env.scope x := by first | exact Or.inl rfl | exact Or.inr rfl) (hs : swapsWith e (some (.Name x pos')) pos.line X.env = pure false := by rfl)
    (hf : X.fn x = true ∨ X.env.scope.names.lookup x = some .local := by first | exact .inl rfl | exact .inr rfl) : QS X (.Assign [.Name x pos'] e pos) (tAsg te (gName i)) := ⟨ps_set hN hi hx he.h hs hf⟩
theorem s_setC {j : Nat} {y : Str} {py spos : Pos} (hN0 : X.N.Nodup) (O : CompOk X scope cap capN) (hc : X.calm = true) (hi : QI X tg iter wi)
    (hg : ∀ C s0 H0 ex, QG (compCx X scope (own ++ capN) C s0 H0 ex) tg g) (gk : GK own.length g) (ht : ∀ C s0 H0 ex, QIf (compCx X scope (own ++ capN) C s0 H0 ex) ifs tc) (he : ∀ C s0 H0 ex, QE (compCx X scope (own ++ capN) C s0 H0 ex) elt te)
    (hj : X.N[j]? = some y := by rfl) (hy : Loc X.env.scope y := by first | exact Or.inl rfl | exact Or.inr rfl) (hsw : swapsWith (.ListComp elt [⟨tg, iter, ifs, 0⟩] scope pos) (some (.Name y py)) spos.line X.env = pure true := by rfl)
    (hs : ∀ x, foldedSetIterable iter X.env x = pure x := by intro _; rfl) (hf : X.fn y = true ∨ X.env.scope.names.lookup y = some .local := by first | exact .inl rfl | exact .inr rfl) :
    QS X (.Assign [.Name y py] (.ListComp elt [⟨tg, iter, ifs, 0⟩] scope pos) spos) (tAsg (tComp own.length cap wi g tc te) (gName j)) :=
  ⟨ps_setC hN0 hj hy O hc hi.h (fun C s0 H0 ex => (hg C s0 H0 ex).h) gk (fun C s0 H0 ex => (ht C s0 H0 ex).h) (fun C s0 H0 ex => (he C s0 H0 ex).h) hsw hs hf⟩
theorem s_asg (he : QE X e te) (hg : QG X tg g) (hs : swapsWithSole [tg] e pos.line X.env = pure false := by rfl) (hw : swappedStores [tg] e X.env = pure none := by rfl) (h1 : (assignEach [tg] X.env).map (·.2) = [assign tg X.env] := by rfl) : QS X (.Assign [tg] e pos) (tAsg te g) := ⟨ps_asg he.h hg.h hs hw h1⟩
theorem s_for {body : List Stmt} (hp : PassesOwn (model X.prog X.w) X.A X.env X.xe) (hc : X.calm = true) (hi : QI X tg iter wi) (hg : QG X tg g) (hb : QB X body t) (hs : ∀ x, foldedSetIterable iter X.env x = pure x := by intro _; rfl) : QS X (.For tg iter body [] pos) (tFor wi g t) := ⟨ps_for hp hc hi.h hg.h hb.h hs⟩
theorem s_while {body : List Stmt} (hp : PassesOwn (model X.prog X.w) X.A X.env X.xe) (hc : QT X c tc) (hb : QB X body t) : QS X (.While c body [] pos) (tWhile tc t) := ⟨ps_while hp hc.h hb.h⟩
end
theorem Fun.okQ {P : Program} {w : World} {K : PySem.W.Frag} {mg : Str → Option Value} {base : Heap} {x qual : Str} {st : Stmt} {f : Addr} {fd : FuncData} {N ps : List Str} {k : Nat} {sp : Sp} (F : Fun K x qual st f fd) (S : FnScope N ps (defScope st)) (len : ∀ vs H Q E, sp vs H Q E → vs.length = ps.length)
    (hbody : ∀ (cdv : Value) (A : Around) (outer : List Env) (s : Shared) (H : Hp) (vs : List V) (Q : VK) (E : XK), Room k (A.deeper (envOfC qual (defScope st) s.heap.objs.size f cdv)) → sp vs H Q E →
      ∃ t, QB (cxOf CX0 P w K mg base N qual (defScope st) f cdv A outer s H E).nox (defBody st) t ∧ t { nx := fun _ H' => Q .non H', rt := Q } (start N vs) H) : FnOk P w K mg base CX0 (k + 1) f fd ps sp :=
  F.ok S len fun cdv A outer s H vs Q E hr hsp => let ⟨t, h, q⟩ := hbody cdv A outer s H vs Q E hr hsp; ⟨t, h.h, q⟩
/-! the operations -/
section
variable {X : Cx}
theorem o_add : QOp X (binaryOp .Add) (rI0 fun i j => .int (i + j)) := ⟨op_add⟩
theorem o_sub : QOp X (binaryOp .Sub) (rI0 fun i j => .int (i - j)) := ⟨op_sub⟩
theorem o_mul : QOp X (binaryOp .Mult) (rI CMul fun i j => .int (i * j)) := ⟨op_mul⟩
theorem o_fdiv : QOp X (binaryOp .FloorDiv) (rI CDiv fun i j => .int (i / j)) := ⟨op_fdiv⟩
theorem o_mod : QOp X (binaryOp .Mod) (rI (fun _ j => 0 < j) fun i j => .int (i % j)) := ⟨op_mod⟩
theorem o_pow : QOp X (binaryOp .Pow) (rI CPow fun i j => .int (i ^ j.toNat)) := ⟨op_pow⟩
theorem o_cat : QOp X (binaryOp .Add) rCat := ⟨op_cat⟩
theorem o_eq : QOp X (compareOp .Eq) rEq := ⟨op_eq⟩
theorem o_lt : QOp X (compareOp .Lt) (rI0 fun i j => .bl (decide (i < j))) := ⟨op_lt⟩
theorem o_gt : QOp X (compareOp .Gt) (rI0 fun i j => .bl (decide (j < i))) := ⟨op_gt⟩
theorem o_notN : QOp X (compareOp .IsNot) (fun x y H Q => y = .non ∧ Q (.bl (!decide (x = .non))) H) := ⟨op_notN⟩
theorem x_list : QIx X (rIxL X.K) := ⟨ix_list⟩
theorem x_tup : QIx X (rIxT X.K) := ⟨ix_tup⟩
theorem l_list : QSl X (rSlL X.K) := ⟨sl_list⟩
theorem set_l : QSet X rSetL := ⟨set_list⟩
theorem c_len : QCall X (.builtin "len") (fun xs H Q => ∃ p ys, xs = [.ref p] ∧ (SqL X.K H p ys ∨ SqT X.K H p ys) ∧ Q (.int ys.length) H) := ⟨call_len_seq⟩
theorem c_max (hc : X.calm = true) : QCall X (.builtin "max") (fun xs H Q => ∃ i j, xs = [.int i, .int j] ∧ Q (.int (if j > i then j else i)) H) := ⟨call_max2 hc⟩
theorem c_list : QCall X (.type "list") (fun xs H Q => ∃ p ys, xs = [.ref p] ∧ (SqL X.K H p ys ∨ SqT X.K H p ys) ∧ ∀ l, H l = none → Q (.ref l) (upd H l (.lst ys))) := ⟨call_list_of⟩
theorem c_int : QCall X (.type "int") (fun xs H Q => (∃ i, xs = [.int i] ∧ Q (.int i) H) ∨ ∃ k, xs = [.bl k] ∧ Q (.int (if k then 1 else 0)) H) := ⟨call_int1⟩
end
end L2
namespace L2
open PySem PySem.Spec PyProof.Rows
/-! ### data: what a value is, lists and tuples within one another -/
mutual
def Dt (H : Hp) : PyData → V → Prop
  | .none, v => v = .non
  | .bool b, v => v = .bl b
  | .int i, v => v = .int i
  | .str x, v => v = .str x
  | .list ds, v => ∃ a xs, v = .ref a ∧ Rd H a (.lst xs) ∧ DtAll H ds xs
  | .tuple ds, v => ∃ a xs, v = .ref a ∧ Rd H a (.tup xs) ∧ DtAll H ds xs
  | .dict _, _ => False
def DtAll (H : Hp) : List PyData → List V → Prop
  | [], xs => xs = []
  | d :: ds, xs => ∃ y ys, xs = y :: ys ∧ Dt H d y ∧ DtAll H ds ys
end
section
variable {P : Program} {w : World} {H : Hp} {h : Heap}
mutual
theorem Dt.reads (ok : HOk P w H h) : ∀ (d : PyData) (x : V) (v : Value), Dt H d x → RelV x v → ∃ as, Reads h v d as
  | .none, x, v, e, r => by
    have e' : x = .non := by simpa only [Dt] using e
    subst e'
    cases r
    exact ⟨_, .none⟩
  | .bool b, x, v, e, r => by
    have e' : x = .bl b := by simpa only [Dt] using e
    subst e'
    cases r
    exact ⟨_, .bool b⟩
  | .int i, x, v, e, r => by
    have e' : x = .int i := by simpa only [Dt] using e
    subst e'
    obtain ⟨t, rfl⟩ := r
    exact ⟨_, .int i t⟩
  | .str z, x, v, e, r => by
    have e' : x = .str z := by simpa only [Dt] using e
    subst e'
    obtain ⟨t, rfl⟩ := r
    exact ⟨_, .str z t⟩
  | .list ds, x, v, e, r => by
    have e' : ∃ a xs, x = .ref a ∧ Rd H a (.lst xs) ∧ DtAll H ds xs := by simpa only [Dt] using e
    obtain ⟨a, xs, rfl, hr, hd⟩ := e'
    cases r
    obtain ⟨_, its, n, rv, eo⟩ := hr.ok ok
    obtain ⟨as, q⟩ := DtAll.reads ok ds xs its hd rv
    exact ⟨_, .list eo rfl rfl (by simpa using q)⟩
  | .tuple ds, x, v, e, r => by
    have e' : ∃ a xs, x = .ref a ∧ Rd H a (.tup xs) ∧ DtAll H ds xs := by simpa only [Dt] using e
    obtain ⟨a, xs, rfl, hr, hd⟩ := e'
    cases r
    obtain ⟨_, its, rv, o, eo, hc, n, hs⟩ := hr.ok ok
    obtain ⟨as, q⟩ := DtAll.reads ok ds xs its hd rv
    exact ⟨_, .tuple eo hc hs (by simpa using q)⟩
  | .dict kvs, x, v, e, r => by
    have e' : False := by simpa only [Dt] using e
    exact e'.elim
theorem DtAll.reads (ok : HOk P w H h) : ∀ (ds : List PyData) (xs : List V) (vs : List Value), DtAll H ds xs → Vals xs vs → ∃ as, ReadsAll h vs ds as
  | [], xs, vs, e, r => by
    have e' : xs = [] := by simpa only [DtAll] using e
    subst e'
    cases r
    exact ⟨_, .nil⟩
  | d :: ds, xs, vs, e, r => by
    have e' : ∃ y ys, xs = y :: ys ∧ Dt H d y ∧ DtAll H ds ys := by simpa only [DtAll] using e
    obtain ⟨y, ys, rfl, h1, h2⟩ := e'
    cases r with
    | cons r1 r2 =>
      obtain ⟨as, q1⟩ := Dt.reads ok d y _ h1 r1
      obtain ⟨bs, q2⟩ := DtAll.reads ok ds ys _ h2 r2
      exact ⟨_, .cons q1 q2⟩
end
end
theorem dt_ints {H : Hp} : ∀ (ns : List Int), DtAll H (ns.map PyData.int) (ns.map V.int)
  | [] => by simp only [List.map_nil, DtAll]
  | n :: ns => by
    simp only [List.map_cons, DtAll]
    exact ⟨_, _, rfl, by simp only [Dt], dt_ints ns⟩
section
variable {X : Cx}
def rEqD : R2 := fun x y H Q => ∃ dx dy, Dt H dx x ∧ Dt H dy y ∧ SeqAt.shaped dx = true ∧ SeqAt.shaped dy = true ∧ Q (.bl (PyData.eqv dx dy)) H
def rNeD : R2 := fun x y H Q => ∃ dx dy, Dt H dx x ∧ Dt H dy y ∧ SeqAt.shaped dx = true ∧ SeqAt.shaped dy = true ∧ Q (.bl (!PyData.eqv dx dy)) H
theorem op_eqD (hu : X.A.units + 64 < cLine) : OpR X (compareOp .Eq) rEqD := by
  intro pins s σ H x y v u Q I rx ry h
  obtain ⟨dx, dy, h1, h2, s1, s2, q⟩ := h
  obtain ⟨as, r1⟩ := Dt.reads I.hok dx x v h1 rx
  obtain ⟨bs, r2⟩ := Dt.reads I.hok dy y u h2 ry
  exact eq_dataH r1 r2 s1 s2 hu ⟨.bl _, H, I, rfl, q⟩
theorem op_neD (hu : X.A.units + 64 < cLine) : OpR X (compareOp .NotEq) rNeD := by
  intro pins s σ H x y v u Q I rx ry h
  obtain ⟨dx, dy, h1, h2, s1, s2, q⟩ := h
  obtain ⟨as, r1⟩ := Dt.reads I.hok dx x v h1 rx
  obtain ⟨bs, r2⟩ := Dt.reads I.hok dy y u h2 ry
  exact ne_dataH r1 r2 s1 s2 hu ⟨.bl _, H, I, rfl, q⟩
theorem o_eqD (hu : X.A.units + 64 < cLine) : QOp X (compareOp .Eq) rEqD := ⟨op_eqD hu⟩
theorem o_neD (hu : X.A.units + 64 < cLine) : QOp X (compareOp .NotEq) rNeD := ⟨op_neD hu⟩
end

/-! ### a dict and a tuple are not equal -/
section
variable {X : Cx}
/-! ### xs.append(e) -/
variable {o e : Expr} {to te : TE} {apos cpos : Pos}
theorem q_app (ho : QE X o to) (he : QE X e te) (hs : noStar e = true := by rfl) (hbase : attributeBase o "append" X.env (eval o X.env) = eval o X.env := by rfl) (hline : (apos.endLine == cpos.line) = true := by rfl) :
    QE X (.Call (.Attribute o "append" apos) [e] [] cpos) (tBM X.K "list" rAppend to (tCons te tNil)) := by
  have h1 := star_cons (es := []) (env := X.env) hs
  have h2 : starEach ([] : List Expr) X.env = [] := rfl
  refine ⟨pe_bm PySem.F.plainAttrs_list PySem.F.slot_list_append PySem.F.type_list_append mt_append ho.h (pa he.h pa_nil hs) hbase ?_ hline h1 (by rw [h2]; rfl)⟩
  rw [h1, h2]
  rfl
end
end L2
namespace L2
open PySem PySem.Spec PyProof.Rows
/-! ### tests of ints, told by their ints -/
theorem same_write {H H' : Hp} {p : Addr} {o : HO} (e : Same H H') (h : H p = none) : Same H (upd H' p o) := fun b u q => by
  rw [upd_ne (ne_of_none q h)]
  exact e _ _ q
/-- a cell of the script -/
def cellZ (ns : List Int) (k : Nat) : Int := (ns[k]?).getD 0
theorem atI_cell {ns : List Int} {k : Int} (h0 : 0 ≤ k) (h1 : k < ns.length) : atI (ns.map V.int) k = some (.int (cellZ ns k.toNat)) := by
  have hk : k.toNat < ns.length := by omega
  have ek : k = ((k.toNat : Nat) : Int) := by omega
  have q : atI (ns.map V.int) ((k.toNat : Nat) : Int) = some (.int ns[k.toNat]) := atI_nat (by rw [List.getElem?_map, List.getElem?_eq_getElem hk] <;> rfl)
  rw [← ek] at q
  rw [q]
  unfold cellZ
  rw [List.getElem?_eq_getElem hk]
  rfl
theorem cell_out {ns : List Int} {k : Int} (h0 : 0 ≤ k) (h1 : ¬ k < ns.length) : cellZ ns k.toNat = 0 := by
  unfold cellZ
  rw [List.getElem?_eq_none (by omega)]
  rfl
/-- any thing as it may be asked: its kind is known, and those of a tuple's items -/
def Asked (K : PySem.W.Frag) (H : Hp) (v : V) : Prop :=
  (∃ n, TyOf K H v (.type n)) ∧ ∀ a xs, v = .ref a → H a = some (.tup xs) → xs.length ≤ 1000 ∧ ∀ x ∈ xs, ∃ m, TyOf K H x (.type m)
theorem Asked.same {K : PySem.W.Frag} {H H' : Hp} {v : V} (h : Asked K H v) (e : Same H H') : Asked K H' v := by
  obtain ⟨⟨n, ty⟩, h2⟩ := h
  refine ⟨⟨n, same_ty e ty⟩, fun a xs hv hx => ?_⟩
  subst hv
  have q : H a = some (.tup xs) := by
    cases ty with
    | lst q => rw [e _ _ q] at hx; cases hx
    | frz q => rw [e _ _ q] at hx; cases hx
    | tup q => rw [e _ _ q] at hx; cases hx; exact q
    | dK q => rw [e _ _ q] at hx; cases hx
    | dT q => rw [e _ _ q] at hx; cases hx
  obtain ⟨l, k⟩ := h2 a xs rfl q
  exact ⟨l, fun x hm => let ⟨m, t⟩ := k x hm; ⟨m, same_ty e t⟩⟩
end L2
namespace L2
open PySem PySem.Spec PyProof.Rows
/-! ### a tuple drawn from, for zip -/
section
variable {prog : Program} {w : World} {A : Around}
theorem draws_tuple (calm : A.handled = none) (it t : Addr) (apart : t ≠ it) (xs : Array Value) :
    Draws prog w A it [it, t] xs.size (fun i v => xs[i]? = some v) (fun i h => h.IsTupleIter it t i ∧ h.IsTuple t xs) where
  live := fun _ _ q => let ⟨o, eo, _⟩ := q.1; ⟨o, eo⟩
  frame := fun _ _ _ q kp => ⟨let ⟨o, eo, r⟩ := q.1; ⟨o, kp it (by simp) o eo, r⟩, let ⟨o, eo, r⟩ := q.2; ⟨o, kp t (by simp) o eo, r⟩⟩
  item := fun i s Q E lt q cont => by
    have ei : xs[i]? = some xs[i] := by simp [lt]
    obtain ⟨o, eo, ec, ed⟩ := id q.1; obtain ⟨p, ep, _, np, edp⟩ := id q.2
    have ty := q.1.typeIs
    unfold Builtin.SmallTypes.nextOf
    refine wpAny_bind (wpAny_callSpecial?_slot (name := Str.ofString "__next__") ty F.slot_tuple_iterator_next (wpAny_call_entry F.slot_tuple_iterator_next ty F.entry_tuple_iterator_next ?_ (F.args_tuple_iterator_next_1 _)))
    show wpAny _ _ (field (.ref it) 0 >>= _) _ _ s; refine wpAny_bind (wpAny_field eo ed (x := .ref t) rfl ?_)
    show wpAny _ _ (if (Value.ref t == Value.none) = true then _ else _) _ _ s; rw [if_neg (show ¬ ((Value.ref t == Value.none) = true) from Bool.false_ne_true)]
    show wpAny _ _ (field (.ref it) 1 >>= _) _ _ s; refine wpAny_bind (wpAny_field eo ed (x := .int i 0) rfl ?_)
    show wpAny _ _ (seqItems? (.ref t) >>= _) _ _ s; refine wpAny_bind (wpAny_seqItems ep edp ?_)
    simp only [Int.toNat_natCast, ei]
    have sb := Heap.SameBut.update s.heap it (fun ob => ob.mapFields fun fs => fs.setIfInBounds 1 (rawInt (i + 1)))
    refine wpAny_bind (wpAny_setField eo ed (by simp) (wpAny_pure ⟨xs[i], rfl, wpAny_pure (cont _ _ s.toks ei ⟨?_, ?_⟩ (Heap.SameBut.update ..))⟩))
    · exact ⟨_, Heap.get?_update_self _ eo (Obj.isFreed_of_fields (Obj.data_mapFields ed _)), (Obj.cls_mapFields ..).trans ec, by rw [Obj.data_mapFields ed]; simp [rawInt]⟩
    · exact q.2.extBut (Heap.SameBut.update ..).extBut apart
  done := fun s Q E q cont => by
    have ei : xs[xs.size]? = none := by simp
    obtain ⟨o, eo, ec, ed⟩ := id q.1; obtain ⟨p, ep, _, np, edp⟩ := id q.2
    have ty := q.1.typeIs
    unfold Builtin.SmallTypes.nextOf
    refine wpAny_bind (wpAny_callSpecial?_slot (name := Str.ofString "__next__") ty F.slot_tuple_iterator_next (wpAny_call_entry F.slot_tuple_iterator_next ty F.entry_tuple_iterator_next ?_ (F.args_tuple_iterator_next_1 _)))
    show wpAny _ _ (field (.ref it) 0 >>= _) _ _ s; refine wpAny_bind (wpAny_field eo ed (x := .ref t) rfl ?_)
    show wpAny _ _ (if (Value.ref t == Value.none) = true then _ else _) _ _ s; rw [if_neg (show ¬ ((Value.ref t == Value.none) = true) from Bool.false_ne_true)]
    show wpAny _ _ (field (.ref it) 1 >>= _) _ _ s; refine wpAny_bind (wpAny_field eo ed (x := .int xs.size 0) rfl ?_)
    show wpAny _ _ (seqItems? (.ref t) >>= _) _ _ s; refine wpAny_bind (wpAny_seqItems ep edp ?_)
    simp only [Int.toNat_natCast, ei]
    refine wpAny_bind (wpAny_rule (wpAny_bind (wpAny_setField eo ed (by simp) ?_)))
    show wpAny _ _ (newExc (.type "StopIteration") [] >>= _) _ _ _; refine wpAny_bind ?_
    simp only [newExc, newTuple]; refine wpAny_bind (wpAny_newObj_type ?_ (by size_fits))
    refine wpAny_bind (m := firstArgMember _ _) (wpAny_of_eq (a := Value.none) (by first | rfl | (simp only [firstArgMember]; rfl)) (wpAny_newObj_type ?_ (by size_fits)))
    simp only [raiseNew]; refine wpAny_bind (wpAny_handled ?_)
    first | rw [show A.in1.handled = none from calm] | rw [calm]
    exact wpAny_bind (wpAny_pure (wpAny_throw (cont _ _ (((Heap.SameBut.update ..).extBut.push _).push _) ⟨_, Heap.get?_push_size _ rfl, rfl⟩)))
end

/-! ### zip of two that are drawn from -/
structure ZAp (z u v i j : Addr) (f g : List Addr) : Prop where
  uz : u ≠ z
  vz : v ≠ z
  uv : u ≠ v
  ui : u ≠ i
  uj : u ≠ j
  vi : v ≠ i
  vj : v ≠ j
  iz : i ≠ z
  jz : j ≠ z
  ij : i ≠ j
  zf : z ∉ f
  zg : z ∉ g
  vf : v ∉ f
  vg : v ∉ g
  jf : j ∉ f
  ig : i ∉ g
section
variable {prog : Program} {w : World} {A : Around} {E : Value → Shared → Prop} {s : Shared} {z u v i j : Addr} {f g : List Addr} {n m k : Nat} {P1 P2 : Nat → Value → Prop} {S1 S2 : Nat → Heap → Prop} {a b : Value}
/-- kept but the four that turn -/
def ZKeep (z v i j : Addr) (h h' : Heap) : Prop := ∀ c o, c ≠ z → c ≠ v → c ≠ i → c ≠ j → h.get? c = some o → h'.get? c = some o
theorem ne_mem {c : Addr} {f : List Addr} {d : Addr} (hc : c ∈ f) (hd : d ∉ f) : c ≠ d := fun e => hd (e ▸ hc)
theorem zip_item (d1 : Draws prog w A i f n P1 S1) (d2 : Draws prog w A j g m P2 S2) (ap : ZAp z u v i j f g) (hz : IsZip s.heap z u v .none) (hu : IsPair s.heap u (.ref i) (.ref j)) (hv : IsPair s.heap v a b) (h1 : S1 k s.heap) (h2 : S2 k s.heap) (l1 : k < n) (l2 : k < m) {Q : Value → Shared → Prop}
    (cont : ∀ h' tk x y, P1 k x → P2 k y → IsZip h' z u v (rawInt s.heap.objs.size) → IsPair h' v x y → S1 (k + 1) h' → S2 (k + 1) h' → IsPair h' s.heap.objs.size x y → ZKeep z v i j s.heap h' → Q (.ref s.heap.objs.size) { s with heap := h', toks := tk }) :
    wpAny (model prog w) A (Builtin.«zip.__next__» ⟨[.ref z], []⟩) (fun fin s' => ∃ r, fin = .done (.ret r) ∧ Q r s') E s := by
  show wpAny _ _ (field (.ref z) 2 >>= _) _ _ _; refine wpAny_bind (wpAny_field hz rfl (x := .bool false) rfl ?_)
  show wpAny _ _ (field (.ref z) 3 >>= _) _ _ _; refine wpAny_bind (wpAny_field hz rfl (x := .ref u) rfl (wpAny_bind (wpAny_seqItems hu rfl ?_)))
  show wpAny _ _ (Builtin.SmallTypes.ownedTupleIsFree (.ref z) >>= _) _ _ _; refine wpAny_bind ?_
  unfold Builtin.SmallTypes.ownedTupleIsFree; refine wpAny_bind (wpAny_field hz rfl (x := .none) rfl (wpAny_pure ?_))
  simp only [if_true]; refine wpAny_bind (wpAny_rule (wpAny_bind (wpAny_field hz rfl (x := .ref v) rfl ?_)))
  refine wpAny_bind (wpAny_setField_rec hz (by simp) fun q1 z1 b1 => ?_)
  replace z1 : IsZip q1 z u v .ellipsis := z1
  refine wpAny_bind ?_; simp only [List.zipIdx_cons, List.zipIdx_nil, List.forIn_cons, List.forIn_nil]
  refine wpAny_bind (wpAny_bind (wpAny_onRaise ?_)); show wpAny _ _ (Builtin.SmallTypes.nextOf (.ref i) >>= _) _ _ _
  refine wpAny_bind (d1.item k { s with heap := q1 } _ _ l1 (d1.frame _ _ _ h1 fun c hc o e => b1.extBut c o (ne_mem hc ap.zf) e) fun x q2 t2 px s2 b2 => wpAny_pure ?_)
  have v2 : IsPair q2 v a b := b2.extBut _ _ ap.vi (b1.extBut _ _ ap.vz hv)
  refine wpAny_bind (wpAny_seqItems v2 rfl (wpAny_bind (wpAny_updateSeq_pair v2 fun q3 w3 b3 => ?_)))
  replace w3 : IsPair q3 v x b := w3
  refine wpAny_bind (wpAny_letGo (wpAny_pure ?_)); refine wpAny_bind (wpAny_bind (wpAny_onRaise ?_)); show wpAny _ _ (Builtin.SmallTypes.nextOf (.ref j) >>= _) _ _ _
  refine wpAny_bind (d2.item k { s with heap := q3, toks := t2 } _ _ l2 (d2.frame _ _ _ h2 fun c hc o e => b3.extBut c o (ne_mem hc ap.vg) (b2.extBut c o (ne_mem hc ap.ig) (b1.extBut c o (ne_mem hc ap.zg) e))) fun y q4 t4 py s4 b4 => wpAny_pure ?_)
  have v4 : IsPair q4 v x b := b4.extBut _ _ ap.vj w3
  refine wpAny_bind (wpAny_seqItems v4 rfl (wpAny_bind (wpAny_updateSeq_pair v4 fun q5 w5 b5 => ?_)))
  replace w5 : IsPair q5 v x y := w5
  refine wpAny_bind (wpAny_letGo (wpAny_pure (wpAny_pure (wpAny_bind (wpAny_seqItems w5 rfl (wpAny_bind (wpAny_newTuple ?_)))))))
  have sz : q5.objs.size = s.heap.objs.size := by rw [b5.1, b4.1, b3.1, b2.1, b1.1]
  have z5 : IsZip q5 z u v .ellipsis := b5.extBut _ _ ap.vz.symm (b4.extBut _ _ ap.jz.symm (b3.extBut _ _ ap.vz.symm (b2.extBut _ _ ap.iz.symm z1)))
  have k5 : ZKeep z v i j s.heap q5 := fun c o c1 c2 c3 c4 e => b5.extBut _ _ c2 (b4.extBut _ _ c4 (b3.extBut _ _ c2 (b2.extBut _ _ c3 (b1.extBut _ _ c1 e))))
  have s5 : S1 (k + 1) q5 := d1.frame _ _ _ s2 fun c hc o e => b5.extBut c o (ne_mem hc ap.vf) (b4.extBut c o (ne_mem hc ap.jf) (b3.extBut c o (ne_mem hc ap.vf) e))
  have r5 : S2 (k + 1) q5 := d2.frame _ _ _ s4 fun c hc o e => b5.extBut c o (ne_mem hc ap.vg) e
  have zlt : z < q5.objs.size := Heap.lt_size z5
  show wpAny _ _ (Builtin.SmallTypes.ownedTupleHandOut (.ref z) (.ref q5.objs.size) >>= _) _ _ _; refine wpAny_bind ?_
  unfold Builtin.SmallTypes.ownedTupleHandOut
  refine wpAny_bind (wpAny_setField_rec (show IsZip (q5.push { cls := .type "tuple", data := .seq #[x, y] }) z u v .ellipsis from Heap.get?_push_of_some _ z5) (by simp) fun q7 z7 b7 => ?_)
  replace z7 : IsZip q7 z u v (rawInt q5.objs.size) := z7
  refine wpAny_setField_rec z7 (by simp) fun q8 z8 b8 => ?_
  replace z8 : IsZip q8 z u v (rawInt q5.objs.size) := z8
  have up : ∀ c o, c ≠ z → q5.get? c = some o → q8.get? c = some o := fun c o c1 e => b8.extBut _ _ c1 (b7.extBut _ _ c1 (Heap.get?_push_of_some _ e))
  have p8 : IsPair q8 q5.objs.size x y := b8.extBut _ _ (Nat.ne_of_gt zlt) (b7.extBut _ _ (Nat.ne_of_gt zlt) (Heap.get?_push_size _ rfl))
  rw [sz] at z8 p8
  refine wpAny_pure ⟨_, rfl, ?_⟩
  show Q (.ref q5.objs.size) _
  rw [sz]
  exact cont q8 _ x y px py z8 (up _ _ ap.vz w5) (d1.frame _ _ _ s5 fun c hc o e => up c o (ne_mem hc ap.zf) e) (d2.frame _ _ _ r5 fun c hc o e => up c o (ne_mem hc ap.zg) e) p8 fun c o c1 c2 c3 c4 e => up c o c1 (k5 c o c1 c2 c3 c4 e)
theorem zip_end (d1 : Draws prog w A i f n P1 S1) (d2 : Draws prog w A j g m P2 S2) (ap : ZAp z u v i j f g) (hz : IsZip s.heap z u v .none) (hu : IsPair s.heap u (.ref i) (.ref j)) (hv : IsPair s.heap v a b) (h1 : S1 n s.heap) {Q : Fin → Shared → Prop}
    (cont : ∀ h' e, ZKeep z v i j s.heap h' → (∃ o, h'.get? e = some o ∧ o.cls = .type "StopIteration") → E (.ref e) { s with heap := h' }) : wpAny (model prog w) A (Builtin.«zip.__next__» ⟨[.ref z], []⟩) Q E s := by
  show wpAny _ _ (field (.ref z) 2 >>= _) _ _ _; refine wpAny_bind (wpAny_field hz rfl (x := .bool false) rfl ?_)
  show wpAny _ _ (field (.ref z) 3 >>= _) _ _ _; refine wpAny_bind (wpAny_field hz rfl (x := .ref u) rfl (wpAny_bind (wpAny_seqItems hu rfl ?_)))
  show wpAny _ _ (Builtin.SmallTypes.ownedTupleIsFree (.ref z) >>= _) _ _ _; refine wpAny_bind ?_
  unfold Builtin.SmallTypes.ownedTupleIsFree; refine wpAny_bind (wpAny_field hz rfl (x := .none) rfl (wpAny_pure ?_))
  simp only [if_true]; refine wpAny_bind (wpAny_rule (wpAny_bind (wpAny_field hz rfl (x := .ref v) rfl ?_)))
  refine wpAny_bind (wpAny_setField_rec hz (by simp) fun q1 z1 b1 => ?_)
  replace z1 : IsZip q1 z u v .ellipsis := z1
  refine wpAny_bind ?_; simp only [List.zipIdx_cons, List.zipIdx_nil, List.forIn_cons, List.forIn_nil]
  refine wpAny_bind (wpAny_bind (wpAny_onRaise ?_)); show wpAny _ _ (Builtin.SmallTypes.nextOf (.ref i) >>= _) _ _ _
  refine wpAny_bind (d1.done { s with heap := q1 } _ _ (d1.frame _ _ _ h1 fun c hc o e => b1.extBut c o (ne_mem hc ap.zf) e) fun q2 e b2 he => ?_)
  obtain ⟨oe, hoe, hce⟩ := he
  have z2 : IsZip q2 z u v .ellipsis := b2 _ _ ap.iz.symm z1
  have ez : e ≠ z := fun x => by subst x; rw [z2] at hoe; cases hoe; simp at hce
  exact wpAny_setField_rec z2 (by simp) fun q3 _ b3 => cont q3 e (fun c o c1 _ c3 _ x => b3.extBut _ _ c1 (b2 _ _ c3 (b1.extBut _ _ c1 x))) ⟨oe, b3.extBut _ _ ez hoe, hce⟩
end

/-! ### objects of ours have turned -/
section
variable {X : Cx} {pins : List (Addr × Obj)} {σ : St} {H : Hp} {s : Shared} {h' : Heap} {ch : List Addr} {t' : Nat}
theorem Inv.turnH {H' : Hp} (I : Inv X pins σ H s) (hch : ∀ b ∈ ch, FpOk X pins H b) (kp : ∀ b o, b ∉ ch → s.heap.get? b = some o → h'.get? b = some o) (up : ∀ b u, H b = some u → H' b = some u) (dn : ∀ b o, s.heap.get? b = some o → H b = none → H' b = none) (hok : HOk X.prog X.w H' h') :
    Inv X pins σ H' { s with heap := h', toks := t' } := by
  refine I.step (g' := s.gens) (d' := s.drawn) (ch := ch) (fun b hb => ?_) (fun b o _ _ hc e _ => kp b o hc e) (fun b o _ _ hc e _ => ⟨o.slots, kp b o hc e⟩) (fun b o _ e n => dn b o e n) (fun b o hc e => ⟨o, kp b o hc e⟩) (fun b xs e => up _ _ e) (fun b o u e => up _ _ e) (fun b ps e => ⟨#[], by rw [up _ _ e]; simp⟩) (fun m hm => ?_) hok I.bare
  · obtain ⟨f0, f1, f2, f3, f4, f5⟩ := hch b hb
    exact ⟨f3, f1, f4, f5⟩
  · obtain ⟨o, es, ep, ho, r⟩ := hm
    exact ⟨o, es, ep, kp _ o (fun z => (hch _ z).2.1 rfl) ho, r⟩
theorem hok_turn (I : Inv X pins σ H s) (hch : ∀ b ∈ ch, FpOk X pins H b) (kp : ∀ b o, b ∉ ch → s.heap.get? b = some o → h'.get? b = some o) : HOk X.prog X.w H h' := fun b u e => by
  have nin : ∀ {c : Addr} {q : HO}, H c = some q → c ∉ ch := fun {c q} e z => by rw [(hch c z).1] at e; cases e
  refine (I.hok b u e).stay (fun c v hc q => kp c v ?_ q) (fun _ q => q) fun _ _ q => q
  rcases hc with z | z
  · rw [z]; exact nin e
  · exact nin z
theorem Inv.turnM (I : Inv X pins σ H s) (hch : ∀ b ∈ ch, FpOk X pins H b) (kp : ∀ b o, b ∉ ch → s.heap.get? b = some o → h'.get? b = some o) : Inv X pins σ H { s with heap := h', toks := t' } :=
  I.turnH hch kp (fun _ _ e => e) (fun _ _ _ n => n) (hok_turn I hch kp)
theorem Inv.turnT {xs : List V} {its : List Value} (I : Inv X pins σ H s) (hch : ∀ b ∈ ch, FpOk X pins H b) (kp : ∀ b o, b ∉ ch → s.heap.get? b = some o → h'.get? b = some o) (hp : IsTup h' s.heap.objs.size its.toArray) (rv : Vals xs its) (hz : xs.length ≤ sizeLine) :
    Inv X pins σ (upd H s.heap.objs.size (.tup xs)) { s with heap := h', toks := t' } := by
  have fr := I.hok.fresh (Nat.le_refl s.heap.objs.size)
  have ne : ∀ {b : Addr} {u : HO}, H b = some u → b ≠ s.heap.objs.size := fun {b u} e => ne_of_none e fr
  have hk := hok_turn I hch kp
  refine I.turnH hch kp (fun b u e => by rw [upd_ne (ne e)]; exact e) (fun b o e n => by rw [upd_ne (Nat.ne_of_lt (Heap.lt_size e))]; exact n) fun b u e => ?_
  by_cases hb : b = s.heap.objs.size
  · subst hb
    rw [upd_same] at e
    cases e
    exact ⟨hz, its, rv, hp⟩
  · rw [upd_ne hb] at e
    exact (hk b u e).stay (fun _ _ _ q => q) (fun c q => by rw [upd_ne (ne q)]; exact q) fun c ys q => by rw [upd_ne (ne q)]; exact q
end

/-! ### zip(t, u) of two tuples of one length, walked to a pair of names -/
def Itz (K : PySem.W.Frag) (a b : Addr) (xs ys : List V) : It :=
  ⟨fun i H => i < xs.length ∧ SqT K H a xs ∧ SqT K H b ys, fun i H x H' => ∃ T p q, H T = none ∧ xs[i]? = some p ∧ ys[i]? = some q ∧ x = .ref T ∧ H' = upd H T (.tup [p, q]), fun i H => i = xs.length ∧ SqT K H a xs ∧ SqT K H b ys⟩
abbrev zTn (z u v i1 i2 a b : Addr) : Nat → Heap → Prop := fun i h => IsZip h z u v .none ∧ IsPair h u (.ref i1) (.ref i2) ∧ (∃ p q, IsPair h v p q) ∧ h.IsTupleIter i1 a i ∧ h.IsTupleIter i2 b i
theorem turn_zip {P : Program} {w : World} {K : PySem.W.Frag} {elts : List Expr} {kt : Nat} {tp : Pos} {z u v i1 i2 a b : Addr} {xs ys : List V} (hl : xs.length = ys.length) (D : [z, u, v, i1, i2].Nodup) (ha : ∀ c ∈ [z, u, v, i1, i2], c ≠ a ∧ c ≠ b) :
    Turn P w K (.Tuple elts kt tp) (Itz K a b xs ys) [z, u, v, i1, i2] z (zTn z u v i1 i2 a b) := by
  have nd : (z ≠ u ∧ z ≠ v ∧ z ≠ i1 ∧ z ≠ i2) ∧ (u ≠ v ∧ u ≠ i1 ∧ u ≠ i2) ∧ (v ≠ i1 ∧ v ≠ i2) ∧ i1 ≠ i2 := by simpa using D
  obtain ⟨⟨zu, zv, z1, z2⟩, ⟨uv, u1, u2⟩, ⟨v1, v2⟩, i12⟩ := nd
  have az := ha z (by simp)
  have av := ha v (by simp)
  have a1 := ha i1 (by simp)
  have a2 := ha i2 (by simp)
  have ap : ZAp z u v i1 i2 [i1, a] [i2, b] := ⟨zu.symm, zv.symm, uv, u1, u2, v1, v2, z1.symm, z2.symm, i12, by simp [z1, az.1], by simp [z2, az.2], by simp [v1, av.1], by simp [v2, av.2], by simp [i12.symm, a2.1], by simp [i12, a1.2]⟩
  refine ⟨by simp, fun i h st c hc => ?_, fun i h h' st k => ?_, ?_, ?_, fun A i s Q E st h => wpAny_pyIter_zip st.1 h⟩
  · obtain ⟨e1, e2, ⟨p, q, e3⟩, ⟨o4, e4, _, d4⟩, ⟨o5, e5, _, d5⟩⟩ := st
    simp only [List.mem_cons, List.not_mem_nil, or_false] at hc
    rcases hc with rfl | rfl | rfl | rfl | rfl
    · exact ⟨_, e1, fun v z => nomatch z⟩
    · exact ⟨_, e2, fun v z => nomatch z⟩
    · exact ⟨_, e3, fun v z => nomatch z⟩
    · exact ⟨_, e4, fun v z => by rw [d4] at z; cases z⟩
    · exact ⟨_, e5, fun v z => by rw [d5] at z; cases z⟩
  · obtain ⟨e1, e2, ⟨p, q, e3⟩, ⟨o4, e4, r4⟩, ⟨o5, e5, r5⟩⟩ := st
    exact ⟨k z (by simp) _ e1, k u (by simp) _ e2, ⟨p, q, k v (by simp) _ e3⟩, ⟨o4, k i1 (by simp) _ e4, r4⟩, ⟨o5, k i2 (by simp) _ e5, r5⟩⟩
  · intro X hP hw hK hc i pins s σ H E I hf st hg
    subst hP hw hK
    obtain ⟨e1, e2, ⟨p, q, e3⟩, e4, e5⟩ := st
    obtain ⟨hi, hx, hy⟩ := hg
    obtain ⟨its, rx, px, zx⟩ := I.tuple hx
    obtain ⟨jts, ry, py, zy⟩ := I.tuple hy
    have lx : i < its.toArray.size := by rw [List.size_toArray, ← rx.length]; exact hi
    have ly : i < jts.toArray.size := by rw [List.size_toArray, ← ry.length, ← hl]; exact hi
    have hh := I.ok.hd hc
    have hT : s.TypeIs (.ref z) "zip" := ⟨_, e1, rfl⟩
    unfold pyNext
    refine wpAny_bind (wpAny_attempt (wpAny_callSpecial?_slot (name := Str.ofString "__next__") hT F.slot_zip_next (wpAny_call_entry F.slot_zip_next hT F.entry_zip_next
      (zip_item (draws_tuple (A := X.A.in1) hh i1 a a1.1.symm its.toArray) (draws_tuple (A := X.A.in1) hh i2 b a2.2.symm jts.toArray) ap e1 e2 e3 ⟨e4, px⟩ ⟨e5, py⟩ lx ly fun h' tk x y qx qy zz vv s1 s2 pp kp => wpAny_pure ?_) (F.args_zip_next_1 _))))
    refine ⟨_, rfl, wpAny_letOwnedTupleGo_zip (s := { s with heap := h', toks := tk }) zz fun h2 z2' sb => ?_⟩
    obtain ⟨xv, ex⟩ : ∃ xv, xs[i]? = some xv := ⟨xs[i], by simp [hi]⟩
    obtain ⟨yv, ey⟩ : ∃ yv, ys[i]? = some yv := ⟨ys[i]'(by omega), by simp [show i < ys.length by omega]⟩
    obtain ⟨x', gx, rxv⟩ := rx.get ex
    obtain ⟨y', gy, ryv⟩ := ry.get ey
    have qx' : its[i]? = some x := by simpa using qx
    have qy' : jts[i]? = some y := by simpa using qy
    rw [gx] at qx'
    rw [gy] at qy'
    cases qx'
    cases qy'
    have ltz : z < s.heap.objs.size := Heap.lt_size e1
    have kp2 : ∀ c o, c ∉ [z, u, v, i1, i2] → s.heap.get? c = some o → h2.get? c = some o := fun c o hc e => by
      simp only [List.mem_cons, List.not_mem_nil, or_false, not_or] at hc
      exact sb.extBut c o hc.1 (kp c o hc.1 hc.2.2.1 hc.2.2.2.1 hc.2.2.2.2 e)
    have tT : IsTup h2 s.heap.objs.size [x, y].toArray := ⟨_, sb.extBut _ _ (Nat.ne_of_gt ltz) pp, rfl, _, rfl⟩
    refine ⟨.ref s.heap.objs.size, upd H s.heap.objs.size (.tup [xv, yv]), I.turnT (t' := tk) hf kp2 tT (.cons rxv (.cons ryv .nil)) (size63 (Nat.le_of_ble_eq_true rfl)), rfl, ⟨_, xv, yv, I.hok.fresh (Nat.le_refl _), ex, ey, rfl, rfl⟩, ?_, fun c hc => ?_⟩
    · exact ⟨z2', sb.extBut _ _ zu.symm (kp _ _ zu.symm uv u1 u2 e2), ⟨_, _, sb.extBut _ _ zv.symm vv⟩, s1.1.extBut sb.extBut z1.symm, s2.1.extBut sb.extBut z2.symm⟩
    · rw [upd_ne]
      · exact (hf c hc).1
      · obtain ⟨o, eo, _⟩ : ∃ o, s.heap.get? c = some o ∧ True := by
          simp only [List.mem_cons, List.not_mem_nil, or_false] at hc
          rcases hc with rfl | rfl | rfl | rfl | rfl
          · exact ⟨_, e1, trivial⟩
          · exact ⟨_, e2, trivial⟩
          · exact ⟨_, e3, trivial⟩
          · obtain ⟨o, eo, _⟩ := e4
            exact ⟨o, eo, trivial⟩
          · obtain ⟨o, eo, _⟩ := e5
            exact ⟨o, eo, trivial⟩
        exact Nat.ne_of_lt (Heap.lt_size eo)
  · intro X hP hw hK hc i pins s σ H E I hf st hg
    subst hP hw hK
    obtain ⟨e1, e2, ⟨p, q, e3⟩, e4, e5⟩ := st
    obtain ⟨rfl, hx, hy⟩ := hg
    obtain ⟨its, rx, px, zx⟩ := I.tuple hx
    obtain ⟨jts, ry, py, zy⟩ := I.tuple hy
    have lx : its.toArray.size = xs.length := by rw [List.size_toArray, ← rx.length]
    have hh := I.ok.hd hc
    have hT : s.TypeIs (.ref z) "zip" := ⟨_, e1, rfl⟩
    unfold pyNext
    refine wpAny_bind (wpAny_attempt (wpAny_callSpecial?_slot (name := Str.ofString "__next__") hT F.slot_zip_next (wpAny_call_entry F.slot_zip_next hT F.entry_zip_next
      (zip_end (draws_tuple (A := X.A.in1) hh i1 a a1.1.symm its.toArray) (draws_tuple (A := X.A.in1) hh i2 b a2.2.symm jts.toArray) ap e1 e2 e3 ⟨by rw [lx]; exact e4, px⟩ fun h' e kp he => ?_) (F.args_zip_next_1 _))))
    obtain ⟨o, ho, hco⟩ := he
    refine wpAny_bind (wpAny_isInstance (T := "StopIteration") (b := true) ⟨o, ho, hco⟩ isSubtype_stop (wpAny_pure ⟨rfl, ?_⟩))
    exact I.turnM (t' := s.toks) hf fun c ob hc e => by
      simp only [List.mem_cons, List.not_mem_nil, or_false, not_or] at hc
      exact kp c ob hc.1 hc.2.2.1 hc.2.2.2.1 hc.2.2.2.2 e
theorem meets_zipT (l1 l2 : Addr) (xs ys : Array Value) :
    Meets (Builtin.«zip.__new__» ⟨[.type "zip", .ref l1, .ref l2], []⟩) (fun _ R s => s.heap.IsTuple l1 xs ∧ s.heap.IsTuple l2 ys ∧
      R (.ok (.ret (.ref ((((s.heap.push { cls := .type "tuple_iterator", data := .fields #[.ref l1, .int 0 0] }).push { cls := .type "tuple_iterator", data := .fields #[.ref l2, .int 0 0] }).push { cls := .type "tuple", data := .seq #[.ref s.heap.objs.size, .ref (s.heap.push { cls := .type "tuple_iterator", data := .fields #[.ref l1, .int 0 0] }).objs.size] }).push { cls := .type "tuple", data := .seq #[.none, .none] }).objs.size)))
        { s with heap := ((((s.heap.push { cls := .type "tuple_iterator", data := .fields #[.ref l1, .int 0 0] }).push { cls := .type "tuple_iterator", data := .fields #[.ref l2, .int 0 0] }).push { cls := .type "tuple", data := .seq #[.ref s.heap.objs.size, .ref (s.heap.push { cls := .type "tuple_iterator", data := .fields #[.ref l1, .int 0 0] }).objs.size] }).push { cls := .type "tuple", data := .seq #[.none, .none] }).push { cls := .type "zip", data := .fields #[.none, .bool false, .bool false, .ref ((s.heap.push { cls := .type "tuple_iterator", data := .fields #[.ref l1, .int 0 0] }).push { cls := .type "tuple_iterator", data := .fields #[.ref l2, .int 0 0] }).objs.size, .ref (((s.heap.push { cls := .type "tuple_iterator", data := .fields #[.ref l1, .int 0 0] }).push { cls := .type "tuple_iterator", data := .fields #[.ref l2, .int 0 0] }).push { cls := .type "tuple", data := .seq #[.ref s.heap.objs.size, .ref (s.heap.push { cls := .type "tuple_iterator", data := .fields #[.ref l1, .int 0 0] }).objs.size] }).objs.size] } }) :=
  .of_wp fun prog w A R s h => by
    obtain ⟨hp, g, d, tk, os⟩ := s; obtain ⟨t1, t2, h⟩ := h
    have hsub := sub_zip
    have T1 : Heap.IsTuple (Shared.heap ⟨hp, g, d, tk, os⟩) l1 xs := t1
    have T2 : Heap.IsTuple (Shared.heap ⟨hp.push { cls := .type "tuple_iterator", data := .fields #[.ref l1, .int 0 0] }, g, d, tk, os⟩) l2 ys := Heap.IsTuple.push t2 _
    wp_walk using wpAny_pyIter_tuple T1, wpAny_pyIter_tuple T2
    exact ⟨_, rfl, h⟩
theorem nodup5 (n : Nat) : [n + 4, n + 2, n + 3, n, n + 1].Nodup := by
  simp
def iZip (K : PySem.W.Frag) (ta : TA) : TI := fun σ H R => ta σ H fun vs H1 => ∃ a b xs ys, vs = [.ref a, .ref b] ∧ SqT K H1 a xs ∧ SqT K H1 b ys ∧ xs.length = ys.length ∧ R (Itz K a b xs ys) H1
section
variable {X : Cx}
theorem pi_zip {e1 e2 : Expr} {ta : TA} {p pos tp : Pos} {elts : List Expr} {kt : Nat} (hg : Gl X "zip") (hm : X.mg "zip" = none) (ha : PA X [e1, e2] ta) (n1 : noStar e1 = true) (n2 : noStar e2 = true) : PI X (.Tuple elts kt tp) (.Call (.Name "zip" p) [e1, e2] [] pos) (iZip X.K ta) := by
  intro pins s σ H R I h
  refine Call_ (ld_blt I hg hm boot_zip (PyProof.Rows.callWith_type1 (thn (ha pos pins s σ H _ I h) fun us s1 ⟨vs, H1, I1, r1, q1⟩ => ?_) (star_cons n1) (plain_back (by simp [n2]))))
  obtain ⟨a, b, xs, ys, e, hx, hy, hl, q⟩ := q1
  subst e
  obtain ⟨ua, ub, rfl, ra, rb⟩ := vals2 r1
  cases ra
  cases rb
  obtain ⟨its, rx, px, zx⟩ := I1.tuple hx
  obtain ⟨jts, ry, py, zy⟩ := I1.tuple hy
  refine callType_new F.called_zip (by decide) (F.typeCall_zip_2 _ _) (F.newCall_zip_2 _ _) (fun obj => F.args_object_init_3 obj _ _) F.entry_zip_new (meets_zipT a b its.toArray jts.toArray) ⟨px, py, ?_⟩
  generalize ea : ({ cls := .type "tuple_iterator", data := .fields #[.ref a, .int 0 0] } : Obj) = oa
  generalize eb : ({ cls := .type "tuple_iterator", data := .fields #[.ref b, .int 0 0] } : Obj) = ob
  have z1 : (s1.heap.push oa).objs.size = s1.heap.objs.size + 1 := Heap.size_push ..
  have z2 : ((s1.heap.push oa).push ob).objs.size = s1.heap.objs.size + 2 := by rw [Heap.size_push, z1]
  rw [z2, z1]
  generalize eu : ({ cls := .type "tuple", data := .seq #[.ref s1.heap.objs.size, .ref (s1.heap.objs.size + 1)] } : Obj) = ou
  have z3 : (((s1.heap.push oa).push ob).push ou).objs.size = s1.heap.objs.size + 3 := by rw [Heap.size_push, z2]
  generalize ev : ({ cls := .type "tuple", data := .seq #[.none, .none] } : Obj) = ov
  have z4 : ((((s1.heap.push oa).push ob).push ou).push ov).objs.size = s1.heap.objs.size + 4 := by rw [Heap.size_push, z3]
  rw [z4, z3]
  generalize ez : ({ cls := .type "zip", data := .fields #[.none, .bool false, .bool false, .ref (s1.heap.objs.size + 2), .ref (s1.heap.objs.size + 3)] } : Obj) = oz
  have g5 : (((((s1.heap.push oa).push ob).push ou).push ov).push oz).get? (s1.heap.objs.size + 4) = some oz := by rw [← z4]; exact Heap.get?_push_size _ (by rw [← ez]; rfl)
  have g4 : (((((s1.heap.push oa).push ob).push ou).push ov).push oz).get? (s1.heap.objs.size + 3) = some ov := by rw [← z3]; exact Heap.get?_push_of_some _ (Heap.get?_push_size _ (by rw [← ev]; rfl))
  have g3 : (((((s1.heap.push oa).push ob).push ou).push ov).push oz).get? (s1.heap.objs.size + 2) = some ou := by rw [← z2]; exact Heap.get?_push_of_some _ (Heap.get?_push_of_some _ (Heap.get?_push_size _ (by rw [← eu]; rfl)))
  have g2 : (((((s1.heap.push oa).push ob).push ou).push ov).push oz).get? (s1.heap.objs.size + 1) = some ob := by rw [← z1]; exact Heap.get?_push_of_some _ (Heap.get?_push_of_some _ (Heap.get?_push_of_some _ (Heap.get?_push_size _ (by rw [← eb]; rfl))))
  have g1 : (((((s1.heap.push oa).push ob).push ou).push ov).push oz).get? s1.heap.objs.size = some oa := Heap.get?_push_of_some _ (Heap.get?_push_of_some _ (Heap.get?_push_of_some _ (Heap.get?_push_of_some _ (Heap.get?_push_size _ (by rw [← ea]; rfl)))))
  have kp : ∀ c o, s1.heap.get? c = some o → (((((s1.heap.push oa).push ob).push ou).push ov).push oz).get? c = some o := fun c o e => Heap.get?_push_of_some _ (Heap.get?_push_of_some _ (Heap.get?_push_of_some _ (Heap.get?_push_of_some _ (Heap.get?_push_of_some _ e))))
  generalize ((((s1.heap.push oa).push ob).push ou).push ov).push oz = hN at g1 g2 g3 g4 g5 kp ⊢
  have I2 : Inv X pins σ H1 { s1 with heap := hN } := I1.kept (t' := s1.toks) kp
  have la : a < s1.heap.objs.size := px.lt
  have lb : b < s1.heap.objs.size := py.lt
  subst ea eb eu ev ez
  have base : ∀ c ∈ [s1.heap.objs.size + 4, s1.heap.objs.size + 2, s1.heap.objs.size + 3, s1.heap.objs.size, s1.heap.objs.size + 1], s1.heap.objs.size ≤ c := fun c hc => by
    simp only [List.mem_cons, List.not_mem_nil, or_false] at hc
    omega
  refine ⟨⟨_, g5, rfl⟩, ?_⟩
  show wpAny (model X.prog X.w) X.A (pyIter (.ref (s1.heap.objs.size + 4))) (PIE X pins σ (.Tuple elts kt tp) R) X.xe { s1 with heap := hN }
  refine wpAny_pyIter_zip g5 ?_
  refine ⟨s1.heap.objs.size + 4, [s1.heap.objs.size + 4, s1.heap.objs.size + 2, s1.heap.objs.size + 3, s1.heap.objs.size, s1.heap.objs.size + 1], zTn (s1.heap.objs.size + 4) (s1.heap.objs.size + 2) (s1.heap.objs.size + 3) s1.heap.objs.size (s1.heap.objs.size + 1) a b, _, H1, rfl, I2,
    turn_zip hl ?_ (fun c hc => ⟨Nat.ne_of_gt (Nat.lt_of_lt_of_le la (base c hc)), Nat.ne_of_gt (Nat.lt_of_lt_of_le lb (base c hc))⟩), ⟨g5, g3, ⟨_, _, g4⟩, ⟨_, g1, rfl, rfl⟩, ⟨_, g2, rfl, rfl⟩⟩, fun c hc => ?_, q⟩
  · exact nodup5 s1.heap.objs.size
  · exact I1.fpOk (base c hc) (I1.hok.fresh (base c hc))
theorem i_zip {e1 e2 : Expr} {ta : TA} {p pos tp : Pos} {elts : List Expr} {kt : Nat} (hm : X.mg "zip" = none) (ha : QA X [e1, e2] ta) (hg : Gl X "zip" := by rfl) (n1 : noStar e1 = true := by rfl) (n2 : noStar e2 = true := by rfl) : QI X (.Tuple elts kt tp) (.Call (.Name "zip" p) [e1, e2] [] pos) (iZip X.K ta) := ⟨pi_zip hg hm ha.h n1 n2⟩
end
end L2
namespace L2
open PySem PySem.Spec PyProof.Rows
/-! ### a comprehension with tests, its elements leave what was there -/
/-! ### t + u, either one empty or not; t * k, 1 ≤ k -/
def rCatS : R2 := fun x y H Q => ∃ a b xs ys, x = .ref a ∧ y = .ref b ∧ H a = some (.tup xs) ∧ H b = some (.tup ys) ∧ xs.length + ys.length ≤ sizeLine ∧ ∀ p H', Same H H' → H' p = some (.tup (xs ++ ys)) → Q (.ref p) H'
section
variable {X : Cx}
theorem op_catS : OpR X (binaryOp .Add) rCatS := by
  intro pins s σ H x y v u Q I rx ry h
  obtain ⟨a, b, xs, ys, rfl, rfl, ha, hb, hz, q⟩ := h
  by_cases hx : xs = []
  · cases rx
    cases ry
    obtain ⟨its, r1, p1, _⟩ := I.tuple (SqT.of (K := X.K) ha)
    obtain ⟨its2, r2, p2, _⟩ := I.tuple (SqT.of (K := X.K) hb)
    obtain ⟨⟨cls, dd, data, sl⟩, ho, hc, n, hd⟩ := id p1
    obtain ⟨⟨cls2, dd2, data2, sl2⟩, ho2, hc2, n2, hd2⟩ := id p2
    simp only at hc hd hc2 hd2
    subst hc hd hc2 hd2
    have e : its = [] := r1.nil_iff.mpr hx
    subst e
    refine PySem.concat_meets ⟨_, ho, rfl⟩ ⟨_, ho2, rfl⟩ noFill_tuple_add seq_tuple_add PySem.F.slot_tuple_add PySem.F.entry_tuple_add (PySem.F.args_tuple_add_2 _ _)
      (tuple_addW0 a b _ its2.toArray n n2 dd dd2 sl sl2 (by simp)) ⟨ho, ho2, ⟨.ref b, H, I, rfl, q b H (Same.refl H) ?_⟩⟩
    rw [hx]
    exact hb
  · exact op_catT pins s σ H _ _ v u Q I rx ry ⟨a, b, xs, ys, rfl, rfl, SqT.of ha, SqT.of hb, hx, hz, fun e => q a H (Same.refl H) (by rw [e, List.append_nil]; exact ha), fun _ p hp => q p _ (same_new hp _) upd_same⟩
theorem o_catS : QOp X (binaryOp .Add) rCatS := ⟨op_catS⟩
/-! the rules that name the kept records, with a name of their own for them: within a comprehension -/
variable {K : PySem.W.Frag} (hK : X.K = K)
include hK
theorem gK_tup {es : List Expr} {k n : Nat} {gs : TGs} {pos : Pos} (hc : X.calm = true) (h : QGs X es gs) (hn : (assignEach es X.env).length = n := by rfl) (hst : (assignEach es X.env).findIdx? (·.1) = none := by rfl) : QG X (.Tuple es k pos) (gTup K n gs) := by subst hK; exact g_tup hc h hn hst
omit hK
end
end L2
namespace L2
open PySem PySem.Spec PyProof.Rows PySem.W
section
variable {X : Cx}
/-- a statement that is not come to -/
theorem s_never {st : Stmt} : QS X st (fun _ _ _ => False) := ⟨fun _ _ _ _ _ _ h => h.elim⟩
/-! ### xs.insert(i, e) -/
variable {o e d : Expr} {to te td : TE} {apos cpos : Pos}
/-! ### t[lo:hi], the whole of it too -/
theorem getItem_tuple_whole {prog : Program} {w : World} {A : Around} {E : Value → Shared → Prop} {s : Shared} {t sl : Addr} {items : Array Value} {vl vu : Value} {lo hi : Option Int} {Q : Value → Shared → Prop} (ht : IsTup s.heap t items) (hs : s.heap.IsSliceOf sl vl vu .none) (pl : IsPart vl lo) (pu : IsPart vu hi)
    (hw : HT.sIx items.size 0 lo = 0 ∧ HT.sIx items.size items.size hi = items.size) (h : Q (.ref t) s) : wpAny (model prog w) A (getItem (.ref t) (.ref sl)) Q E s := by
  obtain ⟨os, hos, hcs, hds⟩ := id hs
  have hTs : s.TypeIs (.ref sl) "slice" := ⟨os, hos, hcs⟩
  unfold getItem
  try with_reducible refine wpAny_holding ?_
  first | refine wpAny_bind (wpAny_pure ?_) | skip
  refine wpAny_bind (wpAny_sequenceKey ht.typeIs (by decide) ?_)
  refine wpAny_bind (wpAny_callSpecial?_slot (name := Str.ofString "__getitem__") ht.typeIs PyProof.Rows.slot_tuple_getitem
    (wpAny_call_entry PyProof.Rows.slot_tuple_getitem ht.typeIs entry_tuple_getitem ?_ (args_tuple_getitem _ _)))
  show wpAny _ _ (Builtin.Tuple.tupleItemsOf (.ref t) >>= _) _ _ s
  refine wpAny_bind (tupleItemsOf_ ht ?_)
  refine wpAny_bind (wpAny_typeOf hTs ?_)
  rw [if_pos (by decide)]
  refine wpAny_bind (HT.sliceApplied_gen hs pl pu ?_)
  show wpAny _ _ (if (((HT.sIx items.size 0 lo : Nat) : Int) == 0 && (1 : Int) == 1 && (HT.sIx items.size items.size hi - HT.sIx items.size 0 lo) == items.size) = true then _ else _) _ _ s
  rw [if_pos (by rw [hw.1, hw.2]; simp)]
  refine wpAny_bind (m := Builtin.Tuple.tupleIsExact _) ?_
  unfold Builtin.Tuple.tupleIsExact
  refine wpAny_bind (wpAny_typeOf ht.typeIs (wpAny_pure ?_))
  rw [if_pos (by decide)]
  exact wpAny_bind (wpAny_rule (wpAny_pure ⟨_, rfl, wpAny_pure h⟩))
def rSlS : V → Option Int → Option Int → Hp → VK → Prop := fun x lo hi H Q => ∃ a xs, x = .ref a ∧ H a = some (.tup xs) ∧ ∀ p H', Same H H' → H' p = some (.tup (cutV xs lo hi)) → Q (.ref p) H'
theorem l_tupS : QSl X rSlS := by
  refine ⟨?_⟩
  intro pins s σ H x v vl vu lo hi sl Q I rx hs pl pu h
  obtain ⟨a, xs, rfl, hx, q⟩ := h
  by_cases hw : HT.sIx xs.length 0 lo = 0 ∧ HT.sIx xs.length xs.length hi = xs.length
  · cases rx
    obtain ⟨its, r, ht, hz⟩ := I.tuple (SqT.of (K := X.K) hx)
    have hlen : its.toArray.size = xs.length := by rw [List.size_toArray]; exact r.length.symm
    refine ⟨"tuple", _, PyProof.Rows.slot_tuple_getitem.lookup, ht.typeIs, getItem_tuple_whole ht hs pl pu (by rw [hlen]; exact hw) ⟨.ref a, H, I, rfl, q a H (Same.refl H) ?_⟩⟩
    unfold cutV
    rw [hw.1, hw.2, List.drop_zero, Nat.sub_zero, List.take_length]
    exact hx
  · exact sl_tup pins s σ H _ v vl vu lo hi sl Q I rx hs pl pu ⟨a, xs, rfl, SqT.of hx, hw, fun p hp => q p _ (same_new hp _) upd_same⟩
end
/-! ### sorted([t, u]) of two tuples of ints -/
section
variable {prog : Program} {w : World} {A : Around} {s : Shared} {fin : Bool} {Q : Bool → Shared → Prop}
end
section
variable {X : Cx} {pins : List (Addr × Obj)} {σ : St} {H : Hp} {s : Shared} {h' : Heap}
theorem obj_some {P : Program} {w : World} {H : Hp} {h : Heap} {a : Addr} {o : HO} (x : ObjOk P w H h a o) : ∃ ob, h.get? a = some ob := by
  cases o with
  | lst xs =>
    have ⟨_, _, _, _, e⟩ := x
    exact ⟨_, e⟩
  | tup xs =>
    have ⟨_, _, _, ob, e, _⟩ := x
    exact ⟨ob, e⟩
  | dK kvs =>
    have ⟨_, _, _, _, ob, _, _, e, _⟩ := x
    exact ⟨ob, e⟩
  | dT kvs =>
    have ⟨_, _, _, _, ob, _, _, e, _⟩ := x
    exact ⟨ob, e⟩
  | set S n =>
    have ⟨ob, _, _, _, e, _⟩ := x
    exact ⟨ob, e⟩
  | ins C dx fs =>
    have ⟨_, _, _, e, _⟩ := x
    exact ⟨_, e⟩
  | own y => exact x
  | xd fs =>
    have ⟨_, ⟨ob, _, _, e, _⟩, _⟩ := x
    exact ⟨ob, e⟩
  | rng lo hi =>
    have ⟨_, _, _, e⟩ := x
    exact ⟨_, e⟩
  | frz ob u => exact ⟨ob, x.1⟩
  | tbl ps => exact ⟨_, x⟩
  | met f y => exact ⟨_, x⟩
  | ext φ => exact x.2.1
theorem none_of (I : Inv X pins σ H s) {a : Addr} (hg : s.heap.get? a = none) : H a = none := by
  cases q : H a with
  | none => rfl
  | some u =>
    obtain ⟨ob, e⟩ := obj_some (I.hok a u q)
    rw [hg] at e
    cases e
end
section
variable {X : Cx}
end

/-! ### tuples of ints, == and != -/
theorem shaped_ints (ns : List Int) : SeqAt.shaped (.tuple (ns.map .int)) = true := by
  unfold SeqAt.shaped
  rw [Bool.and_eq_true]
  refine ⟨?_, ?_⟩
  · simp only [PyData.canLay0]
    exact PyProof.Rows.canLayAll_ints ns
  · refine decide_eq_true ?_
    simp only [PyData.depth]
    rw [PyProof.Rows.depthAll_ints ns]
    decide
theorem eqvAll_ints : ∀ (ns ms : List Int), PyData.eqvAll (ns.map .int) (ms.map .int) = decide (ns = ms)
  | [], [] => by simp [PyData.eqvAll]
  | [], _ :: _ => by simp [PyData.eqvAll]
  | _ :: _, [] => by simp [PyData.eqvAll]
  | x :: ns, y :: ms => by
    simp only [List.map_cons, PyData.eqvAll, PyData.eqv]
    rw [eqvAll_ints ns ms, Bool.eq_iff_iff]
    simp
theorem eqv_ints (ns ms : List Int) : PyData.eqv (.tuple (ns.map .int)) (.tuple (ms.map .int)) = decide (ns = ms) := by
  simp only [PyData.eqv]
  exact eqvAll_ints ns ms
theorem dt_tup {H : Hp} {a : Addr} {ns : List Int} (h : H a = some (.tup (ns.map V.int))) : Dt H (.tuple (ns.map .int)) (.ref a) := by
  simp only [Dt]
  exact ⟨a, _, rfl, Rd.of h, dt_ints ns⟩
section
variable {X : Cx}
theorem o_eqTI (hu : X.A.units + 64 < cLine) : QOp X (compareOp .Eq) (fun x y H Q => ∃ (a b : Addr) (ns ms : List Int), x = .ref a ∧ y = .ref b ∧ H a = some (.tup (ns.map V.int)) ∧ H b = some (.tup (ms.map V.int)) ∧ Q (.bl (decide (ns = ms))) H) := by
  refine ⟨?_⟩
  intro pins s σ H x y v u Q I rx ry h
  obtain ⟨a, b, ns, ms, rfl, rfl, ha, hb, q⟩ := h
  exact op_eqD hu pins s σ H _ _ v u Q I rx ry ⟨_, _, dt_tup ha, dt_tup hb, shaped_ints ns, shaped_ints ms, by rw [eqv_ints]; exact q⟩
theorem o_neTI (hu : X.A.units + 64 < cLine) : QOp X (compareOp .NotEq) (fun x y H Q => ∃ (a b : Addr) (ns ms : List Int), x = .ref a ∧ y = .ref b ∧ H a = some (.tup (ns.map V.int)) ∧ H b = some (.tup (ms.map V.int)) ∧ Q (.bl (!decide (ns = ms))) H) := by
  refine ⟨?_⟩
  intro pins s σ H x y v u Q I rx ry h
  obtain ⟨a, b, ns, ms, rfl, rfl, ha, hb, q⟩ := h
  exact op_neD hu pins s σ H _ _ v u Q I rx ry ⟨_, _, dt_tup ha, dt_tup hb, shaped_ints ns, shaped_ints ms, by rw [eqv_ints]; exact q⟩
end
theorem iteNN {x : V} {A B : Prop} (h : x ≠ .non) (hA : A) : if (!decide (x = .non)) = true then A else B := by
  rw [decide_eq_false h]
  exact iteT hA
theorem iteIT {c A B : Prop} [Decidable c] (h : c) (hA : A) : if decide c = true then A else B := by
  rw [decide_eq_true h]
  exact iteT hA
theorem iteD {c A B : Prop} [Decidable c] (h1 : c → A) (h2 : ¬ c → B) : if decide c = true then A else B := by
  by_cases h : c
  · exact iteIT h (h1 h)
  · rw [decide_eq_false h]
    exact iteF (h2 h)
end L2
namespace L2
open PySem PySem.Spec PyProof.Rows
/-! ### a comprehension whose own name is a cell (a block within it reads it) -/
structure CompOk1 (X : Cx) (scope : Scope) (cx : Str) (cap : List Nat) (capN : List Str) : Prop where
  kind : scope.kind = .function
  names : ∀ x ∈ scope.names, x.2 = .local → scope.names.lookup x.1 = some .local
  onecell : ∀ y ∈ scope.names, y.2 = .cell → y.1 = cx
  own : scope.names.lookup cx = some .cell
  cf : ∀ (n : Nat) (acc : List (Str × Addr)), cellsFrom n scope.names acc = (cx, n) :: acc
  pc : ∀ h : Heap, pushCells h scope.names = h.push { cls := .type "cell", data := .cell none }
  frees : (scope.names.all fun y => !(y.2 == NameKind.free) || (X.env.kindOf y.1 == some .cell || X.env.kindOf y.1 == some .free)) = true
  cap : CapOk X scope cap capN
section
variable {X : Cx} {scope : Scope} {cx : Str} {cap : List Nat} {capN : List Str}
theorem CompOk1.around (O : CompOk1 X scope cx cap capN) {y : Str × NameKind} (hy : y ∈ scope.names) (hf : y.2 = .free) : X.env.kindOf y.1 = some .cell ∨ X.env.kindOf y.1 = some .free := by
  have q := List.all_eq_true.mp O.frees y hy
  rw [hf] at q
  simpa using q
theorem CompOk1.cells (O : CompOk1 X scope cx cap capN) (ok : X.Ok) : ∀ y ∈ scope.names, y.2 = .free → ∃ c, X.env.cells.lookup y.1 = some c := fun y hy hf => ok.has _ (O.around hy hf)
theorem CompOk1.clos (O : CompOk1 X scope cx cap capN) (ok : X.Ok) : closureFor scope X.env = pure (cloOf X.env scope.names []) := clo_for (O.cells ok)
theorem CompOk1.sub (O : CompOk1 X scope cx cap capN) (ok : X.Ok) : ∀ x c, (cloOf X.env scope.names []).lookup x = some c → X.env.cells.lookup x = some c := clo_sub (O.cells ok) fun x c e => by simp at e
theorem CompOk1.has (_O : CompOk1 X scope cx cap capN) {x : Str} (h : scope.names.lookup x = some .free) : ∃ c, (cloOf X.env scope.names []).lookup x = some c := clo_has h
theorem CompOk1.ne (O : CompOk1 X scope cx cap capN) {x : Str} (h : scope.names.lookup x = some .free) : x ≠ cx := fun z => by
  rw [z, O.own] at h
  cases h
end
section
variable {M : Model} {A : Around} {E : Value → Shared → Prop} {s : Shared}
end
section
variable {X : Cx} {pins : List (Addr × Obj)} {σ : St} {H : Hp} {s : Shared} {scope : Scope} {cx : Str} {cap : List Nat} {capN N' : List Str} {C : Addr} {ex : List Addr}
end

section
variable {X : Cx} {pins : List (Addr × Obj)} {σ : St} {H2 : Hp} {s2 : Shared} {scope : Scope} {cx : Str} {cap : List Nat} {capN own : List Str}
variable {elt tg iter : Expr} {ifs : List Expr} {pos : Pos} {g : TG} {tc : TT} {te : TE} {Q : VK}

end
/-! ### max of a list of ints -/
section
variable {X : Cx}
/-! ### xs[::-1] of a list -/
end
end L2
namespace L2
open PySem PySem.Spec PyProof.Rows PySem.W
/-! ### the stations of an exception, its dict known -/
def DictIs (h : Heap) (e : Addr) (dc : Option Addr) : Prop := ∃ o, h.get? e = some o ∧ o.dict = dc
theorem dict_mapFields (f : Array Value → Array Value) (o : Obj) : (Obj.mapFields f o).dict = o.dict := by
  unfold Obj.mapFields
  split <;> rfl
section
variable {M : Model} {A : Around} {E : Value → Shared → Prop} {s : Shared} {base : Heap} {env : Env} {outer l : List Env} {L e : Addr}
theorem noted_entry {oe : Obj} {vs : Array Value} {hd0 a0 : Value} {nx : Bool} {Q : Unit → Shared → Prop} (fr : A.frames = some (env :: outer)) (ff : s.heap.FunFrames base (env :: outer)) (ef : env.frame = some L) (he : s.heap.get? e = some oe) (kb : base.StaysIn s.heap) (en : base.get? e = none)
    (dt : oe.data = .fields vs) (sz : 1 < vs.size) (v0 : vs[0]? = some a0) (k : ∀ h', Heap.NotedW base (env :: outer) e oe.cls a0 (rawInt L) s.heap h' → DictIs h' e oe.dict → Q () { s with heap := h' }) :
    wpAny M A (do let a ← frameOf env; let pl ← entryPlaceOf L nx; let b ← EntryCells.newEntry hd0 a .none (rawInt L) .none pl; setField (.ref e) 1 b) Q E s := by
  have nf : e ∉ (env :: outer).filterMap (·.frame) := fun hm => by
    obtain ⟨_, o, ho, hn⟩ := ff.mem hm
    cases Option.some.inj (he.symm.trans ho)
    exact hn vs dt
  refine wpAny_bind (wpAny_frameOf_fun fr ff ef fun h1 k1 => wpAny_bind (wpAny_entryPlaceOf fun pl hpl => ?_))
  unfold EntryCells.newEntry newFields
  refine wpAny_bind (wpAny_newObj_type ?_ (hpl.sizeOk5 _ _ _ _ _))
  have t3 : ([hd0, .ref L, .none, rawInt L, .none] ++ (if pl.isEmpty then List.replicate 6 Value.none else pl)).toArray[3]? = some (rawInt L) := by simp
  generalize ([hd0, .ref L, .none, rawInt L, .none] ++ (if pl.isEmpty then List.replicate 6 Value.none else pl)).toArray = ts at t3 ⊢
  have g1 : h1.get? e = some oe := (k1.2.1 e nf).trans he
  have st1 : base.StaysIn h1 := fun b o hb => (k1.2.1 b fun hm => nomatch (hb.symm.trans (ff.mem hm).1)).trans (kb b o hb)
  have gp : (h1.push { cls := .type "traceback", data := .fields ts }).get? e = some oe := Heap.get?_push_of_some _ g1
  have ne : h1.objs.size ≠ e := Nat.ne_of_gt (Heap.lt_size g1)
  have dm := Obj.data_mapFields dt (·.setIfInBounds 1 (Value.ref h1.objs.size))
  have self := Heap.get?_update_self (Obj.mapFields (·.setIfInBounds 1 (Value.ref h1.objs.size))) gp (Obj.isFreed_of_fields dm)
  have atT := (Heap.get?_update_other (h1.push { cls := .type "traceback", data := .fields ts }) (Obj.mapFields (·.setIfInBounds 1 (Value.ref h1.objs.size))) (Ne.symm ne)).trans (Heap.get?_push_size h1 rfl)
  have oth : ∀ b o, b ≠ e → h1.get? b = some o → ((h1.push { cls := .type "traceback", data := .fields ts }).update e (Obj.mapFields (·.setIfInBounds 1 (Value.ref h1.objs.size)))).get? b = some o := fun b o n q => (Heap.get?_update_other _ _ (Ne.symm n)).trans (Heap.get?_push_of_some _ q)
  have nrec : ∀ b o, s.heap.get? b = some o → (∀ ws, o.data ≠ .fields ws) → b ≠ e := fun b o q hn z => by
    subst z
    cases Option.some.inj (he.symm.trans q)
    exact hn vs dt
  refine wpAny_setField gp dt sz (k _ ⟨fun b o q => oth b o (fun z => nomatch ((z ▸ q).symm.trans en)) (st1 b o q), ff.of_keeps fun b o q hn => ?_, ?_, fun b o q hn => ?_⟩ ⟨_, self, dict_mapFields _ _⟩)
  · obtain ⟨sl, hs⟩ := k1.2.2 b o q
    exact ⟨_, oth b _ (nrec b o q hn) hs, rfl⟩
  · exact ⟨_, _, h1.objs.size, _, ts, self, ⟨Obj.cls_mapFields _ _, by rw [Array.getElem?_setIfInBounds_ne (by decide)]; exact v0⟩, dm, by simp [sz], st1.fresh, ne, atT, rfl, t3⟩
  · obtain ⟨sl, hs⟩ := k1.2.2 b o q
    exact ⟨sl, oth b _ (nrec b o q hn) hs⟩
theorem flight_off {cls a0 fl : Value} {dc : Option Addr} {Q : Unit → Shared → Prop} (kb : base.StaysIn s.heap) (ff : s.heap.FunFrames base l) (tr : s.heap.TracedAtW base e cls a0 fl) (dd : DictIs s.heap e dc)
    (k : ∀ h', base.StaysIn h' → h'.FunFrames base l → h'.TracedW base e cls a0 → s.heap.UpToSlots h' → DictIs h' e dc → Q () { s with heap := h' }) : wpAny M A (setFlight (.ref e) none) Q E s := by
  obtain ⟨oe, vs, T, oT, ts, he, hc, dt, v1, nT, ne, hT, dT, t3⟩ := tr
  have z3 : 3 < ts.size := (Array.getElem?_eq_some_iff.mp t3).1
  have oth : ∀ b, b ≠ T → (s.heap.update T (Obj.mapFields (·.setIfInBounds 3 ((none : Option Addr).elim Value.none fun f => rawInt f)))).get? b = s.heap.get? b := fun b n => Heap.get?_update_other _ _ (Ne.symm n)
  have nrec : ∀ b o, s.heap.get? b = some o → (∀ ws, o.data ≠ .fields ws) → b ≠ T := fun b o q hn z => by
    subst z
    cases Option.some.inj (hT.symm.trans q)
    exact hn ts dT
  unfold setFlight
  refine wpAny_bind (wpAny_field he dt v1 ?_)
  rw [if_pos (by simp : (Value.ref T != Value.none) = true)]
  refine wpAny_setField hT dT z3 (k _ (fun b o q => (oth b fun z => nomatch ((z ▸ q).symm.trans nT)).trans (kb b o q)) (ff.of_keeps fun b o q hn => ⟨o, (oth b (nrec b o q hn)).trans q, rfl⟩) ?_ (fun b o q hn => ⟨o.slots, (oth b (nrec b o q hn)).trans q⟩) ?_)
  · exact ⟨oe, vs, T, _, _, (oth e (Ne.symm ne)).trans he, hc, dt, v1, nT, ne, Heap.get?_update_self _ hT (Obj.isFreed_of_fields (Obj.data_mapFields dT _)), Obj.data_mapFields dT _, by simp [z3]⟩
  · obtain ⟨o, q, d⟩ := dd
    exact ⟨o, (oth e (Ne.symm ne)).trans q, d⟩
/-- the frame that catches looks at it -/
theorem looks_dict {cls a0 : Value} {dc : Option Addr} {Q : Unit → Shared → Prop} (fr : A.frames = some (env :: outer)) (ef : env.frame = some L) (fl : Heap.FlyingW base (env :: outer) e cls a0 s.heap) (dd : DictIs s.heap e dc)
    (k : ∀ h', Heap.HeldW base (env :: outer) e cls a0 L h' → s.heap.UpToSlots h' → DictIs h' e dc → Q () { s with heap := h' }) : wpAny M A (noteFrame (.ref e) env) Q E s := by
  obtain ⟨f1, f2, f3, oe, vs, T, oT, ts, he, hc, dt, v1, nT, ne, hT, dT, t3⟩ := fl
  obtain ⟨o2, q2, d2⟩ := dd
  cases Option.some.inj (he.symm.trans q2)
  have z3 : 3 < ts.size := (Array.getElem?_eq_some_iff.mp t3).1
  unfold noteFrame
  simp only [ef]
  refine wpAny_bind (wpAny_field he dt v1 ?_)
  rw [if_pos (by simp : (Value.ref T != Value.none) = true)]
  refine wpAny_bind (wpAny_field hT dT t3 ?_)
  rw [if_neg (by simp [rawInt] : ¬ (Value.none == rawInt L) = true)]
  refine wpAny_bind (wpAny_setField hT dT z3 ?_)
  have oth : ∀ b, b ≠ T → (s.heap.update T (Obj.mapFields (·.setIfInBounds 3 Value.none))).get? b = s.heap.get? b := fun b n => Heap.get?_update_other _ _ (Ne.symm n)
  have nrec : ∀ b o, s.heap.get? b = some o → (∀ ws, o.data ≠ .fields ws) → b ≠ T := fun b o q hn z => by
    subst z
    cases Option.some.inj (hT.symm.trans q)
    exact hn ts dT
  have sz : 1 < vs.size := (Array.getElem?_eq_some_iff.mp v1).1
  refine noted_entry (s := { s with heap := s.heap.update T (Obj.mapFields (·.setIfInBounds 3 Value.none)) }) fr (f3.of_keeps fun b o q hn => ⟨o, (oth b (nrec b o q hn)).trans q, rfl⟩) ef ((oth e (Ne.symm ne)).trans he) (fun b o q => (oth b fun z => nomatch ((z ▸ q).symm.trans nT)).trans (f1 b o q)) f2 dt sz hc.2 fun h' nt dd => ?_
  obtain ⟨n1, n2, n3, n4⟩ := nt
  rw [hc.1] at n3
  rw [d2] at dd
  exact k h' ⟨n1, f2, n2, n3⟩ (fun b o q hn => n4 b o ((oth b (nrec b o q hn)).trans q) hn) dd
end
end L2
namespace L2
open PySem PySem.Spec PyProof.Rows PySem.W
/-! ### a text walked sign by sign -/
section
variable {X : Cx} {tg l : Expr} {tl : TE}
end
/-! ### ord of one sign -/
section
variable {X : Cx}
end
section
variable {X : Cx}
theorem c_lenS : QCall X (.builtin "len") (fun xs H Q => ∃ x : Str, xs = [.str x] ∧ x.length ≤ 1000 ∧ Q (.int (x.length : Int)) H) := by
  refine ⟨?_⟩
  intro pins s σ H xs us Q I r h
  obtain ⟨x, rfl, hz, q⟩ := h
  obtain ⟨u, rfl, rx⟩ := vals1 r
  obtain ⟨t, rfl⟩ := rx
  exact PyProof.Rows.len_str (by omega) ⟨.int x.length, H, I.tok _, ⟨_, rfl⟩, q⟩
end
theorem iteS {v : V} {A B : Prop} (hA : A) : if decide (v = v) = true then A else B := by rw [decide_eq_true rfl]; exact iteT hA
theorem iteU {v u : V} {A B : Prop} (h : v ≠ u) (hB : B) : if decide (v = u) = true then A else B := by rw [decide_eq_false h]; exact iteF hB
/-! ### a table of the text: a dict with texts as keys that stands at the top and is only read -/
inductive TV where
  | flat (v : V)
  | tup (xs : List V)
def vLook : V → Value → Bool
  | .non, .none => true
  | .bl b, .bool c => b == c
  | .int i, .int j _ => i == j
  | .str x, .str y _ => x == y
  | _, _ => false
theorem vLook_rel : ∀ {v : V} {u : Value}, vLook v u = true → RelV v u := by
  intro v u h
  unfold vLook at h
  split at h
  · exact rfl
  · obtain rfl := beq_iff_eq.mp h
    exact rfl
  · obtain rfl := beq_iff_eq.mp h
    exact ⟨_, rfl⟩
  · obtain rfl := beq_iff_eq.mp h
    exact ⟨_, rfl⟩
  · cases h
def vsLook : List V → List Value → Bool
  | [], [] => true
  | v :: vs, u :: us => vLook v u && vsLook vs us
  | _, _ => false
theorem vsLook_vals : ∀ {vs : List V} {us : List Value}, vsLook vs us = true → Vals vs us
  | [], [], _ => .nil
  | _ :: _, _ :: _, h => by
    have h := (Bool.and_eq_true _ _).mp h
    exact .cons (vLook_rel h.1) (vsLook_vals h.2)
  | [], _ :: _, h => nomatch h
  | _ :: _, [], h => nomatch h
def tvLook (K : PySem.W.Frag) : TV → Value → Bool
  | .flat v, u => vLook v u
  | .tup xs, .ref a => (match K.lookup a with
    | some o => o.cls == .type "tuple" && (match o.data with | .seq its _ => decide (its.size ≤ 1000) && vsLook xs its.toList | _ => false)
    | none => false)
  | _, _ => false
def TVOk (K : PySem.W.Frag) : TV → Value → Prop
  | .flat v, u => RelV v u
  | .tup xs, u => ∃ a, u = .ref a ∧ ∀ H, SqT K H a xs
theorem tv_ok {K : PySem.W.Frag} (d : TV) (u : Value) (h : tvLook K d u = true) : TVOk K d u := by
  unfold tvLook at h
  split at h
  · exact vLook_rel h
  · rename_i xs a
    split at h
    · rename_i o ho
      obtain ⟨e1, e2⟩ := (Bool.and_eq_true _ _).mp h
      split at e2
      · rename_i its n hd
        obtain ⟨e3, e4⟩ := (Bool.and_eq_true _ _).mp e2
        exact ⟨a, rfl, fun H => .inr ⟨o, its, n, ho, beq_iff_eq.mp e1, hd, size63 (of_decide_eq_true e3), vsLook_vals e4⟩⟩
      · cases e2
    · cases h
  · cases h
structure Tab (K : PySem.W.Frag) (a : Addr) (D : List (Str × TV)) : Prop where
  look : KTD.tabLook (tvLook K) (fun b => K.lookup b) a D = true
theorem Tab.at {K : PySem.W.Frag} {a : Addr} {D : List (Str × TV)} (T : Tab K a D) {h : Heap} (X : K.In h) : KTD.TabOf (TVOk K) h a D := KTD.tab_of_look tv_ok (fun b o e => X b o e) T.look
section
variable {prog : Program} {w : World} {A : Around} {E : Value → Shared → Prop} {s : Shared} {d : Addr} {o : Obj} {es : Array DictEntry} {ep : Nat} {x : Str} {tx : Tok}
theorem tab_get {Q : Option Value → Shared → Prop} (ho : s.heap.get? d = some o) (hd : o.data = .dict es ep) (hall : (es.all fun e => isExactStrKey e.key) = true) (h : Q ((es.toList.find? fun e => e.key.isStr x).map (·.val)) { s with toks := s.toks + 1 }) :
    wpAny (model prog w) A (dictGet d (.str x tx)) Q E s := by
  unfold dictGet; (try with_reducible (refine wpAny_holding ?_))
  refine wpAny_bind (wpAny_pyHash_str (wpAny_bind (KTD.kt_dictFind_strs (s := { s with toks := s.toks + 1 }) ho hd hall ?_)))
  have hq : Q (findBy (fun y v => v.isStr y) es x) { s with toks := s.toks + 1 } := by
    have hf : findBy (fun y v => v.isStr y) es x = (es.toList.find? fun e => e.key.isStr x).map (·.val) := by obtain ⟨l⟩ := es; simp [findBy]
    rw [hf]; exact h
  rw [findBy_of_findIdx?] at hq
  cases hi : es.findIdx? fun e => e.key.isStr x <;> rw [hi] at hq
  · exact wpAny_pure hq
  · exact wpAny_bind (wpAny_dictEntries (s := { s with toks := s.toks + 1 }) ho hd (wpAny_pure hq))
theorem tab_item {Q : Value → Shared → Prop} {v : Value} (ex : o.ExactDict) (ho : s.heap.get? d = some o) (hd : o.data = .dict es ep) (hall : (es.all fun e => isExactStrKey e.key) = true)
    (hv : (es.toList.find? fun e => e.key.isStr x).map (·.val) = some v) (h : Q v { s with toks := s.toks + 1 }) : wpAny (model prog w) A (getItem (.ref d) (.str x tx)) Q E s := by
  have T : s.TypeIs (.ref d) "dict" := ⟨o, ho, ex.1⟩
  unfold getItem; (try with_reducible (refine wpAny_holding ?_))
  refine wpAny_bind (wpAny_sequenceKey T (by decide) (wpAny_bind (wpAny_callSpecial?_slot (name := Str.ofString "__getitem__") T slot_dict_getitem (wpAny_call_entry slot_dict_getitem T entry_dict_getitem ?_ (args_dict_getitem _ _)))))
  show wpAny _ _ (dictGet d (.str x tx) >>= _) _ _ _
  refine wpAny_bind (tab_get ho hd hall ?_)
  rw [hv]
  exact wpAny_pure ⟨v, rfl, wpAny_pure h⟩
end
section
variable {X : Cx}
def rIxTab (K : PySem.W.Frag) : R2 := fun x y H Q => ∃ a k D d, x = .ref a ∧ y = .str k ∧ Tab K a D ∧ KTD.datumAt k D = some d ∧ (match d with | .flat v => Q v H | .tup xs => ∀ t, (∀ H', SqT K H' t xs) → Q (.ref t) H)
theorem x_tab : QIx X (rIxTab X.K) := by
  refine ⟨?_⟩
  intro value slice pins s σ H x y v u Q I rx ry h hs
  obtain ⟨a, k, D, d, rfl, rfl, T, hk, q⟩ := h
  obtain ⟨t, rfl⟩ := ry
  cases rx
  obtain ⟨sy, o, es, ep, ho, ex, hd, hr⟩ := T.at I.kIn
  obtain ⟨v, hv, ok⟩ := hr.find_some hk
  have fin : EP X pins σ Q v { s with toks := s.toks + 1 } := by
    cases d with
    | flat z => exact ⟨z, H, I.tok _, ok, q⟩
    | tup xs =>
      obtain ⟨t, rfl, e⟩ := ok
      exact ⟨.ref t, H, I.tok _, rfl, q t e⟩
  exact subscriptTail_builtinR (x := v) (⟨o, ho, ex.1⟩ : s.TypeIs (.ref a) "dict") slot_dict_getitem.lookup (tab_item (Q := fun r s' => r = v ∧ EP X pins σ Q r s') ex ho hd (by obtain ⟨l⟩ := es; simpa using hr.exact) hv ⟨rfl, fin⟩) hs
theorem q_gR {x : Str} {a : Addr} {pos : Pos} (hm : X.mg x = some (.ref a)) (hg : Gl X x := by rfl) (hd : (x == ("__debug__" : Str)) = false := by decide) : QE X (.Name x pos) (tC (.ref a)) := ⟨pe_glob hg hm rfl hd⟩
end
end L2
namespace L2
open PySem PySem.Spec PyProof.Rows PySem.W
/-! ### an exception that leaves a def: how it lies behind the call -/
def CXr (P : Program) (w : World) : CXT := fun outer H s E e s' =>
  ∃ (ea t : Addr) (C : Value) (vs : List Value) (B : Heap) (H' : Hp) (dc : Option Addr), e = .ref ea ∧ s'.os = s.os ∧ AllBare s'.gens ∧ Un (frs outer) [] H H' s.heap s'.heap ∧ HOk P w H' s'.heap ∧
    Heap.FlyingW B outer ea C (.ref t) s'.heap ∧ s'.heap.TupAt t vs ∧ B.get? t = none ∧ (∀ b o, b ∉ frs outer → ((∃ u, H' b = some u) ∨ ∃ o0, s.heap.get? b = some o0) → s'.heap.get? b = some o → B.get? b = some o) ∧ DictIs s'.heap ea dc ∧ E C dc H'
section
variable {P : Program} {w : World} {K : PySem.W.Frag} {mg : Str → Option Value} {base : Heap} {N : List Str} {qual : Str} {scope : Scope} {f : Addr} {cd : Value} {A : Around} {outer : List Env} {s : Shared} {H : Hp} {E : XK}
end
/-! ### raise C(e, ..) of an own class under ValueError that has no __init__ of its own -/
structure ExCls (K : PySem.W.Frag) (C : Addr) : Prop where
  cls : ∀ h, K.In h → ∃ nm q N bs bm hdct sn sub ab col dd k0 k1 k2 k3 k5 mN, h.get? C = some (excClassObj nm q C N bs bm hdct sn sub ab col dd k0 k1 k2 k3 k5 "ValueError.__new__") ∧ h.Ns N mN ∧ mN "__init__" = none ∧ bm.contains (.type "BaseException") = true ∧
    OwnTail h [.type "ValueError", .type "Exception", .type "BaseException", .type "object"] bm
def Raises (X : Cx) (EC : Value → Hp → Prop) : Prop := ∀ (pins : List (Addr × Obj)) (σ : St) (H1 : Hp) (s1 : Shared) (h2 : Heap) (e : Addr) (C : Value) (vs : List Value), Inv X pins σ H1 s1 → Heap.MadeExcOf s1.heap h2 e C vs → EC C H1 → X.xe (.ref e) { s1 with heap := h2 }
section
variable {X : Cx} {EC : Value → Hp → Prop} {C : Addr} {x : Str} {np cpos pos : Pos} {e : Expr} {es : List Expr} {ta : TA}
theorem s_raise (hR : Raises X EC) (hc : X.calm = true) (cl : ExCls X.K C) (hm : X.mg x = some (.ref C)) (ha : QA X (e :: es) ta) (hg : Gl X x := by rfl) (hs : (e :: es).all noStar = true := by rfl) (hdb : (x == ("__debug__" : Str)) = false := by decide) :
    QS X (.Raise (some (.Call (.Name x np) (e :: es) [] cpos)) none pos) (fun _ σ H => ta σ H fun vs H1 => vs.length ≤ sizeLine ∧ EC (.ref C) H1) := by
  refine ⟨?_⟩
  intro pins s σ H D I h
  obtain ⟨nm, q, N, bs, bm, hdct, sn, sub, ab, col, dd, k0, k1, k2, k3, k5, mN, hC, hN, hni, hb, T⟩ := cl.cls X.base I.ok.mod.kin
  have hs1 : noStar e = true := by
    have := List.all_eq_true.mp hs e (by simp)
    exact this
  have he := star_cons (es := es) (env := X.env) hs1
  have hpl : (backTo cpos (starEach es X.env)).any (·.1) = false := plain_back (by
    rw [List.all_eq_true]
    intro y hy
    exact List.all_eq_true.mp hs y (List.mem_cons_of_mem _ hy))
  refine wpAny_Raise_call_subT (nm := nm) (q := q) (C := C) (N := N) (bs := bs) (hdct := hdct) (sn := sn) (sub := sub) (ab := ab) (col := col) (dd := dd) (k0 := k0) (k1 := k1) (k2 := k2) (k3 := k3) (k5 := k5) PySem.F.excBase_ValueError hb (I.ok.hd hc) ?_ hni (ld_glob I hg hm ⟨rfl, ?_⟩ hdb)
  · rw [he]
    show (false || (backTo cpos (starEach es X.env)).any (·.1)) = false
    rw [hpl]
    rfl
  · have hA := ha.h cpos pins s σ H _ I h
    rw [he] at hA ⊢
    refine Calls.evalArgs_plain (thn hA fun us s1 ⟨vs, H1, I1, r1, hz, hE⟩ => ⟨rfl, by rw [← r1.length]; exact hz, I1.bk _ _ hC, hN.keeps I1.bk, T.keeps I1.bk, fun h' ea hm => hR pins σ H1 s1 h' ea _ _ I1 hm hE⟩)
end
end L2
namespace L2
open PySem PySem.Spec PyProof.Rows PySem.W
/-! ### a def whose body may raise -/
theorem Fun.okX {P : Program} {w : World} {K : PySem.W.Frag} {mg : Str → Option Value} {base : Heap} {x qual : Str} {st : Stmt} {f : Addr} {fd : FuncData} {N ps : List Str} {k : Nat} {sp : Sp} (F : Fun K x qual st f fd) (S : FnScope N ps (defScope st)) (len : ∀ vs H Q E, sp vs H Q E → vs.length = ps.length)
    (hb : ∀ (cdv : Value) (A : Around) (outer : List Env) (s : Shared) (H : Hp) (vs : List V) (Q : VK) (E : XK), Room k (A.deeper (envOfC qual (defScope st) s.heap.objs.size f cdv)) → sp vs H Q E →
      ∃ t, QB (cxOf (CXr P w) P w K mg base N qual (defScope st) f cdv A outer s H E) (defBody st) t ∧ t { nx := fun _ H' => Q .non H', rt := Q } (start N vs) H) : FnOk P w K mg base (CXr P w) (k + 1) f fd ps sp := by
  obtain ⟨oc, od, kV, doc, pm, an, cdv, ct, osl, rfl, lk, hcd⟩ := F.ex
  exact fn_of lk hcd S len fun A outer s H vs Q E hr hsp => let ⟨t, h, q⟩ := hb cdv A outer s H vs Q E hr hsp; ⟨t, h.h, q⟩
structure FnX (P : Program) (w : World) (K : PySem.W.Frag) (mg : Str → Option Value) (base : Heap) (k : Nat) (x : Str) (ps : List Str) (sp : Sp) : Prop where
  ex : ∃ f fd, FnOk P w K mg base (CXr P w) k f fd ps sp ∧ mg x = some (.ref f) ∧ PySem.W.keepIn K (.ref f) = true ∧ Binds K fd ps []
/-! ### code that may raise, with the names as they were: XP is how the exception lies -/
def XP (X : Cx) (pins : List (Addr × Obj)) (σ : St) (E : XK) (e : Value) (s' : Shared) : Prop := ∃ s0 H0, Inv X pins σ H0 s0 ∧ CXr X.prog X.w X.stack H0 s0 E e s'
abbrev TX := St → Hp → VK → XK → Prop
structure QX (X : Cx) (e : Expr) (t : TX) : Prop where
  h : ∀ (pins : List (Addr × Obj)) (s : Shared) (σ : St) (H : Hp) (Q : VK) (E : XK), Inv X pins σ H s → t σ H Q E → wpAny (model X.prog X.w) X.A (eval e X.env) (EP X pins σ Q) (XP X pins σ E) s
section
variable {X : Cx} {k : Nat} {x : Str} {p pos : Pos} {e : Expr} {es : List Expr} {ps : List Str} {sp : Sp} {t : TA}
end
abbrev TSX := Ends → St → Hp → XK → Prop
structure QSX (X : Cx) (st : Stmt) (t : TSX) : Prop where
  h : ∀ (pins : List (Addr × Obj)) (s : Shared) (σ : St) (H : Hp) (D : Ends) (E : XK), Inv X pins σ H s → t D σ H E → wpAny (model X.prog X.w) X.A (exec st X.env) (SP X pins D) (XP X pins σ E) s
section
variable {X : Cx} {e : Expr} {tx : TX} {pos pos' : Pos} {x : Str}
theorem sx_expr (he : QX X e tx) (hs : swapsWith e none pos.line X.env = pure false := by rfl) : QSX X (.Expr e pos) (fun D σ H E => tx σ H (fun _ H1 => D.nx σ H1) E) := by
  refine ⟨?_⟩
  intro pins s σ H D E I h
  exact wpAny_Expr_any (thn (he.h pins s σ H _ E I h) fun v s1 ⟨y, H1, I1, r1, q1⟩ => ⟨σ, H1, I1, q1⟩) I.quiet hs
end
/-! ### an exception on its way: the state behind it, but for the records that it bears -/
structure Fl (X : Cx) (H0 H' : Hp) (s0 s' : Shared) (B : Heap) : Prop where
  os : s'.os = s0.os
  bare : AllBare s'.gens
  un : Un (frs X.stack) [] H0 H' s0.heap s'.heap
  hok : HOk X.prog X.w H' s'.heap
  kb : ∀ b o, b ∉ frs X.stack → ((∃ u, H' b = some u) ∨ ∃ o0, s0.heap.get? b = some o0) → s'.heap.get? b = some o → B.get? b = some o
section
variable {X : Cx} {pins : List (Addr × Obj)} {σ : St} {H0 H' : Hp} {s0 s' : Shared} {B h' : Heap}
theorem Fl.inv (F : Fl X H0 H' s0 s' B) (I : Inv X pins σ H0 s0) : Inv X pins σ H' s' := I.call' F.os F.un F.hok F.bare fun _ z => nomatch z
theorem Fl.nf (F : Fl X H0 H' s0 s' B) (I : Inv X pins σ H0 s0) {b : Addr} {u : HO} (h : H' b = some u) : b ∉ frs X.stack := fun hm => by
  have := (F.inv I).stkFree b hm
  rw [h] at this
  cases this
theorem Fl.move {tk : Nat} (F : Fl X H0 H' s0 s' B) (I : Inv X pins σ H0 s0) (st : B.StaysIn h') (up : s'.heap.UpToSlots h') : Fl X H0 H' s0 { s' with heap := h', toks := tk } B := by
  have kp : ∀ b o, b ∉ frs X.stack → ((∃ u, H' b = some u) ∨ ∃ o0, s0.heap.get? b = some o0) → s'.heap.get? b = some o → h'.get? b = some o := fun b o h1 h2 h3 => st b o (F.kb b o h1 h2 h3)
  have sl : ∀ b o, b ∈ frs X.stack → s'.heap.get? b = some o → ∃ sl, h'.get? b = some { o with slots := sl } := fun b o hm q => by
    obtain ⟨_, o', ho', hd⟩ := (F.inv I).stack.mem hm
    have e : s'.heap.get? b = some o' := ho'
    rw [q] at e
    cases e
    exact up b o q hd
  refine ⟨F.os, F.bare, ⟨fun b o q n hb hx => kp b o hb (.inr ⟨o, q⟩) (F.un.keep b o q n hb hx), fun b o q n hb hx => ?_, F.un.free, fun b o q hx => ?_, F.un.tups, F.un.frzs, F.un.tbls⟩, fun b u q => ?_, fun b o hb ho q => ?_⟩
  · obtain ⟨s1, e1⟩ := F.un.slot b o q n hb hx
    obtain ⟨s2, e2⟩ := sl b _ hb e1
    exact ⟨s2, e2⟩
  · obtain ⟨o', e1⟩ := F.un.there b o q hx
    by_cases hb : b ∈ frs X.stack
    · obtain ⟨s2, e2⟩ := sl b o' hb e1
      exact ⟨_, e2⟩
    · exact ⟨o', kp b o' hb (.inr ⟨o, q⟩) e1⟩
  · refine (F.hok b u q).stay (fun c v hc z => kp c v ?_ ?_ z) (fun _ z => z) fun _ _ z => z
    · rcases hc with z' | z'
      · rw [z']; exact F.nf I q
      · exact F.nf I z'
    · rcases hc with z' | z'
      · rw [z']; exact .inl ⟨u, q⟩
      · exact .inl ⟨_, z'⟩
  · obtain ⟨o1, q1⟩ : ∃ o1, s'.heap.get? b = some o1 := by
      rcases ho with ⟨u, z⟩ | ⟨o0, z⟩
      · exact obj_some (F.hok b u z)
      · exact F.un.there b o0 z (by simp)
    have q2 := kp b o1 hb ho q1
    have q' : h'.get? b = some o := q
    rw [q'] at q2
    cases q2
    exact F.kb b o hb ho q1
end
/-! ### own exception classes: the class' object in K, with its mro -/
structure ExC (K : PySem.W.Frag) (C : Addr) (bm : List Value) : Prop where
  cls : ∀ h, K.In h → ∃ nm q N bs hdct sn sub ab col dd k0 k1 k2 k3 k5 ni, h.get? C = some (excClassObj nm q C N bs bm hdct sn sub ab col dd k0 k1 k2 k3 k5 ni)
  exc : bm.contains (.type "BaseException") = true
theorem exc_matches {M : Model} {A : Around} {E : Value → Shared → Prop} {s : Shared} {e C T : Addr} {oe : Obj} {bmC bmT : List Value} {K : PySem.W.Frag} {Q : Bool → Shared → Prop} (hC : ExC K C bmC) (hT : ExC K T bmT) (hk : K.In s.heap) (he : s.heap.get? e = some oe) (hcls : oe.cls = .ref C)
    (hq : Q ((Value.ref C :: bmC).contains (.ref T)) s) : wpAny M A (excMatches (.ref e) (.ref T)) Q E s := by
  obtain ⟨nm, q, N, bs, hdct, sn, sub, ab, col, dd, k0, k1, k2, k3, k5, ni, oC⟩ := hC.cls _ hk
  obtain ⟨nm', q', N', bs', hdct', sn', sub', ab', col', dd', k0', k1', k2', k3', k5', ni', oT⟩ := hT.cls _ hk
  obtain ⟨hp, g, d, tk, os⟩ := s
  have hcB : (Value.ref T :: bmT).contains (.type "BaseException") = true := by rw [List.contains_cons, hT.exc, Bool.or_true]
  have f := tc_notTuple
  unfold excMatches
  generalize hr : (Value.ref C :: bmC).contains (Value.ref T) = r at hq
  repeat (first | (with_reducible refine wpAny_loadPart_at he ?_; rw [hcls]) | with_reducible refine wpAny_loadPart_at oT ?_ | (with_reducible refine wpAny_isSubtype_exc oT ?_; rw [hcB]) | (with_reducible refine wpAny_isSubtype_exc oC ?_; rw [hr]) | wp_step)
  cases r <;> (first | exact hq | (wp_walk; exact hq))
/-! ### the caught exception as a thing of the abstract heap -/
/-! ### the name goes -/
/-! ### a handler's suite: its own context -/
def Cx.exc (X : Cx) (e : Value) : Cx := { X with A := X.A.mark (some e), calm := false, xe := fun _ _ => False }
section
variable {X : Cx} {pins : List (Addr × Obj)} {σ : St} {H : Hp} {s : Shared} {e : Value}
theorem Inv.exc (I : Inv X pins σ H s) (e : Value) : Inv (X.exc e) pins σ H s :=
  ⟨⟨I.ok.mod, I.ok.kind, I.ok.glob, I.ok.blt, I.ok.above, I.ok.inj, I.ok.has, I.ok.cab, fun z => (nomatch z), I.ok.frames, I.ok.stk, I.ok.exf, I.ok.bs, I.ok.bsz, I.ok.noex, I.ok.exfs, I.ok.funs, I.ok.frf⟩, I.os, I.bare, I.base, I.loc, I.cell, I.free, I.freeC, I.pin, I.hok, I.len⟩
theorem Inv.unexc (ok : X.Ok) (I : Inv (X.exc e) pins σ H s) : Inv X pins σ H s := ⟨ok, I.os, I.bare, I.base, I.loc, I.cell, I.free, I.freeC, I.pin, I.hok, I.len⟩
end
abbrev TH := Ends → St → Value → Option Addr → Hp → Prop
structure QH (X : Cx) (hs : List ExceptHandler) (th : TH) : Prop where
  h : ∀ (pins : List (Addr × Obj)) (s0 : Shared) (H0 : Hp) (σ : St) (D : Ends) (ea t : Addr) (C : Value) (B : Heap) (H' : Hp) (dc : Option Addr) (s' : Shared), Inv X pins σ H0 s0 → Fl X H0 H' s0 s' B → Heap.FlyingW B X.stack ea C (.ref t) s'.heap → DictIs s'.heap ea dc → th D σ C dc H' →
    wpAny (model X.prog X.w) X.A (handleBy (.ref ea) X.env hs) (SP X pins D) X.xe s'
section
variable {X : Cx}
def tTry (tb : TSX) (th : TH) : TS := fun D σ H => tb D σ H fun C dc H1 => th D σ C dc H1
theorem s_try1 {st : Stmt} {tb : TSX} {th : TH} {h0 : ExceptHandler} {hs : List ExceptHandler} {pos : Pos} (hst : X.stack = X.env :: X.outer) (hfr : X.env.frame = some X.env.locals) (hb : QSX X st tb) (hh : QH X (h0 :: hs) th) :
    QS X (.Try [st] (h0 :: hs) [] [] pos) (tTry tb th) := by
  refine ⟨?_⟩
  intro pins s σ H D I h
  refine wpAny_Try_except (wpAny_execs_cons (wpAny_mono (hb.h pins s σ H D _ I h) (fun f s1 q => ?_) (fun e s1 x => ?_)))
  · cases f with
    | next => exact wpAny_execs_nil (wpAny_execs_nil q)
    | brk => exact q
    | cont => exact q
    | ret v => exact q
  · obtain ⟨s0, H0, I0, ea, t, C, vs, B, H', dc, rfl, os, bare, un, hok, fly, tup, hBt, kb, dd, q⟩ := x
    have F : Fl X H0 H' s0 s1 B := ⟨os, bare, un, hok, kb⟩
    have fr : X.A.frames = some (X.env :: X.outer) := by rw [← hst]; exact I.ok.frames
    rw [hst] at fly
    refine looks_dict fr hfr fly dd fun h4 held up4 dd4 => ?_
    obtain ⟨f1, f2, f3, f4⟩ := held
    refine flight_off f1 f3 f4 dd4 fun h5 k1 k2 k3 up5 dd5 => ?_
    have F5 := (F.move (tk := s1.toks) I0 k1 (up4.trans up5))
    rw [← hst] at k2
    exact hh.h pins s0 H0 σ D ea t C B H' dc _ I0 F5 ⟨k1, f2, k2, k3⟩ dd5 q
end
end L2
namespace L2
open PySem PySem.Spec PyProof.Rows PySem.W
/-! ### what is looked up of an own exception class in K -/
abbrev VE : List Value := [.type "ValueError", .type "Exception", .type "BaseException", .type "object"]
structure ExcAt (K : PySem.W.Frag) (C : Addr) (bm : List Value) : Prop where
  isIn : excIn K C VE "ValueError.__new__" = true
  mro : ∃ c d cd sl, K.lookup C = some ⟨c, d, .cls cd, sl⟩ ∧ cd.mro = Value.ref C :: bm
  exc : bm.contains (.type "BaseException") = true
theorem exc_shape {K : PySem.W.Frag} {C : Addr} {bm : List Value} (q : ExcAt K C bm) {h : Heap} (X : K.In h) :
    ∃ nm qn N bs hdct sn sub ab col dd k0 k1 k2 k3 k5 mN, h.get? C = some (excClassObj nm qn C N bs bm hdct sn sub ab col dd k0 k1 k2 k3 k5 "ValueError.__new__") ∧ h.Ns N mN ∧ mN "__init__" = none ∧ OwnTail h VE bm := by
  have q1 := q.isIn
  obtain ⟨c9, d9, cd9, sl9, l9, m9⟩ := q.mro
  unfold excIn at q1
  split at q1
  · rename_i dd cd sl ho
    split at q1
    · rename_i C' bm' k0 k1 k2 k3 n k5 hm hs
      have q2 : cd.mro = Value.ref C :: bm := by
        have z := ho.symm.trans l9
        cases z
        exact m9
      rw [hm] at q2
      injection q2 with z1 z2
      injection z1 with z1
      cases z1
      cases z2
      simp only [Bool.and_eq_true, beq_iff_eq, Bool.not_eq_true'] at q1
      obtain ⟨⟨⟨⟨⟨_, rfl⟩, nd⟩, ht⟩, ok⟩, ni⟩ := q1
      have es : sl = #[k0, k1, k2, k3, some (.builtin "ValueError.__new__"), k5] := by
        obtain ⟨l⟩ := sl
        simp only at hs
        rw [hs]
      cases es
      obtain ⟨nm, bs, mro, ns, qn, hd, sn, sub, ab, col, del⟩ := cd
      dsimp only at hm nd ok ni
      cases hm
      cases nd
      exact ⟨nm, qn, ns, bs, hd, sn, sub, ab, col, dd, k0, k1, k2, k3, k5, _, X _ _ ho, .of_isNs (isNs_of_in X ok), nsMap_none_of_in X ok ni, tail_of_in X ht⟩
    · cases q1
  · cases q1
theorem exC_of {K : PySem.W.Frag} {C : Addr} {bm : List Value} (q : ExcAt K C bm) : ExC K C bm where
  cls := fun h X => by
    obtain ⟨nm, qn, N, bs, hdct, sn, sub, ab, col, dd, k0, k1, k2, k3, k5, mN, e, _⟩ := exc_shape q X
    exact ⟨nm, qn, N, bs, hdct, sn, sub, ab, col, dd, k0, k1, k2, k3, k5, _, e⟩
  exc := q.exc
theorem exCls_of {K : PySem.W.Frag} {C : Addr} {bm : List Value} (q : ExcAt K C bm) : ExCls K C where
  cls := fun h X => by
    obtain ⟨nm, qn, N, bs, hdct, sn, sub, ab, col, dd, k0, k1, k2, k3, k5, mN, e, e2, e3, e4⟩ := exc_shape q X
    exact ⟨nm, qn, N, bs, bm, hdct, sn, sub, ab, col, dd, k0, k1, k2, k3, k5, mN, e, e2, e3, (exC_of q).exc, e4⟩
/-! ### isinstance of a caught exception -/
section
variable {K : PySem.W.Frag} {prog : Program} {w : World} {A : Around} {E : Value → Shared → Prop} {h : Heap} {g : Array GenState} {d : Drawn} {t : Nat} {os : OsState} {x D : Addr} {ox : Obj}
end
structure ExK (K : PySem.W.Frag) (c : Addr) : Prop where
  hc : (clsIn K c).isSome = true
  hga : findIn K (.ref c) "__getattribute__" = some (some (.builtin "BaseException.__getattribute__"))
  hgh : findIn K (.ref c) "__getattr__" = some none
  ha : findIn K (.ref c) "__class__" = some (some (.builtin "object.__class__"))
  hb : mroIn K c (.type "BaseException") = some true
  hm : mroIn K c (.type "object") = some true
section
variable {X : Cx}
end
end L2
namespace L2
open PySem PySem.Spec PyProof.Rows PySem.W
/-! ### numbers as texts -/
section
variable {X : Cx} {K : PySem.W.Frag}
/-! ### sep.join(list of texts) -/
def rJoin (K : PySem.W.Frag) : V → List V → Hp → VK → Prop := fun x xs H Q => ∃ (sep : Str) (p : Addr) (ys : List Str), x = .str sep ∧ xs = [.ref p] ∧ SqL K H p (ys.map V.str) ∧ (ys.map (·.length)).sum + ys.length * sep.length ≤ 16777216 ∧ Q (.str (Txt.join sep ys)) H
theorem strs_of : ∀ {ys : List Str} {us : List Value}, Vals (ys.map V.str) us → StrsAre us ys
  | [], _, h => by cases h; exact .nil
  | y :: ys, _, h => by
    cases h with
    | cons r1 r2 =>
      obtain ⟨t, rfl⟩ := r1
      exact .cons _ _ (strs_of r2)
theorem mt_join : MtR X "str.join" (rJoin X.K) := by
  intro pins s σ H x xs v us Q I rx r h
  obtain ⟨sep, p, ys, rfl, rfl, hl, hz, q⟩ := h
  obtain ⟨t, rfl⟩ := rx
  obtain ⟨u, rfl, ru⟩ := vals1 r
  cases ru
  obtain ⟨its, rv, pl, _⟩ := I.list hl
  exact join_list pl.isList (by simpa using strs_of rv) hz fun t' k => ⟨.str _, H, I.tok _, ⟨_, rfl⟩, q⟩
theorem q_join {o e : Expr} {to te : TE} {apos cpos : Pos} (ho : QE X o to) (he : QE X e te) (hs : noStar e = true := by rfl) (hbase : attributeBase o "join" X.env (eval o X.env) = eval o X.env := by rfl) (hline : (apos.endLine == cpos.line) = true := by rfl) :
    QE X (.Call (.Attribute o "join" apos) [e] [] cpos) (tBM X.K "str" (rJoin X.K) to (tCons te tNil)) := by
  have h1 := star_cons (es := []) (env := X.env) hs
  have h2 : starEach ([] : List Expr) X.env = [] := rfl
  refine ⟨pe_bm PySem.F.plainAttrs_str PySem.F.slot_str_join PySem.F.type_str_join mt_join ho.h (pa_cons he.h pa_nil (hs := h1)) (hbase := hbase) (hfew := ?_) (hline := hline) (hs := h1) (hplain := by rw [h2]; rfl)⟩
  rw [h1, h2]
  rfl
theorem x_str : QIx X rIxS := ⟨ix_str⟩
theorem o_addS : QOp X (binaryOp .Add) (fun x y H Q => ∃ i j, x = .str i ∧ y = .str j ∧ i.length + j.length ≤ sizeLine ∧ Q (.str (i ++ j)) H) := ⟨op_add_str⟩
end
/-! ### for a, b in zip(t, u) -/
theorem for_zip {K : PySem.W.Frag} {a b : Addr} {xs ys : List V} {i j : Nat} {tb : TS} {D : Ends} {σ : St} {H : Hp} (Pv : Nat → St → Hp → Prop) (h0 : Pv 0 σ H) (ha : ∀ i σ H, i ≤ xs.length → Pv i σ H → SqT K H a xs) (hb : ∀ i σ H, i ≤ xs.length → Pv i σ H → SqT K H b ys) (hl : xs.length = ys.length)
    (hs : ∀ k x y σ H, xs[k]? = some x → ys[k]? = some y → Pv k σ H → ∀ T, H T = none → tb { D with nx := Pv (k + 1), ct := Pv (k + 1), bk := D.nx } ((σ.set i (some x)).set j (some y)) (upd H T (.tup [x, y]))) (hd : ∀ σ H, Pv xs.length σ H → D.nx σ H) :
    ∃ W : Nat → Nat → St → Hp → Prop, (∃ m, W 0 m σ H) ∧ ∀ k m σ H, W k m σ H →
      ((Itz K a b xs ys).stop k H ∧ D.nx σ H) ∨ ((Itz K a b xs ys).go k H ∧ ∃ N : St → Hp → Prop, (∀ σ' H', N σ' H' → ∃ m', m' < m ∧ W (k + 1) m' σ' H') ∧ ∀ x H', (Itz K a b xs ys).yld k H x H' → gTup K 2 (gCons (gName i) (gCons (gName j) gNil)) x σ H' fun σ2 H2 => tb { D with nx := N, ct := N, bk := D.nx } σ2 H2) := by
  refine ⟨fun k m σ H => m = xs.length - k ∧ k ≤ xs.length ∧ Pv k σ H, ⟨xs.length, by simp, Nat.zero_le _, h0⟩, ?_⟩
  rintro k m σ H ⟨rfl, hk, pv⟩
  by_cases hlt : k < xs.length
  · refine .inr ⟨⟨hlt, ha k σ H hk pv, hb k σ H hk pv⟩, Pv (k + 1), fun σ' H' z => ⟨xs.length - (k + 1), by omega, rfl, hlt, z⟩, fun x H' y => ?_⟩
    obtain ⟨T, p, q, hT, hx, hy, rfl, rfl⟩ := y
    exact ⟨T, [p, q], rfl, SqT.of upd_same, rfl, p, [q], rfl, q, [], rfl, rfl, hs k p q σ H hx hy pv T hT⟩
  · have e : k = xs.length := by omega
    subst e
    exact .inl ⟨⟨rfl, ha _ σ H hk pv, hb _ σ H hk pv⟩, hd σ H pv⟩
end L2
namespace L2
open PySem PySem.Spec PyProof.Rows PySem.W
/-! ### texts: exact cuts, upper, times -/
def cutS (z : Str) (lo hi : Option Int) : Str := if (Builtin.Str.strSliceIndices lo hi 1 z.length).length = z.length then z else ⟨((Builtin.Str.strSliceIndices lo hi 1 z.length).filterMap (z.cps[·]?)).toArray⟩
theorem cutS_len (z : Str) (lo hi : Option Int) : (cutS z lo hi).length ≤ z.length := by
  unfold cutS
  split
  · exact Nat.le_refl _
  · show (List.filterMap _ _).toArray.size ≤ _
    rw [List.size_toArray]
    exact Nat.le_trans (List.length_filterMap_le _ _) (indices_len_le _ _ _)
section
variable {X : Cx} {K : PySem.W.Frag}
theorem l_strE : QSl X (fun x lo hi H Q => ∃ z : Str, x = .str z ∧ z.length ≤ 1000 ∧ Q (.str (cutS z lo hi)) H) := by
  refine ⟨?_⟩
  intro pins s σ H x v vl vu lo hi sl Q I rx hs pl pu h
  obtain ⟨z, rfl, hz, q⟩ := h
  obtain ⟨t, rfl⟩ := rx
  have pt : ∀ {v : Value} {o : Option Int}, IsPart v o → ∃ p : Option (Int × Tok), v = partValue p ∧ p.map (·.1) = o := fun {v o} p => by
    cases p with
    | none => exact ⟨none, rfl, rfl⟩
    | int i t => exact ⟨some (i, t), rfl, rfl⟩
  obtain ⟨l, rfl, hl⟩ := pt pl
  obtain ⟨u, rfl, hu⟩ := pt pu
  have e : slicePicked z l u none = Builtin.Str.strSliceIndices lo hi 1 z.length := by
    unfold slicePicked
    rw [hl, hu]
    rfl
  refine ⟨"str", _, F.slot_str_getitem.lookup, typeIs_str _ _ _, wpAny_getItem_str_slice (l := l) (u := u) (st := none) hs rfl ?_⟩
  have hy := cutS_len z lo hi
  unfold sliceMade
  unfold cutS at q hy
  rw [e]
  split
  · rename_i hc
    have hc' : (Builtin.Str.strSliceIndices lo hi 1 z.length).length = z.length := by simpa using hc
    rw [if_pos hc'] at q
    exact ⟨.str z, H, I, ⟨_, rfl⟩, q⟩
  · rename_i hc
    have hc' : ¬ (Builtin.Str.strSliceIndices lo hi 1 z.length).length = z.length := by simpa using hc
    rw [if_neg hc'] at q hy
    exact ⟨size63 (Nat.le_trans hy hz), .str _, H, I.tok _, ⟨_, rfl⟩, q⟩
end
end L2
namespace L2
open PySem PySem.Spec PyProof.Rows PySem.W
end L2
namespace L2
open PySem PySem.Spec PyProof.Rows PySem.W
/-! ### the tree of a sort: every end is a permutation, every question is about items -/
def KIn {α : Type} (n : Nat) (P : α → Prop) : KasT α → Prop
  | .ret a => P a
  | .ask i j k => i < n ∧ j < n ∧ ∀ b, KIn n P (k b)
theorem KIn.bind {α β : Type} {n : Nat} {P : α → Prop} {R : β → Prop} {f : α → KasT β} : ∀ {t : KasT α}, KIn n P t → (∀ a, P a → KIn n R (f a)) → KIn n R (t.bind f)
  | .ret _, h, k => k _ h
  | .ask _ _ _, ⟨h1, h2, h3⟩, k => ⟨h1, h2, fun b => KIn.bind (h3 b) k⟩
def POk (n : Nat) (p : Array Nat) : Prop := p.Perm (List.range n).toArray
theorem POk.lt {n : Nat} {p : Array Nat} (h : POk n p) (hn : 0 < n) (k : Nat) : p.getD k 0 < n := by
  rw [Array.getD_eq_getD_getElem?]
  cases e : p[k]? with
  | none => exact hn
  | some x =>
    have hm : x ∈ p := Array.mem_of_getElem? e
    have := (h.mem_iff).mp hm
    simpa using this
section
variable {X : Cx}
theorem o_inQ {K : PySem.W.Frag} (hK : X.K = K) : QOp X (compareOp .In) (rIn K false) := by
  subst hK
  exact ⟨op_in_seq⟩
end
end L2
namespace L2
open PySem PySem.Spec PyProof.Rows PySem.W
/-! ### a sort is sorted, and stable: by key, then by place -/
def KW {α : Type} (lt : Nat → Nat → Bool) (Q : α → Prop) : KasT α → Prop
  | .ret a => Q a
  | .ask i j k => KW lt Q (k (lt i j))
theorem KW.bind {α β : Type} {lt : Nat → Nat → Bool} {Q : β → Prop} {f : α → KasT β} : ∀ {t : KasT α}, KW lt (fun a => KW lt Q (f a)) t → KW lt Q (t.bind f)
  | .ret _, h => h
  | .ask i j k, h => KW.bind (t := k (lt i j)) h
theorem KW.mono {α : Type} {lt : Nat → Nat → Bool} {Q R : α → Prop} (k : ∀ a, Q a → R a) : ∀ {t : KasT α}, KW lt Q t → KW lt R t
  | .ret _, h => k _ h
  | .ask i j c, h => KW.mono k (t := c (lt i j)) h
structure LtOk (lt : Nat → Nat → Bool) : Prop where
  as : ∀ {a b}, lt a b = true → lt b a = false
  tr : ∀ {a b c}, lt b a = false → lt c b = false → lt c a = false
def gA (p : Array Nat) (k : Nat) : Nat := p.getD k 0
def Lx (lt : Nat → Nat → Bool) (a b : Nat) : Prop := lt b a = false ∧ (lt a b = true ∨ a < b)
section
variable {lt : Nat → Nat → Bool} (O : LtOk lt)
include O
theorem LtOk.lt_le {a b c : Nat} (h : lt a b = true) (h2 : lt c b = false) : lt a c = true := by
  cases e : lt a c with
  | true => rfl
  | false => rw [O.tr h2 e] at h; cases h
theorem LtOk.le_lt {a b c : Nat} (h : lt b a = false) (h2 : lt b c = true) : lt a c = true := by
  cases e : lt a c with
  | true => rfl
  | false => rw [O.tr e h] at h2; cases h2
theorem Lx.trans {a b c : Nat} (h : Lx lt a b) (k : Lx lt b c) : Lx lt a c := by
  refine ⟨O.tr h.1 k.1, ?_⟩
  rcases h.2 with x | x
  · exact .inl (O.lt_le x k.1)
  · rcases k.2 with y | y
    · exact .inl (O.le_lt h.1 y)
    · exact .inr (Nat.lt_trans x y)
theorem Lx.of_lt {a b : Nat} (h : lt a b = true) : Lx lt a b := ⟨O.as h, .inl h⟩
end
structure Fx (N : Nat) (p : Array Nat) (m : Nat) : Prop where
  sz : p.size = N
  hi : ∀ k, m ≤ k → k < N → gA p k = k
  lo : ∀ i, i < m → gA p i < m
def LS (lt : Nat → Nat → Bool) (p : Array Nat) (m : Nat) : Prop := ∀ i j, i < j → j < m → Lx lt (gA p i) (gA p j)
def AS (lt : Nat → Nat → Bool) (p : Array Nat) (m : Nat) : Prop := ∀ i j, i < j → j < m → Lx lt (gA p j) (gA p i)
theorem Fx.succ {N : Nat} {p : Array Nat} {m : Nat} (h : Fx N p m) (hm : m < N) : Fx N p (m + 1) := ⟨h.sz, fun k h1 h2 => h.hi k (by omega) h2, fun i hi => by
  rcases Nat.lt_or_ge i m with h1 | h1
  · have := h.lo i h1; omega
  · have e : i = m := by omega
    subst e
    rw [h.hi i (Nat.le_refl _) hm]
    omega⟩
section
variable {lt : Nat → Nat → Bool} (O : LtOk lt) {N : Nat}
include O
theorem LS.step {p : Array Nat} {n : Nat} (h : LS lt p n) (hx : Lx lt (gA p (n - 1)) (gA p n)) (h1 : 1 ≤ n) : LS lt p (n + 1) := fun i j hij hj => by
  rcases Nat.lt_or_ge j n with h2 | h2
  · exact h i j hij h2
  · have e : j = n := by omega
    subst e
    rcases Nat.lt_or_ge i (j - 1) with h3 | h3
    · exact (h i (j - 1) h3 (by omega)).trans O hx
    · have e : i = j - 1 := by omega
      subst e
      exact hx
/-- a falling stretch whose last q + 1 items are alike -/
structure Dn (lt : Nat → Nat → Bool) (p : Array Nat) (n q : Nat) : Prop where
  hq : q + 1 ≤ n
  up : ∀ i j, i < j → j < n - (q + 1) → Lx lt (gA p j) (gA p i)
  cr : ∀ i j, i < n - (q + 1) → n - (q + 1) ≤ j → j < n → lt (gA p j) (gA p i) = true
  eq : ∀ i j, n - (q + 1) ≤ i → i < j → j < n → lt (gA p i) (gA p j) = false ∧ lt (gA p j) (gA p i) = false ∧ gA p i < gA p j
theorem Dn.zero {p : Array Nat} {n : Nat} (h : Dn lt p n 0) : AS lt p n := fun i j hij hj => by
  rcases Nat.lt_or_ge j (n - 1) with c | c
  · exact h.up i j hij c
  · exact Lx.of_lt O (h.cr i j (by omega) (by omega) hj)
theorem Dn.start {p : Array Nat} {n : Nat} (h : AS lt p n) (h1 : 1 ≤ n) (hl : lt (gA p n) (gA p (n - 1)) = true) : Dn lt p (n + 1) 0 := by
  refine ⟨by omega, fun i j hij hj => h i j hij (by omega), fun i j hi h2 h3 => ?_, fun i j h2 h3 h4 => absurd h3 (by omega)⟩
  have e : j = n := by omega
  subst e
  rcases Nat.lt_or_ge i (j - 1) with h3 | h3
  · exact O.lt_le hl (h i (j - 1) h3 (by omega)).1
  · have e : i = j - 1 := by omega
    subst e
    exact hl
end
end L2
namespace L2
open PySem PySem.Spec PyProof.Rows PySem.W
/-! ### enumerate(xs) of a list, walked to a pair of names -/
section
variable {X : Cx}
end
end L2
namespace L2
open PySem PySem.Spec PyProof.Rows PySem.W
/-! ### sorted(xs, key=f) -/
section
variable {X : Cx} {pins : List (Addr × Obj)} {σ : St} {H : Hp} {s : Shared} {h' : Heap}
/-- the state between two keys -/
structure SK (X : Cx) (pins : List (Addr × Obj)) (σ : St) (H1 : Hp) (m : Str → Option Value) (kS D : Addr) (e1 : Nat) (ks : List (List Int)) (as : List Addr) (e : Nat) (H : Hp) (s : Shared) : Prop where
  I : Inv X pins σ H s
  sm : Same H1 H
  fk : FpOk X pins H kS
  fd : FpOk X pins H D
  bk : X.base.get? kS = none
  bd : X.base.get? D = none
  hk : s.heap.get? kS = some (seqObj "list" (List.toArray (as.map Value.ref)) e)
  hd : s.heap.get? D = some (seqObj "list" #[] e1)
  ns : s.heap.Ns X.env.locals m
  keys : ∀ (i : Nat) (a : Addr) (k : List Int), as[i]? = some a → ks[i]? = some k → H a = some (.tup (k.map V.int))
theorem SK.fr {H1 : Hp} {m : Str → Option Value} {kS D : Addr} {e1 : Nat} {ks : List (List Int)} {as : List Addr} {e : Nat} (S : SK X pins σ H1 m kS D e1 ks as e H s) : Fr X.base X.env.locals s.heap m := ⟨S.ns, S.I.bk, Nat.le_trans S.I.ok.bsz S.I.ok.above⟩
end
end L2
namespace L2
open PySem PySem.Spec PyProof.Rows PySem.W
section
variable {X : Cx} {pins : List (Addr × Obj)} {σ : St} {H : Hp} {s : Shared}
structure ExOk (X : Cx) (b : Addr) : Prop where
  old : b ∈ X.ex ∨ X.s₀.heap.get? b = none
  loc : b ≠ X.env.locals
  cel : ∀ x c, X.env.cells.lookup x = some c → c ≠ b
  bas : X.base.get? b = none
  fs : b ∉ X.fs
end
end L2
namespace L2
open PySem PySem.Spec PyProof.Rows PySem.W
/-! ### dicts with pairs as keys, as closed judgements -/
section
variable {X : Cx} {o i value : Expr} {pos pos' : Pos} {td ty tv : TE}
theorem q_d0T : QE X (.Dict [] [] pos) tDNewT := ⟨pe_dnewT⟩
theorem q_dget (hu : X.A.units + 64 < cLine) (ho : QE X o td) (hi : QE X i ty) (hs : NoSl i := by intro _ _; rfl) : QE X (.Subscript o i pos) (tDGet td ty) := ⟨pe_dget (by omega) ho.h hi.h hs⟩
theorem q_din (hu : X.A.units + 64 < cLine) (hi : QE X i ty) (ho : QE X o td) (hm : behindInMarks .In o = false := by with_unfolding_all rfl) : QE X (.Compare i [.In] [o] pos) (tDIn ty td) := ⟨pe_cmp (pc_din (by omega) hi.h ho.h) hm⟩
theorem t_din (hu : X.A.units + 64 < cLine) (hi : QE X i ty) (ho : QE X o td) (hm : behindInMarks .In o = false := by with_unfolding_all rfl) : QT X (.Compare i [.In] [o] pos) (tB (tDIn ty td)) := ⟨pt_cmp (pc_din (by omega) hi.h ho.h) hm⟩
theorem t_dnotin (hu : X.A.units + 64 < cLine) (hi : QE X i ty) (ho : QE X o td) (hm : behindInMarks .NotIn o = false := by with_unfolding_all rfl) : QT X (.Compare i [.NotIn] [o] pos) (tB (tDNotIn ty td)) := ⟨pt_cmp (pc_dnotin (by omega) hi.h ho.h) hm⟩
theorem s_dput (hu : X.A.units + 64 < cLine) (ho : QE X o td) (hi : QE X i ty) (hv : QE X value tv) (hs : swapsWith value (some (.Subscript o i pos')) pos.line X.env = pure false := by rfl) : QS X (.Assign [.Subscript o i pos'] value pos) (sDPut td ty tv) := ⟨ps_dput (by omega) ho.h hi.h hv.h hs⟩
end
end L2
namespace L2
open PySem PySem.Spec PyProof.Rows PySem.W
/-! ### sorted([x], key=f) -/
section
variable {X : Cx} {pins : List (Addr × Obj)} {σ : St} {H : Hp} {s : Shared}
end
end L2
namespace L2
open PySem PySem.Spec PyProof.Rows PySem.W
/-! ### range(a, b, -1) -/
section
variable {X : Cx} {tg : Expr}
end
/-! ### reversed(xs) -/
section
variable {X : Cx}
end
/-! ### list(reversed(xs)) -/
section
variable {prog : Program} {w : World} {A : Around} {E : Value → Shared → Prop} {s : Shared} {r d : Addr}
end
section
variable {X : Cx}
end
section
variable {X : Cx} {o e : Expr} {to te : TE} {apos cpos : Pos}
end
end L2
namespace L2
open PySem PySem.Spec PyProof.Rows PySem.W
/-! ### x in xs, xs.count(x), of data -/
open Classical in
noncomputable def eqOf (h : Heap) (dx : PyData) (u : Value) : Bool := decide (∃ d as, Reads h u d as ∧ PyData.canLay0 d = true ∧ PyData.eqv d dx = true)
open Classical in
theorem eqOf_is {h : Heap} {dx d : PyData} {u : Value} {as : List Addr} (r : Reads h u d as) (hl : d.canLay0 = true) : eqOf h dx u = PyData.eqv d dx := by
  unfold eqOf
  cases e : PyData.eqv d dx with
  | true => exact decide_eq_true ⟨d, as, r, hl, e⟩
  | false =>
    refine decide_eq_false ?_
    rintro ⟨d', as', r', l', e'⟩
    rw [SeqAt.Reads.unique d d' u as as' hl r r', e'] at e
    cases e
section
variable {P : Program} {w : World} {H : Hp} {h : Heap}
theorem data_reads (ok : HOk P w H h) : ∀ {ds : List PyData} {xs : List V} {us : List Value}, DtAll H ds xs → Vals xs us → PyData.canLayAll0 ds = true → ∀ dx : PyData, us.any (eqOf h dx) = ds.any (fun d => PyData.eqv d dx) ∧ us.countP (eqOf h dx) = ds.countP (fun d => PyData.eqv d dx) ∧ ∀ u ∈ us, ∃ d as, d ∈ ds ∧ Reads h u d as ∧ d.canLay0 = true
  | [], xs, us, hd, r, _, dx => by
    have e : xs = [] := by simpa only [DtAll] using hd
    subst e
    cases r
    exact ⟨rfl, rfl, fun u hu => nomatch hu⟩
  | d :: ds, xs, us, hd, r, hl, dx => by
    have e : ∃ y ys, xs = y :: ys ∧ Dt H d y ∧ DtAll H ds ys := by simpa only [DtAll] using hd
    obtain ⟨y, ys, rfl, h1, h2⟩ := e
    cases r with
    | cons r1 r2 =>
      have hl' : d.canLay0 = true ∧ PyData.canLayAll0 ds = true := by simpa [PyData.canLayAll0] using hl
      obtain ⟨as, q1⟩ := Dt.reads ok d y _ h1 r1
      obtain ⟨i1, i2, i3⟩ := data_reads ok h2 r2 hl'.2 dx
      refine ⟨by rw [List.any_cons, List.any_cons, eqOf_is q1 hl'.1, i1], by rw [List.countP_cons, List.countP_cons, eqOf_is q1 hl'.1, i2], fun u hu => ?_⟩
      rcases List.mem_cons.mp hu with rfl | hu
      · exact ⟨d, as, by simp, q1, hl'.1⟩
      · obtain ⟨d', as', m, z⟩ := i3 u hu
        exact ⟨d', as', by simp [m], z⟩
end
section
variable {X : Cx}
def rInD (K : PySem.W.Frag) (neg : Bool) : R2 := fun x y H Q => ∃ (p : Addr) (xs : List V) (dx : PyData) (ds : List PyData), y = .ref p ∧ SqL K H p xs ∧ Dt H dx x ∧ DtAll H ds xs ∧ SeqAt.shaped dx = true ∧ PyData.canLayAll0 ds = true ∧ Q (.bl (if neg then !(ds.any fun d => PyData.eqv d dx) else ds.any fun d => PyData.eqv d dx)) H
theorem data_eqAt {pins : List (Addr × Obj)} {σ : St} {H : Hp} {s : Shared} {A : Around} {dx : PyData} {x : V} {v : Value} {ds : List PyData} {xs : List V} {us : List Value} (I : Inv X pins σ H s) (hu : A.units + 64 < cLine) (h1 : Dt H dx x) (rx : RelV x v) (h2 : DtAll H ds xs) (r : Vals xs us) (s1 : SeqAt.shaped dx = true) (s2 : PyData.canLayAll0 ds = true) : ∀ u ∈ us, SeqAt.EqAt A s u v (eqOf s.heap dx u) := fun u hu' => by
  obtain ⟨_, _, z⟩ := data_reads I.hok h2 r s2 dx
  obtain ⟨d, as, _, q1, q2⟩ := z u hu'
  obtain ⟨bs, q3⟩ := Dt.reads I.hok dx x v h1 rx
  rw [eqOf_is q1 q2]
  refine SeqAt.eqAt_reads d dx A s u v as bs q1 q3 q2 (SeqAt.canLay_of_shaped s1) ?_
  have d1 := SeqAt.depth_of_shaped s1
  have d2 : min d.depth dx.depth ≤ dx.depth := Nat.min_le_right _ _
  omega
theorem op_inD (hu : X.A.in1.units + 64 < cLine) : OpR X (compareOp .In) (rInD X.K false) := by
  intro pins s σ H x y v u Q I rx ry h
  obtain ⟨p, xs, dx, ds, rfl, hq, h1, h2, s1, s2, q⟩ := h
  cases ry
  obtain ⟨its, r, pl, hz⟩ := I.list hq
  refine SeqAt.in_listAt (eqOf s.heap dx) pl.isList (fun w hw => data_eqAt I hu h1 rx h2 r s1 s2 w (by simpa using hw)) ⟨.bl _, H, I, rfl, ?_⟩
  rw [show its.toArray.any (eqOf s.heap dx) = its.any (eqOf s.heap dx) by simp, (data_reads I.hok h2 r s2 dx).1]
  exact q
theorem o_inD {k : Nat} (hr : Room k X.A) : QOp X (compareOp .In) (rInD X.K false) := ⟨op_inD (by have := hr.un; show X.A.units + _ + 64 < _; omega)⟩
end
section
variable {X : Cx} {o e : Expr} {to te : TE} {apos cpos : Pos}
end
end L2
namespace L2
open PySem PySem.Spec PyProof.Rows PySem.W
/-! ### zip(t, u) of two lists of one length, walked to a pair of names -/
section
variable {X : Cx}
end
section
variable {X : Cx}
/-- {k: v, ..} -/
structure QPs (X : Cx) (pos : Pos) (keys : List (Option Expr)) (values : List Expr) (trs : List (TE × TE)) : Prop where
  h : PPs X pos keys values trs
theorem o_notInQ {K : PySem.W.Frag} (hK : X.K = K) : QOp X (compareOp .NotIn) (rIn K true) := by
  subst hK
  exact ⟨op_notIn_seq⟩
end
end L2
namespace L2
open PySem PySem.Spec PyProof.Rows PySem.W
/-! ### name = [..] whose own name is a cell; any(xs) of truths -/
section
variable {elt tg iter : Expr} {ifs : List Expr} {pos : Pos} {g : TG} {tc : TT} {te : TE} {Q : VK}
end
section
variable {X : Cx}
end
end L2
namespace L2
open PySem PySem.Spec PyProof.Rows PySem.W
/-! ### own classes: fields, methods, instances, as closed judgements -/
structure MFn (P : Program) (w : World) (K : PySem.W.Frag) (mg : Str → Option Value) (base : Heap) (k : Nat) (C : Addr) (m : Str) (ps : List Str) (sp : Sp) : Prop where
  cl : Cls K C
  ex : ∃ f fd, FnOk P w K mg base CX0 k f fd ps sp ∧ Meth K C m f ∧ Binds K fd ps []
structure MkFn (P : Program) (w : World) (K : PySem.W.Frag) (mg : Str → Option Value) (base : Heap) (k : Nat) (C : Addr) (x : Str) (ps : List Str) (sp : Sp) : Prop where
  cl : Cls K C
  mgC : mg x = some (.ref C)
  ex : ∃ f fd, FnOk P w K mg base CX0 k f fd ps sp ∧ Mk K C f ∧ Binds K fd ps []
section
variable {X : Cx} {k : Nat} {C : Addr} {m x f : Str} {p pos pos' apos : Pos} {o e value : Expr} {es : List Expr} {ps : List Str} {sp : Sp} {t : TA} {ta tv : TE}
theorem q_fld (he : QE X e ta) (hb : attributeBase e f X.env (eval e X.env) = eval e X.env := by rfl) : QE X (.Attribute e f pos) (tFld X.K ta f) := ⟨pe_fld he.h hb⟩
theorem s_fld (ha : QE X o ta) (hv : QE X value tv) (hs : swapsWith value (some (.Attribute o f pos')) pos.line X.env = pure false := by rfl) : QS X (.Assign [.Attribute o f pos'] value pos) (sFld X.K ta tv f) := ⟨ps_fld ha.h hv.h hs⟩
theorem q_meth {pl : Sem Bool} (F : MFn X.prog X.w X.K X.mg X.base k C m ps sp) (hr : Room k X.A) (he : QE X o ta) (ha : QA X (e :: es) t)
    (hs : (e :: es).all noStar = true := by rfl)
    (ht : eval (.Call (.Attribute o m apos) (e :: es) [] pos) X.env = (do
      let ov ← eval o X.env
      standAt apos.atName
      let (f, first) ← holding [ov] (getMethod ov m pl)
      callWith pos f first (backTo pos (starEach (e :: es) X.env)) (backToKw pos (keywordEach [] X.env))) := by rfl) :
    QE X (.Call (.Attribute o m apos) (e :: es) [] pos) (tMeth C m sp [] E0 ta t) := by
  obtain ⟨f, fd, G, hm, b⟩ := F.ex
  rw [List.all_cons, Bool.and_eq_true] at hs
  exact ⟨pe_meth (pl := pl) he.h F.cl hm G hr b .nil pass0 ha.h (star_cons hs.1) (plain_back hs.2) ht⟩
theorem q_make0 (F : MkFn X.prog X.w X.K X.mg X.base k C x ps sp) (hr : Room (k + 1) X.A) (hg : Gl X x := by rfl) (hdb : (x == ("__debug__" : Str)) = false := by decide) : QE X (.Call (.Name x p) [] [] pos) (tMake C sp [] E0 tNil) := by
  obtain ⟨f, fd, G, hm, b⟩ := F.ex
  exact ⟨pe_make0 hm G hr hg F.mgC b .nil pass0 hdb⟩
end
/-! ### a dict whatever its keys are: its keys walked in their order -/
def DRaw (h : Heap) (d : Addr) (es : Array DictEntry) (ep : Nat) : Prop := ∃ o, h.get? d = some o ∧ o.ExactDict ∧ o.data = .dict es ep
theorem DRaw.type {s : Shared} {d : Addr} {es : Array DictEntry} {ep : Nat} (x : DRaw s.heap d es ep) : s.TypeIs (.ref d) "dict" := let ⟨o, ho, hc, _⟩ := x; ⟨o, ho, hc.1⟩
theorem DRaw.at' {h h' : Heap} {d : Addr} {es : Array DictEntry} {ep : Nat} (x : DRaw h d es ep) (e : ∀ o, h.get? d = some o → h'.get? d = some o) : DRaw h' d es ep := let ⟨o, ho, r⟩ := x; ⟨o, e o ho, r⟩
theorem DRaw.lt {h : Heap} {d : Addr} {es : Array DictEntry} {ep : Nat} (x : DRaw h d es ep) : d < h.objs.size := let ⟨_, ho, _⟩ := x; Heap.lt_size ho
section
variable {prog : Program} {w : World} {A : Around} {E : Value → Shared → Prop} {s : Shared} {d it : Addr} {es : Array DictEntry} {ep i : Nat}
theorem raw_iter {Q : Value → Shared → Prop} (hd : (d == sysModules) = false) (hm : DRaw s.heap d es ep)
    (hQ : Q (.ref s.heap.objs.size) { s with heap := s.heap.push { cls := .type "dict_keyiterator", data := .fields #[.ref d, .int 0 0, .int es.size 0, .int ep 0] } }) :
    wpAny (model prog w) A (pyIter (.ref d)) Q E s := by
  obtain ⟨o, ho, hc, hdat⟩ := id hm
  refine wpAny_pyIter_slot hm.type PySem.F.slot_dict_iter (wpAny_call_entry PySem.F.slot_dict_iter hm.type PySem.F.entry_dict_iter ?_ (PySem.F.args_dict_iter_1 _))
  unfold Builtin.«dict.__iter__»
  refine wpAny_bind ?_
  unfold Builtin.Dict.dictSlotNone
  refine wpAny_bind (wpAny_notOrdered_dict hm.type ?_)
  show wpAny _ _ (pure (Value.ref d)) _ _ s
  refine wpAny_pure ?_
  show wpAny _ _ (Builtin.Dict.showsAll d >>= _) _ _ s
  unfold Builtin.Dict.showsAll
  rw [if_neg (by rw [hd]; exact Bool.false_ne_true)]
  refine wpAny_bind (wpAny_pure ?_)
  refine wpAny_bind (wpAny_dictEntries ho hdat ?_)
  refine wpAny_bind (wpAny_dictEpoch ho hdat ?_)
  refine wpAny_bind (wpAny_newObj_type (wpAny_pure ⟨_, rfl, "dict_keyiterator", _, ⟨_, Heap.get?_push_size _ rfl, rfl⟩, PySem.F.slot_dict_keyiterator_next.lookup, ?_⟩))
  simpa [rawInt] using hQ
theorem raw_item {Q : Option Value → Shared → Prop} (hit : s.heap.IsKeyIter it d i es.size ep) (hm : DRaw s.heap d es ep) (hx : i < es.size)
    (hQ : ∀ h', h'.IsKeyIter it d (i + 1) es.size ep → Heap.SameBut it s.heap h' → Q (some es[i].key) { s with heap := h' }) : wpAny (model prog w) A (pyNext (.ref it)) Q E s := by
  obtain ⟨o, ho, hc, hd⟩ := id hit
  obtain ⟨od, hod, hcd, hdd⟩ := id hm
  unfold pyNext
  refine wpAny_bind (wpAny_attempt (wpAny_callSpecial?_slot (name := Str.ofString "__next__") hit.typeIs PySem.F.slot_dict_keyiterator_next
    (wpAny_call_entry PySem.F.slot_dict_keyiterator_next hit.typeIs PySem.F.entry_dict_keyiterator_next ?_ (PySem.F.args_dict_keyiterator_next_1 _))))
  refine wpAny_bind (wpAny_pure ?_)
  refine wpAny_bind ?_
  refine wpAny_bind ?_
  first | refine wpAny_bind (wpAny_typeNameOfWhole_keyiter hit.typeIs (wpAny_pure ?_)) | refine wpAny_bind (wpAny_typeNameOf_keyiter hit.typeIs (wpAny_pure ?_))
  refine wpAny_bind (wpAny_fieldsOf ho hd ?_)
  have hown : Builtin.Dict_items.ownsTuple "dict_keyiterator" = false := by decide
  simp only [hown, Bool.false_eq_true, if_false]
  show wpAny _ _ (if (Value.ref d == Value.none) = true then _ else _) _ _ s
  rw [if_neg (show ¬ ((Value.ref d == Value.none) = true) from Bool.false_ne_true)]
  refine wpAny_bind (wpAny_pure ?_)
  refine wpAny_bind (wpAny_dictEntries hod hdd ?_)
  rw [if_neg (by simp)]
  refine wpAny_bind (wpAny_pure ?_)
  refine wpAny_bind (wpAny_dictEpoch hod hdd ?_)
  rw [if_neg (by simp)]
  refine wpAny_pure ?_
  simp only [show ¬ ((i : Int) < 0) from by omega, if_false, Int.toNat_natCast, Array.getElem?_eq_getElem hx]
  refine wpAny_bind ?_
  first | refine wpAny_bind (wpAny_typeNameOfWhole_keyiter hit.typeIs (wpAny_pure ?_)) | refine wpAny_bind (wpAny_typeNameOf_keyiter hit.typeIs (wpAny_pure ?_))
  refine wpAny_bind (wpAny_isOneOf_keyiter hit.typeIs ?_)
  show wpAny _ _ (setField (.ref it) 1 (rawInt ((i : Int) + 1)) >>= _) _ _ s
  refine wpAny_bind (wpAny_setField ho hd (by simp) ?_)
  have hit' : (s.heap.update it (Obj.mapFields (·.setIfInBounds 1 (rawInt ((i : Int) + 1))))).IsKeyIter it d (i + 1) es.size ep :=
    ⟨_, Heap.get?_update_self _ ho (Obj.isFreed_of_fields (Obj.data_mapFields hd _)), (Obj.cls_mapFields ..).trans hc, by rw [Obj.data_mapFields hd]; simp [rawInt]⟩
  refine wpAny_bind (wpAny_holding ?_)
  refine wpAny_bind (wpAny_isOneOf_keyiter (s := { s with heap := s.heap.update it (Obj.mapFields (·.setIfInBounds 1 (rawInt ((i : Int) + 1)))) }) hit'.typeIs ?_)
  show wpAny _ _ (pure es[i].key) _ _ _
  exact wpAny_pure (wpAny_pure ⟨_, rfl, wpAny_pure (hQ _ hit' (Heap.SameBut.update ..))⟩)
theorem raw_end {Q : Option Value → Shared → Prop} (hh : A.handled = none) (hit : s.heap.IsKeyIter it d es.size es.size ep) (hm : DRaw s.heap d es ep) (hQ : ∀ h', Heap.ExtBut it s.heap h' → Q none { s with heap := h' }) :
    wpAny (model prog w) A (pyNext (.ref it)) Q E s := by
  obtain ⟨o, ho, hc, hd⟩ := id hit
  obtain ⟨od, hod, hcd, hdd⟩ := id hm
  unfold pyNext
  refine wpAny_bind (wpAny_attempt (wpAny_callSpecial?_slot (name := Str.ofString "__next__") hit.typeIs PySem.F.slot_dict_keyiterator_next
    (wpAny_call_entry PySem.F.slot_dict_keyiterator_next hit.typeIs PySem.F.entry_dict_keyiterator_next ?_ (PySem.F.args_dict_keyiterator_next_1 _))))
  refine wpAny_bind (wpAny_pure ?_)
  refine wpAny_bind ?_
  refine wpAny_bind ?_
  first | refine wpAny_bind (wpAny_typeNameOfWhole_keyiter hit.typeIs (wpAny_pure ?_)) | refine wpAny_bind (wpAny_typeNameOf_keyiter hit.typeIs (wpAny_pure ?_))
  refine wpAny_bind (wpAny_fieldsOf ho hd ?_)
  have hown : Builtin.Dict_items.ownsTuple "dict_keyiterator" = false := by decide
  simp only [hown, Bool.false_eq_true, if_false]
  show wpAny _ _ (if (Value.ref d == Value.none) = true then _ else _) _ _ s
  rw [if_neg (show ¬ ((Value.ref d == Value.none) = true) from Bool.false_ne_true)]
  refine wpAny_bind (wpAny_pure ?_)
  refine wpAny_bind (wpAny_dictEntries hod hdd ?_)
  rw [if_neg (by simp)]
  refine wpAny_bind (wpAny_pure ?_)
  refine wpAny_bind (wpAny_dictEpoch hod hdd ?_)
  rw [if_neg (by simp)]
  refine wpAny_pure ?_
  simp only [show ¬ ((es.size : Int) < 0) from by omega, if_false, Int.toNat_natCast, Array.getElem?_eq_none (Nat.le_refl _)]
  refine wpAny_bind ?_
  first | refine wpAny_bind (wpAny_typeNameOfWhole_keyiter hit.typeIs (wpAny_pure ?_)) | refine wpAny_bind (wpAny_typeNameOf_keyiter hit.typeIs (wpAny_pure ?_))
  show wpAny _ _ (setField (.ref it) 0 .none >>= _) _ _ s
  refine wpAny_bind (wpAny_setField ho hd (by simp) ?_)
  show wpAny _ _ (newExc (.type "StopIteration") [] >>= _) _ _ _
  refine wpAny_bind ?_
  simp only [newExc, newTuple]
  refine wpAny_bind (wpAny_newObj_type ?_ (by size_fits))
  refine wpAny_bind (m := firstArgMember _ _) (wpAny_of_eq (a := Value.none) (by first | rfl | (simp only [firstArgMember]; rfl)) ?_)
  refine wpAny_newObj_type ?_ (by size_fits)
  simp only [raiseNew]
  refine wpAny_bind (wpAny_handled ?_)
  rw [show A.in1.handled = none from hh]
  refine wpAny_bind (wpAny_pure (wpAny_throw ?_))
  refine wpAny_bind (wpAny_isInstance (T := "StopIteration") (b := true) ⟨_, Heap.get?_push_size _ rfl, rfl⟩ isSubtype_stop ?_)
  exact wpAny_pure (hQ _ (((Heap.SameBut.update ..).extBut.push _).push _))
theorem raw_walks (hh : A.handled = none) (I d : Addr) (hne : d ≠ I) (es : Array DictEntry) (ep : Nat) :
    Walks prog w A I [I, d] [I] es.size (fun i v => ∃ e, es[i]? = some e ∧ v = e.key) (fun i h => h.IsKeyIter I d i es.size ep ∧ DRaw h d es ep) where
  sub := fun b hb => by simp at hb; simp [hb]
  frame := fun _ _ _ st hk => ⟨st.1.at fun o e => hk I (by simp) o e, st.2.at' fun o e => hk d (by simp) o e⟩
  item := fun i s Q E hi st hQ => raw_item st.1 st.2 hi fun h' hit' hs' => hQ _ h' s.toks ⟨es[i], by simp [hi], rfl⟩ ⟨hit', st.2.at' fun o e => hs'.extBut d o hne e⟩ fun b o hb e => hs'.extBut b o (fun h => hb (by simp [h])) e
  done := fun s Q E st hQ => raw_end hh st.1 st.2 fun h' he' => hQ h' s.toks fun b o hb e => he' b o (fun h => hb (by simp [h])) e
  self := fun _ _ _ _ st hQ => wpAny_pyIter_keyiter st.1 hQ
theorem raw_src (lo : (d == sysModules) = false) : KdlSrc prog w "dict" d d es.size (fun i v => ∃ e, es[i]? = some e ∧ v = e.key) (fun h => DRaw h d es ep) where
  type := fun _ hm => hm.type
  there := fun _ hm => ⟨hm.lt, hm.lt⟩
  keep := fun _ _ hm hk => hm.at' fun o e => hk d (.inl rfl) o e
  notList := by decide
  notTuple := by decide
  hint := fun _ _ _ _ hm hq => kdl_hint_dict hm.type hq
  iter := fun _ _ hh hm => ⟨_, _, (fun _ _ hq => raw_iter lo hm hq), raw_walks hh _ d (Nat.ne_of_lt hm.lt) es ep, ⟨⟨_, Heap.get?_push_size _ rfl, rfl, rfl⟩, hm.at' fun o e => Heap.get?_push_of_some _ e⟩⟩
end
/-- the keys of a dict with tuples as keys: references of tuples that hold them -/
def KeysAt (H : Hp) (kvs : List (List Key × V)) (ks : List V) : Prop := Paired (fun (p : List Key × V) (v : V) => ∃ b, v = V.ref b ∧ H b = some (.tup (p.1.map kV))) kvs ks
theorem keys_of_kt {H : Hp} {kvs : List (List Key × V)} {xs : List (List Key × Addr × Value)} (r : KT H kvs xs) : KeysAt H kvs (xs.map fun (x : List Key × Addr × Value) => V.ref x.2.1) := by
  unfold KeysAt
  induction r with
  | nil => exact .nil
  | cons h _ ih => exact .cons ⟨_, rfl, h.2.1⟩ ih
section
variable {X : Cx}
theorem call_listT (hc : X.calm = true) : CallR X (.type "list") (fun xs H Q => ∃ p kvs, xs = [.ref p] ∧ Rd H p (.dT kvs) ∧ ∀ l ks, H l = none → KeysAt H kvs ks → Q (.ref l) (upd H l (.lst ks))) := by
  intro pins s σ H xs us Q I r h
  obtain ⟨p, kvs, rfl, hq, q⟩ := h
  obtain ⟨u, rfl, rx⟩ := vals1 r
  cases rx
  obtain ⟨z, hd, xs, rel, o, es, ep, h1, h2, h3, h4, _, _⟩ := dt_rd I.hok hq
  have hsz : es.size = xs.length := size_of_entries h4
  have hkl : kvs.length = xs.length := Paired.length rel
  refine kdl_call (raw_src (es := es) (ep := ep) hd) (I.ok.hd hc) ⟨o, h1, h2, h3⟩ (by omega) fun h' tk acc' c' kp e hacc => ?_
  have ev : Vals (xs.map fun (x : List Key × Addr × Value) => V.ref x.2.1) acc'.toList := by
    have gen : ∀ (vs : List Value) (ys : List (List Key × Addr × Value)), vs.length = ys.length → (∀ (j : Nat) (v : Value), vs[j]? = some v → ∃ x : List Key × Addr × Value, ys[j]? = some x ∧ v = Value.ref x.2.1) → Vals (ys.map fun (x : List Key × Addr × Value) => V.ref x.2.1) vs := by
      intro vs
      induction vs with
      | nil =>
        intro ys hl _
        cases ys with
        | nil => exact .nil
        | cons _ _ => cases hl
      | cons v vs ih =>
        intro ys hl hv
        cases ys with
        | nil => cases hl
        | cons y ys =>
          obtain ⟨x, e1, e2⟩ := hv 0 v rfl
          cases e1
          exact .cons e2 (ih ys (by simpa using hl) fun j v' e' => hv (j + 1) v' (by simpa using e'))
    refine gen _ _ (by rw [Array.length_toList, hacc.1, hsz]) fun j v e' => ?_
    obtain ⟨en, e1, e2⟩ := hacc.2 j v (by rw [← Array.getElem?_toList]; exact e')
    rw [entry_at h4] at e1
    obtain ⟨x, e3, e4⟩ := Option.map_eq_some_iff.mp e1
    refine ⟨x, e3, ?_⟩
    rw [e2, ← e4]
    rfl
  refine ⟨.ref s.heap.objs.size, _, I.laid (t' := tk) kp (Nat.le_refl _) (show ObjOk X.prog X.w _ h' _ (.lst (xs.map fun (x : List Key × Addr × Value) => V.ref x.2.1)) from ⟨by rw [List.length_map]; omega, acc'.toList, c', ev, by simpa using e⟩), rfl, q _ _ (I.hok.fresh (Nat.le_refl _)) (keys_of_kt rel)⟩
theorem c_listT (hc : X.calm = true) : QCall X (.type "list") (fun xs H Q => ∃ p kvs, xs = [.ref p] ∧ Rd H p (.dT kvs) ∧ ∀ l ks, H l = none → KeysAt H kvs ks → Q (.ref l) (upd H l (.lst ks))) := ⟨call_listT hc⟩
end
/-! ### a statement whose ways meet again behind it: what holds there is said once -/
def tJoin (t : TS) : TS := fun D σ H => ∃ Pv : St → Hp → Prop, t { D with nx := Pv } σ H ∧ ∀ σ' H', Pv σ' H' → D.nx σ' H'
theorem s_join {X : Cx} {st : Stmt} {t : TS} (h : QS X st t) : QS X st (tJoin t) := ⟨fun pins s σ H D I ⟨Pv, h1, h2⟩ => thn (h.h pins s σ H _ I h1) fun fl s' q => by
  cases fl with
  | next =>
    obtain ⟨σ', H', I', q'⟩ := q
    exact ⟨σ', H', I', h2 _ _ q'⟩
  | _ => exact q⟩
end L2
namespace L2
open PySem PySem.Spec PyProof.Rows PySem.W
/-! ### an exception on its way leaves one more frame -/
section
variable {M : Model} {A : Around} {E : Value → Shared → Prop} {s : Shared} {base : Heap} {env : Env} {outer : List Env} {L e : Addr}
end
section
variable {P : Program} {w : World} {K : PySem.W.Frag} {mg : Str → Option Value} {base : Heap} {N : List Str} {qual : Str} {scope : Scope} {f : Addr} {cd : Value} {A : Around} {outer : List Env} {s : Shared} {H : Hp} {E : XK}
end
end L2
namespace L2
open PySem PySem.Spec PyProof.Rows PySem.W
/-! ### an own exception class, any depth under a built-in one, with an __init__ of its own -/
section
variable {prog : Program} {w : World} {A : Around} {E : Value → Shared → Prop} {h : Heap} {g : Array GenState} {d : Drawn} {t : Nat} {os : OsState}
variable {nm q : Str} {C N : Addr} {bs bm bmB : List Value} {hdct : Bool} {sn : List Str} {sub : List Value} {ab : Bool} {col : Option Bool} {dd : Option Addr} {k0 k1 k2 k3 k5 : Option Value} {B newId initId : String}
theorem type_call_initT (F : ExcBaseFacts B newId initId bmB) (T : OwnTail h bmB bm) {mN : Str → Option Value} {rest : List Value} {fI : Addr} {oI : Obj} {Q : PySem.Fin → Shared → Prop}
    (hC : h.get? C = some (excClassObj nm q C N bs bm hdct sn sub ab col dd k0 k1 k2 k3 k5 newId)) (hn : h.Ns N mN) (hi : mN "__init__" = some (.ref fI)) (hfI : h.get? fI = some oI) (hfc : oI.cls = .type "function")
    (hq : ∀ h' e, Heap.MadeExcOf h h' e (.ref C) rest → wpAny (model prog w) A (call (.ref fI) (.ref e :: rest)) (fun r s' => r = .none ∧ Q (.done (.ret (.ref e))) s') E ⟨h', g, d, t, os⟩) (hrest : rest.length ≤ sizeLine) :
    wpAny (model prog w) A (Builtin.«type.__call__» ⟨.ref C :: rest, []⟩) Q E ⟨h, g, d, t, os⟩ := by
  repeat (first | with_reducible refine wpAny_loadPart_at hC ?_ | with_reducible refine wpAny_madeBy_exc hC ?_ | wp_step)
  refine codeAny_call_builtin_code (Code.quiet_builtin _ F.quiet) (wpAny_check_new_subT F T hC ?_)
  refine codeAny_exc_new_subT F T hC ?_ hrest
  show wpAny _ _ _ _ _ _
  have kp : ∀ b o, h.get? b = some o → ((h.push { cls := .type "tuple", data := .seq rest.toArray }).push { cls := .ref C, data := .fields #[.ref h.objs.size, .none, .none, .none, .bool false, .none] }).get? b = some o :=
    fun b o e => Heap.get?_push_of_some _ (Heap.get?_push_of_some _ e)
  have hn₁ : ((h.push { cls := .type "tuple", data := .seq rest.toArray }).push { cls := .ref C, data := .fields #[.ref h.objs.size, .none, .none, .none, .bool false, .none] }).Ns N mN := hn.keeps kp
  have hget : ((h.push { cls := .type "tuple", data := .seq rest.toArray }).push { cls := .ref C, data := .fields #[.ref h.objs.size, .none, .none, .none, .bool false, .none] }).get? (h.objs.size + 1) =
      some { cls := .ref C, data := .fields #[.ref h.objs.size, .none, .none, .none, .bool false, .none] } := by heap_get
  have hcC : (Value.ref C :: bm).contains (.ref C) = true := by simp
  unfold isInstance
  repeat (first | with_reducible refine wpAny_loadPart_at hget ?_ | (with_reducible refine wpAny_isSubtype_exc (kp _ _ hC) ?_; rw [hcC]) | wp_step)
  show wpAny _ _ (typeLookup (.ref C) _) _ _ _
  refine wpAny_typeLookup_tail (kp _ _ hC) hn₁ (T.keeps kp) F.mroIs F.init.lookup ?_
  rw [hi]
  refine wpAny_holding (wpAny_bind ?_)
  unfold bindSpecial
  refine wpAny_bind (wpAny_typeOf (T := "function") ⟨_, kp _ _ hfI, hfc⟩ ?_)
  rw [if_pos (by decide)]
  refine wpAny_pure (wpAny_bind (wpAny_mono (hq _ (h.objs.size + 1) ⟨kp, Heap.get?_none_of_le (Nat.le_succ _), h.objs.size, hget, Heap.get?_none_of_le (Nat.le_refl _), ?_⟩) (fun r s' hr => ?_) fun _ _ x => x))
  · exact Heap.get?_push_of_some _ (Heap.get?_push_at rfl rfl)
  · obtain ⟨rfl, hQ⟩ := hr
    wp_walk
    exact hQ
theorem call_initT (F : ExcBaseFacts B newId initId bmB) (T : OwnTail h bmB bm) {mN : Str → Option Value} {rest : List Value} {fI : Addr} {oI : Obj} {Q : Value → Shared → Prop}
    (hC : h.get? C = some (excClassObj nm q C N bs bm hdct sn sub ab col dd k0 k1 k2 k3 k5 newId)) (hn : h.Ns N mN) (hi : mN "__init__" = some (.ref fI)) (hfI : h.get? fI = some oI) (hfc : oI.cls = .type "function")
    (hq : ∀ h' e, Heap.MadeExcOf h h' e (.ref C) rest → wpAny (model prog w) (A.under (.builtin "type.__call__" ⟨.ref C :: rest, []⟩)) (call (.ref fI) (.ref e :: rest)) (fun r s' => r = .none ∧ Q (.ref e) s') E ⟨h', g, d, t, os⟩) (hrest : rest.length ≤ sizeLine) :
    wpAny (model prog w) A (call (.ref C) rest) Q E ⟨h, g, d, t, os⟩ := by
  have f1 := tc_lookup
  have f2 := tc_bind (.ref C)
  have hT : (⟨h, g, d, t, os⟩ : Shared).TypeIs (.ref C) "type" := ⟨_, hC, rfl⟩
  refine wpAny_call (codeAny_of_tree ?_)
  show wpAny _ _ (callAny (.ref C) _) _ _ _
  repeat (any_goals (first | assumption | with_reducible refine wpAny_loadPart_at hC ?_ | wp_step))
  refine ⟨rfl, ?_⟩
  exact codeAny_call_builtin_at (Code.quiet_builtin _ (by decide +kernel)) entry_typeCall (wpAny_check_type_call_sub hC (type_call_initT F T hC hn hi hfI hfc (fun h' e hm => hq h' e hm) hrest))
end
section
variable {M : Model} {A : Around} {E : Value → Shared → Prop} {env : Env} {K : PySem.W.Frag}
theorem raise_obj {C : Addr} {bm : List Value} {s : Shared} {x : Sem Value} {Q : Flow → Shared → Prop} (hC : ExC K C bm) (hh : A.handled = none)
    (h : wpAny M A x (fun v s₁ => ∃ e oe, v = .ref e ∧ K.In s₁.heap ∧ s₁.heap.get? e = some oe ∧ oe.cls = .ref C ∧ (∃ t, oe.data = .fields #[.ref t, .none, .none, .none, .bool false, .none]) ∧ E (.ref e) s₁) E s) : wpAny M A (raiseStmt env (some x) none) Q E s := by
  have hcB : (Value.ref C :: bm).contains (.type "BaseException") = true := by rw [List.contains_cons, hC.exc, Bool.or_true]
  unfold raiseStmt
  refine wpAny_bind (wpAny_mono h (fun v s₁ h₁ => ?_) fun _ _ x => x)
  obtain ⟨e, oe, rfl, hk, he, hcl, ⟨vs, hd⟩, hE⟩ := h₁
  obtain ⟨nm, q, N, bs, hdct, sn, sub, ab, col, dd, k0, k1, k2, k3, k5, ni, oC⟩ := hC.cls _ hk
  obtain ⟨hp, g, d, tk, os⟩ := s₁
  obtain ⟨oc, od, odt, osl⟩ := oe
  cases hcl
  cases hd
  repeat (first | with_reducible refine wpAny_loadPart_at he ?_ | with_reducible refine wpAny_loadPart_at oC ?_ | (with_reducible refine wpAny_isSubtype_exc oC ?_; rw [hcB]) | wp_step)
  exact wpAny_raiseNew_none hh hE
end
end L2
namespace L2
open PySem PySem.Spec PyProof.Rows PySem.W PySem.Builtin PySem.Builtin.ObjectAttr
/-! ### an attribute is stored on an exception that has no dict yet -/
theorem refuse_VE (self : Value) : refuseLoop self "__setattr__" VE = pure () := by kernel_rfl
def overVE : List Value → Bool
  | .ref _ :: r => overVE r
  | l => l == VE
theorem refuse_over (self : Value) : ∀ {l : List Value}, overVE l = true → refuseLoop self "__setattr__" l = pure ()
  | .ref c :: r, e => by rw [refuseLoop_ref]; exact refuse_over self e
  | [], e => nomatch e
  | .type n :: r, e => by rw [show (Value.type n :: r) = VE from beq_iff_eq.mp e]; exact refuse_VE self
  | .none :: r, e => by have := (beq_iff_eq (α := List Value)).mp e; cases this
  | .bool b :: r, e => by have := (beq_iff_eq (α := List Value)).mp e; cases this
  | .int b t :: r, e => by have := (beq_iff_eq (α := List Value)).mp e; cases this
  | .str b t :: r, e => by have := (beq_iff_eq (α := List Value)).mp e; cases this
  | .bytes b t :: r, e => by have := (beq_iff_eq (α := List Value)).mp e; cases this
  | .float b t :: r, e => by have := (beq_iff_eq (α := List Value)).mp e; cases this
  | .builtin b :: r, e => by have := (beq_iff_eq (α := List Value)).mp e; cases this
  | .ellipsis :: r, e => by have := (beq_iff_eq (α := List Value)).mp e; cases this
  | .notImplemented :: r, e => by have := (beq_iff_eq (α := List Value)).mp e; cases this
/-- what is asked of an own exception class whose __init__ stores something -/
structure ExS (K : PySem.W.Frag) (c : Addr) : Prop where
  sa : findIn K (.ref c) "__setattr__" = some (some (.builtin "object.__setattr__"))
  ov : ((clsIn K c).any fun cd => overVE cd.mro && cd.hasDict) = true
  ob : mroIn K c (.type "object") = some true
section
variable {prog : Program} {w : World} {K : PySem.W.Frag} {A : Around} {R : Result → Shared → Prop} {s : Shared} {x C : Addr}
theorem osa_exc {ox : Obj} {od : Option Obj} {name : Str} {tk : Tok} {v : Value} (X : K.In s.heap) (I : InstAt s.heap x ox C od) (S : ExS K C) (hn : findIn K (.ref C) name = some none)
    (h : wpAny (model prog w) A.in1 (storeInOwnDict (.ref x) (.ref C) (.str name tk) name v false)
      (fun fin s' => match fin with | .done f => R (.ok f) s' | .again c' => c'.quiet = true ∧ codeAny (model prog w) A c' R s') (fun e s' => R (.error e) s') s) :
    codeAny (model prog w) A (.call (.builtin "object.__setattr__") ⟨[.ref x, .str name tk, v], []⟩) R s := by
  have SF := PySem.F.store_object
  obtain ⟨cd, hc, ho⟩ := any_some S.ov
  rw [Bool.and_eq_true] at ho
  have sub : Looks (model prog w) s.heap (isInstance (.ref x) (.type "object")) true := I.type.andThen (looks_mroIn X S.ob)
  refine codeAny_call_builtin SF.slot.plain SF.entry (@check_slot (model prog w) _ _ s "object.__setattr__" "object" "__setattr__" (.ref x) [.str name tk, v] [] _ SF.kind SF.split sub (SF.args (.ref x) (.str name tk) v) ?_)
  have hm : Looks (model prog w) s.heap (mroOf (.ref C)) cd.mro := (looks_clsIn X hc).andThen .now
  rw [osa_eq, refuse_eq]
  refine wpAny_bind (wpAny_bind (I.type.here (wpAny_bind (hm.here ?_))))
  rw [refuse_over _ ho.1]
  refine wpAny_pure (wpAny_bind (I.type.here (wpAny_bind ((looks_findIn X hn).here (wpAny_bind (Looks.now.here ?_))))))
  exact h
end
/-! ### a new exception as a thing of the abstract heap: its args at t, its dict -/
def exN (ea c t : Addr) (dc : Option Addr) : HO := .ext fun h => h.get? ea = some { cls := .ref c, dict := dc, data := .fields #[.ref t, .none, .none, .none, .bool false, .none] }
theorem exN_ok {P : Program} {w : World} {H : Hp} {h : Heap} {ea c t : Addr} {dc : Option Addr} (e : h.get? ea = some { cls := .ref c, dict := dc, data := .fields #[.ref t, .none, .none, .none, .bool false, .none] }) : ObjOk P w H h ea (exN ea c t dc) :=
  ⟨e, ⟨_, e⟩, fun _ _ p k => k _ p⟩
section
variable {X : Cx} {pins : List (Addr × Obj)} {σ : St} {H : Hp} {s : Shared} {a c t : Addr} {f : Str} {y : V} {u : Value} {A : Around} {E : Value → Shared → Prop}
theorem setE_ok {Q : Unit → Shared → Prop} (I : Inv X pins σ H s) (e : H a = some (exN a c t none)) (S : ExS X.K c) (n : NoAttr X.K c f) (ry : RelV y u)
    (h : ∀ d s', H d = none → Inv X pins σ (upd (upd H d (.xd [(f, y)])) a (exN a c t (some d))) s' → Q () s') : wpAny (model X.prog X.w) A (setAttr (.ref a) f u) Q E s := by
  have hx : s.heap.get? a = some { cls := .ref c, dict := none, data := .fields #[.ref t, .none, .none, .none, .bool false, .none] } := (show ObjOk X.prog X.w H s.heap a (exN a c t none) from I.hok a _ e).1
  have J : InstAt s.heap a { cls := .ref c, dict := none, data := .fields #[.ref t, .none, .none, .none, .bool false, .none] } c none := ⟨hx, rfl, rfl, True.intro⟩
  obtain ⟨cd, hc, ho⟩ := any_some S.ov
  rw [Bool.and_eq_true] at ho
  refine PySem.W.set_plain I.kIn J S.sa (osa_exc (s := { s with toks := s.toks + 1 }) I.kIn J S n ?_)
  refine wpAny_bind (wpAny_pure (wpAny_bind (wpAny_bind (wpAny_loadPart hx (wpAny_bind (PySem.W.Looks.here (s := { s with toks := s.toks + 1 }) (PySem.W.looks_clsIn I.kIn hc) ?_))))))
  rw [ho.2]
  have hxs : a ≠ s.heap.objs.size := Nat.ne_of_lt (Heap.lt_size hx)
  have hx1 : (s.heap.push { cls := .type "dict", data := .dict #[] }).get? a = some { cls := .ref c, dict := none, data := .fields #[.ref t, .none, .none, .none, .bool false, .none] } := Heap.get?_push_of_some _ hx
  show wpAny _ _ (alloc { cls := .type "dict", data := .dict #[] } >>= fun d => update a (fun o => { cls := o.cls, dict := some d, data := o.data, slots := o.slots }) >>= fun _ => dictMade (.ref c) a d) _ _ _
  refine wpAny_bind (wpAny_alloc' ?_)
  refine wpAny_bind (wpAny_update' hx1 ?_)
  refine wpAny_pure ?_
  have hgd : ((s.heap.push { cls := .type "dict", data := .dict #[] }).update a fun o => { cls := o.cls, dict := some s.heap.objs.size, data := o.data, slots := o.slots }).get? s.heap.objs.size = some { cls := .type "dict", data := .dict #[] } :=
    (Heap.get?_update_ne _ _ _ _ hxs.symm).trans (Heap.get?_push_at rfl rfl)
  have hnd : ((s.heap.push { cls := .type "dict", data := .dict #[] }).update a fun o => { cls := o.cls, dict := some s.heap.objs.size, data := o.data, slots := o.slots }).Ns s.heap.objs.size (fun _ => none) :=
    ⟨_, #[], _, hgd, rfl, fun e he => absurd he (by simp), fun _ => rfl⟩
  refine wpAny_bind (wpAny_pure (wpAny_bind (wpAny_nsSet1 (Heap.Ns1.of_empty hnd) fun h' hn' hs => ?_)))
  obtain ⟨oD, esD, epD, hoD, hdD, hcD⟩ := hn'.count (Within.cons f u Within.nil)
  refine wpAny_bind (wpAny_lookBehind hoD (by rw [hdD]; exact pastItsLine_dict (Nat.le_trans hcD (by rw [List.length_cons, List.length_nil, sizeLine_eq]; omega))) ?_)
  have hx' : h'.get? a = some { cls := .ref c, dict := some s.heap.objs.size, data := .fields #[.ref t, .none, .none, .none, .bool false, .none] } := (hs.2 a hxs).trans (Heap.get?_update_self _ hx1 rfl)
  have kp : ∀ b o, b ≠ a → s.heap.get? b = some o → h'.get? b = some o := fun b o hb q => (hs.2 b (Nat.ne_of_lt (Heap.lt_size q))).trans ((Heap.get?_update_ne _ _ _ _ hb).trans (Heap.get?_push_of_some _ q))
  have hd0 : H s.heap.objs.size = none := I.hok.fresh (Nat.le_refl _)
  have nd : ∀ b o, s.heap.get? b = some o → b ≠ s.heap.objs.size := fun b o q => Nat.ne_of_lt (Heap.lt_size q)
  have ne1 : ∀ b v, H b = some v → v ≠ exN a c t none → b ≠ a := fun b v q hv z => by
    rw [z, e] at q
    exact hv (Option.some.inj q).symm
  have ne2 : ∀ b v, H b = some v → b ≠ s.heap.objs.size := fun b v q => ne_of_none q hd0
  have un : Un X.fs [] H (upd (upd H s.heap.objs.size (.xd [(f, y)])) a (exN a c t (some s.heap.objs.size))) s.heap h' := by
    refine ⟨fun b o q m _ _ => kp b o (fun z => by rw [z, e] at m; cases m) q, fun b o q m _ _ => ⟨o.slots, kp b o (fun z => by rw [z, e] at m; cases m) q⟩, fun b o q m _ => ?_, fun b o q _ => ?_, fun b xs q => ?_, fun b o v q => ?_, fun b ps q => ⟨#[], ?_⟩⟩
    · rw [upd_ne (fun z => by rw [z, e] at m; cases m), upd_ne (nd b o q)]
      exact m
    · by_cases hb : b = a
      · exact ⟨_, hb ▸ hx'⟩
      · exact ⟨o, kp b o hb q⟩
    · rw [upd_ne (ne1 _ _ q (by intro z; cases z)), upd_ne (ne2 _ _ q)]
      exact q
    · rw [upd_ne (ne1 _ _ q (by intro z; cases z)), upd_ne (ne2 _ _ q)]
      exact q
    · rw [upd_ne (ne1 _ _ q (by intro z; cases z)), upd_ne (ne2 _ _ q), q]
      simp
  have hok : HOk X.prog X.w (upd (upd H s.heap.objs.size (.xd [(f, y)])) a (exN a c t (some s.heap.objs.size))) h' := fun b v q => by
    by_cases hb : b = a
    · subst hb
      rw [upd_same] at q
      cases q
      exact exN_ok hx'
    · rw [upd_ne hb] at q
      by_cases hbd : b = s.heap.objs.size
      · subst hbd
        rw [upd_same] at q
        cases q
        refine ⟨_, hn', fun g => ?_⟩
        by_cases hg : g = f
        · subst hg
          rw [if_pos rfl]
          show RelO ([(g, y)].lookup g) (some u)
          rw [List.lookup_cons, show (g == g) = true by simp]
          exact ry
        · rw [if_neg hg]
          show RelO ([(f, y)].lookup g) none
          rw [List.lookup_cons, show (g == f) = false by simpa using hg]
          exact True.intro
      · rw [upd_ne hbd] at q
        refine (I.hok b v q).stay (fun b' v' hb' q' => kp b' v' ?_ q') (fun b' q' => ?_) fun b' xs q' => ?_
        · rcases hb' with rfl | z
          · exact hb
          · exact ne1 _ _ z (by intro z; cases z)
        · rw [upd_ne (ne1 _ _ q' (by intro z; cases z)), upd_ne (ne2 _ _ q')]
          exact q'
        · rw [upd_ne (ne1 _ _ q' (by intro z; cases z)), upd_ne (ne2 _ _ q')]
          exact q'
  exact wpAny_pure (h _ _ hd0 (I.un un hok))
end
/-- o.f = e, o a new exception without a dict -/
def sFldE (K : PySem.W.Frag) (ta tv : TE) (f : Str) : TS := fun D σ H => tv σ H fun y H1 => ta σ H1 fun x H2 => ∃ a c t, x = .ref a ∧ H2 a = some (exN a c t none) ∧ ExS K c ∧ NoAttr K c f ∧ ∀ d, H2 d = none →
  D.nx σ (upd (upd H2 d (.xd [(f, y)])) a (exN a c t (some d)))
theorem s_fldE {X : Cx} {o value : Expr} {f : Str} {pos pos' : Pos} {ta tv : TE} (ha : QE X o ta) (hv : QE X value tv) (hs : swapsWith value (some (.Attribute o f pos')) pos.line X.env = pure false := by rfl) : QS X (.Assign [.Attribute o f pos'] value pos) (sFldE X.K ta tv f) := by
  refine ⟨?_⟩
  intro pins s σ H D I h
  refine plainObj_wpAny_Assign_Attribute (thn (hv.h pins s σ H _ I h) fun u s1 ⟨y, H1, I1, ry, q⟩ => thn (ha.h pins s1 σ H1 _ I1 q) fun ov s2 ⟨x, H2, I2, rx, a, c, t, ex, ea, S, n, q2⟩ => ?_) hs
  subst ex
  obtain rfl : ov = Value.ref a := rx
  exact setE_ok I2 ea S n ry fun d s3 hd I3 => ⟨σ, _, I3, q2 d hd⟩
end L2
namespace L2
open PySem PySem.Spec PyProof.Rows PySem.W
def del (H : Hp) (a : Addr) : Hp := fun b => if b = a then none else H b
theorem del_same {H : Hp} {a : Addr} : del H a a = none := by unfold del; rw [if_pos rfl]
theorem del_ne {H : Hp} {a b : Addr} (h : b ≠ a) : del H a b = H b := by unfold del; rw [if_neg h]
theorem of_del {H : Hp} {a b : Addr} {u : HO} (h : del H a b = some u) : b ≠ a ∧ H b = some u := by
  by_cases c : b = a
  · rw [c, del_same] at h
    cases h
  · rw [del_ne c] at h
    exact ⟨c, h⟩
section
variable {M : Model} {A : Around} {E : Value → Shared → Prop} {s : Shared} {base : Heap} {env : Env} {outer : List Env} {L e : Addr}
end
section
variable {P : Program} {w : World} {K : PySem.W.Frag} {mg : Str → Option Value} {base : Heap} {N : List Str} {qual : Str} {scope : Scope} {f : Addr} {cd : Value} {A : Around} {outer : List Env} {s : Shared} {H : Hp} {E : XK}
end
end L2
namespace L2
open PySem PySem.Spec PyProof.Rows PySem.W
/-! ### an own exception class with an __init__ of its own, as K has it -/
def excInI (K : PySem.W.Frag) (C fI : Addr) : Bool := match K.lookup C with
  | some ⟨.type "type", _, .cls cd, sl⟩ => (match cd.mro, sl.toList with
    | .ref C' :: bm, [_, _, _, _, some (.builtin n), _] => C' == C && n == "ValueError.__new__" && !cd.hasDel && tailIn K VE bm && nsOkIn K cd.ns && nsIn K cd.ns "__init__" == some (some (.ref fI))
    | _, _ => false)
  | _ => false
theorem ns_some_of {K : PySem.W.Frag} {h : Heap} {N : Addr} {m : Str → Option Value} {n : Str} {v : Value} (X : K.In h) (G : h.Ns N m) (e : nsIn K N n = some (some v)) : m n = some v := by
  obtain ⟨o, es, ep, ho, hd, _, hf⟩ := G
  unfold nsIn at e
  split at e
  · rename_i c d es' n' sl q
    have := X _ _ q
    rw [ho] at this
    cases this
    cases hd
    split at e
    · rename_i en he
      cases e
      rw [← hf]
      unfold nsFind findBy
      rw [← Array.find?_toList, he]
      rfl
    · split at e <;> cases e
  · cases e
structure ExcAtI (K : PySem.W.Frag) (C fI : Addr) (bm : List Value) : Prop where
  isIn : excInI K C fI = true
  mro : ∃ c d cd sl, K.lookup C = some ⟨c, d, .cls cd, sl⟩ ∧ cd.mro = Value.ref C :: bm
  exc : bm.contains (.type "BaseException") = true
  fn : ∃ oI, K.lookup fI = some oI ∧ oI.cls = .type "function"
theorem exc_shapeI {K : PySem.W.Frag} {C fI : Addr} {bm : List Value} (q : ExcAtI K C fI bm) {h : Heap} (X : K.In h) :
    ∃ nm qn N bs hdct sn sub ab col dd k0 k1 k2 k3 k5 mN, h.get? C = some (excClassObj nm qn C N bs bm hdct sn sub ab col dd k0 k1 k2 k3 k5 "ValueError.__new__") ∧ h.Ns N mN ∧ mN "__init__" = some (.ref fI) ∧ OwnTail h VE bm := by
  have q1 := q.isIn
  obtain ⟨c9, d9, cd9, sl9, l9, m9⟩ := q.mro
  unfold excInI at q1
  split at q1
  · rename_i dd cd sl ho
    split at q1
    · rename_i C' bm' k0 k1 k2 k3 n k5 hm hs
      have q2 : cd.mro = Value.ref C :: bm := by
        have z := ho.symm.trans l9
        cases z
        exact m9
      rw [hm] at q2
      injection q2 with z1 z2
      injection z1 with z1
      cases z1
      cases z2
      simp only [Bool.and_eq_true, beq_iff_eq, Bool.not_eq_true'] at q1
      obtain ⟨⟨⟨⟨⟨_, rfl⟩, nd⟩, ht⟩, ok⟩, ni⟩ := q1
      have es : sl = #[k0, k1, k2, k3, some (.builtin "ValueError.__new__"), k5] := by
        obtain ⟨l⟩ := sl
        simp only at hs
        rw [hs]
      cases es
      obtain ⟨nm, bs, mro, ns, qn, hd, sn, sub, ab, col, del⟩ := cd
      dsimp only at hm nd ok ni
      cases hm
      cases nd
      have G : h.Ns ns _ := .of_isNs (isNs_of_in X ok)
      exact ⟨nm, qn, ns, bs, hd, sn, sub, ab, col, dd, k0, k1, k2, k3, k5, _, X _ _ ho, G, ns_some_of X G ni, tail_of_in X ht⟩
    · cases q1
  · cases q1
theorem exC_ofI {K : PySem.W.Frag} {C fI : Addr} {bm : List Value} (q : ExcAtI K C fI bm) : ExC K C bm where
  cls := fun h X => by
    obtain ⟨nm, qn, N, bs, hdct, sn, sub, ab, col, dd, k0, k1, k2, k3, k5, mN, e, _⟩ := exc_shapeI q X
    exact ⟨nm, qn, N, bs, hdct, sn, sub, ab, col, dd, k0, k1, k2, k3, k5, _, e⟩
  exc := q.exc
/-! ### raise C(..), C with an __init__ of its own that never raises -/
structure ExI (P : Program) (w : World) (K : PySem.W.Frag) (mg : Str → Option Value) (base : Heap) (k : Nat) (C : Addr) (bm : List Value) (ps : List Str) (sp : Sp) : Prop where
  ex : ∃ fI fd, ExcAtI K C fI bm ∧ FnOk P w K mg base CX0 k fI fd ps sp ∧ Binds K fd ps []
section
variable {X : Cx} {pins : List (Addr × Obj)} {σ : St} {H : Hp} {s : Shared}
/-- a new exception is tracked -/
theorem Inv.excMade {h' : Heap} {e c t : Addr} (I : Inv X pins σ H s) (kp : ∀ b o, s.heap.get? b = some o → h'.get? b = some o) (hn : s.heap.get? e = none) (he : h'.get? e = some { cls := .ref c, data := .fields #[.ref t, .none, .none, .none, .bool false, .none] }) :
    H e = none ∧ Inv X pins σ (upd H e (exN e c t none)) { s with heap := h' } := by
  have h0 : H e = none := by
    cases q : H e with
    | none => rfl
    | some u =>
      obtain ⟨o, z⟩ := obj_some (I.hok e u q)
      rw [hn] at z
      cases z
  have nb : ∀ b o, s.heap.get? b = some o → b ≠ e := fun b o q z => by
    rw [z, hn] at q
    cases q
  refine ⟨h0, I.un (t' := s.toks) ⟨fun b o q _ _ _ => kp b o q, fun b o q _ _ _ => ⟨o.slots, kp b o q⟩, fun b o q m _ => by rw [upd_ne (nb b o q)]; exact m, fun b o q _ => ⟨o, kp b o q⟩, fun b xs q => by rw [upd_ne (ne_of_none q h0)]; exact q, fun b o v q => by rw [upd_ne (ne_of_none q h0)]; exact q, fun b ps q => ⟨#[], by rw [upd_ne (ne_of_none q h0), q]; simp⟩⟩ fun b u q => ?_⟩
  by_cases hb : b = e
  · subst hb
    rw [upd_same] at q
    cases q
    exact exN_ok he
  · rw [upd_ne hb] at q
    exact (I.hok b u q).stay (fun b' v _ q' => kp b' v q') (fun b' z => by rw [upd_ne (ne_of_none z h0)]; exact z) fun b' xs z => by rw [upd_ne (ne_of_none z h0)]; exact z
end
section
variable {X : Cx} {EC : Value → Option Addr → Hp → Prop} {C : Addr} {bm : List Value} {k : Nat} {ps : List Str} {sp : Sp} {x : Str} {np cpos pos : Pos} {e : Expr} {es : List Expr} {ta : TA}
def tRaiseI (sp : Sp) (C : Addr) (EC : Value → Option Addr → Hp → Prop) (ta : TA) : TS := fun _ σ H => ta σ H fun vs H1 => vs.length ≤ sizeLine ∧ ∀ ea t, H1 ea = none → H1 t = none → t ≠ ea →
  sp (.ref ea :: vs) (upd H1 ea (exN ea C t none)) (fun v H2 => v = .non ∧ ∃ dc, H2 ea = some (exN ea C t dc) ∧ EC (.ref C) dc (del H2 ea)) E0
end
end L2
namespace L2
open PySem PySem.Spec PyProof.Rows PySem.W
/-! ### methods and defs that raise: called in a def that lets it pass, or in a try -/
structure MFnX (P : Program) (w : World) (K : PySem.W.Frag) (mg : Str → Option Value) (base : Heap) (k : Nat) (C : Addr) (m : Str) (ps : List Str) (sp : Sp) : Prop where
  cl : Cls K C
  ex : ∃ f fd, FnOk P w K mg base (CXr P w) k f fd ps sp ∧ Meth K C m f ∧ Binds K fd ps []
section
variable {X : Cx} {k : Nat} {C : Addr} {m x : Str} {p pos apos : Pos} {o e : Expr} {es : List Expr} {ps : List Str} {sp : Sp} {t : TA} {ta : TE} {E : XK}
theorem q_methX {pl : Sem Bool} (F : MFnX X.prog X.w X.K X.mg X.base k C m ps sp) (hx : Passes (CXr X.prog X.w) X E) (hr : Room k X.A) (he : QE X o ta) (ha : QA X (e :: es) t) (hs : (e :: es).all noStar = true := by rfl)
    (ht : eval (.Call (.Attribute o m apos) (e :: es) [] pos) X.env = (do
      let ov ← eval o X.env
      standAt apos.atName
      let (f, first) ← holding [ov] (getMethod ov m pl)
      callWith pos f first (backTo pos (starEach (e :: es) X.env)) (backToKw pos (keywordEach [] X.env))) := by rfl) :
    QE X (.Call (.Attribute o m apos) (e :: es) [] pos) (tMeth C m sp [] E ta t) := by
  obtain ⟨f, fd, G, hm, b⟩ := F.ex
  rw [List.all_cons, Bool.and_eq_true] at hs
  exact ⟨pe_meth (pl := pl) he.h F.cl hm G hr b .nil hx ha.h (star_cons hs.1) (plain_back hs.2) ht⟩
def tMethX (C : Addr) (m : Str) (sp : Sp) (ta : TE) (t : TA) : TX := fun σ H Q E => ta σ H fun x H1 => ∃ a dx fs, x = .ref a ∧ H1 a = some (.ins C dx fs) ∧ fs.lookup m = none ∧ t σ H1 fun vs H2 => sp (x :: vs) H2 Q E
theorem x_meth {pl : Sem Bool} (F : MFnX X.prog X.w X.K X.mg X.base k C m ps sp) (hr : Room k X.A) (he : QE X.nox o ta) (ha : QA X.nox (e :: es) t) (hs : (e :: es).all noStar = true := by rfl)
    (ht : eval (.Call (.Attribute o m apos) (e :: es) [] pos) X.env = (do
      let ov ← eval o X.env
      standAt apos.atName
      let (f, first) ← holding [ov] (getMethod ov m pl)
      callWith pos f first (backTo pos (starEach (e :: es) X.env)) (backToKw pos (keywordEach [] X.env))) := by rfl) :
    QX X (.Call (.Attribute o m apos) (e :: es) [] pos) (tMethX C m sp ta t) := by
  refine ⟨?_⟩
  intro pins s σ H Q E I h
  obtain ⟨f, fd, G, hm, b⟩ := F.ex
  rw [List.all_cons, Bool.and_eq_true] at hs
  refine PySem.W.methodCall_KW (pl := pl) (wpAny_mono (he.h pins s σ H _ (I.wish _) h) (fun u s1 ⟨y, H1, I1, rx, a, dx, fs, ex, ea, l, q⟩ => ?_) fun _ _ z => False.elim z) ht
  subst ex
  obtain rfl : u = Value.ref a := rx
  have I1' := I1.unwish
  refine getmeth_ok I1' ea F.cl hm l ?_
  refine PySem.W.callWith_K (first := [.ref a]) (h₀ := X.base) I.ok.mod.kin hm.kp (wpAny_mono (ha.h pos pins s1 σ H1 _ I1 q) (fun us s2 ⟨vs, H2, I2, r, q2⟩ => ⟨I2.kIn, ?_⟩) fun _ _ z => False.elim z) (star_cons hs.1) (plain_back hs.2)
  have I3 := I2.unwish
  have hb := b s2 (.ref a :: us) I3.kIn (by rw [List.append_nil, ← G.len _ _ _ _ q2, List.length_cons, List.length_cons, r.length])
  rw [List.append_nil] at hb
  refine wpAny_call (codeAny_mono (G.run X.A X.stack s2 H2 ⟨.ref a :: us, []⟩ (.ref a :: us) (.ref a :: vs) Q E hr I3.env0 hb (.cons rfl r) q2) fun r s' hq => ?_)
  cases r with
  | error e => exact ⟨s2, H2, I3, hq⟩
  | ok fl =>
    cases fl with
    | ret u => exact I3.after hq
    | next => exact False.elim hq
    | brk => exact False.elim hq
    | cont => exact False.elim hq
end
/-! ### handlers without a name, several of them -/
section
variable {X : Cx}
theorem h_end : QH X [] (fun _ _ _ _ _ => False) := ⟨fun _ _ _ _ _ _ _ _ _ _ _ _ _ _ _ _ h => h.elim⟩
def tNoAs (K : PySem.W.Frag) (Ch : Addr) (ts : TS) (th : TH) : TH := fun D σ C dc H' => ∃ c bm, C = .ref c ∧ ExC K c bm ∧ if (Value.ref c :: bm).contains (.ref Ch) = true then ts D σ H' else th D σ C dc H'
theorem h_no {x : Str} {Ch : Addr} {bmh : List Value} {b0 : Stmt} {suite : List Stmt} {ts : TS} {np pos : Pos} {rest : List ExceptHandler} {th : TH} (cl : ExC X.K Ch bmh) (hm : X.mg x = some (.ref Ch)) (hs : ∀ e, QB (X.exc e) (b0 :: suite) ts) (hrest : QH X rest th)
    (hg : Gl X x := by rfl) (hdb : (x == ("__debug__" : Str)) = false := by decide) : QH X (.ExceptHandler (some (.Name x np)) none (b0 :: suite) pos :: rest) (tNoAs X.K Ch ts th) := by
  refine ⟨?_⟩
  rintro pins s0 H0 σ D ea t C B H' dc s' I0 F fly hd ⟨c, bm, rfl, ec, q⟩
  have I := F.inv I0
  refine wpAny_handleBy_cons (codeAny_handlers_test ?_) (by intro z; cases z)
  refine ld_glob (X := X.exc (.ref ea)) (I.exc _) hg hm ?_ hdb
  obtain ⟨oe, he, hcl⟩ := fly.there
  refine exc_matches ec cl I.kIn he hcl ?_
  cases hc : (Value.ref c :: bm).contains (.ref Ch) with
  | true =>
    rw [hc, if_pos rfl] at q
    refine codeAny_handlers_suite ?_
    obtain ⟨f1, f2, f3, f4⟩ := fly
    refine flight_off f1 f3 f4.at hd fun h6 k1 k2 k3 up6 hd6 => ?_
    have F6 := F.move (tk := s'.toks) I0 k1 up6
    refine wpAny_mono ((hs (.ref ea)).h pins _ _ _ _ ((F6.inv I0).exc _) q) (fun f s8 sp => ?_) (fun _ _ z => False.elim z)
    cases f with
    | next =>
      obtain ⟨σ2, H2, I8, q8⟩ := sp
      exact ⟨_, H2, I8.unexc I0.ok, q8⟩
    | brk =>
      obtain ⟨σ2, H2, I8, q8⟩ := sp
      exact ⟨_, H2, I8.unexc I0.ok, q8⟩
    | cont =>
      obtain ⟨σ2, H2, I8, q8⟩ := sp
      exact ⟨_, H2, I8.unexc I0.ok, q8⟩
    | ret u =>
      obtain ⟨v, σ2, H2, I8, r8, q8⟩ := sp
      exact ⟨v, _, H2, I8.unexc I0.ok, r8, q8⟩
  | false =>
    rw [hc, if_neg Bool.false_ne_true] at q
    exact hrest.h pins s0 H0 σ D ea t _ B H' dc _ I0 F fly hd q
end
/-! ### a caught exception with what its dict holds -/
section
variable {X : Cx}
end
end L2
namespace L2
open PySem PySem.Spec PyProof.Rows PySem.W
/-! ### isinstance of a caught exception whatever its dict is; what it holds, read -/
section
variable {K : PySem.W.Frag} {prog : Program} {w : World} {A : Around} {E : Value → Shared → Prop} {h : Heap} {g : Array GenState} {d : Drawn} {t : Nat} {os : OsState} {x D : Addr} {ox : Obj} {od : Option Obj}
end
section
variable {X : Cx} {pins : List (Addr × Obj)} {σ : St} {H : Hp} {s : Shared}
end
end L2
namespace L2
open PySem PySem.Spec PyProof.Rows PySem.W
/-! ### an exception aloft in a frame: not flown yet, flying, or held there -/
def Station (X : Cx) (B : Heap) (ea : Addr) (C : Value) (t : Addr) (h : Heap) : Prop :=
  (B.StaysIn h ∧ B.get? ea = none ∧ h.FunFrames B X.stack ∧ ∃ oe, h.get? ea = some oe ∧ oe.cls = C ∧ oe.data = .fields #[.ref t, .none, .none, .none, .bool false, .none]) ∨
  Heap.FlyingW B X.stack ea C (.ref t) h ∨ Heap.HeldW B X.stack ea C (.ref t) X.env.locals h
def Aloft (X : Cx) (E : XK) (ea : Addr) (s' : Shared) : Prop := ∃ (pins : List (Addr × Obj)) (σ : St) (H0 H' : Hp) (s0 : Shared) (B : Heap) (t : Addr) (C : Value) (vs : List Value) (dc : Option Addr),
  Inv X pins σ H0 s0 ∧ Fl X H0 H' s0 s' B ∧ Station X B ea C t s'.heap ∧ s'.heap.TupAt t vs ∧ B.get? t = none ∧ DictIs s'.heap ea dc ∧ E C dc H'
section
variable {M : Model} {A : Around} {E : Value → Shared → Prop} {s : Shared} {base : Heap} {l : List Env} {L e : Addr}
theorem flight_on {cls a0 fl : Value} {dc : Option Addr} {Q : Unit → Shared → Prop} (kb : base.StaysIn s.heap) (ff : s.heap.FunFrames base l) (tr : s.heap.TracedAtW base e cls a0 fl) (dd : DictIs s.heap e dc)
    (k : ∀ h', base.StaysIn h' → h'.FunFrames base l → h'.TracedAtW base e cls a0 (rawInt L) → s.heap.UpToSlots h' → DictIs h' e dc → Q () { s with heap := h' }) : wpAny M A (setFlight (.ref e) (some L)) Q E s := by
  obtain ⟨oe, vs, T, oT, ts, he, hc, dt, v1, nT, ne, hT, dT, t3⟩ := tr
  have z3 : 3 < ts.size := (Array.getElem?_eq_some_iff.mp t3).1
  have oth : ∀ b, b ≠ T → (s.heap.update T (Obj.mapFields (·.setIfInBounds 3 ((some L : Option Addr).elim Value.none fun f => rawInt f)))).get? b = s.heap.get? b := fun b n => Heap.get?_update_other _ _ (Ne.symm n)
  have nrec : ∀ b o, s.heap.get? b = some o → (∀ ws, o.data ≠ .fields ws) → b ≠ T := fun b o q hn z => by
    subst z
    cases Option.some.inj (hT.symm.trans q)
    exact hn ts dT
  unfold setFlight
  refine wpAny_bind (wpAny_field he dt v1 ?_)
  rw [if_pos (by simp : (Value.ref T != Value.none) = true)]
  refine wpAny_setField hT dT z3 (k _ (fun b o q => (oth b fun z => nomatch ((z ▸ q).symm.trans nT)).trans (kb b o q)) (ff.of_keeps fun b o q hn => ⟨o, (oth b (nrec b o q hn)).trans q, rfl⟩) ?_ (fun b o q hn => ⟨o.slots, (oth b (nrec b o q hn)).trans q⟩) ?_)
  · exact ⟨oe, vs, T, _, _, (oth e (Ne.symm ne)).trans he, hc, dt, v1, nT, ne, Heap.get?_update_self _ hT (Obj.isFreed_of_fields (Obj.data_mapFields dT _)), Obj.data_mapFields dT _, by simp [z3]⟩
  · obtain ⟨o, q, d⟩ := dd
    exact ⟨o, (oth e (Ne.symm ne)).trans q, d⟩
end
section
variable {X : Cx} {E : XK} {ea : Addr} {s' : Shared} {EE : Value → Shared → Prop}
/-- the frame notes it: it is held there -/
theorem aloft_note {Q : Unit → Shared → Prop} (hst : X.stack = X.env :: X.outer) (hfr : X.env.frame = some X.env.locals) (x : Aloft X E ea s') (k : ∀ h', (∃ (pins : List (Addr × Obj)) (σ : St) (H0 H' : Hp) (s0 : Shared) (B : Heap) (t : Addr) (C : Value) (vs : List Value) (dc : Option Addr),
      Inv X pins σ H0 s0 ∧ Fl X H0 H' s0 { s' with heap := h' } B ∧ Heap.HeldW B X.stack ea C (.ref t) X.env.locals h' ∧ h'.TupAt t vs ∧ B.get? t = none ∧ DictIs h' ea dc ∧ E C dc H') → Q () { s' with heap := h' }) :
    wpAny (model X.prog X.w) X.A (noteFrame (.ref ea) X.env) Q EE s' := by
  obtain ⟨pins, σ, H0, H', s0, B, t, C, vs, dc, I0, F, st, tup, hBt, dd, q⟩ := x
  have fr : X.A.frames = some (X.env :: X.outer) := by rw [← hst]; exact I0.ok.frames
  rcases st with ⟨f1, f2, f3, oe, he, rfl, hd⟩ | fly | held
  · unfold noteFrame
    simp only [hfr]
    refine wpAny_bind (wpAny_field he hd (show _ = some Value.none from rfl) ?_)
    rw [if_neg (by decide)]
    rw [hst] at f3
    refine noted_entry (a0 := .ref t) fr f3 hfr he f1 f2 hd (by simp) rfl fun h1 nt dd1 => ?_
    obtain ⟨n1, n2, n3, n4⟩ := nt
    rw [← hst] at n2
    obtain ⟨o9, q9, d9⟩ := dd
    cases Option.some.inj (he.symm.trans q9)
    rw [d9] at dd1
    exact k h1 ⟨pins, σ, H0, H', s0, B, t, _, vs, dc, I0, F.move (tk := s'.toks) I0 n1 n4, ⟨n1, f2, n2, n3⟩, tup.of_slots n4, hBt, dd1, q⟩
  · rw [hst] at fly
    refine looks_dict fr hfr fly dd fun h1 held up dd1 => ?_
    rw [← hst] at held
    exact k h1 ⟨pins, σ, H0, H', s0, B, t, C, vs, dc, I0, F.move (tk := s'.toks) I0 held.1 up, held, tup.of_slots up, hBt, dd1, q⟩
  · exact wpAny_noteFrame_againW hfr held.2.2.2 (k s'.heap ⟨pins, σ, H0, H', s0, B, t, C, vs, dc, I0, F, held, tup, hBt, dd, q⟩)
def Mid (X : Cx) (E : XK) : Value → Shared → Prop := fun e s' => ∃ ea, e = .ref ea ∧ Aloft X E ea s'
theorem passes_mid (hst : X.stack = X.env :: X.outer) (hfr : X.env.frame = some X.env.locals) : PassesOwn (model X.prog X.w) X.A X.env (Mid X E) := by
  rintro e s' ⟨ea, rfl, x⟩
  refine aloft_note hst hfr x fun h1 ⟨pins, σ, H0, H', s0, B, t, C, vs, dc, I0, F, held, tup, hBt, dd, q⟩ => ?_
  obtain ⟨f1, f2, f3, f4⟩ := held
  obtain ⟨oe, us, T, oT, ts, he, hc, dt, v1, nT, ne, hT, dT, t3⟩ := id f4
  unfold cameBackBy
  refine wpAny_bind (wpAny_field he dt v1 ?_)
  rw [if_neg (by simp)]
  rw [hfr]
  refine flight_on (s := { s' with heap := h1 }) f1 f3 f4 dd fun h2 k1 k2 k3 up dd2 => ?_
  exact ⟨ea, rfl, pins, σ, H0, H', s0, B, t, C, vs, dc, I0, F.move (tk := s'.toks) I0 k1 up, .inr (.inr ⟨k1, f2, k2, k3⟩), tup.of_slots up, hBt, dd2, q⟩
end
/-! ### out of the frame -/
def RaisesA (X : Cx) (E : XK) : Prop := ∀ ea s', Aloft X E ea s' → X.xe (.ref ea) s'
theorem raisesA_mid {X : Cx} {E : XK} : RaisesA (X.wish (Mid X E)) E := fun ea s' ⟨pins, σ, H0, H', s0, B, t, C, vs, dc, I0, F, st, r⟩ =>
  ⟨ea, rfl, pins, σ, H0, H', s0, B, t, C, vs, dc, I0.unwish, ⟨F.os, F.bare, F.un, F.hok, F.kb⟩, st, r⟩
section
variable {P : Program} {w : World} {K : PySem.W.Frag} {mg : Str → Option Value} {base : Heap} {N : List Str} {qual : Str} {scope : Scope} {f : Addr} {cd : Value} {A : Around} {outer : List Env} {s : Shared} {H : Hp} {E : XK}
theorem raisesA_fn : RaisesA (cxOf (CXr P w) P w K mg base N qual scope f cd A outer s H E) E := by
  intro ea s' x
  show wpAny (model P w) (A.deeper (envOfC qual scope s.heap.objs.size f cd)) (leaving (envOfC qual scope s.heap.objs.size f cd) (.ref ea)) _ _ _
  unfold leaving
  refine wpAny_bind (aloft_note (X := cxOf (CXr P w) P w K mg base N qual scope f cd A outer s H E) rfl rfl x fun h1 ⟨pins, σ, H0, H', s0, B, t, C, vs, dc, I, F, held, tup, hBt, dd, q⟩ => ?_)
  obtain ⟨f1, f2, f3, f4⟩ := held
  refine flight_off (s := { s' with heap := h1 }) f1 f3 f4 dd fun h2 k1 k2 k3 up dd2 => ?_
  have F2 := F.move (tk := s'.toks) I k1 up
  have I2 := F2.inv I
  have hL : ∀ b o, s.heap.get? b = some o → b ≠ s.heap.objs.size := fun b o q => Nat.ne_of_lt (Heap.lt_size q)
  have nfr : ∀ b, b ∉ frs outer → b ≠ s.heap.objs.size → b ∉ frs (envOfC qual scope s.heap.objs.size f cd :: outer) := fun b h1 h2 hm => by
    rcases List.mem_cons.mp (I.stkSub b hm) with z | z
    · exact h2 z
    · exact h1 z
  obtain ⟨_, _, k2'⟩ := k2
  refine ⟨ea, t, C, vs, B, H', dc, rfl, I2.os, F2.bare, ⟨fun b o q n hb _ => ?_, fun b o q n hb _ => ?_, fun b o q n _ => ?_, fun b o q _ => ?_, I2.base.tups, I2.base.frzs, I2.base.tbls⟩, F2.hok, ⟨k1, f2, k2', k3⟩, tup.of_slots up, hBt, fun b o hb ho q => ?_, dd2, q⟩
  · exact I2.base.keep b o q n hb (by intro z; cases z)
  · exact I2.base.slot b o q n hb (by intro z; cases z)
  · exact I2.base.free b o q n (by intro z; cases z)
  · exact I2.base.there b o q (by intro z; cases z)
  · refine F2.kb b o ?_ ?_ q
    · rcases ho with ⟨u, z⟩ | ⟨o0, z⟩
      · exact F2.nf I z
      · exact nfr b hb (hL b o0 z)
    · rcases ho with ⟨u, z⟩ | ⟨o0, z⟩
      · exact .inl ⟨u, z⟩
      · exact .inr (I.base.there b o0 z (by intro z; cases z))
end
section
variable {X : Cx} {E : XK}
/-- a call's exception passes -/
theorem passA (hR : RaisesA X E) : Passes (CXr X.prog X.w) X E := fun pins σ H s e s' I x => by
  obtain ⟨ea, t, C, vs, B, H', dc, rfl, os, bare, un, hok, fly, tup, hBt, kb, dd, q⟩ := x
  exact hR ea s' ⟨pins, σ, H, H', s, B, t, C, vs, dc, I, ⟨os, bare, un, hok, kb⟩, .inr (.inl fly), tup, hBt, dd, q⟩
/-- a new exception without a dict -/
theorem raisesA_made (hR : RaisesA X E) : Raises X (fun C H1 => E C none H1) := fun pins σ H1 s1 h2 e C vs I hx hE => by
  obtain ⟨t, he, tn, tt⟩ := hx.there
  have fr0 : ∀ b, b ∈ frs X.stack → ∃ o, s1.heap.get? b = some o := fun b hm => by
    obtain ⟨_, o', ho', _⟩ := I.stack.mem hm
    exact ⟨o', ho'⟩
  have hid : ∀ b o, s1.heap.get? b = some o → b ∉ frs X.stack → (hideAll s1.heap (frs X.stack)).get? b = some o := fun b o q hb => hideAll_get _ q hb
  have none_of : ∀ b, s1.heap.get? b = none → (hideAll s1.heap (frs X.stack)).get? b = none := fun b hb => by
    cases q : (hideAll s1.heap (frs X.stack)).get? b with
    | none => rfl
    | some o => exact nomatch hb.symm.trans (of_hideAll _ q)
  have tr : ∀ b u, H1 b = some u → b ∉ frs X.stack := fun b u q hm => by
    have := I.stkFree b hm
    rw [q] at this
    cases this
  have F : Fl X H1 H1 s1 { s1 with heap := h2 } (hideAll s1.heap (frs X.stack)) := ⟨rfl, I.bare, Un.kept hx.keeps, I.hok.kept hx.keeps, fun b o hb ho q => by
    obtain ⟨o1, q1⟩ : ∃ o1, s1.heap.get? b = some o1 := by
      rcases ho with ⟨u, z⟩ | ⟨o0, z⟩
      · exact obj_some (I.hok b u z)
      · exact ⟨o0, z⟩
    have q2 := hx.keeps _ _ q1
    have q' : h2.get? b = some o := q
    rw [q'] at q2
    cases q2
    exact hid b o q1 hb⟩
  have ff : h2.FunFrames (hideAll s1.heap (frs X.stack)) X.stack := (funFrames_hide I.stack fun env he b hb => List.mem_filterMap.mpr ⟨env, he, hb⟩).of_keeps fun b o q _ => ⟨o, hx.keeps b o q, rfl⟩
  exact hR e _ ⟨pins, σ, H1, H1, s1, _, t, C, vs, none, I, F, .inl ⟨fun b o q => hx.keeps b o (of_hideAll _ q), none_of e hx.new, ff, _, he, rfl, rfl⟩, ⟨_, _, tt, rfl, rfl⟩, none_of t tn, ⟨_, he, rfl⟩, hE⟩
end
/-! ### statements run under another wish: loops whose body raises -/
section
variable {X : Cx} {E : XK} {st : Stmt} {t : TS}
theorem s_mid (hR : RaisesA X E) (h : QS (X.wish (Mid X E)) st t) : QS X st t := ⟨fun pins s σ H D I q => wpAny_mono (h.h pins s σ H D (I.wish _) q) (fun _ _ z => z.unwish) fun _ _ ⟨ea, e, x⟩ => by rw [e]; exact hR ea _ x⟩
end
section
variable {X : Cx} {E : XK} {C : Addr} {bm : List Value} {k : Nat} {ps : List Str} {sp : Sp} {x : Str} {np cpos pos : Pos} {e : Expr} {es : List Expr} {ta : TA}
theorem s_raiseJ (hR : RaisesA X E) (hc : X.calm = true) (F : ExI X.prog X.w X.K X.mg X.base k C bm ps sp) (hr : Room (k + 1) X.A) (hm : X.mg x = some (.ref C)) (ha : QA X (e :: es) ta) (hg : Gl X x := by rfl) (hs : (e :: es).all noStar = true := by rfl) (hdb : (x == ("__debug__" : Str)) = false := by decide) :
    QS X (.Raise (some (.Call (.Name x np) (e :: es) [] cpos)) none pos) (tRaiseI sp C E ta) := by
  refine ⟨?_⟩
  intro pins s σ H D I h
  obtain ⟨fI, fd, xc, G, hb⟩ := F.ex
  have hs1 : noStar e = true := List.all_eq_true.mp hs e (by simp)
  have he := star_cons (es := es) (env := X.env) hs1
  have hpl : (backTo cpos (starEach es X.env)).any (·.1) = false := plain_back (by
    rw [List.all_eq_true]
    intro y hy
    exact List.all_eq_true.mp hs y (List.mem_cons_of_mem _ hy))
  have hpl' : (backTo cpos (starEach (e :: es) X.env)).any (·.1) = false := by
    rw [he]
    show (false || (backTo cpos (starEach es X.env)).any (·.1)) = false
    rw [hpl]
    rfl
  rw [arm_exec_Raise]
  refine wpAny_bind (wpAny_standAt (raise_obj (K := X.K) (exC_ofI xc) (I.ok.hd hc) (wpAny_bind (wpAny_mono (wpAny_Call_ofName (ld_glob I hg hm ?_ hdb)) (fun v s₃ h₃ => wpAny_bind (wpAny_standAt (wpAny_pure h₃))) fun _ _ x => x))))
  unfold callWith
  have hA := ha.h cpos pins s σ H _ I h
  rw [he] at hA ⊢
  refine wpAny_bind (wpAny_holding (Calls.evalArgs_plain (thn hA fun us s1 ⟨vs, H1, I1, r1, hz, hE⟩ => wpAny_bind (wpAny_standAt ?_))))
  obtain ⟨nm, q, N, bs, hdct, sn, sub, ab, col, dd, k0, k1, k2, k3, k5, mN, oC, hN, hi, T⟩ := exc_shapeI xc I1.kIn
  obtain ⟨oI, lI, cI⟩ := xc.fn
  obtain ⟨hp, g, d, tk, os⟩ := s1
  rw [← he] 
  simp only [hpl']
  refine wpAny_bind (wpAny_keeperOf_exc oC ?_)
  refine wpAny_bind (call_initT PySem.F.excBase_ValueError T oC hN hi (I1.kIn _ _ lI) cI (fun h' ea mx => ?_) (show us.length ≤ sizeLine by rw [← r1.length]; exact hz))
  obtain ⟨t, ht, tn, tt⟩ := mx.there
  obtain ⟨hea0, I2⟩ := I1.excMade mx.keeps mx.new ht
  have nt : t ≠ ea := fun z => by
    rw [z, ht] at tt
    cases tt
  have ht0 : H1 t = none := by
    cases q : H1 t with
    | none => rfl
    | some u =>
      obtain ⟨o, z⟩ := obj_some (I1.hok t u q)
      exact nomatch tn.symm.trans z
  have hq := hE ea t hea0 ht0 nt
  have hl : (Value.ref ea :: us).length = ps.length := by
    rw [← G.len _ _ _ _ hq, List.length_cons, List.length_cons, r1.length]
  refine wpAny_call (codeAny_mono (G.run _ X.stack _ _ ⟨Value.ref ea :: us, []⟩ (Value.ref ea :: us) (V.ref ea :: vs) _ _ (hr.make C us []) (I2.env0.make C us []) (by have := hb _ (Value.ref ea :: us) I2.kIn (by rw [List.append_nil]; exact hl); rw [List.append_nil] at this; exact this) (.cons rfl r1) hq) fun r s' hq' => ?_)
  cases r with
  | error e' => exact False.elim hq'
  | ok fl =>
    cases fl with
    | next => exact False.elim hq'
    | brk => exact False.elim hq'
    | cont => exact False.elim hq'
    | ret u =>
      obtain ⟨v, H', os', bare, un, hok, r, rfl, dc, hd, hE'⟩ := hq'
      obtain rfl : u = Value.none := r
      have I3 : Inv X pins σ H' s' := I2.call' os' un hok bare fun _ z => nomatch z
      have notin : ∀ b, hp.get? b = none → b ∉ frs X.stack := fun b hb hm => by
        obtain ⟨_, o', ho', _⟩ := I1.stack.mem hm
        exact nomatch hb.symm.trans ho'
      have hx : s'.heap.get? ea = some { cls := .ref C, dict := dc, data := .fields #[.ref t, .none, .none, .none, .bool false, .none] } := (show ObjOk X.prog X.w H' s'.heap ea (exN ea C t dc) from I3.hok ea _ hd).1
      have ut : upd H1 ea (exN ea C t none) t = none := by rw [upd_ne nt]; exact ht0
      have tt' := un.keep t _ tt ut (notin t tn) (by intro z; cases z)
      refine ⟨rfl, wpAny_bind (wpAny_holding (wpAny_point (wpAny_pure ⟨ea, _, rfl, I3.kIn, hx, rfl, ⟨t, rfl⟩, ?_⟩)))⟩
      have hy : s'.heap.get? ea = some { cls := .ref C, dict := dc, data := .fields #[.ref t, .none, .none, .none, .bool false, .none] } := hx
      have ne : ∀ b v, H' b = some v → v ≠ exN ea C t dc → b ≠ ea := fun b v q hv z => by
        rw [z, hd] at q
        exact hv (Option.some.inj q).symm
      have ft := un.free t _ tt ut (by intro z; cases z)
      have tr2 : ∀ b v, H' b = some v → b ≠ t := fun b v q z => by
        rw [z, ft] at q
        cases q
      have tfr : ∀ b v, H' b = some v → b ∉ frs X.stack := fun b v q hm => by
        have := I3.stkFree b hm
        rw [q] at this
        cases this
      have oe : ∀ b o, hp.get? b = some o → b ≠ ea := fun b o q z => by
        rw [z] at q
        exact nomatch mx.new.symm.trans q
      have ot : ∀ b o, hp.get? b = some o → b ≠ t := fun b o q z => by
        rw [z] at q
        exact nomatch tn.symm.trans q
      have un1 : Un (frs X.stack) [] H1 (del H' ea) hp s'.heap := by
        refine ⟨fun b o q n hb hx' => un.keep b o (mx.keeps b o q) (by rw [upd_ne (oe b o q)]; exact n) hb hx', fun b o q n hb hx' => un.slot b o (mx.keeps b o q) (by rw [upd_ne (oe b o q)]; exact n) hb hx', fun b o q n hx' => ?_, fun b o q hx' => un.there b o (mx.keeps b o q) hx', fun b xs q => ?_, fun b o v q => ?_, fun b ps' q => ?_⟩
        · rw [del_ne (oe b o q)]
          exact un.free b o (mx.keeps b o q) (by rw [upd_ne (oe b o q)]; exact n) hx'
        · have := un.tups b xs (by rw [upd_ne (ne_of_none q hea0)]; exact q)
          rw [del_ne (ne _ _ this (by intro z; cases z))]
          exact this
        · have := un.frzs b o v (by rw [upd_ne (ne_of_none q hea0)]; exact q)
          rw [del_ne (ne _ _ this (by intro z; cases z))]
          exact this
        · obtain ⟨more, this⟩ := un.tbls b ps' (by rw [upd_ne (ne_of_none q hea0)]; exact q)
          exact ⟨more, by rw [del_ne (ne _ _ this (by intro z; cases z))]; exact this⟩
      have hok1 : HOk X.prog X.w (del H' ea) s'.heap := fun b v q => by
        obtain ⟨hb, q⟩ := of_del q
        exact (I3.hok b v q).stay (fun _ _ _ z => z) (fun b' z => by rw [del_ne (ne _ _ z (by intro z; cases z))]; exact z) fun b' xs z => by rw [del_ne (ne _ _ z (by intro z; cases z))]; exact z
      have hid : ∀ b o, s'.heap.get? b = some o → b ≠ ea → b ≠ t → b ∉ frs X.stack → (hideAll s'.heap (ea :: t :: frs X.stack)).get? b = some o := fun b o q h1 h2 h3 =>
        hideAll_get _ q fun hm => by
          rcases List.mem_cons.mp hm with z | hm
          · exact h1 z
          rcases List.mem_cons.mp hm with z | hm
          · exact h2 z
          · exact h3 hm
      have Fx : Fl X H1 (del H' ea) ⟨hp, g, d, tk, os⟩ s' (hideAll s'.heap (ea :: t :: frs X.stack)) := ⟨os', bare, un1, hok1, fun b o hb ho q => by
        rcases ho with ⟨v, z⟩ | ⟨o0, z⟩
        · obtain ⟨hb', z⟩ := of_del z
          exact hid b o q hb' (tr2 _ _ z) hb
        · exact hid b o q (oe b o0 z) (ot b o0 z) hb⟩
      exact hR ea s' ⟨pins, σ, H1, del H' ea, _, _, t, .ref C, us, dc, I1, Fx, .inl ⟨fun b o q => of_hideAll _ q, hideAll_none _ List.mem_cons_self,
        funFrames_hide I3.stack fun env he b hb => List.mem_cons_of_mem _ (List.mem_cons_of_mem _ (List.mem_filterMap.mpr ⟨env, he, hb⟩)), _, hy, rfl, rfl⟩, ⟨_, _, tt', rfl, rfl⟩, hideAll_none _ (List.mem_cons_of_mem _ List.mem_cons_self), ⟨_, hy, rfl⟩, hE'⟩
end
end L2
namespace L2
open PySem PySem.Spec PyProof.Rows PySem.W
/-! ### range(a, b, c), c above nought -/
section
variable {X : Cx} {tg : Expr}
end
/-! ### isinstance of any thing and any class -/
end L2


set_option maxRecDepth 100000
set_option maxHeartbeats 4000000
namespace K31
open PySem L2
open PyProof.Rows (envOfC)
def top (i : Nat) : Stmt := PySem.Challenge.pw_limb_k31_words_of_kinds.main.body.getD i (.Pass ⟨0, 0, 0, 0⟩)
def tw (l : List Str) : TV := .tup (l.map V.str)
/-- the parts of a step, by its word -/
def ST : List (Str × TV) := [("put", tw ["new", "up", "place", "text"]), ("move", tw ["item", "up", "place"]), ("write", tw ["item", "text"]), ("mark", tw ["item", "truth"]), ("due", tw ["item", "whom"]), ("fold", tw ["item", "truth"]), ("part", tw ["item", "at", "new", "place"]), ("join", tw ["item", "item"]), ("gone", tw ["item"])]
/-- the first thing that a step changes -/
def FC : List (Str × TV) := [("move", .flat (.int 0)), ("write", .flat (.int 2)), ("mark", .flat (.int 3)), ("due", .flat (.int 4)), ("fold", .flat (.int 5))]
theorem at0 {x : V} {r : List V} : atI (x :: r) 0 = some x := atI_nat (xs := x :: r) (j := 0) rfl
theorem at1 {x y : V} {r : List V} : atI (x :: y :: r) 1 = some y := atI_nat (xs := x :: y :: r) (j := 1) rfl
theorem at2 {x y z : V} {r : List V} : atI (x :: y :: z :: r) 2 = some z := atI_nat (xs := x :: y :: z :: r) (j := 2) rfl
theorem at3 {x y z u : V} {r : List V} : atI (x :: y :: z :: u :: r) 3 = some u := atI_nat (xs := x :: y :: z :: u :: r) (j := 3) rfl
theorem at4 {x y z u v : V} {r : List V} : atI (x :: y :: z :: u :: v :: r) 4 = some v := atI_nat (xs := x :: y :: z :: u :: v :: r) (j := 4) rfl
theorem at5 {x y z u v q : V} {r : List V} : atI (x :: y :: z :: u :: v :: q :: r) 5 = some q := atI_nat (xs := x :: y :: z :: u :: v :: q :: r) (j := 5) rfl
theorem iteDF {c A B : Prop} [Decidable c] (h : ¬ c) (hB : B) : if decide c = true then A else B := by
  rw [decide_eq_false h]
  exact iteF hB
theorem ha_ne : ¬ (("held" : Str) = "away") := by decide +kernel
/-- the fields, in the order in which they are stored -/
def flds (h a : Addr) : List (Str × V) := putF "away" (.ref a) (putF "held" (.ref h) [])
theorem flds_held (h a : Addr) : (flds h a).lookup ("held" : Str) = some (.ref h) := by
  unfold flds
  rw [lookup_putF, if_neg ha_ne, lookup_putF, if_pos rfl]
theorem flds_away (h a : Addr) : (flds h a).lookup ("away" : Str) = some (.ref a) := by
  unfold flds
  rw [lookup_putF, if_pos rfl]
theorem flds_no (h a : Addr) {m : Str} (h1 : ¬ m = "away") (h2 : ¬ m = "held") : (flds h a).lookup m = none := by
  unfold flds
  rw [lookup_putF, if_neg h1, lookup_putF, if_neg h2]
  all_goals rfl
/-- a Plain at p, its items in the dict at d, those that are gone in the dict at g -/
structure PlainAt (C : Addr) (H : Hp) (p d g : Addr) (kvs gvs : List (List Key × V)) : Prop where
  ob : ∃ dx, H p = some (.ins C dx (flds d g))
  dc : H d = some (.dT kvs)
  gc : H g = some (.dT gvs)
  ne : d ≠ g
theorem PlainAt.same {C : Addr} {H H' : Hp} {p d g : Addr} {kvs gvs : List (List Key × V)} (x : PlainAt C H p d g kvs gvs) (s : Same H H') : PlainAt C H' p d g kvs gvs := by
  obtain ⟨⟨dx, h1⟩, h2, h3, h4⟩ := x
  exact ⟨⟨dx, s _ _ h1⟩, s _ _ h2, s _ _ h3, h4⟩
theorem PlainAt.put {C : Addr} {H : Hp} {p d g : Addr} {kvs gvs kvs' : List (List Key × V)} (x : PlainAt C H p d g kvs gvs) : PlainAt C (upd H d (.dT kvs')) p d g kvs' gvs := by
  obtain ⟨⟨dx, h1⟩, h2, h3, h4⟩ := x
  exact ⟨⟨dx, by rw [upd_ne (ne_of h1 h2 (by intro z; cases z))]; exact h1⟩, upd_same, by rw [upd_ne (Ne.symm h4)]; exact h3, h4⟩
/-- all things stay but the one at d -/
def But (d : Addr) (H H' : Hp) : Prop := ∀ b o, H b = some o → b ≠ d → H' b = some o
def NameIs (H : Hp) (v : V) (k : List Key) : Prop := ∃ b, v = .ref b ∧ H b = some (.tup (k.map kV))
theorem NameIs.same {H H' : Hp} {v : V} {k : List Key} (x : NameIs H v k) (s : Same H H') : NameIs H' v k := by
  obtain ⟨b, h1, h2⟩ := x
  exact ⟨b, h1, s _ _ h2⟩
def spParts (K : PySem.W.Frag) : Sp := fun vs H Q _ => ∃ (k : Str) (ws : List Str), vs = [.str k] ∧ PyProof.Rows.KTD.datumAt k ST = some (tw ws) ∧ ∀ t, (∀ H', SqT K H' t (ws.map V.str)) → Q (.ref t) H
def spInit (C : Addr) : Sp := fun vs H Q _ => ∃ (p dx : Addr), vs = [.ref p] ∧ H p = some (.ins C dx []) ∧ ∀ (d g : Addr) (H' : Hp), H d = none → H g = none → PlainAt C H' p d g [] [] → (∀ b o, H b = some o → b ≠ p → H' b = some o) → Q .non H'
/-- no part of a step is refused -/
def PartsOk (H : Hp) (kvs : List (List Key × V)) (ws : List Str) (ps : List V) : Prop := ws.length = ps.length ∧ ∀ (i : Nat) (w : Str) (v : V), ws[i]? = some w → ps[i]? = some v →
  (w = "new" → ∃ k, NameIs H v k ∧ valV kvs k = none) ∧ ((w = "item" ∨ w = "up") → v = .non ∨ ∃ k, NameIs H v k ∧ (valV kvs k).isSome = true)
theorem PartsOk.same {H H' : Hp} {kvs : List (List Key × V)} {ws : List Str} {ps : List V} (x : PartsOk H kvs ws ps) (s : Same H H') : PartsOk H' kvs ws ps :=
  ⟨x.1, fun i w v h1 h2 => ⟨fun e => let ⟨k, a, b⟩ := (x.2 i w v h1 h2).1 e; ⟨k, a.same s, b⟩, fun e => (x.2 i w v h1 h2).2 e |>.imp id fun ⟨k, a, b⟩ => ⟨k, a.same s, b⟩⟩⟩
def spCheckN (C : Addr) : Sp := fun vs H Q _ => ∃ (p d g st : Addr) (kvs gvs : List (List Key × V)) (w : Str) (ws : List Str) (ps : List V), vs = [.ref p, .ref st] ∧ PlainAt C H p d g kvs gvs ∧ H st = some (.tup (.str w :: ps)) ∧
  PyProof.Rows.KTD.datumAt w ST = some (tw ws) ∧ PartsOk H kvs ws ps ∧ ∀ H', Same H H' → Q .non H'
def spBring (C : Addr) : Sp := fun vs H Q _ => ∃ (p d g : Addr) (kvs gvs : List (List Key × V)) (nm up pl tx : V) (k : List Key), vs = [.ref p, nm, up, pl, tx] ∧ PlainAt C H p d g kvs gvs ∧ NameIs H nm k ∧ kvs.length ≤ 500 ∧
  ∀ (t : Addr) (H' : Hp), Same H H' → H' t = some (.tup [up, pl, tx, .bl false, .non, .bl false]) → Q .non (upd H' d (.dT (putK kvs k (.ref t))))
def spChange (C : Addr) : Sp := fun vs H Q _ => ∃ (p d g it va : Addr) (kvs gvs : List (List Key × V)) (nm : V) (k : List Key) (i : Nat) (xs ys : List V), vs = [.ref p, nm, .int (i : Int), .ref va] ∧ PlainAt C H p d g kvs gvs ∧ NameIs H nm k ∧ kvs.length ≤ 500 ∧
  valV kvs k = some (.ref it) ∧ H it = some (.tup xs) ∧ H va = some (.tup ys) ∧ i + ys.length ≤ xs.length ∧ xs.length ≤ 100 ∧
  ∀ (t : Addr) (H' : Hp), Same H H' → H' t = some (.tup (xs.take i ++ ys ++ xs.drop (i + ys.length))) → Q .non (upd H' d (.dT (putK kvs k (.ref t))))
def spItem (C : Addr) : Sp := fun vs H Q _ => ∃ (p d g : Addr) (kvs gvs : List (List Key × V)) (nm v : V) (k : List Key), vs = [.ref p, nm] ∧ PlainAt C H p d g kvs gvs ∧ NameIs H nm k ∧ valV kvs k = some v ∧ Q v H
def spNames (C : Addr) : Sp := fun vs H Q _ => ∃ (p d g : Addr) (kvs gvs : List (List Key × V)), vs = [.ref p] ∧ PlainAt C H p d g kvs gvs ∧ ∀ l ks, H l = none → KeysAt H kvs ks → Q (.ref l) (upd H l (.lst ks))
def spCell (K : PySem.W.Frag) : Sp := fun vs H Q _ => ∃ (a : Addr) (ns : List Int) (k : Int), vs = [.ref a, .int k] ∧ SqL K H a (ns.map V.int) ∧ 0 ≤ k ∧ Q (.int (cellZ ns k.toNat)) H
def spLaw (K : PySem.W.Frag) : Sp := fun vs H Q _ => ∃ (a : Addr) (ns : List Int), vs = [.ref a] ∧ SqL K H a (ns.map V.int) ∧ ns.length ≤ 63 ∧ ∀ H', Q (.bl true) H'
/-- what the walk asks of the class -/
structure Txt (K : PySem.W.Frag) (C : Addr) : Prop where
  cl : Cls K C
  nH : NoAttr K C "held"
  nA : NoAttr K C "away"
section
variable {P : Program} {w : World} {K : PySem.W.Frag} {mg : Str → Option Value} {base : Heap}
abbrev s_step_parts : Stmt := top 3
abbrev N_step_parts : List Str := ["word"]
theorem sc_step_parts : FnScope N_step_parts ["word"] (defScope s_step_parts) := ⟨rfl, rfl, rfl, by decide +kernel, rfl, by decide +kernel, by decide +kernel⟩
theorem ok_step_parts {f : Addr} {fd : FuncData} (F : Fun K "step_parts" "step_parts" s_step_parts f fd) {dd : Addr} (g_STEP_PARTS : mg "STEP_PARTS" = some (.ref dd)) (T : Tab K dd ST) : FnOk P w K mg base CX0 1 f fd ["word"] (spParts K) := by
  refine F.okQ sc_step_parts (fun vs H Q E h => ?_) (fun cdv A outer s H vs Q E hr h => ?_)
  · obtain ⟨k, ws, rfl, _⟩ := h
    rfl
  obtain ⟨k, ws, rfl, hk, q⟩ := h
  refine ⟨_, (b_1 (s_ret (q_ix x_tab (q_gR g_STEP_PARTS) (q_v 0)))), ?_⟩
  exact ⟨_, rfl, dd, k, ST, tw ws, rfl, rfl, T, hk, q⟩
abbrev s_Plain_init : Stmt := inClass (top 16) 0
abbrev N_Plain_init : List Str := ["self"]
theorem sc_Plain_init : FnScope N_Plain_init ["self"] (defScope s_Plain_init) := ⟨rfl, rfl, rfl, by decide +kernel, rfl, by decide +kernel, by decide +kernel⟩
theorem ok_Plain_init {f C : Addr} {fd : FuncData} (F : Fun K "__init__" "Plain.__init__" s_Plain_init f fd) (T : Txt K C) : FnOk P w K mg base CX0 1 f fd ["self"] (spInit C) := by
  refine F.okQ sc_Plain_init (fun vs H Q E h => ?_) (fun cdv A outer s H vs Q E hr h => ?_)
  · obtain ⟨p, dx, rfl, _⟩ := h
    rfl
  obtain ⟨p, dx, rfl, hp, k⟩ := h
  refine ⟨_, (b_c (s_fld (q_v 0) q_d0T)
      (b_1 (s_fld (q_v 0) q_d0T))), ?_⟩
  intro d hd
  have npd : p ≠ d := ne_of_none hp hd
  refine ⟨_, rfl, p, C, dx, [], rfl, (by rw [upd_ne npd]; exact hp), T.cl, T.nH, (by show 0 < 1000; decide), ?_⟩
  intro g hg
  have hg0 : H g = none := by
    cases e : H g with
    | none => rfl
    | some o =>
      have : g ≠ d := ne_of_none e hd
      by_cases c : g = p
      · subst c
        rw [upd_same] at hg
        cases hg
      · rw [upd_ne c, upd_ne this, e] at hg
        cases hg
  have ngp : g ≠ p := fun z => by rw [z, hp] at hg0; cases hg0
  have ngd : g ≠ d := fun z => by
    rw [z, upd_ne npd.symm, upd_same] at hg
    cases hg
  refine ⟨_, rfl, p, C, dx, _, rfl, (by rw [upd_ne ngp.symm, upd_same]), T.cl, T.nA, (by show 1 < 1000; decide), ?_⟩
  refine k d g _ hd hg0 ⟨⟨dx, upd_same⟩, by rw [upd_ne npd.symm, upd_ne ngd.symm, upd_ne npd.symm, upd_same], by rw [upd_ne ngp, upd_same], ngd.symm⟩ fun b o e hb => ?_
  rw [upd_ne hb, upd_ne (ne_of_none e hg0), upd_ne hb, upd_ne (ne_of_none e hd)]
  exact e
abbrev s_Plain_item : Stmt := inClass (top 16) 10
abbrev N_Plain_item : List Str := ["self", "name"]
theorem sc_Plain_item : FnScope N_Plain_item ["self", "name"] (defScope s_Plain_item) := ⟨rfl, rfl, rfl, by decide +kernel, rfl, by decide +kernel, by decide +kernel⟩
theorem ok_Plain_item {f C : Addr} {fd : FuncData} (F : Fun K "item" "Plain.item" s_Plain_item f fd) (T : Txt K C) : FnOk P w K mg base CX0 1 f fd ["self", "name"] (spItem C) := by
  refine F.okQ sc_Plain_item (fun vs H Q E h => ?_) (fun cdv A outer s H vs Q E hr h => ?_)
  · obtain ⟨p, d, g, kvs, gvs, nm, v, k, rfl, _⟩ := h
    rfl
  obtain ⟨p, d, g, kvs, gvs, nm, v, k, rfl, S, ⟨b, rfl, hb⟩, hv, q⟩ := h
  obtain ⟨⟨dx, h1⟩, h2, h3, h4⟩ := id S
  refine ⟨_, (b_c (s_if (t_dnotin hr.units (q_v 1) (q_fld (q_v 0))) (b_1 s_never) b_0)
      (b_1 (s_ret (q_dget hr.units (q_fld (q_v 0)) (q_v 1))))), ?_⟩
  refine ⟨_, rfl, _, rfl, p, C, dx, _, _, rfl, h1, T.cl, T.nH, flds_held _ _, d, _, rfl, DGet.t h2 hb, _, rfl, ?_⟩
  rw [hv]
  refine iteF ?_
  exact ⟨_, rfl, p, C, dx, _, _, rfl, h1, T.cl, T.nH, flds_held _ _, _, rfl, d, v, rfl, hv ▸ DGet.t h2 hb, q⟩
abbrev s_Plain_bring_in : Stmt := inClass (top 16) 4
abbrev N_Plain_bring_in : List Str := ["self", "name", "up", "place", "text"]
theorem sc_Plain_bring_in : FnScope N_Plain_bring_in ["self", "name", "up", "place", "text"] (defScope s_Plain_bring_in) := ⟨rfl, rfl, rfl, by decide +kernel, rfl, by decide +kernel, by decide +kernel⟩
theorem ok_Plain_bring_in {f C : Addr} {fd : FuncData} (F : Fun K "bring_in" "Plain.bring_in" s_Plain_bring_in f fd) (T : Txt K C) : FnOk P w K mg base CX0 1 f fd ["self", "name", "up", "place", "text"] (spBring C) := by
  refine F.okQ sc_Plain_bring_in (fun vs H Q E h => ?_) (fun cdv A outer s H vs Q E hr h => ?_)
  · obtain ⟨p, d, g, kvs, gvs, nm, up, pl, tx, k, rfl, _⟩ := h
    rfl
  obtain ⟨p, d, g, kvs, gvs, nm, up, pl, tx, k, rfl, S, hn, hl, q⟩ := h
  obtain ⟨⟨dx, h1⟩, h2, h3, h4⟩ := id S
  refine ⟨_, (b_1 (s_dput hr.units (q_fld (q_v 0)) (q_v 1) (q_tup (q_a (q_v 2) (q_a (q_v 3) (q_a (q_v 4) (q_a q_bl (q_a q_non (q_a q_bl q_a0))))))))), ?_⟩
  refine ⟨_, rfl, _, rfl, _, rfl, size63 (Nat.le_of_ble_eq_true rfl), fun t ht => ?_⟩
  have sm := same_new ht (.tup [up, pl, tx, .bl false, .non, .bl false])
  obtain ⟨b, rfl, hb⟩ := hn
  exact ⟨_, rfl, p, C, dx, _, _, rfl, sm _ _ h1, T.cl, T.nH, flds_held _ _, _, rfl, d, _, rfl, DPut.t (sm _ _ h2) (sm _ _ hb) (small1000 (by omega)), q t _ sm upd_same⟩
abbrev s_Plain_change : Stmt := inClass (top 16) 5
abbrev N_Plain_change : List Str := ["self", "name", "first", "values", "item"]
theorem sc_Plain_change : FnScope N_Plain_change ["self", "name", "first", "values"] (defScope s_Plain_change) := ⟨rfl, rfl, rfl, by decide +kernel, rfl, by decide +kernel, by decide +kernel⟩
theorem ok_Plain_change {f C : Addr} {fd : FuncData} (F : Fun K "change" "Plain.change" s_Plain_change f fd) (T : Txt K C) (z_len : mg "len" = none) : FnOk P w K mg base CX0 1 f fd ["self", "name", "first", "values"] (spChange C) := by
  refine F.okQ sc_Plain_change (fun vs H Q E h => ?_) (fun cdv A outer s H vs Q E hr h => ?_)
  · obtain ⟨p, d, g, it, va, kvs, gvs, nm, k, i, xs, ys, rfl, _⟩ := h
    rfl
  obtain ⟨p, d, g, it, va, kvs, gvs, nm, k, i, xs, ys, rfl, S, hn, hl, hv, hit, hva, hi, hx, q⟩ := h
  obtain ⟨⟨dx, h1⟩, h2, h3, h4⟩ := id S
  obtain ⟨b, rfl, hb⟩ := hn
  refine ⟨_, (b_c (s_set (i := 4) sc_Plain_change.nd (q_dget hr.units (q_fld (q_v 0)) (q_v 1)))
      (b_1 (s_dput hr.units (q_fld (q_v 0)) (q_v 1) (q_op o_catS (q_op o_catS (q_sl l_tupS (q_v 4) q_o0 (q_o1 (q_v 2))) (q_v 3)) (q_sl l_tupS (q_v 4) (q_o1 (q_op o_add (q_v 2) (q_B c_len z_len PySem.boot_len (q_a (q_v 3) q_a0)))) q_o0))))), ?_⟩
  refine ⟨_, rfl, p, C, dx, _, _, rfl, h1, T.cl, T.nH, flds_held _ _, _, rfl, d, _, rfl, hv ▸ DGet.t h2 hb, ?_⟩
  refine ⟨_, rfl, _, rfl, _, rfl, it, xs, rfl, hit, fun t1 H1 s1 e1 => ?_⟩
  have c1 : cutV xs none (some (i : Int)) = xs.take i := by
    unfold cutV
    rw [HT.sIx_none, HT.sIx_nat, List.drop_zero, Nat.sub_zero, Nat.min_eq_left (by omega)]
  rw [c1] at e1
  refine ⟨_, rfl, t1, va, _, _, rfl, rfl, e1, s1 _ _ hva, size63 (by rw [List.length_take]; omega), fun t2 H2 s2 e2 => ?_⟩
  refine ⟨_, rfl, _, rfl, _, rfl, va, ys, rfl, .inr (SqT.of (s2 _ _ (s1 _ _ hva))), _, _, rfl, rfl, _, rfl, it, xs, rfl, s2 _ _ (s1 _ _ hit), fun t3 H3 s3 e3 => ?_⟩
  have c2 : cutV xs (some ((i : Int) + (ys.length : Int))) none = xs.drop (i + ys.length) := by
    unfold cutV
    rw [HT.sIx_none, show (i : Int) + (ys.length : Int) = ((i + ys.length : Nat) : Int) by omega, HT.sIx_nat, Nat.min_eq_left hi, List.take_of_length_le (by rw [List.length_drop]; omega)]
  rw [c2] at e3
  refine ⟨t2, t3, _, _, rfl, rfl, s3 _ _ e2, e3, size63 (by rw [List.length_append, List.length_take, List.length_drop]; omega), fun t4 H4 s4 e4 => ?_⟩
  have sm : Same H H4 := s1.trans (s2.trans (s3.trans s4))
  exact ⟨_, rfl, p, C, dx, _, _, rfl, sm _ _ h1, T.cl, T.nH, flds_held _ _, _, rfl, d, _, rfl, DPut.t (sm _ _ h2) (sm _ _ hb) (small1000 (by omega)), q t4 _ sm e4⟩
theorem in_iu (w : Str) : inV (.str w) [.str "item", .str "up"] = decide (w = "item" ∨ w = "up") := by
  unfold inV eqV
  by_cases h1 : w = "item"
  · subst h1; simp
  · by_cases h2 : w = "up"
    · subst h2; simp
    · simp [h1, h2, Ne.symm h1, Ne.symm h2]
abbrev s_Plain_check_names : Stmt := inClass (top 16) 2
abbrev N_Plain_check_names : List Str := ["self", "step", "kinds", "kind", "name"]
theorem sc_Plain_check_names : FnScope N_Plain_check_names ["self", "step"] (defScope s_Plain_check_names) := ⟨rfl, rfl, rfl, by decide +kernel, rfl, by decide +kernel, by decide +kernel⟩
theorem ok_Plain_check_names {f C : Addr} {fd : FuncData} (F : Fun K "check_names" "Plain.check_names" s_Plain_check_names f fd) (T : Txt K C) (F_step_parts : Fn P w K mg base 1 "step_parts" ["word"] (spParts K)) (z_zip : mg "zip" = none) : FnOk P w K mg base CX0 2 f fd ["self", "step"] (spCheckN C) := by
  refine F.okQ sc_Plain_check_names (fun vs H Q E h => ?_) (fun cdv A outer s H vs Q E hr h => ?_)
  · obtain ⟨p, d, g, st, kvs, gvs, wd, ws, ps, rfl, _⟩ := h
    rfl
  obtain ⟨p, d, g, st, kvs, gvs, wd, ws, ps, rfl, S, hst, hk, ok, q⟩ := h
  obtain ⟨⟨dx, h1⟩, h2, h3, h4⟩ := id S
  refine ⟨_, (b_c (s_set (i := 2) sc_Plain_check_names.nd (q_fn F_step_parts (hr.mono (by decide)) (q_a (q_ix x_tup (q_v 1) q_int) q_a0)))
      (b_c (s_for PassesOwn.never rfl (i_zip z_zip (q_a (q_v 2) (q_a (q_sl l_tupS (q_v 1) (q_o1 q_int) q_o0) q_a0))) (g_tup rfl (gs_1 (g_name (i := 3) sc_Plain_check_names.nd) (gs_1 (g_name (i := 4) sc_Plain_check_names.nd) gs_0))) (b_1 (s_if (t_w (w_and (t_cmp o_eq (q_v 3) q_str) (w_and1 (t_din hr.units (q_v 4) (q_fld (q_v 0)))))) (b_1 s_never) b_0)))
      (b_1 (s_for PassesOwn.never rfl (i_zip z_zip (q_a (q_v 2) (q_a (q_sl l_tupS (q_v 1) (q_o1 q_int) q_o0) q_a0))) (g_tup rfl (gs_1 (g_name (i := 3) sc_Plain_check_names.nd) (gs_1 (g_name (i := 4) sc_Plain_check_names.nd) gs_0))) (b_1 (s_if (t_w (w_and (t_cmp (o_inQ (K := K) rfl) (q_v 3) (q_tup (q_a q_str (q_a q_str q_a0)))) (w_and (t_cmp o_notN (q_v 4) q_non) (w_and1 (t_dnotin hr.units (q_v 4) (q_fld (q_v 0))))))) (b_1 s_never) b_0)))))), ?_⟩
  refine ⟨_, rfl, st, _, _, _, rfl, rfl, SqT.of hst, at0, wd, ws, rfl, hk, fun t ht => ?_⟩
  have c1 : cutV (V.str wd :: ps) (some 1) none = ps := by
    unfold cutV
    rw [HT.sIx_none, show (1 : Int) = ((1 : Nat) : Int) from rfl, HT.sIx_nat]
    simp
  have lw : (ws.map V.str).length = ps.length := by rw [List.length_map]; exact ok.1
  have item : ∀ {i : Nat} {x : V}, (ws.map V.str)[i]? = some x → ∃ w', ws[i]? = some w' ∧ x = .str w' := fun {i x} hx => by
    rw [List.getElem?_map] at hx
    obtain ⟨w', e1, e2⟩ := Option.map_eq_some_iff.mp hx
    exact ⟨w', e1, e2.symm⟩
  refine ⟨_, rfl, _, rfl, _, rfl, st, _, rfl, hst, fun z H1 s1 e1 => ?_⟩
  rw [c1] at e1
  refine ⟨t, z, _, _, rfl, ht _, SqT.of e1, lw, ?_⟩
  refine for_zip (i := 3) (j := 4) (fun i σ H' => Same H H' ∧ H' z = some (.tup ps) ∧ ∃ o3 o4, σ = [some (.ref p), some (.ref st), some (.ref t), o3, o4]) ⟨s1, e1, none, none, rfl⟩ (fun _ _ _ _ _ => ht _) (fun _ _ _ _ v => SqT.of v.2.1) lw ?_ ?_
  · rintro i x v σ H' hx hv ⟨sm, ez, o3, o4, rfl⟩ T' gT
    have wT := same_new gT (.tup [x, v])
    obtain ⟨w', hw, rfl⟩ := item hx
    have sm' := sm.trans wT
    refine ⟨_, rfl, rfl, _, rfl, iteD (fun c => ?_) (fun c => ?_)⟩
    · injection c with c
      subst c
      obtain ⟨k, ⟨b, rfl, hb⟩, hn⟩ := ((ok.2 i _ v hw hv).1 rfl)
      refine ⟨_, rfl, _, rfl, p, C, dx, _, _, rfl, sm' _ _ h1, T.cl, T.nH, flds_held _ _, d, none, rfl, hn ▸ DGet.t (sm' _ _ h2) (sm' _ _ hb), _, rfl, iteF ?_⟩
      exact ⟨sm', wT _ _ ez, _, _, rfl⟩
    · exact iteF ⟨sm', wT _ _ ez, _, _, rfl⟩
  · rintro σ H' ⟨sm, ez, o3, o4, rfl⟩
    refine ⟨_, rfl, _, rfl, _, rfl, st, _, rfl, sm _ _ hst, fun z' H2 s2 e2 => ?_⟩
    rw [c1] at e2
    refine ⟨t, z', _, _, rfl, ht _, SqT.of e2, lw, ?_⟩
    refine for_zip (i := 3) (j := 4) (fun i σ H' => Same H H' ∧ H' z' = some (.tup ps) ∧ ∃ o3 o4, σ = [some (.ref p), some (.ref st), some (.ref t), o3, o4]) ⟨sm.trans s2, e2, o3, o4, rfl⟩ (fun _ _ _ _ _ => ht _) (fun _ _ _ _ v => SqT.of v.2.1) lw ?_ ?_
    · rintro i x v σ H' hx hv ⟨sm, ez, o3, o4, rfl⟩ T' gT
      have wT := same_new gT (.tup [x, v])
      obtain ⟨w', hw, rfl⟩ := item hx
      have sm' := sm.trans wT
      refine ⟨_, rfl, size63 (Nat.le_of_ble_eq_true rfl), fun u gu => ?_⟩
      have wu := same_new gu (.tup [.str "item", .str "up"])
      have sm2 := sm'.trans wu
      refine ⟨u, _, rfl, .inr (SqT.of upd_same), rfl, rfl, _, rfl, ?_⟩
      have ei : (if false = true then !inV (V.str w') [.str "item", .str "up"] else inV (V.str w') [.str "item", .str "up"]) = decide (w' = "item" ∨ w' = "up") := in_iu w'
      have fin : ∃ o3 o4, (((([some (V.ref p), some (.ref st), some (.ref t), o3, o4] : St).set 3 (some (.str w'))).set 4 (some v))) = [some (.ref p), some (.ref st), some (.ref t), o3, o4] := ⟨_, _, rfl⟩
      rw [ei]
      refine iteD (fun c => ?_) (fun c => ?_)
      · rcases (ok.2 i _ v hw hv).2 c with rfl | ⟨k, ⟨b, rfl, hb⟩, hn⟩
        · refine ⟨_, rfl, rfl, _, rfl, iteNS rfl ?_⟩
          exact iteF ⟨sm2, wu _ _ (wT _ _ ez), _, _, rfl⟩
        · refine ⟨_, rfl, rfl, _, rfl, iteNN (by intro z; cases z) ?_⟩
          refine ⟨_, rfl, _, rfl, p, C, dx, _, _, rfl, sm2 _ _ h1, T.cl, T.nH, flds_held _ _, d, _, rfl, DGet.t (sm2 _ _ h2) (sm2 _ _ hb), _, rfl, ?_⟩
          rw [hn]
          exact iteF ⟨sm2, wu _ _ (wT _ _ ez), _, _, rfl⟩
      · exact iteF ⟨sm2, wu _ _ (wT _ _ ez), _, _, rfl⟩
    · rintro σ H' ⟨sm, ez, o3, o4, rfl⟩
      exact q H' sm
/-! ### what is refused -/
def spNI (cN : Addr) : Sp := fun vs H Q _ => ∃ (e t : Addr) (v : V), vs = [.ref e, v] ∧ H e = some (exN e cN t none) ∧ ∀ d, H d = none → Q .non (upd (upd H d (.xd [("name", v)])) e (exN e cN t (some d)))
abbrev s_NoItem_init : Stmt := inClass (top 7) 0
abbrev N_NoItem_init : List Str := ["self", "name"]
theorem sc_NoItem_init : FnScope N_NoItem_init ["self", "name"] (defScope s_NoItem_init) := ⟨rfl, rfl, rfl, by decide +kernel, rfl, by decide +kernel, by decide +kernel⟩
theorem ok_NoItem_init {f cN : Addr} {fd : FuncData} (F : Fun K "__init__" "NoItem.__init__" s_NoItem_init f fd) (S : ExS K cN) (n : NoAttr K cN "name") : FnOk P w K mg base CX0 1 f fd ["self", "name"] (spNI cN) := by
  refine F.okQ sc_NoItem_init (fun vs H Q E h => ?_) (fun cdv A outer s H vs Q E hr h => ?_)
  · obtain ⟨e, t, v, rfl, _⟩ := h
    rfl
  obtain ⟨e, t, v, rfl, he, q⟩ := h
  refine ⟨_, (b_1 (s_fldE (q_v 0) (q_v 1))), ?_⟩
  exact ⟨_, rfl, _, rfl, e, cN, t, rfl, he, S, n, q⟩
/-- the heap behind `raise NoItem(v)`: all stays, the dict holds the name -/
theorem after_ni {H1 : Hp} {ea t d cN : Addr} {v : V} (h1 : H1 ea = none) (hd : upd H1 ea (exN ea cN t none) d = none) :
    Same H1 (del (upd (upd (upd H1 ea (exN ea cN t none)) d (.xd [("name", v)])) ea (exN ea cN t (some d))) ea) ∧ del (upd (upd (upd H1 ea (exN ea cN t none)) d (.xd [("name", v)])) ea (exN ea cN t (some d))) ea d = some (.xd [("name", v)]) := by
  have nde : d ≠ ea := fun z => by
    rw [z, upd_same] at hd
    cases hd
  refine ⟨fun b o e => ?_, ?_⟩
  · have hb : b ≠ ea := ne_of_none e h1
    have hbd : b ≠ d := fun z => by
      rw [← z, upd_ne hb, e] at hd
      cases hd
    rw [del_ne hb, upd_ne hb, upd_ne hbd, upd_ne hb]
    exact e
  · rw [del_ne nde, upd_ne nde, upd_same]
/-- a part of a step: is it as it must be? -/
def PartB (H : Hp) (kvs : List (List Key × V)) (w : Str) (v : V) (b : Bool) : Prop :=
  (w = "new" → ∃ k, NameIs H v k ∧ b = !(valV kvs k).isSome) ∧ ((w = "item" ∨ w = "up") → (v = .non ∧ b = true) ∨ ∃ k, NameIs H v k ∧ b = (valV kvs k).isSome)
theorem PartB.same {H H' : Hp} {kvs : List (List Key × V)} {w : Str} {v : V} {b : Bool} (x : PartB H kvs w v b) (s : Same H H') : PartB H' kvs w v b :=
  ⟨fun e => let ⟨k, a, c⟩ := x.1 e; ⟨k, a.same s, c⟩, fun e => (x.2 e).imp id fun ⟨k, a, c⟩ => ⟨k, a.same s, c⟩⟩
def isI (w : Str) : Prop := w = "item" ∨ w = "up"
def spCheckX (C cT cN : Addr) : Sp := fun vs H Q E => ∃ (p d g st : Addr) (kvs gvs : List (List Key × V)) (w : Str) (ws : List Str) (ps : List V) (bs : List Bool), vs = [.ref p, .ref st] ∧ PlainAt C H p d g kvs gvs ∧ H st = some (.tup (.str w :: ps)) ∧
  PyProof.Rows.KTD.datumAt w ST = some (tw ws) ∧ ws.length = ps.length ∧ bs.length = ps.length ∧ (∀ (i : Nat) (w : Str) (v : V) (b : Bool), ws[i]? = some w → ps[i]? = some v → bs[i]? = some b → PartB H kvs w v b) ∧
  ((∃ i : Nat, ws[i]? = some "new" ∧ bs[i]? = some false) → ∀ H', Same H H' → E (.ref cT) none H') ∧
  ((∀ i : Nat, ws[i]? = some "new" → bs[i]? = some true) → ((∀ (i : Nat) (w : Str), ws[i]? = some w → isI w → bs[i]? = some true) → ∀ H', Same H H' → Q .non H') ∧
    ∀ (i : Nat) (w : Str) (v : V), ws[i]? = some w → ps[i]? = some v → isI w → bs[i]? = some false → (∀ (j : Nat) (w' : Str), j < i → ws[j]? = some w' → isI w' → bs[j]? = some true) → ∀ H' dd, Same H H' → H' dd = some (.xd [("name", v)]) → E (.ref cN) (some dd) H')
theorem ok_Plain_check_namesX {f C cT cN : Addr} {fd : FuncData} {bm : List Value} (F : Fun K "check_names" "Plain.check_names" s_Plain_check_names f fd) (T : Txt K C) (F_step_parts : Fn P w K mg base 1 "step_parts" ["word"] (spParts K)) (z_zip : mg "zip" = none) (x_Taken : ExCls K cT) (g_Taken : mg "Taken" = some (.ref cT))
    (xi_NoItem : ExI P w K mg base 1 cN bm ["self", "name"] (spNI cN)) (g_NoItem : mg "NoItem" = some (.ref cN)) : FnOk P w K mg base (CXr P w) 3 f fd ["self", "step"] (spCheckX C cT cN) := by
  refine F.okX sc_Plain_check_names (fun vs H Q E h => ?_) (fun cdv A outer s H vs Q E hr h => ?_)
  · obtain ⟨p, d, g, st, kvs, gvs, wd, ws, ps, bs, rfl, _⟩ := h
    rfl
  obtain ⟨p, d, g, st, kvs, gvs, wd, ws, ps, bs, rfl, S, hst, hk, l1, l2, ok, qT, qN⟩ := h
  obtain ⟨⟨dx, h1⟩, h2, h3, h4⟩ := id S
  refine ⟨_, (b_c (s_set (i := 2) sc_Plain_check_names.nd (q_fn F_step_parts (hr.mono (by decide)) (q_a (q_ix x_tup (q_v 1) q_int) q_a0)))
      (b_c (s_mid raisesA_fn (s_for (passes_mid rfl rfl) rfl (i_zip z_zip (q_a (q_v 2) (q_a (q_sl l_tupS (q_v 1) (q_o1 q_int) q_o0) q_a0))) (g_tup rfl (gs_1 (g_name (i := 3) sc_Plain_check_names.nd) (gs_1 (g_name (i := 4) sc_Plain_check_names.nd) gs_0))) (b_1 (s_if (t_w (w_and (t_cmp o_eq (q_v 3) q_str) (w_and1 (t_din hr.units (q_v 4) (q_fld (q_v 0)))))) (b_1 (s_raise (raisesA_made raisesA_mid) rfl x_Taken g_Taken (q_a q_str q_a0))) b_0))))
      (b_1 (s_mid raisesA_fn (s_for (passes_mid rfl rfl) rfl (i_zip z_zip (q_a (q_v 2) (q_a (q_sl l_tupS (q_v 1) (q_o1 q_int) q_o0) q_a0))) (g_tup rfl (gs_1 (g_name (i := 3) sc_Plain_check_names.nd) (gs_1 (g_name (i := 4) sc_Plain_check_names.nd) gs_0))) (b_1 (s_if (t_w (w_and (t_cmp (o_inQ (K := K) rfl) (q_v 3) (q_tup (q_a q_str (q_a q_str q_a0)))) (w_and (t_cmp o_notN (q_v 4) q_non) (w_and1 (t_dnotin hr.units (q_v 4) (q_fld (q_v 0))))))) (b_1 (s_raiseJ raisesA_mid rfl xi_NoItem (hr.mono (by decide)) g_NoItem (q_a (q_v 4) q_a0))) b_0))))))), ?_⟩
  refine ⟨_, rfl, st, _, _, _, rfl, rfl, SqT.of hst, at0, wd, ws, rfl, hk, fun t ht => ?_⟩
  have c1 : cutV (V.str wd :: ps) (some 1) none = ps := by
    unfold cutV
    rw [HT.sIx_none, show (1 : Int) = ((1 : Nat) : Int) from rfl, HT.sIx_nat]
    simp
  have lw : (ws.map V.str).length = ps.length := by rw [List.length_map]; exact l1
  have item : ∀ {i : Nat} {x : V}, (ws.map V.str)[i]? = some x → ∃ w', ws[i]? = some w' ∧ x = .str w' := fun {i x} hx => by
    rw [List.getElem?_map] at hx
    obtain ⟨w', e1, e2⟩ := Option.map_eq_some_iff.mp hx
    exact ⟨w', e1, e2.symm⟩
  have bat : ∀ {i : Nat} {v : V}, ps[i]? = some v → ∃ b, bs[i]? = some b := fun {i v} hv => by
    have hi : i < bs.length := by rw [l2]; exact (List.getElem?_eq_some_iff.mp hv).1
    exact ⟨_, List.getElem?_eq_getElem hi⟩
  refine ⟨_, rfl, _, rfl, _, rfl, st, _, rfl, hst, fun z H1 s1 e1 => ?_⟩
  rw [c1] at e1
  refine ⟨t, z, _, _, rfl, ht _, SqT.of e1, lw, ?_⟩
  refine for_zip (i := 3) (j := 4) (fun i σ H' => Same H H' ∧ H' z = some (.tup ps) ∧ (∀ j : Nat, j < i → ws[j]? = some "new" → bs[j]? = some true) ∧ ∃ o3 o4, σ = [some (.ref p), some (.ref st), some (.ref t), o3, o4]) ⟨s1, e1, (fun j hj => by omega), none, none, rfl⟩ (fun _ _ _ _ _ => ht _) (fun _ _ _ _ v => SqT.of v.2.1) lw ?_ ?_
  · rintro i x v σ H' hx hv ⟨sm, ez, pre, o3, o4, rfl⟩ T' gT
    have wT := same_new gT (.tup [x, v])
    obtain ⟨w', hw, rfl⟩ := item hx
    obtain ⟨b, hb⟩ := bat hv
    have sm' := sm.trans wT
    have pb := (ok i w' v b hw hv hb).same sm'
    refine ⟨_, rfl, rfl, _, rfl, iteD (fun c => ?_) (fun c => ?_)⟩
    · injection c with c
      subst c
      obtain ⟨k, ⟨nb, rfl, hnb⟩, hbv⟩ := pb.1 rfl
      refine ⟨_, rfl, _, rfl, p, C, dx, _, _, rfl, sm' _ _ h1, T.cl, T.nH, flds_held _ _, d, _, rfl, DGet.t (sm' _ _ h2) hnb, _, rfl, ?_⟩
      cases hs : (valV kvs k).isSome with
      | true =>
        rw [hs] at hbv
        subst hbv
        refine iteT ?_
        exact ⟨size63 (Nat.le_of_ble_eq_true rfl), qT ⟨i, hw, hb⟩ _ sm'⟩
      | false =>
        rw [hs] at hbv
        subst hbv
        refine iteF ⟨sm', wT _ _ ez, fun j hj hw' => ?_, _, _, rfl⟩
        by_cases c2 : j = i
        · rw [c2]; exact hb
        · exact pre j (by omega) hw'
    · refine iteF ⟨sm', wT _ _ ez, fun j hj hw' => ?_, _, _, rfl⟩
      by_cases c2 : j = i
      · rw [c2, hw] at hw'
        exact absurd (congrArg V.str (Option.some.inj hw')) c
      · exact pre j (by omega) hw'
  · rintro σ H' ⟨sm, ez, pre, o3, o4, rfl⟩
    have all : ∀ i : Nat, ws[i]? = some "new" → bs[i]? = some true := fun i hi => pre i (by rw [List.length_map]; exact (List.getElem?_eq_some_iff.mp hi).1) hi
    obtain ⟨qok, qni⟩ := qN all
    refine ⟨_, rfl, _, rfl, _, rfl, st, _, rfl, sm _ _ hst, fun z' H2 s2 e2 => ?_⟩
    rw [c1] at e2
    refine ⟨t, z', _, _, rfl, ht _, SqT.of e2, lw, ?_⟩
    refine for_zip (i := 3) (j := 4) (fun i σ H' => Same H H' ∧ H' z' = some (.tup ps) ∧ (∀ (j : Nat) (w' : Str), j < i → ws[j]? = some w' → isI w' → bs[j]? = some true) ∧ ∃ o3 o4, σ = [some (.ref p), some (.ref st), some (.ref t), o3, o4]) ⟨sm.trans s2, e2, (fun j _ hj => by omega), o3, o4, rfl⟩ (fun _ _ _ _ _ => ht _) (fun _ _ _ _ v => SqT.of v.2.1) lw ?_ ?_
    · rintro i x v σ H' hx hv ⟨sm, ez, pre2, o3, o4, rfl⟩ T' gT
      have wT := same_new gT (.tup [x, v])
      obtain ⟨w', hw, rfl⟩ := item hx
      obtain ⟨b, hb⟩ := bat hv
      have sm' := sm.trans wT
      refine ⟨_, rfl, size63 (Nat.le_of_ble_eq_true rfl), fun u gu => ?_⟩
      have wu := same_new gu (.tup [.str "item", .str "up"])
      have sm2 := sm'.trans wu
      have pb := (ok i w' v b hw hv hb).same sm2
      refine ⟨u, _, rfl, .inr (SqT.of upd_same), rfl, rfl, _, rfl, ?_⟩
      have ei : (if false = true then !inV (V.str w') [.str "item", .str "up"] else inV (V.str w') [.str "item", .str "up"]) = decide (w' = "item" ∨ w' = "up") := in_iu w'
      have step : bs[i]? = some true → ∀ (j : Nat) (w'' : Str), j < i + 1 → ws[j]? = some w'' → isI w'' → bs[j]? = some true := fun hbt j w'' hj hw'' hi => by
        by_cases c2 : j = i
        · rw [c2]; exact hbt
        · exact pre2 j w'' (by omega) hw'' hi
      rw [ei]
      refine iteD (fun c => ?_) (fun c => ?_)
      · rcases pb.2 c with ⟨rfl, rfl⟩ | ⟨k, ⟨nb, rfl, hnb⟩, hbv⟩
        · refine ⟨_, rfl, rfl, _, rfl, iteNS rfl ?_⟩
          exact iteF ⟨sm2, wu _ _ (wT _ _ ez), step hb, _, _, rfl⟩
        · refine ⟨_, rfl, rfl, _, rfl, iteNN (by intro z; cases z) ?_⟩
          refine ⟨_, rfl, _, rfl, p, C, dx, _, _, rfl, sm2 _ _ h1, T.cl, T.nH, flds_held _ _, d, _, rfl, DGet.t (sm2 _ _ h2) hnb, _, rfl, ?_⟩
          cases hs : (valV kvs k).isSome with
          | true =>
            rw [hs] at hbv
            subst hbv
            exact iteF ⟨sm2, wu _ _ (wT _ _ ez), step hb, _, _, rfl⟩
          | false =>
            rw [hs] at hbv
            subst hbv
            refine iteT ?_
            refine ⟨_, rfl, size63 (Nat.le_of_ble_eq_true rfl), fun ea tt' e1 e2 nt => ⟨ea, tt', _, rfl, upd_same, fun dd hdd => ⟨rfl, some dd, upd_same, ?_⟩⟩⟩
            obtain ⟨a1, a2⟩ := after_ni (v := V.ref nb) e1 hdd
            exact qni i w' _ hw hv c hb pre2 _ dd (sm2.trans a1) a2
      · refine iteF ⟨sm2, wu _ _ (wT _ _ ez), fun j w'' hj hw'' hi => ?_, _, _, rfl⟩
        by_cases c2 : j = i
        · rw [c2, hw] at hw''
          cases hw''
          exact absurd hi c
        · exact pre2 j w'' (by omega) hw'' hi
    · rintro σ H' ⟨sm, ez, pre2, o3, o4, rfl⟩
      exact qok (fun i w' hw hi => pre2 i w' (by rw [List.length_map]; exact (List.getElem?_eq_some_iff.mp hw).1) hw hi) H' sm
/-- an item that is there, or the refusal of one that isn't -/
def spItemX (C cN : Addr) : Sp := fun vs H Q E => ∃ (p d g : Addr) (kvs gvs : List (List Key × V)) (nm : V) (k : List Key), vs = [.ref p, nm] ∧ PlainAt C H p d g kvs gvs ∧ NameIs H nm k ∧ (∀ v, valV kvs k = some v → Q v H) ∧
  (valV kvs k = none → ∀ H' dd, Same H H' → H' dd = some (.xd [("name", nm)]) → E (.ref cN) (some dd) H')
theorem ok_Plain_itemX {f C cN : Addr} {fd : FuncData} {bm : List Value} (F : Fun K "item" "Plain.item" s_Plain_item f fd) (T : Txt K C) (xi_NoItem : ExI P w K mg base 1 cN bm ["self", "name"] (spNI cN)) (g_NoItem : mg "NoItem" = some (.ref cN)) :
    FnOk P w K mg base (CXr P w) 3 f fd ["self", "name"] (spItemX C cN) := by
  refine F.okX sc_Plain_item (fun vs H Q E h => ?_) (fun cdv A outer s H vs Q E hr h => ?_)
  · obtain ⟨p, d, g, kvs, gvs, nm, k, rfl, _⟩ := h
    rfl
  obtain ⟨p, d, g, kvs, gvs, nm, k, rfl, S, ⟨b, rfl, hb⟩, q1, q2⟩ := h
  obtain ⟨⟨dx, h1⟩, h2, h3, h4⟩ := id S
  refine ⟨_, (b_c (s_if (t_dnotin hr.units (q_v 1) (q_fld (q_v 0))) (b_1 (s_raiseJ raisesA_fn rfl xi_NoItem (hr.mono (by decide)) g_NoItem (q_a (q_v 1) q_a0))) b_0)
      (b_1 (s_ret (q_dget hr.units (q_fld (q_v 0)) (q_v 1))))), ?_⟩
  refine ⟨_, rfl, _, rfl, p, C, dx, _, _, rfl, h1, T.cl, T.nH, flds_held _ _, d, _, rfl, DGet.t h2 hb, _, rfl, ?_⟩
  cases hv : valV kvs k with
  | some v => exact iteF ⟨_, rfl, p, C, dx, _, _, rfl, h1, T.cl, T.nH, flds_held _ _, _, rfl, d, v, rfl, hv ▸ DGet.t h2 hb, q1 v hv⟩
  | none =>
    refine iteT ?_
    refine ⟨_, rfl, size63 (Nat.le_of_ble_eq_true rfl), fun ea tt' e1 e2 nt => ⟨ea, tt', _, rfl, upd_same, fun dd hdd => ⟨rfl, some dd, upd_same, ?_⟩⟩⟩
    obtain ⟨a1, a2⟩ := after_ni (v := V.ref b) e1 hdd
    exact q2 hv _ dd a1 a2
def UpOk (H : Hp) (kvs : List (List Key × V)) (up : V) : Prop := up = .non ∨ ∃ k, NameIs H up k ∧ (valV kvs k).isSome = true
def spBounds (C : Addr) : Sp := fun vs H Q _ => ∃ (p st : Addr) (w : Str) (ps : List V), vs = [.ref p, .ref st] ∧ H st = some (.tup (.str w :: ps)) ∧ V.str w ≠ V.str "move" ∧ V.str w ≠ V.str "join" ∧ V.str w ≠ V.str "part" ∧ Q .non H
abbrev s_Plain_at_or_beneath : Stmt := inClass (top 16) 12
abbrev N_Plain_at_or_beneath : List Str := ["self", "one", "other"]
theorem sc_Plain_at_or_beneath : FnScope N_Plain_at_or_beneath ["self", "one", "other"] (defScope s_Plain_at_or_beneath) := ⟨rfl, rfl, rfl, by decide +kernel, rfl, by decide +kernel, by decide +kernel⟩
abbrev s_Plain_check_bounds : Stmt := inClass (top 16) 3
abbrev N_Plain_check_bounds : List Str := ["self", "step"]
theorem sc_Plain_check_bounds : FnScope N_Plain_check_bounds ["self", "step"] (defScope s_Plain_check_bounds) := ⟨rfl, rfl, rfl, by decide +kernel, rfl, by decide +kernel, by decide +kernel⟩
theorem ok_Plain_check_bounds {f C : Addr} {fd : FuncData} (F : Fun K "check_bounds" "Plain.check_bounds" s_Plain_check_bounds f fd) (M_at_or_beneath : MFn P w K mg base 1 C "at_or_beneath" ["self", "one", "other"] spNever) {tk : Tok} (g_TEXT : mg "TEXT" = some (.int 2 tk)) (z_len : mg "len" = none) :
    FnOk P w K mg base CX0 2 f fd ["self", "step"] (spBounds C) := by
  refine F.okQ sc_Plain_check_bounds (fun vs H Q E h => ?_) (fun cdv A outer s H vs Q E hr h => ?_)
  · obtain ⟨p, st, wd, ps, rfl, _⟩ := h
    rfl
  obtain ⟨p, st, wd, ps, rfl, hst, n1, n2, n3, q⟩ := h
  refine ⟨_, (b_c (s_if (t_w (w_and (t_cmp o_eq (q_ix x_tup (q_v 1) q_int) q_str) (w_and1 (t_val (q_meth M_at_or_beneath (hr.mono (by decide)) (q_v 0) (q_a (q_ix x_tup (q_v 1) q_int) (q_a (q_ix x_tup (q_v 1) q_int) q_a0))))))) (b_1 s_never) b_0)
      (b_c (s_if (t_w (w_and (t_cmp o_eq (q_ix x_tup (q_v 1) q_int) q_str) (w_and1 (t_val (q_meth M_at_or_beneath (hr.mono (by decide)) (q_v 0) (q_a (q_ix x_tup (q_v 1) q_int) (q_a (q_ix x_tup (q_v 1) q_int) q_a0))))))) (b_1 s_never) b_0)
      (b_1 (s_if (t_w (w_and (t_cmp o_eq (q_ix x_tup (q_v 1) q_int) q_str) (w_and1 (t_cmp o_gt (q_ix x_tup (q_v 1) q_int) (q_B c_lenS z_len PySem.boot_len (q_a (q_ix x_tup (q_dget hr.units (q_fld (q_v 0)) (q_ix x_tup (q_v 1) q_int)) (q_gI g_TEXT)) q_a0)))))) (b_1 s_never) b_0)))), ?_⟩
  refine ⟨_, rfl, st, _, _, _, rfl, rfl, SqT.of hst, at0, rfl, _, rfl, iteU n1 (iteF ?_)⟩
  refine ⟨_, rfl, st, _, _, _, rfl, rfl, SqT.of hst, at0, rfl, _, rfl, iteU n2 (iteF ?_)⟩
  exact ⟨_, rfl, st, _, _, _, rfl, rfl, SqT.of hst, at0, rfl, _, rfl, iteU n3 (iteF q)⟩
theorem two_get {α : Type} {a b c : α} {i : Nat} (h : [a, b][i]? = some c) : (i = 0 ∧ c = a) ∨ (i = 1 ∧ c = b) := by
  rcases i with _ | _ | i
  · cases h; exact .inl ⟨rfl, rfl⟩
  · cases h; exact .inr ⟨rfl, rfl⟩
  · simp at h
theorem four_get {α : Type} {a b c d e : α} {i : Nat} (h : [a, b, c, d][i]? = some e) : (i = 0 ∧ e = a) ∨ (i = 1 ∧ e = b) ∨ (i = 2 ∧ e = c) ∨ (i = 3 ∧ e = d) := by
  rcases i with _ | _ | _ | _ | i
  · cases h; exact .inl ⟨rfl, rfl⟩
  · cases h; exact .inr (.inl ⟨rfl, rfl⟩)
  · cases h; exact .inr (.inr (.inl ⟨rfl, rfl⟩))
  · cases h; exact .inr (.inr (.inr ⟨rfl, rfl⟩))
  · simp at h
theorem no_m (h a : Addr) {m : Str} (h1 : ¬ m = "away" := by decide +kernel) (h2 : ¬ m = "held" := by decide +kernel) : (flds h a).lookup m = none := flds_no h a h1 h2
/-! ### items as data -/
theorem len_app (x y : Str) : (x ++ y).length = x.length + y.length := by
  show (x.cps ++ y.cps).size = _
  rw [Array.size_append]
  rfl
theorem ok_app {x y : Str} (h1 : PyData.strOk x = true) (h2 : PyData.strOk y = true) : PyData.strOk (x ++ y) = true := by
  show (x.cps ++ y.cps).all (· < 0x110000) = true
  rw [Array.all_append, Bool.and_eq_true]
  exact ⟨h1, h2⟩
/-- what is put above -/
def UpV (H : Hp) (up : V) : Prop := up = .non ∨ ∃ b i j, up = .ref b ∧ H b = some (.tup [.int i, .int j])
def TS (H H' : Hp) : Prop := ∀ a zs, H a = some (.tup zs) → H' a = some (.tup zs)
theorem Same.ts {H H' : Hp} (e : Same H H') : TS H H' := fun a zs h => e a _ h
theorem ts_dic {H : Hp} {d : Addr} {kvs kvs' : List (List Key × V)} (h : H d = some (.dT kvs)) : TS H (upd H d (.dT kvs')) := fun a zs e => by
  rw [upd_ne (ne_of e h (by intro z; cases z))]
  exact e
/-- an item's six things -/
def ItemV (H : Hp) (xs : List V) : Prop := ∃ (up wh : V) (sp : Addr) (ns : List Int) (t : Str) (d f : Bool), xs = [up, .ref sp, .str t, .bl d, wh, .bl f] ∧ UpV H up ∧ H sp = some (.tup (ns.map V.int)) ∧ PyData.strOk t = true ∧ (wh = .non ∨ ∃ i, wh = .int i)
theorem UpV.ts {H H' : Hp} {up : V} (x : UpV H up) (s : TS H H') : UpV H' up := x.imp id fun ⟨b, i, j, h1, h2⟩ => ⟨b, i, j, h1, s _ _ h2⟩
theorem ItemV.ts {H H' : Hp} {xs : List V} (x : ItemV H xs) (s : TS H H') : ItemV H' xs := by
  obtain ⟨up, wh, sp, ns, t, d, f, h1, h2, h3, h4, h5⟩ := x
  exact ⟨up, wh, sp, ns, t, d, f, h1, h2.ts s, s _ _ h3, h4, h5⟩
theorem dt_nums {H : Hp} : ∀ ns : List Int, DtAll H (ns.map PyData.int) (ns.map V.int)
  | [] => by simp [DtAll]
  | n :: ns => by
    simp only [List.map_cons, DtAll]
    exact ⟨_, _, rfl, by simp only [Dt], dt_nums ns⟩
theorem lay_nums : ∀ ns : List Int, PyData.canLayAll0 (ns.map PyData.int) = true ∧ PyData.depthAll (ns.map PyData.int) = 0
  | [] => ⟨rfl, rfl⟩
  | n :: ns => by
    obtain ⟨h1, h2⟩ := lay_nums ns
    simp only [List.map_cons, PyData.canLayAll0, PyData.canLay0, PyData.depthAll, PyData.depth, h1, h2]
    exact ⟨rfl, rfl⟩
theorem UpV.data {H : Hp} {up : V} (x : UpV H up) : ∃ d, Dt H d up ∧ d.canLay0 = true ∧ d.depth ≤ 1 := by
  rcases x with rfl | ⟨b, i, j, rfl, h⟩
  · exact ⟨.none, by simp only [Dt], rfl, by simp [PyData.depth]⟩
  · refine ⟨.tuple [.int i, .int j], ?_, by simp [PyData.canLay0, PyData.canLayAll0], by simp [PyData.depth, PyData.depthAll]⟩
    simp only [Dt, DtAll]
    exact ⟨b, _, rfl, .inl h, _, _, rfl, rfl, _, _, rfl, rfl, rfl⟩
/-- the data of an item: the same for each tuple that holds these six things -/
theorem ItemV.data {H : Hp} {xs : List V} (x : ItemV H xs) : ∃ d, (∀ a, H a = some (.tup xs) → Dt H d (.ref a)) ∧ d.canLay0 = true ∧ d.depth ≤ 3 := by
  obtain ⟨up, wh, sp, ns, t, dn, f, rfl, h2, h3, h4, h5⟩ := x
  obtain ⟨du, u1, u2, u3⟩ := h2.data
  obtain ⟨l1, l2⟩ := lay_nums ns
  obtain ⟨dw, w1, w2, w3⟩ : ∃ dw, Dt H dw wh ∧ dw.canLay0 = true ∧ dw.depth = 0 := by
    rcases h5 with rfl | ⟨i, rfl⟩
    · exact ⟨.none, by simp only [Dt], rfl, rfl⟩
    · exact ⟨.int i, by simp only [Dt], rfl, rfl⟩
  refine ⟨.tuple [du, .tuple (ns.map PyData.int), .str t, .bool dn, dw, .bool f], fun a ha => ?_, by simp [PyData.canLay0, PyData.canLayAll0, u2, l1, h4, w2], ?_⟩
  · have hp : Dt H (.tuple (ns.map PyData.int)) (.ref sp) := by
      simp only [Dt]
      exact ⟨sp, _, rfl, .inl h3, dt_nums ns⟩
    have e : DtAll H [du, .tuple (ns.map PyData.int), .str t, .bool dn, dw, .bool f] [up, .ref sp, .str t, .bl dn, wh, .bl f] := by
      unfold DtAll
      refine ⟨_, _, rfl, u1, ?_⟩
      unfold DtAll
      refine ⟨_, _, rfl, hp, ?_⟩
      simp only [DtAll, Dt]
      exact ⟨_, _, rfl, rfl, _, _, rfl, rfl, _, _, rfl, w1, _, _, rfl, rfl, rfl⟩
    unfold Dt
    exact ⟨a, _, rfl, .inl ha, e⟩
  · simp only [PyData.depth, PyData.depthAll, l2, w3]
    omega
theorem shaped_of {d : PyData} (h1 : d.canLay0 = true) (h2 : d.depth ≤ 10) : SeqAt.shaped d = true := by
  unfold SeqAt.shaped
  rw [Bool.and_eq_true]
  exact ⟨h1, decide_eq_true (by omega)⟩
/-- lists whose things have the same data -/
theorem lists_alike {H : Hp} {l m : Addr} {xs ys : List V} (hl : H l = some (.lst xs)) (hm : H m = some (.lst ys)) (h : Paired (fun x y => ∃ d, Dt H d x ∧ Dt H d y ∧ d.canLay0 = true ∧ d.depth ≤ 3) xs ys) :
    ∃ d, Dt H d (.ref l) ∧ Dt H d (.ref m) ∧ SeqAt.shaped d = true ∧ PyData.eqv d d = true := by
  have gen : ∃ ds, DtAll H ds xs ∧ DtAll H ds ys ∧ PyData.canLayAll0 ds = true ∧ PyData.depthAll ds ≤ 3 := by
    clear hl hm
    induction h with
    | nil => exact ⟨[], by simp [DtAll], by simp [DtAll], rfl, by simp [PyData.depthAll]⟩
    | cons r _ ih =>
      obtain ⟨ds, h1, h2, h3, h4⟩ := ih
      obtain ⟨d, r1, r2, r3, r4⟩ := r
      refine ⟨d :: ds, ?_, ?_, by simp [PyData.canLayAll0, h3, r3], ?_⟩
      · simp only [DtAll]
        exact ⟨_, _, rfl, r1, h1⟩
      · simp only [DtAll]
        exact ⟨_, _, rfl, r2, h2⟩
      · simp only [PyData.depthAll]
        omega
  obtain ⟨ds, h1, h2, h3, h4⟩ := gen
  have c : (PyData.list ds).canLay0 = true := by simpa [PyData.canLay0] using h3
  refine ⟨.list ds, ?_, ?_, shaped_of c (by simp only [PyData.depth]; omega), SeqAt.eqv_refl _ c⟩
  · simp only [Dt]
    exact ⟨l, xs, rfl, .inl hl, h1⟩
  · simp only [Dt]
    exact ⟨m, ys, rfl, .inl hm, h2⟩
/-- both dicts hold the same names, in their order, with the same six things -/
def Rl (H : Hp) (p q : List Key × V) : Prop := p.1 = q.1 ∧ ∃ a b xs, p.2 = .ref a ∧ q.2 = .ref b ∧ H a = some (.tup xs) ∧ H b = some (.tup xs) ∧ ItemV H xs
abbrev Both (H : Hp) (l m : List (List Key × V)) : Prop := Paired (Rl H) l m
theorem Rl.ts {H H' : Hp} {p q : List Key × V} (x : Rl H p q) (s : TS H H') : Rl H' p q := by
  obtain ⟨h1, a, b, xs, h2, h3, h4, h5, h6⟩ := x
  exact ⟨h1, a, b, xs, h2, h3, s _ _ h4, s _ _ h5, h6.ts s⟩
theorem Both.ts {H H' : Hp} {l m : List (List Key × V)} (x : Both H l m) (s : TS H H') : Both H' l m := Paired.mapP x fun _ _ z => z.ts s
theorem Both.keys {H : Hp} {l m : List (List Key × V)} (x : Both H l m) : l.map (·.1) = m.map (·.1) := by
  induction x with
  | nil => rfl
  | cons r _ ih => rw [List.map_cons, List.map_cons, ih, r.1]
theorem Both.get {H : Hp} {l m : List (List Key × V)} (x : Both H l m) {k : List Key} (hk : k ∈ l.map (·.1)) : ∃ a b xs, valV l k = some (.ref a) ∧ valV m k = some (.ref b) ∧ H a = some (.tup xs) ∧ H b = some (.tup xs) ∧ ItemV H xs := by
  induction x with
  | nil => exact nomatch hk
  | @cons p q _ _ r _ ih =>
    obtain ⟨h1, a, b, xs, h2, h3, h4, h5, h6⟩ := r
    by_cases c : p.1 = k
    · exact ⟨a, b, xs, by rw [valV_pos c, h2], by rw [valV_pos (h1 ▸ c), h3], h4, h5, h6⟩
    · obtain ⟨a', b', xs', z1, z2, z3⟩ := ih (by
        rw [List.map_cons] at hk
        exact (List.mem_cons.mp hk).resolve_left fun z => c z.symm)
      exact ⟨a', b', xs', by rw [valV_neg c]; exact z1, by rw [valV_neg (h1 ▸ c)]; exact z2, z3⟩
theorem none_of_not {l : List (List Key × V)} {k : List Key} (h : ¬ k ∈ l.map (·.1)) : valV l k = none := by
  cases e : valV l k with
  | none => rfl
  | some v => exact absurd (valV_in e) h
theorem some_of_in {l : List (List Key × V)} {k : List Key} (h : k ∈ l.map (·.1)) : (valV l k).isSome = true := by
  cases e : valV l k with
  | none => exact absurd h (valV_not e)
  | some v => rfl
theorem putK_old {l : List (List Key × V)} {k : List Key} (v : V) (h : k ∈ l.map (·.1)) : putK l k v = l.map (fun kv => if kv.1 = k then (kv.1, v) else kv) := by
  unfold putK
  rw [if_pos]
  rw [valV_any]
  exact some_of_in h
theorem keys_old {l : List (List Key × V)} {k : List Key} {v : V} (h : k ∈ l.map (·.1)) : (putK l k v).map (·.1) = l.map (·.1) := by
  rw [putK_old v h, List.map_map]
  refine List.map_congr_left fun p _ => ?_
  show (if p.1 = k then (p.1, v) else p).1 = p.1
  split <;> rfl
theorem Both.old {H : Hp} {l m : List (List Key × V)} (x : Both H l m) {k : List Key} {a b : Addr} {xs : List V} (hk : k ∈ l.map (·.1)) (ha : H a = some (.tup xs)) (hb : H b = some (.tup xs)) (hi : ItemV H xs) : Both H (putK l k (.ref a)) (putK m k (.ref b)) := by
  rw [putK_old _ hk, putK_old _ (x.keys ▸ hk)]
  clear hk
  induction x with
  | nil => exact .nil
  | @cons p q _ _ r _ ih =>
    rw [List.map_cons, List.map_cons]
    refine .cons ?_ ih
    by_cases c : p.1 = k
    · rw [if_pos c, if_pos (r.1 ▸ c)]
      exact ⟨r.1, a, b, xs, rfl, rfl, ha, hb, hi⟩
    · rw [if_neg c, if_neg (r.1 ▸ c)]
      exact r
theorem Both.new {H : Hp} {l m : List (List Key × V)} (x : Both H l m) {k : List Key} {a b : Addr} {xs : List V} (hk : ¬ k ∈ l.map (·.1)) (ha : H a = some (.tup xs)) (hb : H b = some (.tup xs)) (hi : ItemV H xs) :
    Both H (putK l k (.ref a)) (putK m k (.ref b)) ∧ (putK l k (.ref a)).map (·.1) = l.map (·.1) ++ [k] := by
  have h1 := none_of_not hk
  have h2 := none_of_not (x.keys ▸ hk : ¬ k ∈ m.map (·.1))
  rw [putK_new _ h1, putK_new _ h2]
  exact ⟨Paired.snoc x ⟨rfl, a, b, xs, rfl, rfl, ha, hb, hi⟩, by rw [List.map_append]; rfl⟩
theorem ka_get {H : Hp} {kvs : List (List Key × V)} {ks : List V} (r : KeysAt H kvs ks) : ∀ {i : Nat} {v : V}, ks[i]? = some v → ∃ k, (kvs.map (·.1))[i]? = some k ∧ NameIs H v k := by
  unfold KeysAt at r
  induction r with
  | nil => intro i v h; simp at h
  | @cons p q _ _ h _ ih =>
    intro i v e
    cases i with
    | zero =>
      cases e
      obtain ⟨b, e1, e2⟩ := h
      exact ⟨p.1, rfl, b, e1, e2⟩
    | succ i => exact ih e
theorem ka_len {H : Hp} {kvs : List (List Key × V)} {ks : List V} (r : KeysAt H kvs ks) : ks.length = kvs.length := (Paired.length r).symm
theorem ka_ts {H H' : Hp} {kvs : List (List Key × V)} {ks : List V} (r : KeysAt H kvs ks) (s : TS H H') : KeysAt H' kvs ks := Paired.mapP r fun _ _ ⟨b, h1, h2⟩ => ⟨b, h1, s _ _ h2⟩
/-- a name of two numbers -/
def IsNm (k : List Key) : Prop := ∃ i j : Int, k = [.inl i, .inl j]
theorem nm_data {H : Hp} {v u : V} {k : List Key} (hk : IsNm k) (hv : NameIs H v k) (hu : NameIs H u k) : ∃ d, Dt H d v ∧ Dt H d u ∧ d.canLay0 = true ∧ d.depth ≤ 3 := by
  obtain ⟨i, j, rfl⟩ := hk
  obtain ⟨b, rfl, h1⟩ := hv
  obtain ⟨c, rfl, h2⟩ := hu
  refine ⟨.tuple [.int i, .int j], ?_, ?_, by simp [PyData.canLay0, PyData.canLayAll0], by simp [PyData.depth, PyData.depthAll]⟩
  · simp only [Dt, DtAll]
    exact ⟨b, _, rfl, .inl h1, _, _, rfl, rfl, _, _, rfl, rfl, rfl⟩
  · simp only [Dt, DtAll]
    exact ⟨c, _, rfl, .inl h2, _, _, rfl, rfl, _, _, rfl, rfl, rfl⟩
theorem keys_alike {H : Hp} {kvs kvs' : List (List Key × V)} {ks ks' : List V} (r : KeysAt H kvs ks) (r' : KeysAt H kvs' ks') (e : kvs.map (·.1) = kvs'.map (·.1)) (hn : ∀ k ∈ kvs.map (·.1), IsNm k) :
    Paired (fun x y => ∃ d, Dt H d x ∧ Dt H d y ∧ d.canLay0 = true ∧ d.depth ≤ 3) ks ks' := by
  unfold KeysAt at r r'
  induction r generalizing kvs' ks' with
  | nil =>
    cases r' with
    | nil => exact .nil
    | cons _ _ => cases e
  | @cons p q _ _ h _ ih =>
    cases r' with
    | nil => cases e
    | @cons p' q' _ _ h' t' =>
      rw [List.map_cons, List.map_cons] at e
      injection e with e1 e2
      refine .cons ?_ (ih t' e2 fun k hk => hn k (by rw [List.map_cons]; exact List.mem_cons_of_mem _ hk))
      have hp : IsNm p.1 := hn _ (by rw [List.map_cons]; exact List.mem_cons_self)
      exact nm_data hp h (e1 ▸ h')
/-! ### the outline as plain data -/
abbrev Nm := Int × Int
structure It where
  up : Option Nm
  pl : List Int
  tx : Str
  dn : Bool
  wh : Option Int
  fo : Bool
abbrev Ol := List (Nm × It)
def nk (n : Nm) : List Key := [.inl n.1, .inl n.2]
theorem nk_inj {n m : Nm} (h : nk n = nk m) : n = m := by
  unfold nk at h
  injection h with h1 h2
  injection h2 with h2 _
  injection h1 with h1
  injection h2 with h2
  exact Prod.ext h1 h2
abbrev As (β : Type) := List (Nm × β)
def look {β : Type} : As β → Nm → Option β
  | [], _ => none
  | p :: l, n => if p.1 = n then some p.2 else look l n
def setO {β : Type} (l : As β) (n : Nm) (i : β) : As β := if (look l n).isSome = true then l.map (fun p => if p.1 = n then (p.1, i) else p) else l ++ [(n, i)]
def UpAt (H : Hp) (v : V) : Option Nm → Prop
  | none => v = .non
  | some n => NameIs H v (nk n)
def PlAt (H : Hp) (v : V) (ns : List Int) : Prop := ∃ b, v = .ref b ∧ H b = some (.tup (ns.map V.int))
def whV : Option Int → V
  | none => .non
  | some i => .int i
def ItAt (H : Hp) (v : V) (it : It) : Prop := ∃ (a : Addr) (uv pv : V), v = .ref a ∧ H a = some (.tup [uv, pv, .str it.tx, .bl it.dn, whV it.wh, .bl it.fo]) ∧ UpAt H uv it.up ∧ PlAt H pv it.pl
theorem NameIs.ts' {H H' : Hp} {v : V} {k : List Key} (x : NameIs H v k) (s : TS H H') : NameIs H' v k := by
  obtain ⟨b, h1, h2⟩ := x
  exact ⟨b, h1, s _ _ h2⟩
theorem UpAt.ts {H H' : Hp} {v : V} {u : Option Nm} (x : UpAt H v u) (s : TS H H') : UpAt H' v u := by
  cases u with
  | none => exact x
  | some n => exact NameIs.ts' x s
theorem PlAt.ts {H H' : Hp} {v : V} {ns : List Int} (x : PlAt H v ns) (s : TS H H') : PlAt H' v ns := by
  obtain ⟨b, h1, h2⟩ := x
  exact ⟨b, h1, s _ _ h2⟩
theorem ItAt.ts {H H' : Hp} {v : V} {it : It} (x : ItAt H v it) (s : TS H H') : ItAt H' v it := by
  obtain ⟨a, uv, pv, h1, h2, h3, h4⟩ := x
  exact ⟨a, uv, pv, h1, s _ _ h2, h3.ts s, h4.ts s⟩
/-- a dict whose keys are names: its things are those of the list -/
abbrev Rws {β : Type} (R : V → β → Prop) (kvs : List (List Key × V)) (ol : As β) : Prop := Paired (fun p q => p.1 = nk q.1 ∧ R p.2 q.2) kvs ol
abbrev Rows (H : Hp) (kvs : List (List Key × V)) (ol : Ol) : Prop := Rws (ItAt H) kvs ol
theorem Rows.ts {H H' : Hp} {kvs : List (List Key × V)} {ol : Ol} (x : Rows H kvs ol) (s : TS H H') : Rows H' kvs ol := Paired.mapP x fun _ _ z => ⟨z.1, z.2.ts s⟩
section
variable {β : Type} {R : V → β → Prop} {kvs : List (List Key × V)} {ol : As β} {n : Nm} {it : β} {v : V}
theorem rows_none (x : Rws R kvs ol) (h : look ol n = none) : valV kvs (nk n) = none := by
  induction x with
  | nil => rfl
  | @cons p q _ _ r _ ih =>
    unfold look at h
    by_cases c : q.1 = n
    · rw [if_pos c] at h
      cases h
    · rw [if_neg c] at h
      rw [valV_neg fun z => c (nk_inj (r.1.symm.trans z))]
      exact ih h
theorem rows_some (x : Rws R kvs ol) (h : look ol n = some it) : ∃ v, valV kvs (nk n) = some v ∧ R v it := by
  induction x with
  | nil => cases h
  | @cons p q _ _ r _ ih =>
    unfold look at h
    by_cases c : q.1 = n
    · rw [if_pos c] at h
      cases h
      exact ⟨p.2, valV_pos (r.1.trans (congrArg nk c)), r.2⟩
    · rw [if_neg c] at h
      rw [valV_neg fun z => c (nk_inj (r.1.symm.trans z))]
      exact ih h
theorem rows_is (x : Rws R kvs ol) : (valV kvs (nk n)).isSome = (look ol n).isSome := by
  cases e : look ol n with
  | none => rw [rows_none x e]; rfl
  | some it =>
    obtain ⟨v, h, _⟩ := rows_some x e
    rw [h]
    rfl
theorem rows_put (x : Rws R kvs ol) (hv : R v it) : Rws R (putK kvs (nk n) v) (setO ol n it) := by
  unfold setO
  cases e : look ol n with
  | none =>
    rw [putK_new _ (rows_none x e), if_neg (by simp)]
    exact Paired.snoc x ⟨rfl, hv⟩
  | some it0 =>
    obtain ⟨v0, h0, _⟩ := rows_some x e
    rw [putK_old _ (valV_in h0), if_pos (show (some it0).isSome = true from rfl)]
    clear e h0
    induction x with
    | nil => exact .nil
    | @cons p q _ _ r _ ih =>
      rw [List.map_cons, List.map_cons]
      refine .cons ?_ ih
      by_cases c : p.1 = nk n
      · rw [if_pos c, if_pos (nk_inj (r.1.symm.trans c))]
        exact ⟨r.1, hv⟩
      · rw [if_neg c, if_neg fun z => c (r.1.trans (congrArg nk z))]
        exact r
theorem rows_len (x : Rws R kvs ol) : kvs.length = ol.length := Paired.length x
end
/-- the outline at p is ol -/
def OlAt (C : Addr) (H : Hp) (p d g : Addr) (ol : Ol) : Prop := ∃ kvs, PlainAt C H p d g kvs [] ∧ Rows H kvs ol
theorem OlAt.same {C : Addr} {H H' : Hp} {p d g : Addr} {ol : Ol} (x : OlAt C H p d g ol) (s : Same H H') : OlAt C H' p d g ol := by
  obtain ⟨kvs, h1, h2⟩ := x
  exact ⟨kvs, h1.same s, h2.ts (Same.ts s)⟩
/-- all stays but the dict -/
theorem But.ts {d : Addr} {H H' : Hp} {kvs : List (List Key × V)} (x : But d H H') (h : H d = some (.dT kvs)) : TS H H' := fun a zs e => x a _ e (ne_of e h (by intro z; cases z))
theorem But.put {d : Addr} {H H' : Hp} (s : Same H H') (o : HO) : But d H (upd H' d o) := fun b u h n => by
  rw [upd_ne n]
  exact s _ _ h
theorem But.trans {d : Addr} {H H' H2 : Hp} (x : But d H H') (y : But d H' H2) : But d H H2 := fun b u h n => y b u (x b u h n) n
theorem But.of {d : Addr} {H H' : Hp} (s : Same H H') : But d H H' := fun b u h _ => s b u h
theorem ol_put {C : Addr} {H H' : Hp} {p d g t : Addr} {kvs : List (List Key × V)} {ol : Ol} {n : Nm} {it : It} (S : PlainAt C H p d g kvs []) (R : Rows H kvs ol) (s : Same H H') (hi : ItAt H' (.ref t) it) : OlAt C (upd H' d (.dT (putK kvs (nk n) (.ref t)))) p d g (setO ol n it) := by
  have td : TS H' (upd H' d (.dT (putK kvs (nk n) (.ref t)))) := ts_dic (s _ _ S.dc)
  exact ⟨_, (S.same s).put, Rows.ts (rows_put (Rows.ts R (Same.ts s)) hi) td⟩
/-! ### at or beneath -/
inductive Und (ol : Ol) (o : Nm) : Nat → Option Nm → Bool → Prop
  | none : Und ol o 0 none false
  | self : Und ol o 0 (some o) true
  | up {k : Nat} {n : Nm} {it : It} {b : Bool} : n ≠ o → look ol n = some it → Und ol o k it.up b → Und ol o (k + 1) (some n) b
def spUnder (C : Addr) : Sp := fun vs H Q _ => ∃ (p d g : Addr) (ol : Ol) (u v : V) (one : Option Nm) (o : Nm) (k : Nat) (b : Bool), vs = [.ref p, u, v] ∧ OlAt C H p d g ol ∧ UpAt H u one ∧ NameIs H v (nk o) ∧ Und ol o k one b ∧ Q (.bl b) H
theorem ok_Plain_at_or_beneath {f C : Addr} {fd : FuncData} (F : Fun K "at_or_beneath" "Plain.at_or_beneath" s_Plain_at_or_beneath f fd) (T : Txt K C) {tk : Tok} (g_UP : mg "UP" = some (.int 0 tk)) : FnOk P w K mg base CX0 1 f fd ["self", "one", "other"] (spUnder C) := by
  refine F.okQ sc_Plain_at_or_beneath (fun vs H Q E h => ?_) (fun cdv A outer s H vs Q E hr h => ?_)
  · obtain ⟨p, d, g, ol, u, v, one, o, k, b, rfl, _⟩ := h
    rfl
  obtain ⟨p, d, g, ol, u, v, one, o, k, b, rfl, ⟨kvs, S, R⟩, hu, hv, un, q⟩ := h
  obtain ⟨⟨dx, h1⟩, h2, h3, h4⟩ := id S
  obtain ⟨vb, rfl, hvb⟩ := id hv
  refine ⟨_, (b_c (s_while PassesOwn.never (t_w (w_and (t_cmp o_notN (q_v 1) q_non) (w_and1 (t_cmp (o_neTI hr.units) (q_v 1) (q_v 2))))) (b_1 (s_set (i := 1) sc_Plain_at_or_beneath.nd (q_ix x_tup (q_dget hr.units (q_fld (q_v 0)) (q_v 1)) (q_gI g_UP)))))
      (b_1 (s_ret (q_cmp o_notN (q_v 1) q_non)))), ?_⟩
  refine ⟨fun m σ H' => H' = H ∧ ∃ (u : V) (one : Option Nm), UpAt H u one ∧ Und ol o m one b ∧ σ = [some (.ref p), some u, some (.ref vb)], ⟨k, rfl, u, one, hu, un, rfl⟩, ?_⟩
  rintro m σ H' ⟨rfl, u, one, hu, un, rfl⟩
  cases un with
  | none =>
    obtain rfl : u = .non := hu
    refine ⟨_, rfl, rfl, _, rfl, iteNS rfl (iteF ?_)⟩
    exact ⟨_, rfl, rfl, q⟩
  | self =>
    obtain ⟨ub, rfl, hub⟩ := id hu
    refine ⟨_, rfl, rfl, _, rfl, iteNN (by intro z; cases z) ?_⟩
    refine ⟨_, rfl, _, rfl, ub, vb, [o.1, o.2], [o.1, o.2], rfl, rfl, hub, hvb, _, rfl, ?_⟩
    rw [decide_eq_true rfl]
    refine iteF ?_
    exact ⟨_, rfl, rfl, q⟩
  | @up m n it _ hn hl un =>
    obtain ⟨ub, rfl, hub⟩ := id hu
    obtain ⟨iv, e1, ia, uv, pv, rfl, e2, e3, e4⟩ := rows_some R hl
    refine ⟨_, rfl, rfl, _, rfl, iteNN (by intro z; cases z) ?_⟩
    refine ⟨_, rfl, _, rfl, ub, vb, [n.1, n.2], [o.1, o.2], rfl, rfl, hub, hvb, _, rfl, ?_⟩
    have : ¬ ([n.1, n.2] = [o.1, o.2]) := fun z => hn (by
      injection z with z1 z2
      injection z2 with z2 _
      exact Prod.ext z1 z2)
    rw [decide_eq_false this]
    refine iteT ?_
    refine ⟨fun σ H2 => H2 = H' ∧ σ = [some (.ref p), some uv, some (.ref vb)], ?_, ?_⟩
    · rintro σ' H2 ⟨rfl, rfl⟩
      exact ⟨m, Nat.lt_succ_self m, rfl, uv, it.up, e3, un, rfl⟩
    · refine ⟨_, rfl, p, C, dx, _, _, rfl, h1, T.cl, T.nH, flds_held _ _, _, rfl, d, .ref ia, rfl, e1 ▸ DGet.t (k := nk n) h2 hub, ?_⟩
      exact ⟨ia, _, _, _, rfl, rfl, SqT.of e2, at0, rfl, rfl⟩
/-! ### steps as plain data -/
inductive Sd
  | put (n : Nm) (u : Option Nm) (pl : List Int) (tx : Str)
  | move (n : Nm) (u : Option Nm) (pl : List Int)
  | write (n : Nm) (tx : Str)
  | mark (n : Nm) (b : Bool)
  | due (n : Nm) (w : Option Int)
  | fold (n : Nm) (b : Bool)
  | part (n : Nm) (a : Int) (m : Nm) (pl : List Int)
  | join (n m : Nm)
def StAt (H : Hp) (st : Addr) : Sd → Prop
  | .put n u pl tx => ∃ nv uv pv, H st = some (.tup [.str "put", nv, uv, pv, .str tx]) ∧ NameIs H nv (nk n) ∧ UpAt H uv u ∧ PlAt H pv pl
  | .move n u pl => ∃ nv uv pv, H st = some (.tup [.str "move", nv, uv, pv]) ∧ NameIs H nv (nk n) ∧ UpAt H uv u ∧ PlAt H pv pl
  | .write n tx => ∃ nv, H st = some (.tup [.str "write", nv, .str tx]) ∧ NameIs H nv (nk n)
  | .mark n b => ∃ nv, H st = some (.tup [.str "mark", nv, .bl b]) ∧ NameIs H nv (nk n)
  | .due n w => ∃ nv, H st = some (.tup [.str "due", nv, whV w]) ∧ NameIs H nv (nk n)
  | .fold n b => ∃ nv, H st = some (.tup [.str "fold", nv, .bl b]) ∧ NameIs H nv (nk n)
  | .part n a m pl => ∃ nv mv pv, H st = some (.tup [.str "part", nv, .int a, mv, pv]) ∧ NameIs H nv (nk n) ∧ NameIs H mv (nk m) ∧ PlAt H pv pl
  | .join n m => ∃ nv mv, H st = some (.tup [.str "join", nv, mv]) ∧ NameIs H nv (nk n) ∧ NameIs H mv (nk m)
theorem StAt.ts {H H' : Hp} {st : Addr} {s : Sd} (x : StAt H st s) (t : TS H H') : StAt H' st s := by
  cases s with
  | put => obtain ⟨nv, uv, pv, h1, h2, h3, h4⟩ := x; exact ⟨nv, uv, pv, t _ _ h1, h2.ts' t, h3.ts t, h4.ts t⟩
  | move => obtain ⟨nv, uv, pv, h1, h2, h3, h4⟩ := x; exact ⟨nv, uv, pv, t _ _ h1, h2.ts' t, h3.ts t, h4.ts t⟩
  | write => obtain ⟨nv, h1, h2⟩ := x; exact ⟨nv, t _ _ h1, h2.ts' t⟩
  | mark => obtain ⟨nv, h1, h2⟩ := x; exact ⟨nv, t _ _ h1, h2.ts' t⟩
  | due => obtain ⟨nv, h1, h2⟩ := x; exact ⟨nv, t _ _ h1, h2.ts' t⟩
  | fold => obtain ⟨nv, h1, h2⟩ := x; exact ⟨nv, t _ _ h1, h2.ts' t⟩
  | part => obtain ⟨nv, mv, pv, h1, h2, h3, h4⟩ := x; exact ⟨nv, mv, pv, t _ _ h1, h2.ts' t, h3.ts' t, h4.ts t⟩
  | join => obtain ⟨nv, mv, h1, h2, h3⟩ := x; exact ⟨nv, mv, t _ _ h1, h2.ts' t, h3.ts' t⟩
/-- the names that must be there -/
def Sd.items : Sd → List Nm
  | .put _ u _ _ => u.toList
  | .move n u _ => n :: u.toList
  | .write n _ => [n]
  | .mark n _ => [n]
  | .due n _ => [n]
  | .fold n _ => [n]
  | .part n _ _ _ => [n]
  | .join n m => [n, m]
/-- the name that must not be there -/
def Sd.news : Sd → List Nm
  | .put n _ _ _ => [n]
  | .part _ _ m _ => [m]
  | _ => []
/-- what a step may be refused for, its names being as they must -/
inductive Bd (ol : Ol) : Sd → Option Bool → Prop
  | put {n u pl tx} : Bd ol (.put n u pl tx) none
  | write {n tx} : Bd ol (.write n tx) none
  | mark {n b} : Bd ol (.mark n b) none
  | due {n w} : Bd ol (.due n w) none
  | fold {n b} : Bd ol (.fold n b) none
  | move {n u pl k b} : Und ol n k u b → Bd ol (.move n u pl) (if b = true then some true else none)
  | join {n m k b} : Und ol m k (some n) b → Bd ol (.join n m) (if b = true then some true else none)
  | part {n a m pl it} : look ol n = some it → Bd ol (.part n a m pl) (if (it.tx.length : Int) < a then some false else none)
/-- what comes of a step that is not refused -/
inductive Ap (ol : Ol) : Sd → Ol → Prop
  | put {n u pl tx} : Ap ol (.put n u pl tx) (setO ol n ⟨u, pl, tx, false, none, false⟩)
  | move {n u pl it} : look ol n = some it → Ap ol (.move n u pl) (setO ol n { it with up := u, pl := pl })
  | write {n tx it} : look ol n = some it → Ap ol (.write n tx) (setO ol n { it with tx := tx })
  | mark {n b it} : look ol n = some it → Ap ol (.mark n b) (setO ol n { it with dn := b })
  | due {n w it} : look ol n = some it → Ap ol (.due n w) (setO ol n { it with wh := w })
  | fold {n b it} : look ol n = some it → Ap ol (.fold n b) (setO ol n { it with fo := b })
  | part {n a m pl it} : look ol n = some it → Ap ol (.part n a m pl) (setO (setO ol n { it with tx := cutS it.tx none (some (if (0 : Int) > a then 0 else a)) }) m ⟨it.up, pl, cutS it.tx (some (if (0 : Int) > a then 0 else a)) none, false, none, false⟩)
  | join {n m ol'} : ol'.length = ol.length → Ap ol (.join n m) ol'
/-! ### the bounds -/
theorem bd_view {H : Hp} {st : Addr} {ol : Ol} {s : Sd} {r : Option Bool} (hs : StAt H st s) (hb : Bd ol s r) :
    (r = none ∧ ∃ wd ps, H st = some (.tup (.str wd :: ps)) ∧ V.str wd ≠ V.str "move" ∧ V.str wd ≠ V.str "join" ∧ V.str wd ≠ V.str "part") ∨
    (∃ n u k b nv uv pv, H st = some (.tup [.str "move", nv, uv, pv]) ∧ NameIs H nv (nk n) ∧ UpAt H uv u ∧ Und ol n k u b ∧ r = if b = true then some true else none) ∨
    (∃ n m k b nv mv, H st = some (.tup [.str "join", nv, mv]) ∧ NameIs H nv (nk n) ∧ NameIs H mv (nk m) ∧ Und ol m k (some n) b ∧ r = if b = true then some true else none) ∨
    (∃ n a it nv mv pv, H st = some (.tup [.str "part", nv, .int a, mv, pv]) ∧ NameIs H nv (nk n) ∧ look ol n = some it ∧ r = if (it.tx.length : Int) < a then some false else none) := by
  cases hb with
  | put => obtain ⟨nv, uv, pv, h1, _⟩ := hs; exact .inl ⟨rfl, _, _, h1, by decide +kernel, by decide +kernel, by decide +kernel⟩
  | write => obtain ⟨nv, h1, _⟩ := hs; exact .inl ⟨rfl, _, _, h1, by decide +kernel, by decide +kernel, by decide +kernel⟩
  | mark => obtain ⟨nv, h1, _⟩ := hs; exact .inl ⟨rfl, _, _, h1, by decide +kernel, by decide +kernel, by decide +kernel⟩
  | due => obtain ⟨nv, h1, _⟩ := hs; exact .inl ⟨rfl, _, _, h1, by decide +kernel, by decide +kernel, by decide +kernel⟩
  | fold => obtain ⟨nv, h1, _⟩ := hs; exact .inl ⟨rfl, _, _, h1, by decide +kernel, by decide +kernel, by decide +kernel⟩
  | move un => obtain ⟨nv, uv, pv, h1, h2, h3, _⟩ := hs; exact .inr (.inl ⟨_, _, _, _, nv, uv, pv, h1, h2, h3, un, rfl⟩)
  | join un => obtain ⟨nv, mv, h1, h2, h3⟩ := hs; exact .inr (.inr (.inl ⟨_, _, _, _, nv, mv, h1, h2, h3, un, rfl⟩))
  | part hl => obtain ⟨nv, mv, pv, h1, h2, h3, _⟩ := hs; exact .inr (.inr (.inr ⟨_, _, _, nv, mv, pv, h1, h2, hl, rfl⟩))
def spBoundsF (C cB cF : Addr) : Sp := fun vs H Q E => ∃ (p d g st : Addr) (ol : Ol) (s : Sd) (r : Option Bool), vs = [.ref p, .ref st] ∧ OlAt C H p d g ol ∧ StAt H st s ∧ Bd ol s r ∧ (∀ n it, look ol n = some it → it.tx.length ≤ 400) ∧ (r = some true → E (.ref cB) none H) ∧ (r = some false → E (.ref cF) none H) ∧ (r = none → Q .non H)
theorem ok_Plain_check_boundsX {f C cB cF : Addr} {fd : FuncData} (F : Fun K "check_bounds" "Plain.check_bounds" s_Plain_check_bounds f fd) (T : Txt K C) (M_at_or_beneath : MFn P w K mg base 1 C "at_or_beneath" ["self", "one", "other"] (spUnder C)) {tk : Tok} (g_TEXT : mg "TEXT" = some (.int 2 tk)) (z_len : mg "len" = none)
    (x_Beneath : ExCls K cB) (g_Beneath : mg "Beneath" = some (.ref cB)) (x_Far : ExCls K cF) (g_Far : mg "Far" = some (.ref cF)) : FnOk P w K mg base (CXr P w) 2 f fd ["self", "step"] (spBoundsF C cB cF) := by
  refine F.okX sc_Plain_check_bounds (fun vs H Q E h => ?_) (fun cdv A outer s H vs Q E hr h => ?_)
  · obtain ⟨p, d, g, st, ol, sd, r, rfl, _⟩ := h
    rfl
  obtain ⟨p, d, g, st, ol, sd, r, rfl, O, hs, hb, htx, q1, q2, q3⟩ := h
  obtain ⟨kvs, S, R⟩ := id O
  obtain ⟨⟨dx, h1⟩, h2, h3, h4⟩ := id S
  refine ⟨_, (b_c (s_if (t_w (w_and (t_cmp o_eq (q_ix x_tup (q_v 1) q_int) q_str) (w_and1 (t_val (q_meth M_at_or_beneath (hr.mono (by decide)) (q_v 0) (q_a (q_ix x_tup (q_v 1) q_int) (q_a (q_ix x_tup (q_v 1) q_int) q_a0))))))) (b_1 (s_raise (raisesA_made raisesA_fn) rfl x_Beneath g_Beneath (q_a q_str q_a0))) b_0)
      (b_c (s_if (t_w (w_and (t_cmp o_eq (q_ix x_tup (q_v 1) q_int) q_str) (w_and1 (t_val (q_meth M_at_or_beneath (hr.mono (by decide)) (q_v 0) (q_a (q_ix x_tup (q_v 1) q_int) (q_a (q_ix x_tup (q_v 1) q_int) q_a0))))))) (b_1 (s_raise (raisesA_made raisesA_fn) rfl x_Beneath g_Beneath (q_a q_str q_a0))) b_0)
      (b_1 (s_if (t_w (w_and (t_cmp o_eq (q_ix x_tup (q_v 1) q_int) q_str) (w_and1 (t_cmp o_gt (q_ix x_tup (q_v 1) q_int) (q_B c_lenS z_len PySem.boot_len (q_a (q_ix x_tup (q_dget hr.units (q_fld (q_v 0)) (q_ix x_tup (q_v 1) q_int)) (q_gI g_TEXT)) q_a0)))))) (b_1 (s_raise (raisesA_made raisesA_fn) rfl x_Far g_Far (q_a q_str q_a0))) b_0)))), ?_⟩
  rcases bd_view hs hb with ⟨hr', wd, ps, hst, n1, n2, n3⟩ | ⟨n, u, k, b, nv, uv, pv, hst, hn, hu, un, hr'⟩ | ⟨n, m, k, b, nv, mv, hst, hn, hm, un, hr'⟩ | ⟨n, a, it, nv, mv, pv, hst, hn, hl, hr'⟩
  · refine ⟨_, rfl, st, _, _, _, rfl, rfl, SqT.of hst, at0, rfl, _, rfl, iteU n1 (iteF ?_)⟩
    refine ⟨_, rfl, st, _, _, _, rfl, rfl, SqT.of hst, at0, rfl, _, rfl, iteU n2 (iteF ?_)⟩
    exact ⟨_, rfl, st, _, _, _, rfl, rfl, SqT.of hst, at0, rfl, _, rfl, iteU n3 (iteF (q3 hr'))⟩
  · refine ⟨_, rfl, st, _, _, _, rfl, rfl, SqT.of hst, at0, rfl, _, rfl, iteS ?_⟩
    refine ⟨_, rfl, p, dx, _, rfl, h1, no_m _ _, _, rfl, st, _, _, _, rfl, rfl, SqT.of hst, at2, _, rfl, st, _, _, _, rfl, rfl, SqT.of hst, at1, p, d, g, ol, uv, nv, u, n, k, b, rfl, O, hu, hn, un, _, rfl, ?_⟩
    cases b with
    | true => exact iteT ⟨size63 (Nat.le_of_ble_eq_true rfl), q1 hr'⟩
    | false =>
      refine iteF ?_
      refine ⟨_, rfl, st, _, _, _, rfl, rfl, SqT.of hst, at0, rfl, _, rfl, iteU (by decide +kernel) (iteF ?_)⟩
      exact ⟨_, rfl, st, _, _, _, rfl, rfl, SqT.of hst, at0, rfl, _, rfl, iteU (by decide +kernel) (iteF (q3 hr'))⟩
  · refine ⟨_, rfl, st, _, _, _, rfl, rfl, SqT.of hst, at0, rfl, _, rfl, iteU (by decide +kernel) (iteF ?_)⟩
    refine ⟨_, rfl, st, _, _, _, rfl, rfl, SqT.of hst, at0, rfl, _, rfl, iteS ?_⟩
    refine ⟨_, rfl, p, dx, _, rfl, h1, no_m _ _, _, rfl, st, _, _, _, rfl, rfl, SqT.of hst, at1, _, rfl, st, _, _, _, rfl, rfl, SqT.of hst, at2, p, d, g, ol, nv, mv, some n, m, k, b, rfl, O, hn, hm, un, _, rfl, ?_⟩
    cases b with
    | true => exact iteT ⟨size63 (Nat.le_of_ble_eq_true rfl), q1 hr'⟩
    | false =>
      refine iteF ?_
      exact ⟨_, rfl, st, _, _, _, rfl, rfl, SqT.of hst, at0, rfl, _, rfl, iteU (by decide +kernel) (iteF (q3 hr'))⟩
  · refine ⟨_, rfl, st, _, _, _, rfl, rfl, SqT.of hst, at0, rfl, _, rfl, iteU (by decide +kernel) (iteF ?_)⟩
    refine ⟨_, rfl, st, _, _, _, rfl, rfl, SqT.of hst, at0, rfl, _, rfl, iteU (by decide +kernel) (iteF ?_)⟩
    refine ⟨_, rfl, st, _, _, _, rfl, rfl, SqT.of hst, at0, rfl, _, rfl, iteS ?_⟩
    obtain ⟨iv, e1, ia, uv, pv', rfl, e2, e3, e4⟩ := rows_some R hl
    obtain ⟨nb, rfl, hnb⟩ := hn
    refine ⟨_, rfl, st, _, _, _, rfl, rfl, SqT.of hst, at2, _, rfl, p, C, dx, _, _, rfl, h1, T.cl, T.nH, flds_held _ _, _, rfl, st, _, _, _, rfl, rfl, SqT.of hst, at1, d, .ref ia, rfl, e1 ▸ DGet.t (k := nk n) h2 hnb, ia, _, _, _, rfl, rfl, SqT.of e2, at2, it.tx, rfl, (by have := htx n it hl; omega), _, _, rfl, rfl, _, rfl, ?_⟩
    refine iteD (fun c => ?_) (fun c => ?_)
    · rw [if_pos (by omega)] at hr'
      exact ⟨size63 (Nat.le_of_ble_eq_true rfl), q2 hr'⟩
    · rw [if_neg (by omega)] at hr'
      exact q3 hr'
/-! ### the steps' own work -/
def spHolds (C : Addr) : Sp := fun vs H Q _ => ∃ (p d g : Addr) (ol : Ol) (nv : V) (n : Nm), vs = [.ref p, nv] ∧ OlAt C H p d g ol ∧ NameIs H nv (nk n) ∧ Q (.bl (look ol n).isSome) H
abbrev s_Plain_holds : Stmt := inClass (top 16) 9
abbrev N_Plain_holds : List Str := ["self", "name"]
theorem sc_Plain_holds : FnScope N_Plain_holds ["self", "name"] (defScope s_Plain_holds) := ⟨rfl, rfl, rfl, by decide +kernel, rfl, by decide +kernel, by decide +kernel⟩
theorem ok_Plain_holds {f C : Addr} {fd : FuncData} (F : Fun K "holds" "Plain.holds" s_Plain_holds f fd) (T : Txt K C) : FnOk P w K mg base CX0 1 f fd ["self", "name"] (spHolds C) := by
  refine F.okQ sc_Plain_holds (fun vs H Q E h => ?_) (fun cdv A outer s H vs Q E hr h => ?_)
  · obtain ⟨p, d, g, ol, nv, n, rfl, _⟩ := h
    rfl
  obtain ⟨p, d, g, ol, nv, n, rfl, ⟨kvs, S, R⟩, ⟨b, rfl, hb⟩, q⟩ := h
  obtain ⟨⟨dx, h1⟩, h2, h3, h4⟩ := id S
  refine ⟨_, (b_1 (s_ret (q_din hr.units (q_v 1) (q_fld (q_v 0))))), ?_⟩
  refine ⟨_, rfl, _, rfl, p, C, dx, _, _, rfl, h1, T.cl, T.nH, flds_held _ _, d, _, rfl, DGet.t (k := nk n) h2 hb, ?_⟩
  rw [rows_is R]
  exact q
def spPartI (C : Addr) : Sp := fun vs H Q _ => ∃ (p d g : Addr) (ol : Ol) (nv mv pv : V) (n m : Nm) (a : Int) (pl : List Int) (it : It), vs = [.ref p, nv, .int a, mv, pv] ∧ OlAt C H p d g ol ∧ NameIs H nv (nk n) ∧ NameIs H mv (nk m) ∧ PlAt H pv pl ∧ look ol n = some it ∧ ol.length ≤ 400 ∧ it.tx.length ≤ 1000 ∧
  ∀ H', But d H H' → OlAt C H' p d g (setO (setO ol n { it with tx := cutS it.tx none (some (if (0 : Int) > a then 0 else a)) }) m ⟨it.up, pl, cutS it.tx (some (if (0 : Int) > a then 0 else a)) none, false, none, false⟩) → Q .non H'
theorem setO_len {β : Type} (l : As β) (n : Nm) (i : β) : (setO l n i).length ≤ l.length + 1 := by
  unfold setO
  split
  · rw [List.length_map]; omega
  · rw [List.length_append]; exact Nat.le_refl _
abbrev s_Plain_part_item : Stmt := inClass (top 16) 6
abbrev N_Plain_part_item : List Str := ["self", "name", "at", "new", "place", "item", "ahead"]
theorem sc_Plain_part_item : FnScope N_Plain_part_item ["self", "name", "at", "new", "place"] (defScope s_Plain_part_item) := ⟨rfl, rfl, rfl, by decide +kernel, rfl, by decide +kernel, by decide +kernel⟩
theorem ok_Plain_part_item {f C : Addr} {fd : FuncData} (F : Fun K "part_item" "Plain.part_item" s_Plain_part_item f fd) (T : Txt K C) (M_change : MFn P w K mg base 1 C "change" ["self", "name", "first", "values"] (spChange C)) (M_bring_in : MFn P w K mg base 1 C "bring_in" ["self", "name", "up", "place", "text"] (spBring C))
    {tk tk' : Tok} (g_TEXT : mg "TEXT" = some (.int 2 tk)) (g_UP : mg "UP" = some (.int 0 tk')) (z_max : mg "max" = none) : FnOk P w K mg base CX0 2 f fd ["self", "name", "at", "new", "place"] (spPartI C) := by
  refine F.okQ sc_Plain_part_item (fun vs H Q E h => ?_) (fun cdv A outer s H vs Q E hr h => ?_)
  · obtain ⟨p, d, g, ol, nv, mv, pv, n, m, a, pl, it, rfl, _⟩ := h
    rfl
  obtain ⟨p, d, g, ol, nv, mv, pv, n, m, a, pl, it, rfl, ⟨kvs, S, R⟩, hn, hm, hp, hl, l4, lt, q⟩ := h
  obtain ⟨⟨dx, h1⟩, h2, h3, h4⟩ := id S
  obtain ⟨nb, rfl, hnb⟩ := id hn
  obtain ⟨iv, e1, ia, uv, pv', rfl, e2, e3, e4⟩ := rows_some R hl
  have lk := rows_len R
  refine ⟨_, (b_c (s_set (i := 5) sc_Plain_part_item.nd (q_dget hr.units (q_fld (q_v 0)) (q_v 1)))
      (b_c (s_set (i := 6) sc_Plain_part_item.nd (q_B (c_max rfl) z_max boot_max (q_a (q_v 2) (q_a q_int q_a0))))
      (b_c (s_expr (q_meth M_change (hr.mono (by decide)) (q_v 0) (q_a (q_v 1) (q_a (q_gI g_TEXT) (q_a (q_tup (q_a (q_sl l_strE (q_ix x_tup (q_v 5) (q_gI g_TEXT)) q_o0 (q_o1 (q_v 6))) q_a0)) q_a0)))))
      (b_1 (s_expr (q_meth M_bring_in (hr.mono (by decide)) (q_v 0) (q_a (q_v 3) (q_a (q_ix x_tup (q_v 5) (q_gI g_UP)) (q_a (q_v 4) (q_a (q_sl l_strE (q_ix x_tup (q_v 5) (q_gI g_TEXT)) (q_o1 (q_v 6)) q_o0) q_a0)))))))))), ?_⟩
  refine ⟨_, rfl, p, C, dx, _, _, rfl, h1, T.cl, T.nH, flds_held _ _, _, rfl, d, .ref ia, rfl, e1 ▸ DGet.t (k := nk n) h2 hnb, ?_⟩
  refine ⟨_, rfl, _, _, rfl, ?_⟩
  refine ⟨_, rfl, p, dx, _, rfl, h1, no_m _ _, _, rfl, _, rfl, ia, _, _, _, rfl, rfl, SqT.of e2, at2, _, rfl, _, rfl, it.tx, rfl, lt, size63 (Nat.le_of_ble_eq_true rfl), fun va gva => ?_⟩
  have wv := same_new gva (.tup [.str (cutS it.tx none (some (if (0 : Int) > a then 0 else a)))])
  refine ⟨p, d, g, ia, va, kvs, [], .ref nb, nk n, 2, _, _, rfl, S.same wv, hn.same wv, by omega, e1, wv _ _ e2, upd_same, show 2 + 1 ≤ 6 by decide, show 6 ≤ 100 by decide, fun t H1 s1 e5 => ?_⟩
  have s01 : Same H H1 := wv.trans s1
  have O1 := ol_put (n := n) (it := { it with tx := cutS it.tx none (some (if (0 : Int) > a then 0 else a)) }) S R s01 ⟨t, uv, pv', rfl, e5, e3.ts (Same.ts s01), e4.ts (Same.ts s01)⟩
  have b1 : But d H (upd H1 d (.dT (putK kvs (nk n) (.ref t)))) := But.put s01 _
  generalize upd H1 d (.dT (putK kvs (nk n) (.ref t))) = H2 at O1 b1 ⊢
  have t2 := b1.ts h2
  obtain ⟨kvs2, S2, R2⟩ := id O1
  obtain ⟨⟨dx2, y1⟩, y2, y3, y4⟩ := id S2
  have lk2 := rows_len R2
  have := setO_len ol n { it with tx := cutS it.tx none (some (if (0 : Int) > a then 0 else a)) }
  refine ⟨_, rfl, p, dx2, _, rfl, y1, no_m _ _, _, rfl, _, rfl, ia, _, _, _, rfl, rfl, SqT.of (t2 _ _ e2), at0, _, rfl, _, rfl, ia, _, _, _, rfl, rfl, SqT.of (t2 _ _ e2), at2, _, rfl, _, rfl, it.tx, rfl, lt, ?_⟩
  refine ⟨p, d, g, kvs2, [], mv, uv, pv, .str _, nk m, rfl, S2, hm.ts' t2, by omega, fun t' H3 s3 e6 => ?_⟩
  refine q _ (b1.trans (But.put s3 _)) (ol_put S2 R2 s3 ⟨t', uv, pv, rfl, e6, (e3.ts t2).ts (Same.ts s3), (hp.ts t2).ts (Same.ts s3)⟩)
def spJoinI (C : Addr) : Sp := fun vs H Q _ => ∃ (p d g : Addr) (ol : Ol) (nv mv : V) (n m : Nm) (itn itm : It), vs = [.ref p, nv, mv] ∧ OlAt C H p d g ol ∧ NameIs H nv (nk n) ∧ NameIs H mv (nk m) ∧ look ol n = some itn ∧ look ol m = some itm ∧ ol.length ≤ 400 ∧ itn.tx.length + itm.tx.length ≤ 1000 ∧
  ∀ H' ol', But d H H' → OlAt C H' p d g ol' → ol'.length = ol.length → Q .non H'
theorem rows_mem {β : Type} {R : V → β → Prop} {kvs : List (List Key × V)} {ol : As β} {k : List Key} (x : Rws R kvs ol) (h : k ∈ kvs.map (·.1)) : ∃ n it, k = nk n ∧ look ol n = some it := by
  induction x with
  | nil => exact nomatch h
  | @cons p q _ l r _ ih =>
    rw [List.map_cons] at h
    rcases List.mem_cons.mp h with rfl | h
    · exact ⟨q.1, q.2, r.1, by unfold look; rw [if_pos rfl]⟩
    · obtain ⟨n, it, h1, h2⟩ := ih h
      by_cases c : q.1 = n
      · exact ⟨n, q.2, h1, by unfold look; rw [if_pos c]⟩
      · exact ⟨n, it, h1, by unfold look; rw [if_neg c]; exact h2⟩
theorem look_map {β : Type} {l : As β} {n m : Nm} {i : β} : (look (l.map fun p => if p.1 = n then (p.1, i) else p) m) = if m = n then (look l m).map (fun _ => i) else look l m := by
  induction l with
  | nil => split <;> rfl
  | cons p l ih =>
    rw [List.map_cons]
    unfold look
    by_cases c : p.1 = n
    · rw [if_pos c]
      by_cases c2 : p.1 = m
      · rw [if_pos c2, if_pos c2, if_pos (c2 ▸ c)]
        rfl
      · rw [if_neg c2, if_neg c2, ih]
    · rw [if_neg c]
      by_cases c2 : p.1 = m
      · rw [if_pos c2, if_pos c2, if_neg (fun z => c (c2.trans z))]
      · rw [if_neg c2, if_neg c2, ih]
theorem look_app {β : Type} {l : As β} {n m : Nm} {i : β} (h : look l n = none) : look (l ++ [(n, i)]) m = if m = n then some i else look l m := by
  induction l with
  | nil =>
    show (if n = m then some i else none) = _
    by_cases c : n = m
    · rw [if_pos c, if_pos c.symm]
    · rw [if_neg c, if_neg fun z => c z.symm]
      rfl
  | cons p l ih =>
    rw [List.cons_append]
    unfold look at h ⊢
    by_cases c : p.1 = n
    · rw [if_pos c] at h
      cases h
    · rw [if_neg c] at h
      by_cases c2 : p.1 = m
      · rw [if_pos c2, if_pos c2, if_neg fun z => c (c2.trans z)]
      · rw [if_neg c2, if_neg c2]
        exact ih h
theorem look_set {β : Type} {l : As β} {n m : Nm} {i : β} : look (setO l n i) m = if m = n then some i else look l m := by
  unfold setO
  cases e : look l n with
  | none =>
    rw [if_neg (by simp)]
    exact look_app e
  | some j =>
    rw [if_pos (show (some j).isSome = true from rfl), look_map]
    by_cases c : m = n
    · rw [if_pos c, if_pos c, c, e]
      rfl
    · rw [if_neg c, if_neg c]
theorem setO_same {β : Type} {l : As β} {n : Nm} {i j : β} (h : look l n = some j) : (setO l n i).length = l.length := by
  unfold setO
  rw [h, if_pos (show (some j).isSome = true from rfl), List.length_map]
theorem UpAt.data {H : Hp} {v : V} {u : Option Nm} (x : UpAt H v u) : ∃ d, Dt H d v ∧ d.canLay0 = true ∧ d.depth ≤ 1 := by
  cases u with
  | none =>
    obtain rfl : v = .non := x
    exact UpV.data (.inl rfl)
  | some n =>
    obtain ⟨b, rfl, h⟩ := x
    exact UpV.data (.inr ⟨b, n.1, n.2, rfl, h⟩)
abbrev s_Plain_join_items : Stmt := inClass (top 16) 7
abbrev N_Plain_join_items : List Str := ["self", "name", "other", "joined", "lower"]
theorem sc_Plain_join_items : FnScope N_Plain_join_items ["self", "name", "other"] (defScope s_Plain_join_items) := ⟨rfl, rfl, rfl, by decide +kernel, rfl, by decide +kernel, by decide +kernel⟩
theorem ok_Plain_join_items {f C : Addr} {fd : FuncData} (F : Fun K "join_items" "Plain.join_items" s_Plain_join_items f fd) (T : Txt K C) (M_change : MFn P w K mg base 1 C "change" ["self", "name", "first", "values"] (spChange C))
    {tk tk' : Tok} (g_TEXT : mg "TEXT" = some (.int 2 tk)) (g_UP : mg "UP" = some (.int 0 tk')) (z_list : mg "list" = none) : FnOk P w K mg base CX0 2 f fd ["self", "name", "other"] (spJoinI C) := by
  refine F.okQ sc_Plain_join_items (fun vs H Q E h => ?_) (fun cdv A outer s H vs Q E hr h => ?_)
  · obtain ⟨p, d, g, ol, nv, mv, n, m, itn, itm, rfl, _⟩ := h
    rfl
  obtain ⟨p, d, g, ol, nv, mv, n, m, itn, itm, rfl, ⟨kvs, S, R⟩, hn, hm, hln, hlm, l4, lt, q⟩ := h
  obtain ⟨⟨dx, h1⟩, h2, h3, h4⟩ := id S
  obtain ⟨nb, rfl, hnb⟩ := id hn
  obtain ⟨mb, rfl, hmb⟩ := id hm
  obtain ⟨iv, e1, ia, uv, pv, rfl, e2, e3, e4⟩ := rows_some R hln
  obtain ⟨jv, f1, ja, uv', pv', rfl, f2, f3, f4⟩ := rows_some R hlm
  have lk := rows_len R
  refine ⟨_, (b_c (s_set (i := 3) sc_Plain_join_items.nd (q_op o_addS (q_ix x_tup (q_dget hr.units (q_fld (q_v 0)) (q_v 1)) (q_gI g_TEXT)) (q_ix x_tup (q_dget hr.units (q_fld (q_v 0)) (q_v 2)) (q_gI g_TEXT))))
      (b_c (s_expr (q_meth M_change (hr.mono (by decide)) (q_v 0) (q_a (q_v 1) (q_a (q_gI g_TEXT) (q_a (q_tup (q_a (q_v 3) q_a0)) q_a0)))))
      (b_c (s_expr (q_meth M_change (hr.mono (by decide)) (q_v 0) (q_a (q_v 2) (q_a (q_gI g_TEXT) (q_a (q_tup (q_a q_str q_a0)) q_a0)))))
      (b_1 (s_for PassesOwn.never rfl (i_list (q_Ty (c_listT rfl) z_list boot_list (q_a (q_fld (q_v 0)) q_a0))) (g_name (i := 4) sc_Plain_join_items.nd) (b_1 (s_if (t_cmp (o_eqD hr.units) (q_ix x_tup (q_dget hr.units (q_fld (q_v 0)) (q_v 4)) (q_gI g_UP)) (q_v 2)) (b_1 (s_expr (q_meth M_change (hr.mono (by decide)) (q_v 0) (q_a (q_v 4) (q_a (q_gI g_UP) (q_a (q_tup (q_a (q_v 1) q_a0)) q_a0)))))) b_0))))))), ?_⟩
  refine ⟨_, rfl, p, C, dx, _, _, rfl, h1, T.cl, T.nH, flds_held _ _, _, rfl, d, .ref ia, rfl, e1 ▸ DGet.t (k := nk n) h2 hnb, ia, _, _, _, rfl, rfl, SqT.of e2, at2, ?_⟩
  refine ⟨_, rfl, p, C, dx, _, _, rfl, h1, T.cl, T.nH, flds_held _ _, _, rfl, d, .ref ja, rfl, f1 ▸ DGet.t (k := nk m) h2 hmb, ja, _, _, _, rfl, rfl, SqT.of f2, at2, _, _, rfl, rfl, size63 (by omega), ?_⟩
  -- the one's text
  refine ⟨_, rfl, p, dx, _, rfl, h1, no_m _ _, _, rfl, _, rfl, size63 (Nat.le_of_ble_eq_true rfl), fun va gva => ?_⟩
  have wv := same_new gva (.tup [.str (itn.tx ++ itm.tx)])
  refine ⟨p, d, g, ia, va, kvs, [], .ref nb, nk n, 2, _, _, rfl, S.same wv, hn.same wv, by omega, e1, wv _ _ e2, upd_same, show 2 + 1 ≤ 6 by decide, show 6 ≤ 100 by decide, fun t H1 s1 e5 => ?_⟩
  have s01 : Same H H1 := wv.trans s1
  have O1 := ol_put (n := n) (it := { itn with tx := itn.tx ++ itm.tx }) S R s01 ⟨t, uv, pv, rfl, e5, e3.ts (Same.ts s01), e4.ts (Same.ts s01)⟩
  have b1 : But d H (upd H1 d (.dT (putK kvs (nk n) (.ref t)))) := But.put s01 _
  generalize upd H1 d (.dT (putK kvs (nk n) (.ref t))) = H2 at O1 b1 ⊢
  have t2 := b1.ts h2
  obtain ⟨kvs2, S2, R2⟩ := id O1
  obtain ⟨⟨dx2, y1⟩, y2, y3, y4⟩ := id S2
  have lk2 := rows_len R2
  have ls2 : (setO ol n { itn with tx := itn.tx ++ itm.tx }).length = ol.length := setO_same hln
  -- the other's text
  obtain ⟨itm2, hlm2⟩ : ∃ it, look (setO ol n { itn with tx := itn.tx ++ itm.tx }) m = some it := by
    rw [look_set]
    split
    · exact ⟨_, rfl⟩
    · exact ⟨_, hlm⟩
  obtain ⟨kv, g1, ka, uw, pw, rfl, g2, g3, g4⟩ := rows_some R2 hlm2
  refine ⟨_, rfl, p, dx2, _, rfl, y1, no_m _ _, _, rfl, size63 (Nat.le_of_ble_eq_true rfl), fun vb gvb => ?_⟩
  have wb := same_new gvb (.tup [.str ""])
  refine ⟨p, d, g, ka, vb, kvs2, [], .ref mb, nk m, 2, _, _, rfl, S2.same wb, (hm.ts' t2).same wb, by omega, g1, wb _ _ g2, upd_same, show 2 + 1 ≤ 6 by decide, show 6 ≤ 100 by decide, fun t' H3 s3 e6 => ?_⟩
  have s23 : Same H2 H3 := wb.trans s3
  have O3 := ol_put (n := m) (it := { itm2 with tx := "" }) S2 R2 s23 ⟨t', uw, pw, rfl, e6, g3.ts (Same.ts s23), g4.ts (Same.ts s23)⟩
  have b3 : But d H (upd H3 d (.dT (putK kvs2 (nk m) (.ref t')))) := b1.trans (But.put s23 _)
  generalize upd H3 d (.dT (putK kvs2 (nk m) (.ref t'))) = H4 at O3 b3 ⊢
  have t4 := b3.ts h2
  obtain ⟨kvs4, S4, R4⟩ := id O3
  obtain ⟨⟨dx4, z1⟩, z2, z3, z4⟩ := id S4
  have ls4 : (setO (setO ol n { itn with tx := itn.tx ++ itm.tx }) m { itm2 with tx := "" }).length = ol.length := (setO_same hlm2).trans ls2
  generalize setO (setO ol n { itn with tx := itn.tx ++ itm.tx }) m { itm2 with tx := "" } = ol4 at O3 R4 ls4
  -- those beneath the other
  refine ⟨_, rfl, p, C, dx4, _, _, rfl, z1, T.cl, T.nH, flds_held _ _, d, kvs4, rfl, .inl z2, fun l ks gl hk => ⟨l, rfl, ⟨_, SqL.of upd_same⟩, ?_⟩⟩
  have wl := same_new gl (.lst ks)
  have el : upd H4 l (.lst ks) l = some (.lst ks) := upd_same
  have nld : l ≠ d := fun z => by rw [z, z2] at gl; cases gl
  have O5 : PlainAt C (upd H4 l (.lst ks)) p d g kvs4 [] := S4.same wl
  have R5 : Rows (upd H4 l (.lst ks)) kvs4 ol4 := R4.ts (Same.ts wl)
  have hk5 : KeysAt (upd H4 l (.lst ks)) kvs4 ks := ka_ts hk (Same.ts wl)
  have b5 : But d H (upd H4 l (.lst ks)) := b3.trans (But.of wl)
  have nb5 := wl _ _ (t4 _ _ hnb)
  have mb5 := wl _ _ (t4 _ _ hmb)
  generalize upd H4 l (.lst ks) = H5 at el O5 R5 hk5 b5 nb5 mb5 ⊢
  refine for_list (K := K) (a := l) (xs := ks) (fun i σ H' => But d H5 H' ∧ ∃ (kvs' : List (List Key × V)) (ol' : Ol) (o4 : Option V), PlainAt C H' p d g kvs' [] ∧ Rows H' kvs' ol' ∧ kvs'.map (·.1) = kvs4.map (·.1) ∧ ol'.length = ol.length ∧ σ = [some (.ref p), some (.ref nb), some (.ref mb), some (.str (itn.tx ++ itm.tx)), o4])
    ⟨But.of (Same.refl _), kvs4, ol4, none, O5, R5, rfl, ls4, rfl⟩ (fun i σ H' _ z => SqL.of (z.1 _ _ el nld)) ?_ ?_
  · rintro i v σ H' hv ⟨bt, kvs', ol', o4, S', R', hk', ll, rfl⟩
    have tt := bt.ts O5.dc
    obtain ⟨⟨dx', x1⟩, x2, x3, x4⟩ := id S'
    obtain ⟨k, k1, vb', rfl, k2⟩ := ka_get hk5 hv
    obtain ⟨c, it, rfl, hc⟩ := rows_mem R' (by rw [hk']; exact List.mem_of_getElem? k1)
    obtain ⟨cv, c1, ca, uc, pc, rfl, c2, c3, c4⟩ := rows_some R' hc
    obtain ⟨d1, p1, p2, p3⟩ := c3.data
    obtain ⟨d2, r1, r2, r3⟩ := UpAt.data (u := some m) (v := .ref mb) ⟨mb, rfl, tt _ _ mb5⟩
    refine ⟨_, rfl, p, C, dx', _, _, rfl, x1, T.cl, T.nH, flds_held _ _, _, rfl, d, .ref ca, rfl, c1 ▸ DGet.t (k := nk c) x2 (tt _ _ k2), ca, _, _, _, rfl, rfl, SqT.of c2, at0, _, rfl, d1, d2, p1, r1, shaped_of p2 (by omega), shaped_of r2 (by omega), _, rfl, ?_⟩
    have lk' := rows_len R'
    cases PyData.eqv d1 d2 with
    | false => exact iteF ⟨bt, kvs', ol', _, S', R', hk', ll, rfl⟩
    | true =>
      refine iteT ?_
      refine ⟨_, rfl, p, dx', _, rfl, x1, no_m _ _, _, rfl, _, rfl, size63 (Nat.le_of_ble_eq_true rfl), fun vc gvc => ?_⟩
      have wc := same_new gvc (.tup [.ref nb])
      refine ⟨p, d, g, ca, vc, kvs', [], _, nk c, 0, _, _, rfl, S'.same wc, ⟨vb', rfl, wc _ _ (tt _ _ k2)⟩, by omega, c1, wc _ _ c2, upd_same, show 0 + 1 ≤ 6 by decide, show 6 ≤ 100 by decide, fun t6 H6 s6 e7 => ?_⟩
      have s56 : Same H' H6 := wc.trans s6
      have hi : ItAt H6 (.ref t6) { it with up := some n } := ⟨t6, .ref nb, pc, rfl, e7, ⟨nb, rfl, s56 _ _ (tt _ _ nb5)⟩, c4.ts (Same.ts s56)⟩
      have td : TS H6 (upd H6 d (.dT (putK kvs' (nk c) (.ref t6)))) := ts_dic (s56 _ _ x2)
      exact ⟨bt.trans (But.put s56 _), putK kvs' (nk c) (.ref t6), setO ol' c { it with up := some n }, _, (S'.same s56).put, Rows.ts (rows_put (Rows.ts R' (Same.ts s56)) hi) td, by rw [keys_old (valV_in c1)]; exact hk', by rw [setO_same hc]; exact ll, rfl⟩
  · rintro σ H' ⟨bt, kvs', ol', o4, S', R', hk', ll, rfl⟩
    exact q H' ol' (b5.trans bt) ⟨kvs', S', R'⟩ ll
/-! ### a step -/
def All3 (H : Hp) (kvs : List (List Key × V)) (ws : List Str) (ps : List V) (bs : List Bool) : Prop := ∀ (i : Nat) (w : Str) (v : V) (b : Bool), ws[i]? = some w → ps[i]? = some v → bs[i]? = some b → PartB H kvs w v b
theorem All3.nil {H : Hp} {kvs : List (List Key × V)} : All3 H kvs [] [] [] := fun i w v b h => by simp at h
theorem All3.cons {H : Hp} {kvs : List (List Key × V)} {ws : List Str} {ps : List V} {bs : List Bool} {w : Str} {v : V} {b : Bool} (h : PartB H kvs w v b) (t : All3 H kvs ws ps bs) : All3 H kvs (w :: ws) (v :: ps) (b :: bs) := fun i w' v' b' h1 h2 h3 => by
  cases i with
  | zero => cases h1; cases h2; cases h3; exact h
  | succ i => exact t i _ _ _ h1 h2 h3
def ItOk (ws : List Str) (bs : List Bool) : Prop := ∀ (i : Nat) (w : Str), ws[i]? = some w → isI w → bs[i]? = some true
def NewOk (ws : List Str) (bs : List Bool) : Prop := ∀ i : Nat, ws[i]? = some "new" → bs[i]? = some true
theorem itok_nil : ItOk [] [] ↔ True := ⟨fun _ => trivial, fun _ i w h => by simp at h⟩
theorem itok_cons {w : Str} {b : Bool} {ws : List Str} {bs : List Bool} : ItOk (w :: ws) (b :: bs) ↔ (isI w → b = true) ∧ ItOk ws bs := by
  constructor
  · intro h
    exact ⟨fun z => Option.some.inj (h 0 w rfl z), fun i w' e z => h (i + 1) w' e z⟩
  · rintro ⟨h1, h2⟩ i w' e z
    cases i with
    | zero => cases e; exact congrArg some (h1 z)
    | succ i => exact h2 i w' e z
theorem newok_nil : NewOk [] [] ↔ True := ⟨fun _ => trivial, fun _ i h => by simp at h⟩
theorem newok_cons {w : Str} {b : Bool} {ws : List Str} {bs : List Bool} : NewOk (w :: ws) (b :: bs) ↔ (w = "new" → b = true) ∧ NewOk ws bs := by
  constructor
  · intro h
    exact ⟨fun z => Option.some.inj (h 0 (congrArg some z)), fun i e => h (i + 1) e⟩
  · rintro ⟨h1, h2⟩ i e
    cases i with
    | zero => exact congrArg some (h1 (Option.some.inj e))
    | succ i => exact h2 i e
def upB (ol : Ol) : Option Nm → Bool
  | none => true
  | some n => (look ol n).isSome
section
variable {H : Hp} {kvs : List (List Key × V)} {ol : Ol} {v : V} {n : Nm} {u : Option Nm}
theorem pb_new (R : Rows H kvs ol) (h : NameIs H v (nk n)) : PartB H kvs "new" v (!(look ol n).isSome) := ⟨fun _ => ⟨nk n, h, by rw [rows_is R]⟩, fun z => absurd z (by decide +kernel)⟩
theorem pb_item (R : Rows H kvs ol) (h : NameIs H v (nk n)) : PartB H kvs "item" v (look ol n).isSome := ⟨fun z => absurd z (by decide +kernel), fun _ => .inr ⟨nk n, h, by rw [rows_is R]⟩⟩
theorem pb_up (R : Rows H kvs ol) (h : UpAt H v u) : PartB H kvs "up" v (upB ol u) := ⟨fun z => absurd z (by decide +kernel), fun _ => by
  cases u with
  | none => exact .inl ⟨h, rfl⟩
  | some n => exact .inr ⟨nk n, h, by rw [rows_is R]; rfl⟩⟩
theorem pb_oth {w : Str} (h1 : w ≠ "new") (h2 : ¬ isI w) : PartB H kvs w v true := ⟨fun z => absurd z h1, fun z => absurd z h2⟩
end
theorem i_item : isI "item" := .inl rfl
theorem i_up : isI "up" := .inr rfl
theorem w_other {w : Str} (h : w = "place" ∨ w = "text" ∨ w = "truth" ∨ w = "whom" ∨ w = "at") : w ≠ "new" ∧ ¬ isI w := by
  rcases h with rfl | rfl | rfl | rfl | rfl <;> exact ⟨by decide +kernel, by unfold isI; decide +kernel⟩
theorem w_new : ¬ isI "new" := by unfold isI; decide +kernel
theorem w_in : ¬ (("item" : Str) = "new") ∧ ¬ (("up" : Str) = "new") := by decide +kernel
theorem st_names {H : Hp} {kvs : List (List Key × V)} {ol : Ol} {st : Addr} {s : Sd} (R : Rows H kvs ol) (h : StAt H st s) : ∃ (wd : Str) (ws : List Str) (ps : List V) (bs : List Bool), H st = some (.tup (.str wd :: ps)) ∧ PyProof.Rows.KTD.datumAt wd ST = some (tw ws) ∧ ws.length = ps.length ∧ bs.length = ps.length ∧ All3 H kvs ws ps bs ∧
    ((∀ n ∈ s.news, look ol n = none) → NewOk ws bs) ∧ ((∀ n ∈ s.items, (look ol n).isSome = true) ↔ ItOk ws bs) := by
  have wp := w_other (w := "place") (.inl rfl)
  have wt := w_other (w := "text") (.inr (.inl rfl))
  have wr := w_other (w := "truth") (.inr (.inr (.inl rfl)))
  have ww := w_other (w := "whom") (.inr (.inr (.inr (.inl rfl))))
  have wa := w_other (w := "at") (.inr (.inr (.inr (.inr rfl))))
  cases s with
  | put n u pl tx =>
    obtain ⟨nv, uv, pv, h1, h2, h3, h4⟩ := h
    refine ⟨_, _, _, [!(look ol n).isSome, upB ol u, true, true], h1, rfl, rfl, rfl, .cons (pb_new R h2) (.cons (pb_up R h3) (.cons (pb_oth wp.1 wp.2) (.cons (pb_oth wt.1 wt.2) .nil))), ?_, ?_⟩
    · intro z
      simp [newok_cons, newok_nil, w_in.2, wp.1, wt.1, z n (by simp [Sd.news])]
    · cases u <;> simp [itok_cons, itok_nil, i_up, w_new, wp.2, wt.2, Sd.items, upB]
  | move n u pl =>
    obtain ⟨nv, uv, pv, h1, h2, h3, h4⟩ := h
    refine ⟨_, _, _, [(look ol n).isSome, upB ol u, true], h1, rfl, rfl, rfl, .cons (pb_item R h2) (.cons (pb_up R h3) (.cons (pb_oth wp.1 wp.2) .nil)), ?_, ?_⟩
    · intro _
      simp [newok_cons, newok_nil, w_in.1, w_in.2, wp.1]
    · cases u <;> simp [itok_cons, itok_nil, i_item, i_up, wp.2, Sd.items, upB]
  | write n tx =>
    obtain ⟨nv, h1, h2⟩ := h
    refine ⟨_, _, _, [(look ol n).isSome, true], h1, rfl, rfl, rfl, .cons (pb_item R h2) (.cons (pb_oth wt.1 wt.2) .nil), ?_, ?_⟩
    · intro _
      simp [newok_cons, newok_nil, w_in.1, wt.1]
    · simp [itok_cons, itok_nil, i_item, wt.2, Sd.items]
  | mark n b =>
    obtain ⟨nv, h1, h2⟩ := h
    refine ⟨_, _, _, [(look ol n).isSome, true], h1, rfl, rfl, rfl, .cons (pb_item R h2) (.cons (pb_oth wr.1 wr.2) .nil), ?_, ?_⟩
    · intro _
      simp [newok_cons, newok_nil, w_in.1, wr.1]
    · simp [itok_cons, itok_nil, i_item, wr.2, Sd.items]
  | due n b =>
    obtain ⟨nv, h1, h2⟩ := h
    refine ⟨_, _, _, [(look ol n).isSome, true], h1, rfl, rfl, rfl, .cons (pb_item R h2) (.cons (pb_oth ww.1 ww.2) .nil), ?_, ?_⟩
    · intro _
      simp [newok_cons, newok_nil, w_in.1, ww.1]
    · simp [itok_cons, itok_nil, i_item, ww.2, Sd.items]
  | fold n b =>
    obtain ⟨nv, h1, h2⟩ := h
    refine ⟨_, _, _, [(look ol n).isSome, true], h1, rfl, rfl, rfl, .cons (pb_item R h2) (.cons (pb_oth wr.1 wr.2) .nil), ?_, ?_⟩
    · intro _
      simp [newok_cons, newok_nil, w_in.1, wr.1]
    · simp [itok_cons, itok_nil, i_item, wr.2, Sd.items]
  | part n a m pl =>
    obtain ⟨nv, mv, pv, h1, h2, h3, h4⟩ := h
    refine ⟨_, _, _, [(look ol n).isSome, true, !(look ol m).isSome, true], h1, rfl, rfl, rfl, .cons (pb_item R h2) (.cons (pb_oth wa.1 wa.2) (.cons (pb_new R h3) (.cons (pb_oth wp.1 wp.2) .nil))), ?_, ?_⟩
    · intro z
      simp [newok_cons, newok_nil, w_in.1, wa.1, wp.1, z m (by simp [Sd.news])]
    · simp [itok_cons, itok_nil, i_item, w_new, wa.2, wp.2, Sd.items]
  | join n m =>
    obtain ⟨nv, mv, h1, h2, h3⟩ := h
    refine ⟨_, _, _, [(look ol n).isSome, (look ol m).isSome], h1, rfl, rfl, rfl, .cons (pb_item R h2) (.cons (pb_item R h3) .nil), ?_, ?_⟩
    · intro _
      simp [newok_cons, newok_nil, w_in.1]
    · simp [itok_cons, itok_nil, i_item, Sd.items]
def spStepF (C cN cB cF : Addr) : Sp := fun vs H Q E => ∃ (p d g st : Addr) (ol : Ol) (s : Sd), vs = [.ref p, .ref st] ∧ OlAt C H p d g ol ∧ ol.length ≤ 300 ∧ StAt H st s ∧ (∀ n ∈ s.news, look ol n = none) ∧ (∀ n it, look ol n = some it → it.tx.length ≤ 400) ∧
  ((¬ (∀ n ∈ s.items, (look ol n).isSome = true) ∧ ∀ H' dd, Same H H' → E (.ref cN) (some dd) H') ∨
   ((∀ n ∈ s.items, (look ol n).isSome = true) ∧ ∃ r, Bd ol s r ∧ (r = some true → ∀ H', Same H H' → E (.ref cB) none H') ∧ (r = some false → ∀ H', Same H H' → E (.ref cF) none H') ∧ (r = none → ∀ H' ol', But d H H' → OlAt C H' p d g ol' → Ap ol s ol' → Q .non H')))
abbrev s_Plain_step : Stmt := inClass (top 16) 1
abbrev N_Plain_step : List Str := ["self", "step", "word"]
theorem sc_Plain_step : FnScope N_Plain_step ["self", "step"] (defScope s_Plain_step) := ⟨rfl, rfl, rfl, by decide +kernel, rfl, by decide +kernel, by decide +kernel⟩
theorem ok_Plain_stepX {f C cT cN cB cF : Addr} {fd : FuncData} (F : Fun K "step" "Plain.step" s_Plain_step f fd) (MX_check_names : MFnX P w K mg base 3 C "check_names" ["self", "step"] (spCheckX C cT cN)) (MX_check_bounds : MFnX P w K mg base 2 C "check_bounds" ["self", "step"] (spBoundsF C cB cF))
    (M_bring_in : MFn P w K mg base 1 C "bring_in" ["self", "name", "up", "place", "text"] (spBring C)) (M_part_item : MFn P w K mg base 2 C "part_item" ["self", "name", "at", "new", "place"] (spPartI C)) (M_join_items : MFn P w K mg base 2 C "join_items" ["self", "name", "other"] (spJoinI C))
    (M_change : MFn P w K mg base 1 C "change" ["self", "name", "first", "values"] (spChange C)) {dd : Addr} (g_FIRST_CHANGED : mg "FIRST_CHANGED" = some (.ref dd)) (TF : Tab K dd FC) : FnOk P w K mg base (CXr P w) 4 f fd ["self", "step"] (spStepF C cN cB cF) := by
  refine F.okX sc_Plain_step (fun vs H Q E h => ?_) (fun cdv A outer s H vs Q E hr h => ?_)
  · obtain ⟨p, d, g, st, ol, sd, rfl, _⟩ := h
    rfl
  obtain ⟨p, d, g, st, ol, sd, rfl, O, l3, hs, hnew, htx, h⟩ := h
  obtain ⟨kvs, S, R⟩ := id O
  obtain ⟨⟨dx, h1⟩, h2, h3, h4⟩ := id S
  have lk := rows_len R
  obtain ⟨wd, ws, ps, bs, hst, dat, l1, l2, a3, nok, iff⟩ := st_names R hs
  refine ⟨_, (b_c (s_expr (q_methX MX_check_names (passA raisesA_fn) (hr.mono (by decide)) (q_v 0) (q_a (q_v 1) q_a0)))
      (b_c (s_expr (q_methX MX_check_bounds (passA raisesA_fn) (hr.mono (by decide)) (q_v 0) (q_a (q_v 1) q_a0)))
      (b_c (s_set (i := 2) sc_Plain_step.nd (q_ix x_tup (q_v 1) q_int))
      (b_1 (s_if (t_cmp o_eq (q_v 2) q_str) (b_1 (s_expr (q_meth M_bring_in (hr.mono (by decide)) (q_v 0) (q_a (q_ix x_tup (q_v 1) q_int) (q_a (q_ix x_tup (q_v 1) q_int) (q_a (q_ix x_tup (q_v 1) q_int) (q_a (q_ix x_tup (q_v 1) q_int) q_a0))))))) (b_1 (s_if (t_cmp o_eq (q_v 2) q_str) (b_1 (s_expr (q_meth M_part_item (hr.mono (by decide)) (q_v 0) (q_a (q_ix x_tup (q_v 1) q_int) (q_a (q_ix x_tup (q_v 1) q_int) (q_a (q_ix x_tup (q_v 1) q_int) (q_a (q_ix x_tup (q_v 1) q_int) q_a0))))))) (b_1 (s_if (t_cmp o_eq (q_v 2) q_str) (b_1 (s_expr (q_meth M_join_items (hr.mono (by decide)) (q_v 0) (q_a (q_ix x_tup (q_v 1) q_int) (q_a (q_ix x_tup (q_v 1) q_int) q_a0))))) (b_1 (s_if (t_cmp o_eq (q_v 2) q_str) (b_1 s_never) (b_1 (s_expr (q_meth M_change (hr.mono (by decide)) (q_v 0) (q_a (q_ix x_tup (q_v 1) q_int) (q_a (q_ix x_tab (q_gR g_FIRST_CHANGED) (q_v 2)) (q_a (q_sl l_tupS (q_v 1) (q_o1 q_int) q_o0) q_a0))))))))))))))))), ?_⟩
  refine ⟨_, rfl, p, dx, _, rfl, h1, no_m _ _, _, rfl, p, d, g, st, kvs, [], wd, ws, ps, bs, rfl, S, hst, dat, l1, l2, a3, fun ⟨i, e1, e2⟩ => ?_, fun _ => ⟨fun all H1 s1 => ?_, fun i w' v e1 e2 hi e3 pre H' dd sm hd => ?_⟩⟩
  · rw [nok hnew i e1] at e2
    cases e2
  · rcases h with ⟨hm, q⟩ | ⟨hall, r, hb, qB, qF, q⟩
    · exact absurd (iff.mpr all) hm
    have hs1 := hs.ts (Same.ts s1)
    refine ⟨_, rfl, p, dx, _, rfl, s1 _ _ h1, no_m _ _, _, rfl, p, d, g, st, ol, sd, r, rfl, O.same s1, hs1, hb, htx, fun e => qB e H1 s1, fun e => qF e H1 s1, fun e => ?_⟩
    have q' := q e
    have S1 := S.same s1
    have R1 := R.ts (Same.ts s1)
    have y1 := s1 _ _ h1
    have ch : ∀ {n : Nm} {it : It} {ia : Addr} {xs : List V}, look ol n = some it → ∃ ia uv pv, valV kvs (nk n) = some (.ref ia) ∧ H1 ia = some (.tup [uv, pv, .str it.tx, .bl it.dn, whV it.wh, .bl it.fo]) ∧ UpAt H1 uv it.up ∧ PlAt H1 pv it.pl := fun {n it _ _} hl => by
      obtain ⟨iv, e1, ia, uv, pv, rfl, e2, e3, e4⟩ := rows_some R1 hl
      exact ⟨ia, uv, pv, e1, e2, e3, e4⟩
    cases sd with
    | put n u pl tx =>
      obtain ⟨nv, uv, pv, hst, hn, hu, hp⟩ := hs1
      have e1 := SqT.of (K := K) hst
      refine ⟨_, rfl, st, _, _, _, rfl, rfl, e1, at0, ?_⟩
      refine ⟨_, rfl, rfl, _, rfl, iteS ?_⟩
      exact ⟨_, rfl, p, dx, _, rfl, y1, no_m _ _, _, rfl, st, _, _, _, rfl, rfl, e1, at1, _, rfl, st, _, _, _, rfl, rfl, e1, at2, _, rfl, st, _, _, _, rfl, rfl, e1, at3, _, rfl, st, _, _, _, rfl, rfl, e1, at4,
        p, d, g, kvs, [], nv, uv, pv, .str tx, nk n, rfl, S1, hn, by omega, fun t H2 s2 e2 => q' _ _ (But.put (s1.trans s2) _) (ol_put S1 R1 s2 ⟨t, uv, pv, rfl, e2, hu.ts (Same.ts s2), hp.ts (Same.ts s2)⟩) .put⟩
    | part n a m pl =>
      obtain ⟨nv, mv, pv, hst, hn, hm, hp⟩ := hs1
      have e1 := SqT.of (K := K) hst
      obtain ⟨it, hl⟩ := Option.isSome_iff_exists.mp (hall n (by simp [Sd.items]))
      refine ⟨_, rfl, st, _, _, _, rfl, rfl, e1, at0, ?_⟩
      refine ⟨_, rfl, rfl, _, rfl, iteU (by decide +kernel) ?_⟩
      refine ⟨_, rfl, rfl, _, rfl, iteS ?_⟩
      exact ⟨_, rfl, p, dx, _, rfl, y1, no_m _ _, _, rfl, st, _, _, _, rfl, rfl, e1, at1, _, rfl, st, _, _, _, rfl, rfl, e1, at2, _, rfl, st, _, _, _, rfl, rfl, e1, at3, _, rfl, st, _, _, _, rfl, rfl, e1, at4,
        p, d, g, ol, nv, mv, pv, n, m, a, pl, it, rfl, O.same s1, hn, hm, hp, hl, by omega, by have := htx n it hl; omega, fun H2 b2 o2 => q' _ _ ((But.of s1).trans b2) o2 (.part hl)⟩
    | join n m =>
      obtain ⟨nv, mv, hst, hn, hm⟩ := hs1
      have e1 := SqT.of (K := K) hst
      obtain ⟨itn, hln⟩ := Option.isSome_iff_exists.mp (hall n (by simp [Sd.items]))
      obtain ⟨itm, hlm⟩ := Option.isSome_iff_exists.mp (hall m (by simp [Sd.items]))
      refine ⟨_, rfl, st, _, _, _, rfl, rfl, e1, at0, ?_⟩
      refine ⟨_, rfl, rfl, _, rfl, iteU (by decide +kernel) ?_⟩
      refine ⟨_, rfl, rfl, _, rfl, iteU (by decide +kernel) ?_⟩
      refine ⟨_, rfl, rfl, _, rfl, iteS ?_⟩
      have := htx n itn hln
      have := htx m itm hlm
      exact ⟨_, rfl, p, dx, _, rfl, y1, no_m _ _, _, rfl, st, _, _, _, rfl, rfl, e1, at1, _, rfl, st, _, _, _, rfl, rfl, e1, at2,
        p, d, g, ol, nv, mv, n, m, itn, itm, rfl, O.same s1, hn, hm, hln, hlm, by omega, by omega, fun H2 ol' b2 o2 ll => q' _ _ ((But.of s1).trans b2) o2 (.join ll)⟩
    | move n u pl =>
      obtain ⟨nv, uv, pv, hst, hn, hu, hp⟩ := hs1
      have e1 := SqT.of (K := K) hst
      obtain ⟨it, hl⟩ := Option.isSome_iff_exists.mp (hall n (by simp [Sd.items]))
      obtain ⟨ia, uw, pw, c1, c2, c3, c4⟩ := ch (ia := st) (xs := []) hl
      refine ⟨_, rfl, st, _, _, _, rfl, rfl, e1, at0, ?_⟩
      refine ⟨_, rfl, rfl, _, rfl, iteU (by decide +kernel) ?_⟩
      refine ⟨_, rfl, rfl, _, rfl, iteU (by decide +kernel) ?_⟩
      refine ⟨_, rfl, rfl, _, rfl, iteU (by decide +kernel) ?_⟩
      refine ⟨_, rfl, rfl, _, rfl, iteU (by decide +kernel) ?_⟩
      refine ⟨_, rfl, p, dx, _, rfl, y1, no_m _ _, _, rfl, st, _, _, _, rfl, rfl, e1, at1, _, rfl, dd, "move", FC, _, rfl, rfl, TF, rfl, ?_⟩
      refine ⟨_, rfl, _, rfl, st, _, rfl, hst, fun va H2 s2 e2 => ?_⟩
      exact ⟨p, d, g, ia, va, kvs, [], nv, nk n, 0, _, [uv, pv], rfl, S1.same s2, hn.same s2, by omega, c1, s2 _ _ c2, e2, show 0 + 2 ≤ 6 by decide, show 6 ≤ 100 by decide, fun t H3 s3 e3 => q' _ _ (But.put (s1.trans (s2.trans s3)) _) (ol_put (it := { it with up := u, pl := pl }) S1 R1 (s2.trans s3) ⟨t, uv, pv, rfl, e3, hu.ts (Same.ts (s2.trans s3)), hp.ts (Same.ts (s2.trans s3))⟩) (.move hl)⟩
    | write n tx =>
      obtain ⟨nv, hst, hn⟩ := hs1
      have e1 := SqT.of (K := K) hst
      obtain ⟨it, hl⟩ := Option.isSome_iff_exists.mp (hall n (by simp [Sd.items]))
      obtain ⟨ia, uw, pw, c1, c2, c3, c4⟩ := ch (ia := st) (xs := []) hl
      refine ⟨_, rfl, st, _, _, _, rfl, rfl, e1, at0, ?_⟩
      refine ⟨_, rfl, rfl, _, rfl, iteU (by decide +kernel) ?_⟩
      refine ⟨_, rfl, rfl, _, rfl, iteU (by decide +kernel) ?_⟩
      refine ⟨_, rfl, rfl, _, rfl, iteU (by decide +kernel) ?_⟩
      refine ⟨_, rfl, rfl, _, rfl, iteU (by decide +kernel) ?_⟩
      refine ⟨_, rfl, p, dx, _, rfl, y1, no_m _ _, _, rfl, st, _, _, _, rfl, rfl, e1, at1, _, rfl, dd, "write", FC, _, rfl, rfl, TF, rfl, ?_⟩
      refine ⟨_, rfl, _, rfl, st, _, rfl, hst, fun va H2 s2 e2 => ?_⟩
      exact ⟨p, d, g, ia, va, kvs, [], nv, nk n, 2, _, [_], rfl, S1.same s2, hn.same s2, by omega, c1, s2 _ _ c2, e2, show 2 + 1 ≤ 6 by decide, show 6 ≤ 100 by decide, fun t H3 s3 e3 => q' _ _ (But.put (s1.trans (s2.trans s3)) _) (ol_put (it := { it with tx := tx }) S1 R1 (s2.trans s3) ⟨t, uw, pw, rfl, e3, c3.ts (Same.ts (s2.trans s3)), c4.ts (Same.ts (s2.trans s3))⟩) (.write hl)⟩
    | mark n b =>
      obtain ⟨nv, hst, hn⟩ := hs1
      have e1 := SqT.of (K := K) hst
      obtain ⟨it, hl⟩ := Option.isSome_iff_exists.mp (hall n (by simp [Sd.items]))
      obtain ⟨ia, uw, pw, c1, c2, c3, c4⟩ := ch (ia := st) (xs := []) hl
      refine ⟨_, rfl, st, _, _, _, rfl, rfl, e1, at0, ?_⟩
      refine ⟨_, rfl, rfl, _, rfl, iteU (by decide +kernel) ?_⟩
      refine ⟨_, rfl, rfl, _, rfl, iteU (by decide +kernel) ?_⟩
      refine ⟨_, rfl, rfl, _, rfl, iteU (by decide +kernel) ?_⟩
      refine ⟨_, rfl, rfl, _, rfl, iteU (by decide +kernel) ?_⟩
      refine ⟨_, rfl, p, dx, _, rfl, y1, no_m _ _, _, rfl, st, _, _, _, rfl, rfl, e1, at1, _, rfl, dd, "mark", FC, _, rfl, rfl, TF, rfl, ?_⟩
      refine ⟨_, rfl, _, rfl, st, _, rfl, hst, fun va H2 s2 e2 => ?_⟩
      exact ⟨p, d, g, ia, va, kvs, [], nv, nk n, 3, _, [_], rfl, S1.same s2, hn.same s2, by omega, c1, s2 _ _ c2, e2, show 3 + 1 ≤ 6 by decide, show 6 ≤ 100 by decide, fun t H3 s3 e3 => q' _ _ (But.put (s1.trans (s2.trans s3)) _) (ol_put (it := { it with dn := b }) S1 R1 (s2.trans s3) ⟨t, uw, pw, rfl, e3, c3.ts (Same.ts (s2.trans s3)), c4.ts (Same.ts (s2.trans s3))⟩) (.mark hl)⟩
    | due n b =>
      obtain ⟨nv, hst, hn⟩ := hs1
      have e1 := SqT.of (K := K) hst
      obtain ⟨it, hl⟩ := Option.isSome_iff_exists.mp (hall n (by simp [Sd.items]))
      obtain ⟨ia, uw, pw, c1, c2, c3, c4⟩ := ch (ia := st) (xs := []) hl
      refine ⟨_, rfl, st, _, _, _, rfl, rfl, e1, at0, ?_⟩
      refine ⟨_, rfl, rfl, _, rfl, iteU (by decide +kernel) ?_⟩
      refine ⟨_, rfl, rfl, _, rfl, iteU (by decide +kernel) ?_⟩
      refine ⟨_, rfl, rfl, _, rfl, iteU (by decide +kernel) ?_⟩
      refine ⟨_, rfl, rfl, _, rfl, iteU (by decide +kernel) ?_⟩
      refine ⟨_, rfl, p, dx, _, rfl, y1, no_m _ _, _, rfl, st, _, _, _, rfl, rfl, e1, at1, _, rfl, dd, "due", FC, _, rfl, rfl, TF, rfl, ?_⟩
      refine ⟨_, rfl, _, rfl, st, _, rfl, hst, fun va H2 s2 e2 => ?_⟩
      exact ⟨p, d, g, ia, va, kvs, [], nv, nk n, 4, _, [_], rfl, S1.same s2, hn.same s2, by omega, c1, s2 _ _ c2, e2, show 4 + 1 ≤ 6 by decide, show 6 ≤ 100 by decide, fun t H3 s3 e3 => q' _ _ (But.put (s1.trans (s2.trans s3)) _) (ol_put (it := { it with wh := b }) S1 R1 (s2.trans s3) ⟨t, uw, pw, rfl, e3, c3.ts (Same.ts (s2.trans s3)), c4.ts (Same.ts (s2.trans s3))⟩) (.due hl)⟩
    | fold n b =>
      obtain ⟨nv, hst, hn⟩ := hs1
      have e1 := SqT.of (K := K) hst
      obtain ⟨it, hl⟩ := Option.isSome_iff_exists.mp (hall n (by simp [Sd.items]))
      obtain ⟨ia, uw, pw, c1, c2, c3, c4⟩ := ch (ia := st) (xs := []) hl
      refine ⟨_, rfl, st, _, _, _, rfl, rfl, e1, at0, ?_⟩
      refine ⟨_, rfl, rfl, _, rfl, iteU (by decide +kernel) ?_⟩
      refine ⟨_, rfl, rfl, _, rfl, iteU (by decide +kernel) ?_⟩
      refine ⟨_, rfl, rfl, _, rfl, iteU (by decide +kernel) ?_⟩
      refine ⟨_, rfl, rfl, _, rfl, iteU (by decide +kernel) ?_⟩
      refine ⟨_, rfl, p, dx, _, rfl, y1, no_m _ _, _, rfl, st, _, _, _, rfl, rfl, e1, at1, _, rfl, dd, "fold", FC, _, rfl, rfl, TF, rfl, ?_⟩
      refine ⟨_, rfl, _, rfl, st, _, rfl, hst, fun va H2 s2 e2 => ?_⟩
      exact ⟨p, d, g, ia, va, kvs, [], nv, nk n, 5, _, [_], rfl, S1.same s2, hn.same s2, by omega, c1, s2 _ _ c2, e2, show 5 + 1 ≤ 6 by decide, show 6 ≤ 100 by decide, fun t H3 s3 e3 => q' _ _ (But.put (s1.trans (s2.trans s3)) _) (ol_put (it := { it with fo := b }) S1 R1 (s2.trans s3) ⟨t, uw, pw, rfl, e3, c3.ts (Same.ts (s2.trans s3)), c4.ts (Same.ts (s2.trans s3))⟩) (.fold hl)⟩
  · rcases h with ⟨hm, q⟩ | ⟨hall, _⟩
    · exact q H' dd sm
    · rw [iff.mp hall i w' e1 hi] at e3
      cases e3
/-! ### deeds as plain data -/
theorem pass0 {X : Cx} : Passes (CXr X.prog X.w) X E0 := fun pins σ H s e s' I x => by
  obtain ⟨ea, t, C, vs, B, H', dc, rfl, os, bare, un, hok, fly, tup, hBt, kb, dd, q⟩ := x
  exact q.elim
theorem comp_invF {J : L2.It} {N n : Nat} {cap : List Nat} {g : TG} {tc : TT} {te : TE} {σ : St} {H0 : Hp} {Q : VK} (Pv : Nat → List V → Hp → Prop) (hz : N ≤ 1000) (hn : ∀ i ys H, Pv i ys H → ys.length ≤ i) (h0 : Pv 0 [] H0)
    (hgo : ∀ i ys H, i < N → Pv i ys H → J.go i H) (hst : ∀ ys H, Pv N ys H → J.stop N H)
    (ht : ∀ i ys H x H', i < N → Pv i ys H → J.yld i H x H' → ∀ Y : List V → Hp → Prop, (∀ zs H4, Pv (i + 1) zs H4 → Y zs H4) → g x (compSt n cap σ) H' fun σ2 H2 => tc σ2 H2 fun b H3 => if b = true then te σ2 H3 fun y H4 => Y (ys ++ [y]) H4 else Y ys H3)
    (hq : ∀ ys p H, Pv N ys H → H p = none → Q (.ref p) (upd H p (.lst ys))) : tCompR n cap g tc te σ J H0 Q := by
  refine ⟨fun i m ys H => m = N - i ∧ i ≤ N ∧ Pv i ys H, ⟨N, by simp, Nat.zero_le _, h0⟩, ?_⟩
  rintro i m ys H ⟨rfl, hi, pv⟩
  by_cases hlt : i < N
  · refine .inr ⟨hgo i ys H hlt pv, ?_, fun x H' y => ?_⟩
    · have := hn i ys H pv
      exact Nat.lt_of_le_of_lt (Nat.le_trans this (by omega)) (show 1000 < sizeLine by decide)
    · exact ht i ys H x H' hlt pv y (fun ys H4 => ∃ m', m' < N - i ∧ m' = N - (i + 1) ∧ i + 1 ≤ N ∧ Pv (i + 1) ys H4) fun zs H4 z => ⟨N - (i + 1), by omega, rfl, hlt, z⟩
  · have e : i = N := by omega
    subst e
    exact .inl ⟨hst ys H pv, fun p hp => hq ys p H pv hp⟩
inductive Wd
  | put (u : Option Nm) (pl : List Int) (tx : Str)
  | move (n : Nm) (u : Option Nm) (pl : List Int)
  | write (n : Nm) (tx : Str)
  | mark (n : Nm) (b : Bool)
  | due (n : Nm) (w : Option Int)
  | fold (n : Nm) (b : Bool)
  | part (n : Nm) (a : Int) (pl : List Int)
  | join (n m : Nm)
  | take (n : Nm)
  | back (n : Nm)
  | off (k : Int)
  | on (k : Int)
  | none
def Wd.word : Wd → Str
  | .put _ _ _ => "put"
  | .move _ _ _ => "move"
  | .write _ _ => "write"
  | .mark _ _ => "mark"
  | .due _ _ => "due"
  | .fold _ _ => "fold"
  | .part _ _ _ => "part"
  | .join _ _ => "join"
  | .take _ => "take"
  | .back _ => "back"
  | .off _ => "off"
  | .on _ => "on"
  | .none => "none"
def Wd.isTurn : Wd → Bool
  | .off _ => true
  | .on _ => true
  | _ => false
/-- what stands behind the word -/
def RsAt (H : Hp) (r : List V) : Wd → Prop
  | .put u pl tx => ∃ uv pv, r = [uv, pv, .str tx] ∧ UpAt H uv u ∧ PlAt H pv pl
  | .move n u pl => ∃ nv uv pv, r = [nv, uv, pv] ∧ NameIs H nv (nk n) ∧ UpAt H uv u ∧ PlAt H pv pl
  | .write n tx => ∃ nv, r = [nv, .str tx] ∧ NameIs H nv (nk n)
  | .mark n b => ∃ nv, r = [nv, .bl b] ∧ NameIs H nv (nk n)
  | .due n w => ∃ nv, r = [nv, whV w] ∧ NameIs H nv (nk n)
  | .fold n b => ∃ nv, r = [nv, .bl b] ∧ NameIs H nv (nk n)
  | .part n a pl => ∃ nv pv, r = [nv, .int a, pv] ∧ NameIs H nv (nk n) ∧ PlAt H pv pl
  | .join n m => ∃ nv mv, r = [nv, mv] ∧ NameIs H nv (nk n) ∧ NameIs H mv (nk m)
  | .take n => ∃ nv, r = [nv] ∧ NameIs H nv (nk n)
  | .back n => ∃ nv, r = [nv] ∧ NameIs H nv (nk n)
  | .off k => r = [.int k]
  | .on k => r = [.int k]
  | .none => r = []
theorem RsAt.ts {H H' : Hp} {r : List V} {wd : Wd} (x : RsAt H r wd) (t : TS H H') : RsAt H' r wd := by
  cases wd with
  | put => obtain ⟨uv, pv, h1, h3, h4⟩ := x; exact ⟨uv, pv, h1, h3.ts t, h4.ts t⟩
  | move => obtain ⟨nv, uv, pv, h1, h2, h3, h4⟩ := x; exact ⟨nv, uv, pv, h1, h2.ts' t, h3.ts t, h4.ts t⟩
  | write => obtain ⟨nv, h1, h2⟩ := x; exact ⟨nv, h1, h2.ts' t⟩
  | mark => obtain ⟨nv, h1, h2⟩ := x; exact ⟨nv, h1, h2.ts' t⟩
  | due => obtain ⟨nv, h1, h2⟩ := x; exact ⟨nv, h1, h2.ts' t⟩
  | fold => obtain ⟨nv, h1, h2⟩ := x; exact ⟨nv, h1, h2.ts' t⟩
  | part => obtain ⟨nv, pv, h1, h2, h4⟩ := x; exact ⟨nv, pv, h1, h2.ts' t, h4.ts t⟩
  | join => obtain ⟨nv, mv, h1, h2, h3⟩ := x; exact ⟨nv, mv, h1, h2.ts' t, h3.ts' t⟩
  | take => obtain ⟨nv, h1, h2⟩ := x; exact ⟨nv, h1, h2.ts' t⟩
  | back => obtain ⟨nv, h1, h2⟩ := x; exact ⟨nv, h1, h2.ts' t⟩
  | off => exact x
  | on => exact x
  | none => exact x
def WhAt (H : Hp) (wa : Addr) (wd : Wd) : Prop := ∃ r, H wa = some (.tup (.str wd.word :: r)) ∧ RsAt H r wd
/-- a deed: its name and what it does -/
abbrev Dd := Nm × Wd
def DdAt (H : Hp) (v : V) (d : Dd) : Prop := ∃ (dd c wa : Addr) (cs : List V), v = .ref dd ∧ H dd = some (.tup [.int d.1.1, .ref c, .ref wa]) ∧ H c = some (.tup cs) ∧ atI cs d.1.1 = some (.int d.1.2) ∧ WhAt H wa d.2
theorem DdAt.ts {H H' : Hp} {v : V} {d : Dd} (x : DdAt H v d) (t : TS H H') : DdAt H' v d := by
  obtain ⟨dd, c, wa, cs, h1, h2, h3, h4, r, h5, h6⟩ := x
  exact ⟨dd, c, wa, cs, h1, t _ _ h2, t _ _ h3, h4, r, t _ _ h5, h6.ts t⟩
def spNameOf : Sp := fun vs H Q _ => ∃ (v : V) (d : Dd), vs = [v] ∧ DdAt H v d ∧ ∀ t H', Same H H' → H' t = some (.tup [.int d.1.1, .int d.1.2]) → Q (.ref t) H'
abbrev s_name_of : Stmt := top 11
abbrev N_name_of : List Str := ["deed"]
theorem sc_name_of : FnScope N_name_of ["deed"] (defScope s_name_of) := ⟨rfl, rfl, rfl, by decide +kernel, rfl, by decide +kernel, by decide +kernel⟩
theorem ok_name_of {f : Addr} {fd : FuncData} (F : Fun K "name_of" "name_of" s_name_of f fd) : FnOk P w K mg base CX0 1 f fd ["deed"] spNameOf := by
  refine F.okQ sc_name_of (fun vs H Q E h => ?_) (fun cdv A outer s H vs Q E hr h => ?_)
  · obtain ⟨v, d, rfl, _⟩ := h
    rfl
  obtain ⟨v, d, rfl, ⟨dd, c, wa, cs, rfl, h2, h3, h4, r, h5, h6⟩, q⟩ := h
  refine ⟨_, (b_1 (s_ret (q_tup (q_a (q_ix x_tup (q_v 0) q_int) (q_a (q_ix x_tup (q_ix x_tup (q_v 0) q_int) (q_ix x_tup (q_v 0) q_int)) q_a0))))), ?_⟩
  have e1 := SqT.of (K := K) h2
  exact ⟨_, rfl, dd, _, _, _, rfl, rfl, e1, at0, _, rfl, dd, _, _, _, rfl, rfl, e1, at1, _, rfl, dd, _, _, _, rfl, rfl, e1, at0, c, _, _, _, rfl, rfl, SqT.of h3, h4, size63 (Nat.le_of_ble_eq_true rfl), fun t g => q t _ (same_new g _) upd_same⟩
theorem in_turn (wd : Wd) : inV (.str wd.word) [.str "off", .str "on"] = wd.isTurn := by
  cases wd <;> rfl
def spIsTurn : Sp := fun vs H Q _ => ∃ (v : V) (d : Dd), vs = [v] ∧ DdAt H v d ∧ ∀ H', Same H H' → Q (.bl d.2.isTurn) H'
abbrev s_is_turn : Stmt := top 20
abbrev N_is_turn : List Str := ["deed"]
theorem sc_is_turn : FnScope N_is_turn ["deed"] (defScope s_is_turn) := ⟨rfl, rfl, rfl, by decide +kernel, rfl, by decide +kernel, by decide +kernel⟩
theorem ok_is_turn {f : Addr} {fd : FuncData} (F : Fun K "is_turn" "is_turn" s_is_turn f fd) : FnOk P w K mg base CX0 1 f fd ["deed"] spIsTurn := by
  refine F.okQ sc_is_turn (fun vs H Q E h => ?_) (fun cdv A outer s H vs Q E hr h => ?_)
  · obtain ⟨v, d, rfl, _⟩ := h
    rfl
  obtain ⟨v, d, rfl, ⟨dd, c, wa, cs, rfl, h2, h3, h4, r, h5, h6⟩, q⟩ := h
  refine ⟨_, (b_1 (s_ret (q_cmp (o_inQ (K := K) rfl) (q_ix x_tup (q_ix x_tup (q_v 0) q_int) q_int) (q_tup (q_a q_str (q_a q_str q_a0)))))), ?_⟩
  refine ⟨_, rfl, dd, _, _, _, rfl, rfl, SqT.of h2, at2, wa, _, _, _, rfl, rfl, SqT.of h5, at0, size63 (Nat.le_of_ble_eq_true rfl), fun u gu => ?_⟩
  refine ⟨u, _, rfl, .inr (SqT.of upd_same), rfl, rfl, ?_⟩
  have ei : (if false = true then !inV (V.str d.2.word) [.str "off", .str "on"] else inV (V.str d.2.word) [.str "off", .str "on"]) = d.2.isTurn := in_turn d.2
  rw [ei]
  exact q _ (same_new gu _)
def spTurned : Sp := fun vs H Q _ => ∃ (v : V) (d : Dd) (k : Int), vs = [v] ∧ DdAt H v d ∧ (d.2 = .off k ∨ d.2 = .on k) ∧ ∀ t H', Same H H' → H' t = some (.tup [.int d.1.1, .int k]) → Q (.ref t) H'
abbrev s_turned_name : Stmt := top 21
abbrev N_turned_name : List Str := ["deed"]
theorem sc_turned_name : FnScope N_turned_name ["deed"] (defScope s_turned_name) := ⟨rfl, rfl, rfl, by decide +kernel, rfl, by decide +kernel, by decide +kernel⟩
theorem ok_turned_name {f : Addr} {fd : FuncData} (F : Fun K "turned_name" "turned_name" s_turned_name f fd) : FnOk P w K mg base CX0 1 f fd ["deed"] spTurned := by
  refine F.okQ sc_turned_name (fun vs H Q E h => ?_) (fun cdv A outer s H vs Q E hr h => ?_)
  · obtain ⟨v, d, k, rfl, _⟩ := h
    rfl
  obtain ⟨v, ⟨n, wd⟩, k, rfl, ⟨dd, c, wa, cs, rfl, h2, h3, h4, r, h5, h6⟩, hw, q⟩ := h
  refine ⟨_, (b_1 (s_ret (q_tup (q_a (q_ix x_tup (q_v 0) q_int) (q_a (q_ix x_tup (q_ix x_tup (q_v 0) q_int) q_int) q_a0))))), ?_⟩
  have e1 := SqT.of (K := K) h2
  rcases hw with rfl | rfl
  · obtain rfl : r = [.int k] := h6
    exact ⟨_, rfl, dd, _, _, _, rfl, rfl, e1, at0, _, rfl, dd, _, _, _, rfl, rfl, e1, at2, wa, _, _, _, rfl, rfl, SqT.of h5, at1, size63 (Nat.le_of_ble_eq_true rfl), fun t g => q t _ (same_new g _) upd_same⟩
  · obtain rfl : r = [.int k] := h6
    exact ⟨_, rfl, dd, _, _, _, rfl, rfl, e1, at0, _, rfl, dd, _, _, _, rfl, rfl, e1, at2, wa, _, _, _, rfl, rfl, SqT.of h5, at1, size63 (Nat.le_of_ble_eq_true rfl), fun t g => q t _ (same_new g _) upd_same⟩
def turnStep (ts : As Dd) (d : Dd) : As Dd := match d.2 with
  | .off k => setO ts (d.1.1, k) d
  | .on k => setO ts (d.1.1, k) d
  | _ => ts
def turnsOf (ds : List Dd) : As Dd := ds.foldl turnStep []
theorem turn_no {ts : As Dd} {d : Dd} (h : d.2.isTurn = false) : turnStep ts d = ts := by
  obtain ⟨n, wd⟩ := d
  cases wd <;> first | rfl | cases h
theorem turn_len (ts : As Dd) (d : Dd) : (turnStep ts d).length ≤ ts.length + 1 := by
  obtain ⟨n, wd⟩ := d
  cases wd <;> first | exact setO_len _ _ _ | exact Nat.le_succ _
theorem turnsOf_len (ds : List Dd) : (turnsOf ds).length ≤ ds.length := by
  have gen : ∀ (ds : List Dd) (ts : As Dd), (ds.foldl turnStep ts).length ≤ ts.length + ds.length := fun ds => by
    induction ds with
    | nil => intro ts; exact Nat.le_refl _
    | cons d ds ih =>
      intro ts
      have h1 := ih (turnStep ts d)
      have h2 := turn_len ts d
      rw [List.foldl_cons, List.length_cons]
      omega
  have := gen ds []
  unfold turnsOf
  simpa using this
theorem paired_get {α β : Type} {R : α → β → Prop} {xs : List α} {ys : List β} (x : Paired R xs ys) : ∀ {i : Nat} {a : α}, xs[i]? = some a → ∃ b, ys[i]? = some b ∧ R a b := by
  induction x with
  | nil => intro i a h; simp at h
  | @cons p q _ _ r _ ih =>
    intro i a h
    cases i with
    | zero => cases h; exact ⟨q, rfl, r⟩
    | succ i => exact ih h
abbrev DdsAt (H : Hp) (vs : List V) (ds : List Dd) : Prop := Paired (DdAt H) vs ds
theorem DdsAt.ts {H H' : Hp} {vs : List V} {ds : List Dd} (x : DdsAt H vs ds) (t : TS H H') : DdsAt H' vs ds := Paired.mapP x fun _ _ z => z.ts t
abbrev TsAt (H : Hp) (kvs : List (List Key × V)) (ts : As Dd) : Prop := Rws (DdAt H) kvs ts
theorem TsAt.ts {H H' : Hp} {kvs : List (List Key × V)} {ts : As Dd} (x : TsAt H kvs ts) (t : TS H H') : TsAt H' kvs ts := Paired.mapP x fun _ _ z => ⟨z.1, z.2.ts t⟩
def spLast : Sp := fun vs H Q _ => ∃ (l : Addr) (xs : List V) (ds : List Dd), vs = [.ref l] ∧ H l = some (.lst xs) ∧ DdsAt H xs ds ∧ ds.length ≤ 300 ∧ ∀ a tvs H', Same H H' → H' a = some (.dT tvs) → TsAt H' tvs (turnsOf ds) → Q (.ref a) H'
abbrev s_last_turns : Stmt := top 22
abbrev N_last_turns : List Str := ["ready", "turns", "deed"]
theorem sc_last_turns : FnScope N_last_turns ["ready"] (defScope s_last_turns) := ⟨rfl, rfl, rfl, by decide +kernel, rfl, by decide +kernel, by decide +kernel⟩
theorem ok_last_turns {f : Addr} {fd : FuncData} (F : Fun K "last_turns" "last_turns" s_last_turns f fd) (F_is_turn : Fn P w K mg base 1 "is_turn" ["deed"] spIsTurn) (F_turned_name : Fn P w K mg base 1 "turned_name" ["deed"] spTurned) : FnOk P w K mg base CX0 2 f fd ["ready"] spLast := by
  refine F.okQ sc_last_turns (fun vs H Q E h => ?_) (fun cdv A outer s H vs Q E hr h => ?_)
  · obtain ⟨l, xs, ds, rfl, _⟩ := h
    rfl
  obtain ⟨l, xs, ds, rfl, hl, hd, l3, q⟩ := h
  have ll := Paired.length hd
  refine ⟨_, (b_c (s_set (i := 1) sc_last_turns.nd q_d0T)
      (b_c (s_for PassesOwn.never rfl (i_list (q_v 0)) (g_name (i := 2) sc_last_turns.nd) (b_1 (s_if (t_val (q_fn F_is_turn (hr.mono (by decide)) (q_a (q_v 2) q_a0))) (b_1 (s_dput hr.units (q_v 1) (q_fn F_turned_name (hr.mono (by decide)) (q_a (q_v 2) q_a0)) (q_v 2))) b_0)))
      (b_1 (s_ret (q_v 1))))), ?_⟩
  intro a ga
  have wa := same_new ga (.dT [])
  refine ⟨_, rfl, l, rfl, ⟨_, SqL.of (wa _ _ hl)⟩, ?_⟩
  refine for_list (K := K) (a := l) (xs := xs) (fun i σ H' => Same H H' ∧ ∃ (tvs : List (List Key × V)) (o2 : Option V), H' a = some (.dT tvs) ∧ TsAt H' tvs (turnsOf (ds.take i)) ∧ σ = [some (.ref l), some (.ref a), o2])
    ⟨wa, [], none, upd_same, .nil, rfl⟩ (fun i σ H' _ z => SqL.of (z.1 _ _ hl)) ?_ ?_
  · rintro i v σ H' hv ⟨sm, tvs, o2, ha, ht, rfl⟩
    obtain ⟨d, hdi, hdd⟩ := paired_get hd hv
    have hi : i < ds.length := (List.getElem?_eq_some_iff.mp hdi).1
    have et : turnsOf (ds.take (i + 1)) = turnStep (turnsOf (ds.take i)) d := by
      unfold turnsOf
      rw [List.take_succ, hdi, List.foldl_append]
      rfl
    have tl : tvs.length ≤ 300 := by
      have := turnsOf_len (ds.take i)
      rw [List.length_take] at this
      have := rows_len ht
      omega
    refine ⟨_, rfl, v, d, rfl, hdd.ts (Same.ts sm), fun H1 s1 => ⟨_, rfl, ?_⟩⟩
    cases c : d.2.isTurn with
    | false =>
      refine iteF ⟨sm.trans s1, tvs, _, s1 _ _ ha, ?_, rfl⟩
      rw [et, turn_no c]
      exact ht.ts (Same.ts s1)
    | true =>
      obtain ⟨k, hk⟩ : ∃ k, d.2 = .off k ∨ d.2 = .on k := by
        obtain ⟨n, wd⟩ := d
        cases wd with
        | off k => exact ⟨k, .inl rfl⟩
        | on k => exact ⟨k, .inr rfl⟩
        | _ => cases c
      have es : turnStep (turnsOf (ds.take i)) d = setO (turnsOf (ds.take i)) (d.1.1, k) d := by
        obtain ⟨n, wd⟩ := d
        rcases hk with hk | hk <;> (dsimp only at hk; subst hk; rfl)
      refine iteT ⟨_, rfl, _, rfl, _, rfl, v, d, k, rfl, hdd.ts (Same.ts (sm.trans s1)), hk, fun t H2 s2 e2 => ⟨a, _, rfl, DPut.t (k := nk (d.1.1, k)) (s2 _ _ (s1 _ _ ha)) e2 (small1000 (by omega)), ?_⟩⟩
      have s12 := sm.trans (s1.trans s2)
      have td : TS H2 (upd H2 a (.dT (putK tvs (nk (d.1.1, k)) v))) := ts_dic (s2 _ _ (s1 _ _ ha))
      refine ⟨same_write s12 ga, _, _, upd_same, ?_, rfl⟩
      rw [et, es]
      exact TsAt.ts (rows_put (ht.ts (Same.ts (s1.trans s2))) (hdd.ts (Same.ts s12))) td
  · rintro σ H' ⟨sm, tvs, o2, ha, ht, rfl⟩
    rw [ll, List.take_length] at ht
    exact ⟨_, rfl, q a tvs H' sm ha ht⟩
def offW : Option Dd → Bool
  | some (_, .off _) => true
  | _ => false
/-- is it taken back? -/
def offB (d : Dd) (ts : As Dd) : Bool := !d.2.isTurn && offW (look ts d.1)
def spIsOff : Sp := fun vs H Q _ => ∃ (v : V) (d : Dd) (a : Addr) (tvs : List (List Key × V)) (ts : As Dd), vs = [v, .ref a] ∧ DdAt H v d ∧ H a = some (.dT tvs) ∧ TsAt H tvs ts ∧ ∀ H', Same H H' → Q (.bl (offB d ts)) H'
theorem off_word (d : Dd) : decide (V.str d.2.word = V.str "off") = offW (some d) := by
  obtain ⟨n, wd⟩ := d
  cases wd <;> rfl
abbrev s_is_off : Stmt := top 23
abbrev N_is_off : List Str := ["deed", "turns", "name"]
theorem sc_is_off : FnScope N_is_off ["deed", "turns"] (defScope s_is_off) := ⟨rfl, rfl, rfl, by decide +kernel, rfl, by decide +kernel, by decide +kernel⟩
theorem ok_is_off {f : Addr} {fd : FuncData} (F : Fun K "is_off" "is_off" s_is_off f fd) (F_name_of : Fn P w K mg base 1 "name_of" ["deed"] spNameOf) (F_is_turn : Fn P w K mg base 1 "is_turn" ["deed"] spIsTurn) : FnOk P w K mg base CX0 2 f fd ["deed", "turns"] spIsOff := by
  refine F.okQ sc_is_off (fun vs H Q E h => ?_) (fun cdv A outer s H vs Q E hr h => ?_)
  · obtain ⟨v, d, a, tvs, ts, rfl, _⟩ := h
    rfl
  obtain ⟨v, d, a, tvs, ts, rfl, hd, ha, ht, q⟩ := h
  refine ⟨_, (b_c (s_set (i := 2) sc_is_off.nd (q_fn F_name_of (hr.mono (by decide)) (q_a (q_v 0) q_a0)))
      (b_1 (s_ret (q_and (q_not (q_fn F_is_turn (hr.mono (by decide)) (q_a (q_v 0) q_a0))) (q_and (q_din hr.units (q_v 2) (q_v 1)) (q_one (q_cmp o_eq (q_ix x_tup (q_ix x_tup (q_dget hr.units (q_v 1) (q_v 2)) q_int) q_int) q_str))))))), ?_⟩
  refine ⟨_, rfl, v, d, rfl, hd, fun t H1 s1 e1 => ?_⟩
  refine ⟨_, rfl, v, d, rfl, hd.ts (Same.ts s1), fun H2 s2 => ?_⟩
  have s12 := s1.trans s2
  have q' := fun H' s => q H' s
  unfold offB at q'
  cases c : d.2.isTurn with
  | true =>
    rw [c] at q'
    exact ⟨_, rfl, _, rfl, iteF (q' H2 s12)⟩
  | false =>
    rw [c] at q'
    refine ⟨_, rfl, _, rfl, iteT ?_⟩
    refine ⟨_, rfl, _, rfl, a, _, rfl, DGet.t (k := nk d.1) (s12 _ _ ha) (s2 _ _ e1), ?_⟩
    cases e : look ts d.1 with
    | none =>
      rw [rows_none ht e]
      rw [e] at q'
      exact ⟨_, rfl, iteF (q' H2 s12)⟩
    | some d' =>
      obtain ⟨v', f1, dd, c', wa, cs, rfl, h2, h3, h4, r, h5, h6⟩ := rows_some ht e
      rw [f1]
      rw [e] at q'
      refine ⟨_, rfl, iteT ?_⟩
      refine ⟨_, rfl, _, rfl, a, .ref dd, rfl, f1 ▸ DGet.t (k := nk d.1) (s12 _ _ ha) (s2 _ _ e1), dd, _, _, _, rfl, rfl, SqT.of (s12 _ _ h2), at2, wa, _, _, _, rfl, rfl, SqT.of (s12 _ _ h5), at0, rfl, ?_⟩
      rw [off_word]
      exact q' H2 s12
def sdOf (n : Nm) : Wd → Option Sd
  | .put u pl tx => some (.put n u pl tx)
  | .move m u pl => some (.move m u pl)
  | .write m tx => some (.write m tx)
  | .mark m b => some (.mark m b)
  | .due m w => some (.due m w)
  | .fold m b => some (.fold m b)
  | .part m a pl => some (.part m a n pl)
  | .join m o => some (.join m o)
  | _ => none
def spStepOf : Sp := fun vs H Q _ => ∃ (v : V) (d : Dd) (s : Sd), vs = [v] ∧ DdAt H v d ∧ sdOf d.1 d.2 = some s ∧ ∀ st H', Same H H' → StAt H' st s → Q (.ref st) H'
theorem wd_other {wd : Wd} (h : ∀ u pl tx, wd ≠ .put u pl tx) (h2 : ∀ n a pl, wd ≠ .part n a pl) : V.str wd.word ≠ V.str "put" ∧ V.str wd.word ≠ V.str "part" := by
  cases wd with
  | put u pl tx => exact absurd rfl (h u pl tx)
  | part n a pl => exact absurd rfl (h2 n a pl)
  | _ => exact ⟨by simp only [Wd.word, ne_eq]; decide +kernel, by simp only [Wd.word, ne_eq]; decide +kernel⟩
/-- the step is what the deed does, as it stands -/
theorem st_other {H : Hp} {wa : Addr} {n : Nm} {wd : Wd} {s : Sd} (h : ∀ u pl tx, wd ≠ .put u pl tx) (h2 : ∀ n a pl, wd ≠ .part n a pl) (hs : sdOf n wd = some s) (x : WhAt H wa wd) : StAt H wa s := by
  obtain ⟨r, h5, h6⟩ := x
  cases wd with
  | put u pl tx => exact absurd rfl (h u pl tx)
  | part n a pl => exact absurd rfl (h2 n a pl)
  | move => cases hs; obtain ⟨nv, uv, pv, rfl, a1, a2, a3⟩ := h6; exact ⟨nv, uv, pv, h5, a1, a2, a3⟩
  | write => cases hs; obtain ⟨nv, rfl, a1⟩ := h6; exact ⟨nv, h5, a1⟩
  | mark => cases hs; obtain ⟨nv, rfl, a1⟩ := h6; exact ⟨nv, h5, a1⟩
  | due => cases hs; obtain ⟨nv, rfl, a1⟩ := h6; exact ⟨nv, h5, a1⟩
  | fold => cases hs; obtain ⟨nv, rfl, a1⟩ := h6; exact ⟨nv, h5, a1⟩
  | join => cases hs; obtain ⟨nv, mv, rfl, a1, a2⟩ := h6; exact ⟨nv, mv, h5, a1, a2⟩
  | _ => cases hs
abbrev s_step_of : Stmt := top 26
abbrev N_step_of : List Str := ["deed", "what"]
theorem sc_step_of : FnScope N_step_of ["deed"] (defScope s_step_of) := ⟨rfl, rfl, rfl, by decide +kernel, rfl, by decide +kernel, by decide +kernel⟩
theorem ok_step_of {f : Addr} {fd : FuncData} (F : Fun K "step_of" "step_of" s_step_of f fd) (F_name_of : Fn P w K mg base 1 "name_of" ["deed"] spNameOf) : FnOk P w K mg base CX0 2 f fd ["deed"] spStepOf := by
  refine F.okQ sc_step_of (fun vs H Q E h => ?_) (fun cdv A outer s H vs Q E hr h => ?_)
  · obtain ⟨v, d, sd, rfl, _⟩ := h
    rfl
  obtain ⟨v, ⟨n, wd⟩, sd, rfl, hd, hs, q⟩ := h
  obtain ⟨dd, c, wa, cs, rfl, h2, h3, h4, r, h5, h6⟩ := id hd
  refine ⟨_, (b_c (s_set (i := 1) sc_step_of.nd (q_ix x_tup (q_v 0) q_int))
      (b_c (s_if (t_cmp o_eq (q_ix x_tup (q_v 1) q_int) q_str) (b_1 (s_ret (q_op o_catS (q_tup (q_a q_str (q_a (q_fn F_name_of (hr.mono (by decide)) (q_a (q_v 0) q_a0)) q_a0))) (q_sl l_tupS (q_v 1) (q_o1 q_int) q_o0)))) b_0)
      (b_c (s_if (t_cmp o_eq (q_ix x_tup (q_v 1) q_int) q_str) (b_1 (s_ret (q_op o_catS (q_op o_catS (q_sl l_tupS (q_v 1) q_o0 (q_o1 q_int)) (q_tup (q_a (q_fn F_name_of (hr.mono (by decide)) (q_a (q_v 0) q_a0)) q_a0))) (q_sl l_tupS (q_v 1) (q_o1 q_int) q_o0)))) b_0)
      (b_1 (s_ret (q_v 1)))))), ?_⟩
  have e5 := SqT.of (K := K) h5
  refine ⟨_, rfl, dd, _, _, _, rfl, rfl, SqT.of h2, at2, ?_⟩
  by_cases c1 : ∃ u pl tx, wd = .put u pl tx
  · obtain ⟨u, pl, tx, rfl⟩ := c1
    cases hs
    obtain ⟨uv, pv, rfl, a1, a2⟩ := h6
    refine ⟨_, rfl, wa, _, _, _, rfl, rfl, e5, at0, rfl, _, rfl, iteS ?_⟩
    refine ⟨_, rfl, _, _, rfl, hd, fun t H1 s1 e1 => ⟨size63 (Nat.le_of_ble_eq_true rfl), fun y gy => ?_⟩⟩
    have wy := same_new gy (.tup [.str "put", .ref t])
    refine ⟨_, rfl, _, rfl, wa, _, rfl, wy _ _ (s1 _ _ h5), fun z H2 s2 e2 => ⟨y, z, _, _, rfl, rfl, s2 _ _ upd_same, e2, size63 (Nat.le_of_ble_eq_true rfl), fun st H3 s3 e3 => ?_⟩⟩
    have sm : Same H H3 := s1.trans (wy.trans (s2.trans s3))
    exact q st H3 sm ⟨.ref t, uv, pv, e3, ⟨t, rfl, s3 _ _ (s2 _ _ (wy _ _ e1))⟩, a1.ts (Same.ts sm), a2.ts (Same.ts sm)⟩
  by_cases c2 : ∃ m a pl, wd = .part m a pl
  · obtain ⟨m, a, pl, rfl⟩ := c2
    cases hs
    obtain ⟨nv, pv, rfl, a1, a2⟩ := h6
    refine ⟨_, rfl, wa, _, _, _, rfl, rfl, e5, at0, rfl, _, rfl, iteU (by simp only [Wd.word, ne_eq]; decide +kernel) ?_⟩
    refine ⟨_, rfl, wa, _, _, _, rfl, rfl, e5, at0, rfl, _, rfl, iteS ?_⟩
    refine ⟨_, rfl, _, rfl, wa, _, rfl, h5, fun z H1 s1 e1 => ?_⟩
    refine ⟨_, rfl, _, _, rfl, hd.ts (Same.ts s1), fun t H2 s2 e2 => ⟨size63 (Nat.le_of_ble_eq_true rfl), fun y gy => ?_⟩⟩
    have wy := same_new gy (.tup [.ref t])
    refine ⟨z, y, _, _, rfl, rfl, wy _ _ (s2 _ _ e1), upd_same, size63 (Nat.le_of_ble_eq_true rfl), fun z2 H3 s3 e3 => ?_⟩
    have s03 : Same H H3 := s1.trans (s2.trans (wy.trans s3))
    refine ⟨_, rfl, _, rfl, wa, _, rfl, s03 _ _ h5, fun z3 H4 s4 e4 => ⟨z2, z3, _, _, rfl, rfl, s4 _ _ e3, e4, size63 (Nat.le_of_ble_eq_true rfl), fun st H5 s5 e5 => ?_⟩⟩
    have sm : Same H H5 := s03.trans (s4.trans s5)
    exact q st H5 sm ⟨nv, .ref t, pv, e5, NameIs.ts' a1 (Same.ts sm), ⟨t, rfl, s5 _ _ (s4 _ _ (s3 _ _ (wy _ _ e2)))⟩, a2.ts (Same.ts sm)⟩
  have n1 : ∀ u pl tx, wd ≠ .put u pl tx := fun u pl tx z => c1 ⟨u, pl, tx, z⟩
  have n2 : ∀ n a pl, wd ≠ .part n a pl := fun n a pl z => c2 ⟨n, a, pl, z⟩
  obtain ⟨w1, w2⟩ := wd_other n1 n2
  refine ⟨_, rfl, wa, _, _, _, rfl, rfl, e5, at0, rfl, _, rfl, iteU w1 ?_⟩
  refine ⟨_, rfl, wa, _, _, _, rfl, rfl, e5, at0, rfl, _, rfl, iteU w2 ?_⟩
  exact ⟨_, rfl, q wa H (Same.refl H) (st_other n1 n2 hs ⟨r, h5, h6⟩)⟩
/-! ### a step's word -/
theorem self_in (c : Addr) (b : List Value) : (Value.ref c :: b).contains (.ref c) = true := by simp
structure ErF (K : PySem.W.Frag) (cN cB cF : Addr) (bN bB bF : List Value) : Prop where
  eN : ExC K cN bN
  eB : ExC K cB bB
  eF : ExC K cF bF
  bn : (Value.ref cB :: bB).contains (.ref cN) = false
  fn : (Value.ref cF :: bF).contains (.ref cN) = false
  fb : (Value.ref cF :: bF).contains (.ref cB) = false
def Held (ol : Ol) (s : Sd) : Prop := ∀ n ∈ s.items, (look ol n).isSome = true
structure Ready (ol : Ol) (s : Sd) : Prop where
  nw : ∀ n ∈ s.news, look ol n = none
  bd : Held ol s → ∃ r, Bd ol s r
structure Small (ol : Ol) : Prop where
  len : ol.length ≤ 300
  txt : ∀ n it, look ol n = some it → it.tx.length ≤ 400
inductive WordR (ol : Ol) (s : Sd) : Str → Ol → Prop
  | none : ¬ Held ol s → WordR ol s "none" ol
  | beneath : Held ol s → Bd ol s (some true) → WordR ol s "beneath" ol
  | far : Held ol s → Bd ol s (some false) → WordR ol s "far" ol
  | done {ol' : Ol} : Held ol s → Bd ol s none → Ap ol s ol' → WordR ol s "done" ol'
def spWordOf (C : Addr) : Sp := fun vs H Q _ => ∃ (p d g st : Addr) (ol : Ol) (s : Sd), vs = [.ref p, .ref st] ∧ OlAt C H p d g ol ∧ Small ol ∧ StAt H st s ∧ Ready ol s ∧ ∀ w ol' H', WordR ol s w ol' → But d H H' → OlAt C H' p d g ol' → Q (.str w) H'
abbrev s_word_of_step : Stmt := top 27
abbrev N_word_of_step : List Str := ["outline", "step"]
theorem sc_word_of_step : FnScope N_word_of_step ["outline", "step"] (defScope s_word_of_step) := ⟨rfl, rfl, rfl, by decide +kernel, rfl, by decide +kernel, by decide +kernel⟩
theorem ok_word_of_step {f C cN cB cF : Addr} {fd : FuncData} {bN bB bF : List Value} (F : Fun K "word_of_step" "word_of_step" s_word_of_step f fd) (MX_step : MFnX P w K mg base 4 C "step" ["self", "step"] (spStepF C cN cB cF)) (R : ErF K cN cB cF bN bB bF)
    (g_NoItem : mg "NoItem" = some (.ref cN)) (g_Beneath : mg "Beneath" = some (.ref cB)) (g_Far : mg "Far" = some (.ref cF)) : FnOk P w K mg base CX0 5 f fd ["outline", "step"] (spWordOf C) := by
  have xc_NoItem := R.eN
  have xc_Beneath := R.eB
  have xc_Far := R.eF
  refine F.okQ sc_word_of_step (fun vs H Q E h => ?_) (fun cdv A outer s H vs Q E hr h => ?_)
  · obtain ⟨p, d, g, st, ol, sd, rfl, _⟩ := h
    rfl
  obtain ⟨p, d, g, st, ol, sd, rfl, O, sm, hs, rd, q⟩ := h
  obtain ⟨kvs, S, _⟩ := id O
  obtain ⟨⟨dx, h1⟩, h2, h3, h4⟩ := id S
  refine ⟨_, (b_c (s_try1 rfl rfl (sx_expr (x_meth MX_step (hr.mono (by decide)) (q_v 0) (q_a (q_v 1) q_a0))) (h_no xc_NoItem g_NoItem (fun _ => (b_1 (s_ret q_str))) (h_no xc_Beneath g_Beneath (fun _ => (b_1 (s_ret q_str))) (h_no xc_Far g_Far (fun _ => (b_1 (s_ret q_str))) h_end))))
      (b_1 (s_ret q_str))), ?_⟩
  refine ⟨_, rfl, p, dx, _, rfl, h1, no_m _ _, _, rfl, p, d, g, st, ol, sd, rfl, O, sm.len, hs, rd.nw, sm.txt, ?_⟩
  by_cases c : Held ol sd
  · obtain ⟨r, hb⟩ := rd.bd c
    refine .inr ⟨c, r, hb, fun e H1 s1 => ?_, fun e H1 s1 => ?_, fun e H1 ol' b1 o1 ap => ?_⟩
    · subst e
      exact ⟨cB, bB, rfl, R.eB, by rw [R.bn]; exact iteF ⟨cB, bB, rfl, R.eB, by rw [self_in]; exact iteT (q _ _ _ (.beneath c hb) (But.of s1) (O.same s1))⟩⟩
    · subst e
      exact ⟨cF, bF, rfl, R.eF, by rw [R.fn]; exact iteF ⟨cF, bF, rfl, R.eF, by rw [R.fb]; exact iteF ⟨cF, bF, rfl, R.eF, by rw [self_in]; exact iteT (q _ _ _ (.far c hb) (But.of s1) (O.same s1))⟩⟩⟩
    · subst e
      exact q _ _ _ (.done c hb ap) b1 o1
  · refine .inl ⟨c, fun H1 dd s1 => ?_⟩
    exact ⟨cN, bN, rfl, R.eN, by rw [self_in]; exact iteT (q _ _ _ (.none c) (But.of s1) (O.same s1))⟩
def SoAt (H : Hp) (sv : V) : Option Sd → Prop
  | none => sv = .non
  | some s => ∃ st, sv = .ref st ∧ StAt H st s
theorem SoAt.ts {H H' : Hp} {sv : V} {so : Option Sd} (x : SoAt H sv so) (t : TS H H') : SoAt H' sv so := by
  cases so with
  | none => exact x
  | some s => obtain ⟨st, h1, h2⟩ := x; exact ⟨st, h1, h2.ts t⟩
/-- a put whose upper one is not there -/
def isTop (ol : Ol) : Wd → Bool
  | .put (some m) _ _ => !(look ol m).isSome
  | _ => false
inductive PlayR (ol : Ol) (n : Nm) : Wd → Str → Option Sd → Ol → Prop
  | none : PlayR ol n .none "done" none ol
  | take {m : Nm} : PlayR ol n (.take m) (if (look ol m).isSome = true then "done" else "none") none ol
  | back {m : Nm} : PlayR ol n (.back m) (if (look ol m).isSome = true then "done" else "none") none ol
  | top {m : Nm} {pl : List Int} {tx : Str} : look ol m = none → PlayR ol n (.put (some m) pl tx) "top" (some (.put n none pl tx)) (setO ol n ⟨none, pl, tx, false, none, false⟩)
  | step {wd : Wd} {s : Sd} {w : Str} {ol' : Ol} : sdOf n wd = some s → isTop ol wd = false → WordR ol s w ol' → PlayR ol n wd w (if w = "done" then some s else none) ol'
def spPlay (C : Addr) : Sp := fun vs H Q _ => ∃ (v : V) (dd : Dd) (p d g : Addr) (ol : Ol), vs = [v, .ref p] ∧ DdAt H v dd ∧ OlAt C H p d g ol ∧ Small ol ∧ dd.2.isTurn = false ∧ (∀ s, sdOf dd.1 dd.2 = some s → Ready ol s) ∧
  ∀ w so ol' t sv H', PlayR ol dd.1 dd.2 w so ol' → But d H H' → OlAt C H' p d g ol' → H' t = some (.tup [.str w, sv]) → SoAt H' sv so → Q (.ref t) H'
theorem wd_cases {n : Nm} {wd : Wd} (h : wd.isTurn = false) : wd = .none ∨ (∃ m, wd = .take m ∨ wd = .back m) ∨ ∃ s, sdOf n wd = some s := by
  cases wd with
  | none => exact .inl rfl
  | take m => exact .inr (.inl ⟨m, .inl rfl⟩)
  | back m => exact .inr (.inl ⟨m, .inr rfl⟩)
  | off k => cases h
  | on k => cases h
  | _ => exact .inr (.inr ⟨_, rfl⟩)
theorem wd_step {n : Nm} {wd : Wd} {s : Sd} (h : sdOf n wd = some s) : V.str wd.word ≠ V.str "none" ∧ inV (.str wd.word) [.str "take", .str "back"] = false := by
  cases wd <;> first | exact ⟨by simp only [Wd.word, ne_eq]; decide +kernel, rfl⟩ | cases h
theorem wr_word {ol ol' : Ol} {s : Sd} {w : Str} (h : WordR ol s w ol') : w = "done" ∨ V.str w ≠ V.str "done" := by
  cases h with
  | done => exact .inl rfl
  | _ => exact .inr (by decide +kernel)
abbrev s_play : Stmt := top 25
abbrev N_play : List Str := ["deed", "outline", "what", "step", "word"]
theorem sc_play : FnScope N_play ["deed", "outline"] (defScope s_play) := ⟨rfl, rfl, rfl, by decide +kernel, rfl, by decide +kernel, by decide +kernel⟩
theorem ok_play {f C cN cB cF : Addr} {fd : FuncData} (F : Fun K "play" "play" s_play f fd) (M_holds : MFn P w K mg base 1 C "holds" ["self", "name"] (spHolds C)) (MX_step : MFnX P w K mg base 4 C "step" ["self", "step"] (spStepF C cN cB cF)) (F_step_of : Fn P w K mg base 2 "step_of" ["deed"] spStepOf) (F_word_of_step : Fn P w K mg base 5 "word_of_step" ["outline", "step"] (spWordOf C)) :
    FnOk P w K mg base CX0 6 f fd ["deed", "outline"] (spPlay C) := by
  refine F.okQ sc_play (fun vs H Q E h => ?_) (fun cdv A outer s H vs Q E hr h => ?_)
  · obtain ⟨v, dd, p, d, g, ol, rfl, _⟩ := h
    rfl
  obtain ⟨v, ⟨n, wd⟩, p, d, g, ol, rfl, hd, O, sm, nt, rd, q⟩ := h
  obtain ⟨da, c, wa, cs, rfl, h2, h3, h4, r, h5, h6⟩ := id hd
  obtain ⟨kvs, S, _⟩ := id O
  obtain ⟨⟨dx, y1⟩, y2, y3, y4⟩ := id S
  refine ⟨_, (b_c (s_set (i := 2) sc_play.nd (q_ix x_tup (q_v 0) q_int))
      (b_c (s_if (t_cmp o_eq (q_ix x_tup (q_v 2) q_int) q_str) (b_1 (s_ret (q_tup (q_a q_str (q_a q_non q_a0))))) b_0)
      (b_c (s_if (t_cmp (o_inQ (K := K) rfl) (q_ix x_tup (q_v 2) q_int) (q_tup (q_a q_str (q_a q_str q_a0)))) (b_1 (s_ret (q_tup (q_a (q_if (t_val (q_meth M_holds (hr.mono (by decide)) (q_v 1) (q_a (q_ix x_tup (q_v 2) q_int) q_a0))) q_str q_str) (q_a q_non q_a0))))) b_0)
      (b_c (s_set (i := 3) sc_play.nd (q_fn F_step_of (hr.mono (by decide)) (q_a (q_v 0) q_a0)))
      (b_c (s_join (s_if (t_w (w_and (t_cmp o_eq (q_ix x_tup (q_v 2) q_int) q_str) (w_and (t_cmp o_notN (q_ix x_tup (q_v 2) q_int) q_non) (w_and1 (t_not (t_val (q_meth M_holds (hr.mono (by decide)) (q_v 1) (q_a (q_ix x_tup (q_v 2) q_int) q_a0)))))))) (b_c (s_set (i := 3) sc_play.nd (q_tup (q_a q_str (q_a (q_ix x_tup (q_v 3) q_int) (q_a q_non (q_a (q_ix x_tup (q_v 3) q_int) (q_a (q_ix x_tup (q_v 3) q_int) q_a0)))))))
      (b_c (s_expr (q_methX MX_step pass0 (hr.mono (by decide)) (q_v 1) (q_a (q_v 3) q_a0)))
      (b_1 (s_ret (q_tup (q_a q_str (q_a (q_v 3) q_a0))))))) b_0))
      (b_c (s_set (i := 4) sc_play.nd (q_fn F_word_of_step (hr.mono (by decide)) (q_a (q_v 1) (q_a (q_v 3) q_a0))))
      (b_1 (s_ret (q_tup (q_a (q_v 4) (q_a (q_if (t_cmp o_eq (q_v 4) q_str) (q_v 3) q_non) q_a0))))))))))), ?_⟩
  have e5 := SqT.of (K := K) h5
  refine ⟨_, rfl, da, _, _, _, rfl, rfl, SqT.of h2, at2, ?_⟩
  rcases wd_cases (n := n) nt with rfl | ⟨m, hm⟩ | ⟨sd, hs⟩
  · refine ⟨_, rfl, wa, _, _, _, rfl, rfl, e5, at0, rfl, _, rfl, iteS ?_⟩
    exact ⟨size63 (Nat.le_of_ble_eq_true rfl), fun t gt => q _ _ _ t _ _ .none (But.of (same_new gt _)) (O.same (same_new gt _)) upd_same rfl⟩
  · have key : ∃ nv, r = [nv] ∧ NameIs H nv (nk m) ∧ V.str wd.word ≠ V.str "none" ∧ inV (.str wd.word) [.str "take", .str "back"] = true ∧ PlayR ol n wd (if (look ol m).isSome = true then "done" else "none") none ol := by
      rcases hm with rfl | rfl
      · obtain ⟨nv, e, hn⟩ := h6
        exact ⟨nv, e, hn, by simp only [Wd.word, ne_eq]; decide +kernel, rfl, .take⟩
      · obtain ⟨nv, e, hn⟩ := h6
        exact ⟨nv, e, hn, by simp only [Wd.word, ne_eq]; decide +kernel, rfl, .back⟩
    obtain ⟨nv, rfl, hn, w1, w2, pr⟩ := key
    refine ⟨_, rfl, wa, _, _, _, rfl, rfl, e5, at0, rfl, _, rfl, iteU w1 ?_⟩
    refine ⟨_, rfl, wa, _, _, _, rfl, rfl, e5, at0, size63 (Nat.le_of_ble_eq_true rfl), fun u gu => ?_⟩
    have wu := same_new gu (.tup [.str "take", .str "back"])
    refine ⟨u, _, rfl, .inr (SqT.of upd_same), rfl, rfl, _, rfl, ?_⟩
    have ei : (if false = true then !inV (V.str wd.word) [.str "take", .str "back"] else inV (V.str wd.word) [.str "take", .str "back"]) = true := w2
    rw [ei]
    refine iteT ?_
    refine ⟨_, rfl, p, dx, _, rfl, wu _ _ y1, no_m _ _, _, rfl, wa, _, _, _, rfl, rfl, SqT.of (wu _ _ h5), at1, p, d, g, ol, nv, m, rfl, O.same wu, hn.same wu, _, rfl, ?_⟩
    cases c : (look ol m).isSome with
    | true =>
      rw [c] at pr
      exact iteT ⟨size63 (Nat.le_of_ble_eq_true rfl), fun t gt => q _ _ _ t _ _ pr (But.of (wu.trans (same_new gt _))) (O.same (wu.trans (same_new gt _))) upd_same rfl⟩
    | false =>
      rw [c] at pr
      exact iteF ⟨size63 (Nat.le_of_ble_eq_true rfl), fun t gt => q _ _ _ t _ _ pr (But.of (wu.trans (same_new gt _))) (O.same (wu.trans (same_new gt _))) upd_same rfl⟩
  · obtain ⟨w1, w2⟩ := wd_step hs
    have ready := rd sd hs
    refine ⟨_, rfl, wa, _, _, _, rfl, rfl, e5, at0, rfl, _, rfl, iteU w1 ?_⟩
    refine ⟨_, rfl, wa, _, _, _, rfl, rfl, e5, at0, size63 (Nat.le_of_ble_eq_true rfl), fun u gu => ?_⟩
    have wu := same_new gu (.tup [.str "take", .str "back"])
    refine ⟨u, _, rfl, .inr (SqT.of upd_same), rfl, rfl, _, rfl, ?_⟩
    have ei : (if false = true then !inV (V.str wd.word) [.str "take", .str "back"] else inV (V.str wd.word) [.str "take", .str "back"]) = false := w2
    rw [ei]
    refine iteF ?_
    refine ⟨_, rfl, _, _, sd, rfl, hd.ts (Same.ts wu), hs, fun st H2 s2 hst => ?_⟩
    have s02 : Same H H2 := wu.trans s2
    have O2 := O.same s02
    have y2' := s02 _ _ y1
    have e52 := SqT.of (K := K) (s02 _ _ h5)
    refine ⟨fun σ H' => Same H H' ∧ StAt H' st sd ∧ isTop ol wd = false ∧ σ = [some (.ref da), some (.ref p), some (.ref wa), some (.ref st), none], ?_, ?_⟩
    · by_cases c1 : ∃ u pl tx, wd = .put u pl tx
      · obtain ⟨u, pl, tx, rfl⟩ := c1
        cases hs
        obtain ⟨uv, pv, rfl, a1, a2⟩ := h6
        refine ⟨_, rfl, wa, _, _, _, rfl, rfl, e52, at0, rfl, _, rfl, iteS ?_⟩
        cases u with
        | none =>
          obtain rfl : uv = .non := a1
          exact ⟨_, rfl, wa, _, _, _, rfl, rfl, e52, at1, rfl, _, rfl, iteNS rfl (iteF ⟨s02, hst, rfl, rfl⟩)⟩
        | some m =>
          obtain ⟨mb, rfl, hmb⟩ := id a1
          refine ⟨_, rfl, wa, _, _, _, rfl, rfl, e52, at1, rfl, _, rfl, iteNN (by intro z; cases z) ?_⟩
          refine ⟨_, rfl, p, dx, _, rfl, y2', no_m _ _, _, rfl, wa, _, _, _, rfl, rfl, e52, at1, p, d, g, ol, _, m, rfl, O2, ⟨mb, rfl, s02 _ _ hmb⟩, _, rfl, ?_⟩
          cases c : look ol m with
          | some it => exact iteF ⟨s02, hst, (by show (!(look ol m).isSome) = false; rw [c]; rfl), rfl⟩
          | none =>
            refine iteT ?_
            obtain ⟨nv, uv', pv', f1, f2, f3, f4⟩ := id hst
            have ef := SqT.of (K := K) f1
            refine ⟨_, rfl, st, _, _, _, rfl, rfl, ef, at1, _, rfl, st, _, _, _, rfl, rfl, ef, at3, _, rfl, st, _, _, _, rfl, rfl, ef, at4, size63 (Nat.le_of_ble_eq_true rfl), fun s' gs => ?_⟩
            have ws := same_new gs (.tup [.str "put", nv, .non, pv', .str tx])
            have s03 := s02.trans ws
            have est : StAt (upd H2 s' (.tup [.str "put", nv, .non, pv', .str tx])) s' (.put n none pl tx) := ⟨nv, .non, pv', upd_same, f2.same ws, rfl, f4.ts (Same.ts ws)⟩
            refine ⟨_, rfl, p, dx, _, rfl, ws _ _ y2', no_m _ _, _, rfl, p, d, g, s', ol, .put n none pl tx, rfl, O.same s03, sm.len, est, ready.nw, sm.txt, .inr ⟨(fun m hm => by simp [Sd.items] at hm), none, .put, (fun z => nomatch z), (fun z => nomatch z), fun _ H3 ol' b3 o3 ap => ?_⟩⟩
            cases ap
            refine ⟨_, rfl, size63 (Nat.le_of_ble_eq_true rfl), fun t gt => ?_⟩
            have wt := same_new gt (.tup [.str "top", .ref s'])
            have t3 := b3.ts (s03 _ _ y2)
            exact q _ _ _ t _ _ (.top c) (((But.of s03).trans b3).trans (But.of wt)) (o3.same wt) upd_same ⟨s', rfl, (est.ts t3).ts (Same.ts wt)⟩
      · have nn : V.str wd.word ≠ V.str "put" ∧ isTop ol wd = false := by
          cases wd with
          | put u pl tx => exact absurd ⟨u, pl, tx, rfl⟩ c1
          | _ => exact ⟨by simp only [Wd.word, ne_eq]; decide +kernel, rfl⟩
        exact ⟨_, rfl, wa, _, _, _, rfl, rfl, e52, at0, rfl, _, rfl, iteU nn.1 (iteF ⟨s02, hst, nn.2, rfl⟩)⟩
    · rintro σ H3 ⟨s03, hst3, nt', rfl⟩
      refine ⟨_, rfl, _, rfl, p, d, g, st, ol, sd, rfl, O.same s03, sm, hst3, ready, fun w ol' H4 wr b4 o4 => ?_⟩
      have pr := PlayR.step hs nt' wr
      have t4 := b4.ts (s03 _ _ y2)
      rcases wr_word wr with rfl | nw
      · rw [if_pos rfl] at pr
        refine ⟨_, rfl, _, rfl, rfl, _, rfl, iteS ?_⟩
        exact ⟨_, rfl, size63 (Nat.le_of_ble_eq_true rfl), fun t gt => q _ _ _ t _ _ pr (((But.of s03).trans b4).trans (But.of (same_new gt _))) (o4.same (same_new gt _)) upd_same ⟨st, rfl, (hst3.ts t4).ts (Same.ts (same_new gt _))⟩⟩
      · rw [if_neg fun z => nw (congrArg V.str z)] at pr
        refine ⟨_, rfl, _, rfl, rfl, _, rfl, iteU nw ?_⟩
        exact ⟨size63 (Nat.le_of_ble_eq_true rfl), fun t gt => q _ _ _ t _ _ pr (((But.of s03).trans b4).trans (But.of (same_new gt _))) (o4.same (same_new gt _)) upd_same rfl⟩
/-! ### all deeds, one after another -/
abbrev Out := Nm × Str × Option Sd
def turned : Dd → Nm
  | ((i, _), .off k) => (i, k)
  | ((i, _), .on k) => (i, k)
  | (n, _) => n
def turnNames (ds : List Dd) : List Nm := (ds.filter (fun d => d.2.isTurn)).map (·.1)
inductive Runs (ts : As Dd) (tn : List Nm) : Ol → List Dd → List Out → Prop
  | nil {ol : Ol} : Runs ts tn ol [] []
  | off {ol : Ol} {d : Dd} {ds : List Dd} {rs : List Out} : offB d ts = true → Runs ts tn ol ds rs → Runs ts tn ol (d :: ds) ((d.1, "off", none) :: rs)
  | turn {ol : Ol} {d : Dd} {ds : List Dd} {rs : List Out} : offB d ts = false → d.2.isTurn = true → Runs ts tn ol ds rs → Runs ts tn ol (d :: ds) ((d.1, if turned d ∈ tn then "turn" else "done", none) :: rs)
  | play {ol ol' : Ol} {d : Dd} {ds : List Dd} {rs : List Out} {w : Str} {so : Option Sd} : offB d ts = false → d.2.isTurn = false → PlayR ol d.1 d.2 w so ol' → Runs ts tn ol' ds rs → Runs ts tn ol (d :: ds) ((d.1, w, so) :: rs)
/-- at each deed all is as `play` wants it -/
def Safe (ts : As Dd) : Ol → List Dd → Prop
  | _, [] => True
  | ol, d :: ds => ((offB d ts = true ∨ d.2.isTurn = true) → Safe ts ol ds) ∧ (offB d ts = false → d.2.isTurn = false → Small ol ∧ (∀ s, sdOf d.1 d.2 = some s → Ready ol s) ∧ ∀ w so ol', PlayR ol d.1 d.2 w so ol' → Safe ts ol' ds)
def RoAt (H : Hp) (v : V) (r : Out) : Prop := ∃ (t : Addr) (nv sv : V), v = .ref t ∧ H t = some (.tup [nv, .str r.2.1, sv]) ∧ NameIs H nv (nk r.1) ∧ SoAt H sv r.2.2
theorem RoAt.ts {H H' : Hp} {v : V} {r : Out} (x : RoAt H v r) (t : TS H H') : RoAt H' v r := by
  obtain ⟨a, nv, sv, h1, h2, h3, h4⟩ := x
  exact ⟨a, nv, sv, h1, t _ _ h2, h3.ts' t, h4.ts t⟩
def spPlayed : Sp := fun vs H Q _ => ∃ (l : Addr) (xs : List V) (ds : List Dd), vs = [.ref l] ∧ H l = some (.lst xs) ∧ DdsAt H xs ds ∧ ds.length ≤ 300 ∧ Safe (turnsOf ds) [] ds ∧
  ∀ a ys rs H', Same H H' → H' a = some (.lst ys) → Paired (RoAt H') ys rs → Runs (turnsOf ds) (turnNames ds) [] ds rs → Q (.ref a) H'
theorem nm_dt {H : Hp} {v : V} {n : Nm} (h : NameIs H v (nk n)) : Dt H (.tuple [.int n.1, .int n.2]) v := by
  obtain ⟨b, rfl, e⟩ := h
  simp only [Dt, DtAll]
  exact ⟨b, _, rfl, .inl e, _, _, rfl, rfl, _, _, rfl, rfl, rfl⟩
def nmD (n : Nm) : PyData := .tuple [.int n.1, .int n.2]
theorem nms_dt {H : Hp} {vs : List V} {ns : List Nm} (x : Paired (fun v n => NameIs H v (nk n)) vs ns) : DtAll H (ns.map nmD) vs ∧ PyData.canLayAll0 (ns.map nmD) = true := by
  induction x with
  | nil => exact ⟨by simp [DtAll], rfl⟩
  | @cons p q _ _ r _ ih =>
    refine ⟨?_, ?_⟩
    · simp only [List.map_cons, DtAll]
      exact ⟨_, _, rfl, nm_dt r, ih.1⟩
    · simp only [List.map_cons, PyData.canLayAll0, ih.2]
      simp [nmD, PyData.canLay0, PyData.canLayAll0]
theorem nm_any (k : Nm) (ns : List Nm) : ((ns.map nmD).any fun d => PyData.eqv d (nmD k)) = decide (k ∈ ns) := by
  induction ns with
  | nil => rfl
  | cons n ns ih =>
    rw [List.map_cons, List.any_cons, ih]
    have : PyData.eqv (nmD n) (nmD k) = decide (k = n) := by
      have := eqv_ints [n.1, n.2] [k.1, k.2]
      unfold nmD
      rw [show ([PyData.int n.1, .int n.2] : List PyData) = [n.1, n.2].map PyData.int from rfl, show ([PyData.int k.1, .int k.2] : List PyData) = [k.1, k.2].map PyData.int from rfl, this, decide_eq_decide]
      constructor
      · intro z
        injection z with z1 z2
        injection z2 with z2 _
        exact Prod.ext z1.symm z2.symm
      · rintro rfl
        rfl
    rw [this, Bool.eq_iff_iff]
    simp
theorem comp_listF {K : PySem.W.Frag} {a : Addr} {xs : List V} {n : Nat} {cap : List Nat} {g : TG} {tc : TT} {te : TE} {σ : St} {H0 : Hp} {Q : VK} (Pv : Nat → List V → Hp → Prop) (hz : xs.length ≤ 1000) (hn : ∀ i ys H, Pv i ys H → ys.length ≤ i) (h0 : Pv 0 [] H0)
    (hl : ∀ i ys H, Pv i ys H → SqL K H a xs)
    (ht : ∀ i ys H x, xs[i]? = some x → Pv i ys H → ∀ Y : List V → Hp → Prop, (∀ zs H4, Pv (i + 1) zs H4 → Y zs H4) → g x (compSt n cap σ) H fun σ2 H2 => tc σ2 H2 fun b H3 => if b = true then te σ2 H3 fun y H4 => Y (ys ++ [y]) H4 else Y ys H3)
    (hq : ∀ ys p H, Pv xs.length ys H → H p = none → Q (.ref p) (upd H p (.lst ys))) : tCompR n cap g tc te σ (Itl K a) H0 Q := by
  refine comp_invF (N := xs.length) Pv hz hn h0 (fun i ys H hi z => ⟨xs, xs[i], hl i ys H z, by simp [hi]⟩) (fun ys H z => ⟨xs, hl _ ys H z, Nat.le_refl _⟩) (fun i ys H x H' hi z y Y hY => ?_) hq
  obtain rfl : H' = H := y.1
  exact ht i ys H' x (y.2 xs (hl i ys H' z)) z Y hY
theorem names_take {ds : List Dd} {i : Nat} {d : Dd} (h : ds[i]? = some d) : turnNames (ds.take (i + 1)) = turnNames (ds.take i) ++ if d.2.isTurn = true then [d.1] else [] := by
  unfold turnNames
  rw [List.take_succ, h, List.filter_append, List.map_append]
  show _ ++ (List.filter _ [d]).map _ = _
  cases c : d.2.isTurn <;> simp [c]
abbrev s_played : Stmt := top 24
abbrev N_played : List Str := ["ready", "turns", "turning", "outline", "told", "deed", "outcome"]
theorem sc_played : FnScope N_played ["ready"] (defScope s_played) := ⟨rfl, rfl, rfl, by decide +kernel, rfl, by decide +kernel, by decide +kernel⟩
theorem ok_played {f C : Addr} {fd : FuncData} (F : Fun K "played" "played" s_played f fd) (F_last_turns : Fn P w K mg base 2 "last_turns" ["ready"] spLast) (F_is_turn : Fn P w K mg base 1 "is_turn" ["deed"] spIsTurn) (F_name_of : Fn P w K mg base 1 "name_of" ["deed"] spNameOf) (F_turned_name : Fn P w K mg base 1 "turned_name" ["deed"] spTurned)
    (F_is_off : Fn P w K mg base 2 "is_off" ["deed", "turns"] spIsOff) (F_play : Fn P w K mg base 6 "play" ["deed", "outline"] (spPlay C)) (Mk_Plain : MkFn P w K mg base 1 C "Plain" ["self"] (spInit C)) : FnOk P w K mg base CX0 7 f fd ["ready"] spPlayed := by
  refine F.okQ sc_played (fun vs H Q E h => ?_) (fun cdv A outer s H vs Q E hr h => ?_)
  · obtain ⟨l, xs, ds, rfl, _⟩ := h
    rfl
  obtain ⟨l, xs, ds, rfl, hl, hd, l3, safe, q⟩ := h
  have ll := Paired.length hd
  refine ⟨_, (b_c (s_set (i := 1) sc_played.nd (q_fn F_last_turns (hr.mono (by decide)) (q_a (q_v 0) q_a0)))
      (b_c (s_setC (j := 2) sc_played.nd (own := ["deed"]) (⟨rfl, by decide +kernel, by decide +kernel, rfl, trivial⟩ : CompOk _ _ [] []) rfl (i_list (q_v 0)) (fun _ _ _ _ => g_name (i := 0) (show (["deed"] : List Str).Nodup by decide +kernel)) (gk_name (by decide)) (fun _ _ _ _ => (if_1 (t_val (q_fn F_is_turn (hr.mono (by decide)) (q_a (q_v 0) q_a0))))) (fun _ _ _ _ => (q_fn F_name_of (hr.mono (by decide)) (q_a (q_v 0) q_a0))))
      (b_c (s_set (i := 3) sc_played.nd (q_make0 Mk_Plain (hr.mono (by decide))))
      (b_c (s_set (i := 4) sc_played.nd (q_lst q_a0))
      (b_c (s_for PassesOwn.never rfl (i_list (q_v 0)) (g_name (i := 5) sc_played.nd) (b_c (s_join (s_if (t_val (q_fn F_is_off (hr.mono (by decide)) (q_a (q_v 5) (q_a (q_v 1) q_a0)))) (b_1 (s_set (i := 6) sc_played.nd (q_tup (q_a q_str (q_a q_non q_a0))))) (b_1 (s_if (t_val (q_fn F_is_turn (hr.mono (by decide)) (q_a (q_v 5) q_a0))) (b_1 (s_set (i := 6) sc_played.nd (q_tup (q_a (q_if (t_cmp (o_inD hr) (q_fn F_turned_name (hr.mono (by decide)) (q_a (q_v 5) q_a0)) (q_v 2)) q_str q_str) (q_a q_non q_a0))))) (b_1 (s_set (i := 6) sc_played.nd (q_fn F_play (hr.mono (by decide)) (q_a (q_v 5) (q_a (q_v 3) q_a0)))))))))
      (b_1 (s_expr (q_app (q_v 4) (q_op o_catS (q_tup (q_a (q_fn F_name_of (hr.mono (by decide)) (q_a (q_v 5) q_a0)) q_a0)) (q_v 6)))))))
      (b_1 (s_ret (q_v 4)))))))), ?_⟩
  refine ⟨_, rfl, l, xs, ds, rfl, hl, hd, l3, fun a tvs H1 s1 ha ht => ?_⟩
  -- the turns' own names
  refine ⟨_, rfl, l, rfl, ⟨_, SqL.of (s1 _ _ hl)⟩, ?_⟩
  refine comp_listF (fun i ys H' => Same H1 H' ∧ ys.length ≤ i ∧ Paired (fun v n => NameIs H' v (nk n)) ys (turnNames (ds.take i))) (by omega) (fun _ _ _ z => z.2.1) ⟨Same.refl _, Nat.le_refl _, .nil⟩ (fun i ys H' z => SqL.of (z.1 _ _ (s1 _ _ hl))) ?_ ?_
  · rintro i ys H' v hv ⟨sm, ly, pr⟩ Y hY
    obtain ⟨d, hdi, hdd⟩ := paired_get hd hv
    have s1' := s1.trans sm
    refine ⟨_, rfl, v, d, rfl, hdd.ts (Same.ts s1'), fun H2 s2 => ⟨_, rfl, ?_⟩⟩
    cases c : d.2.isTurn with
    | false =>
      refine iteF (hY _ _ ⟨sm.trans s2, by omega, ?_⟩)
      rw [names_take hdi, c, if_neg (by decide), List.append_nil]
      exact Paired.mapP pr fun _ _ z => z.same s2
    | true =>
      refine iteT ⟨_, rfl, v, d, rfl, hdd.ts (Same.ts (s1'.trans s2)), fun t H3 s3 e3 => hY _ _ ⟨sm.trans (s2.trans s3), by rw [List.length_append]; exact Nat.succ_le_succ ly, ?_⟩⟩
      rw [names_take hdi, c, if_pos rfl]
      exact Paired.snoc (Paired.mapP pr fun _ _ z => z.same (s2.trans s3)) ⟨t, rfl, e3⟩
  rintro nvs tl H2 ⟨sm2, lnv, prn⟩ gtl
  rw [ll, List.take_length] at prn
  have wtl := same_new gtl (.lst nvs)
  have etl : upd H2 tl (.lst nvs) tl = some (.lst nvs) := upd_same
  have s02 : Same H (upd H2 tl (.lst nvs)) := s1.trans (sm2.trans wtl)
  have ha2 := wtl _ _ (sm2 _ _ ha)
  have ht2 := ht.ts (Same.ts (sm2.trans wtl))
  have prn2 := Paired.mapP prn fun _ _ (z : NameIs _ _ _) => z.same wtl
  generalize upd H2 tl (.lst nvs) = H3 at etl s02 ha2 ht2 prn2 ⊢
  clear ht prn ha sm2 wtl gtl
  -- outline = Plain()
  intro x dx nx ndx nex
  refine ⟨x, dx, rfl, upd_same, fun d g H4 fd0 fg0 S4 kp4 => ⟨rfl, ?_⟩⟩
  have s34 : Same H3 H4 := fun b o e => kp4 b o (by rw [upd_ne (ne_of_none e nx), upd_ne (ne_of_none e ndx)]; exact e) (ne_of_none e nx)
  have s00 : Same H3 (upd (upd H3 dx (.own x)) x (.ins C dx [])) := fun b o e => by rw [upd_ne (ne_of_none e nx), upd_ne (ne_of_none e ndx)]; exact e
  have d3 : H3 d = none := s00.free fd0
  -- told = []
  refine ⟨size63 (Nat.le_of_ble_eq_true rfl), fun to gto => ?_⟩
  have wto := same_new gto (.lst [])
  have eto : upd H4 to (.lst []) to = some (.lst []) := upd_same
  have s35 : Same H3 (upd H4 to (.lst [])) := s34.trans wto
  have O5 : OlAt C (upd H4 to (.lst [])) x d g [] := ⟨[], S4.same wto, .nil⟩
  have ndt : d ≠ to := fun z => by have := S4.dc; rw [z, gto] at this; cases this
  have t3 : H3 to = none := s34.free gto
  generalize upd H4 to (.lst []) = H5 at eto s35 O5 ⊢
  have kH : ∀ {H'}, (∀ b o, H3 b = some o → H' b = some o) → Same H H' := fun k b o e => k b o (s02 _ _ e)
  refine ⟨_, rfl, l, rfl, ⟨_, SqL.of (s35 _ _ (s02 _ _ hl))⟩, ?_⟩
  refine for_list (K := K) (a := l) (xs := xs) (fun i σ H' => Same H3 H' ∧ ∃ (ol : Ol) (ys : List V) (rs : List Out) (o5 o6 : Option V), OlAt C H' x d g ol ∧ Safe (turnsOf ds) ol (ds.drop i) ∧ H' to = some (.lst ys) ∧ ys.length = i ∧ Paired (RoAt H') ys rs ∧ (∀ rs', Runs (turnsOf ds) (turnNames ds) ol (ds.drop i) rs' → Runs (turnsOf ds) (turnNames ds) [] ds (rs ++ rs')) ∧
      σ = [some (.ref l), some (.ref a), some (.ref tl), some (.ref x), some (.ref to), o5, o6])
    ⟨s35, [], [], [], none, none, O5, safe, eto, rfl, .nil, fun rs' z => z, rfl⟩ (fun i σ H' _ z => SqL.of (z.1 _ _ (s02 _ _ hl))) ?_ ?_
  · rintro i v σ H' hv ⟨sm, ol, ys, rs, o5, o6, O, sf, hto, ly, pr, run, rfl⟩
    obtain ⟨dd, hdi, hdd⟩ := paired_get hd hv
    have hi : i < ds.length := (List.getElem?_eq_some_iff.mp hdi).1
    have hdr : ds.drop i = dd :: ds.drop (i + 1) := by
      rw [List.drop_eq_getElem_cons hi]
      rw [List.getElem?_eq_getElem hi] at hdi
      rw [Option.some.inj hdi]
    rw [hdr] at sf run
    have hd3 : DdAt H3 v dd := hdd.ts (Same.ts s02)
    have ddt : d ≠ to := ndt
    obtain ⟨kvs0, S0, _⟩ := id O
    -- what came of it
    refine ⟨fun σ H2 => ∃ (u : Addr) (w : Str) (sv : V) (so : Option Sd) (ol' : Ol), Same H3 H2 ∧ H2 to = some (.lst ys) ∧ Paired (RoAt H2) ys rs ∧ OlAt C H2 x d g ol' ∧ Safe (turnsOf ds) ol' (ds.drop (i + 1)) ∧ H2 u = some (.tup [.str w, sv]) ∧ SoAt H2 sv so ∧
        (∀ rs', Runs (turnsOf ds) (turnNames ds) ol' (ds.drop (i + 1)) rs' → Runs (turnsOf ds) (turnNames ds) ol (dd :: ds.drop (i + 1)) ((dd.1, w, so) :: rs')) ∧ σ = [some (.ref l), some (.ref a), some (.ref tl), some (.ref x), some (.ref to), some v, some (.ref u)], ?_, ?_⟩
    · refine ⟨_, rfl, _, rfl, v, dd, a, tvs, turnsOf ds, rfl, hd3.ts (Same.ts sm), sm _ _ ha2, ht2.ts (Same.ts sm), fun H6 s6 => ⟨_, rfl, ?_⟩⟩
      have s36 := sm.trans s6
      have prs : ∀ {H7}, Same H' H7 → Paired (RoAt H7) ys rs := fun s7 => Paired.mapP pr fun _ _ z => z.ts (Same.ts s7)
      cases c : offB dd (turnsOf ds) with
      | true => exact iteT ⟨size63 (Nat.le_of_ble_eq_true rfl), fun u gu => ⟨u, "off", .non, none, ol, s36.trans (same_new gu _), same_new gu _ _ _ (s6 _ _ hto), prs (s6.trans (same_new gu _)), O.same (s6.trans (same_new gu _)), sf.1 (.inl c), upd_same, rfl, fun rs' z => .off c z, rfl⟩⟩
      | false =>
        refine iteF ?_
        refine ⟨_, rfl, v, dd, rfl, hd3.ts (Same.ts s36), fun H7 s7 => ⟨_, rfl, ?_⟩⟩
        have s67 := s6.trans s7
        have s37 := sm.trans s67
        cases c2 : dd.2.isTurn with
        | true =>
          refine iteT ?_
          obtain ⟨k, hk⟩ : ∃ k, dd.2 = .off k ∨ dd.2 = .on k := by
            obtain ⟨n, wd⟩ := dd
            cases wd with
            | off k => exact ⟨k, .inl rfl⟩
            | on k => exact ⟨k, .inr rfl⟩
            | _ => cases c2
          have tk : turned dd = (dd.1.1, k) := by
            obtain ⟨⟨i, j⟩, wd⟩ := dd
            rcases hk with hk | hk <;> (dsimp only at hk; subst hk; rfl)
          refine ⟨_, rfl, v, dd, k, rfl, hd3.ts (Same.ts s37), hk, fun t H8 s8 e8 => ?_⟩
          have s78 := s67.trans s8
          have s38 := sm.trans s78
          obtain ⟨dt1, dt2⟩ := nms_dt (Paired.mapP prn2 fun _ _ (z : NameIs _ _ _) => z.same s38)
          refine ⟨_, rfl, tl, nvs, nmD (dd.1.1, k), _, rfl, SqL.of (s38 _ _ etl), nm_dt (n := (dd.1.1, k)) ⟨t, rfl, e8⟩, dt1, by simp [SeqAt.shaped, nmD, PyData.canLay0, PyData.canLayAll0, PyData.depth, PyData.depthAll], dt2, _, rfl, ?_⟩
          have en : (if false = true then !((turnNames ds).map nmD).any (fun d => PyData.eqv d (nmD (dd.1.1, k))) else ((turnNames ds).map nmD).any (fun d => PyData.eqv d (nmD (dd.1.1, k)))) = decide (turned dd ∈ turnNames ds) := by
            rw [tk]
            exact nm_any _ _
          rw [en]
          refine iteD (fun c3 => ?_) (fun c3 => ?_)
          · exact ⟨size63 (Nat.le_of_ble_eq_true rfl), fun u gu => ⟨u, "turn", .non, none, ol, s38.trans (same_new gu _), same_new gu _ _ _ (s78 _ _ hto), prs (s78.trans (same_new gu _)), O.same (s78.trans (same_new gu _)), sf.1 (.inr c2), upd_same, rfl, fun rs' z => by have := Runs.turn c c2 z; rw [if_pos c3] at this; exact this, rfl⟩⟩
          · exact ⟨size63 (Nat.le_of_ble_eq_true rfl), fun u gu => ⟨u, "done", .non, none, ol, s38.trans (same_new gu _), same_new gu _ _ _ (s78 _ _ hto), prs (s78.trans (same_new gu _)), O.same (s78.trans (same_new gu _)), sf.1 (.inr c2), upd_same, rfl, fun rs' z => by have := Runs.turn c c2 z; rw [if_neg c3] at this; exact this, rfl⟩⟩
        | false =>
          refine iteF ?_
          obtain ⟨small, rdy, nxt⟩ := sf.2 c c2
          refine ⟨_, rfl, _, rfl, v, dd, x, d, g, ol, rfl, hd3.ts (Same.ts s37), O.same s67, small, c2, rdy, fun w so ol' t sv H8 pl b8 o8 e8 so8 => ?_⟩
          have k8 : Same H3 H8 := fun b o e => b8 b o (s37 _ _ e) (ne_of_none e d3)
          have t8 := b8.ts (s67 _ _ S0.dc)
          exact ⟨t, w, sv, so, ol', k8, b8 _ _ (s67 _ _ hto) (Ne.symm ndt), Paired.mapP (prs s67) fun _ _ z => z.ts t8, o8, nxt _ _ _ pl, e8, so8, fun rs' z => .play c c2 pl z, rfl⟩
    · rintro σ H2 ⟨u, w, sv, so, ol', s32, hto2, pr2, O2, sf2, eu, eso, run2, rfl⟩
      refine ⟨_, rfl, .inl ⟨rfl, _, SqL.of hto2⟩, _, rfl, v, dd, rfl, hd3.ts (Same.ts s32), fun t H6 s6 e6 => ⟨size63 (Nat.le_of_ble_eq_true rfl), fun y gy => ?_⟩⟩
      have wy := same_new gy (.tup [.ref t])
      refine ⟨_, rfl, y, u, _, _, rfl, rfl, upd_same, wy _ _ (s6 _ _ eu), size63 (Nat.le_of_ble_eq_true rfl), fun z H7 s7 e7 => ?_⟩
      have s27 : Same H2 H7 := s6.trans (wy.trans s7)
      refine ⟨to, _, _, rfl, rfl, s27 _ _ hto2, small1000 (by omega), ?_⟩
      have tl' : TS H7 (upd H7 to (.lst (ys ++ [.ref z]))) := fun b zs e => by
        rw [upd_ne (ne_of e (s27 _ _ hto2) (by intro z; cases z))]
        exact e
      have T2 : TS H2 (upd H7 to (.lst (ys ++ [.ref z]))) := fun b zs e => tl' _ _ (s27 _ _ e)
      refine ⟨fun b o e => by rw [upd_ne (ne_of_none e t3)]; exact s27 _ _ (s32 _ _ e), ol', ys ++ [.ref z], rs ++ [(dd.1, w, so)], _, _, ?_, sf2, upd_same, by rw [List.length_append, ly]; rfl, Paired.snoc (Paired.mapP pr2 fun _ _ q => q.ts T2) ⟨z, .ref t, sv, rfl, tl' _ _ e7, ⟨t, rfl, tl' _ _ (s7 _ _ (wy _ _ e6))⟩, eso.ts T2⟩, fun rs' q => by rw [List.append_assoc]; exact run _ (run2 rs' q), rfl⟩
      obtain ⟨kvs', S', R'⟩ := O2
      obtain ⟨⟨dz, z1⟩, z2, z3, z4⟩ := S'.same s27
      exact ⟨kvs', ⟨⟨dz, by rw [upd_ne (ne_of z1 (s27 _ _ hto2) (by intro z; cases z))]; exact z1⟩, by rw [upd_ne ndt]; exact z2, by rw [upd_ne (ne_of z3 (s27 _ _ hto2) (by intro z; cases z))]; exact z3, z4⟩, R'.ts T2⟩
  · rintro σ H' ⟨sm, ol, ys, rs, o5, o6, O, sf, hto, ly, pr, run, rfl⟩
    rw [ll, List.drop_length] at run
    have := run [] .nil
    rw [List.append_nil] at this
    exact ⟨_, rfl, q to ys rs H' (s02.trans sm) hto pr this⟩
def WoAt (H : Hp) (v : V) (r : Out) : Prop := ∃ (t : Addr) (nv : V), v = .ref t ∧ H t = some (.tup [nv, .str r.2.1]) ∧ NameIs H nv (nk r.1)
def spWords : Sp := fun vs H Q _ => ∃ (l : Addr) (xs : List V) (ds : List Dd), vs = [.ref l] ∧ H l = some (.lst xs) ∧ DdsAt H xs ds ∧ ds.length ≤ 300 ∧ Safe (turnsOf ds) [] ds ∧
  ∀ a ys rs H', Same H H' → H' a = some (.lst ys) → Paired (WoAt H') ys rs → Runs (turnsOf ds) (turnNames ds) [] ds rs → Q (.ref a) H'
theorem WoAt.ts {H H' : Hp} {v : V} {r : Out} (x : WoAt H v r) (t : TS H H') : WoAt H' v r := by
  obtain ⟨a, nv, h1, h2, h3⟩ := x
  exact ⟨a, nv, h1, t _ _ h2, h3.ts' t⟩
theorem take_get {α : Type} {l : List α} {i : Nat} {x : α} (h : l[i]? = some x) : l.take (i + 1) = l.take i ++ [x] := by
  rw [List.take_succ, h]
  rfl
theorem run_len {ts : As Dd} {tn : List Nm} {ol : Ol} {ds : List Dd} {rs : List Out} (h : Runs ts tn ol ds rs) : rs.length = ds.length := by
  induction h with
  | nil => rfl
  | off _ _ ih => rw [List.length_cons, List.length_cons, ih]
  | turn _ _ _ ih => rw [List.length_cons, List.length_cons, ih]
  | play _ _ _ _ ih => rw [List.length_cons, List.length_cons, ih]
abbrev s_words_of : Stmt := top 18
abbrev N_words_of : List Str := ["ready"]
theorem sc_words_of : FnScope N_words_of ["ready"] (defScope s_words_of) := ⟨rfl, rfl, rfl, by decide +kernel, rfl, by decide +kernel, by decide +kernel⟩
theorem ok_words_of {f : Addr} {fd : FuncData} (F : Fun K "words_of" "words_of" s_words_of f fd) (F_played : Fn P w K mg base 7 "played" ["ready"] spPlayed) : FnOk P w K mg base CX0 8 f fd ["ready"] spWords := by
  refine F.okQ sc_words_of (fun vs H Q E h => ?_) (fun cdv A outer s H vs Q E hr h => ?_)
  · obtain ⟨l, xs, ds, rfl, _⟩ := h
    rfl
  obtain ⟨l, xs, ds, rfl, hl, hd, l3, safe, q⟩ := h
  refine ⟨_, (b_1 (s_ret (q_comp (own := ["name", "word", "step"]) (⟨rfl, by decide +kernel, by decide +kernel, rfl, trivial⟩ : CompOk _ _ [] []) rfl (i_list (q_fn F_played (hr.mono (by decide)) (q_a (q_v 0) q_a0))) (fun _ _ _ _ => gK_tup (K := K) (n := 3) rfl rfl (gs_1 (g_name (i := 0) (show (["name", "word", "step"] : List Str).Nodup by decide +kernel)) (gs_1 (g_name (i := 1) (show (["name", "word", "step"] : List Str).Nodup by decide +kernel)) (gs_1 (g_name (i := 2) (show (["name", "word", "step"] : List Str).Nodup by decide +kernel)) gs_0)))) (gk_tup (gks_cons (gk_name (by decide)) gm_name (gks_cons (gk_name (by decide)) gm_name (gks_cons (gk_name (by decide)) gm_name gks_nil gms_nil) (gms_cons gm_name gms_nil)) (gms_cons gm_name (gms_cons gm_name gms_nil)))) (fun _ _ _ _ => if_0) (fun _ _ _ _ => (q_tup (q_a (q_v 0) (q_a (q_v 1) q_a0))))))), ?_⟩
  refine ⟨_, rfl, l, xs, ds, rfl, hl, hd, l3, safe, fun a ys rs H1 s1 ea pr run => ⟨a, rfl, ⟨_, SqL.of ea⟩, ?_⟩⟩
  have ln : ys.length = ds.length := (Paired.length pr).trans (run_len run)
  refine comp_listF (fun i zs H' => Same H1 H' ∧ zs.length ≤ i ∧ Paired (WoAt H') zs (rs.take i)) (by omega) (fun _ _ _ z => z.2.1) ⟨Same.refl _, Nat.le_refl _, .nil⟩ (fun i zs H' z => SqL.of (z.1 _ _ ea)) ?_ ?_
  · rintro i zs H' v hv ⟨sm, lz, pz⟩ Y hY
    obtain ⟨r, hr', t, nv, sv, rfl, e1, e2, e3⟩ := paired_get pr hv
    refine ⟨t, _, rfl, SqT.of (sm _ _ e1), rfl, _, _, rfl, _, _, rfl, _, _, rfl, rfl, ?_⟩
    refine ⟨_, rfl, _, rfl, size63 (Nat.le_of_ble_eq_true rfl), fun u gu => hY _ _ ⟨sm.trans (same_new gu _), by rw [List.length_append]; exact Nat.succ_le_succ lz, ?_⟩⟩
    rw [take_get hr']
    exact Paired.snoc (Paired.mapP pz fun _ _ z => z.ts (Same.ts (same_new gu _))) ⟨u, nv, rfl, upd_same, e2.same (sm.trans (same_new gu _))⟩
  · rintro zs b H' ⟨sm, lz, pz⟩ gb
    rw [(Paired.length pr), List.take_length] at pz
    exact q b zs rs _ (s1.trans (sm.trans (same_new gb _))) upd_same (Paired.mapP pz fun _ _ z => z.ts (Same.ts (same_new gb _))) run
def stepsIn (rs : List Out) : List (Nm × Sd) := rs.filterMap fun r => r.2.2.map fun s => (r.1, s)
def SsAt (H : Hp) (v : V) (r : Nm × Sd) : Prop := ∃ (t st : Addr) (nv : V), v = .ref t ∧ H t = some (.tup [nv, .ref st]) ∧ NameIs H nv (nk r.1) ∧ StAt H st r.2
theorem SsAt.ts {H H' : Hp} {v : V} {r : Nm × Sd} (x : SsAt H v r) (t : TS H H') : SsAt H' v r := by
  obtain ⟨a, st, nv, h1, h2, h3, h4⟩ := x
  exact ⟨a, st, nv, h1, t _ _ h2, h3.ts' t, h4.ts t⟩
def spSteps : Sp := fun vs H Q _ => ∃ (l : Addr) (xs : List V) (ds : List Dd), vs = [.ref l] ∧ H l = some (.lst xs) ∧ DdsAt H xs ds ∧ ds.length ≤ 300 ∧ Safe (turnsOf ds) [] ds ∧
  ∀ a ys rs H', Same H H' → H' a = some (.lst ys) → Paired (SsAt H') ys (stepsIn rs) → Runs (turnsOf ds) (turnNames ds) [] ds rs → Q (.ref a) H'
abbrev s_steps_of : Stmt := top 19
abbrev N_steps_of : List Str := ["ready"]
theorem sc_steps_of : FnScope N_steps_of ["ready"] (defScope s_steps_of) := ⟨rfl, rfl, rfl, by decide +kernel, rfl, by decide +kernel, by decide +kernel⟩
theorem ok_steps_of {f : Addr} {fd : FuncData} (F : Fun K "steps_of" "steps_of" s_steps_of f fd) (F_played : Fn P w K mg base 7 "played" ["ready"] spPlayed) : FnOk P w K mg base CX0 8 f fd ["ready"] spSteps := by
  refine F.okQ sc_steps_of (fun vs H Q E h => ?_) (fun cdv A outer s H vs Q E hr h => ?_)
  · obtain ⟨l, xs, ds, rfl, _⟩ := h
    rfl
  obtain ⟨l, xs, ds, rfl, hl, hd, l3, safe, q⟩ := h
  refine ⟨_, (b_1 (s_ret (q_comp (own := ["name", "word", "step"]) (⟨rfl, by decide +kernel, by decide +kernel, rfl, trivial⟩ : CompOk _ _ [] []) rfl (i_list (q_fn F_played (hr.mono (by decide)) (q_a (q_v 0) q_a0))) (fun _ _ _ _ => gK_tup (K := K) (n := 3) rfl rfl (gs_1 (g_name (i := 0) (show (["name", "word", "step"] : List Str).Nodup by decide +kernel)) (gs_1 (g_name (i := 1) (show (["name", "word", "step"] : List Str).Nodup by decide +kernel)) (gs_1 (g_name (i := 2) (show (["name", "word", "step"] : List Str).Nodup by decide +kernel)) gs_0)))) (gk_tup (gks_cons (gk_name (by decide)) gm_name (gks_cons (gk_name (by decide)) gm_name (gks_cons (gk_name (by decide)) gm_name gks_nil gms_nil) (gms_cons gm_name gms_nil)) (gms_cons gm_name (gms_cons gm_name gms_nil)))) (fun _ _ _ _ => (if_1 (t_cmp o_notN (q_v 2) q_non))) (fun _ _ _ _ => (q_tup (q_a (q_v 0) (q_a (q_v 2) q_a0))))))), ?_⟩
  refine ⟨_, rfl, l, xs, ds, rfl, hl, hd, l3, safe, fun a ys rs H1 s1 ea pr run => ⟨a, rfl, ⟨_, SqL.of ea⟩, ?_⟩⟩
  have ln : ys.length = ds.length := (Paired.length pr).trans (run_len run)
  refine comp_listF (fun i zs H' => Same H1 H' ∧ zs.length ≤ i ∧ Paired (SsAt H') zs (stepsIn (rs.take i))) (by omega) (fun _ _ _ z => z.2.1) ⟨Same.refl _, Nat.le_refl _, .nil⟩ (fun i zs H' z => SqL.of (z.1 _ _ ea)) ?_ ?_
  · rintro i zs H' v hv ⟨sm, lz, pz⟩ Y hY
    obtain ⟨r, hr', t, nv, sv, rfl, e1, e2, e3⟩ := paired_get pr hv
    have es : stepsIn (rs.take (i + 1)) = stepsIn (rs.take i) ++ (r.2.2.map fun s => (r.1, s)).toList := by
      unfold stepsIn
      rw [take_get hr', List.filterMap_append]
      obtain ⟨n, w', so⟩ := r
      cases so <;> rfl
    refine ⟨t, _, rfl, SqT.of (sm _ _ e1), rfl, _, _, rfl, _, _, rfl, _, _, rfl, rfl, ?_⟩
    obtain ⟨n, w', so⟩ := r
    cases so with
    | none =>
      obtain rfl : sv = .non := e3
      refine ⟨_, rfl, rfl, _, rfl, iteNS rfl (hY _ _ ⟨sm, by omega, ?_⟩)⟩
      rw [es]
      simpa using pz
    | some sd =>
      obtain ⟨st, rfl, est⟩ := e3
      refine ⟨_, rfl, rfl, _, rfl, iteNN (by intro z; cases z) ?_⟩
      refine ⟨_, rfl, _, rfl, size63 (Nat.le_of_ble_eq_true rfl), fun u gu => hY _ _ ⟨sm.trans (same_new gu _), by rw [List.length_append]; exact Nat.succ_le_succ lz, ?_⟩⟩
      rw [es]
      exact Paired.snoc (Paired.mapP pz fun _ _ z => z.ts (Same.ts (same_new gu _))) ⟨u, st, nv, rfl, upd_same, e2.same (sm.trans (same_new gu _)), est.ts (Same.ts (sm.trans (same_new gu _)))⟩
  · rintro zs b H' ⟨sm, lz, pz⟩ gb
    rw [(Paired.length pr), List.take_length] at pz
    exact q b zs rs _ (s1.trans (sm.trans (same_new gb _))) upd_same (Paired.mapP pz fun _ _ z => z.ts (Same.ts (same_new gb _))) run
/-! ### steps and words as data -/
def whD : Option Int → PyData
  | none => .none
  | some i => .int i
def upD : Option Nm → PyData
  | none => .none
  | some n => nmD n
def plD (ns : List Int) : PyData := .tuple (ns.map PyData.int)
def sdD : Sd → PyData
  | .put n u pl tx => .tuple [.str "put", nmD n, upD u, plD pl, .str tx]
  | .move n u pl => .tuple [.str "move", nmD n, upD u, plD pl]
  | .write n tx => .tuple [.str "write", nmD n, .str tx]
  | .mark n b => .tuple [.str "mark", nmD n, .bool b]
  | .due n w => .tuple [.str "due", nmD n, whD w]
  | .fold n b => .tuple [.str "fold", nmD n, .bool b]
  | .part n a m pl => .tuple [.str "part", nmD n, .int a, nmD m, plD pl]
  | .join n m => .tuple [.str "join", nmD n, nmD m]
theorem up_dt {H : Hp} {v : V} {u : Option Nm} (h : UpAt H v u) : Dt H (upD u) v := by
  cases u with
  | none =>
    obtain rfl : v = .non := h
    simp only [upD, Dt]
  | some n => exact nm_dt h
theorem pl_dt {H : Hp} {v : V} {ns : List Int} (h : PlAt H v ns) : Dt H (plD ns) v := by
  obtain ⟨b, rfl, e⟩ := h
  exact dt_tup e
theorem wh_dt {H : Hp} (w : Option Int) : Dt H (whD w) (whV w) := by
  cases w <;> simp only [whD, whV, Dt]
theorem dt_list {H : Hp} {st : Addr} {vs : List V} {ds : List PyData} (h : H st = some (.tup vs)) (hd : DtAll H ds vs) : Dt H (.tuple ds) (.ref st) := by
  unfold Dt
  exact ⟨st, _, rfl, .inl h, hd⟩
theorem da_nil {H : Hp} : DtAll H [] [] := by simp [DtAll]
theorem da_cons {H : Hp} {d : PyData} {ds : List PyData} {v : V} {vs : List V} (h : Dt H d v) (t : DtAll H ds vs) : DtAll H (d :: ds) (v :: vs) := by
  unfold DtAll
  exact ⟨_, _, rfl, h, t⟩
theorem dt_str {H : Hp} (s : Str) : Dt H (.str s) (.str s) := by simp only [Dt]
theorem dt_bl {H : Hp} (b : Bool) : Dt H (.bool b) (.bl b) := by simp only [Dt]
theorem dt_int {H : Hp} (i : Int) : Dt H (.int i) (.int i) := by simp only [Dt]
theorem st_dt {H : Hp} {st : Addr} {s : Sd} (h : StAt H st s) : Dt H (sdD s) (.ref st) := by
  cases s with
  | put => obtain ⟨nv, uv, pv, h1, h2, h3, h4⟩ := h; exact dt_list h1 (da_cons (dt_str _) (da_cons (nm_dt h2) (da_cons (up_dt h3) (da_cons (pl_dt h4) (da_cons (dt_str _) da_nil)))))
  | move => obtain ⟨nv, uv, pv, h1, h2, h3, h4⟩ := h; exact dt_list h1 (da_cons (dt_str _) (da_cons (nm_dt h2) (da_cons (up_dt h3) (da_cons (pl_dt h4) da_nil))))
  | write => obtain ⟨nv, h1, h2⟩ := h; exact dt_list h1 (da_cons (dt_str _) (da_cons (nm_dt h2) (da_cons (dt_str _) da_nil)))
  | mark => obtain ⟨nv, h1, h2⟩ := h; exact dt_list h1 (da_cons (dt_str _) (da_cons (nm_dt h2) (da_cons (dt_bl _) da_nil)))
  | due => obtain ⟨nv, h1, h2⟩ := h; exact dt_list h1 (da_cons (dt_str _) (da_cons (nm_dt h2) (da_cons (wh_dt _) da_nil)))
  | fold => obtain ⟨nv, h1, h2⟩ := h; exact dt_list h1 (da_cons (dt_str _) (da_cons (nm_dt h2) (da_cons (dt_bl _) da_nil)))
  | part => obtain ⟨nv, mv, pv, h1, h2, h3, h4⟩ := h; exact dt_list h1 (da_cons (dt_str _) (da_cons (nm_dt h2) (da_cons (dt_int _) (da_cons (nm_dt h3) (da_cons (pl_dt h4) da_nil)))))
  | join => obtain ⟨nv, mv, h1, h2, h3⟩ := h; exact dt_list h1 (da_cons (dt_str _) (da_cons (nm_dt h2) (da_cons (nm_dt h3) da_nil)))
def Sd.ok : Sd → Prop
  | .put _ _ _ tx => PyData.strOk tx = true
  | .write _ tx => PyData.strOk tx = true
  | _ => True
theorem lay_nm (n : Nm) : (nmD n).canLay0 = true ∧ (nmD n).depth = 1 := by simp [nmD, PyData.canLay0, PyData.canLayAll0, PyData.depth, PyData.depthAll]
theorem lay_up (u : Option Nm) : (upD u).canLay0 = true ∧ (upD u).depth ≤ 1 := by
  cases u with
  | none => exact ⟨rfl, by decide⟩
  | some n => exact ⟨(lay_nm n).1, Nat.le_of_eq (lay_nm n).2⟩
theorem lay_pl (ns : List Int) : (plD ns).canLay0 = true ∧ (plD ns).depth = 1 := by
  obtain ⟨h1, h2⟩ := lay_nums ns
  exact ⟨by simpa [plD, PyData.canLay0] using h1, by simp [plD, PyData.depth, h2]⟩
theorem lay_wh (w : Option Int) : (whD w).canLay0 = true ∧ (whD w).depth = 0 := by cases w <;> exact ⟨rfl, rfl⟩
theorem lay_word : PyData.strOk "put" = true ∧ PyData.strOk "move" = true ∧ PyData.strOk "write" = true ∧ PyData.strOk "mark" = true ∧ PyData.strOk "due" = true ∧ PyData.strOk "fold" = true ∧ PyData.strOk "part" = true ∧ PyData.strOk "join" = true := by decide +kernel
theorem lay_sd {s : Sd} (h : s.ok) : (sdD s).canLay0 = true ∧ (sdD s).depth ≤ 2 := by
  obtain ⟨w1, w2, w3, w4, w5, w6, w7, w8⟩ := lay_word
  cases s with
  | put n u pl tx => have := (lay_up u).2; exact ⟨by simp [sdD, PyData.canLay0, PyData.canLayAll0, w1, (lay_nm n).1, (lay_up u).1, (lay_pl pl).1, show PyData.strOk tx = true from h], by simp only [sdD, PyData.depth, PyData.depthAll, (lay_nm n).2, (lay_pl pl).2]; omega⟩
  | move n u pl => have := (lay_up u).2; exact ⟨by simp [sdD, PyData.canLay0, PyData.canLayAll0, w2, (lay_nm n).1, (lay_up u).1, (lay_pl pl).1], by simp only [sdD, PyData.depth, PyData.depthAll, (lay_nm n).2, (lay_pl pl).2]; omega⟩
  | write n tx => exact ⟨by simp [sdD, PyData.canLay0, PyData.canLayAll0, w3, (lay_nm n).1, show PyData.strOk tx = true from h], by simp only [sdD, PyData.depth, PyData.depthAll, (lay_nm n).2]; omega⟩
  | mark n b => exact ⟨by simp [sdD, PyData.canLay0, PyData.canLayAll0, w4, (lay_nm n).1], by simp only [sdD, PyData.depth, PyData.depthAll, (lay_nm n).2]; omega⟩
  | due n w => exact ⟨by simp [sdD, PyData.canLay0, PyData.canLayAll0, w5, (lay_nm n).1, (lay_wh w).1], by simp only [sdD, PyData.depth, PyData.depthAll, (lay_nm n).2, (lay_wh w).2]; omega⟩
  | fold n b => exact ⟨by simp [sdD, PyData.canLay0, PyData.canLayAll0, w6, (lay_nm n).1], by simp only [sdD, PyData.depth, PyData.depthAll, (lay_nm n).2]; omega⟩
  | part n a m pl => exact ⟨by simp [sdD, PyData.canLay0, PyData.canLayAll0, w7, (lay_nm n).1, (lay_nm m).1, (lay_pl pl).1], by simp only [sdD, PyData.depth, PyData.depthAll, (lay_nm n).2, (lay_nm m).2, (lay_pl pl).2]; omega⟩
  | join n m => exact ⟨by simp [sdD, PyData.canLay0, PyData.canLayAll0, w8, (lay_nm n).1, (lay_nm m).1], by simp only [sdD, PyData.depth, PyData.depthAll, (lay_nm n).2, (lay_nm m).2]; omega⟩
/-- lists of which each thing is the data of the same -/
theorem lists_of {H : Hp} {α : Type} {R : V → α → Prop} {D : α → PyData} {l : Addr} {vs : List V} {rs : List α} (hl : H l = some (.lst vs)) (x : Paired R vs rs) (hD : ∀ v r, r ∈ rs → R v r → Dt H (D r) v ∧ (D r).canLay0 = true ∧ (D r).depth ≤ 3) :
    Dt H (.list (rs.map D)) (.ref l) ∧ SeqAt.shaped (.list (rs.map D)) = true ∧ PyData.eqv (.list (rs.map D)) (.list (rs.map D)) = true := by
  have gen : DtAll H (rs.map D) vs ∧ PyData.canLayAll0 (rs.map D) = true ∧ PyData.depthAll (rs.map D) ≤ 3 := by
    clear hl
    induction x with
    | nil => exact ⟨da_nil, rfl, by simp [PyData.depthAll]⟩
    | @cons p q _ _ r _ ih =>
      obtain ⟨h1, h2, h3⟩ := hD p q List.mem_cons_self r
      obtain ⟨i1, i2, i3⟩ := ih fun v r hr => hD v r (List.mem_cons_of_mem _ hr)
      refine ⟨da_cons h1 i1, by simp [PyData.canLayAll0, h2, i2], ?_⟩
      simp only [List.map_cons, PyData.depthAll]
      omega
  obtain ⟨g1, g2, g3⟩ := gen
  have c : (PyData.list (rs.map D)).canLay0 = true := by simpa [PyData.canLay0] using g2
  refine ⟨?_, shaped_of c (by simp only [PyData.depth]; omega), SeqAt.eqv_refl _ c⟩
  simp only [Dt]
  exact ⟨l, vs, rfl, .inl hl, g1⟩
def ssD (r : Nm × Sd) : PyData := .tuple [nmD r.1, sdD r.2]
theorem ss_dt {H : Hp} {v : V} {r : Nm × Sd} (h : SsAt H v r) (ok : r.2.ok) : Dt H (ssD r) v ∧ (ssD r).canLay0 = true ∧ (ssD r).depth ≤ 3 := by
  obtain ⟨t, st, nv, rfl, h2, h3, h4⟩ := h
  obtain ⟨l1, l2⟩ := lay_sd ok
  exact ⟨dt_list h2 (da_cons (nm_dt h3) (da_cons (st_dt h4) da_nil)), by simp [ssD, PyData.canLay0, PyData.canLayAll0, (lay_nm r.1).1, l1], by simp only [ssD, PyData.depth, PyData.depthAll, (lay_nm r.1).2]; omega⟩
def woD (r : Nm × Str) : PyData := .tuple [nmD r.1, .str r.2]
theorem wo_dt {H : Hp} {v : V} {r : Out} (h : WoAt H v r) (ok : PyData.strOk r.2.1 = true) : Dt H (woD (r.1, r.2.1)) v ∧ (woD (r.1, r.2.1)).canLay0 = true ∧ (woD (r.1, r.2.1)).depth ≤ 3 := by
  obtain ⟨t, nv, rfl, h2, h3⟩ := h
  exact ⟨dt_list h2 (da_cons (nm_dt h3) (da_cons (dt_str _) da_nil)), by simp [woD, PyData.canLay0, PyData.canLayAll0, (lay_nm r.1).1, ok], by simp only [woD, PyData.depth, PyData.depthAll, (lay_nm r.1).2]; omega⟩
/-! ### the law's five deeds -/
def it1 (pl : List Int) (tx : Str) : It := ⟨none, pl, tx, false, none, false⟩
def it2 (pl : List Int) (tx : Str) : It := ⟨some (0, 1), pl, tx, false, none, false⟩
section
variable {pl1 pl2 : List Int} {tx1 tx2 : Str}
def ol2 (pl1 pl2 : List Int) (tx1 tx2 : Str) : Ol := [((0, 1), it1 pl1 tx1), ((0, 2), it2 pl2 tx2)]
theorem look2 (n : Nm) : look (ol2 pl1 pl2 tx1 tx2) n = if n = (0, 1) then some (it1 pl1 tx1) else if n = (0, 2) then some (it2 pl2 tx2) else none := by
  unfold ol2
  show (if ((0, 1) : Nm) = n then _ else if ((0, 2) : Nm) = n then _ else none) = _
  by_cases c : n = (0, 1)
  · rw [if_pos c, if_pos c.symm]
  · rw [if_neg c, if_neg fun z => c z.symm]
    by_cases c2 : n = (0, 2)
    · rw [if_pos c2, if_pos c2.symm]
    · rw [if_neg c2, if_neg fun z => c2 z.symm]
def Nm3 (n : Nm) : Prop := n = (0, 1) ∨ n = (0, 2) ∨ n = (0, 3)
def Up3 (u : Option Nm) : Prop := ∀ n, u = some n → Nm3 n
def underB (u : Option Nm) (o : Nm) : Bool := match u with
  | none => false
  | some n => decide (n = o ∨ (n = (0, 2) ∧ o = (0, 1)))
theorem und2 {o : Nm} {u : Option Nm} (ho : o = (0, 1) ∨ o = (0, 2)) (hu : u = none ∨ u = some (0, 1) ∨ u = some (0, 2)) : ∃ k, Und (ol2 pl1 pl2 tx1 tx2) o k u (underB u o) := by
  have l1 : look (ol2 pl1 pl2 tx1 tx2) (0, 1) = some (it1 pl1 tx1) := by rw [look2]; rfl
  have l2 : look (ol2 pl1 pl2 tx1 tx2) (0, 2) = some (it2 pl2 tx2) := by rw [look2]; rfl
  rcases hu with rfl | rfl | rfl
  · exact ⟨0, .none⟩
  · rcases ho with rfl | rfl
    · exact ⟨0, .self⟩
    · exact ⟨1, .up (by decide) l1 .none⟩
  · rcases ho with rfl | rfl
    · exact ⟨1, .up (by decide) l2 .self⟩
    · exact ⟨0, .self⟩
theorem und_fun {ol : Ol} {o : Nm} : ∀ {k k' : Nat} {u : Option Nm} {b b' : Bool}, Und ol o k u b → Und ol o k' u b' → b = b'
  | _, _, _, _, _, .none, .none => rfl
  | _, _, _, _, _, .self, .self => rfl
  | _, _, _, _, _, .self, .up h _ _ => absurd rfl h
  | _, _, _, _, _, .up h _ _, .self => absurd rfl h
  | _, _, _, _, _, .up _ h1 x, .up _ h2 y => by
    rw [h1] at h2
    cases h2
    exact und_fun x y
/-- what the fifth deed does: the one it names is `here` -/
def WdOk (here : Nm) : Wd → Prop
  | .put u _ tx => Up3 u ∧ PyData.strOk tx = true
  | .move n u _ => n = here ∧ Up3 u
  | .write n tx => n = here ∧ PyData.strOk tx = true
  | .mark n _ => n = here
  | .due n _ => n = here
  | .fold n _ => n = here
  | .part n _ _ => n = here
  | .join n m => n = here ∧ Nm3 m
  | .take n => n = here
  | .back n => n = here
  | .off k => k = 1
  | .on k => k = 1
  | .none => True
def n3 (n : Nm) : Bool := decide (n = (0, 3))
def orWord (miss ben far : Bool) : Str := if miss = true then "none" else if ben = true then "beneath" else if far = true then "far" else "done"
/-- the word that the law expects -/
def lawWord (size : Int) : Wd → Str
  | .put u _ _ => if u = some (0, 3) then "top" else "done"
  | .off _ => "done"
  | .on _ => "done"
  | .none => "done"
  | .move n u _ => orWord (n3 n || decide (u = some (0, 3))) (underB u n) false
  | .join n m => orWord (n3 n || n3 m) (underB (some n) m) false
  | .part n a _ => orWord (n3 n) false (decide (size < a))
  | .write n _ => orWord (n3 n) false false
  | .mark n _ => orWord (n3 n) false false
  | .due n _ => orWord (n3 n) false false
  | .fold n _ => orWord (n3 n) false false
  | .take n => orWord (n3 n) false false
  | .back n => orWord (n3 n) false false
/-- the step that the law expects -/
def lawStep (size : Int) : Wd → Option Sd
  | .put u pl tx => some (.put (1, 2) (if u = some (0, 3) then none else u) pl tx)
  | wd => if lawWord size wd = "done" then sdOf (1, 2) wd else none
def ds4 (pl1 pl2 : List Int) (tx1 tx2 : Str) : List Dd := [((0, 1), .put none pl1 tx1), ((1, 1), .none), ((0, 2), .put (some (0, 1)) pl2 tx2), ((0, 3), .none)]
def ds5 (pl1 pl2 : List Int) (tx1 tx2 : Str) (wd : Wd) : List Dd := ds4 pl1 pl2 tx1 tx2 ++ [((1, 2), wd)]
def isOffW : Wd → Bool
  | .off _ => true
  | _ => false
/-- what comes of the five -/
def outs (pl1 pl2 : List Int) (tx1 tx2 : Str) (o : Bool) : List Out := [((0, 1), "done", some (.put (0, 1) none pl1 tx1)), ((1, 1), if o = true then "off" else "done", none), ((0, 2), "done", some (.put (0, 2) (some (0, 1)) pl2 tx2)), ((0, 3), "done", none)]
theorem play_put {ol ol' : Ol} {n : Nm} {u : Option Nm} {pl : List Int} {tx w : Str} {so : Option Sd} (hu : ∀ m, u = some m → (look ol m).isSome = true) (h : PlayR ol n (.put u pl tx) w so ol') : w = "done" ∧ so = some (.put n u pl tx) ∧ ol' = setO ol n ⟨u, pl, tx, false, none, false⟩ := by
  cases h with
  | top h =>
    have := hu _ rfl
    rw [h] at this
    cases this
  | step hs _ wr =>
    cases hs
    cases wr with
    | none hm =>
      refine absurd (fun m hm' => ?_) hm
      cases u with
      | none => simp [Sd.items] at hm'
      | some m' =>
        simp [Sd.items] at hm'
        exact hm'.symm ▸ hu _ rfl
    | beneath _ hb => cases hb
    | far _ hb => cases hb
    | done _ _ ap =>
      cases ap
      exact ⟨rfl, rfl, rfl⟩
theorem play_none {ol ol' : Ol} {n : Nm} {w : Str} {so : Option Sd} (h : PlayR ol n .none w so ol') : w = "done" ∧ so = none ∧ ol' = ol := by
  cases h with
  | none => exact ⟨rfl, rfl, rfl⟩
  | step hs _ _ => cases hs
end
section
variable {pl1 pl2 : List Int} {tx1 tx2 : Str}
theorem held2 {n : Nm} (h : Nm3 n) : (look (ol2 pl1 pl2 tx1 tx2) n).isSome = !n3 n := by
  rw [look2]
  rcases h with rfl | rfl | rfl <;> rfl
theorem wr_is {ol ol' : Ol} {s : Sd} {w : Str} {miss ben far : Bool} (hm : Held ol s ↔ miss = false) (hb : Held ol s → ∀ r, Bd ol s r → r = if ben = true then some true else if far = true then some false else none) (h : WordR ol s w ol') : w = orWord miss ben far := by
  unfold orWord
  cases h with
  | none c =>
    have : miss = true := by
      cases miss with
      | true => rfl
      | false => exact absurd (hm.mpr rfl) c
    rw [this, if_pos rfl]
  | beneath c b =>
    have e := hb c _ b
    rw [hm.mp c, if_neg (by decide)]
    cases ben with
    | true => rfl
    | false => cases far <;> cases e
  | far c b =>
    have e := hb c _ b
    rw [hm.mp c, if_neg (by decide)]
    cases ben with
    | true => cases e
    | false =>
      cases far with
      | true => rfl
      | false => cases e
  | done c b _ =>
    have e := hb c _ b
    rw [hm.mp c, if_neg (by decide)]
    cases ben with
    | true => cases e
    | false =>
      cases far with
      | true => cases e
      | false => rfl
theorem held_one {ol : Ol} {s : Sd} {n : Nm} {b : Bool} (hi : s.items = [n]) (h : (look ol n).isSome = !b) : Held ol s ↔ b = false := by
  unfold Held
  rw [hi]
  simp [h]
/-- the fifth deed -/
theorem play_last {here : Nm} {wd : Wd} {size : Int} {w : Str} {so : Option Sd} {ol' : Ol} (hh : Nm3 here) (ok : WdOk here wd) (s1 : here = (0, 1) → size = tx1.length) (s2 : here = (0, 2) → size = tx2.length) (nt : wd.isTurn = false) (h : PlayR (ol2 pl1 pl2 tx1 tx2) (1, 2) wd w so ol') :
    w = lawWord size wd ∧ so = lawStep size wd := by
  have fin : ∀ {s : Sd} {miss ben far : Bool} {w' : Str} {so' : Option Sd} {ol'' : Ol}, sdOf (1, 2) wd = some s → (Held (ol2 pl1 pl2 tx1 tx2) s ↔ miss = false) → (Held (ol2 pl1 pl2 tx1 tx2) s → ∀ r, Bd (ol2 pl1 pl2 tx1 tx2) s r → r = if ben = true then some true else if far = true then some false else none) → lawWord size wd = orWord miss ben far → lawStep size wd = (if lawWord size wd = "done" then sdOf (1, 2) wd else none) → (∀ m, wd ≠ .take m) → (∀ m, wd ≠ .back m) → (∀ u pl tx, wd ≠ .put u pl tx) → PlayR (ol2 pl1 pl2 tx1 tx2) (1, 2) wd w' so' ol'' → w' = lawWord size wd ∧ so' = lawStep size wd := by
    intro s miss ben far w' so' ol'' hs hm hb e1 e2 n1 n2 n3 h
    cases h with
    | none => cases hs
    | take => exact absurd rfl (n1 _)
    | back => exact absurd rfl (n2 _)
    | top _ => exact absurd rfl (n3 _ _ _)
    | step hs' _ wr =>
      rw [hs] at hs'
      cases hs'
      have ew := wr_is hm hb wr
      rw [e2, e1, ew]
      refine ⟨rfl, ?_⟩
      split
      · exact hs.symm
      · rfl
  cases wd with
  | put u pl tx =>
    by_cases c : u = some (0, 3)
    · subst c
      cases h with
      | top _ => exact ⟨rfl, rfl⟩
      | step _ ht _ =>
        have : (!(look (ol2 pl1 pl2 tx1 tx2) (0, 3)).isSome) = false := ht
        rw [look2] at this
        exact nomatch this
    · obtain ⟨rfl, rfl, _⟩ := play_put (fun m hm => by
        rw [held2 (ok.1 m hm)]
        unfold n3
        rw [decide_eq_false fun z : m = (0, 3) => c (by rw [hm, z])]
        rfl) h
      have e1 : lawWord size (.put u pl tx) = if u = some (0, 3) then ("top" : Str) else ("done" : Str) := rfl
      have e2 : lawStep size (.put u pl tx) = some (Sd.put (1, 2) (if u = some (0, 3) then none else u) pl tx) := rfl
      rw [e1, e2, if_neg c, if_neg c]
      exact ⟨rfl, rfl⟩
  | none => obtain ⟨rfl, rfl, _⟩ := play_none h; exact ⟨rfl, rfl⟩
  | off k => cases nt
  | on k => cases nt
  | take m =>
    cases h with
    | take =>
      obtain rfl : m = here := ok
      rw [held2 hh]
      show _ = orWord (n3 m) false false ∧ none = (if _ then none else none)
      cases n3 m <;> exact ⟨rfl, by split <;> rfl⟩
    | step hs _ _ => cases hs
  | back m =>
    cases h with
    | back =>
      obtain rfl : m = here := ok
      rw [held2 hh]
      show _ = orWord (n3 m) false false ∧ none = (if _ then none else none)
      cases n3 m <;> exact ⟨rfl, by split <;> rfl⟩
    | step hs _ _ => cases hs
  | write n tx =>
    obtain rfl : n = here := ok.1
    exact fin rfl (held_one rfl (held2 hh)) (ben := false) (far := false) (fun _ r b => by cases b; rfl) rfl rfl (fun _ z => nomatch z) (fun _ z => nomatch z) (fun _ _ _ z => nomatch z) h
  | mark n b =>
    obtain rfl : n = here := ok
    exact fin rfl (held_one rfl (held2 hh)) (ben := false) (far := false) (fun _ r b => by cases b; rfl) rfl rfl (fun _ z => nomatch z) (fun _ z => nomatch z) (fun _ _ _ z => nomatch z) h
  | due n b =>
    obtain rfl : n = here := ok
    exact fin rfl (held_one rfl (held2 hh)) (ben := false) (far := false) (fun _ r b => by cases b; rfl) rfl rfl (fun _ z => nomatch z) (fun _ z => nomatch z) (fun _ _ _ z => nomatch z) h
  | fold n b =>
    obtain rfl : n = here := ok
    exact fin rfl (held_one rfl (held2 hh)) (ben := false) (far := false) (fun _ r b => by cases b; rfl) rfl rfl (fun _ z => nomatch z) (fun _ z => nomatch z) (fun _ _ _ z => nomatch z) h
  | part n a pl =>
    obtain rfl : n = here := ok
    refine fin rfl (held_one rfl (held2 hh)) (ben := false) (far := decide (size < a)) (fun hd r b => ?_) rfl rfl (fun _ z => nomatch z) (fun _ z => nomatch z) (fun _ _ _ z => nomatch z) h
    cases b with
    | part hl =>
      rw [look2] at hl
      have key : ∀ z : Int, (if z < a then some false else none) = (if false = true then some true else if decide (z < a) = true then some false else (none : Option Bool)) := fun z => by
        rw [if_neg Bool.false_ne_true]
        by_cases c : z < a
        · rw [if_pos c, decide_eq_true c, if_pos rfl]
        · rw [if_neg c, decide_eq_false c, if_neg Bool.false_ne_true]
      rcases hh with rfl | rfl | rfl
      · cases hl
        rw [s1 rfl]
        exact key _
      · cases hl
        rw [s2 rfl]
        exact key _
      · cases hl
  | move n u pl =>
    obtain ⟨rfl, ou⟩ := ok
    have hm : Held (ol2 pl1 pl2 tx1 tx2) (.move n u pl) ↔ (n3 n || decide (u = some (0, 3))) = false := by
      unfold Held Sd.items
      cases u with
      | none => simp [held2 hh]
      | some m =>
        have := held2 (pl1 := pl1) (pl2 := pl2) (tx1 := tx1) (tx2 := tx2) (ou m rfl)
        simp [held2 hh, this, n3]
    refine fin rfl hm (ben := underB u n) (far := false) (fun hd r b => ?_) rfl rfl (fun _ z => nomatch z) (fun _ z => nomatch z) (fun _ _ _ z => nomatch z) h
    have hmf := hm.mp hd
    rw [Bool.or_eq_false_iff] at hmf
    have ho : n = (0, 1) ∨ n = (0, 2) := by
      rcases hh with h | h | rfl
      · exact .inl h
      · exact .inr h
      · exact absurd hmf.1 (by decide)
    have hu : u = none ∨ u = some (0, 1) ∨ u = some (0, 2) := by
      cases u with
      | none => exact .inl rfl
      | some m =>
        rcases ou m rfl with rfl | rfl | rfl
        · exact .inr (.inl rfl)
        · exact .inr (.inr rfl)
        · exact absurd hmf.2 (by decide)
    obtain ⟨k, un⟩ := und2 (pl1 := pl1) (pl2 := pl2) (tx1 := tx1) (tx2 := tx2) ho hu
    cases b with
    | move un' =>
      rw [und_fun un' un]
      cases underB u n <;> rfl
  | join n m =>
    obtain ⟨rfl, om⟩ := ok
    have hm : Held (ol2 pl1 pl2 tx1 tx2) (.join n m) ↔ (n3 n || n3 m) = false := by
      unfold Held Sd.items
      simp [held2 hh, held2 om]
    refine fin rfl hm (ben := underB (some n) m) (far := false) (fun hd r b => ?_) rfl rfl (fun _ z => nomatch z) (fun _ z => nomatch z) (fun _ _ _ z => nomatch z) h
    have hmf := hm.mp hd
    rw [Bool.or_eq_false_iff] at hmf
    have ho : m = (0, 1) ∨ m = (0, 2) := by
      rcases om with h | h | rfl
      · exact .inl h
      · exact .inr h
      · exact absurd hmf.2 (by decide)
    have hu : some n = none ∨ some n = some (0, 1) ∨ some n = some (0, 2) := by
      rcases hh with rfl | rfl | rfl
      · exact .inr (.inl rfl)
      · exact .inr (.inr rfl)
      · exact absurd hmf.1 (by decide)
    obtain ⟨k, un⟩ := und2 (pl1 := pl1) (pl2 := pl2) (tx1 := tx1) (tx2 := tx2) ho hu
    cases b with
    | join un' =>
      rw [und_fun un' un]
      cases underB (some n) m <;> rfl
end
section
variable {ts : As Dd} {tn : List Nm} {ol : Ol} {d : Dd} {ds : List Dd} {rs : List Out}
theorem run_play (c : offB d ts = false) (c2 : d.2.isTurn = false) (h : Runs ts tn ol (d :: ds) rs) : ∃ w so ol' rs', rs = (d.1, w, so) :: rs' ∧ PlayR ol d.1 d.2 w so ol' ∧ Runs ts tn ol' ds rs' := by
  cases h with
  | off z _ => rw [c] at z; cases z
  | turn _ z _ => rw [c2] at z; cases z
  | play _ _ p r => exact ⟨_, _, _, _, rfl, p, r⟩
theorem run_off (c : offB d ts = true) (h : Runs ts tn ol (d :: ds) rs) : ∃ rs' : List Out, rs = ((d.1, "off", none) : Out) :: rs' ∧ Runs ts tn ol ds rs' := by
  cases h with
  | off _ r => exact ⟨_, rfl, r⟩
  | turn z _ _ => rw [c] at z; cases z
  | play z _ _ _ => rw [c] at z; cases z
theorem run_turn (c : offB d ts = false) (c2 : d.2.isTurn = true) (h : Runs ts tn ol (d :: ds) rs) : ∃ rs' : List Out, rs = ((d.1, if turned d ∈ tn then "turn" else "done", none) : Out) :: rs' ∧ Runs ts tn ol ds rs' := by
  cases h with
  | off z _ => rw [c] at z; cases z
  | turn _ _ r => exact ⟨_, rfl, r⟩
  | play _ z _ _ => rw [c2] at z; cases z
theorem run_nil (h : Runs ts tn ol [] rs) : rs = [] := by
  cases h
  rfl
theorem safe_play (c : offB d ts = false) (c2 : d.2.isTurn = false) (h1 : Small ol) (h2 : ∀ s, sdOf d.1 d.2 = some s → Ready ol s) (h3 : ∀ w so ol', PlayR ol d.1 d.2 w so ol' → Safe ts ol' ds) : Safe ts ol (d :: ds) := by
  unfold Safe
  exact ⟨fun z => (by rw [c, c2] at z; rcases z with z | z <;> cases z), fun _ _ => ⟨h1, h2, h3⟩⟩
theorem safe_skip (c : offB d ts = true ∨ d.2.isTurn = true) (h : Safe ts ol ds) : Safe ts ol (d :: ds) := by
  unfold Safe
  exact ⟨fun _ => h, fun z1 z2 => by rw [z1, z2] at c; rcases c with c | c <;> cases c⟩
end
section
variable {pl1 pl2 : List Int} {tx1 tx2 : Str} {wd : Wd} {here : Nm}
theorem ts5 (ok : WdOk here wd) : turnsOf (ds5 pl1 pl2 tx1 tx2 wd) = if wd.isTurn = true then [((1, 1), ((1, 2), wd))] else [] := by
  cases wd with
  | off k => cases ok; rfl
  | on k => cases ok; rfl
  | _ => rfl
theorem tn5 : turnNames (ds5 pl1 pl2 tx1 tx2 wd) = if wd.isTurn = true then [(1, 2)] else [] := by
  cases wd <;> rfl
/-- which of the five is taken back -/
theorem off5 (ok : WdOk here wd) (n : Nm) (w' : Wd) (hw : w'.isTurn = false) : offB (n, w') (turnsOf (ds5 pl1 pl2 tx1 tx2 wd)) = (decide (n = (1, 1)) && isOffW wd) := by
  rw [ts5 ok]
  unfold offB
  rw [hw]
  cases wd with
  | off k =>
    show offW (if ((1, 1) : Nm) = n then _ else none) = _
    by_cases c : n = (1, 1)
    · rw [if_pos c.symm, decide_eq_true c]; rfl
    · rw [if_neg fun z => c z.symm, decide_eq_false c]; rfl
  | on k =>
    show offW (if ((1, 1) : Nm) = n then _ else none) = _
    by_cases c : n = (1, 1)
    · rw [if_pos c.symm, decide_eq_true c]; rfl
    · rw [if_neg fun z => c z.symm, decide_eq_false c]; rfl
  | _ => show offW none = _; rw [show isOffW _ = false from rfl, Bool.and_false]; rfl
theorem off5t (n : Nm) (ts : As Dd) (hw : wd.isTurn = true) : offB (n, wd) ts = false := by
  unfold offB
  rw [hw]
  rfl
theorem small0 : Small [] := ⟨by decide, fun n it h => nomatch h⟩
theorem small1 (h1 : tx1.length ≤ 60) : Small [((0, 1), it1 pl1 tx1)] := ⟨show 1 ≤ 300 by decide, fun n it h => by
  unfold look at h
  split at h
  · cases h; show tx1.length ≤ 400; omega
  · cases h⟩
theorem small2 (h1 : tx1.length ≤ 60) (h2 : tx2.length ≤ 60) : Small (ol2 pl1 pl2 tx1 tx2) := ⟨show 2 ≤ 300 by decide, fun n it h => by
  rw [look2] at h
  split at h
  · cases h; show tx1.length ≤ 400; omega
  · split at h
    · cases h; show tx2.length ≤ 400; omega
    · cases h⟩
theorem ready_put {ol : Ol} {n : Nm} {u : Option Nm} {pl : List Int} {tx : Str} (h : look ol n = none) : Ready ol (.put n u pl tx) := ⟨fun m hm => by
  simp [Sd.news] at hm
  rw [hm]
  exact h, fun _ => ⟨_, .put⟩⟩
theorem ready_last {s : Sd} (hh : Nm3 here) (ok : WdOk here wd) (hs : sdOf (1, 2) wd = some s) : Ready (ol2 pl1 pl2 tx1 tx2) s := by
  have l12 : look (ol2 pl1 pl2 tx1 tx2) (1, 2) = none := by rw [look2]; rfl
  have nm : ∀ {n : Nm}, Nm3 n → (look (ol2 pl1 pl2 tx1 tx2) n).isSome = true → n = (0, 1) ∨ n = (0, 2) := fun {n} h z => by
    rcases h with h | h | rfl
    · exact .inl h
    · exact .inr h
    · rw [look2] at z; exact nomatch z
  cases wd with
  | put u pl tx => cases hs; exact ready_put l12
  | move n u pl =>
    cases hs
    obtain ⟨rfl, ou⟩ := ok
    refine ⟨fun m hm => by simp [Sd.news] at hm, fun hd => ?_⟩
    have h1 := nm hh (hd n (by simp [Sd.items]))
    have h2 : u = none ∨ u = some (0, 1) ∨ u = some (0, 2) := by
      cases u with
      | none => exact .inl rfl
      | some m =>
        rcases nm (ou m rfl) (hd m (by simp [Sd.items])) with rfl | rfl
        · exact .inr (.inl rfl)
        · exact .inr (.inr rfl)
    obtain ⟨k, un⟩ := und2 (pl1 := pl1) (pl2 := pl2) (tx1 := tx1) (tx2 := tx2) h1 h2
    exact ⟨_, .move un⟩
  | write n tx => cases hs; exact ⟨fun m hm => by simp [Sd.news] at hm, fun _ => ⟨_, .write⟩⟩
  | mark n tx => cases hs; exact ⟨fun m hm => by simp [Sd.news] at hm, fun _ => ⟨_, .mark⟩⟩
  | due n tx => cases hs; exact ⟨fun m hm => by simp [Sd.news] at hm, fun _ => ⟨_, .due⟩⟩
  | fold n tx => cases hs; exact ⟨fun m hm => by simp [Sd.news] at hm, fun _ => ⟨_, .fold⟩⟩
  | part n a pl =>
    cases hs
    refine ⟨fun m hm => by simp [Sd.news] at hm; rw [hm]; exact l12, fun hd => ?_⟩
    obtain ⟨it, hl⟩ := Option.isSome_iff_exists.mp (hd n (by simp [Sd.items]))
    exact ⟨_, .part hl⟩
  | join n m =>
    cases hs
    obtain ⟨rfl, om⟩ := ok
    refine ⟨fun m hm => by simp [Sd.news] at hm, fun hd => ?_⟩
    have h1 := nm om (hd m (by simp [Sd.items]))
    have h2 : some n = none ∨ some n = some (0, 1) ∨ some n = some (0, 2) := by
      rcases nm hh (hd n (by simp [Sd.items])) with rfl | rfl
      · exact .inr (.inl rfl)
      · exact .inr (.inr rfl)
    obtain ⟨k, un⟩ := und2 (pl1 := pl1) (pl2 := pl2) (tx1 := tx1) (tx2 := tx2) h1 h2
    exact ⟨_, .join un⟩
  | _ => cases hs
theorem put1 : setO [] (0, 1) (it1 pl1 tx1) = [((0, 1), it1 pl1 tx1)] := rfl
theorem put2 : setO [((0, 1), it1 pl1 tx1)] (0, 2) (it2 pl2 tx2) = ol2 pl1 pl2 tx1 tx2 := rfl
/-- the first four, whatever is behind them -/
theorem safe4 {ts : As Dd} {ds : List Dd} (h1 : tx1.length ≤ 60) (h2 : tx2.length ≤ 60) (ho : ∀ (n : Nm) (w' : Wd), n ≠ (1, 1) → w'.isTurn = false → offB (n, w') ts = false) (hs : Safe ts (ol2 pl1 pl2 tx1 tx2) ds) : Safe ts [] (ds4 pl1 pl2 tx1 tx2 ++ ds) := by
  refine safe_play (ho _ _ (by decide) rfl) rfl small0 (fun s e => by cases e; exact ready_put rfl) fun w so ol' p => ?_
  obtain ⟨rfl, rfl, rfl⟩ := play_put (u := none) (fun m z => nomatch z) p
  have tail : Safe ts [((0, 1), it1 pl1 tx1)] (((0, 2), Wd.put (some (0, 1)) pl2 tx2) :: ((0, 3), Wd.none) :: ds) := by
    refine safe_play (ho _ _ (by decide) rfl) rfl (small1 h1) (fun s e => by cases e; exact ready_put rfl) fun w so ol' p => ?_
    obtain ⟨rfl, rfl, rfl⟩ := play_put (u := some (0, 1)) (fun m z => by cases z; rfl) p
    refine safe_play (ho _ _ (by decide) rfl) rfl (small2 h1 h2) (fun s e => nomatch e) fun w so ol' p => ?_
    obtain ⟨rfl, rfl, rfl⟩ := play_none p
    exact hs
  cases c : offB ((1, 1), Wd.none) ts with
  | true => exact safe_skip (.inl c) tail
  | false =>
    refine safe_play c rfl (small1 h1) (fun s e => nomatch e) fun w so ol' p => ?_
    obtain ⟨rfl, rfl, rfl⟩ := play_none p
    exact tail
theorem run4 {ts : As Dd} {tn : List Nm} {ds : List Dd} {rs : List Out} (ho : ∀ (n : Nm) (w' : Wd), n ≠ (1, 1) → w'.isTurn = false → offB (n, w') ts = false) (h : Runs ts tn [] (ds4 pl1 pl2 tx1 tx2 ++ ds) rs) : ∃ rs', rs = outs pl1 pl2 tx1 tx2 (offB ((1, 1), Wd.none) ts) ++ rs' ∧ Runs ts tn (ol2 pl1 pl2 tx1 tx2) ds rs' := by
  obtain ⟨w, so, ol', r1, rfl, p, g1⟩ := run_play (ho _ _ (by decide) rfl) rfl h
  obtain ⟨rfl, rfl, rfl⟩ := play_put (u := none) (fun m z => nomatch z) p
  have tail : ∀ {rs : List Out}, Runs ts tn [((0, 1), it1 pl1 tx1)] (((0, 2), Wd.put (some (0, 1)) pl2 tx2) :: ((0, 3), Wd.none) :: ds) rs → ∃ rs' : List Out, rs = (((0, 2), "done", some (Sd.put (0, 2) (some (0, 1)) pl2 tx2)) : Out) :: (((0, 3), "done", none) : Out) :: rs' ∧ Runs ts tn (ol2 pl1 pl2 tx1 tx2) ds rs' := fun h => by
    obtain ⟨w, so, ol', r1, rfl, p, k1⟩ := run_play (ho _ _ (by decide) rfl) rfl h
    obtain ⟨rfl, rfl, rfl⟩ := play_put (u := some (0, 1)) (fun m z => by cases z; rfl) p
    obtain ⟨w, so, ol', r2, rfl, p, k2⟩ := run_play (ho _ _ (by decide) rfl) rfl k1
    obtain ⟨rfl, rfl, rfl⟩ := play_none p
    exact ⟨r2, rfl, k2⟩
  cases c : offB ((1, 1), Wd.none) ts with
  | true =>
    obtain ⟨r2, rfl, g2⟩ := run_off c g1
    obtain ⟨r3, rfl, g3⟩ := tail g2
    exact ⟨r3, rfl, g3⟩
  | false =>
    obtain ⟨w, so, ol', r2, rfl, p, g2⟩ := run_play c rfl g1
    obtain ⟨rfl, rfl, rfl⟩ := play_none p
    obtain ⟨r3, rfl, g3⟩ := tail g2
    exact ⟨r3, rfl, g3⟩
theorem ho5 (ok : WdOk here wd) : ∀ (n : Nm) (w' : Wd), n ≠ (1, 1) → w'.isTurn = false → offB (n, w') (turnsOf (ds5 pl1 pl2 tx1 tx2 wd)) = false := fun n w' hn hw => by
  rw [off5 ok n w' hw, decide_eq_false hn]
  rfl
theorem safe5 (hh : Nm3 here) (ok : WdOk here wd) (h1 : tx1.length ≤ 60) (h2 : tx2.length ≤ 60) : Safe (turnsOf (ds5 pl1 pl2 tx1 tx2 wd)) [] (ds5 pl1 pl2 tx1 tx2 wd) := by
  refine safe4 h1 h2 (ho5 ok) ?_
  cases c : wd.isTurn with
  | true => exact safe_skip (.inr c) trivial
  | false => exact safe_play (ho5 ok (1, 2) wd (by decide) c) c (small2 h1 h2) (fun s e => ready_last hh ok e) fun _ _ _ _ => trivial
theorem run5 {size : Int} {rs : List Out} (hh : Nm3 here) (ok : WdOk here wd) (s1 : here = (0, 1) → size = tx1.length) (s2 : here = (0, 2) → size = tx2.length) (h : Runs (turnsOf (ds5 pl1 pl2 tx1 tx2 wd)) (turnNames (ds5 pl1 pl2 tx1 tx2 wd)) [] (ds5 pl1 pl2 tx1 tx2 wd) rs) :
    rs = outs pl1 pl2 tx1 tx2 (isOffW wd) ++ [((1, 2), lawWord size wd, lawStep size wd)] := by
  obtain ⟨rs', rfl, g1⟩ := run4 (ho5 ok) h
  rw [off5 ok _ _ rfl]
  show outs pl1 pl2 tx1 tx2 (isOffW wd) ++ rs' = _
  cases c : wd.isTurn with
  | true =>
    obtain ⟨r, rfl, g2⟩ := run_turn (off5t _ _ c) c g1
    rw [run_nil g2, tn5, c, if_pos rfl]
    cases wd with
    | off k => cases ok; rfl
    | on k => cases ok; rfl
    | _ => cases c
  | false =>
    obtain ⟨w, so, ol', r, rfl, p, g2⟩ := run_play (ho5 ok (1, 2) wd (by decide) c) c g1
    obtain ⟨rfl, rfl⟩ := play_last hh ok s1 s2 c p
    rw [run_nil g2]
theorem tsf : turnsOf (ds4 pl1 pl2 tx1 tx2) = [] := rfl
theorem hof : ∀ (n : Nm) (w' : Wd), n ≠ (1, 1) → w'.isTurn = false → offB (n, w') (turnsOf (ds4 pl1 pl2 tx1 tx2)) = false := fun n w' _ hw => by
  rw [tsf]
  unfold offB
  rw [hw]
  rfl
theorem safef (h1 : tx1.length ≤ 60) (h2 : tx2.length ≤ 60) : Safe (turnsOf (ds4 pl1 pl2 tx1 tx2)) [] (ds4 pl1 pl2 tx1 tx2) := by
  have := safe4 (ts := turnsOf (ds4 pl1 pl2 tx1 tx2)) (pl1 := pl1) (pl2 := pl2) (ds := []) h1 h2 hof trivial
  rw [List.append_nil] at this
  exact this
theorem runf {rs : List Out} (h : Runs (turnsOf (ds4 pl1 pl2 tx1 tx2)) (turnNames (ds4 pl1 pl2 tx1 tx2)) [] (ds4 pl1 pl2 tx1 tx2) rs) : rs = outs pl1 pl2 tx1 tx2 false := by
  obtain ⟨rs', rfl, g1⟩ := run4 (ds := []) (hof (pl1 := pl1) (pl2 := pl2) (tx1 := tx1) (tx2 := tx2)) (by rw [List.append_nil]; exact h)
  rw [run_nil g1, List.append_nil]
  rfl
end
abbrev s_cell_at : Stmt := top 29
abbrev N_cell_at : List Str := ["_law_script", "_law_k"]
theorem sc_cell_at : FnScope N_cell_at ["_law_script", "_law_k"] (defScope s_cell_at) := ⟨rfl, rfl, rfl, by decide +kernel, rfl, by decide +kernel, by decide +kernel⟩
theorem ok_cell_at {f : Addr} {fd : FuncData} (F : Fun K "_law_cell_at" "_law_cell_at" s_cell_at f fd) (z_len : mg "len" = none) : FnOk P w K mg base CX0 1 f fd ["_law_script", "_law_k"] (spCell K) := by
  refine F.okQ sc_cell_at (fun vs H Q E h => ?_) (fun cdv A outer s H vs Q E hr h => ?_)
  · obtain ⟨a, ns, k, rfl, _⟩ := h
    rfl
  obtain ⟨a, ns, k, rfl, hS, h0, q⟩ := h
  refine ⟨_, (b_c (s_if (t_cmp o_lt (q_v 1) (q_B c_len z_len PySem.boot_len (q_a (q_v 0) q_a0))) (b_1 (s_ret (q_ix x_list (q_v 0) (q_v 1)))) b_0)
      (b_1 (s_ret q_int))), ?_⟩
  refine ⟨_, rfl, _, rfl, a, _, rfl, .inl hS, _, _, rfl, rfl, _, rfl, ?_⟩
  refine ite2 (fun c => ?_) (fun c => ?_)
  · have c' : k < ((ns.map V.int).length : Int) := of_decide_eq_true c
    rw [List.length_map] at c'
    exact ⟨_, rfl, _, rfl, a, _, _, _, rfl, rfl, hS, atI_cell h0 c', q⟩
  · have c' : ¬ k < ((ns.map V.int).length : Int) := of_decide_eq_false (Bool.eq_false_iff.mpr c)
    rw [List.length_map] at c'
    rw [cell_out h0 c'] at q
    exact q
/-! ### the law's own -/
def SIGNS : Str := " !\"#$&'()*+,-./0123456789:;<=>?@ABCDEFGHIJKLMNOPQRSTUVWXYZ[\\]^_abcdefghijklmnopqrstuvwxyz{|}~"
theorem signs_len : SIGNS.length = 93 ∧ SIGNS.cps.toList.length = 93 := by decide +kernel
theorem signs_ok : ∀ c ∈ SIGNS.cps.toList, c < 0x110000 := by decide +kernel
theorem join_ok : ∀ l : List Str, (∀ s ∈ l, PyData.strOk s = true ∧ s.length = 1) → PyData.strOk (Str.join "" l) = true ∧ (Str.join "" l).length = l.length
  | [], _ => ⟨by decide +kernel, by decide +kernel⟩
  | [x], h => ⟨(h x (by simp)).1, (h x (by simp)).2⟩
  | x :: y :: r, h => by
    obtain ⟨i1, i2⟩ := join_ok (y :: r) fun s hs => h s (List.mem_cons_of_mem _ hs)
    obtain ⟨x1, x2⟩ := h x (by simp)
    have e : Str.join "" (x :: y :: r) = x ++ ("" : Str) ++ Str.join "" (y :: r) := rfl
    have e0 : ("" : Str).length = 0 := by decide +kernel
    rw [e]
    exact ⟨ok_app (ok_app x1 (by decide +kernel)) i1, by rw [len_app, len_app, x2, i2, e0]; simp only [List.length_cons]; omega⟩
theorem sum_ones : ∀ l : List Str, (∀ s ∈ l, s.length = 1) → (l.map (·.length)).sum = l.length
  | [], _ => rfl
  | x :: l, h => by
    rw [List.map_cons, List.sum_cons, List.length_cons, h x List.mem_cons_self, sum_ones l fun s hs => h s (List.mem_cons_of_mem _ hs)]
    omega
def spTextL : Sp := fun vs H Q _ => ∃ n : Int, vs = [.int n] ∧ ∀ (t : Str) (H' : Hp), PyData.strOk t = true → t.length ≤ 60 → Same H H' → Q (.str t) H'
abbrev s_text : Stmt := top 30
abbrev N_text : List Str := ["_law_cell", "_law_some"]
theorem sc_text : FnScope N_text ["_law_cell"] (defScope s_text) := ⟨rfl, rfl, rfl, by decide +kernel, rfl, by decide +kernel, by decide +kernel⟩
theorem ok_text {f : Addr} {fd : FuncData} (F : Fun K "_law_text" "_law_text" s_text f fd) (z_range : mg "range" = none) (z_len : mg "len" = none) : FnOk P w K mg base CX0 1 f fd ["_law_cell"] spTextL := by
  refine F.okQ sc_text (fun vs H Q E h => ?_) (fun cdv A outer s H vs Q E hr h => ?_)
  · obtain ⟨n, rfl, _⟩ := h
    rfl
  obtain ⟨c, rfl, q⟩ := h
  refine ⟨_, (b_c (s_set (i := 1) sc_text.nd q_str)
      (b_1 (s_ret (q_join q_str (q_comp (own := ["_law_k"]) (⟨rfl, by decide +kernel, by decide +kernel, rfl, ⟨rfl, rfl, ⟨rfl, rfl, trivial⟩⟩⟩ : CompOk _ _ [1, 0] ["_law_some", "_law_cell"]) rfl (i_rng1 z_range (q_a (q_op o_mod (q_v 0) q_int) q_a0)) (fun _ _ _ _ => g_name (i := 0) (show (["_law_k", "_law_some", "_law_cell"] : List Str).Nodup by decide +kernel)) (gk_name (by decide)) (fun _ _ _ _ => if_0) (fun _ _ _ _ => (q_ix x_str (q_v 1) (q_op o_mod (q_op o_fdiv (q_v 2) (q_op o_add (q_v 0) q_int)) (q_B c_lenS z_len PySem.boot_len (q_a (q_v 1) q_a0)))))))))), ?_⟩
  have c0 := Int.emod_nonneg c (show (61 : Int) ≠ 0 by decide)
  have c1 := Int.emod_lt_of_pos c (show (0 : Int) < 61 by decide)
  have sg : ∀ n : Int, ∃ ch, atI SIGNS.cps.toList (n % 93) = some ch ∧ ch ∈ SIGNS.cps.toList := fun n => by
    have k0 := Int.emod_nonneg n (show (93 : Int) ≠ 0 by decide)
    have k1 := Int.emod_lt_of_pos n (show (0 : Int) < 93 by decide)
    have hz : (n % 93).toNat < SIGNS.cps.toList.length := by rw [signs_len.2]; omega
    have := atI_nat (xs := SIGNS.cps.toList) (List.getElem?_eq_getElem hz)
    rw [show (((n % 93).toNat : Nat) : Int) = n % 93 by omega] at this
    exact ⟨_, this, List.getElem_mem hz⟩
  let sgn : Nat → Str := fun i => ⟨#[(atI SIGNS.cps.toList (c / (0 + (i : Int) + 1) % 93)).getD 0]⟩
  have sgo : ∀ i, PyData.strOk (sgn i) = true ∧ (sgn i).length = 1 := fun i => by
    obtain ⟨ch, e1, e2⟩ := sg (c / (0 + (i : Int) + 1))
    refine ⟨?_, rfl⟩
    show (#[(atI SIGNS.cps.toList (c / (0 + (i : Int) + 1) % 93)).getD 0] : Array Nat).all (· < 0x110000) = true
    rw [e1]
    simp [signs_ok ch e2]
  refine ⟨rfl, ?_⟩
  refine ⟨_, rfl, _, _, rfl, rfl, (by show (0 : Int) < 61; decide), _, rfl, by omega, by omega, ?_⟩
  refine comp_range (fun i => .str (sgn i)) (by omega) (fun i H1 hi s1 R k => ?_) (fun l H1 s1 gl => ?_)
  · obtain ⟨ch, e1, e2⟩ := sg (c / (0 + (i : Int) + 1))
    have k' := k H1 (Same.refl _)
    refine ⟨_, rfl, _, rfl, _, rfl, _, _, rfl, rfl, _, _, rfl, rfl, ⟨by omega, by omega⟩, _, rfl, SIGNS, rfl, by rw [signs_len.1]; decide, _, _, rfl, rfl, (by show (0 : Int) < (SIGNS.length : Int); rw [signs_len.1]; decide), SIGNS, _, ch, rfl, rfl, size63 (by rw [signs_len.1]; decide), ?_, ?_⟩
    · show atI SIGNS.cps.toList (c / (0 + (i : Int) + 1) % (SIGNS.length : Int)) = some ch
      rw [signs_len.1]
      exact e1
    · have : sgn i = ⟨#[ch]⟩ := by
        show (⟨#[(atI SIGNS.cps.toList (c / (0 + (i : Int) + 1) % 93)).getD 0]⟩ : Str) = _
        rw [e1]
        rfl
      rw [this] at k'
      exact k'
  · have em : ((List.range (c % 61).toNat).map fun i => V.str (sgn i)) = ((List.range (c % 61).toNat).map sgn).map V.str := by rw [List.map_map]; rfl
    have jo := join_ok ((List.range (c % 61).toNat).map sgn) fun s hs => by
      obtain ⟨i, _, rfl⟩ := List.mem_map.mp hs
      exact sgo i
    rw [List.length_map, List.length_range] at jo
    have ej : Txt.join "" ((List.range (c % 61).toNat).map sgn) = Str.join "" ((List.range (c % 61).toNat).map sgn) := StrLaws.glued_eq_join _ _
    refine ⟨"", l, (List.range (c % 61).toNat).map sgn, rfl, rfl, ?_, ?_, ?_⟩
    · rw [em]
      exact SqL.of upd_same
    · have e0 : ("" : Str).length = 0 := by decide +kernel
      rw [sum_ones _ fun s hs => by obtain ⟨i, _, rfl⟩ := List.mem_map.mp hs; exact (sgo i).2, e0, List.length_map, List.length_range]
      omega
    · rw [ej]
      exact q _ _ jo.1 (by omega) (s1.trans (same_new gl _))
def spPlaceL : Sp := fun vs H Q _ => ∃ n : Int, vs = [.int n] ∧ ∀ (t : Addr) (ns : List Int) (H' : Hp), Same H H' → H' t = some (.tup (ns.map V.int)) → Q (.ref t) H'
abbrev s_place : Stmt := top 31
abbrev N_place : List Str := ["_law_cell", "_law_number"]
theorem sc_place : FnScope N_place ["_law_cell"] (defScope s_place) := ⟨rfl, rfl, rfl, by decide +kernel, rfl, by decide +kernel, by decide +kernel⟩
theorem ok_place {f : Addr} {fd : FuncData} (F : Fun K "_law_place" "_law_place" s_place f fd) : FnOk P w K mg base CX0 1 f fd ["_law_cell"] spPlaceL := by
  refine F.okQ sc_place (fun vs H Q E h => ?_) (fun cdv A outer s H vs Q E hr h => ?_)
  · obtain ⟨n, rfl, _⟩ := h
    rfl
  obtain ⟨c, rfl, q⟩ := h
  refine ⟨_, (b_c (s_set (i := 1) sc_place.nd (q_op o_sub (q_op o_mod (q_op o_fdiv (q_v 0) q_int) (q_op o_sub (q_op o_mul q_int (q_op o_pow q_int q_int)) q_int)) (q_op o_sub (q_op o_pow q_int q_int) q_int)))
      (b_1 (s_ret (q_ix x_list (q_lst (q_a (q_tup (q_a (q_v 1) q_a0)) (q_a (q_tup (q_a (q_op o_sub (q_op o_mod (q_op o_fdiv (q_v 0) q_int) q_int) q_int) (q_a (q_v 1) q_a0))) (q_a (q_tup (q_a (q_op o_sub (q_op o_mod (q_op o_fdiv (q_v 0) q_int) q_int) q_int) q_a0)) q_a0)))) (q_op o_mod (q_v 0) q_int))))), ?_⟩
  refine ⟨_, rfl, _, _, rfl, rfl, ⟨by decide, by decide⟩, _, _, rfl, rfl, ⟨by decide, by decide, by decide⟩, _, _, rfl, rfl, .inl ⟨by decide, by decide⟩, _, _, rfl, rfl, _, _, rfl, rfl, ?_, _, _, rfl, rfl, ⟨by decide, by decide, by decide⟩, _, _, rfl, rfl, _, _, rfl, rfl, ?_⟩
  · show (0 : Int) < 2 * 10 ^ (60 : Int).toNat - 1
    decide +kernel
  dsimp (config := { proj := false, iota := false, eta := false, zeta := false }) only
  generalize c / 3 % (2 * 10 ^ (60 : Int).toNat - 1) - (10 ^ (60 : Int).toNat - 1) = n
  have m0 := Int.emod_nonneg c (show (3 : Int) ≠ 0 by decide)
  have m1 := Int.emod_lt_of_pos c (show (0 : Int) < 3 by decide)
  refine ⟨_, rfl, size63 (Nat.le_of_ble_eq_true rfl), fun t1 g1 => ?_⟩
  refine ⟨_, rfl, _, _, rfl, rfl, ⟨by decide, by decide⟩, _, _, rfl, rfl, (by show (0 : Int) < 5; decide), _, _, rfl, rfl, _, rfl, size63 (Nat.le_of_ble_eq_true rfl), fun t2 g2 => ?_⟩
  refine ⟨_, rfl, _, _, rfl, rfl, ⟨by decide, by decide⟩, _, _, rfl, rfl, (by show (0 : Int) < 5; decide), _, _, rfl, rfl, size63 (Nat.le_of_ble_eq_true rfl), fun t3 g3 => ⟨size63 (Nat.le_of_ble_eq_true rfl), fun l gl => ?_⟩⟩
  have w1 := same_new g1 (.tup [.int n])
  have w2 := same_new g2 (.tup [.int (c / 3 % 5 - 2), .int n])
  have w3 := same_new g3 (.tup [.int (c / 3 % 5 - 2)])
  have wl := same_new gl (.lst [.ref t1, .ref t2, .ref t3])
  have sm := w1.trans (w2.trans (w3.trans wl))
  have : c % 3 = 0 ∨ c % 3 = 1 ∨ c % 3 = 2 := by omega
  rcases this with e | e | e
  · exact ⟨_, rfl, _, _, rfl, rfl, (by show (0 : Int) < 3; decide), l, _, _, .ref t1, rfl, rfl, SqL.of upd_same, by rw [e]; exact at0, q t1 [n] _ sm (wl _ _ (w3 _ _ (w2 _ _ upd_same)))⟩
  · exact ⟨_, rfl, _, _, rfl, rfl, (by show (0 : Int) < 3; decide), l, _, _, .ref t2, rfl, rfl, SqL.of upd_same, by rw [e]; exact at1, q t2 [c / 3 % 5 - 2, n] _ sm (wl _ _ (w3 _ _ upd_same))⟩
  · exact ⟨_, rfl, _, _, rfl, rfl, (by show (0 : Int) < 3; decide), l, _, _, .ref t3, rfl, rfl, SqL.of upd_same, by rw [e]; exact at2, q t3 [c / 3 % 5 - 2] _ sm (wl _ _ upd_same)⟩
def here3 (c : Int) : Nm := (0, 1 + c % 3)
theorem here_nm (c : Int) : Nm3 (here3 c) := by
  have m0 := Int.emod_nonneg c (show (3 : Int) ≠ 0 by decide)
  have m1 := Int.emod_lt_of_pos c (show (0 : Int) < 3 by decide)
  have : c % 3 = 0 ∨ c % 3 = 1 ∨ c % 3 = 2 := by omega
  unfold here3 Nm3
  rcases this with e | e | e <;> rw [e]
  · exact .inl rfl
  · exact .inr (.inl rfl)
  · exact .inr (.inr rfl)
theorem some3 {H : Hp} {t1 t2 t3 : Addr} (h1 : H t1 = some (.tup [.int 0, .int 1])) (h2 : H t2 = some (.tup [.int 0, .int 2])) (h3 : H t3 = some (.tup [.int 0, .int 3])) (c : Int) : ∃ v, atI [V.ref t1, .ref t2, .ref t3] (c % 3) = some v ∧ NameIs H v (nk (here3 c)) := by
  have m0 := Int.emod_nonneg c (show (3 : Int) ≠ 0 by decide)
  have m1 := Int.emod_lt_of_pos c (show (0 : Int) < 3 by decide)
  have : c % 3 = 0 ∨ c % 3 = 1 ∨ c % 3 = 2 := by omega
  unfold here3
  rcases this with e | e | e <;> rw [e]
  · exact ⟨_, at0, t1, rfl, h1⟩
  · exact ⟨_, at1, t2, rfl, h2⟩
  · exact ⟨_, at2, t3, rfl, h3⟩
theorem some4 {H : Hp} {t1 t2 t3 : Addr} (h1 : H t1 = some (.tup [.int 0, .int 1])) (h2 : H t2 = some (.tup [.int 0, .int 2])) (h3 : H t3 = some (.tup [.int 0, .int 3])) (c : Int) : ∃ v u, atI [V.ref t1, .ref t2, .ref t3, .non] (c % 4) = some v ∧ UpAt H v u ∧ Up3 u := by
  have m0 := Int.emod_nonneg c (show (4 : Int) ≠ 0 by decide)
  have m1 := Int.emod_lt_of_pos c (show (0 : Int) < 4 by decide)
  have : c % 4 = 0 ∨ c % 4 = 1 ∨ c % 4 = 2 ∨ c % 4 = 3 := by omega
  rcases this with e | e | e | e <;> rw [e]
  · exact ⟨_, some (0, 1), at0, ⟨t1, rfl, h1⟩, fun n z => by cases z; exact .inl rfl⟩
  · exact ⟨_, some (0, 2), at1, ⟨t2, rfl, h2⟩, fun n z => by cases z; exact .inr (.inl rfl)⟩
  · exact ⟨_, some (0, 3), at2, ⟨t3, rfl, h3⟩, fun n z => by cases z; exact .inr (.inr rfl)⟩
  · exact ⟨_, none, at3, rfl, fun n z => nomatch z⟩
theorem whom3 (c : Int) : ∃ w, atI [V.non, .int 0, .int 1] (c % 3) = some (whV w) := by
  have m0 := Int.emod_nonneg c (show (3 : Int) ≠ 0 by decide)
  have m1 := Int.emod_lt_of_pos c (show (0 : Int) < 3 by decide)
  have : c % 3 = 0 ∨ c % 3 = 1 ∨ c % 3 = 2 := by omega
  rcases this with e | e | e <;> rw [e]
  · exact ⟨none, at0⟩
  · exact ⟨some 0, at1⟩
  · exact ⟨some 1, at2⟩
def spWhat (K : PySem.W.Frag) : Sp := fun vs H Q _ => ∃ (a : Addr) (ns : List Int) (size : Int), vs = [.ref a, .int size] ∧ SqL K H a (ns.map V.int) ∧ 0 ≤ size ∧ ∀ wa wd H', Same H H' → WhAt H' wa wd → WdOk (here3 (cellZ ns 1)) wd → Q (.ref wa) H'
abbrev s_what : Stmt := top 32
abbrev N_what : List Str := ["_law_script", "_law_size", "_law_some", "_law_here", "_law_there", "_law_up", "_law_spot", "_law_at", "_law_text_here", "_law_truth", "_law_what_here"]
theorem sc_what : FnScope N_what ["_law_script", "_law_size"] (defScope s_what) := ⟨rfl, rfl, rfl, by decide +kernel, rfl, by decide +kernel, by decide +kernel⟩
theorem ok_what {f : Addr} {fd : FuncData} (F : Fun K "_law_what" "_law_what" s_what f fd) (F_cell_at : Fn P w K mg base 1 "_law_cell_at" ["_law_script", "_law_k"] (spCell K)) (F_place : Fn P w K mg base 1 "_law_place" ["_law_cell"] spPlaceL) (F_text : Fn P w K mg base 1 "_law_text" ["_law_cell"] spTextL) : FnOk P w K mg base CX0 2 f fd ["_law_script", "_law_size"] (spWhat K) := by
  refine F.okQ sc_what (fun vs H Q E h => ?_) (fun cdv A outer s H vs Q E hr h => ?_)
  · obtain ⟨a, ns, size, rfl, _⟩ := h
    rfl
  obtain ⟨a, ns, size, rfl, hS, h0, q⟩ := h
  refine ⟨_, (b_c (s_set (i := 2) sc_what.nd (q_lst (q_a (q_tup (q_a q_int (q_a q_int q_a0))) (q_a (q_tup (q_a q_int (q_a q_int q_a0))) (q_a (q_tup (q_a q_int (q_a q_int q_a0))) q_a0)))))
      (b_c (s_set (i := 3) sc_what.nd (q_ix x_list (q_v 2) (q_op o_mod (q_fn F_cell_at (hr.mono (by decide)) (q_a (q_v 0) (q_a q_int q_a0))) q_int)))
      (b_c (s_set (i := 4) sc_what.nd (q_ix x_list (q_v 2) (q_op o_mod (q_fn F_cell_at (hr.mono (by decide)) (q_a (q_v 0) (q_a q_int q_a0))) q_int)))
      (b_c (s_set (i := 5) sc_what.nd (q_ix x_list (q_op o_cat (q_v 2) (q_lst (q_a q_non q_a0))) (q_op o_mod (q_fn F_cell_at (hr.mono (by decide)) (q_a (q_v 0) (q_a q_int q_a0))) q_int)))
      (b_c (s_set (i := 6) sc_what.nd (q_fn F_place (hr.mono (by decide)) (q_a (q_fn F_cell_at (hr.mono (by decide)) (q_a (q_v 0) (q_a q_int q_a0))) q_a0)))
      (b_c (s_set (i := 7) sc_what.nd (q_op o_mod (q_fn F_cell_at (hr.mono (by decide)) (q_a (q_v 0) (q_a q_int q_a0))) (q_op o_add (q_v 1) q_int)))
      (b_c (s_join (s_if (t_cmp o_eq (q_op o_mod (q_op o_fdiv (q_fn F_cell_at (hr.mono (by decide)) (q_a (q_v 0) (q_a q_int q_a0))) q_int) q_int) q_int) (b_1 (s_set (i := 7) sc_what.nd (q_op o_mod (q_op o_fdiv (q_fn F_cell_at (hr.mono (by decide)) (q_a (q_v 0) (q_a q_int q_a0))) q_int) (q_op o_pow q_int q_int)))) b_0))
      (b_c (s_set (i := 8) sc_what.nd (q_fn F_text (hr.mono (by decide)) (q_a (q_fn F_cell_at (hr.mono (by decide)) (q_a (q_v 0) (q_a q_int q_a0))) q_a0)))
      (b_c (s_set (i := 9) sc_what.nd (q_cmp o_eq (q_op o_mod (q_fn F_cell_at (hr.mono (by decide)) (q_a (q_v 0) (q_a q_int q_a0))) q_int) q_int))
      (b_c (s_set (i := 10) sc_what.nd (q_lst (q_a (q_tup (q_a q_str (q_a (q_v 5) (q_a (q_v 6) (q_a (q_v 8) q_a0))))) (q_a (q_tup (q_a q_str (q_a (q_v 3) (q_a (q_v 5) (q_a (q_v 6) q_a0))))) (q_a (q_tup (q_a q_str (q_a (q_v 3) (q_a (q_v 8) q_a0)))) (q_a (q_tup (q_a q_str (q_a (q_v 3) (q_a (q_v 9) q_a0)))) q_a0))))))
      (b_c (s_set (i := 10) sc_what.nd (q_op o_cat (q_v 10) (q_lst (q_a (q_tup (q_a q_str (q_a (q_v 3) (q_a (q_ix x_list (q_lst (q_a q_non (q_a q_int (q_a q_int q_a0)))) (q_op o_mod (q_fn F_cell_at (hr.mono (by decide)) (q_a (q_v 0) (q_a q_int q_a0))) q_int)) q_a0)))) (q_a (q_tup (q_a q_str (q_a (q_v 3) (q_a (q_v 9) q_a0)))) q_a0)))))
      (b_c (s_set (i := 10) sc_what.nd (q_op o_cat (q_v 10) (q_lst (q_a (q_tup (q_a q_str (q_a (q_v 3) (q_a (q_v 7) (q_a (q_v 6) q_a0))))) (q_a (q_tup (q_a q_str (q_a (q_v 3) (q_a (q_v 4) q_a0)))) (q_a (q_tup (q_a q_str (q_a (q_v 3) q_a0))) (q_a (q_tup (q_a q_str (q_a (q_v 3) q_a0))) q_a0)))))))
      (b_c (s_set (i := 10) sc_what.nd (q_op o_cat (q_v 10) (q_lst (q_a (q_tup (q_a q_str (q_a q_int q_a0))) (q_a (q_tup (q_a q_str (q_a q_int q_a0))) (q_a (q_tup (q_a q_str q_a0)) q_a0))))))
      (b_1 (s_ret (q_ix x_list (q_v 10) (q_op o_mod (q_fn F_cell_at (hr.mono (by decide)) (q_a (q_v 0) (q_a q_int q_a0))) q_int))))))))))))))))), ?_⟩
  -- some
  refine ⟨size63 (Nat.le_of_ble_eq_true rfl), fun t1 g1 => ⟨size63 (Nat.le_of_ble_eq_true rfl), fun t2 g2 => ⟨size63 (Nat.le_of_ble_eq_true rfl), fun t3 g3 => ⟨size63 (Nat.le_of_ble_eq_true rfl), fun l gl => ?_⟩⟩⟩⟩
  have w1 := same_new g1 (.tup [.int 0, .int 1])
  have w2 := same_new g2 (.tup [.int 0, .int 2])
  have w3 := same_new g3 (.tup [.int 0, .int 3])
  have wl := same_new gl (.lst [.ref t1, .ref t2, .ref t3])
  have s1 := w1.trans (w2.trans (w3.trans wl))
  have e1 := wl _ _ (w3 _ _ (w2 _ _ upd_same))
  have e2 := wl _ _ (w3 _ _ (upd_same (H := upd H t1 (.tup [.int 0, .int 1])) (a := t2) (o := .tup [.int 0, .int 2])))
  have e3 := wl _ _ (upd_same (H := upd (upd H t1 (.tup [.int 0, .int 1])) t2 (.tup [.int 0, .int 2])) (a := t3) (o := .tup [.int 0, .int 3]))
  have el : upd (upd (upd (upd H t1 (.tup [.int 0, .int 1])) t2 (.tup [.int 0, .int 2])) t3 (.tup [.int 0, .int 3])) l (.lst [.ref t1, .ref t2, .ref t3]) l = some (.lst [.ref t1, .ref t2, .ref t3]) := upd_same
  generalize upd (upd (upd (upd H t1 (.tup [.int 0, .int 1])) t2 (.tup [.int 0, .int 2])) t3 (.tup [.int 0, .int 3])) l (.lst [.ref t1, .ref t2, .ref t3]) = H1 at s1 e1 e2 e3 el ⊢
  clear w1 w2 w3 wl g1 g2 g3 gl
  -- here, there, up
  obtain ⟨hv, ha, hn⟩ := some3 e1 e2 e3 (cellZ ns 1)
  obtain ⟨tv, ta, tn⟩ := some3 e1 e2 e3 (cellZ ns 2)
  obtain ⟨uv, u, ua, un, u3⟩ := some4 e1 e2 e3 (cellZ ns 2)
  have hS1 := s1.seq hS
  refine ⟨_, rfl, _, rfl, a, ns, _, rfl, hS1, by decide, _, _, rfl, rfl, (by show (0 : Int) < 3; decide), l, _, _, hv, rfl, rfl, SqL.of el, ha, ?_⟩
  refine ⟨_, rfl, _, rfl, a, ns, _, rfl, hS1, by decide, _, _, rfl, rfl, (by show (0 : Int) < 3; decide), l, _, _, tv, rfl, rfl, SqL.of el, ta, ?_⟩
  refine ⟨_, rfl, size63 (Nat.le_of_ble_eq_true rfl), fun ln gln => ?_⟩
  have wln := same_new gln (.lst [.non])
  refine ⟨l, ln, _, _, rfl, rfl, wln _ _ el, upd_same, size63 (Nat.le_of_ble_eq_true rfl), fun l4 gl4 => ?_⟩
  have wl4 := same_new gl4 (.lst ([.ref t1, .ref t2, .ref t3] ++ [.non]))
  have s2 := s1.trans (wln.trans wl4)
  refine ⟨_, rfl, a, ns, _, rfl, s2.seq hS, by decide, _, _, rfl, rfl, (by show (0 : Int) < 4; decide), l4, _, _, uv, rfl, rfl, SqL.of upd_same, ua, ?_⟩
  have hn2 := hn.same (wln.trans wl4)
  have tn2 := tn.same (wln.trans wl4)
  have un2 := un.ts (Same.ts (wln.trans wl4))
  generalize upd (upd H1 ln (.lst [.non])) l4 (.lst ([.ref t1, .ref t2, .ref t3] ++ [.non])) = H2 at s2 hn2 tn2 un2 ⊢
  clear wln wl4 gln gl4 hn tn un
  -- spot
  refine ⟨_, rfl, a, ns, _, rfl, s2.seq hS, by decide, _, rfl, fun sp pl H3 s23 esp => ?_⟩
  have s3 := s2.trans s23
  -- at
  refine ⟨_, rfl, a, ns, _, rfl, s3.seq hS, by decide, _, rfl, _, _, rfl, rfl, _, _, rfl, rfl, (by show 0 < size + 2; omega), ?_⟩
  refine ⟨fun σ H' => H' = H3 ∧ ∃ n : Int, σ = [some (.ref a), some (.int size), some (.ref l), some hv, some tv, some uv, some (.ref sp), some (.int n), none, none, none], ?_, ?_⟩
  · refine ⟨_, rfl, a, ns, _, rfl, s3.seq hS, by decide, _, _, rfl, rfl, ⟨by decide, by decide⟩, _, _, rfl, rfl, (by show (0 : Int) < 3; decide), rfl, _, rfl, iteD (fun _ => ?_) (fun _ => ?_)⟩
    · exact ⟨_, rfl, a, ns, _, rfl, s3.seq hS, by decide, _, _, rfl, rfl, ⟨by decide, by decide⟩, _, _, rfl, rfl, ⟨by decide, by decide, by decide⟩, _, _, rfl, rfl, (by show (0 : Int) < 10 ^ (60 : Int).toNat; decide +kernel), rfl, _, rfl⟩
    · exact ⟨rfl, _, rfl⟩
  rintro σ H' ⟨rfl, n, rfl⟩
  -- text, truth
  refine ⟨_, rfl, a, ns, _, rfl, s3.seq hS, by decide, _, rfl, fun tx H4 okt ltx s34 => ?_⟩
  have s4 := s3.trans s34
  refine ⟨_, rfl, a, ns, _, rfl, s4.seq hS, by decide, _, _, rfl, rfl, (by show (0 : Int) < 2; decide), rfl, ?_⟩
  dsimp (config := { proj := false, iota := false, eta := false, zeta := false }) only
  generalize decide (V.int (cellZ ns (4 : Int).toNat % 2) = V.int 0) = b
  have hn4 := hn2.same (s23.trans s34)
  have tn4 := tn2.same (s23.trans s34)
  have un4 := un2.ts (Same.ts (s23.trans s34))
  have pl4 : PlAt H4 (.ref sp) pl := ⟨sp, rfl, s34 _ _ esp⟩
  clear hn2 tn2 un2
  -- put, move, write, mark
  refine ⟨_, rfl, _, rfl, _, rfl, size63 (Nat.le_of_ble_eq_true rfl), fun p1 g1 => ⟨_, rfl, _, rfl, _, rfl, size63 (Nat.le_of_ble_eq_true rfl), fun p2 g2 => ⟨_, rfl, _, rfl, size63 (Nat.le_of_ble_eq_true rfl), fun p3 g3 => ⟨_, rfl, _, rfl, size63 (Nat.le_of_ble_eq_true rfl), fun p4 g4 => ⟨size63 (Nat.le_of_ble_eq_true rfl), fun l1 gl1 => ?_⟩⟩⟩⟩⟩
  have v0 := same_new g1 (.tup [.str "put", uv, .ref sp, .str tx])
  have v1 := same_new g2 (.tup [.str "move", hv, uv, .ref sp])
  have v2 := same_new g3 (.tup [.str "write", hv, .str tx])
  have v3 := same_new g4 (.tup [.str "mark", hv, .bl b])
  have v4 := same_new gl1 (.lst [.ref p1, .ref p2, .ref p3, .ref p4])
  have x1 : (upd (upd (upd (upd (upd H4 p1 (.tup [.str "put", uv, .ref sp, .str tx])) p2 (.tup [.str "move", hv, uv, .ref sp])) p3 (.tup [.str "write", hv, .str tx])) p4 (.tup [.str "mark", hv, .bl b])) l1 (.lst [.ref p1, .ref p2, .ref p3, .ref p4])) p1 = some (.tup [.str "put", uv, .ref sp, .str tx]) := (v4 _ _ (v3 _ _ (v2 _ _ (v1 _ _ (upd_same (H := H4) (a := p1) (o := .tup [.str "put", uv, .ref sp, .str tx]))))))
  have x2 : (upd (upd (upd (upd (upd H4 p1 (.tup [.str "put", uv, .ref sp, .str tx])) p2 (.tup [.str "move", hv, uv, .ref sp])) p3 (.tup [.str "write", hv, .str tx])) p4 (.tup [.str "mark", hv, .bl b])) l1 (.lst [.ref p1, .ref p2, .ref p3, .ref p4])) p2 = some (.tup [.str "move", hv, uv, .ref sp]) := (v4 _ _ (v3 _ _ (v2 _ _ (upd_same (H := (upd H4 p1 (.tup [.str "put", uv, .ref sp, .str tx]))) (a := p2) (o := .tup [.str "move", hv, uv, .ref sp])))))
  have x3 : (upd (upd (upd (upd (upd H4 p1 (.tup [.str "put", uv, .ref sp, .str tx])) p2 (.tup [.str "move", hv, uv, .ref sp])) p3 (.tup [.str "write", hv, .str tx])) p4 (.tup [.str "mark", hv, .bl b])) l1 (.lst [.ref p1, .ref p2, .ref p3, .ref p4])) p3 = some (.tup [.str "write", hv, .str tx]) := (v4 _ _ (v3 _ _ (upd_same (H := (upd (upd H4 p1 (.tup [.str "put", uv, .ref sp, .str tx])) p2 (.tup [.str "move", hv, uv, .ref sp]))) (a := p3) (o := .tup [.str "write", hv, .str tx]))))
  have x4 : (upd (upd (upd (upd (upd H4 p1 (.tup [.str "put", uv, .ref sp, .str tx])) p2 (.tup [.str "move", hv, uv, .ref sp])) p3 (.tup [.str "write", hv, .str tx])) p4 (.tup [.str "mark", hv, .bl b])) l1 (.lst [.ref p1, .ref p2, .ref p3, .ref p4])) p4 = some (.tup [.str "mark", hv, .bl b]) := (v4 _ _ (upd_same (H := (upd (upd (upd H4 p1 (.tup [.str "put", uv, .ref sp, .str tx])) p2 (.tup [.str "move", hv, uv, .ref sp])) p3 (.tup [.str "write", hv, .str tx]))) (a := p4) (o := .tup [.str "mark", hv, .bl b])))
  have xl : (upd (upd (upd (upd (upd H4 p1 (.tup [.str "put", uv, .ref sp, .str tx])) p2 (.tup [.str "move", hv, uv, .ref sp])) p3 (.tup [.str "write", hv, .str tx])) p4 (.tup [.str "mark", hv, .bl b])) l1 (.lst [.ref p1, .ref p2, .ref p3, .ref p4])) l1 = some (.lst [.ref p1, .ref p2, .ref p3, .ref p4]) := (upd_same (H := (upd (upd (upd (upd H4 p1 (.tup [.str "put", uv, .ref sp, .str tx])) p2 (.tup [.str "move", hv, uv, .ref sp])) p3 (.tup [.str "write", hv, .str tx])) p4 (.tup [.str "mark", hv, .bl b]))) (a := l1) (o := .lst [.ref p1, .ref p2, .ref p3, .ref p4]))
  have sx := v0.trans (v1.trans (v2.trans (v3.trans (v4))))
  have s5 := s4.trans sx
  have hn5 := hn4.same sx
  have tn5 := tn4.same sx
  have un5 := un4.ts (Same.ts sx)
  have pl5 := pl4.ts (Same.ts sx)
  generalize (upd (upd (upd (upd (upd H4 p1 (.tup [.str "put", uv, .ref sp, .str tx])) p2 (.tup [.str "move", hv, uv, .ref sp])) p3 (.tup [.str "write", hv, .str tx])) p4 (.tup [.str "mark", hv, .bl b])) l1 (.lst [.ref p1, .ref p2, .ref p3, .ref p4])) = H5 at sx s5 x1 x2 x3 x4 xl hn5 tn5 un5 pl5 ⊢
  clear v0 v1 v2 v3 v4 sx g1 g2 g3 g4 gl1
  -- due, fold
  obtain ⟨wh, hwh⟩ := whom3 (cellZ ns 4)
  refine ⟨_, rfl, _, rfl, size63 (Nat.le_of_ble_eq_true rfl), fun e ge => ?_⟩
  have we := same_new ge (.lst [.non, .int 0, .int 1])
  refine ⟨_, rfl, a, ns, _, rfl, (s5.trans we).seq hS, by decide, _, _, rfl, rfl, (by show (0 : Int) < 3; decide), e, _, _, whV wh, rfl, rfl, SqL.of upd_same, hwh, size63 (Nat.le_of_ble_eq_true rfl), fun p5 g5 => ⟨_, rfl, _, rfl, size63 (Nat.le_of_ble_eq_true rfl), fun p6 g6 => ⟨size63 (Nat.le_of_ble_eq_true rfl), fun m gm => ?_⟩⟩⟩
  have u1 := same_new g5 (.tup [.str "due", hv, whV wh])
  have u2 := same_new g6 (.tup [.str "fold", hv, .bl b])
  have u3' := same_new gm (.lst [.ref p5, .ref p6])
  refine ⟨l1, m, _, _, rfl, rfl, u3' _ _ (u2 _ _ (u1 _ _ (we _ _ xl))), upd_same, size63 (Nat.le_of_ble_eq_true rfl), fun l2 gl2 => ?_⟩
  clear we u1 u2 u3'
  have v0 := same_new ge (.lst [.non, .int 0, .int 1])
  have v1 := same_new g5 (.tup [.str "due", hv, whV wh])
  have v2 := same_new g6 (.tup [.str "fold", hv, .bl b])
  have v3 := same_new gm (.lst [.ref p5, .ref p6])
  have v4 := same_new gl2 (.lst ([.ref p1, .ref p2, .ref p3, .ref p4] ++ [.ref p5, .ref p6]))
  have x5 : (upd (upd (upd (upd (upd H5 e (.lst [.non, .int 0, .int 1])) p5 (.tup [.str "due", hv, whV wh])) p6 (.tup [.str "fold", hv, .bl b])) m (.lst [.ref p5, .ref p6])) l2 (.lst ([.ref p1, .ref p2, .ref p3, .ref p4] ++ [.ref p5, .ref p6]))) p5 = some (.tup [.str "due", hv, whV wh]) := (v4 _ _ (v3 _ _ (v2 _ _ (upd_same (H := (upd H5 e (.lst [.non, .int 0, .int 1]))) (a := p5) (o := .tup [.str "due", hv, whV wh])))))
  have x6 : (upd (upd (upd (upd (upd H5 e (.lst [.non, .int 0, .int 1])) p5 (.tup [.str "due", hv, whV wh])) p6 (.tup [.str "fold", hv, .bl b])) m (.lst [.ref p5, .ref p6])) l2 (.lst ([.ref p1, .ref p2, .ref p3, .ref p4] ++ [.ref p5, .ref p6]))) p6 = some (.tup [.str "fold", hv, .bl b]) := (v4 _ _ (v3 _ _ (upd_same (H := (upd (upd H5 e (.lst [.non, .int 0, .int 1])) p5 (.tup [.str "due", hv, whV wh]))) (a := p6) (o := .tup [.str "fold", hv, .bl b]))))
  have xm : (upd (upd (upd (upd (upd H5 e (.lst [.non, .int 0, .int 1])) p5 (.tup [.str "due", hv, whV wh])) p6 (.tup [.str "fold", hv, .bl b])) m (.lst [.ref p5, .ref p6])) l2 (.lst ([.ref p1, .ref p2, .ref p3, .ref p4] ++ [.ref p5, .ref p6]))) l2 = some (.lst ([.ref p1, .ref p2, .ref p3, .ref p4] ++ [.ref p5, .ref p6])) := (upd_same (H := (upd (upd (upd (upd H5 e (.lst [.non, .int 0, .int 1])) p5 (.tup [.str "due", hv, whV wh])) p6 (.tup [.str "fold", hv, .bl b])) m (.lst [.ref p5, .ref p6]))) (a := l2) (o := .lst ([.ref p1, .ref p2, .ref p3, .ref p4] ++ [.ref p5, .ref p6])))
  have sx := v0.trans (v1.trans (v2.trans (v3.trans (v4))))
  have s6 := s5.trans sx
  have hn6 := hn5.same sx
  have tn6 := tn5.same sx
  have un6 := un5.ts (Same.ts sx)
  have pl6 := pl5.ts (Same.ts sx)
  have x1a := sx _ _ x1
  have x2a := sx _ _ x2
  have x3a := sx _ _ x3
  have x4a := sx _ _ x4
  generalize (upd (upd (upd (upd (upd H5 e (.lst [.non, .int 0, .int 1])) p5 (.tup [.str "due", hv, whV wh])) p6 (.tup [.str "fold", hv, .bl b])) m (.lst [.ref p5, .ref p6])) l2 (.lst ([.ref p1, .ref p2, .ref p3, .ref p4] ++ [.ref p5, .ref p6]))) = H6 at sx s6 x5 x6 xm hn6 tn6 un6 pl6 x1a x2a x3a x4a ⊢
  clear v0 v1 v2 v3 v4 sx ge g5 g6 gm gl2
  -- part, join, take, back
  refine ⟨_, rfl, _, rfl, _, rfl, _, rfl, size63 (Nat.le_of_ble_eq_true rfl), fun p7 g7 => ⟨_, rfl, _, rfl, size63 (Nat.le_of_ble_eq_true rfl), fun p8 g8 => ⟨_, rfl, size63 (Nat.le_of_ble_eq_true rfl), fun p9 g9 => ⟨_, rfl, size63 (Nat.le_of_ble_eq_true rfl), fun p10 g10 => ⟨size63 (Nat.le_of_ble_eq_true rfl), fun m gm => ?_⟩⟩⟩⟩⟩
  have u1 := same_new g7 (.tup [.str "part", hv, .int n, .ref sp])
  have u2 := same_new g8 (.tup [.str "join", hv, tv])
  have u3' := same_new g9 (.tup [.str "take", hv])
  have u4 := same_new g10 (.tup [.str "back", hv])
  have u5 := same_new gm (.lst [.ref p7, .ref p8, .ref p9, .ref p10])
  refine ⟨l2, m, _, _, rfl, rfl, u5 _ _ (u4 _ _ (u3' _ _ (u2 _ _ (u1 _ _ xm)))), upd_same, size63 (Nat.le_of_ble_eq_true rfl), fun l3 gl3 => ?_⟩
  clear u1 u2 u3' u4 u5
  have v0 := same_new g7 (.tup [.str "part", hv, .int n, .ref sp])
  have v1 := same_new g8 (.tup [.str "join", hv, tv])
  have v2 := same_new g9 (.tup [.str "take", hv])
  have v3 := same_new g10 (.tup [.str "back", hv])
  have v4 := same_new gm (.lst [.ref p7, .ref p8, .ref p9, .ref p10])
  have v5 := same_new gl3 (.lst ([.ref p1, .ref p2, .ref p3, .ref p4] ++ [.ref p5, .ref p6] ++ [.ref p7, .ref p8, .ref p9, .ref p10]))
  have x7 : (upd (upd (upd (upd (upd (upd H6 p7 (.tup [.str "part", hv, .int n, .ref sp])) p8 (.tup [.str "join", hv, tv])) p9 (.tup [.str "take", hv])) p10 (.tup [.str "back", hv])) m (.lst [.ref p7, .ref p8, .ref p9, .ref p10])) l3 (.lst ([.ref p1, .ref p2, .ref p3, .ref p4] ++ [.ref p5, .ref p6] ++ [.ref p7, .ref p8, .ref p9, .ref p10]))) p7 = some (.tup [.str "part", hv, .int n, .ref sp]) := (v5 _ _ (v4 _ _ (v3 _ _ (v2 _ _ (v1 _ _ (upd_same (H := H6) (a := p7) (o := .tup [.str "part", hv, .int n, .ref sp])))))))
  have x8 : (upd (upd (upd (upd (upd (upd H6 p7 (.tup [.str "part", hv, .int n, .ref sp])) p8 (.tup [.str "join", hv, tv])) p9 (.tup [.str "take", hv])) p10 (.tup [.str "back", hv])) m (.lst [.ref p7, .ref p8, .ref p9, .ref p10])) l3 (.lst ([.ref p1, .ref p2, .ref p3, .ref p4] ++ [.ref p5, .ref p6] ++ [.ref p7, .ref p8, .ref p9, .ref p10]))) p8 = some (.tup [.str "join", hv, tv]) := (v5 _ _ (v4 _ _ (v3 _ _ (v2 _ _ (upd_same (H := (upd H6 p7 (.tup [.str "part", hv, .int n, .ref sp]))) (a := p8) (o := .tup [.str "join", hv, tv]))))))
  have x9 : (upd (upd (upd (upd (upd (upd H6 p7 (.tup [.str "part", hv, .int n, .ref sp])) p8 (.tup [.str "join", hv, tv])) p9 (.tup [.str "take", hv])) p10 (.tup [.str "back", hv])) m (.lst [.ref p7, .ref p8, .ref p9, .ref p10])) l3 (.lst ([.ref p1, .ref p2, .ref p3, .ref p4] ++ [.ref p5, .ref p6] ++ [.ref p7, .ref p8, .ref p9, .ref p10]))) p9 = some (.tup [.str "take", hv]) := (v5 _ _ (v4 _ _ (v3 _ _ (upd_same (H := (upd (upd H6 p7 (.tup [.str "part", hv, .int n, .ref sp])) p8 (.tup [.str "join", hv, tv]))) (a := p9) (o := .tup [.str "take", hv])))))
  have x10 : (upd (upd (upd (upd (upd (upd H6 p7 (.tup [.str "part", hv, .int n, .ref sp])) p8 (.tup [.str "join", hv, tv])) p9 (.tup [.str "take", hv])) p10 (.tup [.str "back", hv])) m (.lst [.ref p7, .ref p8, .ref p9, .ref p10])) l3 (.lst ([.ref p1, .ref p2, .ref p3, .ref p4] ++ [.ref p5, .ref p6] ++ [.ref p7, .ref p8, .ref p9, .ref p10]))) p10 = some (.tup [.str "back", hv]) := (v5 _ _ (v4 _ _ (upd_same (H := (upd (upd (upd H6 p7 (.tup [.str "part", hv, .int n, .ref sp])) p8 (.tup [.str "join", hv, tv])) p9 (.tup [.str "take", hv]))) (a := p10) (o := .tup [.str "back", hv]))))
  have xn : (upd (upd (upd (upd (upd (upd H6 p7 (.tup [.str "part", hv, .int n, .ref sp])) p8 (.tup [.str "join", hv, tv])) p9 (.tup [.str "take", hv])) p10 (.tup [.str "back", hv])) m (.lst [.ref p7, .ref p8, .ref p9, .ref p10])) l3 (.lst ([.ref p1, .ref p2, .ref p3, .ref p4] ++ [.ref p5, .ref p6] ++ [.ref p7, .ref p8, .ref p9, .ref p10]))) l3 = some (.lst ([.ref p1, .ref p2, .ref p3, .ref p4] ++ [.ref p5, .ref p6] ++ [.ref p7, .ref p8, .ref p9, .ref p10])) := (upd_same (H := (upd (upd (upd (upd (upd H6 p7 (.tup [.str "part", hv, .int n, .ref sp])) p8 (.tup [.str "join", hv, tv])) p9 (.tup [.str "take", hv])) p10 (.tup [.str "back", hv])) m (.lst [.ref p7, .ref p8, .ref p9, .ref p10]))) (a := l3) (o := .lst ([.ref p1, .ref p2, .ref p3, .ref p4] ++ [.ref p5, .ref p6] ++ [.ref p7, .ref p8, .ref p9, .ref p10])))
  have sx := v0.trans (v1.trans (v2.trans (v3.trans (v4.trans (v5)))))
  have s7 := s6.trans sx
  have hn7 := hn6.same sx
  have tn7 := tn6.same sx
  have un7 := un6.ts (Same.ts sx)
  have pl7 := pl6.ts (Same.ts sx)
  have x1b := sx _ _ x1a
  have x2b := sx _ _ x2a
  have x3b := sx _ _ x3a
  have x4b := sx _ _ x4a
  have x5b := sx _ _ x5
  have x6b := sx _ _ x6
  generalize (upd (upd (upd (upd (upd (upd H6 p7 (.tup [.str "part", hv, .int n, .ref sp])) p8 (.tup [.str "join", hv, tv])) p9 (.tup [.str "take", hv])) p10 (.tup [.str "back", hv])) m (.lst [.ref p7, .ref p8, .ref p9, .ref p10])) l3 (.lst ([.ref p1, .ref p2, .ref p3, .ref p4] ++ [.ref p5, .ref p6] ++ [.ref p7, .ref p8, .ref p9, .ref p10]))) = H7 at sx s7 x7 x8 x9 x10 xn hn7 tn7 un7 pl7 x1b x2b x3b x4b x5b x6b ⊢
  clear v0 v1 v2 v3 v4 v5 sx g7 g8 g9 g10 gm gl3
  -- off, on, none
  refine ⟨_, rfl, size63 (Nat.le_of_ble_eq_true rfl), fun p11 g11 => ⟨size63 (Nat.le_of_ble_eq_true rfl), fun p12 g12 => ⟨size63 (Nat.le_of_ble_eq_true rfl), fun p13 g13 => ⟨size63 (Nat.le_of_ble_eq_true rfl), fun m gm => ?_⟩⟩⟩⟩
  have u1 := same_new g11 (.tup [.str "off", .int 1])
  have u2 := same_new g12 (.tup [.str "on", .int 1])
  have u3' := same_new g13 (.tup [.str "none"])
  have u5 := same_new gm (.lst [.ref p11, .ref p12, .ref p13])
  refine ⟨l3, m, _, _, rfl, rfl, u5 _ _ (u3' _ _ (u2 _ _ (u1 _ _ xn))), upd_same, size63 (Nat.le_of_ble_eq_true rfl), fun l4 gl4 => ?_⟩
  clear u1 u2 u3' u5
  have v0 := same_new g11 (.tup [.str "off", .int 1])
  have v1 := same_new g12 (.tup [.str "on", .int 1])
  have v2 := same_new g13 (.tup [.str "none"])
  have v3 := same_new gm (.lst [.ref p11, .ref p12, .ref p13])
  have v4 := same_new gl4 (.lst ([.ref p1, .ref p2, .ref p3, .ref p4] ++ [.ref p5, .ref p6] ++ [.ref p7, .ref p8, .ref p9, .ref p10] ++ [.ref p11, .ref p12, .ref p13]))
  have x11 : (upd (upd (upd (upd (upd H7 p11 (.tup [.str "off", .int 1])) p12 (.tup [.str "on", .int 1])) p13 (.tup [.str "none"])) m (.lst [.ref p11, .ref p12, .ref p13])) l4 (.lst ([.ref p1, .ref p2, .ref p3, .ref p4] ++ [.ref p5, .ref p6] ++ [.ref p7, .ref p8, .ref p9, .ref p10] ++ [.ref p11, .ref p12, .ref p13]))) p11 = some (.tup [.str "off", .int 1]) := (v4 _ _ (v3 _ _ (v2 _ _ (v1 _ _ (upd_same (H := H7) (a := p11) (o := .tup [.str "off", .int 1]))))))
  have x12 : (upd (upd (upd (upd (upd H7 p11 (.tup [.str "off", .int 1])) p12 (.tup [.str "on", .int 1])) p13 (.tup [.str "none"])) m (.lst [.ref p11, .ref p12, .ref p13])) l4 (.lst ([.ref p1, .ref p2, .ref p3, .ref p4] ++ [.ref p5, .ref p6] ++ [.ref p7, .ref p8, .ref p9, .ref p10] ++ [.ref p11, .ref p12, .ref p13]))) p12 = some (.tup [.str "on", .int 1]) := (v4 _ _ (v3 _ _ (v2 _ _ (upd_same (H := (upd H7 p11 (.tup [.str "off", .int 1]))) (a := p12) (o := .tup [.str "on", .int 1])))))
  have x13 : (upd (upd (upd (upd (upd H7 p11 (.tup [.str "off", .int 1])) p12 (.tup [.str "on", .int 1])) p13 (.tup [.str "none"])) m (.lst [.ref p11, .ref p12, .ref p13])) l4 (.lst ([.ref p1, .ref p2, .ref p3, .ref p4] ++ [.ref p5, .ref p6] ++ [.ref p7, .ref p8, .ref p9, .ref p10] ++ [.ref p11, .ref p12, .ref p13]))) p13 = some (.tup [.str "none"]) := (v4 _ _ (v3 _ _ (upd_same (H := (upd (upd H7 p11 (.tup [.str "off", .int 1])) p12 (.tup [.str "on", .int 1]))) (a := p13) (o := .tup [.str "none"]))))
  have xo : (upd (upd (upd (upd (upd H7 p11 (.tup [.str "off", .int 1])) p12 (.tup [.str "on", .int 1])) p13 (.tup [.str "none"])) m (.lst [.ref p11, .ref p12, .ref p13])) l4 (.lst ([.ref p1, .ref p2, .ref p3, .ref p4] ++ [.ref p5, .ref p6] ++ [.ref p7, .ref p8, .ref p9, .ref p10] ++ [.ref p11, .ref p12, .ref p13]))) l4 = some (.lst ([.ref p1, .ref p2, .ref p3, .ref p4] ++ [.ref p5, .ref p6] ++ [.ref p7, .ref p8, .ref p9, .ref p10] ++ [.ref p11, .ref p12, .ref p13])) := (upd_same (H := (upd (upd (upd (upd H7 p11 (.tup [.str "off", .int 1])) p12 (.tup [.str "on", .int 1])) p13 (.tup [.str "none"])) m (.lst [.ref p11, .ref p12, .ref p13]))) (a := l4) (o := .lst ([.ref p1, .ref p2, .ref p3, .ref p4] ++ [.ref p5, .ref p6] ++ [.ref p7, .ref p8, .ref p9, .ref p10] ++ [.ref p11, .ref p12, .ref p13])))
  have sx := v0.trans (v1.trans (v2.trans (v3.trans (v4))))
  have s8 := s7.trans sx
  have hn8 := hn7.same sx
  have tn8 := tn7.same sx
  have un8 := un7.ts (Same.ts sx)
  have pl8 := pl7.ts (Same.ts sx)
  have x1c := sx _ _ x1b
  have x2c := sx _ _ x2b
  have x3c := sx _ _ x3b
  have x4c := sx _ _ x4b
  have x5c := sx _ _ x5b
  have x6c := sx _ _ x6b
  have x7c := sx _ _ x7
  have x8c := sx _ _ x8
  have x9c := sx _ _ x9
  have x10c := sx _ _ x10
  generalize (upd (upd (upd (upd (upd H7 p11 (.tup [.str "off", .int 1])) p12 (.tup [.str "on", .int 1])) p13 (.tup [.str "none"])) m (.lst [.ref p11, .ref p12, .ref p13])) l4 (.lst ([.ref p1, .ref p2, .ref p3, .ref p4] ++ [.ref p5, .ref p6] ++ [.ref p7, .ref p8, .ref p9, .ref p10] ++ [.ref p11, .ref p12, .ref p13]))) = H8 at sx s8 x11 x12 x13 xo hn8 tn8 un8 pl8 x1c x2c x3c x4c x5c x6c x7c x8c x9c x10c ⊢
  clear v0 v1 v2 v3 v4 sx g11 g12 g13 gm gl4
  have all : ∀ v ∈ ([.ref p1, .ref p2, .ref p3, .ref p4] ++ [.ref p5, .ref p6] ++ [.ref p7, .ref p8, .ref p9, .ref p10] ++ [.ref p11, .ref p12, .ref p13] : List V), ∃ wa wd, v = .ref wa ∧ WhAt H8 wa wd ∧ WdOk (here3 (cellZ ns 1)) wd := by
    intro v hv'
    simp only [List.cons_append, List.nil_append, List.mem_cons, List.not_mem_nil, or_false] at hv'
    rcases hv' with rfl | rfl | rfl | rfl | rfl | rfl | rfl | rfl | rfl | rfl | rfl | rfl | rfl
    · exact ⟨p1, .put u pl tx, rfl, ⟨_, x1c, uv, .ref sp, rfl, un8, pl8⟩, u3, okt⟩
    · exact ⟨p2, .move _ u pl, rfl, ⟨_, x2c, hv, uv, .ref sp, rfl, hn8, un8, pl8⟩, rfl, u3⟩
    · exact ⟨p3, .write _ tx, rfl, ⟨_, x3c, hv, rfl, hn8⟩, rfl, okt⟩
    · exact ⟨p4, .mark _ b, rfl, ⟨_, x4c, hv, rfl, hn8⟩, rfl⟩
    · exact ⟨p5, .due _ wh, rfl, ⟨_, x5c, hv, rfl, hn8⟩, rfl⟩
    · exact ⟨p6, .fold _ b, rfl, ⟨_, x6c, hv, rfl, hn8⟩, rfl⟩
    · exact ⟨p7, .part _ n pl, rfl, ⟨_, x7c, hv, .ref sp, rfl, hn8, pl8⟩, rfl⟩
    · exact ⟨p8, .join _ _, rfl, ⟨_, x8c, hv, tv, rfl, hn8, tn8⟩, rfl, here_nm _⟩
    · exact ⟨p9, .take _, rfl, ⟨_, x9c, hv, rfl, hn8⟩, rfl⟩
    · exact ⟨p10, .back _, rfl, ⟨_, x10c, hv, rfl, hn8⟩, rfl⟩
    · exact ⟨p11, .off 1, rfl, ⟨_, x11, rfl⟩, rfl⟩
    · exact ⟨p12, .on 1, rfl, ⟨_, x12, rfl⟩, rfl⟩
    · exact ⟨p13, .none, rfl, ⟨_, x13, rfl⟩, trivial⟩
  have m0 := Int.emod_nonneg (cellZ ns 0) (show (13 : Int) ≠ 0 by decide)
  have m1 := Int.emod_lt_of_pos (cellZ ns 0) (show (0 : Int) < 13 by decide)
  have hz : (cellZ ns 0 % 13).toNat < ([.ref p1, .ref p2, .ref p3, .ref p4] ++ [.ref p5, .ref p6] ++ [.ref p7, .ref p8, .ref p9, .ref p10] ++ [.ref p11, .ref p12, .ref p13] : List V).length := by
    show _ < 13
    omega
  obtain ⟨wa, wd, ev, ww, ok⟩ := all _ (List.getElem_mem hz)
  have ea := atI_nat (List.getElem?_eq_getElem hz)
  rw [show (((cellZ ns 0 % 13).toNat : Nat) : Int) = cellZ ns 0 % 13 by omega, ev] at ea
  exact ⟨_, rfl, _, rfl, a, ns, _, rfl, s8.seq hS, by decide, _, _, rfl, rfl, (by show (0 : Int) < 13; decide), l4, _, _, .ref wa, rfl, rfl, SqL.of xo, ea, q wa wd H8 s8 ww ok⟩
theorem list_nm {n o : Nm} : ([n.1, n.2] = [o.1, o.2]) = (n = o) := by
  refine propext ⟨fun z => ?_, fun z => by rw [z]⟩
  injection z with z1 z2
  injection z2 with z2 _
  exact Prod.ext z1 z2
def spUnderL : Sp := fun vs H Q _ => ∃ (u v : V) (n o : Nm), vs = [u, v] ∧ NameIs H u (nk n) ∧ NameIs H v (nk o) ∧ ∀ H', Same H H' → Q (.bl (underB (some n) o)) H'
abbrev s_under : Stmt := top 33
abbrev N_under : List Str := ["_law_one", "_law_other"]
theorem sc_under : FnScope N_under ["_law_one", "_law_other"] (defScope s_under) := ⟨rfl, rfl, rfl, by decide +kernel, rfl, by decide +kernel, by decide +kernel⟩
theorem ok_under {f : Addr} {fd : FuncData} (F : Fun K "_law_under" "_law_under" s_under f fd) : FnOk P w K mg base CX0 1 f fd ["_law_one", "_law_other"] spUnderL := by
  refine F.okQ sc_under (fun vs H Q E h => ?_) (fun cdv A outer s H vs Q E hr h => ?_)
  · obtain ⟨u, v, n, o, rfl, _⟩ := h
    rfl
  obtain ⟨u, v, n, o, rfl, ⟨ub, rfl, hub⟩, ⟨vb, rfl, hvb⟩, q⟩ := h
  refine ⟨_, (b_1 (s_ret (q_or (q_cmp (o_eqTI hr.units) (q_v 0) (q_v 1)) (q_one (q_and (q_cmp (o_eqTI hr.units) (q_v 0) (q_tup (q_a q_int (q_a q_int q_a0)))) (q_one (q_cmp (o_eqTI hr.units) (q_v 1) (q_tup (q_a q_int (q_a q_int q_a0)))))))))), ?_⟩
  have q' : ∀ H', Same H H' → Q (.bl (decide (n = o ∨ (n = (0, 2) ∧ o = (0, 1))))) H' := q
  refine ⟨_, rfl, _, rfl, ub, vb, [n.1, n.2], [o.1, o.2], rfl, rfl, hub, hvb, _, rfl, ?_⟩
  by_cases c : n = o
  · rw [decide_eq_true (list_nm ▸ c : [n.1, n.2] = [o.1, o.2])]
    have := q' H (Same.refl H)
    rw [decide_eq_true (.inl c)] at this
    exact iteT this
  · rw [decide_eq_false (fun z : [n.1, n.2] = [o.1, o.2] => c (list_nm ▸ z))]
    refine iteF ?_
    refine ⟨_, rfl, size63 (Nat.le_of_ble_eq_true rfl), fun t gt => ?_⟩
    have wt := same_new gt (.tup [.int 0, .int 2])
    refine ⟨ub, t, [n.1, n.2], [0, 2], rfl, rfl, wt _ _ hub, upd_same, _, rfl, ?_⟩
    by_cases c2 : n = (0, 2)
    · rw [decide_eq_true (by rw [c2] : [n.1, n.2] = [0, 2])]
      refine iteT ?_
      refine ⟨_, rfl, size63 (Nat.le_of_ble_eq_true rfl), fun t2 gt2 => ?_⟩
      have wt2 := same_new gt2 (.tup [.int 0, .int 1])
      refine ⟨vb, t2, [o.1, o.2], [0, 1], rfl, rfl, wt2 _ _ (wt _ _ hvb), upd_same, ?_⟩
      have := q' _ (wt.trans wt2)
      have e : decide ([o.1, o.2] = [0, 1]) = decide (n = o ∨ (n = (0, 2) ∧ o = (0, 1))) := by
        rw [decide_eq_decide]
        constructor
        · intro z
          exact .inr ⟨c2, by injection z with z1 z2; injection z2 with z2 _; exact Prod.ext z1 z2⟩
        · rintro (z | ⟨_, rfl⟩)
          · exact absurd z c
          · rfl
      rw [e]
      exact this
    · rw [decide_eq_false (fun z : [n.1, n.2] = [0, 2] => c2 (by injection z with z1 z2; injection z2 with z2 _; exact Prod.ext z1 z2))]
      have := q' _ wt
      rw [decide_eq_false (by rintro (z | ⟨z, _⟩); exact c z; exact c2 z)] at this
      exact iteF this
theorem eqv_nm (n k : Nm) : PyData.eqv (nmD n) (nmD k) = decide (n = k) := by
  have := eqv_ints [n.1, n.2] [k.1, k.2]
  unfold nmD
  rw [show ([PyData.int n.1, .int n.2] : List PyData) = [n.1, n.2].map PyData.int from rfl, show ([PyData.int k.1, .int k.2] : List PyData) = [k.1, k.2].map PyData.int from rfl, this, decide_eq_decide, list_nm]
theorem eqv_up (u : Option Nm) (k : Nm) : PyData.eqv (upD u) (nmD k) = decide (u = some k) := by
  cases u with
  | none => rfl
  | some n =>
    show PyData.eqv (nmD n) (nmD k) = _
    rw [eqv_nm, decide_eq_decide]
    exact ⟨fun z => by rw [z], fun z => Option.some.inj z⟩
theorem up_shaped (u : Option Nm) : SeqAt.shaped (upD u) = true := shaped_of (lay_up u).1 (by have := (lay_up u).2; omega)
theorem nm_shaped (n : Nm) : SeqAt.shaped (nmD n) = true := shaped_of (lay_nm n).1 (by have := (lay_nm n).2; omega)
theorem in_word3 (wd : Wd) : inV (.str wd.word) [.str "off", .str "on", .str "none"] = match wd with | .off _ => true | .on _ => true | .none => true | _ => false := by
  cases wd <;> rfl
theorem in_word2 (wd : Wd) : inV (.str wd.word) [.str "move", .str "join"] = match wd with | .move _ _ _ => true | .join _ _ => true | _ => false := by
  cases wd <;> rfl
def spWord : Sp := fun vs H Q _ => ∃ (wa : Addr) (wd : Wd) (here : Nm) (size : Int), vs = [.ref wa, .int size] ∧ WhAt H wa wd ∧ WdOk here wd ∧ ∀ H', Same H H' → Q (.str (lawWord size wd)) H'
/-- the name behind the word, where there is one -/
theorem wd_named {H : Hp} {r : List V} {wd : Wd} (h : RsAt H r wd) : (∃ u pl tx, wd = .put u pl tx) ∨ inV (.str wd.word) [.str "off", .str "on", .str "none"] = true ∨
    (V.str wd.word ≠ V.str "put" ∧ inV (.str wd.word) [.str "off", .str "on", .str "none"] = false ∧ ∃ nv r' n, r = nv :: r' ∧ NameIs H nv (nk n) ∧
      ((∃ u pl, wd = .move n u pl) ∨ (∃ m, wd = .join n m) ∨ (∃ a pl, wd = .part n a pl) ∨
       (V.str wd.word ≠ V.str "move" ∧ V.str wd.word ≠ V.str "join" ∧ V.str wd.word ≠ V.str "part" ∧ inV (.str wd.word) [.str "move", .str "join"] = false ∧ ∀ size, lawWord size wd = orWord (n3 n) false false))) := by
  cases wd with
  | put u pl tx => exact .inl ⟨u, pl, tx, rfl⟩
  | off k => exact .inr (.inl rfl)
  | on k => exact .inr (.inl rfl)
  | none => exact .inr (.inl rfl)
  | move n u pl => obtain ⟨nv, uv, pv, e, hn, _⟩ := h; exact .inr (.inr ⟨by simp only [Wd.word, ne_eq]; decide +kernel, rfl, nv, _, n, e, hn, .inl ⟨u, pl, rfl⟩⟩)
  | join n m => obtain ⟨nv, mv, e, hn, _⟩ := h; exact .inr (.inr ⟨by simp only [Wd.word, ne_eq]; decide +kernel, rfl, nv, _, n, e, hn, .inr (.inl ⟨m, rfl⟩)⟩)
  | part n a pl => obtain ⟨nv, pv, e, hn, _⟩ := h; exact .inr (.inr ⟨by simp only [Wd.word, ne_eq]; decide +kernel, rfl, nv, _, n, e, hn, .inr (.inr (.inl ⟨a, pl, rfl⟩))⟩)
  | write n tx => obtain ⟨nv, e, hn⟩ := h; exact .inr (.inr ⟨by simp only [Wd.word, ne_eq]; decide +kernel, rfl, nv, _, n, e, hn, .inr (.inr (.inr ⟨by simp only [Wd.word, ne_eq]; decide +kernel, by simp only [Wd.word, ne_eq]; decide +kernel, by simp only [Wd.word, ne_eq]; decide +kernel, rfl, fun _ => rfl⟩))⟩)
  | mark n tx => obtain ⟨nv, e, hn⟩ := h; exact .inr (.inr ⟨by simp only [Wd.word, ne_eq]; decide +kernel, rfl, nv, _, n, e, hn, .inr (.inr (.inr ⟨by simp only [Wd.word, ne_eq]; decide +kernel, by simp only [Wd.word, ne_eq]; decide +kernel, by simp only [Wd.word, ne_eq]; decide +kernel, rfl, fun _ => rfl⟩))⟩)
  | due n tx => obtain ⟨nv, e, hn⟩ := h; exact .inr (.inr ⟨by simp only [Wd.word, ne_eq]; decide +kernel, rfl, nv, _, n, e, hn, .inr (.inr (.inr ⟨by simp only [Wd.word, ne_eq]; decide +kernel, by simp only [Wd.word, ne_eq]; decide +kernel, by simp only [Wd.word, ne_eq]; decide +kernel, rfl, fun _ => rfl⟩))⟩)
  | fold n tx => obtain ⟨nv, e, hn⟩ := h; exact .inr (.inr ⟨by simp only [Wd.word, ne_eq]; decide +kernel, rfl, nv, _, n, e, hn, .inr (.inr (.inr ⟨by simp only [Wd.word, ne_eq]; decide +kernel, by simp only [Wd.word, ne_eq]; decide +kernel, by simp only [Wd.word, ne_eq]; decide +kernel, rfl, fun _ => rfl⟩))⟩)
  | take n => obtain ⟨nv, e, hn⟩ := h; exact .inr (.inr ⟨by simp only [Wd.word, ne_eq]; decide +kernel, rfl, nv, _, n, e, hn, .inr (.inr (.inr ⟨by simp only [Wd.word, ne_eq]; decide +kernel, by simp only [Wd.word, ne_eq]; decide +kernel, by simp only [Wd.word, ne_eq]; decide +kernel, rfl, fun _ => rfl⟩))⟩)
  | back n => obtain ⟨nv, e, hn⟩ := h; exact .inr (.inr ⟨by simp only [Wd.word, ne_eq]; decide +kernel, rfl, nv, _, n, e, hn, .inr (.inr (.inr ⟨by simp only [Wd.word, ne_eq]; decide +kernel, by simp only [Wd.word, ne_eq]; decide +kernel, by simp only [Wd.word, ne_eq]; decide +kernel, rfl, fun _ => rfl⟩))⟩)
theorem word3 {wd : Wd} (h : inV (.str wd.word) [.str "off", .str "on", .str "none"] = true) : V.str wd.word ≠ V.str "put" ∧ ∀ size, lawWord size wd = "done" := by
  rw [in_word3] at h
  cases wd <;> first | exact ⟨by simp only [Wd.word, ne_eq]; decide +kernel, fun _ => rfl⟩ | cases h
abbrev s_word : Stmt := top 34
abbrev N_word : List Str := ["_law_what_here", "_law_size"]
theorem sc_word : FnScope N_word ["_law_what_here", "_law_size"] (defScope s_word) := ⟨rfl, rfl, rfl, by decide +kernel, rfl, by decide +kernel, by decide +kernel⟩
theorem ok_word {f : Addr} {fd : FuncData} (F : Fun K "_law_word" "_law_word" s_word f fd) (F_under : Fn P w K mg base 1 "_law_under" ["_law_one", "_law_other"] spUnderL) (z_int : mg "int" = none) : FnOk P w K mg base CX0 2 f fd ["_law_what_here", "_law_size"] spWord := by
  refine F.okQ sc_word (fun vs H Q E h => ?_) (fun cdv A outer s H vs Q E hr h => ?_)
  · obtain ⟨wa, wd, here, size, rfl, _⟩ := h
    rfl
  obtain ⟨wa, wd, here, size, rfl, ⟨r, h5, h6⟩, ok, q⟩ := h
  refine ⟨_, (b_c (s_if (t_cmp o_eq (q_ix x_tup (q_v 0) q_int) q_str) (b_1 (s_ret (q_ix x_list (q_lst (q_a q_str (q_a q_str q_a0))) (q_Ty c_int z_int boot_int (q_a (q_cmp (o_eqD hr.units) (q_ix x_tup (q_v 0) q_int) (q_tup (q_a q_int (q_a q_int q_a0)))) q_a0))))) b_0)
      (b_c (s_if (t_cmp (o_inQ (K := K) rfl) (q_ix x_tup (q_v 0) q_int) (q_tup (q_a q_str (q_a q_str (q_a q_str q_a0))))) (b_1 (s_ret q_str)) b_0)
      (b_c (s_if (t_w (w_or (t_cmp (o_eqD hr.units) (q_ix x_tup (q_v 0) q_int) (q_tup (q_a q_int (q_a q_int q_a0)))) (w_or1 (t_w (w_and (t_cmp (o_inQ (K := K) rfl) (q_ix x_tup (q_v 0) q_int) (q_tup (q_a q_str (q_a q_str q_a0)))) (w_and1 (t_cmp (o_eqD hr.units) (q_ix x_tup (q_v 0) q_int) (q_tup (q_a q_int (q_a q_int q_a0)))))))))) (b_1 (s_ret q_str)) b_0)
      (b_c (s_if (t_w (w_and (t_cmp o_eq (q_ix x_tup (q_v 0) q_int) q_str) (w_and (t_cmp o_notN (q_ix x_tup (q_v 0) q_int) q_non) (w_and1 (t_val (q_fn F_under (hr.mono (by decide)) (q_a (q_ix x_tup (q_v 0) q_int) (q_a (q_ix x_tup (q_v 0) q_int) q_a0)))))))) (b_1 (s_ret q_str)) b_0)
      (b_c (s_if (t_w (w_and (t_cmp o_eq (q_ix x_tup (q_v 0) q_int) q_str) (w_and1 (t_val (q_fn F_under (hr.mono (by decide)) (q_a (q_ix x_tup (q_v 0) q_int) (q_a (q_ix x_tup (q_v 0) q_int) q_a0))))))) (b_1 (s_ret q_str)) b_0)
      (b_c (s_if (t_w (w_and (t_cmp o_eq (q_ix x_tup (q_v 0) q_int) q_str) (w_and1 (t_cmp o_gt (q_ix x_tup (q_v 0) q_int) (q_v 1))))) (b_1 (s_ret q_str)) b_0)
      (b_1 (s_ret q_str)))))))), ?_⟩
  have e5 := SqT.of (K := K) h5
  rcases wd_named h6 with ⟨u, pl, tx, rfl⟩ | h3 | ⟨n1, n2, nv, r', n, rfl, hn, hk⟩
  · -- put
    obtain ⟨uv, pv, rfl, hu, _⟩ := h6
    refine ⟨_, rfl, wa, _, _, _, rfl, rfl, e5, at0, rfl, _, rfl, iteS ?_⟩
    refine ⟨size63 (Nat.le_of_ble_eq_true rfl), fun l gl => ?_⟩
    have wl := same_new gl (.lst [.str "done", .str "top"])
    refine ⟨_, rfl, wa, _, _, _, rfl, rfl, SqT.of (wl _ _ h5), at1, size63 (Nat.le_of_ble_eq_true rfl), fun t gt => ?_⟩
    have wt := same_new gt (.tup [.int 0, .int 3])
    have sm := wl.trans wt
    refine ⟨upD u, nmD (0, 3), up_dt (hu.ts (Same.ts sm)), nm_dt (n := (0, 3)) ⟨t, rfl, upd_same⟩, up_shaped _, nm_shaped _, .inr ⟨_, rfl, ?_⟩⟩
    rw [eqv_up]
    have q' := q _ sm
    have e1 : lawWord size (.put u pl tx) = if u = some (0, 3) then ("top" : Str) else ("done" : Str) := rfl
    rw [e1] at q'
    by_cases c : u = some (0, 3)
    · rw [if_pos c] at q'
      rw [decide_eq_true c]
      exact ⟨l, _, _, _, rfl, rfl, SqL.of (wt _ _ upd_same), at1, q'⟩
    · rw [if_neg c] at q'
      rw [decide_eq_false c]
      exact ⟨l, _, _, _, rfl, rfl, SqL.of (wt _ _ upd_same), at0, q'⟩
  · -- off, on, none
    obtain ⟨n1, hw⟩ := word3 h3
    refine ⟨_, rfl, wa, _, _, _, rfl, rfl, e5, at0, rfl, _, rfl, iteU n1 ?_⟩
    refine ⟨_, rfl, wa, _, _, _, rfl, rfl, e5, at0, size63 (Nat.le_of_ble_eq_true rfl), fun t gt => ?_⟩
    refine ⟨t, _, rfl, .inr (SqT.of upd_same), rfl, rfl, _, rfl, ?_⟩
    have ei : (if false = true then !inV (V.str wd.word) [.str "off", .str "on", .str "none"] else inV (V.str wd.word) [.str "off", .str "on", .str "none"]) = true := h3
    rw [ei]
    have q' := q _ (same_new gt (.tup [.str "off", .str "on", .str "none"]))
    rw [hw] at q'
    exact iteT q'
  · refine ⟨_, rfl, wa, _, _, _, rfl, rfl, e5, at0, rfl, _, rfl, iteU n1 ?_⟩
    refine ⟨_, rfl, wa, _, _, _, rfl, rfl, e5, at0, size63 (Nat.le_of_ble_eq_true rfl), fun t gt => ?_⟩
    have wt := same_new gt (.tup [.str "off", .str "on", .str "none"])
    refine ⟨t, _, rfl, .inr (SqT.of upd_same), rfl, rfl, _, rfl, ?_⟩
    have ei : (if false = true then !inV (V.str wd.word) [.str "off", .str "on", .str "none"] else inV (V.str wd.word) [.str "off", .str "on", .str "none"]) = false := n2
    rw [ei]
    refine iteF ?_
    -- the name is no one's
    refine ⟨_, rfl, wa, _, _, _, rfl, rfl, SqT.of (wt _ _ h5), at1, size63 (Nat.le_of_ble_eq_true rfl), fun t2 gt2 => ?_⟩
    have wt2 := same_new gt2 (.tup [.int 0, .int 3])
    have s2 := wt.trans wt2
    refine ⟨nmD n, nmD (0, 3), nm_dt (hn.same s2), nm_dt (n := (0, 3)) ⟨t2, rfl, upd_same⟩, nm_shaped _, nm_shaped _, _, rfl, ?_⟩
    rw [eqv_nm]
    have e52 := SqT.of (K := K) (s2 _ _ h5)
    by_cases c : n = (0, 3)
    · rw [decide_eq_true c]
      have hw : lawWord size wd = "none" := by
        subst c
        rcases hk with ⟨u, pl, rfl⟩ | ⟨m, rfl⟩ | ⟨a, pl, rfl⟩ | ⟨_, _, _, _, hl⟩
        · rfl
        · rfl
        · rfl
        · exact hl size
      have q' := q _ s2
      rw [hw] at q'
      exact iteT (iteT q')
    · rw [decide_eq_false c]
      have cn : n3 n = false := decide_eq_false c
      refine iteF ?_
      refine ⟨_, rfl, wa, _, _, _, rfl, rfl, e52, at0, size63 (Nat.le_of_ble_eq_true rfl), fun t3 gt3 => ?_⟩
      have wt3 := same_new gt3 (.tup [.str "move", .str "join"])
      have s3 := s2.trans wt3
      have e53 := SqT.of (K := K) (s3 _ _ h5)
      refine ⟨t3, _, rfl, .inr (SqT.of upd_same), rfl, rfl, _, rfl, ?_⟩
      rcases hk with ⟨u, pl, rfl⟩ | ⟨m, rfl⟩ | ⟨a, pl, rfl⟩ | ⟨w1, w2, w3, w4, hl⟩
      · -- move
        obtain ⟨nv', uv, pv, er, hn', hu, _⟩ := h6
        cases er
        refine iteT ?_
        refine ⟨_, rfl, wa, _, _, _, rfl, rfl, e53, at2, size63 (Nat.le_of_ble_eq_true rfl), fun t4 gt4 => ?_⟩
        have wt4 := same_new gt4 (.tup [.int 0, .int 3])
        have s4 := s3.trans wt4
        have e54 := SqT.of (K := K) (s4 _ _ h5)
        have hw : lawWord size (.move n u pl) = orWord (decide (u = some (0, 3))) (underB u n) false := by
          show orWord (n3 n || decide (u = some (0, 3))) (underB u n) false = _
          rw [cn, Bool.false_or]
        refine ⟨upD u, nmD (0, 3), up_dt (hu.ts (Same.ts s4)), nm_dt (n := (0, 3)) ⟨t4, rfl, upd_same⟩, up_shaped _, nm_shaped _, _, rfl, ?_⟩
        rw [eqv_up]
        have q4 := fun H' (z : Same (upd (upd (upd (upd H t (.tup [.str "off", .str "on", .str "none"])) t2 (.tup [.int 0, .int 3])) t3 (.tup [.str "move", .str "join"])) t4 (.tup [.int 0, .int 3])) H') => q H' (s4.trans z)
        rw [hw] at q4
        by_cases c2 : u = some (0, 3)
        · rw [decide_eq_true c2] at q4 ⊢
          exact iteT (q4 _ (Same.refl _))
        · rw [decide_eq_false c2] at q4 ⊢
          refine iteF ?_
          have rest : ∀ H', Same (upd (upd (upd (upd H t (.tup [.str "off", .str "on", .str "none"])) t2 (.tup [.int 0, .int 3])) t3 (.tup [.str "move", .str "join"])) t4 (.tup [.int 0, .int 3])) H' → SqT K H' wa (.str "move" :: nv :: uv :: [pv]) := fun H' z => SqT.of (z _ _ (s4 _ _ h5))
          refine ⟨_, rfl, wa, _, _, _, rfl, rfl, e54, at0, rfl, _, rfl, iteS ?_⟩
          refine ⟨_, rfl, wa, _, _, _, rfl, rfl, e54, at2, rfl, _, rfl, ?_⟩
          cases u with
          | none =>
            obtain rfl : uv = .non := hu
            refine iteNS rfl (iteF ?_)
            refine ⟨_, rfl, wa, _, _, _, rfl, rfl, e54, at0, rfl, _, rfl, iteU (by simp only [Wd.word, ne_eq]; decide +kernel) (iteF ?_)⟩
            exact ⟨_, rfl, wa, _, _, _, rfl, rfl, e54, at0, rfl, _, rfl, iteU (by simp only [Wd.word, ne_eq]; decide +kernel) (iteF (q4 _ (Same.refl _)))⟩
          | some m =>
            obtain ⟨mb, rfl, hmb⟩ := id hu
            refine iteNN (by intro z; cases z) ?_
            refine ⟨_, rfl, wa, _, _, _, rfl, rfl, e54, at2, _, rfl, wa, _, _, _, rfl, rfl, e54, at1, _, _, m, n, rfl, ⟨mb, rfl, s4 _ _ hmb⟩, hn.same s4, fun H' z => ⟨_, rfl, ?_⟩⟩
            have q5 := q4 H' z
            have e55 := SqT.of (K := K) (z _ _ (s4 _ _ h5))
            cases cu : underB (some m) n with
            | true =>
              rw [cu] at q5
              exact iteT q5
            | false =>
              rw [cu] at q5
              refine iteF ?_
              refine ⟨_, rfl, wa, _, _, _, rfl, rfl, e55, at0, rfl, _, rfl, iteU (by simp only [Wd.word, ne_eq]; decide +kernel) (iteF ?_)⟩
              exact ⟨_, rfl, wa, _, _, _, rfl, rfl, e55, at0, rfl, _, rfl, iteU (by simp only [Wd.word, ne_eq]; decide +kernel) (iteF q5)⟩
      · -- join
        obtain ⟨nv', mv, er, hn', hm⟩ := h6
        cases er
        refine iteT ?_
        refine ⟨_, rfl, wa, _, _, _, rfl, rfl, e53, at2, size63 (Nat.le_of_ble_eq_true rfl), fun t4 gt4 => ?_⟩
        have wt4 := same_new gt4 (.tup [.int 0, .int 3])
        have s4 := s3.trans wt4
        have e54 := SqT.of (K := K) (s4 _ _ h5)
        have hw : lawWord size (.join n m) = orWord (n3 m) (underB (some n) m) false := by
          show orWord (n3 n || n3 m) (underB (some n) m) false = _
          rw [cn, Bool.false_or]
        refine ⟨nmD m, nmD (0, 3), nm_dt (hm.same s4), nm_dt (n := (0, 3)) ⟨t4, rfl, upd_same⟩, nm_shaped _, nm_shaped _, _, rfl, ?_⟩
        rw [eqv_nm]
        by_cases c2 : m = (0, 3)
        · have q4 := q _ s4
          rw [hw, show n3 m = true from decide_eq_true c2] at q4
          rw [decide_eq_true c2]
          exact iteT q4
        · rw [decide_eq_false c2]
          rw [show n3 m = false from decide_eq_false c2] at hw
          refine iteF ?_
          refine ⟨_, rfl, wa, _, _, _, rfl, rfl, e54, at0, rfl, _, rfl, iteU (by simp only [Wd.word, ne_eq]; decide +kernel) (iteF ?_)⟩
          refine ⟨_, rfl, wa, _, _, _, rfl, rfl, e54, at0, rfl, _, rfl, iteS ?_⟩
          refine ⟨_, rfl, wa, _, _, _, rfl, rfl, e54, at1, _, rfl, wa, _, _, _, rfl, rfl, e54, at2, _, _, n, m, rfl, hn.same s4, hm.same s4, fun H' z => ⟨_, rfl, ?_⟩⟩
          have q5 := q H' (s4.trans z)
          rw [hw] at q5
          have e55 := SqT.of (K := K) (z _ _ (s4 _ _ h5))
          cases cu : underB (some n) m with
          | true =>
            rw [cu] at q5
            exact iteT q5
          | false =>
            rw [cu] at q5
            refine iteF ?_
            exact ⟨_, rfl, wa, _, _, _, rfl, rfl, e55, at0, rfl, _, rfl, iteU (by simp only [Wd.word, ne_eq]; decide +kernel) (iteF q5)⟩
      · -- part
        obtain ⟨nv', pv, er, hn', _⟩ := h6
        cases er
        refine iteF (iteF ?_)
        refine ⟨_, rfl, wa, _, _, _, rfl, rfl, e53, at0, rfl, _, rfl, iteU (by simp only [Wd.word, ne_eq]; decide +kernel) (iteF ?_)⟩
        refine ⟨_, rfl, wa, _, _, _, rfl, rfl, e53, at0, rfl, _, rfl, iteU (by simp only [Wd.word, ne_eq]; decide +kernel) (iteF ?_)⟩
        refine ⟨_, rfl, wa, _, _, _, rfl, rfl, e53, at0, rfl, _, rfl, iteS ?_⟩
        refine ⟨_, rfl, wa, _, _, _, rfl, rfl, e53, at2, _, rfl, _, _, rfl, rfl, _, rfl, ?_⟩
        have q3 := q _ s3
        have hw : lawWord size (.part n a pl) = orWord false false (decide (size < a)) := by
          show orWord (n3 n) false (decide (size < a)) = _
          rw [cn]
        rw [hw] at q3
        refine iteD (fun c2 => ?_) (fun c2 => ?_)
        · rw [decide_eq_true (by omega : size < a)] at q3
          exact q3
        · rw [decide_eq_false (by omega : ¬ size < a)] at q3
          exact q3
      · -- the others
        have ei2 : (if false = true then !inV (V.str wd.word) [.str "move", .str "join"] else inV (V.str wd.word) [.str "move", .str "join"]) = false := w4
        rw [ei2]
        refine iteF (iteF ?_)
        refine ⟨_, rfl, wa, _, _, _, rfl, rfl, e53, at0, rfl, _, rfl, iteU w1 (iteF ?_)⟩
        refine ⟨_, rfl, wa, _, _, _, rfl, rfl, e53, at0, rfl, _, rfl, iteU w2 (iteF ?_)⟩
        have q3 := q _ s3
        rw [hl size, cn] at q3
        exact ⟨_, rfl, wa, _, _, _, rfl, rfl, e53, at0, rfl, _, rfl, iteU w3 (iteF q3)⟩
theorem or_cases (a b c : Bool) : (orWord a b c = "done" ∧ inV (.str (orWord a b c)) [.str "done", .str "top"] = true) ∨ (orWord a b c ≠ "done" ∧ inV (.str (orWord a b c)) [.str "done", .str "top"] = false) := by
  cases a <;> cases b <;> cases c <;> first | exact .inl ⟨rfl, rfl⟩ | exact .inr ⟨by unfold orWord; decide +kernel, rfl⟩
theorem or_top (a b c : Bool) : V.str (orWord a b c) ≠ V.str "top" := by
  cases a <;> cases b <;> cases c <;> (unfold orWord; decide +kernel)
/-- kinds of what is done, for the law's steps -/
theorem wd_steps {H : Hp} {wa : Addr} {wd : Wd} (h : WhAt H wa wd) (size : Int) : (inV (.str wd.word) [.str "take", .str "back", .str "off", .str "on", .str "none"] = true ∧ lawStep size wd = none) ∨
    (inV (.str wd.word) [.str "take", .str "back", .str "off", .str "on", .str "none"] = false ∧ ((∃ u pl tx, wd = .put u pl tx) ∨
      ((∃ a b c, lawWord size wd = orWord a b c) ∧ V.str wd.word ≠ V.str "put" ∧ lawStep size wd = (if lawWord size wd = "done" then sdOf (1, 2) wd else none) ∧
        ((∃ n a pl, wd = .part n a pl) ∨ (V.str wd.word ≠ V.str "part" ∧ ∃ s, sdOf (1, 2) wd = some s ∧ StAt H wa s))))) := by
  have key : ∀ {s : Sd}, (∀ u pl tx, wd ≠ .put u pl tx) → (∀ n a pl, wd ≠ .part n a pl) → sdOf (1, 2) wd = some s → StAt H wa s := fun h1 h2 hs => st_other h1 h2 hs h
  cases wd with
  | put u pl tx => exact .inr ⟨rfl, .inl ⟨u, pl, tx, rfl⟩⟩
  | part n a pl => exact .inr ⟨rfl, .inr ⟨⟨_, _, _, rfl⟩, by simp only [Wd.word, ne_eq]; decide +kernel, rfl, .inl ⟨n, a, pl, rfl⟩⟩⟩
  | take n => exact .inl ⟨rfl, by show (if _ then none else none) = none; split <;> rfl⟩
  | back n => exact .inl ⟨rfl, by show (if _ then none else none) = none; split <;> rfl⟩
  | off n => exact .inl ⟨rfl, rfl⟩
  | on n => exact .inl ⟨rfl, rfl⟩
  | none => exact .inl ⟨rfl, rfl⟩
  | _ => exact .inr ⟨rfl, .inr ⟨⟨_, _, _, rfl⟩, by simp only [Wd.word, ne_eq]; decide +kernel, rfl, .inr ⟨by simp only [Wd.word, ne_eq]; decide +kernel, _, rfl, key (fun _ _ _ z => nomatch z) (fun _ _ _ z => nomatch z) rfl⟩⟩⟩
def oneStep : Option Sd → List (Nm × Sd)
  | none => []
  | some s => [((1, 2), s)]
def spStepsL : Sp := fun vs H Q _ => ∃ (wa : Addr) (wd : Wd) (size : Int), vs = [.ref wa, .str (lawWord size wd)] ∧ WhAt H wa wd ∧ ∀ a ys H', Same H H' → H' a = some (.lst ys) → Paired (SsAt H') ys (oneStep (lawStep size wd)) → Q (.ref a) H'
abbrev s_steps : Stmt := top 35
abbrev N_steps : List Str := ["_law_what_here", "_law_word_here"]
theorem sc_steps : FnScope N_steps ["_law_what_here", "_law_word_here"] (defScope s_steps) := ⟨rfl, rfl, rfl, by decide +kernel, rfl, by decide +kernel, by decide +kernel⟩
theorem ok_steps {f : Addr} {fd : FuncData} (F : Fun K "_law_steps" "_law_steps" s_steps f fd) : FnOk P w K mg base CX0 1 f fd ["_law_what_here", "_law_word_here"] spStepsL := by
  refine F.okQ sc_steps (fun vs H Q E h => ?_) (fun cdv A outer s H vs Q E hr h => ?_)
  · obtain ⟨wa, wd, size, rfl, _⟩ := h
    rfl
  obtain ⟨wa, wd, size, rfl, hw, q⟩ := h
  obtain ⟨r, h5, h6⟩ := id hw
  refine ⟨_, (b_c (s_if (t_w (w_or (t_cmp (o_inQ (K := K) rfl) (q_ix x_tup (q_v 0) q_int) (q_tup (q_a q_str (q_a q_str (q_a q_str (q_a q_str (q_a q_str q_a0))))))) (w_or1 (t_cmp (o_notInQ (K := K) rfl) (q_v 1) (q_tup (q_a q_str (q_a q_str q_a0))))))) (b_1 (s_ret (q_lst q_a0))) b_0)
      (b_c (s_if (t_cmp o_eq (q_v 1) q_str) (b_1 (s_ret (q_lst (q_a (q_tup (q_a (q_tup (q_a q_int (q_a q_int q_a0))) (q_a (q_tup (q_a q_str (q_a (q_tup (q_a q_int (q_a q_int q_a0))) (q_a q_non (q_a (q_ix x_tup (q_v 0) q_int) (q_a (q_ix x_tup (q_v 0) q_int) q_a0)))))) q_a0))) q_a0)))) b_0)
      (b_c (s_if (t_cmp o_eq (q_ix x_tup (q_v 0) q_int) q_str) (b_1 (s_ret (q_lst (q_a (q_tup (q_a (q_tup (q_a q_int (q_a q_int q_a0))) (q_a (q_op o_catS (q_tup (q_a q_str (q_a (q_tup (q_a q_int (q_a q_int q_a0))) q_a0))) (q_sl l_tupS (q_v 0) (q_o1 q_int) q_o0)) q_a0))) q_a0)))) b_0)
      (b_c (s_if (t_cmp o_eq (q_ix x_tup (q_v 0) q_int) q_str) (b_1 (s_ret (q_lst (q_a (q_tup (q_a (q_tup (q_a q_int (q_a q_int q_a0))) (q_a (q_tup (q_a q_str (q_a (q_ix x_tup (q_v 0) q_int) (q_a (q_ix x_tup (q_v 0) q_int) (q_a (q_tup (q_a q_int (q_a q_int q_a0))) (q_a (q_ix x_tup (q_v 0) q_int) q_a0)))))) q_a0))) q_a0)))) b_0)
      (b_1 (s_ret (q_lst (q_a (q_tup (q_a (q_tup (q_a q_int (q_a q_int q_a0))) (q_a (q_v 0) q_a0))) q_a0)))))))), ?_⟩
  have e5 := SqT.of (K := K) h5
  refine ⟨_, rfl, wa, _, _, _, rfl, rfl, e5, at0, size63 (Nat.le_of_ble_eq_true rfl), fun t gt => ?_⟩
  have wt := same_new gt (.tup [.str "take", .str "back", .str "off", .str "on", .str "none"])
  refine ⟨t, _, rfl, .inr (SqT.of upd_same), rfl, rfl, _, rfl, ?_⟩
  rcases wd_steps hw size with ⟨i1, l1⟩ | ⟨i1, hk⟩
  · have ei : (if false = true then !inV (V.str wd.word) [.str "take", .str "back", .str "off", .str "on", .str "none"] else inV (V.str wd.word) [.str "take", .str "back", .str "off", .str "on", .str "none"]) = true := i1
    rw [ei]
    refine iteT (iteT ⟨size63 (Nat.le_of_ble_eq_true rfl), fun l gl => q l [] _ (wt.trans (same_new gl _)) upd_same ?_⟩)
    rw [l1]
    exact .nil
  have ei : (if false = true then !inV (V.str wd.word) [.str "take", .str "back", .str "off", .str "on", .str "none"] else inV (V.str wd.word) [.str "take", .str "back", .str "off", .str "on", .str "none"]) = false := i1
  rw [ei]
  refine iteF ?_
  refine ⟨_, rfl, size63 (Nat.le_of_ble_eq_true rfl), fun t2 gt2 => ?_⟩
  have wt2 := same_new gt2 (.tup [.str "done", .str "top"])
  have s2 := wt.trans wt2
  refine ⟨t2, _, rfl, .inr (SqT.of upd_same), rfl, rfl, _, rfl, ?_⟩
  have h52 := s2 _ _ h5
  generalize upd (upd H t (.tup [.str "take", .str "back", .str "off", .str "on", .str "none"])) t2 (.tup [.str "done", .str "top"]) = H2 at s2 h52 ⊢
  have e52 := SqT.of (K := K) h52
  rcases hk with ⟨u, pl, tx, rfl⟩ | ⟨⟨b1, b2, b3, hor⟩, np, ls, hk⟩
  · -- put
    obtain ⟨uv, pv, rfl, hu, hp⟩ := h6
    have lw : lawWord size (.put u pl tx) = if u = some (0, 3) then ("top" : Str) else ("done" : Str) := rfl
    have lst : lawStep size (.put u pl tx) = some (.put (1, 2) (if u = some (0, 3) then none else u) pl tx) := rfl
    rw [lst] at q
    by_cases c : u = some (0, 3)
    · rw [if_pos c] at q
      rw [lw, if_pos c]
      refine iteF ?_
      refine ⟨_, rfl, rfl, _, rfl, iteS ?_⟩
      refine ⟨size63 (Nat.le_of_ble_eq_true rfl), fun a1 g1 => ⟨size63 (Nat.le_of_ble_eq_true rfl), fun a2 g2 => ?_⟩⟩
      have v1 := same_new g1 (.tup [.int 1, .int 2])
      have v2 := same_new g2 (.tup [.int 1, .int 2])
      have e54 := SqT.of (K := K) (v2 _ _ (v1 _ _ h52))
      refine ⟨_, rfl, wa, _, _, _, rfl, rfl, e54, at2, _, rfl, wa, _, _, _, rfl, rfl, e54, at3, size63 (Nat.le_of_ble_eq_true rfl), fun st gs => ⟨size63 (Nat.le_of_ble_eq_true rfl), fun a4 g4 => ⟨size63 (Nat.le_of_ble_eq_true rfl), fun l gl => ?_⟩⟩⟩
      have v3 := same_new gs (.tup [.str "put", .ref a2, .non, pv, .str tx])
      have v4 := same_new g4 (.tup [.ref a1, .ref st])
      have v5 := same_new gl (.lst [.ref a4])
      have sm := s2.trans (v1.trans (v2.trans (v3.trans (v4.trans v5))))
      refine q l [.ref a4] _ sm upd_same (.cons ⟨a4, st, .ref a1, rfl, v5 _ _ upd_same, ⟨a1, rfl, v5 _ _ (v4 _ _ (v3 _ _ (v2 _ _ upd_same)))⟩, .ref a2, .non, pv, v5 _ _ (v4 _ _ upd_same), ⟨a2, rfl, v5 _ _ (v4 _ _ (v3 _ _ upd_same))⟩, rfl, hp.ts (Same.ts sm)⟩ .nil)
    · rw [if_neg c] at q
      rw [lw, if_neg c]
      refine iteF ?_
      refine ⟨_, rfl, rfl, _, rfl, iteU (by decide +kernel) ?_⟩
      refine ⟨_, rfl, wa, _, _, _, rfl, rfl, e52, at0, rfl, _, rfl, iteS ?_⟩
      refine ⟨size63 (Nat.le_of_ble_eq_true rfl), fun a1 g1 => ⟨size63 (Nat.le_of_ble_eq_true rfl), fun a2 g2 => ⟨size63 (Nat.le_of_ble_eq_true rfl), fun a3 g3 => ?_⟩⟩⟩
      have v1 := same_new g1 (.tup [.int 1, .int 2])
      have v2 := same_new g2 (.tup [.int 1, .int 2])
      have v3 := same_new g3 (.tup [.str "put", .ref a2])
      refine ⟨_, rfl, _, rfl, wa, _, rfl, v3 _ _ (v2 _ _ (v1 _ _ h52)), fun z H3 s3 e3 => ⟨a3, z, _, _, rfl, rfl, s3 _ _ upd_same, e3, size63 (Nat.le_of_ble_eq_true rfl), fun st H4 s4 e4 => ⟨size63 (Nat.le_of_ble_eq_true rfl), fun a4 g4 => ⟨size63 (Nat.le_of_ble_eq_true rfl), fun l gl => ?_⟩⟩⟩⟩
      have v4 := same_new g4 (.tup [.ref a1, .ref st])
      have v5 := same_new gl (.lst [.ref a4])
      have s25 := v3.trans (s3.trans (s4.trans (v4.trans v5)))
      have sm := s2.trans (v1.trans (v2.trans s25))
      refine q l [.ref a4] _ sm upd_same (.cons ⟨a4, st, .ref a1, rfl, v5 _ _ upd_same, ⟨a1, rfl, s25 _ _ (v2 _ _ upd_same)⟩, .ref a2, uv, pv, v5 _ _ (v4 _ _ e4), ⟨a2, rfl, s25 _ _ upd_same⟩, hu.ts (Same.ts sm), hp.ts (Same.ts sm)⟩ .nil)
  · rw [hor]
    rw [ls, hor] at q
    rcases or_cases b1 b2 b3 with ⟨od, oi⟩ | ⟨od, oi⟩
    · have en : (if true = true then !inV (V.str (orWord b1 b2 b3)) [.str "done", .str "top"] else inV (V.str (orWord b1 b2 b3)) [.str "done", .str "top"]) = false := by
        rw [if_pos rfl, oi]
        rfl
      rw [en]
      rw [if_pos od] at q
      refine iteF ?_
      refine ⟨_, rfl, rfl, _, rfl, iteU (or_top b1 b2 b3) ?_⟩
      refine ⟨_, rfl, wa, _, _, _, rfl, rfl, e52, at0, rfl, _, rfl, iteU np ?_⟩
      rcases hk with ⟨n, a, pl, rfl⟩ | ⟨np2, sd, hs, hst⟩
      · obtain ⟨nv, pv, rfl, hn, hp⟩ := h6
        refine ⟨_, rfl, wa, _, _, _, rfl, rfl, e52, at0, rfl, _, rfl, iteS ?_⟩
        refine ⟨size63 (Nat.le_of_ble_eq_true rfl), fun a1 g1 => ?_⟩
        have v1 := same_new g1 (.tup [.int 1, .int 2])
        have e53 := SqT.of (K := K) (v1 _ _ h52)
        refine ⟨_, rfl, wa, _, _, _, rfl, rfl, e53, at1, _, rfl, wa, _, _, _, rfl, rfl, e53, at2, size63 (Nat.le_of_ble_eq_true rfl), fun a2 g2 => ?_⟩
        have v2 := same_new g2 (.tup [.int 1, .int 2])
        refine ⟨_, rfl, wa, _, _, _, rfl, rfl, SqT.of (v2 _ _ (v1 _ _ h52)), at3, size63 (Nat.le_of_ble_eq_true rfl), fun st gs => ⟨size63 (Nat.le_of_ble_eq_true rfl), fun a4 g4 => ⟨size63 (Nat.le_of_ble_eq_true rfl), fun l gl => ?_⟩⟩⟩
        have v3 := same_new gs (.tup [.str "part", nv, .int a, .ref a2, pv])
        have v4 := same_new g4 (.tup [.ref a1, .ref st])
        have v5 := same_new gl (.lst [.ref a4])
        have sm := s2.trans (v1.trans (v2.trans (v3.trans (v4.trans v5))))
        refine q l [.ref a4] _ sm upd_same (.cons ⟨a4, st, .ref a1, rfl, v5 _ _ upd_same, ⟨a1, rfl, v5 _ _ (v4 _ _ (v3 _ _ (v2 _ _ upd_same)))⟩, nv, .ref a2, pv, v5 _ _ (v4 _ _ upd_same), hn.same sm, ⟨a2, rfl, v5 _ _ (v4 _ _ (v3 _ _ upd_same))⟩, hp.ts (Same.ts sm)⟩ .nil)
      · rw [hs] at q
        refine ⟨_, rfl, wa, _, _, _, rfl, rfl, e52, at0, rfl, _, rfl, iteU np2 ?_⟩
        refine ⟨size63 (Nat.le_of_ble_eq_true rfl), fun a1 g1 => ⟨_, rfl, size63 (Nat.le_of_ble_eq_true rfl), fun a4 g4 => ⟨size63 (Nat.le_of_ble_eq_true rfl), fun l gl => ?_⟩⟩⟩
        have v1 := same_new g1 (.tup [.int 1, .int 2])
        have v4 := same_new g4 (.tup [.ref a1, .ref wa])
        have v5 := same_new gl (.lst [.ref a4])
        have sm := s2.trans (v1.trans (v4.trans v5))
        exact q l [.ref a4] _ sm upd_same (.cons ⟨a4, wa, .ref a1, rfl, v5 _ _ upd_same, ⟨a1, rfl, v5 _ _ (v4 _ _ upd_same)⟩, hst.ts (Same.ts sm)⟩ .nil)
    · have en : (if true = true then !inV (V.str (orWord b1 b2 b3)) [.str "done", .str "top"] else inV (V.str (orWord b1 b2 b3)) [.str "done", .str "top"]) = true := by
        rw [if_pos rfl, oi]
        rfl
      rw [en]
      rw [if_neg od] at q
      refine iteT ⟨size63 (Nat.le_of_ble_eq_true rfl), fun l gl => q l [] _ (s2.trans (same_new gl _)) upd_same .nil⟩
theorem dt_nil {H : Hp} {p : Addr} (h : H p = some (.lst [])) : Dt H (.list []) (.ref p) := by
  simp only [Dt, DtAll]
  exact ⟨p, _, rfl, .inl h, rfl⟩
def Da (H : Hp) (n : Nat) (v : V) : Prop := ∃ d, Dt H d v ∧ d.canLay0 = true ∧ d.depth ≤ n
theorem da_tup {H : Hp} {a : Addr} {vs : List V} {n : Nat} (h : H a = some (.tup vs)) (hv : ∀ v ∈ vs, Da H n v) : Da H (n + 1) (.ref a) := by
  have gen : ∃ ds, DtAll H ds vs ∧ PyData.canLayAll0 ds = true ∧ PyData.depthAll ds ≤ n := by
    clear h
    induction vs with
    | nil => exact ⟨[], da_nil, rfl, by simp [PyData.depthAll]⟩
    | cons v vs ih =>
      obtain ⟨ds, i1, i2, i3⟩ := ih fun x hx => hv x (List.mem_cons_of_mem _ hx)
      obtain ⟨d, h1, h2, h3⟩ := hv v List.mem_cons_self
      refine ⟨d :: ds, da_cons h1 i1, by simp [PyData.canLayAll0, h2, i2], ?_⟩
      simp only [PyData.depthAll]
      omega
  obtain ⟨ds, i1, i2, i3⟩ := gen
  exact ⟨.tuple ds, dt_list h i1, by simpa [PyData.canLay0] using i2, by simp only [PyData.depth]; omega⟩
theorem Da.mono {H : Hp} {n m : Nat} {v : V} (x : Da H n v) (h : n ≤ m) : Da H m v := by
  obtain ⟨d, h1, h2, h3⟩ := x
  exact ⟨d, h1, h2, by omega⟩
theorem da_int {H : Hp} (i : Int) (n : Nat) : Da H n (.int i) := ⟨_, dt_int i, rfl, by simp [PyData.depth]⟩
theorem da_bl {H : Hp} (b : Bool) (n : Nat) : Da H n (.bl b) := ⟨_, dt_bl b, rfl, by simp [PyData.depth]⟩
theorem da_str {H : Hp} {s : Str} (h : PyData.strOk s = true) (n : Nat) : Da H n (.str s) := ⟨_, dt_str s, by simpa [PyData.canLay0] using h, by simp [PyData.depth]⟩
theorem da_nm {H : Hp} {v : V} {n : Nm} (h : NameIs H v (nk n)) : Da H 1 v := ⟨_, nm_dt h, (lay_nm n).1, Nat.le_of_eq (lay_nm n).2⟩
theorem da_up {H : Hp} {v : V} {u : Option Nm} (h : UpAt H v u) : Da H 1 v := ⟨_, up_dt h, (lay_up u).1, (lay_up u).2⟩
theorem da_pl {H : Hp} {v : V} {ns : List Int} (h : PlAt H v ns) : Da H 1 v := ⟨_, pl_dt h, (lay_pl ns).1, Nat.le_of_eq (lay_pl ns).2⟩
theorem da_wh {H : Hp} (w : Option Int) : Da H 1 (whV w) := ⟨_, wh_dt w, (lay_wh w).1, by rw [(lay_wh w).2]; decide⟩
def Wd.ok : Wd → Prop
  | .put _ _ tx => PyData.strOk tx = true
  | .write _ tx => PyData.strOk tx = true
  | _ => True
theorem word_ok (wd : Wd) : PyData.strOk wd.word = true := by
  cases wd <;> (simp only [Wd.word]; decide +kernel)
theorem ok_of {here : Nm} {wd : Wd} (h : WdOk here wd) : wd.ok := by
  cases wd with
  | put => exact h.2
  | write => exact h.2
  | _ => trivial
theorem da_what {H : Hp} {wa : Addr} {wd : Wd} (h : WhAt H wa wd) (ok : wd.ok) : Da H 2 (.ref wa) := by
  obtain ⟨r, h5, h6⟩ := h
  refine da_tup h5 fun v hv => ?_
  rcases List.mem_cons.mp hv with rfl | hm
  · exact da_str (word_ok wd) 1
  cases wd with
  | put =>
    obtain ⟨uv, pv, rfl, a1, a2⟩ := h6
    simp only [List.mem_cons, List.not_mem_nil, or_false] at hm
    rcases hm with rfl | rfl | rfl
    · exact da_up a1
    · exact da_pl a2
    · exact da_str ok 1
  | move =>
    obtain ⟨nv, uv, pv, rfl, a0, a1, a2⟩ := h6
    simp only [List.mem_cons, List.not_mem_nil, or_false] at hm
    rcases hm with rfl | rfl | rfl
    · exact da_nm a0
    · exact da_up a1
    · exact da_pl a2
  | write =>
    obtain ⟨nv, rfl, a0⟩ := h6
    simp only [List.mem_cons, List.not_mem_nil, or_false] at hm
    rcases hm with rfl | rfl
    · exact da_nm a0
    · exact da_str ok 1
  | mark =>
    obtain ⟨nv, rfl, a0⟩ := h6
    simp only [List.mem_cons, List.not_mem_nil, or_false] at hm
    rcases hm with rfl | rfl
    · exact da_nm a0
    · exact da_bl _ 1
  | due =>
    obtain ⟨nv, rfl, a0⟩ := h6
    simp only [List.mem_cons, List.not_mem_nil, or_false] at hm
    rcases hm with rfl | rfl
    · exact da_nm a0
    · exact da_wh _
  | fold =>
    obtain ⟨nv, rfl, a0⟩ := h6
    simp only [List.mem_cons, List.not_mem_nil, or_false] at hm
    rcases hm with rfl | rfl
    · exact da_nm a0
    · exact da_bl _ 1
  | part =>
    obtain ⟨nv, pv, rfl, a0, a1⟩ := h6
    simp only [List.mem_cons, List.not_mem_nil, or_false] at hm
    rcases hm with rfl | rfl | rfl
    · exact da_nm a0
    · exact da_int _ 1
    · exact da_pl a1
  | join =>
    obtain ⟨nv, mv, rfl, a0, a1⟩ := h6
    simp only [List.mem_cons, List.not_mem_nil, or_false] at hm
    rcases hm with rfl | rfl
    · exact da_nm a0
    · exact da_nm a1
  | take =>
    obtain ⟨nv, rfl, a0⟩ := h6
    simp only [List.mem_cons, List.not_mem_nil, or_false] at hm
    subst hm; exact da_nm a0
  | back =>
    obtain ⟨nv, rfl, a0⟩ := h6
    simp only [List.mem_cons, List.not_mem_nil, or_false] at hm
    subst hm; exact da_nm a0
  | off =>
    obtain rfl := h6
    simp only [List.mem_cons, List.not_mem_nil, or_false] at hm
    subst hm; exact da_int _ 1
  | on =>
    obtain rfl := h6
    simp only [List.mem_cons, List.not_mem_nil, or_false] at hm
    subst hm; exact da_int _ 1
  | none => obtain rfl := h6; exact absurd hm (List.not_mem_nil)
theorem da_dd {H : Hp} {dd c wa : Addr} {i x y : Int} {wd : Wd} (h1 : H dd = some (.tup [.int i, .ref c, .ref wa])) (h2 : H c = some (.tup [.int x, .int y])) (h3 : WhAt H wa wd) (ok : wd.ok) : Da H 3 (.ref dd) := by
  refine da_tup h1 fun v hv => ?_
  simp only [List.mem_cons, List.not_mem_nil, or_false] at hv
  rcases hv with rfl | rfl | rfl
  · exact da_int _ 2
  · exact (da_tup (n := 0) h2 fun v hv => by
      simp only [List.mem_cons, List.not_mem_nil, or_false] at hv
      rcases hv with rfl | rfl <;> exact da_int _ 0).mono (by decide)
  · exact da_what h3 ok
theorem da_same {H : Hp} : ∀ {vs : List V}, (∀ v ∈ vs, Da H 3 v) → Paired (fun x y => ∃ d, Dt H d x ∧ Dt H d y ∧ d.canLay0 = true ∧ d.depth ≤ 3) vs vs
  | [], _ => .nil
  | v :: vs, h => by
    obtain ⟨d, h1, h2, h3⟩ := h v List.mem_cons_self
    exact .cons ⟨d, h1, h1, h2, h3⟩ (da_same fun x hx => h x (List.mem_cons_of_mem _ hx))
theorem WhAt.ts {H H' : Hp} {wa : Addr} {wd : Wd} (x : WhAt H wa wd) (s : TS H H') : WhAt H' wa wd := by
  obtain ⟨r, h1, h2⟩ := x
  exact ⟨r, s _ _ h1, h2.ts s⟩
theorem rd_same {H H' : Hp} {a : Addr} {u : HO} (s : Same H H') (h : Rd H a u) : Rd H' a u := by
  rcases h with h | ⟨o, h⟩
  · exact .inl (s _ _ h)
  · exact .inr ⟨o, s _ _ h⟩
theorem paired_app {α β : Type} {R : α → β → Prop} {xs xs' : List α} {ys ys' : List β} (h : Paired R xs ys) (h' : Paired R xs' ys') : Paired R (xs ++ xs') (ys ++ ys') := by
  induction h with
  | nil => exact h'
  | cons r _ ih => exact .cons r ih
theorem law_ok (size : Int) (wd : Wd) : PyData.strOk (lawWord size wd) = true := by
  have key : ∀ a b c : Bool, PyData.strOk (orWord a b c) = true := fun a b c => by cases a <;> cases b <;> cases c <;> (unfold orWord; decide +kernel)
  cases wd with
  | put u pl tx =>
    show PyData.strOk (if u = some (0, 3) then ("top" : Str) else ("done" : Str)) = true
    split <;> decide +kernel
  | off k => show PyData.strOk "done" = true; decide +kernel
  | on k => show PyData.strOk "done" = true; decide +kernel
  | none => show PyData.strOk "done" = true; decide +kernel
  | _ => exact key _ _ _
theorem outs_ok {pl1 pl2 : List Int} {tx1 tx2 : Str} {b : Bool} {n : Nm} {w : Str} {so : Option Sd} (hw : PyData.strOk w = true) : ∀ r ∈ outs pl1 pl2 tx1 tx2 b ++ [((n, w, so) : Out)], PyData.strOk r.2.1 = true := by
  intro r hr
  have d : PyData.strOk "done" = true ∧ PyData.strOk "off" = true := by decide +kernel
  unfold outs at hr
  simp only [List.cons_append, List.nil_append, List.mem_cons, List.not_mem_nil, or_false] at hr
  rcases hr with rfl | rfl | rfl | rfl | rfl
  · exact d.1
  · show PyData.strOk (if b = true then ("off" : Str) else ("done" : Str)) = true
    split
    · exact d.2
    · exact d.1
  · exact d.1
  · exact d.1
  · exact hw
def rows2 (pl1 pl2 : List Int) (tx1 tx2 : Str) : List (Nm × Sd) := [((0, 1), .put (0, 1) none pl1 tx1), ((0, 2), .put (0, 2) (some (0, 1)) pl2 tx2)]
theorem steps_outs {pl1 pl2 : List Int} {tx1 tx2 : Str} {b : Bool} {w : Str} {so : Option Sd} : stepsIn (outs pl1 pl2 tx1 tx2 b ++ [(((1, 2), w, so) : Out)]) = rows2 pl1 pl2 tx1 tx2 ++ oneStep so := by
  cases so <;> rfl
theorem sd_ok {here n : Nm} {wd : Wd} {s : Sd} (h : WdOk here wd) (hs : sdOf n wd = some s) : s.ok := by
  cases wd <;> first | (cases hs; exact h.2) | (cases hs; trivial) | cases hs
theorem step_ok {here : Nm} {wd : Wd} {size : Int} {s : Sd} (h : WdOk here wd) (hs : lawStep size wd = some s) : s.ok := by
  by_cases hp : ∃ u pl tx, wd = .put u pl tx
  · obtain ⟨u, pl, tx, rfl⟩ := hp
    cases hs
    exact h.2
  · have e : lawStep size wd = if lawWord size wd = "done" then sdOf (1, 2) wd else none := by
      cases wd <;> first | rfl | exact absurd ⟨_, _, _, rfl⟩ hp
    rw [e] at hs
    split at hs
    · exact sd_ok h hs
    · cases hs
theorem rows_ok {here : Nm} {wd : Wd} {size : Int} {pl1 pl2 : List Int} {tx1 tx2 : Str} (h : WdOk here wd) (h1 : PyData.strOk tx1 = true) (h2 : PyData.strOk tx2 = true) : ∀ r ∈ rows2 pl1 pl2 tx1 tx2 ++ oneStep (lawStep size wd), r.2.ok := by
  intro r hr
  rcases List.mem_append.mp hr with hr | hr
  · unfold rows2 at hr
    simp only [List.mem_cons, List.not_mem_nil, or_false] at hr
    rcases hr with rfl | rfl
    · exact h1
    · exact h2
  · cases e : lawStep size wd with
    | none => rw [e] at hr; exact absurd hr (List.not_mem_nil)
    | some s =>
      rw [e] at hr
      obtain rfl := List.mem_singleton.mp hr
      exact step_ok h e
mutual
theorem dt_same {H H' : Hp} (s : Same H H') : ∀ (d : PyData) (v : V), Dt H d v → Dt H' d v
  | .none, v, h => by simpa only [Dt] using h
  | .bool b, v, h => by simpa only [Dt] using h
  | .int i, v, h => by simpa only [Dt] using h
  | .str x, v, h => by simpa only [Dt] using h
  | .list ds, v, h => by
    simp only [Dt] at h ⊢
    obtain ⟨a, xs, h1, h2, h3⟩ := h
    exact ⟨a, xs, h1, rd_same s h2, das_same s ds xs h3⟩
  | .tuple ds, v, h => by
    simp only [Dt] at h ⊢
    obtain ⟨a, xs, h1, h2, h3⟩ := h
    exact ⟨a, xs, h1, rd_same s h2, das_same s ds xs h3⟩
  | .dict _, v, h => by simp only [Dt] at h
theorem das_same {H H' : Hp} (s : Same H H') : ∀ (ds : List PyData) (vs : List V), DtAll H ds vs → DtAll H' ds vs
  | [], vs, h => by simpa only [DtAll] using h
  | d :: ds, vs, h => by
    simp only [DtAll] at h ⊢
    obtain ⟨y, ys, h1, h2, h3⟩ := h
    exact ⟨y, ys, h1, dt_same s d y h2, das_same s ds ys h3⟩
end
theorem Da.ts {H H' : Hp} {n : Nat} {v : V} (x : Da H n v) (s : Same H H') : Da H' n v := by
  obtain ⟨d, h1, h2, h3⟩ := x
  exact ⟨d, dt_same s d v h1, h2, h3⟩
abbrev s_law : Stmt := top 36
abbrev N_law : List Str := ["_law_script", "_law_first", "_law_second", "_law_size", "_law_what_here", "_law_deeds", "_law_word_here", "_law_due", "_law_rows", "_law_handed"]
theorem sc_law : FnScope N_law ["_law_script"] (defScope s_law) := ⟨rfl, rfl, rfl, by decide +kernel, rfl, by decide +kernel, by decide +kernel⟩
theorem ok_law {f : Addr} {fd : FuncData} (F : Fun K "law" "law" s_law f fd) (F_cell_at : Fn P w K mg base 1 "_law_cell_at" ["_law_script", "_law_k"] (spCell K)) (F_place : Fn P w K mg base 1 "_law_place" ["_law_cell"] spPlaceL) (F_text : Fn P w K mg base 1 "_law_text" ["_law_cell"] spTextL) (F_what : Fn P w K mg base 2 "_law_what" ["_law_script", "_law_size"] (spWhat K))
    (F_word : Fn P w K mg base 2 "_law_word" ["_law_what_here", "_law_size"] spWord) (F_steps : Fn P w K mg base 1 "_law_steps" ["_law_what_here", "_law_word_here"] spStepsL) (F_words_of : Fn P w K mg base 8 "words_of" ["ready"] spWords) (F_steps_of : Fn P w K mg base 8 "steps_of" ["ready"] spSteps)
    (z_len : mg "len" = none) (z_int : mg "int" = none) (z_list : mg "list" = none) : FnOk P w K mg base CX0 9 f fd ["_law_script"] (spLaw K) := by
  refine F.okQ sc_law (fun vs H Q E h => ?_) (fun cdv A outer s H vs Q E hr h => ?_)
  · obtain ⟨a, ns, rfl, _⟩ := h
    rfl
  obtain ⟨a, ns, rfl, hS, hlen, hq⟩ := h
  refine ⟨_, (b_c (s_set (i := 1) sc_law.nd (q_tup (q_a q_str (q_a q_non (q_a (q_fn F_place (hr.mono (by decide)) (q_a (q_fn F_cell_at (hr.mono (by decide)) (q_a (q_v 0) (q_a q_int q_a0))) q_a0)) (q_a (q_fn F_text (hr.mono (by decide)) (q_a (q_fn F_cell_at (hr.mono (by decide)) (q_a (q_v 0) (q_a q_int q_a0))) q_a0)) q_a0))))))
      (b_c (s_set (i := 2) sc_law.nd (q_tup (q_a q_str (q_a (q_tup (q_a q_int (q_a q_int q_a0))) (q_a (q_fn F_place (hr.mono (by decide)) (q_a (q_fn F_cell_at (hr.mono (by decide)) (q_a (q_v 0) (q_a q_int q_a0))) q_a0)) (q_a (q_fn F_text (hr.mono (by decide)) (q_a (q_fn F_cell_at (hr.mono (by decide)) (q_a (q_v 0) (q_a q_int q_a0))) q_a0)) q_a0))))))
      (b_c (s_set (i := 3) sc_law.nd (q_B c_lenS z_len PySem.boot_len (q_a (q_ix x_tup (q_ix x_list (q_lst (q_a (q_v 1) (q_a (q_v 2) q_a0))) (q_Ty c_int z_int boot_int (q_a (q_cmp o_eq (q_op o_mod (q_fn F_cell_at (hr.mono (by decide)) (q_a (q_v 0) (q_a q_int q_a0))) q_int) q_int) q_a0))) q_int) q_a0)))
      (b_c (s_set (i := 4) sc_law.nd (q_fn F_what (hr.mono (by decide)) (q_a (q_v 0) (q_a (q_v 3) q_a0))))
      (b_c (s_set (i := 5) sc_law.nd (q_lst (q_a (q_tup (q_a q_int (q_a (q_tup (q_a q_int (q_a q_int q_a0))) (q_a (q_v 1) q_a0)))) (q_a (q_tup (q_a q_int (q_a (q_tup (q_a q_int (q_a q_int q_a0))) (q_a (q_tup (q_a q_str q_a0)) q_a0)))) (q_a (q_tup (q_a q_int (q_a (q_tup (q_a q_int (q_a q_int q_a0))) (q_a (q_v 2) q_a0)))) (q_a (q_tup (q_a q_int (q_a (q_tup (q_a q_int (q_a q_int q_a0))) (q_a (q_tup (q_a q_str q_a0)) q_a0)))) q_a0))))))
      (b_c (s_expr (q_app (q_v 5) (q_tup (q_a q_int (q_a (q_tup (q_a q_int (q_a q_int q_a0))) (q_a (q_v 4) q_a0))))))
      (b_c (s_set (i := 6) sc_law.nd (q_fn F_word (hr.mono (by decide)) (q_a (q_v 4) (q_a (q_v 3) q_a0))))
      (b_c (s_set (i := 7) sc_law.nd (q_lst (q_a (q_tup (q_a (q_tup (q_a q_int (q_a q_int q_a0))) (q_a q_str q_a0))) (q_a (q_tup (q_a (q_tup (q_a q_int (q_a q_int q_a0))) (q_a q_str q_a0))) (q_a (q_tup (q_a (q_tup (q_a q_int (q_a q_int q_a0))) (q_a q_str q_a0))) (q_a (q_tup (q_a (q_tup (q_a q_int (q_a q_int q_a0))) (q_a q_str q_a0))) (q_a (q_tup (q_a (q_tup (q_a q_int (q_a q_int q_a0))) (q_a (q_v 6) q_a0))) q_a0)))))))
      (b_c (s_join (s_if (t_cmp o_eq (q_ix x_tup (q_v 4) q_int) q_str) (b_1 (s_asg (q_tup (q_a (q_tup (q_a q_int (q_a q_int q_a0))) (q_a q_str q_a0))) (g_sub (q_v 7) q_int set_l))) b_0))
      (b_c (s_set (i := 8) sc_law.nd (q_lst (q_a (q_tup (q_a (q_tup (q_a q_int (q_a q_int q_a0))) (q_a (q_op o_catS (q_tup (q_a q_str (q_a (q_tup (q_a q_int (q_a q_int q_a0))) q_a0))) (q_sl l_tupS (q_v 1) (q_o1 q_int) q_o0)) q_a0))) (q_a (q_tup (q_a (q_tup (q_a q_int (q_a q_int q_a0))) (q_a (q_op o_catS (q_tup (q_a q_str (q_a (q_tup (q_a q_int (q_a q_int q_a0))) q_a0))) (q_sl l_tupS (q_v 2) (q_o1 q_int) q_o0)) q_a0))) q_a0))))
      (b_c (s_set (i := 9) sc_law.nd (q_Ty c_list z_list boot_list (q_a (q_v 5) q_a0)))
      (b_c (s_if (t_w (w_or (t_cmp (o_neD hr.units) (q_fn F_words_of (hr.mono (by decide)) (q_a (q_v 9) q_a0)) (q_v 7)) (w_or (t_cmp (o_neD hr.units) (q_fn F_steps_of (hr.mono (by decide)) (q_a (q_v 9) q_a0)) (q_op o_cat (q_v 8) (q_fn F_steps (hr.mono (by decide)) (q_a (q_v 4) (q_a (q_v 6) q_a0))))) (w_or1 (t_cmp (o_neD hr.units) (q_v 9) (q_v 5)))))) (b_1 (s_ret q_bl)) b_0)
      (b_1 (s_ret (q_and (q_cmp (o_eqD hr.units) (q_ix x_list (q_fn F_words_of (hr.mono (by decide)) (q_a (q_sl l_list (q_v 5) q_o0 (q_o1 q_int)) q_a0)) q_int) (q_tup (q_a (q_tup (q_a q_int (q_a q_int q_a0))) (q_a q_str q_a0)))) (q_and (q_cmp (o_eqD hr.units) (q_fn F_words_of (hr.mono (by decide)) (q_a (q_lst q_a0) q_a0)) (q_lst q_a0)) (q_one (q_cmp (o_eqD hr.units) (q_fn F_steps_of (hr.mono (by decide)) (q_a (q_lst q_a0) q_a0)) (q_lst q_a0))))))))))))))))))), ?_⟩
  -- first
  refine ⟨_, rfl, a, ns, _, rfl, hS, by decide, _, rfl, fun p1 pl1 H1 s1 e1 => ⟨_, rfl, a, ns, _, rfl, s1.seq hS, by decide, _, rfl, fun tx1 H2 ok1 le1 s2 => ⟨size63 (Nat.le_of_ble_eq_true rfl), fun fa gfa => ?_⟩⟩⟩
  have v0 := same_new gfa (.tup [.str "put", .non, .ref p1, .str tx1])
  have sA := s1.trans (s2.trans v0)
  have xfa : upd H2 fa (.tup [.str "put", .non, .ref p1, .str tx1]) fa = some (.tup [.str "put", .non, .ref p1, .str tx1]) := upd_same
  have xp1 := v0 _ _ (s2 _ _ e1)
  generalize upd H2 fa (.tup [.str "put", .non, .ref p1, .str tx1]) = HA at sA xfa xp1 v0 ⊢
  clear v0 s1 s2 e1 gfa
  -- second
  refine ⟨size63 (Nat.le_of_ble_eq_true rfl), fun nb gnb => ?_⟩
  have v1 := same_new gnb (.tup [.int 0, .int 1])
  have sB0 := sA.trans v1
  refine ⟨_, rfl, a, ns, _, rfl, sB0.seq hS, by decide, _, rfl, fun p2 pl2 H3 s3 e3 => ⟨_, rfl, a, ns, _, rfl, (sB0.trans s3).seq hS, by decide, _, rfl, fun tx2 H4 ok2 le2 s4 => ⟨size63 (Nat.le_of_ble_eq_true rfl), fun sa gsa => ?_⟩⟩⟩
  have v2 := same_new gsa (.tup [.str "put", .ref nb, .ref p2, .str tx2])
  have sAB := v1.trans (s3.trans (s4.trans v2))
  have sB := sA.trans sAB
  have xsa : upd H4 sa (.tup [.str "put", .ref nb, .ref p2, .str tx2]) sa = some (.tup [.str "put", .ref nb, .ref p2, .str tx2]) := upd_same
  have xnb := v2 _ _ (s4 _ _ (s3 _ _ (upd_same (H := HA) (a := nb) (o := .tup [.int 0, .int 1]))))
  have xp2 := v2 _ _ (s4 _ _ e3)
  have yfa := sAB _ _ xfa
  have yp1 := sAB _ _ xp1
  generalize upd H4 sa (.tup [.str "put", .ref nb, .ref p2, .str tx2]) = HB at sB xsa xnb xp2 yfa yp1 sAB ⊢
  clear v1 v2 s3 s4 e3 gsa gnb sAB sB0 xfa xp1
  -- size
  obtain ⟨xa, r1, r2, txs, hat, hxa, lx, z1, z2⟩ : ∃ xa r1 r2 txs, atI [V.ref fa, .ref sa] (if decide (V.int (cellZ ns 1 % 3) = V.int 1) = true then 1 else 0) = some (.ref xa) ∧ HB xa = some (.tup [.str "put", r1, r2, .str txs]) ∧ txs.length ≤ 60 ∧ (here3 (cellZ ns 1) = (0, 1) → (txs.length : Int) = tx1.length) ∧ (here3 (cellZ ns 1) = (0, 2) → (txs.length : Int) = tx2.length) := by
    by_cases c : cellZ ns 1 % 3 = 1
    · refine ⟨sa, _, _, tx2, by rw [decide_eq_true (congrArg V.int c)]; exact at1, xsa, le2, fun z => ?_, fun _ => rfl⟩
      unfold here3 at z
      injection z with _ z
      omega
    · refine ⟨fa, _, _, tx1, by rw [decide_eq_false (fun z => c (V.int.inj z))]; exact at0, yfa, le1, fun _ => rfl, fun z => ?_⟩
      unfold here3 at z
      injection z with _ z
      omega
  refine ⟨_, rfl, _, rfl, size63 (Nat.le_of_ble_eq_true rfl), fun l2 gl2 => ?_⟩
  have v0 := same_new gl2 (.lst [.ref fa, .ref sa])
  refine ⟨_, rfl, a, ns, _, rfl, (sB.trans v0).seq hS, by decide, _, _, rfl, rfl, (by show (0 : Int) < 3; decide), rfl, .inr ⟨_, rfl, l2, _, _, _, rfl, rfl, SqL.of upd_same, hat, xa, _, _, _, rfl, rfl, SqT.of (v0 _ _ hxa), at3, txs, rfl, by omega, ?_⟩⟩
  clear v0
  have v0 := same_new gl2 (.lst [.ref fa, .ref sa])
  have sx := v0
  have sC := sB.trans sx
  have xsaC := sx _ _ xsa
  have xnbC := sx _ _ xnb
  have xp2C := sx _ _ xp2
  have yfaC := sx _ _ yfa
  have yp1C := sx _ _ yp1
  generalize (upd HB l2 (.lst [.ref fa, .ref sa])) = HC at sx sC xsaC xnbC xp2C yfaC yp1C ⊢
  clear v0 sx gl2
  -- what
  refine ⟨_, rfl, _, rfl, a, ns, _, rfl, sC.seq hS, by omega, fun wa wd HD sCD hw ok => ?_⟩
  have sD := sC.trans sCD
  -- deeds
  refine ⟨size63 (Nat.le_of_ble_eq_true rfl), fun c1 gc1 => ⟨_, rfl, size63 (Nat.le_of_ble_eq_true rfl), fun d1 gd1 => ⟨size63 (Nat.le_of_ble_eq_true rfl), fun c2 gc2 => ⟨size63 (Nat.le_of_ble_eq_true rfl), fun n2 gn2 => ⟨size63 (Nat.le_of_ble_eq_true rfl), fun d2 gd2 => ⟨size63 (Nat.le_of_ble_eq_true rfl), fun c3 gc3 => ⟨_, rfl, size63 (Nat.le_of_ble_eq_true rfl), fun d3 gd3 => ⟨size63 (Nat.le_of_ble_eq_true rfl), fun c4 gc4 => ⟨size63 (Nat.le_of_ble_eq_true rfl), fun n4 gn4 => ⟨size63 (Nat.le_of_ble_eq_true rfl), fun d4 gd4 => ⟨size63 (Nat.le_of_ble_eq_true rfl), fun ld gld => ?_⟩⟩⟩⟩⟩⟩⟩⟩⟩⟩⟩
  have v0 := same_new gc1 (.tup [.int 1, .int 0])
  have v1 := same_new gd1 (.tup [.int 0, .ref c1, .ref fa])
  have v2 := same_new gc2 (.tup [.int 0, .int 1])
  have v3 := same_new gn2 (.tup [.str "none"])
  have v4 := same_new gd2 (.tup [.int 1, .ref c2, .ref n2])
  have v5 := same_new gc3 (.tup [.int 2, .int 0])
  have v6 := same_new gd3 (.tup [.int 0, .ref c3, .ref sa])
  have v7 := same_new gc4 (.tup [.int 3, .int 0])
  have v8 := same_new gn4 (.tup [.str "none"])
  have v9 := same_new gd4 (.tup [.int 0, .ref c4, .ref n4])
  have v10 := same_new gld (.lst [.ref d1, .ref d2, .ref d3, .ref d4])
  have xc1 : (upd (upd (upd (upd (upd (upd (upd (upd (upd (upd (upd HD c1 (.tup [.int 1, .int 0])) d1 (.tup [.int 0, .ref c1, .ref fa])) c2 (.tup [.int 0, .int 1])) n2 (.tup [.str "none"])) d2 (.tup [.int 1, .ref c2, .ref n2])) c3 (.tup [.int 2, .int 0])) d3 (.tup [.int 0, .ref c3, .ref sa])) c4 (.tup [.int 3, .int 0])) n4 (.tup [.str "none"])) d4 (.tup [.int 0, .ref c4, .ref n4])) ld (.lst [.ref d1, .ref d2, .ref d3, .ref d4])) c1 = some (.tup [.int 1, .int 0]) := (v10 _ _ (v9 _ _ (v8 _ _ (v7 _ _ (v6 _ _ (v5 _ _ (v4 _ _ (v3 _ _ (v2 _ _ (v1 _ _ (upd_same (H := HD) (a := c1) (o := .tup [.int 1, .int 0]))))))))))))
  have xd1 : (upd (upd (upd (upd (upd (upd (upd (upd (upd (upd (upd HD c1 (.tup [.int 1, .int 0])) d1 (.tup [.int 0, .ref c1, .ref fa])) c2 (.tup [.int 0, .int 1])) n2 (.tup [.str "none"])) d2 (.tup [.int 1, .ref c2, .ref n2])) c3 (.tup [.int 2, .int 0])) d3 (.tup [.int 0, .ref c3, .ref sa])) c4 (.tup [.int 3, .int 0])) n4 (.tup [.str "none"])) d4 (.tup [.int 0, .ref c4, .ref n4])) ld (.lst [.ref d1, .ref d2, .ref d3, .ref d4])) d1 = some (.tup [.int 0, .ref c1, .ref fa]) := (v10 _ _ (v9 _ _ (v8 _ _ (v7 _ _ (v6 _ _ (v5 _ _ (v4 _ _ (v3 _ _ (v2 _ _ (upd_same (H := (upd HD c1 (.tup [.int 1, .int 0]))) (a := d1) (o := .tup [.int 0, .ref c1, .ref fa])))))))))))
  have xc2 : (upd (upd (upd (upd (upd (upd (upd (upd (upd (upd (upd HD c1 (.tup [.int 1, .int 0])) d1 (.tup [.int 0, .ref c1, .ref fa])) c2 (.tup [.int 0, .int 1])) n2 (.tup [.str "none"])) d2 (.tup [.int 1, .ref c2, .ref n2])) c3 (.tup [.int 2, .int 0])) d3 (.tup [.int 0, .ref c3, .ref sa])) c4 (.tup [.int 3, .int 0])) n4 (.tup [.str "none"])) d4 (.tup [.int 0, .ref c4, .ref n4])) ld (.lst [.ref d1, .ref d2, .ref d3, .ref d4])) c2 = some (.tup [.int 0, .int 1]) := (v10 _ _ (v9 _ _ (v8 _ _ (v7 _ _ (v6 _ _ (v5 _ _ (v4 _ _ (v3 _ _ (upd_same (H := (upd (upd HD c1 (.tup [.int 1, .int 0])) d1 (.tup [.int 0, .ref c1, .ref fa]))) (a := c2) (o := .tup [.int 0, .int 1]))))))))))
  have xn2 : (upd (upd (upd (upd (upd (upd (upd (upd (upd (upd (upd HD c1 (.tup [.int 1, .int 0])) d1 (.tup [.int 0, .ref c1, .ref fa])) c2 (.tup [.int 0, .int 1])) n2 (.tup [.str "none"])) d2 (.tup [.int 1, .ref c2, .ref n2])) c3 (.tup [.int 2, .int 0])) d3 (.tup [.int 0, .ref c3, .ref sa])) c4 (.tup [.int 3, .int 0])) n4 (.tup [.str "none"])) d4 (.tup [.int 0, .ref c4, .ref n4])) ld (.lst [.ref d1, .ref d2, .ref d3, .ref d4])) n2 = some (.tup [.str "none"]) := (v10 _ _ (v9 _ _ (v8 _ _ (v7 _ _ (v6 _ _ (v5 _ _ (v4 _ _ (upd_same (H := (upd (upd (upd HD c1 (.tup [.int 1, .int 0])) d1 (.tup [.int 0, .ref c1, .ref fa])) c2 (.tup [.int 0, .int 1]))) (a := n2) (o := .tup [.str "none"])))))))))
  have xd2 : (upd (upd (upd (upd (upd (upd (upd (upd (upd (upd (upd HD c1 (.tup [.int 1, .int 0])) d1 (.tup [.int 0, .ref c1, .ref fa])) c2 (.tup [.int 0, .int 1])) n2 (.tup [.str "none"])) d2 (.tup [.int 1, .ref c2, .ref n2])) c3 (.tup [.int 2, .int 0])) d3 (.tup [.int 0, .ref c3, .ref sa])) c4 (.tup [.int 3, .int 0])) n4 (.tup [.str "none"])) d4 (.tup [.int 0, .ref c4, .ref n4])) ld (.lst [.ref d1, .ref d2, .ref d3, .ref d4])) d2 = some (.tup [.int 1, .ref c2, .ref n2]) := (v10 _ _ (v9 _ _ (v8 _ _ (v7 _ _ (v6 _ _ (v5 _ _ (upd_same (H := (upd (upd (upd (upd HD c1 (.tup [.int 1, .int 0])) d1 (.tup [.int 0, .ref c1, .ref fa])) c2 (.tup [.int 0, .int 1])) n2 (.tup [.str "none"]))) (a := d2) (o := .tup [.int 1, .ref c2, .ref n2]))))))))
  have xc3 : (upd (upd (upd (upd (upd (upd (upd (upd (upd (upd (upd HD c1 (.tup [.int 1, .int 0])) d1 (.tup [.int 0, .ref c1, .ref fa])) c2 (.tup [.int 0, .int 1])) n2 (.tup [.str "none"])) d2 (.tup [.int 1, .ref c2, .ref n2])) c3 (.tup [.int 2, .int 0])) d3 (.tup [.int 0, .ref c3, .ref sa])) c4 (.tup [.int 3, .int 0])) n4 (.tup [.str "none"])) d4 (.tup [.int 0, .ref c4, .ref n4])) ld (.lst [.ref d1, .ref d2, .ref d3, .ref d4])) c3 = some (.tup [.int 2, .int 0]) := (v10 _ _ (v9 _ _ (v8 _ _ (v7 _ _ (v6 _ _ (upd_same (H := (upd (upd (upd (upd (upd HD c1 (.tup [.int 1, .int 0])) d1 (.tup [.int 0, .ref c1, .ref fa])) c2 (.tup [.int 0, .int 1])) n2 (.tup [.str "none"])) d2 (.tup [.int 1, .ref c2, .ref n2]))) (a := c3) (o := .tup [.int 2, .int 0])))))))
  have xd3 : (upd (upd (upd (upd (upd (upd (upd (upd (upd (upd (upd HD c1 (.tup [.int 1, .int 0])) d1 (.tup [.int 0, .ref c1, .ref fa])) c2 (.tup [.int 0, .int 1])) n2 (.tup [.str "none"])) d2 (.tup [.int 1, .ref c2, .ref n2])) c3 (.tup [.int 2, .int 0])) d3 (.tup [.int 0, .ref c3, .ref sa])) c4 (.tup [.int 3, .int 0])) n4 (.tup [.str "none"])) d4 (.tup [.int 0, .ref c4, .ref n4])) ld (.lst [.ref d1, .ref d2, .ref d3, .ref d4])) d3 = some (.tup [.int 0, .ref c3, .ref sa]) := (v10 _ _ (v9 _ _ (v8 _ _ (v7 _ _ (upd_same (H := (upd (upd (upd (upd (upd (upd HD c1 (.tup [.int 1, .int 0])) d1 (.tup [.int 0, .ref c1, .ref fa])) c2 (.tup [.int 0, .int 1])) n2 (.tup [.str "none"])) d2 (.tup [.int 1, .ref c2, .ref n2])) c3 (.tup [.int 2, .int 0]))) (a := d3) (o := .tup [.int 0, .ref c3, .ref sa]))))))
  have xc4 : (upd (upd (upd (upd (upd (upd (upd (upd (upd (upd (upd HD c1 (.tup [.int 1, .int 0])) d1 (.tup [.int 0, .ref c1, .ref fa])) c2 (.tup [.int 0, .int 1])) n2 (.tup [.str "none"])) d2 (.tup [.int 1, .ref c2, .ref n2])) c3 (.tup [.int 2, .int 0])) d3 (.tup [.int 0, .ref c3, .ref sa])) c4 (.tup [.int 3, .int 0])) n4 (.tup [.str "none"])) d4 (.tup [.int 0, .ref c4, .ref n4])) ld (.lst [.ref d1, .ref d2, .ref d3, .ref d4])) c4 = some (.tup [.int 3, .int 0]) := (v10 _ _ (v9 _ _ (v8 _ _ (upd_same (H := (upd (upd (upd (upd (upd (upd (upd HD c1 (.tup [.int 1, .int 0])) d1 (.tup [.int 0, .ref c1, .ref fa])) c2 (.tup [.int 0, .int 1])) n2 (.tup [.str "none"])) d2 (.tup [.int 1, .ref c2, .ref n2])) c3 (.tup [.int 2, .int 0])) d3 (.tup [.int 0, .ref c3, .ref sa]))) (a := c4) (o := .tup [.int 3, .int 0])))))
  have xn4 : (upd (upd (upd (upd (upd (upd (upd (upd (upd (upd (upd HD c1 (.tup [.int 1, .int 0])) d1 (.tup [.int 0, .ref c1, .ref fa])) c2 (.tup [.int 0, .int 1])) n2 (.tup [.str "none"])) d2 (.tup [.int 1, .ref c2, .ref n2])) c3 (.tup [.int 2, .int 0])) d3 (.tup [.int 0, .ref c3, .ref sa])) c4 (.tup [.int 3, .int 0])) n4 (.tup [.str "none"])) d4 (.tup [.int 0, .ref c4, .ref n4])) ld (.lst [.ref d1, .ref d2, .ref d3, .ref d4])) n4 = some (.tup [.str "none"]) := (v10 _ _ (v9 _ _ (upd_same (H := (upd (upd (upd (upd (upd (upd (upd (upd HD c1 (.tup [.int 1, .int 0])) d1 (.tup [.int 0, .ref c1, .ref fa])) c2 (.tup [.int 0, .int 1])) n2 (.tup [.str "none"])) d2 (.tup [.int 1, .ref c2, .ref n2])) c3 (.tup [.int 2, .int 0])) d3 (.tup [.int 0, .ref c3, .ref sa])) c4 (.tup [.int 3, .int 0]))) (a := n4) (o := .tup [.str "none"]))))
  have xd4 : (upd (upd (upd (upd (upd (upd (upd (upd (upd (upd (upd HD c1 (.tup [.int 1, .int 0])) d1 (.tup [.int 0, .ref c1, .ref fa])) c2 (.tup [.int 0, .int 1])) n2 (.tup [.str "none"])) d2 (.tup [.int 1, .ref c2, .ref n2])) c3 (.tup [.int 2, .int 0])) d3 (.tup [.int 0, .ref c3, .ref sa])) c4 (.tup [.int 3, .int 0])) n4 (.tup [.str "none"])) d4 (.tup [.int 0, .ref c4, .ref n4])) ld (.lst [.ref d1, .ref d2, .ref d3, .ref d4])) d4 = some (.tup [.int 0, .ref c4, .ref n4]) := (v10 _ _ (upd_same (H := (upd (upd (upd (upd (upd (upd (upd (upd (upd HD c1 (.tup [.int 1, .int 0])) d1 (.tup [.int 0, .ref c1, .ref fa])) c2 (.tup [.int 0, .int 1])) n2 (.tup [.str "none"])) d2 (.tup [.int 1, .ref c2, .ref n2])) c3 (.tup [.int 2, .int 0])) d3 (.tup [.int 0, .ref c3, .ref sa])) c4 (.tup [.int 3, .int 0])) n4 (.tup [.str "none"]))) (a := d4) (o := .tup [.int 0, .ref c4, .ref n4])))
  have xld : (upd (upd (upd (upd (upd (upd (upd (upd (upd (upd (upd HD c1 (.tup [.int 1, .int 0])) d1 (.tup [.int 0, .ref c1, .ref fa])) c2 (.tup [.int 0, .int 1])) n2 (.tup [.str "none"])) d2 (.tup [.int 1, .ref c2, .ref n2])) c3 (.tup [.int 2, .int 0])) d3 (.tup [.int 0, .ref c3, .ref sa])) c4 (.tup [.int 3, .int 0])) n4 (.tup [.str "none"])) d4 (.tup [.int 0, .ref c4, .ref n4])) ld (.lst [.ref d1, .ref d2, .ref d3, .ref d4])) ld = some (.lst [.ref d1, .ref d2, .ref d3, .ref d4]) := (upd_same (H := (upd (upd (upd (upd (upd (upd (upd (upd (upd (upd HD c1 (.tup [.int 1, .int 0])) d1 (.tup [.int 0, .ref c1, .ref fa])) c2 (.tup [.int 0, .int 1])) n2 (.tup [.str "none"])) d2 (.tup [.int 1, .ref c2, .ref n2])) c3 (.tup [.int 2, .int 0])) d3 (.tup [.int 0, .ref c3, .ref sa])) c4 (.tup [.int 3, .int 0])) n4 (.tup [.str "none"])) d4 (.tup [.int 0, .ref c4, .ref n4]))) (a := ld) (o := .lst [.ref d1, .ref d2, .ref d3, .ref d4]))
  have sx := v0.trans (v1.trans (v2.trans (v3.trans (v4.trans (v5.trans (v6.trans (v7.trans (v8.trans (v9.trans (v10))))))))))
  have sE := sD.trans sx
  have xsaD := sx _ _ (sCD _ _ xsaC)
  have xnbD := sx _ _ (sCD _ _ xnbC)
  have xp2D := sx _ _ (sCD _ _ xp2C)
  have yfaD := sx _ _ (sCD _ _ yfaC)
  have yp1D := sx _ _ (sCD _ _ yp1C)
  have hwE := WhAt.ts hw (Same.ts sx)
  have hld0 : H ld = none := (sD.trans (v0.trans (v1.trans (v2.trans (v3.trans (v4.trans (v5.trans (v6.trans (v7.trans (v8.trans v9)))))))))).free gld
  generalize (upd (upd (upd (upd (upd (upd (upd (upd (upd (upd (upd HD c1 (.tup [.int 1, .int 0])) d1 (.tup [.int 0, .ref c1, .ref fa])) c2 (.tup [.int 0, .int 1])) n2 (.tup [.str "none"])) d2 (.tup [.int 1, .ref c2, .ref n2])) c3 (.tup [.int 2, .int 0])) d3 (.tup [.int 0, .ref c3, .ref sa])) c4 (.tup [.int 3, .int 0])) n4 (.tup [.str "none"])) d4 (.tup [.int 0, .ref c4, .ref n4])) ld (.lst [.ref d1, .ref d2, .ref d3, .ref d4])) = HE at sx sE xc1 xd1 xc2 xn2 xd2 xc3 xd3 xc4 xn4 xd4 xld xsaD xnbD xp2D yfaD yp1D hwE ⊢
  clear v0 v1 v2 v3 v4 v5 v6 v7 v8 v9 v10 sx gc1 gd1 gc2 gn2 gd2 gc3 gd3 gc4 gn4 gd4 gld
  -- the fifth
  refine ⟨_, rfl, .inl ⟨rfl, _, SqL.of xld⟩, size63 (Nat.le_of_ble_eq_true rfl), fun c5 gc5 => ⟨_, rfl, size63 (Nat.le_of_ble_eq_true rfl), fun d5 gd5 => ?_⟩⟩
  have v0 := same_new gc5 (.tup [.int 3, .int 2])
  have v1 := same_new gd5 (.tup [.int 1, .ref c5, .ref wa])
  refine ⟨ld, _, _, rfl, rfl, v1 _ _ (v0 _ _ xld), small1000 (show 4 ≤ 1000 by decide), ?_⟩
  have tsF : TS HE (upd (upd (upd HE c5 (.tup [.int 3, .int 2])) d5 (.tup [.int 1, .ref c5, .ref wa])) ld (.lst ([.ref d1, .ref d2, .ref d3, .ref d4] ++ [.ref d5]))) := fun b zs e => by
    rw [upd_ne (ne_of e xld (by intro z; cases z))]
    exact v1 _ _ (v0 _ _ e)
  have sF : Same H (upd (upd (upd HE c5 (.tup [.int 3, .int 2])) d5 (.tup [.int 1, .ref c5, .ref wa])) ld (.lst ([.ref d1, .ref d2, .ref d3, .ref d4] ++ [.ref d5]))) := fun b o e => by
    rw [upd_ne (ne_of_none e hld0)]
    exact v1 _ _ (v0 _ _ (sE _ _ e))
  have xldF : upd (upd (upd HE c5 (.tup [.int 3, .int 2])) d5 (.tup [.int 1, .ref c5, .ref wa])) ld (.lst ([.ref d1, .ref d2, .ref d3, .ref d4] ++ [.ref d5])) ld = some (.lst [.ref d1, .ref d2, .ref d3, .ref d4, .ref d5]) := upd_same
  have xc5 : upd (upd (upd HE c5 (.tup [.int 3, .int 2])) d5 (.tup [.int 1, .ref c5, .ref wa])) ld (.lst ([.ref d1, .ref d2, .ref d3, .ref d4] ++ [.ref d5])) c5 = some (.tup [.int 3, .int 2]) := by
    rw [upd_ne (ne_of (v1 _ _ (upd_same (H := HE) (a := c5) (o := .tup [.int 3, .int 2]))) (v1 _ _ (v0 _ _ xld)) (by intro z; cases z))]
    exact v1 _ _ upd_same
  have xd5 : upd (upd (upd HE c5 (.tup [.int 3, .int 2])) d5 (.tup [.int 1, .ref c5, .ref wa])) ld (.lst ([.ref d1, .ref d2, .ref d3, .ref d4] ++ [.ref d5])) d5 = some (.tup [.int 1, .ref c5, .ref wa]) := by
    rw [upd_ne (ne_of (upd_same (H := upd HE c5 (.tup [.int 3, .int 2])) (a := d5) (o := .tup [.int 1, .ref c5, .ref wa])) (v1 _ _ (v0 _ _ xld)) (by intro z; cases z))]
    exact upd_same
  generalize upd (upd (upd HE c5 (.tup [.int 3, .int 2])) d5 (.tup [.int 1, .ref c5, .ref wa])) ld (.lst ([.ref d1, .ref d2, .ref d3, .ref d4] ++ [.ref d5])) = HF at tsF sF xldF xc5 xd5 ⊢
  clear v0 v1 gc5 gd5
  have hwF := WhAt.ts hwE tsF
  have W1 : WhAt HF fa (.put none pl1 tx1) := ⟨_, tsF _ _ yfaD, .non, .ref p1, rfl, rfl, p1, rfl, tsF _ _ yp1D⟩
  have W3 : WhAt HF sa (.put (some (0, 1)) pl2 tx2) := ⟨_, tsF _ _ xsaD, .ref nb, .ref p2, rfl, ⟨nb, rfl, tsF _ _ xnbD⟩, p2, rfl, tsF _ _ xp2D⟩
  have W2 : WhAt HF n2 .none := ⟨_, tsF _ _ xn2, rfl⟩
  have W4 : WhAt HF n4 .none := ⟨_, tsF _ _ xn4, rfl⟩
  have DDS : DdsAt HF [.ref d1, .ref d2, .ref d3, .ref d4, .ref d5] (ds5 pl1 pl2 tx1 tx2 wd) :=
    .cons ⟨d1, c1, fa, _, rfl, tsF _ _ xd1, tsF _ _ xc1, at0, W1⟩ (.cons ⟨d2, c2, n2, _, rfl, tsF _ _ xd2, tsF _ _ xc2, at1, W2⟩ (.cons ⟨d3, c3, sa, _, rfl, tsF _ _ xd3, tsF _ _ xc3, at0, W3⟩ (.cons ⟨d4, c4, n4, _, rfl, tsF _ _ xd4, tsF _ _ xc4, at0, W4⟩ (.cons ⟨d5, c5, wa, _, rfl, xd5, xc5, at1, hwF⟩ .nil))))
  have DAs : ∀ v ∈ [V.ref d1, .ref d2, .ref d3, .ref d4, .ref d5], Da HF 3 v := by
    intro v hv
    simp only [List.mem_cons, List.not_mem_nil, or_false] at hv
    rcases hv with rfl | rfl | rfl | rfl | rfl
    · exact da_dd (tsF _ _ xd1) (tsF _ _ xc1) W1 ok1
    · exact da_dd (tsF _ _ xd2) (tsF _ _ xc2) W2 trivial
    · exact da_dd (tsF _ _ xd3) (tsF _ _ xc3) W3 ok2
    · exact da_dd (tsF _ _ xd4) (tsF _ _ xc4) W4 trivial
    · exact da_dd xd5 xc5 hwF (ok_of ok)
  have DP : ∀ {H'}, TS HF H' → DdsAt H' [.ref d1, .ref d2, .ref d3, .ref d4, .ref d5] (ds5 pl1 pl2 tx1 tx2 wd) := fun z => DDS.ts z
  clear xc1 xd1 xc2 xn2 xd2 xc3 xd3 xc4 xn4 xd4 xld xc5 xd5 hwE hw xsaC xnbC xp2C yfaC yp1C
  obtain ⟨_, xfaF, _, _, e0, _, q0, xp1F⟩ := id W1
  -- word
  refine ⟨_, rfl, _, rfl, wa, wd, _, _, rfl, hwF, ok, fun HG sFG => ?_⟩
  -- due
  refine ⟨size63 (Nat.le_of_ble_eq_true rfl), fun m1 gm1 => ⟨size63 (Nat.le_of_ble_eq_true rfl), fun e1 ge1 => ⟨size63 (Nat.le_of_ble_eq_true rfl), fun m2 gm2 => ⟨size63 (Nat.le_of_ble_eq_true rfl), fun e2 ge2 => ⟨size63 (Nat.le_of_ble_eq_true rfl), fun m3 gm3 => ⟨size63 (Nat.le_of_ble_eq_true rfl), fun e3 ge3 => ⟨size63 (Nat.le_of_ble_eq_true rfl), fun m4 gm4 => ⟨size63 (Nat.le_of_ble_eq_true rfl), fun e4 ge4 => ⟨size63 (Nat.le_of_ble_eq_true rfl), fun m5 gm5 => ⟨_, rfl, size63 (Nat.le_of_ble_eq_true rfl), fun e5 ge5 => ⟨size63 (Nat.le_of_ble_eq_true rfl), fun lu glu => ?_⟩⟩⟩⟩⟩⟩⟩⟩⟩⟩⟩
  have v0 := same_new gm1 (.tup [.int 0, .int 1])
  have v1 := same_new ge1 (.tup [.ref m1, .str "done"])
  have v2 := same_new gm2 (.tup [.int 1, .int 1])
  have v3 := same_new ge2 (.tup [.ref m2, .str "done"])
  have v4 := same_new gm3 (.tup [.int 0, .int 2])
  have v5 := same_new ge3 (.tup [.ref m3, .str "done"])
  have v6 := same_new gm4 (.tup [.int 0, .int 3])
  have v7 := same_new ge4 (.tup [.ref m4, .str "done"])
  have v8 := same_new gm5 (.tup [.int 1, .int 2])
  have v9 := same_new ge5 (.tup [.ref m5, .str (lawWord (txs.length : Int) wd)])
  have v10 := same_new glu (.lst [.ref e1, .ref e2, .ref e3, .ref e4, .ref e5])
  have xm1 : (upd (upd (upd (upd (upd (upd (upd (upd (upd (upd (upd HG m1 (.tup [.int 0, .int 1])) e1 (.tup [.ref m1, .str "done"])) m2 (.tup [.int 1, .int 1])) e2 (.tup [.ref m2, .str "done"])) m3 (.tup [.int 0, .int 2])) e3 (.tup [.ref m3, .str "done"])) m4 (.tup [.int 0, .int 3])) e4 (.tup [.ref m4, .str "done"])) m5 (.tup [.int 1, .int 2])) e5 (.tup [.ref m5, .str (lawWord (txs.length : Int) wd)])) lu (.lst [.ref e1, .ref e2, .ref e3, .ref e4, .ref e5])) m1 = some (.tup [.int 0, .int 1]) := (v10 _ _ (v9 _ _ (v8 _ _ (v7 _ _ (v6 _ _ (v5 _ _ (v4 _ _ (v3 _ _ (v2 _ _ (v1 _ _ (upd_same (H := HG) (a := m1) (o := .tup [.int 0, .int 1]))))))))))))
  have xe1 : (upd (upd (upd (upd (upd (upd (upd (upd (upd (upd (upd HG m1 (.tup [.int 0, .int 1])) e1 (.tup [.ref m1, .str "done"])) m2 (.tup [.int 1, .int 1])) e2 (.tup [.ref m2, .str "done"])) m3 (.tup [.int 0, .int 2])) e3 (.tup [.ref m3, .str "done"])) m4 (.tup [.int 0, .int 3])) e4 (.tup [.ref m4, .str "done"])) m5 (.tup [.int 1, .int 2])) e5 (.tup [.ref m5, .str (lawWord (txs.length : Int) wd)])) lu (.lst [.ref e1, .ref e2, .ref e3, .ref e4, .ref e5])) e1 = some (.tup [.ref m1, .str "done"]) := (v10 _ _ (v9 _ _ (v8 _ _ (v7 _ _ (v6 _ _ (v5 _ _ (v4 _ _ (v3 _ _ (v2 _ _ (upd_same (H := (upd HG m1 (.tup [.int 0, .int 1]))) (a := e1) (o := .tup [.ref m1, .str "done"])))))))))))
  have xm2 : (upd (upd (upd (upd (upd (upd (upd (upd (upd (upd (upd HG m1 (.tup [.int 0, .int 1])) e1 (.tup [.ref m1, .str "done"])) m2 (.tup [.int 1, .int 1])) e2 (.tup [.ref m2, .str "done"])) m3 (.tup [.int 0, .int 2])) e3 (.tup [.ref m3, .str "done"])) m4 (.tup [.int 0, .int 3])) e4 (.tup [.ref m4, .str "done"])) m5 (.tup [.int 1, .int 2])) e5 (.tup [.ref m5, .str (lawWord (txs.length : Int) wd)])) lu (.lst [.ref e1, .ref e2, .ref e3, .ref e4, .ref e5])) m2 = some (.tup [.int 1, .int 1]) := (v10 _ _ (v9 _ _ (v8 _ _ (v7 _ _ (v6 _ _ (v5 _ _ (v4 _ _ (v3 _ _ (upd_same (H := (upd (upd HG m1 (.tup [.int 0, .int 1])) e1 (.tup [.ref m1, .str "done"]))) (a := m2) (o := .tup [.int 1, .int 1]))))))))))
  have xe2 : (upd (upd (upd (upd (upd (upd (upd (upd (upd (upd (upd HG m1 (.tup [.int 0, .int 1])) e1 (.tup [.ref m1, .str "done"])) m2 (.tup [.int 1, .int 1])) e2 (.tup [.ref m2, .str "done"])) m3 (.tup [.int 0, .int 2])) e3 (.tup [.ref m3, .str "done"])) m4 (.tup [.int 0, .int 3])) e4 (.tup [.ref m4, .str "done"])) m5 (.tup [.int 1, .int 2])) e5 (.tup [.ref m5, .str (lawWord (txs.length : Int) wd)])) lu (.lst [.ref e1, .ref e2, .ref e3, .ref e4, .ref e5])) e2 = some (.tup [.ref m2, .str "done"]) := (v10 _ _ (v9 _ _ (v8 _ _ (v7 _ _ (v6 _ _ (v5 _ _ (v4 _ _ (upd_same (H := (upd (upd (upd HG m1 (.tup [.int 0, .int 1])) e1 (.tup [.ref m1, .str "done"])) m2 (.tup [.int 1, .int 1]))) (a := e2) (o := .tup [.ref m2, .str "done"])))))))))
  have xm3 : (upd (upd (upd (upd (upd (upd (upd (upd (upd (upd (upd HG m1 (.tup [.int 0, .int 1])) e1 (.tup [.ref m1, .str "done"])) m2 (.tup [.int 1, .int 1])) e2 (.tup [.ref m2, .str "done"])) m3 (.tup [.int 0, .int 2])) e3 (.tup [.ref m3, .str "done"])) m4 (.tup [.int 0, .int 3])) e4 (.tup [.ref m4, .str "done"])) m5 (.tup [.int 1, .int 2])) e5 (.tup [.ref m5, .str (lawWord (txs.length : Int) wd)])) lu (.lst [.ref e1, .ref e2, .ref e3, .ref e4, .ref e5])) m3 = some (.tup [.int 0, .int 2]) := (v10 _ _ (v9 _ _ (v8 _ _ (v7 _ _ (v6 _ _ (v5 _ _ (upd_same (H := (upd (upd (upd (upd HG m1 (.tup [.int 0, .int 1])) e1 (.tup [.ref m1, .str "done"])) m2 (.tup [.int 1, .int 1])) e2 (.tup [.ref m2, .str "done"]))) (a := m3) (o := .tup [.int 0, .int 2]))))))))
  have xe3 : (upd (upd (upd (upd (upd (upd (upd (upd (upd (upd (upd HG m1 (.tup [.int 0, .int 1])) e1 (.tup [.ref m1, .str "done"])) m2 (.tup [.int 1, .int 1])) e2 (.tup [.ref m2, .str "done"])) m3 (.tup [.int 0, .int 2])) e3 (.tup [.ref m3, .str "done"])) m4 (.tup [.int 0, .int 3])) e4 (.tup [.ref m4, .str "done"])) m5 (.tup [.int 1, .int 2])) e5 (.tup [.ref m5, .str (lawWord (txs.length : Int) wd)])) lu (.lst [.ref e1, .ref e2, .ref e3, .ref e4, .ref e5])) e3 = some (.tup [.ref m3, .str "done"]) := (v10 _ _ (v9 _ _ (v8 _ _ (v7 _ _ (v6 _ _ (upd_same (H := (upd (upd (upd (upd (upd HG m1 (.tup [.int 0, .int 1])) e1 (.tup [.ref m1, .str "done"])) m2 (.tup [.int 1, .int 1])) e2 (.tup [.ref m2, .str "done"])) m3 (.tup [.int 0, .int 2]))) (a := e3) (o := .tup [.ref m3, .str "done"])))))))
  have xm4 : (upd (upd (upd (upd (upd (upd (upd (upd (upd (upd (upd HG m1 (.tup [.int 0, .int 1])) e1 (.tup [.ref m1, .str "done"])) m2 (.tup [.int 1, .int 1])) e2 (.tup [.ref m2, .str "done"])) m3 (.tup [.int 0, .int 2])) e3 (.tup [.ref m3, .str "done"])) m4 (.tup [.int 0, .int 3])) e4 (.tup [.ref m4, .str "done"])) m5 (.tup [.int 1, .int 2])) e5 (.tup [.ref m5, .str (lawWord (txs.length : Int) wd)])) lu (.lst [.ref e1, .ref e2, .ref e3, .ref e4, .ref e5])) m4 = some (.tup [.int 0, .int 3]) := (v10 _ _ (v9 _ _ (v8 _ _ (v7 _ _ (upd_same (H := (upd (upd (upd (upd (upd (upd HG m1 (.tup [.int 0, .int 1])) e1 (.tup [.ref m1, .str "done"])) m2 (.tup [.int 1, .int 1])) e2 (.tup [.ref m2, .str "done"])) m3 (.tup [.int 0, .int 2])) e3 (.tup [.ref m3, .str "done"]))) (a := m4) (o := .tup [.int 0, .int 3]))))))
  have xe4 : (upd (upd (upd (upd (upd (upd (upd (upd (upd (upd (upd HG m1 (.tup [.int 0, .int 1])) e1 (.tup [.ref m1, .str "done"])) m2 (.tup [.int 1, .int 1])) e2 (.tup [.ref m2, .str "done"])) m3 (.tup [.int 0, .int 2])) e3 (.tup [.ref m3, .str "done"])) m4 (.tup [.int 0, .int 3])) e4 (.tup [.ref m4, .str "done"])) m5 (.tup [.int 1, .int 2])) e5 (.tup [.ref m5, .str (lawWord (txs.length : Int) wd)])) lu (.lst [.ref e1, .ref e2, .ref e3, .ref e4, .ref e5])) e4 = some (.tup [.ref m4, .str "done"]) := (v10 _ _ (v9 _ _ (v8 _ _ (upd_same (H := (upd (upd (upd (upd (upd (upd (upd HG m1 (.tup [.int 0, .int 1])) e1 (.tup [.ref m1, .str "done"])) m2 (.tup [.int 1, .int 1])) e2 (.tup [.ref m2, .str "done"])) m3 (.tup [.int 0, .int 2])) e3 (.tup [.ref m3, .str "done"])) m4 (.tup [.int 0, .int 3]))) (a := e4) (o := .tup [.ref m4, .str "done"])))))
  have xm5 : (upd (upd (upd (upd (upd (upd (upd (upd (upd (upd (upd HG m1 (.tup [.int 0, .int 1])) e1 (.tup [.ref m1, .str "done"])) m2 (.tup [.int 1, .int 1])) e2 (.tup [.ref m2, .str "done"])) m3 (.tup [.int 0, .int 2])) e3 (.tup [.ref m3, .str "done"])) m4 (.tup [.int 0, .int 3])) e4 (.tup [.ref m4, .str "done"])) m5 (.tup [.int 1, .int 2])) e5 (.tup [.ref m5, .str (lawWord (txs.length : Int) wd)])) lu (.lst [.ref e1, .ref e2, .ref e3, .ref e4, .ref e5])) m5 = some (.tup [.int 1, .int 2]) := (v10 _ _ (v9 _ _ (upd_same (H := (upd (upd (upd (upd (upd (upd (upd (upd HG m1 (.tup [.int 0, .int 1])) e1 (.tup [.ref m1, .str "done"])) m2 (.tup [.int 1, .int 1])) e2 (.tup [.ref m2, .str "done"])) m3 (.tup [.int 0, .int 2])) e3 (.tup [.ref m3, .str "done"])) m4 (.tup [.int 0, .int 3])) e4 (.tup [.ref m4, .str "done"]))) (a := m5) (o := .tup [.int 1, .int 2]))))
  have xe5 : (upd (upd (upd (upd (upd (upd (upd (upd (upd (upd (upd HG m1 (.tup [.int 0, .int 1])) e1 (.tup [.ref m1, .str "done"])) m2 (.tup [.int 1, .int 1])) e2 (.tup [.ref m2, .str "done"])) m3 (.tup [.int 0, .int 2])) e3 (.tup [.ref m3, .str "done"])) m4 (.tup [.int 0, .int 3])) e4 (.tup [.ref m4, .str "done"])) m5 (.tup [.int 1, .int 2])) e5 (.tup [.ref m5, .str (lawWord (txs.length : Int) wd)])) lu (.lst [.ref e1, .ref e2, .ref e3, .ref e4, .ref e5])) e5 = some (.tup [.ref m5, .str (lawWord (txs.length : Int) wd)]) := (v10 _ _ (upd_same (H := (upd (upd (upd (upd (upd (upd (upd (upd (upd HG m1 (.tup [.int 0, .int 1])) e1 (.tup [.ref m1, .str "done"])) m2 (.tup [.int 1, .int 1])) e2 (.tup [.ref m2, .str "done"])) m3 (.tup [.int 0, .int 2])) e3 (.tup [.ref m3, .str "done"])) m4 (.tup [.int 0, .int 3])) e4 (.tup [.ref m4, .str "done"])) m5 (.tup [.int 1, .int 2]))) (a := e5) (o := .tup [.ref m5, .str (lawWord (txs.length : Int) wd)])))
  have xlu : (upd (upd (upd (upd (upd (upd (upd (upd (upd (upd (upd HG m1 (.tup [.int 0, .int 1])) e1 (.tup [.ref m1, .str "done"])) m2 (.tup [.int 1, .int 1])) e2 (.tup [.ref m2, .str "done"])) m3 (.tup [.int 0, .int 2])) e3 (.tup [.ref m3, .str "done"])) m4 (.tup [.int 0, .int 3])) e4 (.tup [.ref m4, .str "done"])) m5 (.tup [.int 1, .int 2])) e5 (.tup [.ref m5, .str (lawWord (txs.length : Int) wd)])) lu (.lst [.ref e1, .ref e2, .ref e3, .ref e4, .ref e5])) lu = some (.lst [.ref e1, .ref e2, .ref e3, .ref e4, .ref e5]) := (upd_same (H := (upd (upd (upd (upd (upd (upd (upd (upd (upd (upd HG m1 (.tup [.int 0, .int 1])) e1 (.tup [.ref m1, .str "done"])) m2 (.tup [.int 1, .int 1])) e2 (.tup [.ref m2, .str "done"])) m3 (.tup [.int 0, .int 2])) e3 (.tup [.ref m3, .str "done"])) m4 (.tup [.int 0, .int 3])) e4 (.tup [.ref m4, .str "done"])) m5 (.tup [.int 1, .int 2])) e5 (.tup [.ref m5, .str (lawWord (txs.length : Int) wd)]))) (a := lu) (o := .lst [.ref e1, .ref e2, .ref e3, .ref e4, .ref e5]))
  have sx := v0.trans (v1.trans (v2.trans (v3.trans (v4.trans (v5.trans (v6.trans (v7.trans (v8.trans (v9.trans (v10))))))))))
  have sFH := sFG.trans sx
  have hlu0 : HF lu = none := (sFG.trans (v0.trans (v1.trans (v2.trans (v3.trans (v4.trans (v5.trans (v6.trans (v7.trans (v8.trans (v9))))))))))).free glu
  generalize (upd (upd (upd (upd (upd (upd (upd (upd (upd (upd (upd HG m1 (.tup [.int 0, .int 1])) e1 (.tup [.ref m1, .str "done"])) m2 (.tup [.int 1, .int 1])) e2 (.tup [.ref m2, .str "done"])) m3 (.tup [.int 0, .int 2])) e3 (.tup [.ref m3, .str "done"])) m4 (.tup [.int 0, .int 3])) e4 (.tup [.ref m4, .str "done"])) m5 (.tup [.int 1, .int 2])) e5 (.tup [.ref m5, .str (lawWord (txs.length : Int) wd)])) lu (.lst [.ref e1, .ref e2, .ref e3, .ref e4, .ref e5])) = HH at sx sFH xm1 xe1 xm2 xe2 xm3 xe3 xm4 xe4 xm5 xe5 xlu ⊢
  clear v0 v1 v2 v3 v4 v5 v6 v7 v8 v9 v10 sx gm1 ge1 gm2 ge2 gm3 ge3 gm4 ge4 gm5 ge5 glu
  have isoff : decide (V.str wd.word = V.str "off") = isOffW wd := by cases wd <;> rfl
  obtain ⟨rw5, hw5, _⟩ := id hwF
  refine ⟨fun σ H' => Same HF H' ∧ (∃ es, H' lu = some (.lst es) ∧ Paired (WoAt H') es (outs pl1 pl2 tx1 tx2 (isOffW wd) ++ [(((1, 2), lawWord (txs.length : Int) wd, lawStep (txs.length : Int) wd) : Out)])) ∧ σ = [some (.ref a), some (.ref fa), some (.ref sa), some (.int (txs.length : Int)), some (.ref wa), some (.ref ld), some (.str (lawWord (txs.length : Int) wd)), some (.ref lu), none, none], ?_, ?_⟩
  · refine ⟨_, rfl, wa, _, _, _, rfl, rfl, SqT.of (sFH _ _ hw5), at0, rfl, _, rfl, ?_⟩
    rw [isoff]
    cases co : isOffW wd with
    | false => exact iteF ⟨sFH, ⟨_, xlu, .cons ⟨e1, .ref m1, rfl, xe1, m1, rfl, xm1⟩ (.cons ⟨e2, .ref m2, rfl, xe2, m2, rfl, xm2⟩ (.cons ⟨e3, .ref m3, rfl, xe3, m3, rfl, xm3⟩ (.cons ⟨e4, .ref m4, rfl, xe4, m4, rfl, xm4⟩ (.cons ⟨e5, .ref m5, rfl, xe5, m5, rfl, xm5⟩ .nil))))⟩, rfl⟩
    | true =>
      refine iteT ⟨size63 (Nat.le_of_ble_eq_true rfl), fun m6 gm6 => ⟨size63 (Nat.le_of_ble_eq_true rfl), fun e6 ge6 => ⟨_, rfl, lu, _, 1, 1, rfl, rfl, same_new ge6 _ _ _ (same_new gm6 _ _ _ xlu), rfl, ?_⟩⟩⟩
      have v0 := same_new gm6 (.tup [.int 1, .int 1])
      have v1 := same_new ge6 (.tup [.ref m6, .str "off"])
      have xlu' := v1 _ _ (v0 _ _ xlu)
      have tl : TS (upd (upd HH m6 (.tup [.int 1, .int 1])) e6 (.tup [.ref m6, .str "off"])) (upd (upd (upd HH m6 (.tup [.int 1, .int 1])) e6 (.tup [.ref m6, .str "off"])) lu (.lst ([.ref e1, .ref e2, .ref e3, .ref e4, .ref e5].set 1 (.ref e6)))) := fun b zs e => by
        rw [upd_ne (ne_of e xlu' (by intro z; cases z))]
        exact e
      have T : TS HH (upd (upd (upd HH m6 (.tup [.int 1, .int 1])) e6 (.tup [.ref m6, .str "off"])) lu (.lst ([.ref e1, .ref e2, .ref e3, .ref e4, .ref e5].set 1 (.ref e6)))) := fun b zs e => tl _ _ (v1 _ _ (v0 _ _ e))
      exact ⟨fun b o e => by rw [upd_ne (ne_of_none e hlu0)]; exact v1 _ _ (v0 _ _ (sFH _ _ e)), ⟨[.ref e1, .ref e6, .ref e3, .ref e4, .ref e5], upd_same, .cons ⟨e1, .ref m1, rfl, T _ _ xe1, m1, rfl, T _ _ xm1⟩ (.cons ⟨e6, .ref m6, rfl, tl _ _ upd_same, m6, rfl, tl _ _ (v1 _ _ upd_same)⟩ (.cons ⟨e3, .ref m3, rfl, T _ _ xe3, m3, rfl, T _ _ xm3⟩ (.cons ⟨e4, .ref m4, rfl, T _ _ xe4, m4, rfl, T _ _ xm4⟩ (.cons ⟨e5, .ref m5, rfl, T _ _ xe5, m5, rfl, T _ _ xm5⟩ .nil))))⟩, rfl⟩
  rintro σ HJ ⟨sFJ, ⟨es, xes, pes⟩, rfl⟩
  clear sFH xe1 xe2 xe3 xe4 xe5 xm1 xm2 xm3 xm4 xm5 xlu
  -- rows
  have W1J := WhAt.ts W1 (Same.ts sFJ)
  have W3J := WhAt.ts W3 (Same.ts sFJ)
  obtain ⟨_, f1, _, _, rfl, rfl, b1, rfl, b2⟩ := id W1J
  obtain ⟨_, g1, u1, _, rfl, ⟨ub1, rfl, hub1⟩, b3, rfl, b4⟩ := id W3J
  refine ⟨size63 (Nat.le_of_ble_eq_true rfl), fun k1 gk1 => ⟨size63 (Nat.le_of_ble_eq_true rfl), fun k2 gk2 => ⟨size63 (Nat.le_of_ble_eq_true rfl), fun k3 gk3 => ?_⟩⟩⟩
  have v1 := same_new gk1 (.tup [.int 0, .int 1])
  have v2 := same_new gk2 (.tup [.int 0, .int 1])
  have v3 := same_new gk3 (.tup [.str "put", .ref k2])
  have s3 := v1.trans (v2.trans v3)
  refine ⟨_, rfl, _, rfl, fa, _, rfl, s3 _ _ f1, fun z1' Hq1 sq1 eq1 => ⟨k3, z1', _, _, rfl, rfl, sq1 _ _ upd_same, eq1, size63 (Nat.le_of_ble_eq_true rfl), fun st1 Hq2 sq2 eq2 => ⟨size63 (Nat.le_of_ble_eq_true rfl), fun w1 gw1 => ?_⟩⟩⟩
  have v4 := same_new gw1 (.tup [.ref k1, .ref st1])
  have s34 := sq1.trans (sq2.trans v4)
  have sJ4 := s3.trans s34
  have R1 : SsAt (upd Hq2 w1 (.tup [.ref k1, .ref st1])) (.ref w1) ((0, 1), .put (0, 1) none pl1 tx1) := ⟨w1, st1, .ref k1, rfl, upd_same, ⟨k1, rfl, s34 _ _ (v3 _ _ (v2 _ _ upd_same))⟩, .ref k2, .non, .ref b1, v4 _ _ eq2, ⟨k2, rfl, s34 _ _ (v3 _ _ upd_same)⟩, rfl, b1, rfl, sJ4 _ _ b2⟩
  generalize upd Hq2 w1 (.tup [.ref k1, .ref st1]) = Hr at sJ4 R1 ⊢
  clear v1 v2 v3 v4 s3 s34 sq1 sq2 eq1 eq2 gk1 gk2 gk3 gw1
  refine ⟨size63 (Nat.le_of_ble_eq_true rfl), fun k1 gk1 => ⟨size63 (Nat.le_of_ble_eq_true rfl), fun k2 gk2 => ⟨size63 (Nat.le_of_ble_eq_true rfl), fun k3 gk3 => ?_⟩⟩⟩
  have v1 := same_new gk1 (.tup [.int 0, .int 2])
  have v2 := same_new gk2 (.tup [.int 0, .int 2])
  have v3 := same_new gk3 (.tup [.str "put", .ref k2])
  have s3 := v1.trans (v2.trans v3)
  refine ⟨_, rfl, _, rfl, sa, _, rfl, s3 _ _ (sJ4 _ _ g1), fun z1' Hq1 sq1 eq1 => ⟨k3, z1', _, _, rfl, rfl, sq1 _ _ upd_same, eq1, size63 (Nat.le_of_ble_eq_true rfl), fun st2 Hq2 sq2 eq2 => ⟨size63 (Nat.le_of_ble_eq_true rfl), fun w2 gw2 => ⟨size63 (Nat.le_of_ble_eq_true rfl), fun lr glr => ?_⟩⟩⟩⟩
  have v4 := same_new gw2 (.tup [.ref k1, .ref st2])
  have v5 := same_new glr (.lst [.ref w1, .ref w2])
  have s34 := sq1.trans (sq2.trans (v4.trans v5))
  have srK := s3.trans s34
  have R2 : SsAt (upd (upd Hq2 w2 (.tup [.ref k1, .ref st2])) lr (.lst [.ref w1, .ref w2])) (.ref w2) ((0, 2), .put (0, 2) (some (0, 1)) pl2 tx2) := ⟨w2, st2, .ref k1, rfl, v5 _ _ upd_same, ⟨k1, rfl, s34 _ _ (v3 _ _ (v2 _ _ upd_same))⟩, .ref k2, .ref ub1, .ref b3, v5 _ _ (v4 _ _ eq2), ⟨k2, rfl, s34 _ _ (v3 _ _ upd_same)⟩, ⟨ub1, rfl, srK _ _ (sJ4 _ _ hub1)⟩, b3, rfl, srK _ _ (sJ4 _ _ b4)⟩
  have ROWS : Paired (SsAt (upd (upd Hq2 w2 (.tup [.ref k1, .ref st2])) lr (.lst [.ref w1, .ref w2]))) [.ref w1, .ref w2] (rows2 pl1 pl2 tx1 tx2) := .cons (R1.ts (Same.ts srK)) (.cons R2 .nil)
  have xlr : upd (upd Hq2 w2 (.tup [.ref k1, .ref st2])) lr (.lst [.ref w1, .ref w2]) lr = some (.lst [.ref w1, .ref w2]) := upd_same
  have sJK := sJ4.trans srK
  have sFK := sFJ.trans sJK
  generalize upd (upd Hq2 w2 (.tup [.ref k1, .ref st2])) lr (.lst [.ref w1, .ref w2]) = HK at sJK sFK ROWS xlr ⊢
  clear v1 v2 v3 v4 v5 s3 s34 srK sq1 sq2 eq1 eq2 gk1 gk2 gk3 gw2 glr R1 R2
  -- handed
  refine ⟨_, rfl, ld, _, rfl, .inl (SqL.of (sFK _ _ xldF)), fun lh glh => ?_⟩
  have vl := same_new glh (.lst [.ref d1, .ref d2, .ref d3, .ref d4, .ref d5])
  have xlh : upd HK lh (.lst [.ref d1, .ref d2, .ref d3, .ref d4, .ref d5]) lh = some (.lst [.ref d1, .ref d2, .ref d3, .ref d4, .ref d5]) := upd_same
  have sFL := sFK.trans vl
  have sJL := sJK.trans vl
  have xlrL := vl _ _ xlr
  have ROWL := Paired.mapP ROWS fun _ _ (z : SsAt _ _ _) => z.ts (Same.ts vl)
  generalize upd HK lh (.lst [.ref d1, .ref d2, .ref d3, .ref d4, .ref d5]) = HL at xlh sFL sJL xlrL ROWL ⊢
  clear vl glh ROWS xlr sJK sFK
  have SF := safe5 (pl1 := pl1) (pl2 := pl2) (tx1 := tx1) (tx2 := tx2) (here_nm (cellZ ns 1)) ok le1 le2
  have OKW := outs_ok (pl1 := pl1) (pl2 := pl2) (tx1 := tx1) (tx2 := tx2) (b := isOffW wd) (n := (1, 2)) (so := lawStep (txs.length : Int) wd) (law_ok (txs.length : Int) wd)
  -- the words
  refine ⟨_, rfl, lh, _, _, rfl, xlh, DP (Same.ts sFL), show 5 ≤ 300 by decide, SF, fun a1 ys1 rs1 HM sM ea1 pa1 ra1 => ?_⟩
  obtain rfl := run5 (here_nm (cellZ ns 1)) ok z1 z2 ra1
  obtain ⟨l1, l2, l3⟩ := lists_of (D := fun r : Out => woD (r.1, r.2.1)) ea1 pa1 fun v r hr h => wo_dt h (OKW r hr)
  obtain ⟨l4, _, _⟩ := lists_of (D := fun r : Out => woD (r.1, r.2.1)) (sM _ _ (sJL _ _ xes)) (Paired.mapP pes fun _ _ (z : WoAt _ _ _) => z.ts (Same.ts (sJL.trans sM))) fun v r hr h => wo_dt h (OKW r hr)
  refine ⟨_, rfl, _, _, l1, l4, l2, l2, _, rfl, ?_⟩
  rw [l3]
  refine iteF ?_
  -- the steps
  have sFM := sFL.trans sM
  refine ⟨_, rfl, lh, _, _, rfl, sM _ _ xlh, DP (Same.ts sFM), show 5 ≤ 300 by decide, SF, fun a2 ys2 rs2 HN sN ea2 pa2 ra2 => ?_⟩
  obtain rfl := run5 (here_nm (cellZ ns 1)) ok z1 z2 ra2
  have sFN := sFM.trans sN
  refine ⟨_, rfl, _, rfl, _, rfl, wa, wd, _, rfl, WhAt.ts hwF (Same.ts sFN), fun a3 ys3 HO' sO ea3 pa3 => ?_⟩
  have l3s : ys3.length ≤ 1 := by
    have := Paired.length pa3
    rw [this]
    cases lawStep (txs.length : Int) wd <;> exact Nat.le_of_ble_eq_true rfl
  refine ⟨lr, a3, _, _, rfl, rfl, sO _ _ (sN _ _ (sM _ _ xlrL)), ea3, size63 (by show 2 + ys3.length ≤ 1000; omega), fun lc glc => ?_⟩
  have vc := same_new glc (.lst ([.ref w1, .ref w2] ++ ys3))
  have sLO := sM.trans (sN.trans (sO.trans vc))
  have OKS := rows_ok (size := (txs.length : Int)) (pl1 := pl1) (pl2 := pl2) ok ok1 ok2
  rw [steps_outs] at pa2
  obtain ⟨t1, t2, t3⟩ := lists_of (H := upd HO' lc (.lst ([.ref w1, .ref w2] ++ ys3))) (D := ssD) (vc _ _ (sO _ _ ea2)) (Paired.mapP pa2 fun _ _ (z : SsAt _ _ _) => z.ts (Same.ts (sO.trans vc))) fun v r hr h => ss_dt h (OKS r hr)
  obtain ⟨t4, _, _⟩ := lists_of (H := upd HO' lc (.lst ([.ref w1, .ref w2] ++ ys3))) (D := ssD) upd_same (paired_app (Paired.mapP ROWL fun _ _ (z : SsAt _ _ _) => z.ts (Same.ts sLO)) (Paired.mapP pa3 fun _ _ (z : SsAt _ _ _) => z.ts (Same.ts vc))) fun v r hr h => ss_dt h (OKS r hr)
  refine ⟨_, _, t1, t4, t2, t2, _, rfl, ?_⟩
  rw [t3]
  refine iteF ?_
  have sFO := sFL.trans sLO
  have xlhO := sLO _ _ xlh
  generalize upd HO' lc (.lst ([.ref w1, .ref w2] ++ ys3)) = HP at sFO xlhO ⊢
  clear sLO vc glc sO sN sM
  -- the deeds are what they were
  obtain ⟨dd, y1, y2, y3, y4⟩ := lists_alike xlhO (sFO _ _ xldF) (da_same fun v hv => (DAs v hv).ts sFO)
  refine ⟨_, rfl, _, rfl, dd, dd, y1, y2, y3, y3, _, rfl, ?_⟩
  rw [y4]
  refine iteF ?_
  -- the first four, and none
  refine ⟨_, rfl, _, rfl, ld, _, rfl, SqL.of (sFO _ _ xldF), fun l4 g4 => ?_⟩
  have w4 := same_new g4 (.lst (cutV [V.ref d1, .ref d2, .ref d3, .ref d4, .ref d5] none (some 4)))
  have e4 : upd HP l4 (.lst (cutV [V.ref d1, .ref d2, .ref d3, .ref d4, .ref d5] none (some 4))) l4 = some (.lst [.ref d1, .ref d2, .ref d3, .ref d4]) := upd_same
  have DP4 : ∀ {H' : Hp}, TS HF H' → DdsAt H' [.ref d1, .ref d2, .ref d3, .ref d4] (ds4 pl1 pl2 tx1 tx2) := fun t => by
    cases DP t with | cons a1 q1 => cases q1 with | cons a2 q2 => cases q2 with | cons a3 q3 => cases q3 with | cons a4 q4 => exact .cons a1 (.cons a2 (.cons a3 (.cons a4 .nil)))
  have sF4 := sFO.trans w4
  generalize upd HP l4 (.lst (cutV [V.ref d1, .ref d2, .ref d3, .ref d4, .ref d5] none (some 4))) = HQ at e4 sF4 ⊢
  refine ⟨l4, _, _, rfl, e4, DP4 (Same.ts sF4), show 4 ≤ 300 by decide, safef le1 le2, fun a4 ys4 rs4 HR sR ea4 pa4 ra4 => ?_⟩
  obtain rfl := runf ra4
  cases pa4 with | cons b1 q1 => cases q1 with | @cons v2 _ _ _ b2 q2 =>
  refine ⟨a4, _, _, _, rfl, rfl, SqL.of ea4, at1, size63 (Nat.le_of_ble_eq_true rfl), fun ta gta => ?_⟩
  have wta := same_new gta (.tup [.int 1, .int 1])
  refine ⟨size63 (Nat.le_of_ble_eq_true rfl), fun tb gtb => ?_⟩
  have wtb := same_new gtb (.tup [.ref ta, .str "done"])
  obtain ⟨o1, o2, o3⟩ : Dt (upd (upd HR ta (.tup [.int 1, .int 1])) tb (.tup [.ref ta, .str "done"])) (woD ((1, 1), "done")) v2 ∧ (woD ((1, 1), "done")).canLay0 = true ∧ (woD ((1, 1), "done")).depth ≤ 3 := wo_dt (r := ((1, 1), "done", none)) (WoAt.ts b2 (Same.ts (wta.trans wtb))) (show PyData.strOk ("done" : Str) = true by decide +kernel)
  have o4 : Dt (upd (upd HR ta (.tup [.int 1, .int 1])) tb (.tup [.ref ta, .str "done"])) (woD ((1, 1), "done")) (.ref tb) := dt_list upd_same (da_cons (nm_dt (n := (1, 1)) ⟨ta, rfl, wtb _ _ upd_same⟩) (da_cons (dt_str _) da_nil))
  have o5 : PyData.eqv (woD ((1, 1), "done")) (woD ((1, 1), "done")) = true := SeqAt.eqv_refl _ o2
  refine ⟨_, _, o1, o4, shaped_of o2 (by omega), shaped_of o2 (by omega), _, rfl, ?_⟩
  rw [o5]
  refine iteT ?_
  have n1 : SeqAt.shaped (.list []) = true := by decide +kernel
  have n2 : PyData.eqv (.list []) (.list []) = true := by decide +kernel
  refine ⟨size63 (Nat.le_of_ble_eq_true rfl), fun p1 gp1 => ⟨p1, [], [], rfl, upd_same, .nil, show 0 ≤ 300 by decide, trivial, fun a5 ys5 rs5 H5 s5 ea5 pa5 ra5 => ⟨size63 (Nat.le_of_ble_eq_true rfl), fun p2 gp2 => ?_⟩⟩⟩
  obtain rfl := run_nil ra5
  cases pa5
  refine ⟨_, _, dt_nil (same_new gp2 _ _ _ ea5), dt_nil upd_same, n1, n1, _, rfl, ?_⟩
  rw [n2]
  refine iteT ?_
  refine ⟨size63 (Nat.le_of_ble_eq_true rfl), fun p3 gp3 => ⟨p3, [], [], rfl, upd_same, .nil, show 0 ≤ 300 by decide, trivial, fun a6 ys6 rs6 H6 s6 ea6 pa6 ra6 => ⟨size63 (Nat.le_of_ble_eq_true rfl), fun p4 gp4 => ?_⟩⟩⟩
  obtain rfl := run_nil ra6
  cases pa6
  refine ⟨_, _, dt_nil (same_new gp4 _ _ _ ea6), dt_nil upd_same, n1, n1, ?_⟩
  rw [n2]
  exact hq _
end
theorem all_mk {l : PySem.W.OpenLaw} {w : World} {K : PySem.W.Frag} {h : Heap} {mg : Str → Option Value} {fa f1 f2 f3 f4 f5 f6 f7 f8 f9 f10 f11 f12 f13 f14 f15 f16 f17 f18 f19 f20 f21 f22 f23 f24 f25 f26 f27 f28 f29 f30 f31 : Addr} {C_Plain : Addr} (X : K.In h) (G : h.Ns mainGlobals mg) (hfa : mg "law" = some (.ref fa))
    {od1 an1 od2 an2 od3 an3 od4 an4 od5 an5 od6 an6 od7 an7 od8 an8 od9 an9 od10 an10 od11 an11 od12 an12 od13 an13 od14 an14 od15 an15 od16 an16 od17 an17 od18 an18 od19 an19 od20 an20 od21 an21 od22 an22 od23 an23 od24 an24 od25 an25 od26 an26 od27 an27 od28 an28 od29 an29 od30 an30 od31 an31 : Option Addr} {sl1 sl2 sl3 sl4 sl5 sl6 sl7 sl8 sl9 sl10 sl11 sl12 sl13 sl14 sl15 sl16 sl17 sl18 sl19 sl20 sl21 sl22 sl23 sl24 sl25 sl26 sl27 sl28 sl29 sl30 sl31 : Array (Option Value)} {oc1 kV1 dc1 pm1 cd1 ct1 oc2 kV2 dc2 pm2 cd2 ct2 oc3 kV3 dc3 pm3 cd3 ct3 oc4 kV4 dc4 pm4 cd4 ct4 oc5 kV5 dc5 pm5 cd5 ct5 oc6 kV6 dc6 pm6 cd6 ct6 oc7 kV7 dc7 pm7 cd7 ct7 oc8 kV8 dc8 pm8 cd8 ct8 oc9 kV9 dc9 pm9 cd9 ct9 oc10 kV10 dc10 pm10 cd10 ct10 oc11 kV11 dc11 pm11 cd11 ct11 oc12 kV12 dc12 pm12 cd12 ct12 oc13 kV13 dc13 pm13 cd13 ct13 oc14 kV14 dc14 pm14 cd14 ct14 oc15 kV15 dc15 pm15 cd15 ct15 oc16 kV16 dc16 pm16 cd16 ct16 oc17 kV17 dc17 pm17 cd17 ct17 oc18 kV18 dc18 pm18 cd18 ct18 oc19 kV19 dc19 pm19 cd19 ct19 oc20 kV20 dc20 pm20 cd20 ct20 oc21 kV21 dc21 pm21 cd21 ct21 oc22 kV22 dc22 pm22 cd22 ct22 oc23 kV23 dc23 pm23 cd23 ct23 oc24 kV24 dc24 pm24 cd24 ct24 oc25 kV25 dc25 pm25 cd25 ct25 oc26 kV26 dc26 pm26 cd26 ct26 oc27 kV27 dc27 pm27 cd27 ct27 oc28 kV28 dc28 pm28 cd28 ct28 oc29 kV29 dc29 pm29 cd29 ct29 oc30 kV30 dc30 pm30 cd30 ct30 oc31 kV31 dc31 pm31 cd31 ct31 : Value} {tk_TEXT : Tok} {tk_UP : Tok} {ad_STEP_PARTS : Addr} {ad_FIRST_CHANGED : Addr} {c_NoItem c_LimbError c_Taken c_Beneath c_Far : Addr}
    (h_Plain : PySem.W.nsIn K mainGlobals "Plain" = some (some (.ref C_Plain))) (pg_Plain : PySem.W.plainGet K C_Plain Str.empty = true) (hd_Plain : PySem.W.hasDictIn K C_Plain = true) (po_Plain : PySem.W.plainOver K C_Plain = true) (sa_Plain : PySem.W.findIn K (.ref C_Plain) "__setattr__" = some (some (.builtin "object.__setattr__"))) (mk_Plain : PySem.W.makesIn K C_Plain = true) (kc_Plain : PySem.W.keepIn K (.ref C_Plain) = true) (n_Plain_held : PySem.W.findIn K (.ref C_Plain) "held" = some none) (n_Plain_away : PySem.W.findIn K (.ref C_Plain) "away" = some none)
    (a1 : PySem.W.nsIn K mainGlobals "step_parts" = some (some (.ref f1))) (l1 : K.lookup f1 = some ⟨oc1, od1, .func (PySem.W.fnOf "step_parts" "step_parts" (defArgs s_step_parts) (defBody s_step_parts) (defScope s_step_parts) .none kV1 dc1 pm1 an1 cd1 ct1), sl1⟩) (c1 : PySem.W.codeIn K cd1 "step_parts" = true) (k1 : PySem.W.keepIn K (.ref f1) = true)
    (hc_NoItem : PySem.W.nsIn K mainGlobals "NoItem" = some (some (.ref c_NoItem)))
    (a2 : PySem.W.findIn K (.ref c_NoItem) "__init__" = some (some (.ref f2))) (i2 : PySem.W.isFn K (.ref f2) = true) (l2 : K.lookup f2 = some ⟨oc2, od2, .func (PySem.W.fnOf "__init__" "NoItem.__init__" (defArgs s_NoItem_init) (defBody s_NoItem_init) (defScope s_NoItem_init) .none kV2 dc2 pm2 an2 cd2 ct2), sl2⟩) (c2 : PySem.W.codeIn K cd2 "NoItem.__init__" = true) (k2 : PySem.W.keepIn K (.ref f2) = true)
    (a3 : PySem.W.nsIn K mainGlobals "name_of" = some (some (.ref f3))) (l3 : K.lookup f3 = some ⟨oc3, od3, .func (PySem.W.fnOf "name_of" "name_of" (defArgs s_name_of) (defBody s_name_of) (defScope s_name_of) .none kV3 dc3 pm3 an3 cd3 ct3), sl3⟩) (c3 : PySem.W.codeIn K cd3 "name_of" = true) (k3 : PySem.W.keepIn K (.ref f3) = true)
    (a4 : PySem.W.findIn K (.ref C_Plain) "__init__" = some (some (.ref f4))) (i4 : PySem.W.isFn K (.ref f4) = true) (l4 : K.lookup f4 = some ⟨oc4, od4, .func (PySem.W.fnOf "__init__" "Plain.__init__" (defArgs s_Plain_init) (defBody s_Plain_init) (defScope s_Plain_init) .none kV4 dc4 pm4 an4 cd4 ct4), sl4⟩) (c4 : PySem.W.codeIn K cd4 "Plain.__init__" = true) (k4 : PySem.W.keepIn K (.ref f4) = true)
    (a5 : PySem.W.findIn K (.ref C_Plain) "bring_in" = some (some (.ref f5))) (i5 : PySem.W.isFn K (.ref f5) = true) (l5 : K.lookup f5 = some ⟨oc5, od5, .func (PySem.W.fnOf "bring_in" "Plain.bring_in" (defArgs s_Plain_bring_in) (defBody s_Plain_bring_in) (defScope s_Plain_bring_in) .none kV5 dc5 pm5 an5 cd5 ct5), sl5⟩) (c5 : PySem.W.codeIn K cd5 "Plain.bring_in" = true) (k5 : PySem.W.keepIn K (.ref f5) = true)
    (a6 : PySem.W.findIn K (.ref C_Plain) "change" = some (some (.ref f6))) (i6 : PySem.W.isFn K (.ref f6) = true) (l6 : K.lookup f6 = some ⟨oc6, od6, .func (PySem.W.fnOf "change" "Plain.change" (defArgs s_Plain_change) (defBody s_Plain_change) (defScope s_Plain_change) .none kV6 dc6 pm6 an6 cd6 ct6), sl6⟩) (c6 : PySem.W.codeIn K cd6 "Plain.change" = true) (k6 : PySem.W.keepIn K (.ref f6) = true)
    (a7 : PySem.W.findIn K (.ref C_Plain) "check_names" = some (some (.ref f7))) (i7 : PySem.W.isFn K (.ref f7) = true) (l7 : K.lookup f7 = some ⟨oc7, od7, .func (PySem.W.fnOf "check_names" "Plain.check_names" (defArgs s_Plain_check_names) (defBody s_Plain_check_names) (defScope s_Plain_check_names) .none kV7 dc7 pm7 an7 cd7 ct7), sl7⟩) (c7 : PySem.W.codeIn K cd7 "Plain.check_names" = true) (k7 : PySem.W.keepIn K (.ref f7) = true)
    (a8 : PySem.W.findIn K (.ref C_Plain) "at_or_beneath" = some (some (.ref f8))) (i8 : PySem.W.isFn K (.ref f8) = true) (l8 : K.lookup f8 = some ⟨oc8, od8, .func (PySem.W.fnOf "at_or_beneath" "Plain.at_or_beneath" (defArgs s_Plain_at_or_beneath) (defBody s_Plain_at_or_beneath) (defScope s_Plain_at_or_beneath) .none kV8 dc8 pm8 an8 cd8 ct8), sl8⟩) (c8 : PySem.W.codeIn K cd8 "Plain.at_or_beneath" = true) (k8 : PySem.W.keepIn K (.ref f8) = true)
    (a9 : PySem.W.findIn K (.ref C_Plain) "check_bounds" = some (some (.ref f9))) (i9 : PySem.W.isFn K (.ref f9) = true) (l9 : K.lookup f9 = some ⟨oc9, od9, .func (PySem.W.fnOf "check_bounds" "Plain.check_bounds" (defArgs s_Plain_check_bounds) (defBody s_Plain_check_bounds) (defScope s_Plain_check_bounds) .none kV9 dc9 pm9 an9 cd9 ct9), sl9⟩) (c9 : PySem.W.codeIn K cd9 "Plain.check_bounds" = true) (k9 : PySem.W.keepIn K (.ref f9) = true)
    (a10 : PySem.W.findIn K (.ref C_Plain) "part_item" = some (some (.ref f10))) (i10 : PySem.W.isFn K (.ref f10) = true) (l10 : K.lookup f10 = some ⟨oc10, od10, .func (PySem.W.fnOf "part_item" "Plain.part_item" (defArgs s_Plain_part_item) (defBody s_Plain_part_item) (defScope s_Plain_part_item) .none kV10 dc10 pm10 an10 cd10 ct10), sl10⟩) (c10 : PySem.W.codeIn K cd10 "Plain.part_item" = true) (k10 : PySem.W.keepIn K (.ref f10) = true)
    (a11 : PySem.W.findIn K (.ref C_Plain) "join_items" = some (some (.ref f11))) (i11 : PySem.W.isFn K (.ref f11) = true) (l11 : K.lookup f11 = some ⟨oc11, od11, .func (PySem.W.fnOf "join_items" "Plain.join_items" (defArgs s_Plain_join_items) (defBody s_Plain_join_items) (defScope s_Plain_join_items) .none kV11 dc11 pm11 an11 cd11 ct11), sl11⟩) (c11 : PySem.W.codeIn K cd11 "Plain.join_items" = true) (k11 : PySem.W.keepIn K (.ref f11) = true)
    (a12 : PySem.W.findIn K (.ref C_Plain) "holds" = some (some (.ref f12))) (i12 : PySem.W.isFn K (.ref f12) = true) (l12 : K.lookup f12 = some ⟨oc12, od12, .func (PySem.W.fnOf "holds" "Plain.holds" (defArgs s_Plain_holds) (defBody s_Plain_holds) (defScope s_Plain_holds) .none kV12 dc12 pm12 an12 cd12 ct12), sl12⟩) (c12 : PySem.W.codeIn K cd12 "Plain.holds" = true) (k12 : PySem.W.keepIn K (.ref f12) = true)
    (a13 : PySem.W.findIn K (.ref C_Plain) "step" = some (some (.ref f13))) (i13 : PySem.W.isFn K (.ref f13) = true) (l13 : K.lookup f13 = some ⟨oc13, od13, .func (PySem.W.fnOf "step" "Plain.step" (defArgs s_Plain_step) (defBody s_Plain_step) (defScope s_Plain_step) .none kV13 dc13 pm13 an13 cd13 ct13), sl13⟩) (c13 : PySem.W.codeIn K cd13 "Plain.step" = true) (k13 : PySem.W.keepIn K (.ref f13) = true)
    (a14 : PySem.W.nsIn K mainGlobals "is_turn" = some (some (.ref f14))) (l14 : K.lookup f14 = some ⟨oc14, od14, .func (PySem.W.fnOf "is_turn" "is_turn" (defArgs s_is_turn) (defBody s_is_turn) (defScope s_is_turn) .none kV14 dc14 pm14 an14 cd14 ct14), sl14⟩) (c14 : PySem.W.codeIn K cd14 "is_turn" = true) (k14 : PySem.W.keepIn K (.ref f14) = true)
    (a15 : PySem.W.nsIn K mainGlobals "turned_name" = some (some (.ref f15))) (l15 : K.lookup f15 = some ⟨oc15, od15, .func (PySem.W.fnOf "turned_name" "turned_name" (defArgs s_turned_name) (defBody s_turned_name) (defScope s_turned_name) .none kV15 dc15 pm15 an15 cd15 ct15), sl15⟩) (c15 : PySem.W.codeIn K cd15 "turned_name" = true) (k15 : PySem.W.keepIn K (.ref f15) = true)
    (a16 : PySem.W.nsIn K mainGlobals "last_turns" = some (some (.ref f16))) (l16 : K.lookup f16 = some ⟨oc16, od16, .func (PySem.W.fnOf "last_turns" "last_turns" (defArgs s_last_turns) (defBody s_last_turns) (defScope s_last_turns) .none kV16 dc16 pm16 an16 cd16 ct16), sl16⟩) (c16 : PySem.W.codeIn K cd16 "last_turns" = true) (k16 : PySem.W.keepIn K (.ref f16) = true)
    (a17 : PySem.W.nsIn K mainGlobals "is_off" = some (some (.ref f17))) (l17 : K.lookup f17 = some ⟨oc17, od17, .func (PySem.W.fnOf "is_off" "is_off" (defArgs s_is_off) (defBody s_is_off) (defScope s_is_off) .none kV17 dc17 pm17 an17 cd17 ct17), sl17⟩) (c17 : PySem.W.codeIn K cd17 "is_off" = true) (k17 : PySem.W.keepIn K (.ref f17) = true)
    (a18 : PySem.W.nsIn K mainGlobals "step_of" = some (some (.ref f18))) (l18 : K.lookup f18 = some ⟨oc18, od18, .func (PySem.W.fnOf "step_of" "step_of" (defArgs s_step_of) (defBody s_step_of) (defScope s_step_of) .none kV18 dc18 pm18 an18 cd18 ct18), sl18⟩) (c18 : PySem.W.codeIn K cd18 "step_of" = true) (k18 : PySem.W.keepIn K (.ref f18) = true)
    (a19 : PySem.W.nsIn K mainGlobals "word_of_step" = some (some (.ref f19))) (l19 : K.lookup f19 = some ⟨oc19, od19, .func (PySem.W.fnOf "word_of_step" "word_of_step" (defArgs s_word_of_step) (defBody s_word_of_step) (defScope s_word_of_step) .none kV19 dc19 pm19 an19 cd19 ct19), sl19⟩) (c19 : PySem.W.codeIn K cd19 "word_of_step" = true) (k19 : PySem.W.keepIn K (.ref f19) = true)
    (a20 : PySem.W.nsIn K mainGlobals "play" = some (some (.ref f20))) (l20 : K.lookup f20 = some ⟨oc20, od20, .func (PySem.W.fnOf "play" "play" (defArgs s_play) (defBody s_play) (defScope s_play) .none kV20 dc20 pm20 an20 cd20 ct20), sl20⟩) (c20 : PySem.W.codeIn K cd20 "play" = true) (k20 : PySem.W.keepIn K (.ref f20) = true)
    (a21 : PySem.W.nsIn K mainGlobals "played" = some (some (.ref f21))) (l21 : K.lookup f21 = some ⟨oc21, od21, .func (PySem.W.fnOf "played" "played" (defArgs s_played) (defBody s_played) (defScope s_played) .none kV21 dc21 pm21 an21 cd21 ct21), sl21⟩) (c21 : PySem.W.codeIn K cd21 "played" = true) (k21 : PySem.W.keepIn K (.ref f21) = true)
    (a22 : PySem.W.nsIn K mainGlobals "words_of" = some (some (.ref f22))) (l22 : K.lookup f22 = some ⟨oc22, od22, .func (PySem.W.fnOf "words_of" "words_of" (defArgs s_words_of) (defBody s_words_of) (defScope s_words_of) .none kV22 dc22 pm22 an22 cd22 ct22), sl22⟩) (c22 : PySem.W.codeIn K cd22 "words_of" = true) (k22 : PySem.W.keepIn K (.ref f22) = true)
    (a23 : PySem.W.nsIn K mainGlobals "steps_of" = some (some (.ref f23))) (l23 : K.lookup f23 = some ⟨oc23, od23, .func (PySem.W.fnOf "steps_of" "steps_of" (defArgs s_steps_of) (defBody s_steps_of) (defScope s_steps_of) .none kV23 dc23 pm23 an23 cd23 ct23), sl23⟩) (c23 : PySem.W.codeIn K cd23 "steps_of" = true) (k23 : PySem.W.keepIn K (.ref f23) = true)
    (a24 : PySem.W.nsIn K mainGlobals "_law_cell_at" = some (some (.ref f24))) (l24 : K.lookup f24 = some ⟨oc24, od24, .func (PySem.W.fnOf "_law_cell_at" "_law_cell_at" (defArgs s_cell_at) (defBody s_cell_at) (defScope s_cell_at) .none kV24 dc24 pm24 an24 cd24 ct24), sl24⟩) (c24 : PySem.W.codeIn K cd24 "_law_cell_at" = true) (k24 : PySem.W.keepIn K (.ref f24) = true)
    (a25 : PySem.W.nsIn K mainGlobals "_law_text" = some (some (.ref f25))) (l25 : K.lookup f25 = some ⟨oc25, od25, .func (PySem.W.fnOf "_law_text" "_law_text" (defArgs s_text) (defBody s_text) (defScope s_text) .none kV25 dc25 pm25 an25 cd25 ct25), sl25⟩) (c25 : PySem.W.codeIn K cd25 "_law_text" = true) (k25 : PySem.W.keepIn K (.ref f25) = true)
    (a26 : PySem.W.nsIn K mainGlobals "_law_place" = some (some (.ref f26))) (l26 : K.lookup f26 = some ⟨oc26, od26, .func (PySem.W.fnOf "_law_place" "_law_place" (defArgs s_place) (defBody s_place) (defScope s_place) .none kV26 dc26 pm26 an26 cd26 ct26), sl26⟩) (c26 : PySem.W.codeIn K cd26 "_law_place" = true) (k26 : PySem.W.keepIn K (.ref f26) = true)
    (a27 : PySem.W.nsIn K mainGlobals "_law_what" = some (some (.ref f27))) (l27 : K.lookup f27 = some ⟨oc27, od27, .func (PySem.W.fnOf "_law_what" "_law_what" (defArgs s_what) (defBody s_what) (defScope s_what) .none kV27 dc27 pm27 an27 cd27 ct27), sl27⟩) (c27 : PySem.W.codeIn K cd27 "_law_what" = true) (k27 : PySem.W.keepIn K (.ref f27) = true)
    (a28 : PySem.W.nsIn K mainGlobals "_law_under" = some (some (.ref f28))) (l28 : K.lookup f28 = some ⟨oc28, od28, .func (PySem.W.fnOf "_law_under" "_law_under" (defArgs s_under) (defBody s_under) (defScope s_under) .none kV28 dc28 pm28 an28 cd28 ct28), sl28⟩) (c28 : PySem.W.codeIn K cd28 "_law_under" = true) (k28 : PySem.W.keepIn K (.ref f28) = true)
    (a29 : PySem.W.nsIn K mainGlobals "_law_word" = some (some (.ref f29))) (l29 : K.lookup f29 = some ⟨oc29, od29, .func (PySem.W.fnOf "_law_word" "_law_word" (defArgs s_word) (defBody s_word) (defScope s_word) .none kV29 dc29 pm29 an29 cd29 ct29), sl29⟩) (c29 : PySem.W.codeIn K cd29 "_law_word" = true) (k29 : PySem.W.keepIn K (.ref f29) = true)
    (a30 : PySem.W.nsIn K mainGlobals "_law_steps" = some (some (.ref f30))) (l30 : K.lookup f30 = some ⟨oc30, od30, .func (PySem.W.fnOf "_law_steps" "_law_steps" (defArgs s_steps) (defBody s_steps) (defScope s_steps) .none kV30 dc30 pm30 an30 cd30 ct30), sl30⟩) (c30 : PySem.W.codeIn K cd30 "_law_steps" = true) (k30 : PySem.W.keepIn K (.ref f30) = true)
    (a31 : PySem.W.nsIn K mainGlobals "law" = some (some (.ref f31))) (l31 : K.lookup f31 = some ⟨oc31, od31, .func (PySem.W.fnOf "law" "law" (defArgs s_law) (defBody s_law) (defScope s_law) .none kV31 dc31 pm31 an31 cd31 ct31), sl31⟩) (c31 : PySem.W.codeIn K cd31 "law" = true) (k31 : PySem.W.keepIn K (.ref f31) = true)
    (h_TEXT : PySem.W.nsIn K mainGlobals "TEXT" = some (some (.int 2 tk_TEXT)))
    (h_UP : PySem.W.nsIn K mainGlobals "UP" = some (some (.int 0 tk_UP)))
    (h_STEP_PARTS : PySem.W.nsIn K mainGlobals "STEP_PARTS" = some (some (.ref ad_STEP_PARTS))) (t_STEP_PARTS : PyProof.Rows.KTD.tabLook (tvLook K) (fun b => K.lookup b) ad_STEP_PARTS ST = true)
    (h_FIRST_CHANGED : PySem.W.nsIn K mainGlobals "FIRST_CHANGED" = some (some (.ref ad_FIRST_CHANGED))) (t_FIRST_CHANGED : PyProof.Rows.KTD.tabLook (tvLook K) (fun b => K.lookup b) ad_FIRST_CHANGED FC = true)
    (ii_NoItem : excInI K c_NoItem f2 = true)
    (im_NoItem : ∃ c d cd sl, K.lookup c_NoItem = some ⟨c, d, .cls cd, sl⟩ ∧ cd.mro = Value.ref c_NoItem :: Value.ref c_LimbError :: VE)
    (if_NoItem : ∃ oI, K.lookup f2 = some oI ∧ oI.cls = .type "function")
    (hc_Taken : PySem.W.nsIn K mainGlobals "Taken" = some (some (.ref c_Taken)))
    (hc_Beneath : PySem.W.nsIn K mainGlobals "Beneath" = some (some (.ref c_Beneath)))
    (hc_Far : PySem.W.nsIn K mainGlobals "Far" = some (some (.ref c_Far)))
    (hc_LimbError : PySem.W.nsIn K mainGlobals "LimbError" = some (some (.ref c_LimbError)))
    (xx_Taken : PySem.W.excIn K c_Taken [.type "ValueError", .type "Exception", .type "BaseException", .type "object"] "ValueError.__new__" = true)
    (xm_Taken : ∃ c d cd sl, K.lookup c_Taken = some ⟨c, d, .cls cd, sl⟩ ∧ cd.mro = Value.ref c_Taken :: (Value.ref c_LimbError :: VE))
    (xx_Beneath : PySem.W.excIn K c_Beneath [.type "ValueError", .type "Exception", .type "BaseException", .type "object"] "ValueError.__new__" = true)
    (xm_Beneath : ∃ c d cd sl, K.lookup c_Beneath = some ⟨c, d, .cls cd, sl⟩ ∧ cd.mro = Value.ref c_Beneath :: (Value.ref c_LimbError :: VE))
    (xx_Far : PySem.W.excIn K c_Far [.type "ValueError", .type "Exception", .type "BaseException", .type "object"] "ValueError.__new__" = true)
    (xm_Far : ∃ c d cd sl, K.lookup c_Far = some ⟨c, d, .cls cd, sl⟩ ∧ cd.mro = Value.ref c_Far :: (Value.ref c_LimbError :: VE))
    (e6 : PySem.W.mroIn K c_NoItem (.type "object") = some true)
    (aN : PySem.W.findIn K (.ref c_NoItem) "name" = some none)
    (s1 : PySem.W.findIn K (.ref c_NoItem) "__setattr__" = some (some (.builtin "object.__setattr__")))
    (s2 : ((PySem.W.clsIn K c_NoItem).any fun cd => overVE cd.mro && cd.hasDict) = true)
    (nb : (Value.ref c_Beneath :: Value.ref c_LimbError :: VE).contains (.ref c_NoItem) = false)
    (nf : (Value.ref c_Far :: Value.ref c_LimbError :: VE).contains (.ref c_NoItem) = false)
    (fb : (Value.ref c_Far :: Value.ref c_LimbError :: VE).contains (.ref c_Beneath) = false)
    (y_len : PySem.W.nsIn K mainGlobals "len" = some none)
    (y_list : PySem.W.nsIn K mainGlobals "list" = some none)
    (y_zip : PySem.W.nsIn K mainGlobals "zip" = some none)
    (y_range : PySem.W.nsIn K mainGlobals "range" = some none)
    (y_int : PySem.W.nsIn K mainGlobals "int" = some none)
    (y_max : PySem.W.nsIn K mainGlobals "max" = some none)
    : ∃ fd : FuncData, (∀ (s : Shared) (v : Value), BindsTo s fd ⟨[v], []⟩ [("_law_script", v)]) ∧ ∀ base : Heap, K.In base → base.Ns mainGlobals mg → FnOk l.prog w K mg base CX0 9 fa fd ["_law_script"] (spLaw K) := by
  have e := hfa.symm.trans (PySem.W.mg_of X G a31)
  cases e
  have F1 := fun_mk (st := s_step_parts) l1 c1 k1
  have b1 := F1.binds (ps := ["word"]) fun _ _ _ _ _ _ us hl => match us, hl with | [_], _ => rfl
  have F2 := fun_mk (st := s_NoItem_init) l2 c2 k2
  have b2 := F2.binds (ps := ["self", "name"]) fun _ _ _ _ _ _ us hl => match us, hl with | [_, _], _ => rfl
  have F3 := fun_mk (st := s_name_of) l3 c3 k3
  have b3 := F3.binds (ps := ["deed"]) fun _ _ _ _ _ _ us hl => match us, hl with | [_], _ => rfl
  have F4 := fun_mk (st := s_Plain_init) l4 c4 k4
  have b4 := F4.binds (ps := ["self"]) fun _ _ _ _ _ _ us hl => match us, hl with | [_], _ => rfl
  have F5 := fun_mk (st := s_Plain_bring_in) l5 c5 k5
  have b5 := F5.binds (ps := ["self", "name", "up", "place", "text"]) fun _ _ _ _ _ _ us hl => match us, hl with | [_, _, _, _, _], _ => rfl
  have F6 := fun_mk (st := s_Plain_change) l6 c6 k6
  have b6 := F6.binds (ps := ["self", "name", "first", "values"]) fun _ _ _ _ _ _ us hl => match us, hl with | [_, _, _, _], _ => rfl
  have F7 := fun_mk (st := s_Plain_check_names) l7 c7 k7
  have b7 := F7.binds (ps := ["self", "step"]) fun _ _ _ _ _ _ us hl => match us, hl with | [_, _], _ => rfl
  have F8 := fun_mk (st := s_Plain_at_or_beneath) l8 c8 k8
  have b8 := F8.binds (ps := ["self", "one", "other"]) fun _ _ _ _ _ _ us hl => match us, hl with | [_, _, _], _ => rfl
  have F9 := fun_mk (st := s_Plain_check_bounds) l9 c9 k9
  have b9 := F9.binds (ps := ["self", "step"]) fun _ _ _ _ _ _ us hl => match us, hl with | [_, _], _ => rfl
  have F10 := fun_mk (st := s_Plain_part_item) l10 c10 k10
  have b10 := F10.binds (ps := ["self", "name", "at", "new", "place"]) fun _ _ _ _ _ _ us hl => match us, hl with | [_, _, _, _, _], _ => rfl
  have F11 := fun_mk (st := s_Plain_join_items) l11 c11 k11
  have b11 := F11.binds (ps := ["self", "name", "other"]) fun _ _ _ _ _ _ us hl => match us, hl with | [_, _, _], _ => rfl
  have F12 := fun_mk (st := s_Plain_holds) l12 c12 k12
  have b12 := F12.binds (ps := ["self", "name"]) fun _ _ _ _ _ _ us hl => match us, hl with | [_, _], _ => rfl
  have F13 := fun_mk (st := s_Plain_step) l13 c13 k13
  have b13 := F13.binds (ps := ["self", "step"]) fun _ _ _ _ _ _ us hl => match us, hl with | [_, _], _ => rfl
  have F14 := fun_mk (st := s_is_turn) l14 c14 k14
  have b14 := F14.binds (ps := ["deed"]) fun _ _ _ _ _ _ us hl => match us, hl with | [_], _ => rfl
  have F15 := fun_mk (st := s_turned_name) l15 c15 k15
  have b15 := F15.binds (ps := ["deed"]) fun _ _ _ _ _ _ us hl => match us, hl with | [_], _ => rfl
  have F16 := fun_mk (st := s_last_turns) l16 c16 k16
  have b16 := F16.binds (ps := ["ready"]) fun _ _ _ _ _ _ us hl => match us, hl with | [_], _ => rfl
  have F17 := fun_mk (st := s_is_off) l17 c17 k17
  have b17 := F17.binds (ps := ["deed", "turns"]) fun _ _ _ _ _ _ us hl => match us, hl with | [_, _], _ => rfl
  have F18 := fun_mk (st := s_step_of) l18 c18 k18
  have b18 := F18.binds (ps := ["deed"]) fun _ _ _ _ _ _ us hl => match us, hl with | [_], _ => rfl
  have F19 := fun_mk (st := s_word_of_step) l19 c19 k19
  have b19 := F19.binds (ps := ["outline", "step"]) fun _ _ _ _ _ _ us hl => match us, hl with | [_, _], _ => rfl
  have F20 := fun_mk (st := s_play) l20 c20 k20
  have b20 := F20.binds (ps := ["deed", "outline"]) fun _ _ _ _ _ _ us hl => match us, hl with | [_, _], _ => rfl
  have F21 := fun_mk (st := s_played) l21 c21 k21
  have b21 := F21.binds (ps := ["ready"]) fun _ _ _ _ _ _ us hl => match us, hl with | [_], _ => rfl
  have F22 := fun_mk (st := s_words_of) l22 c22 k22
  have b22 := F22.binds (ps := ["ready"]) fun _ _ _ _ _ _ us hl => match us, hl with | [_], _ => rfl
  have F23 := fun_mk (st := s_steps_of) l23 c23 k23
  have b23 := F23.binds (ps := ["ready"]) fun _ _ _ _ _ _ us hl => match us, hl with | [_], _ => rfl
  have F24 := fun_mk (st := s_cell_at) l24 c24 k24
  have b24 := F24.binds (ps := ["_law_script", "_law_k"]) fun _ _ _ _ _ _ us hl => match us, hl with | [_, _], _ => rfl
  have F25 := fun_mk (st := s_text) l25 c25 k25
  have b25 := F25.binds (ps := ["_law_cell"]) fun _ _ _ _ _ _ us hl => match us, hl with | [_], _ => rfl
  have F26 := fun_mk (st := s_place) l26 c26 k26
  have b26 := F26.binds (ps := ["_law_cell"]) fun _ _ _ _ _ _ us hl => match us, hl with | [_], _ => rfl
  have F27 := fun_mk (st := s_what) l27 c27 k27
  have b27 := F27.binds (ps := ["_law_script", "_law_size"]) fun _ _ _ _ _ _ us hl => match us, hl with | [_, _], _ => rfl
  have F28 := fun_mk (st := s_under) l28 c28 k28
  have b28 := F28.binds (ps := ["_law_one", "_law_other"]) fun _ _ _ _ _ _ us hl => match us, hl with | [_, _], _ => rfl
  have F29 := fun_mk (st := s_word) l29 c29 k29
  have b29 := F29.binds (ps := ["_law_what_here", "_law_size"]) fun _ _ _ _ _ _ us hl => match us, hl with | [_, _], _ => rfl
  have F30 := fun_mk (st := s_steps) l30 c30 k30
  have b30 := F30.binds (ps := ["_law_what_here", "_law_word_here"]) fun _ _ _ _ _ _ us hl => match us, hl with | [_, _], _ => rfl
  have F31 := fun_mk (st := s_law) l31 c31 k31
  have z_len := PySem.W.mg_none_of X G y_len
  have z_list := PySem.W.mg_none_of X G y_list
  have z_zip := PySem.W.mg_none_of X G y_zip
  have z_range := PySem.W.mg_none_of X G y_range
  have z_int := PySem.W.mg_none_of X G y_int
  have z_max := PySem.W.mg_none_of X G y_max
  have g_TEXT := PySem.W.mg_of X G h_TEXT
  have g_UP := PySem.W.mg_of X G h_UP
  have g_STEP_PARTS := PySem.W.mg_of X G h_STEP_PARTS
  have g_FIRST_CHANGED := PySem.W.mg_of X G h_FIRST_CHANGED
  have g_Plain := PySem.W.mg_of X G h_Plain
  have L_Plain : Cls K C_Plain := ⟨pg_Plain, hd_Plain, po_Plain, sa_Plain⟩
  have X_Plain : Txt K C_Plain := ⟨L_Plain, n_Plain_held, n_Plain_away⟩
  have T_STEP_PARTS : Tab K ad_STEP_PARTS ST := ⟨t_STEP_PARTS⟩
  have T_FIRST_CHANGED : Tab K ad_FIRST_CHANGED FC := ⟨t_FIRST_CHANGED⟩
  have g_NoItem := PySem.W.mg_of X G hc_NoItem
  have xo_NoItem : ExcAtI K c_NoItem f2 (Value.ref c_LimbError :: VE) := ⟨ii_NoItem, im_NoItem, by rw [List.contains_cons]; rfl, if_NoItem⟩
  have g_Taken := PySem.W.mg_of X G hc_Taken
  have g_Beneath := PySem.W.mg_of X G hc_Beneath
  have g_Far := PySem.W.mg_of X G hc_Far
  have g_LimbError := PySem.W.mg_of X G hc_LimbError
  have xo_Taken : ExcAt K c_Taken (Value.ref c_LimbError :: VE) := ⟨xx_Taken, xm_Taken, by rw [List.contains_cons]; rfl⟩
  have xo_Beneath : ExcAt K c_Beneath (Value.ref c_LimbError :: VE) := ⟨xx_Beneath, xm_Beneath, by rw [List.contains_cons]; rfl⟩
  have xo_Far : ExcAt K c_Far (Value.ref c_LimbError :: VE) := ⟨xx_Far, xm_Far, by rw [List.contains_cons]; rfl⟩
  have sN : ExS K c_NoItem := ⟨s1, s2, e6⟩
  have er : ErF K c_NoItem c_Beneath c_Far _ _ _ := ⟨exC_ofI xo_NoItem, exC_of xo_Beneath, exC_of xo_Far, nb, nf, fb⟩
  refine ⟨PySem.W.fnOf "law" "law" (defArgs s_law) (defBody s_law) (defScope s_law) .none kV31 dc31 pm31 an31 cd31 ct31, fun s v => .of_eq rfl, fun base _ _ => ?_⟩
  have F_step_parts := Fn.mk' (ok_step_parts (P := l.prog) (w := w) (mg := mg) (base := base) F1 g_STEP_PARTS T_STEP_PARTS) (PySem.W.mg_of X G a1) k1 b1
  have xi_NoItem : ExI l.prog w K mg base _ c_NoItem (Value.ref c_LimbError :: VE) ["self", "name"] _ := ⟨_, _, xo_NoItem, ok_NoItem_init (P := l.prog) (w := w) (mg := mg) (base := base) F2 sN aN, b2⟩
  have F_name_of := Fn.mk' (ok_name_of (P := l.prog) (w := w) (mg := mg) (base := base) F3 ) (PySem.W.mg_of X G a3) k3 b3
  have Mk_Plain : MkFn l.prog w K mg base _ C_Plain "Plain" ["self"] _ := ⟨L_Plain, g_Plain, _, _, ok_Plain_init (P := l.prog) (w := w) (mg := mg) (base := base) F4 X_Plain, ⟨mk_Plain, a4, i4, kc_Plain⟩, b4⟩
  have M_bring_in : MFn l.prog w K mg base _ C_Plain "bring_in" ["self", "name", "up", "place", "text"] _ := ⟨L_Plain, _, _, ok_Plain_bring_in (P := l.prog) (w := w) (mg := mg) (base := base) F5 X_Plain, ⟨a5, i5, k5⟩, b5⟩
  have M_change : MFn l.prog w K mg base _ C_Plain "change" ["self", "name", "first", "values"] _ := ⟨L_Plain, _, _, ok_Plain_change (P := l.prog) (w := w) (mg := mg) (base := base) F6 X_Plain z_len, ⟨a6, i6, k6⟩, b6⟩
  have MX_check_names : MFnX l.prog w K mg base _ C_Plain "check_names" ["self", "step"] _ := ⟨L_Plain, _, _, ok_Plain_check_namesX (P := l.prog) (w := w) (mg := mg) (base := base) F7 X_Plain F_step_parts z_zip (exCls_of xo_Taken) g_Taken xi_NoItem g_NoItem, ⟨a7, i7, k7⟩, b7⟩
  have M_at_or_beneath : MFn l.prog w K mg base _ C_Plain "at_or_beneath" ["self", "one", "other"] _ := ⟨L_Plain, _, _, ok_Plain_at_or_beneath (P := l.prog) (w := w) (mg := mg) (base := base) F8 X_Plain g_UP, ⟨a8, i8, k8⟩, b8⟩
  have MX_check_bounds : MFnX l.prog w K mg base _ C_Plain "check_bounds" ["self", "step"] _ := ⟨L_Plain, _, _, ok_Plain_check_boundsX (P := l.prog) (w := w) (mg := mg) (base := base) F9 X_Plain M_at_or_beneath g_TEXT z_len (exCls_of xo_Beneath) g_Beneath (exCls_of xo_Far) g_Far, ⟨a9, i9, k9⟩, b9⟩
  have M_part_item : MFn l.prog w K mg base _ C_Plain "part_item" ["self", "name", "at", "new", "place"] _ := ⟨L_Plain, _, _, ok_Plain_part_item (P := l.prog) (w := w) (mg := mg) (base := base) F10 X_Plain M_change M_bring_in g_TEXT g_UP z_max, ⟨a10, i10, k10⟩, b10⟩
  have M_join_items : MFn l.prog w K mg base _ C_Plain "join_items" ["self", "name", "other"] _ := ⟨L_Plain, _, _, ok_Plain_join_items (P := l.prog) (w := w) (mg := mg) (base := base) F11 X_Plain M_change g_TEXT g_UP z_list, ⟨a11, i11, k11⟩, b11⟩
  have M_holds : MFn l.prog w K mg base _ C_Plain "holds" ["self", "name"] _ := ⟨L_Plain, _, _, ok_Plain_holds (P := l.prog) (w := w) (mg := mg) (base := base) F12 X_Plain, ⟨a12, i12, k12⟩, b12⟩
  have MX_step : MFnX l.prog w K mg base _ C_Plain "step" ["self", "step"] _ := ⟨L_Plain, _, _, ok_Plain_stepX (P := l.prog) (w := w) (mg := mg) (base := base) F13 MX_check_names MX_check_bounds M_bring_in M_part_item M_join_items M_change g_FIRST_CHANGED T_FIRST_CHANGED, ⟨a13, i13, k13⟩, b13⟩
  have F_is_turn := Fn.mk' (ok_is_turn (P := l.prog) (w := w) (mg := mg) (base := base) F14 ) (PySem.W.mg_of X G a14) k14 b14
  have F_turned_name := Fn.mk' (ok_turned_name (P := l.prog) (w := w) (mg := mg) (base := base) F15 ) (PySem.W.mg_of X G a15) k15 b15
  have F_last_turns := Fn.mk' (ok_last_turns (P := l.prog) (w := w) (mg := mg) (base := base) F16 F_is_turn F_turned_name) (PySem.W.mg_of X G a16) k16 b16
  have F_is_off := Fn.mk' (ok_is_off (P := l.prog) (w := w) (mg := mg) (base := base) F17 F_name_of F_is_turn) (PySem.W.mg_of X G a17) k17 b17
  have F_step_of := Fn.mk' (ok_step_of (P := l.prog) (w := w) (mg := mg) (base := base) F18 F_name_of) (PySem.W.mg_of X G a18) k18 b18
  have F_word_of_step := Fn.mk' (ok_word_of_step (P := l.prog) (w := w) (mg := mg) (base := base) F19 MX_step er g_NoItem g_Beneath g_Far) (PySem.W.mg_of X G a19) k19 b19
  have F_play := Fn.mk' (ok_play (P := l.prog) (w := w) (mg := mg) (base := base) F20 M_holds MX_step F_step_of F_word_of_step) (PySem.W.mg_of X G a20) k20 b20
  have F_played := Fn.mk' (ok_played (P := l.prog) (w := w) (mg := mg) (base := base) F21 F_last_turns F_is_turn F_name_of F_turned_name F_is_off F_play Mk_Plain) (PySem.W.mg_of X G a21) k21 b21
  have F_words_of := Fn.mk' (ok_words_of (P := l.prog) (w := w) (mg := mg) (base := base) F22 F_played) (PySem.W.mg_of X G a22) k22 b22
  have F_steps_of := Fn.mk' (ok_steps_of (P := l.prog) (w := w) (mg := mg) (base := base) F23 F_played) (PySem.W.mg_of X G a23) k23 b23
  have F_cell_at := Fn.mk' (ok_cell_at (P := l.prog) (w := w) (mg := mg) (base := base) F24 z_len) (PySem.W.mg_of X G a24) k24 b24
  have F_text := Fn.mk' (ok_text (P := l.prog) (w := w) (mg := mg) (base := base) F25 z_range z_len) (PySem.W.mg_of X G a25) k25 b25
  have F_place := Fn.mk' (ok_place (P := l.prog) (w := w) (mg := mg) (base := base) F26 ) (PySem.W.mg_of X G a26) k26 b26
  have F_what := Fn.mk' (ok_what (P := l.prog) (w := w) (mg := mg) (base := base) F27 F_cell_at F_place F_text) (PySem.W.mg_of X G a27) k27 b27
  have F_under := Fn.mk' (ok_under (P := l.prog) (w := w) (mg := mg) (base := base) F28 ) (PySem.W.mg_of X G a28) k28 b28
  have F_word := Fn.mk' (ok_word (P := l.prog) (w := w) (mg := mg) (base := base) F29 F_under z_int) (PySem.W.mg_of X G a29) k29 b29
  have F_steps := Fn.mk' (ok_steps (P := l.prog) (w := w) (mg := mg) (base := base) F30 ) (PySem.W.mg_of X G a30) k30 b30
  exact ok_law F31 F_cell_at F_place F_text F_what F_word F_steps F_words_of F_steps_of z_len z_int z_list
theorem walk {l : PySem.W.OpenLaw} {q : Program} {loose : List Str} {XP : (Str → Option Value) → Heap → Prop} {YP : World → Heap → Prop} {d : DefRec} {K : Params → PySem.W.Frag} (hn : l.most = some 63) (hdf : d.params.defaults = [])
    (hY : ∀ (w : World) (h : Heap), YP w h → (K w.params).In h)
    (F : ∀ (w : World) (mg : Str → Option Value) (fa : Addr) (h : Heap), (K w.params).In h → h.Ns mainGlobals mg → mg d.name = some (.ref fa) →
      ∃ fd : FuncData, (∀ (s : Shared) (u : Value), BindsTo s fd ⟨[u], []⟩ [("_law_script", u)]) ∧ ∀ base : Heap, (K w.params).In base → base.Ns mainGlobals mg → FnOk l.prog w (K w.params) mg base CX0 9 fa fd ["_law_script"] (spLaw (K w.params))) :
    PySem.W.WalkO q loose XP YP l.row.toRowW d [] (fun f vs => PySem.call f vs) :=
  L2.walk_of (n := 63) (k := 9) (x := "_law_script") (CX := fun _ => CX0) (sp := fun w => spLaw (K w.params)) hn (by decide) hdf ⟨rfl, by decide, by decide⟩ hY F (fun _ _ a ns hl _ hS => ⟨a, ns, rfl, hS, hl, fun _ => rfl⟩) fun _ _ _ _ _ z => z
end K31
def PySem.W.Fast.tw14399869913494813113 : Unit := ()
def PySem.W.Fast.tw4521739143147731296 : Unit := ()
def PySem.W.Fast.tw106202023904128463 : Unit := ()
def PySem.W.Fast.tw17440393296635648455 : Unit := ()
def PySem.W.Fast.tw17189578142471379782 : Unit := ()
def PySem.W.Fast.tw6403874218646954389 : Unit := ()
open PySem PySem.W PyProof.Rows
set_option maxRecDepth 100000 in
set_option maxHeartbeats 0 in
theorem PySem.Challenge.cw_limb_k31_words_of_kinds_holds : PySem.Challenge.rw_limb_k31_words_of_kinds.Holds := by
  w_on; o_law; k_head; (case hw => w_witness2)
  k_fill
  refine K31.walk (l := PySem.Challenge.rw_limb_k31_words_of_kinds) rfl rfl (fun w h Y => PySem.W.kIn_of Y) ?F
  case F =>
    intro w mg fa h KX G hmg
    refine' K31.all_mk KX G hmg ?h_Plain ?pg_Plain ?hd_Plain ?po_Plain ?sa_Plain ?mk_Plain ?kc_Plain ?n_Plain_held ?n_Plain_away ?a1 ?l1 ?c1 ?k1 ?hc_NoItem ?a2 ?i2 ?l2 ?c2 ?k2 ?a3 ?l3 ?c3 ?k3 ?a4 ?i4 ?l4 ?c4 ?k4 ?a5 ?i5 ?l5 ?c5 ?k5 ?a6 ?i6 ?l6 ?c6 ?k6 ?a7 ?i7 ?l7 ?c7 ?k7 ?a8 ?i8 ?l8 ?c8 ?k8 ?a9 ?i9 ?l9 ?c9 ?k9 ?a10 ?i10 ?l10 ?c10 ?k10 ?a11 ?i11 ?l11 ?c11 ?k11 ?a12 ?i12 ?l12 ?c12 ?k12 ?a13 ?i13 ?l13 ?c13 ?k13 ?a14 ?l14 ?c14 ?k14 ?a15 ?l15 ?c15 ?k15 ?a16 ?l16 ?c16 ?k16 ?a17 ?l17 ?c17 ?k17 ?a18 ?l18 ?c18 ?k18 ?a19 ?l19 ?c19 ?k19 ?a20 ?l20 ?c20 ?k20 ?a21 ?l21 ?c21 ?k21 ?a22 ?l22 ?c22 ?k22 ?a23 ?l23 ?c23 ?k23 ?a24 ?l24 ?c24 ?k24 ?a25 ?l25 ?c25 ?k25 ?a26 ?l26 ?c26 ?k26 ?a27 ?l27 ?c27 ?k27 ?a28 ?l28 ?c28 ?k28 ?a29 ?l29 ?c29 ?k29 ?a30 ?l30 ?c30 ?k30 ?a31 ?l31 ?c31 ?k31 ?h_TEXT ?h_UP ?h_STEP_PARTS ?t_STEP_PARTS ?h_FIRST_CHANGED ?t_FIRST_CHANGED ?ii_NoItem ?im_NoItem ?if_NoItem ?hc_Taken ?hc_Beneath ?hc_Far ?hc_LimbError ?xx_Taken ?xm_Taken ?xx_Beneath ?xm_Beneath ?xx_Far ?xm_Far ?e6 ?aN ?s1 ?s2 ?nb ?nf ?fb ?y_len ?y_list ?y_zip ?y_range ?y_int ?y_max
    (case h_Plain => k_is)
    (case pg_Plain => k_is)
    (case hd_Plain => k_is)
    (case po_Plain => k_is)
    (case sa_Plain => k_is)
    (case mk_Plain => k_is)
    (case kc_Plain => k_is)
    (case n_Plain_held => k_is)
    (case n_Plain_away => k_is)
    (case a1 => k_is)
    (case l1 => k_is)
    (case c1 => k_is)
    (case k1 => k_is)
    (case hc_NoItem => k_is)
    (case a2 => k_is)
    (case i2 => k_is)
    (case l2 => k_is)
    (case c2 => k_is)
    (case k2 => k_is)
    (case a3 => k_is)
    (case l3 => k_is)
    (case c3 => k_is)
    (case k3 => k_is)
    (case a4 => k_is)
    (case i4 => k_is)
    (case l4 => k_is)
    (case c4 => k_is)
    (case k4 => k_is)
    (case a5 => k_is)
    (case i5 => k_is)
    (case l5 => k_is)
    (case c5 => k_is)
    (case k5 => k_is)
    (case a6 => k_is)
    (case i6 => k_is)
    (case l6 => k_is)
    (case c6 => k_is)
    (case k6 => k_is)
    (case a7 => k_is)
    (case i7 => k_is)
    (case l7 => k_is)
    (case c7 => k_is)
    (case k7 => k_is)
    (case a8 => k_is)
    (case i8 => k_is)
    (case l8 => k_is)
    (case c8 => k_is)
    (case k8 => k_is)
    (case a9 => k_is)
    (case i9 => k_is)
    (case l9 => k_is)
    (case c9 => k_is)
    (case k9 => k_is)
    (case a10 => k_is)
    (case i10 => k_is)
    (case l10 => k_is)
    (case c10 => k_is)
    (case k10 => k_is)
    (case a11 => k_is)
    (case i11 => k_is)
    (case l11 => k_is)
    (case c11 => k_is)
    (case k11 => k_is)
    (case a12 => k_is)
    (case i12 => k_is)
    (case l12 => k_is)
    (case c12 => k_is)
    (case k12 => k_is)
    (case a13 => k_is)
    (case i13 => k_is)
    (case l13 => k_is)
    (case c13 => k_is)
    (case k13 => k_is)
    (case a14 => k_is)
    (case l14 => k_is)
    (case c14 => k_is)
    (case k14 => k_is)
    (case a15 => k_is)
    (case l15 => k_is)
    (case c15 => k_is)
    (case k15 => k_is)
    (case a16 => k_is)
    (case l16 => k_is)
    (case c16 => k_is)
    (case k16 => k_is)
    (case a17 => k_is)
    (case l17 => k_is)
    (case c17 => k_is)
    (case k17 => k_is)
    (case a18 => k_is)
    (case l18 => k_is)
    (case c18 => k_is)
    (case k18 => k_is)
    (case a19 => k_is)
    (case l19 => k_is)
    (case c19 => k_is)
    (case k19 => k_is)
    (case a20 => k_is)
    (case l20 => k_is)
    (case c20 => k_is)
    (case k20 => k_is)
    (case a21 => k_is)
    (case l21 => k_is)
    (case c21 => k_is)
    (case k21 => k_is)
    (case a22 => k_is)
    (case l22 => k_is)
    (case c22 => k_is)
    (case k22 => k_is)
    (case a23 => k_is)
    (case l23 => k_is)
    (case c23 => k_is)
    (case k23 => k_is)
    (case a24 => k_is)
    (case l24 => k_is)
    (case c24 => k_is)
    (case k24 => k_is)
    (case a25 => k_is)
    (case l25 => k_is)
    (case c25 => k_is)
    (case k25 => k_is)
    (case a26 => k_is)
    (case l26 => k_is)
    (case c26 => k_is)
    (case k26 => k_is)
    (case a27 => k_is)
    (case l27 => k_is)
    (case c27 => k_is)
    (case k27 => k_is)
    (case a28 => k_is)
    (case l28 => k_is)
    (case c28 => k_is)
    (case k28 => k_is)
    (case a29 => k_is)
    (case l29 => k_is)
    (case c29 => k_is)
    (case k29 => k_is)
    (case a30 => k_is)
    (case l30 => k_is)
    (case c30 => k_is)
    (case k30 => k_is)
    (case a31 => k_is)
    (case l31 => k_is)
    (case c31 => k_is)
    (case k31 => k_is)
    (case h_TEXT => k_is)
    (case h_UP => k_is)
    (case h_STEP_PARTS => k_is)
    (case t_STEP_PARTS => rfl)
    (case h_FIRST_CHANGED => k_is)
    (case t_FIRST_CHANGED => rfl)
    (case ii_NoItem => kernel_rfl)
    (case im_NoItem => exact ⟨_, _, _, _, rfl, rfl⟩)
    (case if_NoItem => exact ⟨_, rfl, rfl⟩)
    (case hc_Taken => k_is)
    (case hc_Beneath => k_is)
    (case hc_Far => k_is)
    (case hc_LimbError => k_is)
    (case xx_Taken => k_exc)
    (case xm_Taken => exact ⟨_, _, _, _, rfl, rfl⟩)
    (case xx_Beneath => k_exc)
    (case xm_Beneath => exact ⟨_, _, _, _, rfl, rfl⟩)
    (case xx_Far => k_exc)
    (case xm_Far => exact ⟨_, _, _, _, rfl, rfl⟩)
    (case e6 => k_is)
    (case aN => k_is)
    (case s1 => k_is)
    (case s2 => rfl)
    (case nb => rfl)
    (case nf => rfl)
    (case fb => rfl)
    (case y_len => k_is)
    (case y_list => k_is)
    (case y_zip => k_is)
    (case y_range => k_is)
    (case y_int => k_is)
    (case y_max => k_is)
