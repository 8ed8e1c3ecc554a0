import PyProof.Rows.All
import Wide.All
import OpenK.AllK
import Wide.FinOn
import PyProof.EqAt
import PyProof.EqKinds
import PyProof.TupleCall
import Lean
import PySem.Challenge.RW_limb_k17_whole_the_least_ready
set_option Elab.async false
set_option linter.all false
set_option maxRecDepth 100000
/-! THE HAND LAYER, for ints, bools, texts, own classes, LISTS and tuples (index, slices, in, append, pop ..), calls, loops. Paste it whole ahead of your own text; what your proof does not reach may be deleted. -/
namespace L2
open PySem PySem.Spec PyProof.Rows

/-- a key: an int or a str -/
abbrev Key := Sum Int Str
def keyIs : Key → Value → Bool
  | .inl k, v => Value.isInt k v
  | .inr x, v => Value.isStrOf x v
def keyH (w : World) : Key → Int
  | .inl k => hashInt k
  | .inr x => hashStr w x
theorem keyIs_shape : ∀ {k : Key} {v : Value}, keyIs k v = true → (∃ i t, k = Sum.inl i ∧ v = Value.int i t) ∨ (∃ x t, k = Sum.inr x ∧ v = Value.str x t)
  | .inl i, v, h => by
    obtain ⟨t, e⟩ := Value.isInt_shape (k := i) (v := v) h
    exact .inl ⟨i, t, rfl, e⟩
  | .inr x, v, h => by
    obtain ⟨t, e⟩ := Value.isStrOf_shape (x := x) (v := v) h
    exact .inr ⟨x, t, rfl, e⟩
theorem keyIs_int (i : Int) (t : Tok) : keyIs (.inl i) (.int i t) = true := by simp [keyIs, Value.isInt]
theorem keyIs_str (x : Str) (t : Tok) : keyIs (.inr x) (.str x t) = true := by simp [keyIs, Value.isStrOf]
theorem key_ll (a b : Int) : decide ((Sum.inl a : Key) = Sum.inl b) = (a == b) := by
  by_cases e : a = b
  · subst e; simp
  · have h : ¬ (Sum.inl a : Key) = Sum.inl b := fun q => e (Sum.inl.inj q)
    rw [decide_eq_false h]
    exact (beq_eq_false_iff_ne.mpr e).symm
theorem key_rr (a b : Str) : decide ((Sum.inr a : Key) = Sum.inr b) = decide (a = b) := by
  by_cases e : a = b
  · subst e; simp
  · have h : ¬ (Sum.inr a : Key) = Sum.inr b := fun q => e (Sum.inr.inj q)
    rw [decide_eq_false h, decide_eq_false e]
theorem key_lr (a : Int) (b : Str) : decide ((Sum.inl a : Key) = Sum.inr b) = false := decide_eq_false (fun q => nomatch q)
theorem key_rl (a : Str) (b : Int) : decide ((Sum.inr a : Key) = Sum.inl b) = false := decide_eq_false (fun q => nomatch q)

def mixKind (prog : Program) (w : World) : PySem.KeyKind prog w Key where
  is := keyIs
  hash := keyH w
  inj := fun v a b ha hb => by
    rcases keyIs_shape ha with ⟨i, t, rfl, rfl⟩ | ⟨x, t, rfl, rfl⟩
    · rcases keyIs_shape hb with ⟨j, u, rfl, e⟩ | ⟨y, u, rfl, e⟩
      · injection e with e1 _; rw [e1]
      · exact nomatch e
    · rcases keyIs_shape hb with ⟨j, u, rfl, e⟩ | ⟨y, u, rfl, e⟩
      · exact nomatch e
      · injection e with e1 _; rw [e1]
  byValue := fun k v h => by
    rcases keyIs_shape h with ⟨i, t, rfl, rfl⟩ | ⟨x, t, rfl, rfl⟩ <;> rfl
  pyHash := fun hv h => by
    rcases keyIs_shape hv with ⟨i, t, rfl, rfl⟩ | ⟨x, t, rfl, rfl⟩
    · exact wpAny_pyHash_int h
    · exact wpAny_pyHash_str h
  eqBool := fun hu hv h => by
    rcases keyIs_shape hu with ⟨i, t, rfl, rfl⟩ | ⟨x, t, rfl, rfl⟩
    · rcases keyIs_shape hv with ⟨j, u, rfl, rfl⟩ | ⟨y, u, rfl, rfl⟩
      · rw [key_ll] at h; exact wpAny_eqBool_int h
      · rw [key_lr] at h; exact SeqAt.EqAt.int_str i t y u _ _ _ _ h
    · rcases keyIs_shape hv with ⟨j, u, rfl, rfl⟩ | ⟨y, u, rfl, rfl⟩
      · rw [key_rl] at h; exact SeqAt.EqAt.str_int x t j u _ _ _ _ h
      · rw [key_rr] at h; exact wpAny_eqBool_str h
  «strs» := fun k x t v h => by
    rcases keyIs_shape h with ⟨i, u, rfl, e⟩ | ⟨y, u, rfl, e⟩
    · exact nomatch e
    · injection e with e1 _
      subst e1
      cases v <;> rfl

theorem mixKind_int (prog : Program) (w : World) (i : Int) (t : Tok) : (mixKind prog w).is (.inl i) (.int i t) = true := keyIs_int i t
theorem mixKind_str (prog : Program) (w : World) (x : Str) (t : Tok) : (mixKind prog w).is (.inr x) (.str x t) = true := keyIs_str x t
end L2

namespace L2
open PySem PySem.Spec PyProof.Rows

/-- a value, without the heap -/
inductive V where
  | non | bl (b : Bool) | int (i : Int) | str (x : Str) | byt (b : Array UInt8) | flt (b : UInt64) | ref (a : Addr) | ty (n : String)
  deriving DecidableEq

def RelV : V → Value → Prop
  | .non, u => u = Value.none
  | .bl b, u => u = Value.bool b
  | .int i, u => ∃ t, u = Value.int i t
  | .str x, u => ∃ t, u = Value.str x t
  | .byt b, u => ∃ t, u = Value.bytes b t
  | .flt b, u => ∃ t, u = Value.float b t
  | .ref a, u => u = Value.ref a
  | .ty n, u => u = Value.type n

abbrev Vals : List V → List Value → Prop := Paired RelV
theorem Vals.length {xs : List V} {us : List Value} (r : Vals xs us) : xs.length = us.length := Paired.length r
theorem Vals.get : ∀ {xs : List V} {us : List Value} {i : Nat} {x : V}, Vals xs us → xs[i]? = some x → ∃ u, us[i]? = some u ∧ RelV x u
  | _, _, _, _, .nil, e => by simp at e
  | _, _, 0, _, .cons r _, e => by simp at e; subst e; exact ⟨_, rfl, r⟩
  | _, _, i + 1, x, .cons _ t, e => by
    obtain ⟨u, h1, h2⟩ := Vals.get (i := i) (x := x) t (by simpa using e)
    exact ⟨u, by simpa using h1, h2⟩
theorem Vals.set {x : V} {u : Value} (r : RelV x u) : ∀ {xs : List V} {us : List Value} (i : Nat), Vals xs us → Vals (xs.set i x) (us.set i u)
  | _, _, _, .nil => .nil
  | _, _, 0, .cons _ t => .cons r t
  | _, _, i + 1, .cons q t => .cons q (Vals.set r i t)
theorem Vals.append : ∀ {xs ys : List V} {us ws : List Value}, Vals xs us → Vals ys ws → Vals (xs ++ ys) (us ++ ws)
  | _, _, _, _, .nil, s => s
  | _, _, _, _, .cons r t, s => .cons r (Vals.append t s)
theorem Vals.take : ∀ {xs : List V} {us : List Value} (n : Nat), Vals xs us → Vals (xs.take n) (us.take n)
  | _, _, 0, _ => .nil
  | _, _, _ + 1, .nil => .nil
  | _, _, n + 1, .cons r t => .cons r (Vals.take n t)
theorem Vals.drop : ∀ {xs : List V} {us : List Value} (n : Nat), Vals xs us → Vals (xs.drop n) (us.drop n)
  | _, _, 0, r => r
  | _, _, _ + 1, .nil => .nil
  | _, _, n + 1, .cons _ t => Vals.drop n t
theorem Vals.none_of : ∀ {xs : List V} {us : List Value} {i : Nat}, Vals xs us → xs[i]? = none → us[i]? = none := fun {xs us i} r e => by
  have h1 := r.length
  have h2 : xs.length ≤ i := List.getElem?_eq_none_iff.mp e
  exact List.getElem?_eq_none_iff.mpr (by omega)

def RelO : Option V → Option Value → Prop
  | some v, some u => RelV v u
  | none, none => True
  | _, _ => False
def KV {κ : Type} : List (κ × V) → List (κ × Value) → Prop := Paired fun (p : κ × V) (q : κ × Value) => p.1 = q.1 ∧ RelV p.2 q.2

/-- a key of a dict (00_mix): an int or a text -/
def kV : Key → V
  | .inl i => .int i
  | .inr x => .str x

/-- what stands at a tracked address -/
inductive HO where
  /-- a list -/
  | lst (xs : List V)
  /-- a tuple (never changes) -/
  | tup (xs : List V)
  /-- a dict whose keys are ints and texts; one whose keys are tuples of ints and texts (the empty one is both) -/
  | dK (kvs : List (Key × V)) | dT (kvs : List (List Key × V))
  /-- a set of ints: its members, its size -/
  | set (S : Int → Bool) (n : Nat)
  /-- an instance of the class at C, its dict at dx, its attributes -/
  | ins (C dx : Addr) (fs : List (Str × V))
  /-- the dict of the instance at x -/
  | own (x : Addr)
  /-- the dict of an exception -/
  | xd (fs : List (Str × V))
  /-- a bound method, f of x -/
  | met (f x : Addr)
  /-- a range object lo, lo + 1, .. below hi -/
  | rng (lo hi : Int)
  /-- a thing that is known to the object (the script; a dict while a loop walks it): read, never written while it is so -/
  | frz (o : Obj) (u : HO)
  /-- a code object's table -/
  | tbl (ps : Array Value)
  /-- any other thing, by what is true of its one object (a def of one's own: SetO a S n := HO.ext fun h => ..) -/
  | ext (φ : Heap → Prop)

abbrev Hp := Addr → Option HO
def upd (H : Hp) (a : Addr) (o : HO) : Hp := fun b => if b = a then some o else H b
theorem upd_same {H : Hp} {a : Addr} {o : HO} : upd H a o a = some o := by unfold upd; rw [if_pos rfl]
theorem upd_ne {H : Hp} {a b : Addr} {o : HO} (h : b ≠ a) : upd H a o b = H b := by unfold upd; rw [if_neg h]
/-- two objects of different content stand apart -/
theorem ne_of {H : Hp} {a b : Addr} {o u : HO} (h : H a = some o) (h' : H b = some u) (d : o ≠ u) : a ≠ b := by
  intro e; subst e; rw [h] at h'; exact d (Option.some.inj h')
theorem ne_of_none {H : Hp} {a b : Addr} {o : HO} (h : H a = some o) (h' : H b = none) : a ≠ b := by
  intro e; subst e; rw [h] at h'; cases h'

section
variable (P : Program) (w : World)
def ObjOk (H : Hp) (h : Heap) (a : Addr) : HO → Prop
  | .lst xs => xs.length ≤ sizeLine ∧ ∃ (its : List Value) (n : Nat), Vals xs its ∧ h.get? a = some { cls := .type "list", data := .seq its.toArray n }
  | .tup xs => xs.length ≤ sizeLine ∧ ∃ its : List Value, Vals xs its ∧ IsTup h a its.toArray
  | .dK kvs => kvs.length ≤ sizeLine ∧ (a == sysModules) = false ∧ ∃ vs, KV kvs vs ∧ h.DictOf (mixKind P w) a vs
  | .dT kvs => kvs.length ≤ sizeLine ∧ (a == sysModules) = false ∧ ∃ xs : List (List Key × Addr × Value),
      Paired (fun (p : List Key × V) (q : List Key × Addr × Value) => p.1 = q.1 ∧ H q.2.1 = some (.tup (p.1.map kV)) ∧ RelV p.2 q.2.2) kvs xs ∧
      ∃ o es ep, h.get? a = some o ∧ o.ExactDict ∧ o.data = .dict es ep ∧ es.toList = xs.map (entryOfKey (tupleKind (mixKind P w))) ∧ (xs.map (·.1)).Nodup
  | .set S n => h.SetOf (intKind P w) a S n
  | .ins C dx fs => H dx = some (.own a) ∧ fs.length ≤ 1000 ∧ dx ≠ a ∧ h.get? a = some (PySem.W.instObj C dx) ∧
      ∃ mA, h.Ns1 dx mA ∧ (∀ f, RelO (fs.lookup f) (mA f)) ∧ PySem.Within mA (fs.map (·.1))
  | .own _ => ∃ o, h.get? a = some o
  | .xd fs => ∃ mA, h.Ns1 a mA ∧ ∀ f, RelO (fs.lookup f) (mA f)
  | .rng lo hi => ∃ t u v, h.get? a = some { cls := .type "range", data := .fields #[.int lo t, .int hi u, .int 1 v] }
  | .frz o u => h.get? a = some o ∧ ObjOk H h a u
  | .tbl ps => h.get? a = some { cls := .none, data := .fields ps }
  | .met f x => h.get? a = some (PySem.W.methodObj (.ref f) (.ref x))
  | .ext φ => φ h ∧ (∃ o, h.get? a = some o) ∧ ∀ h1 h2 : Heap, φ h1 → (∀ o, h1.get? a = some o → h2.get? a = some o) → φ h2
/-- the abstract heap is held -/
def HOk (H : Hp) (h : Heap) : Prop := ∀ a o, H a = some o → ObjOk P w H h a o
end

section
variable {P : Program} {w : World} {H H' : Hp} {h h' : Heap} {a : Addr} {o : HO}
theorem ObjOk.lt (x : ObjOk P w H h a o) : a < h.objs.size := by
  cases o with
  | lst xs => obtain ⟨_, _, _, _, e⟩ := x; exact Heap.lt_size e
  | tup xs => obtain ⟨_, _, _, p⟩ := x; exact p.lt
  | dK kvs => obtain ⟨_, _, _, _, o, _, _, e, _⟩ := x; exact Heap.lt_size e
  | dT kvs => obtain ⟨_, _, _, _, o, _, _, e, _⟩ := x; exact Heap.lt_size e
  | set S n => obtain ⟨o, _, _, _, e, _⟩ := x; exact Heap.lt_size e
  | ins C dx fs => obtain ⟨_, _, _, e, _⟩ := x; exact Heap.lt_size e
  | own y => obtain ⟨_, e⟩ := x; exact Heap.lt_size e
  | xd fs => obtain ⟨_, ⟨_, _, _, e, _⟩, _⟩ := x; exact Heap.lt_size e
  | rng lo hi => obtain ⟨_, _, _, e⟩ := x; exact Heap.lt_size e
  | frz ob u => obtain ⟨e, _⟩ := x; exact Heap.lt_size e
  | tbl ps => exact Heap.lt_size (show h.get? a = some _ from x)
  | met f y => exact Heap.lt_size (show h.get? a = some _ from x)
  | ext φ => obtain ⟨_, ⟨_, e⟩, _⟩ := x; exact Heap.lt_size e
theorem Paired.mapP {α β : Type} {F G : α → β → Prop} : ∀ {l₁ : List α} {l₂ : List β}, Paired F l₁ l₂ → (∀ a b, F a b → G a b) → Paired G l₁ l₂
  | _, _, .nil, _ => .nil
  | _, _, .cons r t, f => .cons (f _ _ r) (Paired.mapP t f)
/-- what an object's description leans on: its own object, its own dict, the tuples -/
theorem ObjOk.stay (x : ObjOk P w H h a o) (k : ∀ b u, (b = a ∨ H b = some (.own a)) → h.get? b = some u → h'.get? b = some u)
    (ho : ∀ b, H b = some (.own a) → H' b = some (.own a)) (ht : ∀ b xs, H b = some (.tup xs) → H' b = some (.tup xs)) : ObjOk P w H' h' a o := by
  induction o with
  | lst xs => obtain ⟨z, its, n, r, e⟩ := x; exact ⟨z, its, n, r, k _ _ (.inl rfl) e⟩
  | tup xs => obtain ⟨z, its, r, ob, e, c⟩ := x; exact ⟨z, its, r, ob, k _ _ (.inl rfl) e, c⟩
  | dK kvs => obtain ⟨z, y, vs, r, ob, es, ep, e, c⟩ := x; exact ⟨z, y, vs, r, ob, es, ep, k _ _ (.inl rfl) e, c⟩
  | dT kvs =>
    obtain ⟨z, y, xs, r, ob, es, ep, e, c⟩ := x
    exact ⟨z, y, xs, Paired.mapP r fun p q z => ⟨z.1, ht _ _ z.2.1, z.2.2⟩, ob, es, ep, k _ _ (.inl rfl) e, c⟩
  | set S n => obtain ⟨ob, es, ep, t, e, c⟩ := x; exact ⟨ob, es, ep, t, k _ _ (.inl rfl) e, c⟩
  | ins C dx fs =>
    obtain ⟨d, z, ne, e, mA, ⟨od, es, ep, e2, c⟩, r⟩ := x
    exact ⟨ho _ d, z, ne, k _ _ (.inl rfl) e, mA, ⟨od, es, ep, k _ _ (.inr d) e2, c⟩, r⟩
  | own y => obtain ⟨ob, e⟩ := x; exact ⟨ob, k _ _ (.inl rfl) e⟩
  | xd fs => obtain ⟨mA, ⟨od, es, ep, e, c⟩, r⟩ := x; exact ⟨mA, ⟨od, es, ep, k _ _ (.inl rfl) e, c⟩, r⟩
  | rng lo hi => obtain ⟨t, u, v, e⟩ := x; exact ⟨t, u, v, k _ _ (.inl rfl) e⟩
  | frz ob u ih => obtain ⟨e, q⟩ := x; exact ⟨k _ _ (.inl rfl) e, ih q⟩
  | tbl ps =>
    have e : h.get? a = some { cls := .none, data := .fields ps } := x
    show h'.get? a = some { cls := .none, data := .fields ps }
    exact k a _ (.inl rfl) e
  | met f y =>
    have e : h.get? a = some (PySem.W.methodObj (.ref f) (.ref y)) := x
    show h'.get? a = some (PySem.W.methodObj (.ref f) (.ref y))
    exact k a _ (.inl rfl) e
  | ext φ => obtain ⟨p, ⟨o, e⟩, st⟩ := x; exact ⟨st _ _ p fun o q => k _ _ (.inl rfl) q, ⟨o, k _ _ (.inl rfl) e⟩, st⟩
theorem HOk.lt (x : HOk P w H h) (e : H a = some o) : a < h.objs.size := (x a o e).lt
theorem HOk.fresh (x : HOk P w H h) (e : h.objs.size ≤ a) : H a = none := by
  cases q : H a with
  | none => rfl
  | some u => exact absurd (Nat.lt_of_lt_of_le (x.lt q) e) (Nat.lt_irrefl _)
/-- every object of the heap is kept -/
theorem HOk.kept (x : HOk P w H h) (k : ∀ b u, h.get? b = some u → h'.get? b = some u) : HOk P w H h' := fun a o e =>
  (x a o e).stay (fun b u _ q => k b u q) (fun _ q => q) fun _ _ q => q
/-- a new object is laid and tracked -/
theorem HOk.laid (x : HOk P w H h) (k : ∀ b u, h.get? b = some u → h'.get? b = some u) (hp : h.objs.size ≤ a) (new : ObjOk P w (upd H a o) h' a o) : HOk P w (upd H a o) h' := fun b u e => by
  have hn := x.fresh hp
  by_cases hb : b = a
  · subst hb; rw [upd_same] at e; cases e; exact new
  · rw [upd_ne hb] at e
    exact (x b u e).stay (fun c v _ q => k c v q) (fun c q => by rw [upd_ne (ne_of_none q hn)]; exact q) fun c xs q => by rw [upd_ne (ne_of_none q hn)]; exact q
end

/-- what may be read as u: it is u, or a known u -/
def Rd (H : Hp) (a : Addr) (u : HO) : Prop := H a = some u ∨ ∃ o, H a = some (.frz o u)
theorem Rd.of {H : Hp} {a : Addr} {u : HO} (h : H a = some u) : Rd H a u := .inl h
theorem Rd.ok {P : Program} {w : World} {H : Hp} {h : Heap} {a : Addr} {u : HO} (r : Rd H a u) (x : HOk P w H h) : ObjOk P w H h a u := by
  rcases r with r | ⟨o, r⟩
  · exact x a u r
  · obtain ⟨_, q⟩ := x a _ r
    exact q
/-- what may be written -/
def Mut : Option HO → Prop
  | some (.lst _) => True
  | some (.dK _) => True
  | some (.dT _) => True
  | some (.set _ _) => True
  | some (.ins _ _ _) => True
  | some (.ext _) => True
  | _ => False
section
variable {P : Program} {w : World} {H : Hp} {h h' : Heap} {x e : Addr} {o' : HO}
/-- the object at e is changed: x itself, or the dict of the instance x -/
theorem HOk.write (ok : HOk P w H h) (mu : Mut (H x)) (he : e = x ∨ H e = some (.own x)) (k : ∀ b u, b ≠ e → h.get? b = some u → h'.get? b = some u) (heo : ∃ u, h'.get? e = some u)
    (new : ObjOk P w (upd H x o') h' x o') : HOk P w (upd H x o') h' := fun b u q => by
  have nown : ∀ c y, H c = some (.own y) → c ≠ x := fun c y r z => by subst z; rw [r] at mu; exact mu
  have ntup : ∀ c xs, H c = some (.tup xs) → c ≠ x := fun c xs r z => by subst z; rw [r] at mu; exact mu
  by_cases hb : b = x
  · subst hb; rw [upd_same] at q; cases q; exact new
  · rw [upd_ne hb] at q
    by_cases hbe : b = e
    · have q' : H b = some (.own x) := by
        rcases he with z | z
        · exact absurd (hbe.trans z) hb
        · rw [hbe]; exact z
      rw [q] at q'; cases q'
      obtain ⟨v, hv⟩ := heo
      exact ⟨v, by rw [hbe]; exact hv⟩
    · refine (ok b u q).stay (fun c v hc r => k c v ?_ r) (fun c r => by rw [upd_ne (nown c b r)]; exact r) fun c xs r => by rw [upd_ne (ntup c xs r)]; exact r
      rcases hc with rfl | hc
      · exact hbe
      · rintro rfl
        rcases he with z | z
        · exact nown c b hc z
        · rw [hc] at z; cases z; exact hb rfl
end

/-! ### kept unless tracked; of the frames at fs (the callers') the slots may change (an exception that passes writes there); of the records at ex (iterators) nothing is said -/
structure Un (fs ex : List Addr) (H H' : Hp) (h h' : Heap) : Prop where
  keep : ∀ b o, h.get? b = some o → H b = none → b ∉ fs → b ∉ ex → h'.get? b = some o
  slot : ∀ b o, h.get? b = some o → H b = none → b ∈ fs → b ∉ ex → ∃ sl, h'.get? b = some { o with slots := sl }
  free : ∀ b o, h.get? b = some o → H b = none → b ∉ ex → H' b = none
  there : ∀ b o, h.get? b = some o → b ∉ ex → ∃ o', h'.get? b = some o'
  tups : ∀ b xs, H b = some (.tup xs) → H' b = some (.tup xs)
  frzs : ∀ b o u, H b = some (.frz o u) → H' b = some (.frz o u)
  tbls : ∀ b ps, H b = some (.tbl ps) → ∃ more, H' b = some (.tbl (ps ++ more))
section
variable {fs fs' ex ex' : List Addr} {H H1 H2 : Hp} {h h1 h2 h' : Heap} {a x e : Addr} {o : HO}
theorem Un.any (u : Un fs ex H H1 h h1) {b : Addr} {ob : Obj} (q : h.get? b = some ob) (n : H b = none) (hx : b ∉ ex) : ∃ sl, h1.get? b = some { ob with slots := sl } := by
  by_cases hb : b ∈ fs
  · exact u.slot b ob q n hb hx
  · exact ⟨ob.slots, u.keep b ob q n hb hx⟩
theorem Un.trans (a : Un fs ex H H1 h h1) (b : Un fs ex H1 H2 h1 h2) : Un fs ex H H2 h h2 where
  keep := fun c ob q n hc hx => b.keep c ob (a.keep c ob q n hc hx) (a.free c ob q n hx) hc hx
  slot := fun c ob q n hc hx => by
    obtain ⟨sl, e1⟩ := a.slot c ob q n hc hx
    obtain ⟨sl', e2⟩ := b.slot c _ e1 (a.free c ob q n hx) hc hx
    exact ⟨sl', e2⟩
  free := fun c ob q n hx => by
    obtain ⟨o', e1⟩ := a.there c ob q hx
    exact b.free c o' e1 (a.free c ob q n hx) hx
  there := fun c ob q hx => by
    obtain ⟨o', e1⟩ := a.there c ob q hx
    exact b.there c o' e1 hx
  tups := fun c xs q => b.tups c xs (a.tups c xs q)
  frzs := fun c ob xs q => b.frzs c ob xs (a.frzs c ob xs q)
  tbls := fun c ps q => by
    obtain ⟨m1, e1⟩ := a.tbls c ps q
    obtain ⟨m2, e2⟩ := b.tbls c _ e1
    exact ⟨m1 ++ m2, by rw [e2, Array.append_assoc]⟩
theorem Un.kept (k : ∀ b u, h.get? b = some u → h'.get? b = some u) : Un fs ex H H h h' :=
  ⟨fun b ob q _ _ _ => k b ob q, fun b ob q _ _ _ => ⟨ob.slots, k b ob q⟩, fun _ _ _ n _ => n, fun b ob q _ => ⟨ob, k b ob q⟩, fun _ _ q => q, fun _ _ _ q => q, fun _ ps q => ⟨#[], by rw [q]; simp⟩⟩
theorem Un.refl : Un fs ex H H h h := Un.kept fun _ _ q => q
theorem Un.laid (k : ∀ b u, h.get? b = some u → h'.get? b = some u) (hp : h.objs.size ≤ a) (hn : H a = none) : Un fs ex H (upd H a o) h h' where
  keep := fun b u q _ _ _ => k b u q
  slot := fun b u q _ _ _ => ⟨u.slots, k b u q⟩
  free := fun b u q n _ => by rw [upd_ne (Nat.ne_of_lt (Nat.lt_of_lt_of_le (Heap.lt_size q) hp))]; exact n
  there := fun b u q _ => ⟨u, k b u q⟩
  tups := fun b xs q => by rw [upd_ne (ne_of_none q hn)]; exact q
  frzs := fun b u xs q => by rw [upd_ne (ne_of_none q hn)]; exact q
  tbls := fun b ps q => ⟨#[], by rw [upd_ne (ne_of_none q hn), q]; simp⟩
theorem Un.write (mu : Mut (H x)) (he : e = x ∨ H e = some (.own x)) (k : ∀ b u, b ≠ e → h.get? b = some u → h'.get? b = some u) (heo : ∃ u, h'.get? e = some u) : Un fs ex H (upd H x o) h h' := by
  have hx : ∀ b, H b = none → b ≠ x := fun b n z => by subst z; rw [n] at mu; exact mu
  have hb : ∀ b, H b = none → b ≠ e := fun b n z => by
    subst z
    rcases he with r | r
    · exact hx b n r
    · rw [n] at r; cases r
  have hm : ∀ b u, H b = some u → ¬ Mut (some u) → b ≠ x := fun b u q nm z => by subst z; rw [q] at mu; exact nm mu
  refine ⟨fun b u q n _ _ => k b u (hb b n) q, fun b u q n _ _ => ⟨u.slots, k b u (hb b n) q⟩, fun b u q n _ => by rw [upd_ne (hx b n)]; exact n, fun b u q _ => ?_,
    fun b xs q => by rw [upd_ne (hm b _ q fun z => z)]; exact q, fun b u xs q => by rw [upd_ne (hm b _ q fun z => z)]; exact q, fun b ps q => ⟨#[], by rw [upd_ne (hm b _ q fun z => z), q]; simp⟩⟩
  by_cases hbe : b = e
  · subst hbe; exact heo
  · exact ⟨u, k b u hbe q⟩
theorem Un.mono (u : Un fs ex H H1 h h1) (hs : ∀ b ∈ fs, b ∈ fs') (hx : ∀ b ∈ ex, b ∈ ex') : Un fs' ex' H H1 h h1 :=
  ⟨fun b ob q n hb he => u.keep b ob q n (fun z => hb (hs b z)) fun z => he (hx b z), fun _ _ q n _ he => u.any q n fun z => he (hx _ z), fun b ob q n he => u.free b ob q n fun z => he (hx b z), fun b ob q he => u.there b ob q fun z => he (hx b z), u.tups, u.frzs, u.tbls⟩
end

/-! ### the heap without what is tracked -/
def trk (h : Heap) (H : Hp) : List Addr := (List.range h.objs.size).filter fun a => (H a).isSome
def hidT (h : Heap) (H : Hp) : Heap := PySem.W.hideAll h (trk h H)
theorem hidT_size (h : Heap) (H : Hp) : (hidT h H).objs.size = h.objs.size := PySem.W.hideAll_size _ _
theorem hidT_get {h : Heap} {H : Hp} {b : Addr} {o : Obj} (e : h.get? b = some o) (n : H b = none) : (hidT h H).get? b = some o :=
  PySem.W.hideAll_get _ e fun hm => by
    have q : (H b).isSome = true := (List.mem_filter.mp hm).2
    rw [n] at q; simp at q
theorem of_hidT {h : Heap} {H : Hp} {b : Addr} {o : Obj} (e : (hidT h H).get? b = some o) : h.get? b = some o ∧ H b = none := by
  have e' : h.get? b = some o := PySem.W.of_hideAll (trk h H) e
  refine ⟨e', ?_⟩
  cases q : H b with
  | none => rfl
  | some x =>
    have hm : b ∈ trk h H := List.mem_filter.mpr ⟨List.mem_range.mpr (Heap.lt_size e'), by simp [q]⟩
    have z : (hidT h H).get? b = none := PySem.W.hideAll_none (trk h H) hm
    rw [z] at e; cases e

/-! ### OpenK's ledger, filled with every new object but one -/
def allNews (g h : Heap) (L : Addr) : List (Addr × Obj) := (List.range h.objs.size).filterMap fun a => if a = L ∨ (g.get? a).isSome = true then none else (h.get? a).map fun o => (a, o)
def rest (g h : Heap) (L d : Addr) : List (Addr × Obj) := (allNews g h L).filter fun p => decide (p.1 ≠ d)
end L2

namespace L2
open PySem PySem.Spec PyProof.Rows

/-- the module's facts, over the base: the heap at the law's entry without what is tracked there -/
structure Mod (K : PySem.W.Frag) (mg : Str → Option Value) (base : Heap) : Prop where
  kin : K.In base
  glob : base.Ns mainGlobals mg
  blt : ∃ mb, base.Ns builtinsNs mb ∧ ∀ x : Str, x ≠ "__name__" → mb x = bootBuiltins x
  nolimit : base.NoLimit

/-- the context: a def's body (or a comprehension's block) running. base: fixed through the whole law; s₀, H₀: the entry; outer: the frames whose slots others may change (a def's callers); stack: all frames that run;
   ex: iterators that were made ahead of the entry and are walked here (a comprehension's); fn: the names whose cells were made at the entry (a def: all; a comprehension's block: its own); calm: not within an except suite; pn: pins that every state bears; xe: what is wanted of an exception that leaves the code -/
structure Cx where
  prog : Program
  w : World
  K : PySem.W.Frag
  mg : Str → Option Value
  base : Heap
  A : Around
  N : List Str
  s₀ : Shared
  H₀ : Hp
  env : Env
  outer : List Env
  stack : List Env
  ex : List Addr
  fn : Str → Bool
  calm : Bool
  pn : List (Addr × Obj)
  xe : Value → Shared → Prop
/-- the callers' frames -/
def frs (l : List Env) : List Addr := l.filterMap (·.frame)
abbrev Cx.fs (X : Cx) : List Addr := frs X.outer

def Vis (sc : Scope) (x : Str) : Prop := sc.names.lookup x = some .local ∨ sc.names.lookup x = some .cell ∨ sc.names.lookup x = some .free
def Loc (sc : Scope) (x : Str) : Prop := sc.names.lookup x = some .local ∨ sc.names.lookup x = some .cell
def Look (env : Env) (h : Heap) (m : Str → Option Value) (x : Str) (u : Value) : Prop :=
  (env.kindOf x = some .local ∧ m x = some u) ∨ ((env.kindOf x = some .cell ∨ env.kindOf x = some .free) ∧ ∃ c, env.cells.lookup x = some c ∧ h.IsCell c (some u))

structure Cx.Ok (X : Cx) : Prop where
  mod : Mod X.K X.mg X.base
  kind : X.env.scope.kind = .function
  glob : X.env.globals = mainGlobals
  blt : X.env.builtins = builtinsNs
  above : X.s₀.heap.objs.size ≤ X.env.locals
  inj : ∀ x y c, X.env.cells.lookup x = some c → X.env.cells.lookup y = some c → x = y
  has : ∀ x, (X.env.kindOf x = some .cell ∨ X.env.kindOf x = some .free) → ∃ c, X.env.cells.lookup x = some c
  cab : ∀ x c, X.fn x = true → X.env.cells.lookup x = some c → X.s₀.heap.objs.size ≤ c
  hd : X.calm = true → X.A.handled = none
  frames : X.A.frames = some X.stack
  stk : X.stack = X.outer ∨ (X.stack = X.env :: X.outer ∧ X.env.frame = some X.env.locals)
  exf : ∀ b ∈ X.ex, b ≠ X.env.locals ∧ ∀ x c, X.env.cells.lookup x = some c → c ≠ b
  bs : ∀ b o, X.base.get? b = some o → X.s₀.heap.get? b = some o ∧ X.H₀ b = none
  bsz : X.base.objs.size ≤ X.s₀.heap.objs.size
  noex : ∀ b o, X.base.get? b = some o → b ∉ X.ex
  exfs : ∀ b ∈ X.ex, b ∉ X.fs
  funs : X.s₀.heap.FunFrames X.base X.outer
  frf : ∀ b ∈ X.fs, X.H₀ b = none

structure Inv (X : Cx) (pins : List (Addr × Obj)) (σ : List (Option V)) (H : Hp) (s : Shared) : Prop where
  ok : X.Ok
  os : s.os = X.s₀.os
  bare : AllBare s.gens
  base : Un X.fs X.ex X.H₀ H X.s₀.heap s.heap
  loc : ∃ m, s.heap.Ns X.env.locals m ∧ ∀ (i : Nat) (x : Str) (v : V), X.N[i]? = some x → σ[i]? = some (some v) → Vis X.env.scope x → ∃ u, RelV v u ∧ Look X.env s.heap m x u
  cell : ∀ x c, X.env.cells.lookup x = some c → ∃ v, s.heap.IsCell c v
  free : H X.env.locals = none
  freeC : ∀ x c, X.env.cells.lookup x = some c → H c = none
  pin : ∀ p ∈ X.pn ++ pins, s.heap.get? p.1 = some p.2 ∧ H p.1 = none ∧ p.1 ≠ X.env.locals ∧ p.1 ∉ X.fs ∧ ∀ v, p.2.data ≠ .cell v
  hok : HOk X.prog X.w H s.heap
  len : σ.length = X.N.length

section
variable {X : Cx} {pins : List (Addr × Obj)} {σ : List (Option V)} {H H' : Hp} {s : Shared} {h' : Heap}

theorem Cx.Ok.nofr (ok : X.Ok) {b : Addr} {o : Obj} (e : X.base.get? b = some o) : b ∉ X.fs := fun hb => by
  have := (ok.funs.mem hb).1
  rw [e] at this; cases this
theorem Inv.bs (I : Inv X pins σ H s) : ∀ b o, X.base.get? b = some o → s.heap.get? b = some o ∧ H b = none := fun b o e =>
  ⟨I.base.keep b o (I.ok.bs b o e).1 (I.ok.bs b o e).2 (I.ok.nofr e) (I.ok.noex b o e), I.base.free b o (I.ok.bs b o e).1 (I.ok.bs b o e).2 (I.ok.noex b o e)⟩
theorem Inv.bk (I : Inv X pins σ H s) : ∀ b o, X.base.get? b = some o → s.heap.get? b = some o := fun b o e => (I.bs b o e).1
theorem Inv.mod (I : Inv X pins σ H s) : Mod X.K X.mg X.base := I.ok.mod
theorem Inv.kIn (I : Inv X pins σ H s) : X.K.In s.heap := I.ok.mod.kin.keeps I.bk
theorem Inv.nolimit (I : Inv X pins σ H s) : s.heap.NoLimit := I.ok.mod.nolimit.keeps I.bk
/-- the frame over the base: for OpenK's rules (K.In X.base is I.mod.kin) -/
theorem Inv.fr (I : Inv X pins σ H s) : ∃ m, Fr X.base X.env.locals s.heap m :=
  let ⟨m, hn, _⟩ := I.loc
  ⟨m, hn, I.bk, Nat.le_trans I.ok.bsz I.ok.above⟩
theorem Inv.lt (I : Inv X pins σ H s) : X.env.locals < s.heap.objs.size := let ⟨_, hn, _⟩ := I.loc; hn.lt
theorem Inv.sz (I : Inv X pins σ H s) : X.s₀.heap.objs.size ≤ s.heap.objs.size := Nat.le_trans I.ok.above (Nat.le_of_lt I.lt)
theorem Inv.nofs (I : Inv X pins σ H s) {a : Addr} (h : s.heap.objs.size ≤ a) : a ∉ X.fs := fun hb => by
  obtain ⟨_, o, ho, _⟩ := I.ok.funs.mem hb
  exact absurd (Nat.lt_of_lt_of_le (Heap.lt_size ho) (Nat.le_trans I.sz h)) (Nat.lt_irrefl _)
theorem Inv.cne (I : Inv X pins σ H s) : ∀ x c, X.env.cells.lookup x = some c → c ≠ X.env.locals := fun x c e z => by
  obtain ⟨v, o, ho, hd⟩ := I.cell x c e
  obtain ⟨m, ⟨o', es, ep, ho', hd', _⟩, _⟩ := I.loc
  rw [z, ho'] at ho; cases ho; rw [hd'] at hd; cases hd
theorem Inv.funs (I : Inv X pins σ H s) : s.heap.FunFrames X.base X.outer := by
  have all : ∀ (l : List Env), (∀ b ∈ frs l, b ∈ X.fs) → X.s₀.heap.FunFrames X.base l → s.heap.FunFrames X.base l := by
    intro l
    induction l with
    | nil => intro _ _; trivial
    | cons env r ih =>
      intro hs hl
      obtain ⟨hk, ⟨L, o, hf, hn, ho, hd⟩, hr⟩ := hl
      have hL : L ∈ X.fs := hs L (by unfold frs; rw [List.filterMap_cons, hf]; exact List.mem_cons_self)
      obtain ⟨sl, e⟩ := I.base.slot L o ho (I.ok.frf L hL) hL fun z => I.ok.exfs L z hL
      exact ⟨hk, ⟨L, _, hf, hn, e, hd⟩, ih (fun b hb => hs b (by unfold frs; rw [List.filterMap_cons, hf]; exact List.mem_cons_of_mem _ hb)) hr⟩
  exact all X.outer (fun _ hb => hb) I.ok.funs

/-- the frames that run, for a call -/
theorem Inv.stack (I : Inv X pins σ H s) : s.heap.FunFrames X.base X.stack := by
  rcases I.ok.stk with e | ⟨e, hf⟩
  · rw [e]; exact I.funs
  · rw [e]
    obtain ⟨m, hn, _⟩ := I.loc
    refine .cons (by rw [I.ok.kind]; decide) hf hn ?_ I.funs
    exact Heap.get?_none_of_le (Nat.le_trans I.ok.bsz I.ok.above)
theorem Inv.stkSub (I : Inv X pins σ H s) : ∀ b ∈ frs X.stack, b ∈ X.env.locals :: X.fs := fun b hb => by
  rcases I.ok.stk with e | ⟨e, hf⟩
  · rw [e] at hb; exact List.mem_cons_of_mem _ hb
  · rw [e] at hb
    unfold frs at hb
    rw [List.filterMap_cons, hf] at hb
    exact hb
theorem Inv.stkFree (I : Inv X pins σ H s) : ∀ b ∈ frs X.stack, H b = none := fun b hb => by
  rcases List.mem_cons.mp (I.stkSub b hb) with e | hb
  · rw [e]; exact I.free
  · obtain ⟨_, o, ho, _⟩ := I.ok.funs.mem hb
    exact I.base.free b o ho (I.ok.frf b hb) fun z => I.ok.exfs b z hb

/-- THE STEP: the untracked objects but the frame and the records at ch are kept (the callers' frames up to slots), the frame's map is kept, the new abstract heap is held -/
theorem Inv.step {g' : Array GenState} {t' : Nat} {d' : Drawn} {ch : List Addr} (I : Inv X pins σ H s)
    (hch : ∀ b ∈ ch, (b ∈ X.ex ∨ X.s₀.heap.objs.size ≤ b) ∧ b ≠ X.env.locals ∧ (∀ x c, X.env.cells.lookup x = some c → c ≠ b) ∧ ∀ p ∈ X.pn ++ pins, p.1 ≠ b)
    (keep : ∀ b o, b ≠ X.env.locals → b ∉ X.fs → b ∉ ch → s.heap.get? b = some o → H b = none → h'.get? b = some o)
    (slot : ∀ b o, b ≠ X.env.locals → b ∈ X.fs → b ∉ ch → s.heap.get? b = some o → H b = none → ∃ sl, h'.get? b = some { o with slots := sl }) (free : ∀ b o, b ∉ ch → s.heap.get? b = some o → H b = none → H' b = none)
    (there : ∀ b o, b ∉ ch → s.heap.get? b = some o → ∃ o', h'.get? b = some o')
    (tups : ∀ b xs, H b = some (.tup xs) → H' b = some (.tup xs)) (frzs : ∀ b o u, H b = some (.frz o u) → H' b = some (.frz o u)) (tbls : ∀ b ps, H b = some (.tbl ps) → ∃ more, H' b = some (.tbl (ps ++ more)))
    (ns : ∀ m, s.heap.Ns X.env.locals m → h'.Ns X.env.locals m) (hok : HOk X.prog X.w H' h') (hg : AllBare g') :
    Inv X pins σ H' { s with heap := h', gens := g', drawn := d', toks := t' } := by
  have neL : ∀ b o, X.s₀.heap.get? b = some o → b ≠ X.env.locals := fun b o e => Nat.ne_of_lt (Nat.lt_of_lt_of_le (Heap.lt_size e) I.ok.above)
  have neC : ∀ b o, X.s₀.heap.get? b = some o → b ∉ X.ex → b ∉ ch := fun b o e hx hb => by
    rcases (hch b hb).1 with z | z
    · exact hx z
    · exact absurd (Nat.lt_of_lt_of_le (Heap.lt_size e) z) (Nat.lt_irrefl _)
  have cellK : ∀ x c, X.env.cells.lookup x = some c → ∀ v, s.heap.IsCell c v → h'.IsCell c v := fun x c e v ⟨o, ho, hd⟩ => by
    have nch : c ∉ ch := fun z => (hch c z).2.2.1 x c e rfl
    by_cases hc : c ∈ X.fs
    · obtain ⟨sl, q⟩ := slot c o (I.cne x c e) hc nch ho (I.freeC x c e)
      exact ⟨_, q, hd⟩
    · exact ⟨o, keep c o (I.cne x c e) hc nch ho (I.freeC x c e), hd⟩
  refine ⟨I.ok, I.os, hg, ⟨fun b o e n hb hx => ?_, fun b o e n hb hx => ?_, fun b o e n hx => ?_, fun b o e hx => ?_, fun b xs e => tups b xs (I.base.tups b xs e), fun b o xs e => frzs b o xs (I.base.frzs b o xs e), fun b ps e => ?_⟩, ?_, fun x c e => ?_, ?_, fun x c e => ?_, fun p hp => ?_, hok, I.len⟩
  · exact keep b o (neL b o e) hb (neC b o e hx) (I.base.keep b o e n hb hx) (I.base.free b o e n hx)
  · obtain ⟨sl, e1⟩ := I.base.slot b o e n hb hx
    obtain ⟨sl', e2⟩ := slot b _ (neL b o e) hb (neC b o e hx) e1 (I.base.free b o e n hx)
    exact ⟨sl', e2⟩
  · obtain ⟨o', e1⟩ := I.base.there b o e hx
    exact free b o' (neC b o e hx) e1 (I.base.free b o e n hx)
  · obtain ⟨o', e1⟩ := I.base.there b o e hx
    exact there b o' (neC b o e hx) e1
  · obtain ⟨m1, e1⟩ := I.base.tbls b ps e
    obtain ⟨m2, e2⟩ := tbls b _ e1
    exact ⟨m1 ++ m2, by rw [e2, Array.append_assoc]⟩
  · obtain ⟨m, hn, hl⟩ := I.loc
    refine ⟨m, ns m hn, fun i x v e1 e2 e3 => ?_⟩
    obtain ⟨u, r, l⟩ := hl i x v e1 e2 e3
    refine ⟨u, r, ?_⟩
    rcases l with l | ⟨k, c, e, z⟩
    · exact .inl l
    · exact .inr ⟨k, c, e, cellK x c e _ z⟩
  · obtain ⟨v, z⟩ := I.cell x c e
    exact ⟨v, cellK x c e v z⟩
  · obtain ⟨m, ⟨o, _, _, ho, _⟩, _⟩ := I.loc
    exact free _ o (fun z => (hch _ z).2.1 rfl) ho I.free
  · obtain ⟨v, o, ho, hd⟩ := I.cell x c e
    exact free c o (fun z => (hch c z).2.2.1 x c e rfl) ho (I.freeC x c e)
  · obtain ⟨e, n, ne, nf, d⟩ := I.pin p hp
    have nch : p.1 ∉ ch := fun z => (hch p.1 z).2.2.2 p hp rfl
    exact ⟨keep p.1 p.2 ne nf nch e n, free p.1 p.2 nch e n, ne, nf, d⟩
/-- .. where the frame's own object is kept too -/
theorem Inv.un {t' : Nat} (I : Inv X pins σ H s) (u : Un X.fs [] H H' s.heap h') (hok : HOk X.prog X.w H' h') : Inv X pins σ H' { s with heap := h', toks := t' } := by
  obtain ⟨m, ⟨o, es, ep, ho, r⟩, _⟩ := id I.loc
  obtain ⟨sl, hL⟩ := u.any ho I.free (by simp)
  exact I.step (g' := s.gens) (d' := s.drawn) (ch := []) (fun _ z => nomatch z) (fun b o _ hb _ e n => u.keep b o e n hb (by simp)) (fun b o _ hb _ e n => u.slot b o e n hb (by simp)) (fun b o _ e n => u.free b o e n (by simp)) (fun b o _ e => u.there b o e (by simp)) u.tups u.frzs u.tbls (fun m' hm => by
    obtain ⟨o', es', ep', ho', r'⟩ := hm
    rw [ho] at ho'; cases ho'
    exact ⟨_, es', ep', hL, r'⟩) hok I.bare
/-- behind a call (or a comprehension's block): the slots of this frame may have changed too, the records at ch may have turned -/
theorem Inv.call {g' : Array GenState} {t' : Nat} {d' : Drawn} {ch : List Addr} (I : Inv X pins σ H s) (u : Un (frs X.stack) ch H H' s.heap h') (hok : HOk X.prog X.w H' h') (hg : AllBare g')
    (hch : ∀ b ∈ ch, (b ∈ X.ex ∨ X.s₀.heap.objs.size ≤ b) ∧ b ≠ X.env.locals ∧ (∀ x c, X.env.cells.lookup x = some c → c ≠ b) ∧ ∀ p ∈ X.pn ++ pins, p.1 ≠ b) :
    Inv X pins σ H' { s with heap := h', gens := g', drawn := d', toks := t' } := by
  obtain ⟨m, ⟨o, es, ep, ho, r⟩, _⟩ := id I.loc
  obtain ⟨sl, hL⟩ := u.any ho I.free fun z => (hch _ z).2.1 rfl
  exact I.step (ch := ch) hch (fun b o hL hb hc e n => u.keep b o e n (fun z => (List.mem_cons.mp (I.stkSub b z)).elim hL hb) hc) (fun b o _ _ hc e n => u.any e n hc) (fun b o hc e n => u.free b o e n hc) (fun b o hc e => u.there b o e hc) u.tups u.frzs u.tbls (fun m' hm => by
    obtain ⟨o', es', ep', ho', r'⟩ := hm
    rw [ho] at ho'; cases ho'
    exact ⟨_, es', ep', hL, r'⟩) hok hg
/-- an untracked record of ours (an iterator) has turned -/
theorem Inv.turned {t' : Nat} {it : Addr} (I : Inv X pins σ H s) (k : ∀ b o, b ≠ it → s.heap.get? b = some o → h'.get? b = some o) (hn : H it = none) (hL : it ≠ X.env.locals)
    (h1 : it ∈ X.ex ∨ X.s₀.heap.objs.size ≤ it) (h2 : ∀ x c, X.env.cells.lookup x = some c → c ≠ it) (h3 : ∀ p ∈ X.pn ++ pins, p.1 ≠ it) : Inv X pins σ H { s with heap := h', toks := t' } := by
  have nit : ∀ b u, H b = some u → b ≠ it := fun b u e z => by rw [z, hn] at e; cases e
  refine I.step (g' := s.gens) (d' := s.drawn) (ch := [it]) (fun b hb => ?_) (fun b o _ _ hc e _ => k b o (fun z => hc (by simp [z])) e) (fun b o _ _ hc e _ => ⟨o.slots, k b o (fun z => hc (by simp [z])) e⟩) (fun _ _ _ _ n => n)
    (fun b o hc e => ⟨o, k b o (fun z => hc (by simp [z])) e⟩) (fun _ _ e => e) (fun _ _ _ e => e) (fun b ps e => ⟨#[], by rw [e]; simp⟩) (fun m hm => ?_) (fun b u e => ?_) I.bare
  · have e : b = it := by simpa using hb
    subst e
    exact ⟨h1, hL, h2, h3⟩
  · obtain ⟨o, es, ep, ho, r⟩ := hm
    exact ⟨o, es, ep, k _ o (Ne.symm hL) ho, r⟩
  · refine (I.hok b u e).stay (fun c v hc q => k c v ?_ q) (fun _ q => q) fun _ _ q => q
    rcases hc with z | z
    · rw [z]; exact nit b u e
    · exact nit c _ z
theorem Inv.tok (I : Inv X pins σ H s) (t : Nat) : Inv X pins σ H { s with toks := t } := I.un (h' := s.heap) (t' := t) Un.refl I.hok
/-- all objects kept -/
theorem Inv.kept {t' : Nat} (I : Inv X pins σ H s) (k : ∀ b u, s.heap.get? b = some u → h'.get? b = some u) : Inv X pins σ H { s with heap := h', toks := t' } := I.un (Un.kept k) (I.hok.kept k)
/-- a new object laid and tracked -/
theorem Inv.laid {a : Addr} {o : HO} {t' : Nat} (I : Inv X pins σ H s) (k : ∀ b u, s.heap.get? b = some u → h'.get? b = some u) (hp : s.heap.objs.size ≤ a) (new : ObjOk X.prog X.w (upd H a o) h' a o) :
    Inv X pins σ (upd H a o) { s with heap := h', toks := t' } := I.un (Un.laid k hp (I.hok.fresh hp)) (I.hok.laid k hp new)
/-- an object written -/
theorem Inv.write {x e : Addr} {o : HO} {t' : Nat} (I : Inv X pins σ H s) (mu : Mut (H x)) (he : e = x ∨ H e = some (.own x)) (k : ∀ b u, b ≠ e → s.heap.get? b = some u → h'.get? b = some u) (heo : ∃ u, h'.get? e = some u)
    (new : ObjOk X.prog X.w (upd H x o) h' x o) : Inv X pins σ (upd H x o) { s with heap := h', toks := t' } := I.un (Un.write mu he k heo) (I.hok.write mu he k heo new)
/-- forgetting slots, pins -/
theorem Inv.weak {σ' : List (Option V)} (I : Inv X pins σ H s) (hl : σ'.length = σ.length) (w : ∀ (i : Nat) v, σ'[i]? = some (some v) → σ[i]? = some (some v)) : Inv X pins σ' H s :=
  ⟨I.ok, I.os, I.bare, I.base, let ⟨m, hn, hl'⟩ := I.loc; ⟨m, hn, fun i x v e1 e2 e3 => hl' i x v e1 (w i v e2) e3⟩, I.cell, I.free, I.freeC, I.pin, I.hok, hl.trans I.len⟩
theorem Inv.pins_of {pins' : List (Addr × Obj)} (I : Inv X pins σ H s) (h : ∀ p ∈ pins', s.heap.get? p.1 = some p.2 ∧ H p.1 = none ∧ p.1 ≠ X.env.locals ∧ p.1 ∉ X.fs ∧ ∀ v, p.2.data ≠ .cell v) : Inv X pins' σ H s :=
  ⟨I.ok, I.os, I.bare, I.base, I.loc, I.cell, I.free, I.freeC, fun p hp => (List.mem_append.mp hp).elim (fun z => I.pin p (List.mem_append_left _ z)) (h p), I.hok, I.len⟩

theorem nodup_ix {N : List Str} (hN : N.Nodup) {i j : Nat} {x : Str} (a : N[i]? = some x) (b : N[j]? = some x) : i = j := by
  obtain ⟨h1, e1⟩ := List.getElem?_eq_some_iff.mp a
  obtain ⟨h2, e2⟩ := List.getElem?_eq_some_iff.mp b
  exact (List.getElem_inj hN).mp (e1.trans e2.symm)

/-- a name is stored; what changed -/
theorem store_ok2 {M : Model} {A : Around} {E : Value → Shared → Prop} {i : Nat} {x : Str} {v : V} {u : Value} {Q : Unit → Shared → Prop} (I : Inv X pins σ H s) (hN : X.N.Nodup) (hi : X.N[i]? = some x) (hx : Loc X.env.scope x) (r : RelV v u)
    (h : ∀ s', Inv X pins (σ.set i (some v)) H s' → (∃ a, Heap.SameBut a s.heap s'.heap ∧ (a = X.env.locals ∨ X.env.cells.lookup x = some a)) → Q () s') (hf : X.fn x = true ∨ X.env.scope.names.lookup x = some .local := by first | exact .inl rfl | exact .inr rfl | assumption) : wpAny M A (storeName X.env x u) Q E s := by
  obtain ⟨m, hn, hl⟩ := id I.loc
  have hcls : (X.env.scope.kind == .class || (X.env.scope.kind == .module && X.env.locals != X.env.globals)) = false := by rw [I.ok.kind]; rfl
  have hiσ : i < σ.length := by rw [I.len]; exact (List.getElem?_eq_some_iff.mp hi).1
  have cne := I.cne
  have tracked : ∀ {a : Addr} {h' : Heap}, (∃ o, s.heap.get? a = some o ∧ H a = none) → Heap.SameBut a s.heap h' → HOk X.prog X.w H h' := fun {a h'} ha hs b ob e => by
    obtain ⟨_, _, hfree⟩ := ha
    refine (I.hok b ob e).stay (fun c w' hc q => (hs.2 c ?_).trans q) (fun _ q => q) fun _ _ q => q
    rintro rfl
    rcases hc with rfl | hc
    · rw [hfree] at e; cases e
    · rw [hfree] at hc; cases hc
  rcases hx with hk | hk
  · refine wpAny_storeName_local hk hn (fun h' hn' hs => ?_) hcls
    obtain ⟨oL, _, _, hoL, _⟩ := id hn
    refine h _ ⟨I.ok, I.os, I.bare, ⟨fun b o e n hb hx => ?_, fun b o e n hb hx => ?_, I.base.free, fun b o e hx => ?_, I.base.tups, I.base.frzs, I.base.tbls⟩, ⟨_, hn', fun j y v' e1 e2 e3 => ?_⟩, fun y c e => ?_, I.free, I.freeC, fun p hp => ?_, tracked ⟨oL, hoL, I.free⟩ hs, by simpa using I.len⟩ ⟨_, hs, .inl rfl⟩
    · exact (hs.2 b (Nat.ne_of_lt (Nat.lt_of_lt_of_le (Heap.lt_size e) I.ok.above))).trans (I.base.keep b o e n hb hx)
    · obtain ⟨sl, e1⟩ := I.base.slot b o e n hb hx
      exact ⟨sl, (hs.2 b (Nat.ne_of_lt (Nat.lt_of_lt_of_le (Heap.lt_size e) I.ok.above))).trans e1⟩
    · obtain ⟨o', e1⟩ := I.base.there b o e hx
      exact ⟨o', (hs.2 b (Nat.ne_of_lt (Nat.lt_of_lt_of_le (Heap.lt_size e) I.ok.above))).trans e1⟩
    · by_cases hj : j = i
      · subst hj
        rw [hi] at e1; cases e1
        rw [List.getElem?_set_self hiσ] at e2
        cases e2
        exact ⟨u, r, .inl ⟨hk, by simp⟩⟩
      · rw [List.getElem?_set_ne (Ne.symm hj)] at e2
        obtain ⟨u', r', q⟩ := hl j y v' e1 e2 e3
        refine ⟨u', r', ?_⟩
        rcases q with ⟨k, e⟩ | ⟨k, c, e, z⟩
        · refine .inl ⟨k, ?_⟩
          have : y ≠ x := fun e => hj (nodup_ix hN e1 (e ▸ hi))
          simp [this, e]
        · exact .inr ⟨k, c, e, z.sameBut hs (cne y c e)⟩
    · obtain ⟨w', z⟩ := I.cell y c e
      exact ⟨w', z.sameBut hs (cne y c e)⟩
    · obtain ⟨e, n, ne, nf, d⟩ := I.pin p hp
      exact ⟨(hs.2 p.1 ne).trans e, n, ne, nf, d⟩
  · have hfn : X.fn x = true := by
      rcases hf with z | z
      · exact z
      · rw [z] at hk; cases hk
    obtain ⟨c, hc⟩ := I.ok.has x (.inl hk)
    obtain ⟨w', z⟩ := I.cell x c hc
    refine wpAny_storeName_cell I.ok.kind hk hc z (fun h' hc' hs => ?_)
    obtain ⟨oc, hoc, hocd⟩ := id z
    refine h { s with heap := h' } ⟨I.ok, I.os, I.bare, ⟨fun b o e n hb hx => ?_, fun b o e n hb hx => ?_, I.base.free, fun b o e hx => ?_, I.base.tups, I.base.frzs, I.base.tbls⟩, ⟨m, hn.sameBut hs (Ne.symm (cne x c hc)), fun j y v' e1 e2 e3 => ?_⟩, fun y c' e => ?_, I.free, I.freeC, fun p hp => ?_, tracked ⟨oc, hoc, I.freeC x c hc⟩ hs, by simpa using I.len⟩ ⟨c, hs, .inr hc⟩
    · exact (hs.2 b (Nat.ne_of_lt (Nat.lt_of_lt_of_le (Heap.lt_size e) (I.ok.cab x c hfn hc)))).trans (I.base.keep b o e n hb hx)
    · obtain ⟨sl, e1⟩ := I.base.slot b o e n hb hx
      exact ⟨sl, (hs.2 b (Nat.ne_of_lt (Nat.lt_of_lt_of_le (Heap.lt_size e) (I.ok.cab x c hfn hc)))).trans e1⟩
    · obtain ⟨o', e1⟩ := I.base.there b o e hx
      exact ⟨o', (hs.2 b (Nat.ne_of_lt (Nat.lt_of_lt_of_le (Heap.lt_size e) (I.ok.cab x c hfn hc)))).trans e1⟩
    · by_cases hj : j = i
      · subst hj
        rw [hi] at e1; cases e1
        rw [List.getElem?_set_self hiσ] at e2
        cases e2
        exact ⟨u, r, .inr ⟨.inl hk, c, hc, hc'⟩⟩
      · rw [List.getElem?_set_ne (Ne.symm hj)] at e2
        obtain ⟨u', r', q⟩ := hl j y v' e1 e2 e3
        refine ⟨u', r', ?_⟩
        rcases q with q | ⟨k, c', e, z'⟩
        · exact .inl q
        · refine .inr ⟨k, c', e, z'.sameBut hs ?_⟩
          rintro rfl
          exact hj (nodup_ix hN e1 (I.ok.inj _ _ _ e hc ▸ hi))
    · by_cases hcc : c' = c
      · subst hcc; exact ⟨_, hc'⟩
      · obtain ⟨w2, z2⟩ := I.cell y c' e
        exact ⟨w2, z2.sameBut hs hcc⟩
    · obtain ⟨e, n, ne, nf, d⟩ := I.pin p hp
      refine ⟨(hs.2 p.1 ?_).trans e, n, ne, nf, d⟩
      intro q
      rw [q, hoc] at e
      have q' : oc = p.2 := Option.some.inj e
      exact d w' (by rw [← q']; exact hocd)
theorem store_ok {M : Model} {A : Around} {E : Value → Shared → Prop} {i : Nat} {x : Str} {v : V} {u : Value} {Q : Unit → Shared → Prop} (I : Inv X pins σ H s) (hN : X.N.Nodup) (hi : X.N[i]? = some x) (hx : Loc X.env.scope x) (r : RelV v u)
    (h : ∀ s', Inv X pins (σ.set i (some v)) H s' → Q () s') (hf : X.fn x = true ∨ X.env.scope.names.lookup x = some .local := by first | exact .inl rfl | exact .inr rfl | assumption) : wpAny M A (storeName X.env x u) Q E s :=
  store_ok2 I hN hi hx r (fun s' I' _ => h s' I') hf
/-- behind a call or a block, the state as it is -/
theorem Inv.call' {s' : Shared} {ch : List Addr} (I : Inv X pins σ H s) (ho : s'.os = s.os) (u : Un (frs X.stack) ch H H' s.heap s'.heap) (hok : HOk X.prog X.w H' s'.heap) (hg : AllBare s'.gens)
    (hch : ∀ b ∈ ch, (b ∈ X.ex ∨ X.s₀.heap.objs.size ≤ b) ∧ b ≠ X.env.locals ∧ (∀ x c, X.env.cells.lookup x = some c → c ≠ b) ∧ ∀ p ∈ X.pn ++ pins, p.1 ≠ b) : Inv X pins σ H' s' := by
  obtain ⟨h', g', d', t', o'⟩ := s'
  have e : o' = s.os := ho
  subst e
  exact I.call (g' := g') (t' := t') (d' := d') u hok hg hch
end

/-! ### the judgements -/
/-- an exception: its class, its own dict's address (where it has one), the abstract heap behind it -/
abbrev XK := Value → Option Addr → Hp → Prop
abbrev St := List (Option V)
abbrev VK := V → Hp → Prop
/-- an expression's reading; a test's; an argument list's -/
abbrev TE := St → Hp → VK → Prop
abbrev TT := St → Hp → (Bool → Hp → Prop) → Prop
abbrev TA := St → Hp → (List V → Hp → Prop) → Prop
/-- what is wanted behind a statement -/
structure Ends where
  nx : St → Hp → Prop
  rt : VK
  bk : St → Hp → Prop := fun _ _ => False
  ct : St → Hp → Prop := fun _ _ => False
abbrev TS := Ends → St → Hp → Prop

def EP (X : Cx) (pins : List (Addr × Obj)) (σ : St) (Q : VK) (u : Value) (s' : Shared) : Prop := ∃ v H', Inv X pins σ H' s' ∧ RelV v u ∧ Q v H'
def TP (X : Cx) (pins : List (Addr × Obj)) (σ : St) (Q : Bool → Hp → Prop) (b : Bool) (s' : Shared) : Prop := ∃ H', Inv X pins σ H' s' ∧ Q b H'
def AP (X : Cx) (pins : List (Addr × Obj)) (σ : St) (Q : List V → Hp → Prop) (us : List Value) (s' : Shared) : Prop := ∃ vs H', Inv X pins σ H' s' ∧ Vals vs us ∧ Q vs H'
def SP (X : Cx) (pins : List (Addr × Obj)) (D : Ends) (f : Flow) (s' : Shared) : Prop :=
  match f with
  | .next => ∃ σ' H', Inv X pins σ' H' s' ∧ D.nx σ' H'
  | .brk => ∃ σ' H', Inv X pins σ' H' s' ∧ D.bk σ' H'
  | .cont => ∃ σ' H', Inv X pins σ' H' s' ∧ D.ct σ' H'
  | .ret u => ∃ v σ' H', Inv X pins σ' H' s' ∧ RelV v u ∧ D.rt v H'

def PE (X : Cx) (e : Expr) (t : TE) : Prop :=
  ∀ (pins : List (Addr × Obj)) (s : Shared) (σ : St) (H : Hp) (Q : VK), Inv X pins σ H s → t σ H Q → wpAny (model X.prog X.w) X.A (eval e X.env) (EP X pins σ Q) X.xe s
def PT (X : Cx) (e : Expr) (t : TT) : Prop :=
  ∀ (pins : List (Addr × Obj)) (s : Shared) (σ : St) (H : Hp) (Q : Bool → Hp → Prop), Inv X pins σ H s → t σ H Q → wpAny (model X.prog X.w) X.A (isTrue e X.env (eval e X.env)) (TP X pins σ Q) X.xe s
/-- a test whatever its 'whole' is (and, or) -/
def PW (X : Cx) (e : Expr) (t : TT) : Prop :=
  ∀ (whole : Sem Value) (pins : List (Addr × Obj)) (s : Shared) (σ : St) (H : Hp) (Q : Bool → Hp → Prop), Inv X pins σ H s → t σ H Q → wpAny (model X.prog X.w) X.A (isTrue e X.env whole) (TP X pins σ Q) X.xe s
theorem PW.pt {X : Cx} {e : Expr} {t : TT} (h : PW X e t) : PT X e t := h _
/-- an argument list (no star), from the left -/
def PA (X : Cx) (es : List Expr) (t : TA) : Prop :=
  ∀ (pos : Pos) (pins : List (Addr × Obj)) (s : Shared) (σ : St) (H : Hp) (Q : List V → Hp → Prop), Inv X pins σ H s → t σ H Q → wpAny (model X.prog X.w) X.A (spliced (backTo pos (starEach es X.env))) (AP X pins σ Q) X.xe s
def PS (X : Cx) (st : Stmt) (t : TS) : Prop :=
  ∀ (pins : List (Addr × Obj)) (s : Shared) (σ : St) (H : Hp) (D : Ends), Inv X pins σ H s → t D σ H → wpAny (model X.prog X.w) X.A (exec st X.env) (SP X pins D) X.xe s
def PSs (X : Cx) (st : List Stmt) (t : TS) : Prop :=
  ∀ (pins : List (Addr × Obj)) (s : Shared) (σ : St) (H : Hp) (D : Ends), Inv X pins σ H s → t D σ H → wpAny (model X.prog X.w) X.A (execs st X.env) (SP X pins D) X.xe s
/-- weaken the end -/
theorem thn {α : Type} {t : Sem α} {Q Q' : α → Shared → Prop} {M : Model} {A : Around} {E : Value → Shared → Prop} {s : Shared} (h : wpAny M A t Q E s) (hQ : ∀ a s, Q a s → Q' a s) : wpAny M A t Q' E s := wpAny_mono h hQ fun _ _ x => x
end L2

namespace L2
open PySem PySem.Spec PyProof.Rows
section
variable {X : Cx}

/-! ### names and constants -/
def tVar (i : Nat) : TE := fun σ H Q => ∃ v, σ[i]? = some (some v) ∧ Q v H
def tC (v : V) : TE := fun _ H Q => Q v H
theorem pe_var {i : Nat} {x : Str} {pos : Pos} (hN : X.N[i]? = some x) (hv : Vis X.env.scope x) (hd : (x == ("__debug__" : Str)) = false := by decide) (hcd : (x == ("__classdict__" : Str)) = false := by decide) : PE X (.Name x pos) (tVar i) := by
  intro pins s σ H Q I h
  obtain ⟨v, e, h⟩ := h
  obtain ⟨m, hn, hl⟩ := I.loc
  obtain ⟨u, r, l⟩ := hl i x v hN e hv
  have fin : EP X pins σ Q u s := ⟨v, H, I, r, h⟩
  rcases l with ⟨hk, hm⟩ | ⟨hk, c, hc, hcell⟩
  · exact wpAny_Name (wpAny_loadName_local I.ok.kind hk hn hm fin) hd
  · rcases hk with hk | hk
    · exact wpAny_Name (wpAny_loadName_cell I.ok.kind hk hc hcell fin) hd
    · exact wpAny_Name (wpAny_loadName_free I.ok.kind hk hc hcell fin hcd) hd
theorem pe_int {i j pos} : PE X (.Constant (.int i) j pos) (tC (.int i)) := fun _ _ _ H _ I h => wpAny_Constant_int ⟨.int i, H, I.tok _, ⟨_, rfl⟩, h⟩
theorem pe_bl {b j pos} : PE X (.Constant (.bool b) j pos) (tC (.bl b)) := fun _ _ _ H _ I h => Constant_bool ⟨.bl b, H, I, rfl, h⟩
theorem pe_non {j pos} : PE X (.Constant .none j pos) (tC .non) := fun _ _ _ H _ I h => Constant_none ⟨.non, H, I, rfl, h⟩
theorem pe_str {x j pos} : PE X (.Constant (.str x) j pos) (tC (.str x)) := fun _ _ _ H _ I h => Calls.Constant_str ⟨.str x, H, I.tok _, ⟨_, rfl⟩, h⟩

/-- a global name of the def -/
def Gl (X : Cx) (x : Str) : Prop := X.env.kindOf x = some .globalImplicit
theorem ld_glob {E : Value → Shared → Prop} {pins : List (Addr × Obj)} {s : Shared} {σ : St} {H : Hp} {x : Str} {u : Value} {pos : Pos} {Q : Value → Shared → Prop} (I : Inv X pins σ H s) (hg : Gl X x) (hm : X.mg x = some u) (h : Q u s)
    (hd : (x == ("__debug__" : Str)) = false := by decide) : wpAny (model X.prog X.w) X.A (eval (.Name x pos) X.env) Q E s :=
  Calls.Name_function_global I.ok.kind hg (Calls.loadGlobal_global (by rw [I.ok.glob]; exact I.mod.glob.keeps I.bk) hm h) hd
theorem ld_blt {E : Value → Shared → Prop} {pins : List (Addr × Obj)} {s : Shared} {σ : St} {H : Hp} {x : Str} {u : Value} {pos : Pos} {Q : Value → Shared → Prop} (I : Inv X pins σ H s) (hg : Gl X x) (hm : X.mg x = none) (hv : bootBuiltins x = some u) (h : Q u s)
    (hn : x ≠ "__name__" := by decide) (hd : (x == ("__debug__" : Str)) = false := by decide) : wpAny (model X.prog X.w) X.A (eval (.Name x pos) X.env) Q E s := by
  obtain ⟨mb, h1, h2⟩ := I.mod.blt
  exact Calls.Name_function_global I.ok.kind hg (Calls.loadGlobal_builtin (by rw [I.ok.glob]; exact I.mod.glob.keeps I.bk) hm (by rw [I.ok.blt]; exact h1.keeps I.bk) ((h2 x hn).trans hv) h) hd
/-- a module's constant, a class, a function, as a value -/
theorem pe_glob {x : Str} {v : V} {u : Value} {pos : Pos} (hg : Gl X x) (hm : X.mg x = some u) (r : RelV v u) (hd : (x == ("__debug__" : Str)) = false := by decide) : PE X (.Name x pos) (tC v) :=
  fun _ _ _ H _ I h => ld_glob I hg hm ⟨v, H, I, r, h⟩ hd
theorem pe_bltn {x : Str} {v : V} {u : Value} {pos : Pos} (hg : Gl X x) (hm : X.mg x = none) (hv : bootBuiltins x = some u) (r : RelV v u) (hn : x ≠ "__name__" := by decide) (hd : (x == ("__debug__" : Str)) = false := by decide) : PE X (.Name x pos) (tC v) :=
  fun _ _ _ H _ I h => ld_blt I hg hm hv ⟨v, H, I, r, h⟩ hn hd

/-! ### arithmetic -/
variable {a b : Expr} {ta tb : TE} {pos : Pos}
/-! ### comparisons -/
def PC (X : Cx) (op : CmpOp) (a b : Expr) (t : TE) : Prop :=
  ∀ (pins : List (Addr × Obj)) (s : Shared) (σ : St) (H : Hp) (Q : VK), Inv X pins σ H s → t σ H Q →
    wpAny (model X.prog X.w) X.A (eval a X.env) (fun v s₁ => wpAny (model X.prog X.w) X.A (eval b X.env) (fun u s₂ => wpAny (model X.prog X.w) X.A (compareOp op v u) (EP X pins σ Q) X.xe s₂) X.xe s₁) X.xe s
theorem nobehind (b : Expr) {op : CmpOp} (h : op ≠ .In) (h2 : op ≠ .NotIn) : behindInMarks op b = false := by
  have e1 : (op == CmpOp.In) = false := by cases op <;> first | rfl | exact absurd rfl h
  have e2 : (op == CmpOp.NotIn) = false := by cases op <;> first | rfl | exact absurd rfl h2
  cases b <;> simp [behindInMarks, e1, e2]
/-- a comparison as a value, as a test -/
def tB (t : TE) : TT := fun σ H Q => t σ H fun x H1 => ∃ c, x = .bl c ∧ Q c H1
theorem pe_cmp {op : CmpOp} {t : TE} (h : PC X op a b t) (h1 : behindInMarks op b = false := by first | exact nobehind _ (by decide) (by decide) | rfl) : PE X (.Compare a [op] [b] pos) t := fun pins s σ H Q I hw => wpAny_Compare1 (h pins s σ H Q I hw) h1
theorem pt_cmp {op : CmpOp} {t : TE} (h : PC X op a b t) (h1 : behindInMarks op b = false := by first | exact nobehind _ (by decide) (by decide) | rfl) : PT X (.Compare a [op] [b] pos) (tB t) := by
  intro pins s σ H Q I hw
  refine wpAny_isTrue_Compare1 (thn (h pins s σ H _ I hw) fun v s1 h1 => thn h1 fun u s2 h2 => thn h2 fun c s3 ⟨x, H1, I1, r1, q1⟩ => ?_) h1
  obtain ⟨d, rfl, q⟩ := q1
  cases r1
  exact wpAny_truthy_bool ⟨H1, I1, q⟩
/-- an expression whose value is a bool, as a test -/
theorem pt_val {e : Expr} {t : TE} (h : PE X e t) (he : ∀ whole, isTrue e X.env whole = (do let v ← whole; standAt e.pos; holding [v] (truthy v)) := by intro _; rfl) : PT X e (tB t) := by
  intro pins s σ H Q I hw
  refine isTrue_plain (thn (h pins s σ H _ I hw) fun v s1 ⟨x, H1, I1, r1, q1⟩ => ?_) (he _)
  obtain ⟨d, rfl, q⟩ := q1
  cases r1
  exact wpAny_truthy_bool ⟨H1, I1, q⟩

/-! ### and, or, not -/
variable {tA tB' : TT} {rest : List Expr}
def tAnd (t u : TT) : TT := fun σ H Q => t σ H fun c H1 => if c = true then u σ H1 Q else Q false H1
theorem pw_and1 (ha : PT X a tA) : PW X (.BoolOp .And [a] pos) tA := by
  intro wh pins s σ H Q I h
  refine isTrue_and (thn (ha pins s σ H Q I h) fun c s1 e => ?_)
  cases c with
  | true => exact isTrue_and_nil e
  | false => exact e
theorem pw_and (ha : PT X a tA) (hb : PW X (.BoolOp .And (b :: rest) pos) tB') : PW X (.BoolOp .And (a :: b :: rest) pos) (tAnd tA tB') := by
  intro wh pins s σ H Q I h
  refine isTrue_and (thn (ha pins s σ H _ I h) fun c s1 ⟨H1, I1, q1⟩ => ?_)
  cases c with
  | true => exact hb wh pins s1 σ H1 Q I1 q1
  | false => exact ⟨H1, I1, q1⟩
/-- .. as values (bools) -/
def tAndV (ta tb : TE) : TE := fun σ H Q => ta σ H fun x H1 => ∃ c, x = .bl c ∧ if c = true then tb σ H1 Q else Q (.bl false) H1
theorem pe_one {op} {t : TE} (h : PE X a t) : PE X (.BoolOp op [a] pos) t := fun pins s σ H Q I hw => BoolOp_one (h pins s σ H Q I hw)
theorem pe_and (ha : PE X a ta) (hb : PE X (.BoolOp .And (b :: rest) pos) tb) : PE X (.BoolOp .And (a :: b :: rest) pos) (tAndV ta tb) := by
  intro pins s σ H Q I h
  refine BoolOp_and (thn (ha pins s σ H _ I h) fun v s1 ⟨x, H1, I1, r1, q1⟩ => ?_)
  obtain ⟨c, rfl, q1⟩ := q1
  cases r1
  refine wpAny_truthy_bool ?_
  cases c with
  | true => exact hb pins s1 σ H1 Q I1 q1
  | false => exact ⟨.bl false, H1, I1, rfl, q1⟩
/-- a if t else b -/
def tIf (t : TT) (ta tb : TE) : TE := fun σ H Q => t σ H fun c H1 => if c = true then ta σ H1 Q else tb σ H1 Q
theorem pe_ifExp {c : Expr} (hc : PT X c tA) (ha : PE X a ta) (hb : PE X b tb) : PE X (.IfExp c a b pos) (tIf tA ta tb) := by
  intro pins s σ H Q I h
  refine wpAny_IfExp (thn (hc pins s σ H _ I h) fun d s1 ⟨H1, I1, q1⟩ => ?_)
  cases d with
  | true => exact ha pins s1 σ H1 Q I1 q1
  | false => exact hb pins s1 σ H1 Q I1 q1
end
end L2

namespace L2
open PySem PySem.Spec PyProof.Rows

/-! ### a list, a tuple that is read: tracked, frozen, or an object of the module -/
def SqL (K : PySem.W.Frag) (H : Hp) (a : Addr) (xs : List V) : Prop :=
  Rd H a (.lst xs) ∨
    ∃ (o : Obj) (its : Array Value) (n : Nat), K.lookup a = some o ∧ o.cls = .type "list" ∧ o.dict = none ∧ o.data = .seq its n ∧ its.size ≤ sizeLine ∧ Vals xs its.toList
def SqT (K : PySem.W.Frag) (H : Hp) (a : Addr) (xs : List V) : Prop :=
  Rd H a (.tup xs) ∨
    ∃ (o : Obj) (its : Array Value) (n : Nat), K.lookup a = some o ∧ o.cls = .type "tuple" ∧ o.data = .seq its n ∧ its.size ≤ sizeLine ∧ Vals xs its.toList
def absV : Value → Option V
  | .none => some .non
  | .bool b => some (.bl b)
  | .int i _ => some (.int i)
  | .str x _ => some (.str x)
  | .bytes b _ => some (.byt b)
  | .float b _ => some (.flt b)
  | .ref a => some (.ref a)
  | .type n => some (.ty n)
  | _ => none
theorem RelV.abs {x : V} {u : Value} (r : RelV x u) : absV u = some x := by
  cases x with
  | non => cases r; rfl
  | bl _ => cases r; rfl
  | int _ => obtain ⟨t, rfl⟩ := r; rfl
  | str _ => obtain ⟨t, rfl⟩ := r; rfl
  | byt _ => obtain ⟨t, rfl⟩ := r; rfl
  | flt _ => obtain ⟨t, rfl⟩ := r; rfl
  | ref _ => cases r; rfl
  | ty _ => cases r; rfl
theorem RelV.inj {x y : V} {u : Value} (r : RelV x u) (q : RelV y u) : x = y := Option.some.inj (r.abs.symm.trans q.abs)
theorem Vals.inj : ∀ {xs ys : List V} {us : List Value}, Vals xs us → Vals ys us → xs = ys
  | _, _, _, .nil, .nil => rfl
  | _, _, _, .cons r t, .cons r' t' => by rw [r.inj r', Vals.inj t t']
section
variable {X : Cx} {pins : List (Addr × Obj)} {σ : St} {H : Hp} {s : Shared} {a : Addr} {xs ys : List V}
theorem SqL.of {K : PySem.W.Frag} (h : H a = some (.lst xs)) : SqL K H a xs := .inl (.inl h)
theorem SqT.of {K : PySem.W.Frag} (h : H a = some (.tup xs)) : SqT K H a xs := .inl (.inl h)
theorem Inv.list (I : Inv X pins σ H s) (h : SqL X.K H a xs) : ∃ its : List Value, Vals xs its ∧ PlainL s.heap a its.toArray ∧ xs.length ≤ sizeLine := by
  rcases h with h | ⟨o, its, n, hk, hc, hd, hs, hz, r⟩
  · obtain ⟨z, its, n, r, e⟩ := h.ok I.hok
    exact ⟨its, r, ⟨_, n, e, rfl, rfl, rfl⟩, z⟩
  · refine ⟨its.toList, r, ⟨o, n, I.kIn a o hk, hc, hd, by simpa using hs⟩, ?_⟩
    have e := r.length
    simp only [Array.length_toList] at e
    omega
theorem Inv.tuple (I : Inv X pins σ H s) (h : SqT X.K H a xs) : ∃ its : List Value, Vals xs its ∧ IsTup s.heap a its.toArray ∧ xs.length ≤ sizeLine := by
  rcases h with h | ⟨o, its, n, hk, hc, hs, hz, r⟩
  · obtain ⟨z, its, r, p⟩ := h.ok I.hok
    exact ⟨its, r, p, z⟩
  · refine ⟨its.toList, r, ⟨o, I.kIn a o hk, hc, n, by simpa using hs⟩, ?_⟩
    have e := r.length
    simp only [Array.length_toList] at e
    omega
theorem Inv.list_inj (I : Inv X pins σ H s) (h : SqL X.K H a xs) (h' : SqL X.K H a ys) : xs = ys := by
  obtain ⟨its, r, ⟨o, n, e, _, _, d⟩, _⟩ := I.list h
  obtain ⟨its', r', ⟨o', n', e', _, _, d'⟩, _⟩ := I.list h'
  rw [e] at e'; cases e'
  rw [d] at d'
  injection d' with d1 _
  have : its = its' := by simpa using congrArg Array.toList d1
  subst this
  exact r.inj r'
end

/-! ### another wish about exceptions -/
abbrev Cx.wish (X : Cx) (E : Value → Shared → Prop) : Cx := { X with xe := E }
/-- no exception leaves -/
abbrev Cx.nox (X : Cx) : Cx := X.wish fun _ _ => False
theorem Cx.Ok.wish {X : Cx} (ok : X.Ok) (E : Value → Shared → Prop) : (X.wish E).Ok :=
  ⟨ok.mod, ok.kind, ok.glob, ok.blt, ok.above, ok.inj, ok.has, ok.cab, ok.hd, ok.frames, ok.stk, ok.exf, ok.bs, ok.bsz, ok.noex, ok.exfs, ok.funs, ok.frf⟩
theorem Cx.Ok.unwish {X : Cx} {E : Value → Shared → Prop} (ok : (X.wish E).Ok) : X.Ok :=
  ⟨ok.mod, ok.kind, ok.glob, ok.blt, ok.above, ok.inj, ok.has, ok.cab, ok.hd, ok.frames, ok.stk, ok.exf, ok.bs, ok.bsz, ok.noex, ok.exfs, ok.funs, ok.frf⟩
section
variable {X : Cx} {pins : List (Addr × Obj)} {σ : St} {H : Hp} {s : Shared} {E : Value → Shared → Prop}
theorem Inv.wish (I : Inv X pins σ H s) (E : Value → Shared → Prop) : Inv (X.wish E) pins σ H s := ⟨I.ok.wish E, I.os, I.bare, I.base, I.loc, I.cell, I.free, I.freeC, I.pin, I.hok, I.len⟩
theorem Inv.unwish (I : Inv (X.wish E) pins σ H s) : Inv X pins σ H s := ⟨I.ok.unwish, I.os, I.bare, I.base, I.loc, I.cell, I.free, I.freeC, I.pin, I.hok, I.len⟩
theorem SP.unwish {D : Ends} {f : Flow} {s' : Shared} (h : SP (X.wish E) pins D f s') : SP X pins D f s' := by
  cases f with
  | next => obtain ⟨σ', H', I, q⟩ := h; exact ⟨σ', H', I.unwish, q⟩
  | brk => obtain ⟨σ', H', I, q⟩ := h; exact ⟨σ', H', I.unwish, q⟩
  | cont => obtain ⟨σ', H', I, q⟩ := h; exact ⟨σ', H', I.unwish, q⟩
  | ret u => obtain ⟨v, σ', H', I, r, q⟩ := h; exact ⟨v, σ', H', I.unwish, r, q⟩
theorem PE.nox {e : Expr} {t : TE} (h : PE X.nox e t) : PE X e t := fun pins s σ H Q I hw =>
  wpAny_mono (h pins s σ H Q (I.wish _) hw) (fun _ _ ⟨v, H', I', r, q⟩ => ⟨v, H', I'.unwish, r, q⟩) fun _ _ z => False.elim z
theorem PT.nox {e : Expr} {t : TT} (h : PT X.nox e t) : PT X e t := fun pins s σ H Q I hw =>
  wpAny_mono (h pins s σ H Q (I.wish _) hw) (fun _ _ ⟨H', I', q⟩ => ⟨H', I'.unwish, q⟩) fun _ _ z => False.elim z
theorem PSs.nox {st : List Stmt} {t : TS} (h : PSs X.nox st t) : PSs X st t := fun pins s σ H D I hw =>
  wpAny_mono (h pins s σ H D (I.wish _) hw) (fun _ _ q => q.unwish) fun _ _ z => False.elim z
end

/-! ### blocks and small statements -/
section
variable {X : Cx} {st : Stmt} {rest : List Stmt} {t u : TS} {e : Expr} {te : TE} {pos : Pos}
def tNext : TS := fun D σ H => D.nx σ H
def tSeq (t u : TS) : TS := fun D σ H => t { D with nx := u D } σ H
theorem pss_nil : PSs X [] tNext := fun _ _ σ H _ I h => wpAny_execs_nil ⟨σ, H, I, h⟩
theorem pss_cons (h1 : PS X st t) (h2 : PSs X rest u) : PSs X (st :: rest) (tSeq t u) := by
  intro pins s σ H D I h
  refine wpAny_execs_cons (thn (h1 pins s σ H { D with nx := u D } I h) fun f s1 q => ?_)
  cases f with
  | next =>
    obtain ⟨σ', H', I', q⟩ := q
    exact h2 pins s1 σ' H' D I' q
  | ret v => exact q
  | brk => exact q
  | cont => exact q
theorem pss_one (h1 : PS X st t) : PSs X [st] t := by
  intro pins s σ H D I h
  refine wpAny_execs_cons (thn (h1 pins s σ H D I h) fun f s1 q => ?_)
  cases f with
  | next => exact wpAny_execs_nil q
  | ret v => exact q
  | brk => exact q
  | cont => exact q
/-- in a def's body nothing is shown -/
theorem Inv.quiet {pins : List (Addr × Obj)} {σ : St} {H : Hp} {s : Shared} (I : Inv X pins σ H s) : interactive X.env = false := by simp [interactive, I.ok.kind]
/-- an expression whose value is dropped -/
def tDrop (te : TE) : TS := fun D σ H => te σ H fun _ H1 => D.nx σ H1
theorem ps_expr (he : PE X e te) (hs : swapsWith e none pos.line X.env = pure false := by rfl) : PS X (.Expr e pos) (tDrop te) := by
  intro pins s σ H D I h
  exact wpAny_Expr_any (thn (he pins s σ H _ I h) fun v s1 ⟨x, H1, I1, r1, q1⟩ => ⟨σ, H1, I1, q1⟩) I.quiet hs
def tRet (te : TE) : TS := fun D σ H => te σ H D.rt
theorem ps_ret (he : PE X e te) : PS X (.Return (some e) pos) (tRet te) := by
  intro pins s σ H D I h
  exact wpAny_Return_some (thn (he pins s σ H _ I h) fun v s1 ⟨x, H1, I1, r1, q1⟩ => ⟨x, σ, H1, I1, r1, q1⟩)
def tIfS (c : TT) (t u : TS) : TS := fun D σ H => c σ H fun b H1 => if b = true then t D σ H1 else u D σ H1
theorem ps_if {c : Expr} {a b : List Stmt} {tc : TT} (hc : PT X c tc) (ha : PSs X a t) (hb : PSs X b u) : PS X (.If c a b pos) (tIfS tc t u) := by
  intro pins s σ H D I h
  refine wpAny_If (thn (hc pins s σ H _ I h) fun d s1 ⟨H1, I1, q1⟩ => ?_)
  cases d with
  | true => exact ha pins s1 σ H1 D I1 q1
  | false => exact hb pins s1 σ H1 D I1 q1
end

/-! ### targets -/
abbrev TG := V → St → Hp → (St → Hp → Prop) → Prop
abbrev TGs := List V → St → Hp → (St → Hp → Prop) → Prop
def PG (X : Cx) (target : Expr) (t : TG) : Prop :=
  ∀ (pins : List (Addr × Obj)) (s : Shared) (σ : St) (H : Hp) (v : V) (u : Value) (Q : St → Hp → Prop), Inv X pins σ H s → RelV v u → t v σ H Q →
    wpAny (model X.prog X.w) X.A (assign target X.env u) (fun _ s' => ∃ σ' H', Inv X pins σ' H' s' ∧ Q σ' H') X.xe s
/-- several targets, one after another -/
def PGs (X : Cx) (ts : List Expr) (t : TGs) : Prop :=
  ∀ (pins : List (Addr × Obj)) (s : Shared) (σ : St) (H : Hp) (vs : List V) (us : List Value) (Q : St → Hp → Prop), Inv X pins σ H s → Vals vs us → t vs σ H Q →
    wpAny (model X.prog X.w) X.A (assignInOrder ((assignEach ts X.env).map (·.2)) us) (fun _ s' => ∃ σ' H', Inv X pins σ' H' s' ∧ Q σ' H') X.xe s
/-- o[i] = v, by values -/
abbrev TSet := V → V → V → Hp → (Hp → Prop) → Prop
def PSet (X : Cx) (t : TSet) : Prop :=
  ∀ (pins : List (Addr × Obj)) (s : Shared) (σ : St) (H : Hp) (o i v : V) (ov iv u : Value) (Q : Hp → Prop), Inv X pins σ H s → RelV o ov → RelV i iv → RelV v u → t o i v H Q →
    wpAny (model X.prog X.w) X.A (setItem ov iv u) (fun _ s' => ∃ H', Inv X pins σ H' s' ∧ Q H') X.xe s
/-- a op= b, by values -/
abbrev TIp := V → V → Hp → VK → Prop
def PIp (X : Cx) (op : Operator) (t : TIp) : Prop :=
  ∀ (pins : List (Addr × Obj)) (s : Shared) (σ : St) (H : Hp) (x y : V) (v u : Value) (Q : VK), Inv X pins σ H s → RelV x v → RelV y u → t x y H Q →
    wpAny (model X.prog X.w) X.A (inplaceOp op v u) (EP X pins σ Q) X.xe s
section
variable {X : Cx} {pos : Pos}
def gName (i : Nat) : TG := fun v σ H Q => Q (σ.set i (some v)) H
theorem pg_name {i : Nat} {x : Str} (hN : X.N.Nodup) (hi : X.N[i]? = some x) (hx : Loc X.env.scope x) (hf : X.fn x = true ∨ X.env.scope.names.lookup x = some .local := by first | exact .inl rfl | exact .inr rfl | assumption) : PG X (.Name x pos) (gName i) := by
  intro pins s σ H v u Q I r h
  exact wpAny_assign_Name (store_ok I hN hi hx r (fun s' I' => ⟨_, H, I', h⟩) hf)
def gNil : TGs := fun vs σ H Q => vs = [] ∧ Q σ H
def gCons (t : TG) (u : TGs) : TGs := fun vs σ H Q => ∃ v r, vs = v :: r ∧ t v σ H fun σ' H' => u r σ' H' Q
theorem pgs_nil : PGs X [] gNil := by
  intro pins s σ H vs us Q I r h
  obtain ⟨e, h⟩ := h
  subst e
  cases r
  exact assignInOrder_nil ⟨σ, H, I, h⟩
theorem pgs_cons {e : Expr} {es : List Expr} {t : TG} {u : TGs} (h1 : PG X e t) (h2 : PGs X es u)
    (hs : (assignEach (e :: es) X.env).map (·.2) = assign e X.env :: (assignEach es X.env).map (·.2) := by rfl) : PGs X (e :: es) (gCons t u) := by
  intro pins s σ H vs us Q I r h
  obtain ⟨v, vr, e1, h⟩ := h
  subst e1
  cases r with
  | cons r rr =>
    rw [hs]
    refine assignInOrder_cons (thn (h1 pins s σ H _ _ _ I r h) fun _ s1 ⟨σ1, H1, I1, q1⟩ => ?_)
    exact h2 pins s1 σ1 H1 _ _ Q I1 rr q1
/-- (a, b, ..) = a tuple of that length -/
def gTup (K : PySem.W.Frag) (n : Nat) (t : TGs) : TG := fun v σ H Q => ∃ a xs, v = .ref a ∧ SqT K H a xs ∧ xs.length = n ∧ t xs σ H Q
theorem pg_tup {es : List Expr} {k : Nat} {t : TGs} {n : Nat} (hc : X.calm = true) (h : PGs X es t)
    (hn : (assignEach es X.env).length = n := by rfl) (hst : (assignEach es X.env).findIdx? (·.1) = none := by rfl) : PG X (.Tuple es k pos) (gTup X.K n t) := by
  intro pins s σ H v u Q I r hw
  obtain ⟨a, xs, e1, hq, hl, hw⟩ := hw
  subst e1
  cases r
  obtain ⟨its, rv, ht, hz⟩ := I.tuple hq
  refine assign_Tuple_tuple (I.ok.hd hc) ht (by simp [hn, ← hl, rv.length]) hst fun h' hx => ?_
  have I1 : Inv X pins σ H { s with heap := h' } := I.kept (t' := s.toks) fun b o e => hx b o (Nat.ne_of_lt (Heap.lt_size e)) e
  exact h pins _ σ H xs _ Q I1 (by simpa using rv) hw
/-- o[i] = .. -/
def gSub (to ti : TE) (t : TSet) : TG := fun v σ H Q => to σ H fun o H1 => ti σ H1 fun i H2 => t o i v H2 fun H3 => Q σ H3
theorem pg_sub {o i : Expr} {to ti : TE} {t : TSet} (ho : PE X o to) (hi : PE X i ti) (hs : PSet X t)
    (ha : ∀ v, assign (.Subscript o i pos) X.env v = (do
      let ov ← holding [v] (eval o X.env)
      let iv ← holding [v, ov] (eval i X.env)
      standAt pos
      holding [v, ov, iv] (setItem ov iv v)
      release [v, ov, iv] []) := by intro _; rfl) : PG X (.Subscript o i pos) (gSub to ti t) := by
  intro pins s σ H v u Q I r h
  rw [ha]
  refine wpAny_bind (wpAny_holding (thn (ho pins s σ H _ I h) fun ov s1 ⟨x, H1, I1, r1, q1⟩ => ?_))
  refine wpAny_bind (wpAny_holding (thn (hi pins s1 σ H1 _ I1 q1) fun iv s2 ⟨y, H2, I2, r2, q2⟩ => ?_))
  refine wpAny_bind (wpAny_standAt (wpAny_bind (wpAny_holding (thn (hs pins s2 σ H2 x y v ov iv u _ I2 r1 r2 r q2) fun _ s3 ⟨H3, I3, q3⟩ => ?_))))
  exact wpAny_release ⟨σ, H3, I3, q3⟩
/-- target = value -/
def tAsg (te : TE) (g : TG) : TS := fun D σ H => te σ H fun x H1 => g x σ H1 D.nx
theorem ps_asg {tg e : Expr} {te : TE} {g : TG} (he : PE X e te) (hg : PG X tg g) (hs : swapsWithSole [tg] e pos.line X.env = pure false := by rfl) (hw : swappedStores [tg] e X.env = pure none := by rfl)
    (h1 : (assignEach [tg] X.env).map (·.2) = [assign tg X.env] := by rfl) : PS X (.Assign [tg] e pos) (tAsg te g) := by
  intro pins s σ H D I h
  refine wpAny_Assign_stores (thn (he pins s σ H _ I h) fun v s1 ⟨x, H1, I1, r1, q1⟩ => ?_) hs hw
  rw [h1]
  exact thn (hg pins s1 σ H1 x v _ I1 r1 q1) fun _ s2 q => q
/-- name = value -/
theorem ps_set {i : Nat} {x : Str} {e : Expr} {te : TE} {pos' : Pos} (hN : X.N.Nodup) (hi : X.N[i]? = some x) (hx : Loc X.env.scope x) (he : PE X e te) (hs : swapsWith e (some (.Name x pos')) pos.line X.env = pure false := by rfl) (hf : X.fn x = true ∨ X.env.scope.names.lookup x = some .local := by first | exact .inl rfl | exact .inr rfl | assumption) :
    PS X (.Assign [.Name x pos'] e pos) (tAsg te (gName i)) := by
  intro pins s σ H D I h
  refine wpAny_Assign_Name (thn (he pins s σ H _ I h) fun v s1 ⟨y, H1, I1, r1, q1⟩ => ?_) hs
  exact store_ok I1 hN hi hx r1 (fun s2 I2 => ⟨_, H1, I2, q1⟩) hf
end

/-! ### while -/
section
variable {X : Cx} {pos : Pos}
/-- the invariant W with its measure -/
def tWhile (c : TT) (tb : TS) : TS := fun D σ H => ∃ W : Nat → St → Hp → Prop, (∃ m, W m σ H) ∧ ∀ m σ H, W m σ H →
  c σ H fun b H1 => if b = true then ∃ N : St → Hp → Prop, (∀ σ' H', N σ' H' → ∃ m', m' < m ∧ W m' σ' H') ∧ tb { D with nx := N, ct := N, bk := D.nx } σ H1 else D.nx σ H1
theorem ps_while {c : Expr} {body : List Stmt} {tc : TT} {tb : TS} (hp : PassesOwn (model X.prog X.w) X.A X.env X.xe) (hc : PT X c tc) (hb : PSs X body tb) : PS X (.While c body [] pos) (tWhile tc tb) := by
  intro pins s σ H D I h
  obtain ⟨W, ⟨m0, w0⟩, turn⟩ := h
  refine wpAny_While (codeAny_whileLoop (fun n s' => ∃ σ' H', Inv X pins σ' H' s' ∧ W n σ' H') ?_ m0 ⟨σ, H, I, w0⟩)
  rintro n s1 ⟨σ1, H1, I1, w1⟩
  refine wpAny_passesOwn hp (thn (hc pins s1 σ1 H1 _ I1 (turn n σ1 H1 w1)) fun b s2 ⟨H2, I2, q2⟩ => ?_)
  cases b with
  | true =>
    obtain ⟨N, hN, q2⟩ := q2
    rw [if_pos rfl]
    refine wpAny_passesOwn hp (thn (hb pins s2 σ1 H2 _ I2 q2) fun f s3 q3 => ?_)
    cases f with
    | next =>
      obtain ⟨σ3, H3, I3, n3⟩ := q3
      obtain ⟨m', hm, w3⟩ := hN σ3 H3 n3
      exact ⟨m', hm, σ3, H3, I3, w3⟩
    | cont =>
      obtain ⟨σ3, H3, I3, n3⟩ := q3
      obtain ⟨m', hm, w3⟩ := hN σ3 H3 n3
      exact ⟨m', hm, σ3, H3, I3, w3⟩
    | brk => exact q3
    | ret v => exact q3
  | false =>
    rw [if_neg Bool.false_ne_true]
    exact wpAny_execs_nil ⟨σ1, H2, I2, q2⟩
end

/-! ### what a loop or a comprehension walks -/
/-- at turn i: it yields x (the heap may grow), or it stops -/
structure It where
  go : Nat → Hp → Prop
  yld : Nat → Hp → V → Hp → Prop
  stop : Nat → Hp → Prop
/-- the iterator's own objects may turn: they are not the frame's, not pinned, younger than the entry (or a comprehension's own) -/
def FpOk (X : Cx) (pins : List (Addr × Obj)) (H : Hp) (b : Addr) : Prop :=
  H b = none ∧ b ≠ X.env.locals ∧ b ∉ X.fs ∧ (b ∈ X.ex ∨ X.s₀.heap.objs.size ≤ b) ∧ (∀ x c, X.env.cells.lookup x = some c → c ≠ b) ∧ ∀ p ∈ X.pn ++ pins, p.1 ≠ b
theorem Inv.fpOk {X : Cx} {pins : List (Addr × Obj)} {σ : St} {H H' : Hp} {s : Shared} {b : Addr} (I : Inv X pins σ H s) (hb : s.heap.objs.size ≤ b) (hn : H' b = none) : FpOk X pins H' b := by
  refine ⟨hn, Nat.ne_of_gt (Nat.lt_of_lt_of_le I.lt hb), I.nofs hb, .inr (Nat.le_trans I.sz hb), fun x c e z => ?_, fun p hp z => ?_⟩
  · obtain ⟨v, q⟩ := I.cell x c e
    exact absurd (Nat.lt_of_lt_of_le q.lt (by rw [z]; exact hb)) (Nat.lt_irrefl _)
  · exact absurd (Nat.lt_of_lt_of_le (Heap.lt_size (I.pin p hp).1) (by rw [z]; exact hb)) (Nat.lt_irrefl _)
structure Turn (P : Program) (w : World) (K : PySem.W.Frag) (tg : Expr) (J : It) (fp : List Addr) (it : Addr) (tn : Nat → Heap → Prop) : Prop where
  mem : it ∈ fp
  obj : ∀ i h, tn i h → ∀ b ∈ fp, ∃ o, h.get? b = some o ∧ ∀ v, o.data ≠ .cell v
  keep : ∀ i h h', tn i h → (∀ b ∈ fp, ∀ o, h.get? b = some o → h'.get? b = some o) → tn i h'
  item : ∀ (X : Cx), X.prog = P → X.w = w → X.K = K → X.calm = true → ∀ (i : Nat) (pins : List (Addr × Obj)) (s : Shared) (σ : St) (H : Hp) (E : Value → Shared → Prop), Inv X pins σ H s → (∀ b ∈ fp, FpOk X pins H b) → tn i s.heap → J.go i H →
    wpAny (model P w) X.A (pyNext (.ref it)) (fun r s1 => ∃ u, r = some u ∧
      wpAny (model P w) X.A (letOwnedTupleGo tg (.ref it) u) (fun _ s2 => ∃ x H', Inv X pins σ H' s2 ∧ RelV x u ∧ J.yld i H x H' ∧ tn (i + 1) s2.heap ∧ ∀ b ∈ fp, H' b = none) E s1) E s
  done : ∀ (X : Cx), X.prog = P → X.w = w → X.K = K → X.calm = true → ∀ (i : Nat) (pins : List (Addr × Obj)) (s : Shared) (σ : St) (H : Hp) (E : Value → Shared → Prop), Inv X pins σ H s → (∀ b ∈ fp, FpOk X pins H b) → tn i s.heap → J.stop i H →
    wpAny (model P w) X.A (pyNext (.ref it)) (fun r s1 => r = none ∧ Inv X pins σ H s1) E s
  self : ∀ (A : Around) (i : Nat) (s : Shared) (Q : Value → Shared → Prop) (E : Value → Shared → Prop), tn i s.heap → Q (.ref it) s → wpAny (model P w) A (pyIter (.ref it)) Q E s
abbrev TI := St → Hp → (It → Hp → Prop) → Prop
/-- an iterator has come -/
def PIE (X : Cx) (pins : List (Addr × Obj)) (σ : St) (tg : Expr) (R : It → Hp → Prop) (itv : Value) (s2 : Shared) : Prop :=
  ∃ (it : Addr) (fp : List Addr) (tn : Nat → Heap → Prop) (J : It) (H' : Hp), itv = .ref it ∧ Inv X pins σ H' s2 ∧ Turn X.prog X.w X.K tg J fp it tn ∧ tn 0 s2.heap ∧ (∀ b ∈ fp, FpOk X pins H' b) ∧ R J H'
def PI (X : Cx) (tg iter : Expr) (wi : TI) : Prop :=
  ∀ (pins : List (Addr × Obj)) (s : Shared) (σ : St) (H : Hp) (R : It → Hp → Prop), Inv X pins σ H s → wi σ H R →
    wpAny (model X.prog X.w) X.A (eval iter X.env) (fun v s1 => wpAny (model X.prog X.w) X.A (pyIter v) (PIE X pins σ tg R) X.xe s1) X.xe s

/-- the step ahead of the store is nothing for an iterator that keeps no tuple -/
theorem go_of {M : Model} {A : Around} {E : Value → Shared → Prop} {s : Shared} {tg : Expr} {it : Addr} {u : Value} {o : Obj} {n : String} {vs : Array Value} {Q : Unit → Shared → Prop} (ho : s.heap.get? it = some o) (hc : o.cls = .type n) (hd : o.data = .fields vs)
    (hn : ["enumerate", "zip", "dict_itemiterator", "dict_reverseitemiterator", "odict_iterator", "itertools.zip_longest", "itertools.pairwise"].contains n = false) (hQ : Q () s) : wpAny M A (letOwnedTupleGo tg (.ref it) u) Q E s := by
  unfold letOwnedTupleGo
  cases tg <;> first
    | exact wpAny_pure hQ
    | (cases u <;> first
        | exact wpAny_pure hQ
        | (refine wpAny_bind (wpAny_load ho ?_)
           rw [hc, hd]
           show wpAny M A (if (["enumerate", "zip", "dict_itemiterator", "dict_reverseitemiterator", "odict_iterator", "itertools.zip_longest", "itertools.pairwise"].contains n && vs[0]? == some (rawInt _)) = true then _ else _) Q E s
           rw [if_neg (by intro h; rw [hn, Bool.false_and] at h; cases h)]
           exact wpAny_pure hQ))

/-- the list at a, as it stands at each turn (a loop may append to it) -/
def Itl (K : PySem.W.Frag) (a : Addr) : It :=
  ⟨fun i H => ∃ xs x, SqL K H a xs ∧ xs[i]? = some x, fun i H x H' => H' = H ∧ ∀ xs, SqL K H a xs → xs[i]? = some x, fun i H => ∃ xs, SqL K H a xs ∧ xs.length ≤ i⟩
/-- lo, lo + 1, .. (n of them) -/
def Itr (lo : Int) (n : Nat) : It := ⟨fun i _ => i < n, fun i H x H' => H' = H ∧ x = .int (lo + i), fun i _ => n ≤ i⟩
theorem turn_list {P : Program} {w : World} {K : PySem.W.Frag} {tg : Expr} (a it : Addr) : Turn P w K tg (Itl K a) [it] it (fun i h => h.IsListIter it a i) where
  mem := by simp
  obj := fun i h st b hb => by
    have e : b = it := by simpa using hb
    subst e
    obtain ⟨o, e, c, d⟩ := st
    exact ⟨o, e, fun v z => by rw [d] at z; cases z⟩
  keep := fun i h h' st k => st.at fun o e => k it (by simp) o e
  item := by
    intro X hP hw hK hc i pins s σ H E I hf st hg
    subst hP hw hK
    obtain ⟨xs, x, hq, hx⟩ := hg
    obtain ⟨its, rv, p, hz⟩ := I.list hq
    obtain ⟨u, hu, ru⟩ := rv.get hx
    obtain ⟨f0, f1, f2, f3, f4, f5⟩ := hf it (by simp)
    refine wpAny_pyNext_list_item st p.isList (x := u) (by simpa using hu) fun h' st' sb => ?_
    have I1 : Inv X pins σ H { s with heap := h' } := I.turned (t' := s.toks) (fun b o hb e => (sb.2 b hb).trans e) f0 f1 f3 f4 f5
    obtain ⟨o, e, c, d⟩ := id st'
    exact ⟨u, rfl, go_of (s := { s with heap := h' }) e c d (by decide) ⟨x, H, I1, ru, ⟨rfl, fun ys hy => by rw [I.list_inj hy hq]; exact hx⟩, st', fun b hb => (hf b hb).1⟩⟩
  done := by
    intro X hP hw hK hc i pins s σ H E I hf st hg
    subst hP hw hK
    obtain ⟨xs, hq, hx⟩ := hg
    obtain ⟨its, rv, p, hz⟩ := I.list hq
    obtain ⟨f0, f1, f2, f3, f4, f5⟩ := hf it (by simp)
    have hl := rv.length
    exact wpAny_pyNext_list_end (I.ok.hd hc) st p.isList (by simp; omega) fun h' eb => ⟨rfl, I.turned (t' := s.toks) (fun b o hb e => eb b o hb e) f0 f1 f3 f4 f5⟩
  self := fun _ _ _ _ _ st h => wpAny_pyIter_listiter st h
theorem turn_range {P : Program} {w : World} {K : PySem.W.Frag} {tg : Expr} (it : Addr) (lo : Int) (n : Nat) : Turn P w K tg (Itr lo n) [it] it (fun i h => IsRangeIter h it (lo + (i : Nat) * 1) ((n : Int) - (i : Nat)) 1) where
  mem := by simp
  obj := fun i h st b hb => by
    have e : b = it := by simpa using hb
    subst e
    exact ⟨_, st, fun v z => by
      have z' : Data.fields _ = Data.cell v := z
      cases z'⟩
  keep := fun i h h' st k => k it (by simp) _ st
  item := by
    intro X hP hw hK hc i pins s σ H E I hf st hg
    subst hP hw hK
    obtain ⟨f0, f1, f2, f3, f4, f5⟩ := hf it (by simp)
    have W := Walks.range (prog := X.prog) (w := X.w) (I.ok.hd hc) it lo 1 n
    refine W.item i s _ _ hg st fun v h' tk hv st' kk => ?_
    obtain ⟨t, rfl⟩ := hv
    have I1 : Inv X pins σ H { s with heap := h', toks := tk } := I.turned (fun b o hb e => kk b o (by simpa using hb) e) f0 f1 f3 f4 f5
    refine ⟨_, rfl, go_of (s := { s with heap := h', toks := tk }) (n := "range_iterator") st' rfl rfl (by decide) ⟨.int (lo + i), H, I1, ⟨t, ?_⟩, ⟨rfl, rfl⟩, st', fun b hb => (hf b hb).1⟩⟩
    rw [Int.mul_one]
  done := by
    intro X hP hw hK hc i pins s σ H E I hf st hg
    subst hP hw hK
    obtain ⟨f0, f1, f2, f3, f4, f5⟩ := hf it (by simp)
    exact wpAny_pyNext_range_end (I.ok.hd hc) st (by have : n ≤ i := hg; omega) fun h' eb => ⟨rfl, I.turned (t' := s.toks) (fun b o hb e => eb b o hb e) f0 f1 f3 f4 f5⟩
  self := fun _ _ _ _ _ st h => wpAny_pyIter_rangeiter st h
end L2

namespace L2
open PySem PySem.Spec PyProof.Rows
section
variable {X : Cx} {tg : Expr}
def iList (K : PySem.W.Frag) (tl : TE) : TI := fun σ H R => tl σ H fun x H1 => ∃ a, x = .ref a ∧ (∃ xs, SqL K H1 a xs) ∧ R (Itl K a) H1
theorem pi_list {l : Expr} {tl : TE} (hl : PE X l tl) : PI X tg l (iList X.K tl) := by
  intro pins s σ H R I h
  refine thn (hl pins s σ H _ I h) fun v s1 ⟨x, H1, I1, r1, q1⟩ => ?_
  obtain ⟨a, e, ⟨xs, hq⟩, q⟩ := q1
  subst e
  cases r1
  obtain ⟨its, rv, p, hz⟩ := I1.list hq
  refine wpAny_pyIter_list p.isList ?_
  refine ⟨s1.heap.objs.size, [s1.heap.objs.size], _, _, H1, rfl, I1.kept (t' := s1.toks) fun b o e => Heap.get?_push_of_some _ e, turn_list a _, ⟨_, Heap.get?_push_size _ rfl, rfl, rfl⟩, fun b hb => ?_, q⟩
  have e : b = s1.heap.objs.size := by simpa using hb
  subst e
  exact I1.fpOk (Nat.le_refl _) (I1.hok.fresh (Nat.le_refl _))
/-- a range object just made, walked -/
theorem range_it {pins : List (Addr × Obj)} {σ : St} {H : Hp} {s : Shared} {R : It → Hp → Prop} {E : Value → Shared → Prop} {lo hi : Int} {t u v : Tok} {tk : Nat} (I : Inv X pins σ H s) (h1 : -(2 ^ 62) ≤ lo) (h2 : lo < 2 ^ 62) (h3 : -(2 ^ 62) ≤ hi) (h4 : hi < 2 ^ 62)
    (q : R (Itr lo (hi - lo).toNat) H) : wpAny (model X.prog X.w) X.A (pyIter (.ref s.heap.objs.size)) (PIE X pins σ tg R) E { s with heap := s.heap.push { cls := .type "range", data := .fields #[.int lo t, .int hi u, .int 1 v] }, toks := tk } := by
  refine wpAny_pyIter_range (IsRange.new ..) (small_one h1 h2 h3 h4) ?_
  have I1 : Inv X pins σ H { s with heap := s.heap.push { cls := .type "range", data := .fields #[.int lo t, .int hi u, .int 1 v] }, toks := tk } := I.kept fun b o e => Heap.get?_push_of_some _ e
  refine ⟨(s.heap.push { cls := .type "range", data := .fields #[.int lo t, .int hi u, .int 1 v] }).objs.size, [(s.heap.push { cls := .type "range", data := .fields #[.int lo t, .int hi u, .int 1 v] }).objs.size], _, _, H, rfl,
    I1.kept (t' := tk) fun b o e => Heap.get?_push_of_some _ e, turn_range _ lo (hi - lo).toNat, ?_, fun b hb => ?_, q⟩
  · have e1 : lo + ((0 : Nat) : Int) * 1 = lo := by simp
    have e2 : (((hi - lo).toNat : Nat) : Int) - ((0 : Nat) : Int) = Builtin.Range.rangeSize lo hi 1 := by rw [rangeSize_one]; split <;> omega
    show IsRangeIter _ _ (lo + ((0 : Nat) : Int) * 1) ((((hi - lo).toNat : Nat) : Int) - ((0 : Nat) : Int)) 1
    rw [e1, e2]
    exact Heap.get?_push_size _ rfl
  · have e : b = (s.heap.push { cls := .type "range", data := .fields #[.int lo t, .int hi u, .int 1 v] }).objs.size := by simpa using hb
    subst e
    exact I1.fpOk (Nat.le_refl _) (I1.hok.fresh (Nat.le_refl _))
def iRng1 (ta : TA) : TI := fun σ H R => ta σ H fun vs H1 => ∃ j : Int, vs = [.int j] ∧ -(2 ^ 62) ≤ j ∧ j < 2 ^ 62 ∧ R (Itr 0 j.toNat) H1
theorem pi_range1 {a : Expr} {ta : TA} {p pos : Pos} (hg : Gl X "range") (hm : X.mg "range" = none) (ha : PA X [a] ta) (hs : starEach [a] X.env = [(false, eval a X.env)] := by rfl) : PI X tg (.Call (.Name "range" p) [a] [] pos) (iRng1 ta) := by
  intro pins s σ H R I h
  refine Call_ (ld_blt I hg hm boot_range (PyProof.Rows.callWith_type1 (thn (ha pos pins s σ H _ I h) fun us s1 ⟨vs, H1, I1, r1, q1⟩ => ?_) hs rfl))
  obtain ⟨j, e, q1, q2, q⟩ := q1
  subst e
  cases r1 with
  | cons r rr =>
    cases rr
    obtain ⟨t, rfl⟩ := r
    exact call_range_1 (range_it I1 (by omega) (by omega) q1 q2 (by simpa using q))
/-! ### for -/
/-- W: the invariant by the turn and a measure; N: what the body is to reach -/
def tFor (wi : TI) (g : TG) (tb : TS) : TS := fun D σ H => wi σ H fun J H1 => ∃ W : Nat → Nat → St → Hp → Prop, (∃ m, W 0 m σ H1) ∧ ∀ i m σ H, W i m σ H →
  (J.stop i H ∧ D.nx σ H) ∨ (J.go i H ∧ ∃ N : St → Hp → Prop, (∀ σ' H', N σ' H' → ∃ m', m' < m ∧ W (i + 1) m' σ' H') ∧ ∀ x H', J.yld i H x H' → g x σ H' fun σ2 H2 => tb { D with nx := N, ct := N, bk := D.nx } σ2 H2)
/-- the records at fp as they stand -/
def pinsAt (fp : List Addr) (h : Heap) : List (Addr × Obj) := fp.filterMap fun b => (h.get? b).map fun o => (b, o)
theorem mem_pinsAt {fp : List Addr} {h : Heap} {b : Addr} {o : Obj} (hb : b ∈ fp) (e : h.get? b = some o) : (b, o) ∈ pinsAt fp h := List.mem_filterMap.mpr ⟨b, hb, by rw [e]; rfl⟩
theorem of_pinsAt {fp : List Addr} {h : Heap} {p : Addr × Obj} (hp : p ∈ pinsAt fp h) : p.1 ∈ fp ∧ h.get? p.1 = some p.2 := by
  obtain ⟨b, hb, e⟩ := List.mem_filterMap.mp hp
  cases q : h.get? b with
  | none => rw [q] at e; cases e
  | some o =>
    rw [q] at e
    have e' : (b, o) = p := Option.some.inj e
    subst e'
    exact ⟨hb, q⟩
theorem Inv.pinned {pins : List (Addr × Obj)} {σ : St} {H : Hp} {s : Shared} {fp : List Addr} (I : Inv X pins σ H s) (hf : ∀ b ∈ fp, FpOk X pins H b) (ho : ∀ b ∈ fp, ∃ o, s.heap.get? b = some o ∧ ∀ v, o.data ≠ .cell v) : Inv X (pins ++ pinsAt fp s.heap) σ H s :=
  I.pins_of fun p hp => (List.mem_append.mp hp).elim (fun z => I.pin p (List.mem_append_right _ z)) fun z => by
    obtain ⟨hb, e⟩ := of_pinsAt z
    obtain ⟨f0, f1, f2, _⟩ := hf p.1 hb
    obtain ⟨o, e', d⟩ := ho p.1 hb
    rw [e] at e'; cases e'
    exact ⟨e, f0, f1, f2, d⟩
theorem Inv.unpinned {pins pl : List (Addr × Obj)} {σ : St} {H : Hp} {s : Shared} (I : Inv X (pins ++ pl) σ H s) : Inv X pins σ H s := I.pins_of fun p hp => I.pin p (List.mem_append_right _ (List.mem_append_left _ hp))
theorem ps_for {iter : Expr} {body : List Stmt} {wi : TI} {g : TG} {tb : TS} {pos : Pos} (hp : PassesOwn (model X.prog X.w) X.A X.env X.xe) (hc : X.calm = true) (hi : PI X tg iter wi) (hg : PG X tg g) (hb : PSs X body tb)
    (hs : ∀ x, foldedSetIterable iter X.env x = pure x := by intro _; rfl) : PS X (.For tg iter body [] pos) (tFor wi g tb) := by
  intro pins s σ H D I h
  refine wpAny_For (thn (hi pins s σ H _ I h) fun v s1 h1 => thn h1 fun itv s2 h2 => ?_) hs
  obtain ⟨it, fp, tn, J, H2, e, I2, T, st2, f2, W, ⟨m0, w0⟩, turn⟩ := h2
  subst e
  -- what stays true of the iterator's objects through the loop
  have stat : ∀ {H' : Hp}, (∀ b ∈ fp, H' b = none) → ∀ b ∈ fp, FpOk X pins H' b := fun hn b hb => ⟨hn b hb, (f2 b hb).2⟩
  refine codeAny_forLoop_any (fun n s' => ∃ i σ' H', Inv X pins σ' H' s' ∧ tn i s'.heap ∧ (∀ b ∈ fp, H' b = none) ∧ W i n σ' H') ?_ m0 ⟨0, σ, H2, I2, st2, fun b hb => (f2 b hb).1, w0⟩
  rintro n s3 ⟨i, σ3, H3, I3, st3, fr3, w3⟩
  rcases turn i n σ3 H3 w3 with ⟨stop, qn⟩ | ⟨go, N, hN, step⟩
  · refine wpAny_passesOwn hp (thn (T.done X rfl rfl rfl hc i pins s3 σ3 H3 X.xe I3 (stat fr3) st3 stop) fun r s4 ⟨hr, I4⟩ => ?_)
    subst hr
    exact wpAny_execs_nil ⟨σ3, H3, I4, qn⟩
  · refine wpAny_passesOwn hp (thn (T.item X rfl rfl rfl hc i pins s3 σ3 H3 X.xe I3 (stat fr3) st3 go) fun r s4 ⟨u, hr, h4⟩ => ?_)
    subst hr
    refine wpAny_passesOwn hp (thn h4 fun _ s5 ⟨x, H5, I5, r5, y5, st5, fr5⟩ => ?_)
    have I5' := I5.pinned (stat fr5) (T.obj _ _ st5)
    refine wpAny_passesOwn hp (thn (hg _ s5 σ3 H5 x u _ I5' r5 (step x H5 y5)) fun _ s6 ⟨σ6, H6, I6, q6⟩ => ?_)
    refine wpAny_passesOwn hp (thn (hb _ s6 σ6 H6 _ I6 q6) fun f s7 q7 => ?_)
    have again : ∀ {σ7 : St} {H7 : Hp}, Inv X (pins ++ pinsAt fp s5.heap) σ7 H7 s7 → N σ7 H7 → ∃ m, m < n ∧ ∃ i σ' H', Inv X pins σ' H' s7 ∧ tn i s7.heap ∧ (∀ b ∈ fp, H' b = none) ∧ W i m σ' H' := fun {σ7 H7} I7 n7 => by
      obtain ⟨m', hm, w7⟩ := hN σ7 H7 n7
      refine ⟨m', hm, i + 1, σ7, H7, I7.unpinned, T.keep _ _ _ st5 fun b hb o e => (I7.pin (b, o) (List.mem_append_right _ (List.mem_append_right _ (mem_pinsAt hb e)))).1, fun b hb => ?_, w7⟩
      obtain ⟨o, e, d⟩ := T.obj _ _ st5 b hb
      exact (I7.pin (b, o) (List.mem_append_right _ (List.mem_append_right _ (mem_pinsAt hb e)))).2.1
    cases f with
    | next => obtain ⟨σ7, H7, I7, n7⟩ := q7; exact again I7 n7
    | cont => obtain ⟨σ7, H7, I7, n7⟩ := q7; exact again I7 n7
    | brk => obtain ⟨σ7, H7, I7, q7⟩ := q7; exact ⟨σ7, H7, I7.unpinned, q7⟩
    | ret v => obtain ⟨x7, σ7, H7, I7, r7, q7⟩ := q7; exact ⟨x7, σ7, H7, I7.unpinned, r7, q7⟩
end

/-! ### the forms one uses -/
/-- over a list that the body leaves as it is -/
theorem for_list {K : PySem.W.Frag} {a : Addr} {xs : List V} {g : TG} {tb : TS} {D : Ends} {σ : St} {H : Hp} (Pv : Nat → St → Hp → Prop) (h0 : Pv 0 σ H) (hl : ∀ i σ H, i ≤ xs.length → Pv i σ H → SqL K H a xs)
    (hs : ∀ i x σ H, xs[i]? = some x → Pv i σ H → g x σ H fun σ2 H2 => tb { D with nx := Pv (i + 1), ct := Pv (i + 1), bk := D.nx } σ2 H2) (hd : ∀ σ H, Pv xs.length σ H → D.nx σ H) :
    ∃ W : Nat → Nat → St → Hp → Prop, (∃ m, W 0 m σ H) ∧ ∀ i m σ H, W i m σ H →
      ((Itl K a).stop i H ∧ D.nx σ H) ∨ ((Itl K a).go i H ∧ ∃ N : St → Hp → Prop, (∀ σ' H', N σ' H' → ∃ m', m' < m ∧ W (i + 1) m' σ' H') ∧ ∀ x H', (Itl K a).yld i H x H' → g x σ H' fun σ2 H2 => tb { D with nx := N, ct := N, bk := D.nx } σ2 H2) := by
  refine ⟨fun i m σ H => m = xs.length - i ∧ i ≤ xs.length ∧ Pv i σ H, ⟨xs.length, by simp, Nat.zero_le _, h0⟩, ?_⟩
  rintro i m σ H ⟨rfl, hi, p⟩
  have q := hl i σ H hi p
  by_cases hlt : i < xs.length
  · refine .inr ⟨⟨xs, xs[i], q, by simp [hlt]⟩, Pv (i + 1), fun σ' H' p' => ⟨xs.length - (i + 1), by omega, rfl, hlt, p'⟩, fun x H' y => ?_⟩
    obtain ⟨e, y⟩ := y
    subst e
    exact hs i x σ _ (y xs q) p
  · have e : i = xs.length := by omega
    subst e
    exact .inl ⟨⟨xs, q, Nat.le_refl _⟩, hd σ H p⟩
theorem for_range {lo : Int} {n : Nat} {g : TG} {tb : TS} {D : Ends} {σ : St} {H : Hp} (Pv : Nat → St → Hp → Prop) (h0 : Pv 0 σ H)
    (hs : ∀ i σ H, i < n → Pv i σ H → g (.int (lo + i)) σ H fun σ2 H2 => tb { D with nx := Pv (i + 1), ct := Pv (i + 1), bk := D.nx } σ2 H2) (hd : ∀ σ H, Pv n σ H → D.nx σ H) :
    ∃ W : Nat → Nat → St → Hp → Prop, (∃ m, W 0 m σ H) ∧ ∀ i m σ H, W i m σ H →
      ((Itr lo n).stop i H ∧ D.nx σ H) ∨ ((Itr lo n).go i H ∧ ∃ N : St → Hp → Prop, (∀ σ' H', N σ' H' → ∃ m', m' < m ∧ W (i + 1) m' σ' H') ∧ ∀ x H', (Itr lo n).yld i H x H' → g x σ H' fun σ2 H2 => tb { D with nx := N, ct := N, bk := D.nx } σ2 H2) := by
  refine ⟨fun i m σ H => m = n - i ∧ i ≤ n ∧ Pv i σ H, ⟨n, by simp, Nat.zero_le _, h0⟩, ?_⟩
  rintro i m σ H ⟨rfl, hi, p⟩
  by_cases hlt : i < n
  · refine .inr ⟨hlt, Pv (i + 1), fun σ' H' p' => ⟨n - (i + 1), by omega, rfl, hlt, p'⟩, fun x H' y => ?_⟩
    obtain ⟨e, y⟩ := y
    subst e y
    exact hs i σ _ hlt p
  · have e : i = n := by omega
    subst e
    exact .inl ⟨Nat.le_refl _, hd σ H p⟩
end L2

namespace L2
open PySem PySem.Spec PyProof.Rows

abbrev R2 := V → V → Hp → VK → Prop
/-- a two-place operation on values: f is binaryOp op, inplaceOp op or compareOp op -/
def OpR (X : Cx) (f : Value → Value → Sem Value) (r : R2) : Prop :=
  ∀ (pins : List (Addr × Obj)) (s : Shared) (σ : St) (H : Hp) (x y : V) (v u : Value) (Q : VK), Inv X pins σ H s → RelV x v → RelV y u → r x y H Q →
    wpAny (model X.prog X.w) X.A (f v u) (EP X pins σ Q) X.xe s
/-- a one-place operation -/
def UnR (X : Cx) (f : Value → Sem Value) (r : V → Hp → VK → Prop) : Prop :=
  ∀ (pins : List (Addr × Obj)) (s : Shared) (σ : St) (H : Hp) (x : V) (v : Value) (Q : VK), Inv X pins σ H s → RelV x v → r x H Q →
    wpAny (model X.prog X.w) X.A (f v) (EP X pins σ Q) X.xe s
/-- a call of a value that is known (a builtin, a type) with values -/
def CallR (X : Cx) (f : Value) (r : List V → Hp → VK → Prop) : Prop :=
  ∀ (pins : List (Addr × Obj)) (s : Shared) (σ : St) (H : Hp) (xs : List V) (us : List Value) (Q : VK), Inv X pins σ H s → Vals xs us → r xs H Q →
    wpAny (model X.prog X.w) X.A (call f us) (EP X pins σ Q) X.xe s
def tOp (r : R2) (ta tb : TE) : TE := fun σ H Q => ta σ H fun x H1 => tb σ H1 fun y H2 => r x y H2 Q
/-- ints in, under C, and a value out -/
def rI (C : Int → Int → Prop) (g : Int → Int → V) : R2 := fun x y H Q => ∃ i j, x = .int i ∧ y = .int j ∧ C i j ∧ Q (g i j) H
def rI0 (g : Int → Int → V) : R2 := fun x y H Q => ∃ i j, x = .int i ∧ y = .int j ∧ Q (g i j) H
section
variable {X : Cx} {a b c : Expr} {ta tb tc : TE} {pos : Pos}

theorem binT (ha : PE X a ta) (hb : PE X b tb) {pins : List (Addr × Obj)} {s : Shared} {σ : St} {H : Hp} {R : V → V → Hp → Prop} (I : Inv X pins σ H s)
    (h : ta σ H fun x H1 => tb σ H1 fun y H2 => R x y H2) {Q : Value → Shared → Prop} {f : Value → Value → Sem Value}
    (hf : ∀ v u s2 x y H2, Inv X pins σ H2 s2 → RelV x v → RelV y u → R x y H2 → wpAny (model X.prog X.w) X.A (f v u) Q X.xe s2) :
    wpAny (model X.prog X.w) X.A (eval a X.env) (fun v s₁ => wpAny (model X.prog X.w) X.A (eval b X.env) (fun u s₂ => wpAny (model X.prog X.w) X.A (f v u) Q X.xe s₂) X.xe s₁) X.xe s := by
  refine thn (ha pins s σ H _ I h) fun v s1 ⟨x, H1, I1, r1, q1⟩ => ?_
  refine thn (hb pins s1 σ H1 _ I1 q1) fun u s2 ⟨y, H2, I2, r2, q2⟩ => ?_
  exact hf v u s2 x y H2 I2 r1 r2 q2

theorem pe_op {op : Operator} {r : R2} (ho : OpR X (binaryOp op) r) (ha : PE X a ta) (hb : PE X b tb) : PE X (.BinOp a op b pos) (tOp r ta tb) := by
  intro pins s σ H Q I h
  exact wpAny_BinOp (binT ha hb I h fun v u s2 x y H2 I2 rx ry q => ho pins s2 σ H2 x y v u Q I2 rx ry q)
/-! ### ints -/
theorem opI {f : Value → Value → Sem Value} {C : Int → Int → Prop} {g : Int → Int → Int}
    (rule : ∀ (i j : Int) (t u : Tok) (s : Shared) (Q : Value → Shared → Prop) (E : Value → Shared → Prop), C i j → Q (.int (g i j) s.toks) { s with toks := s.toks + 1 } → wpAny (model X.prog X.w) X.A (f (.int i t) (.int j u)) Q E s) :
    OpR X f (rI C fun i j => .int (g i j)) := by
  intro pins s σ H x y v u Q I rx ry h
  obtain ⟨i, j, rfl, rfl, hc, q⟩ := h
  obtain ⟨t, rfl⟩ := rx
  obtain ⟨t', rfl⟩ := ry
  exact rule i j t t' s _ _ hc ⟨.int (g i j), H, I.tok _, ⟨_, rfl⟩, q⟩
theorem opI0 {f : Value → Value → Sem Value} {g : Int → Int → Int}
    (rule : ∀ (i j : Int) (t u : Tok) (s : Shared) (Q : Value → Shared → Prop) (E : Value → Shared → Prop), Q (.int (g i j) s.toks) { s with toks := s.toks + 1 } → wpAny (model X.prog X.w) X.A (f (.int i t) (.int j u)) Q E s) :
    OpR X f (rI0 fun i j => .int (g i j)) := by
  intro pins s σ H x y v u Q I rx ry h
  obtain ⟨i, j, rfl, rfl, q⟩ := h
  obtain ⟨t, rfl⟩ := rx
  obtain ⟨t', rfl⟩ := ry
  exact rule i j t t' s _ _ ⟨.int (g i j), H, I.tok _, ⟨_, rfl⟩, q⟩
theorem opB0 {f : Value → Value → Sem Value} {g : Int → Int → Bool}
    (rule : ∀ (i j : Int) (t u : Tok) (s : Shared) (Q : Value → Shared → Prop) (E : Value → Shared → Prop), Q (.bool (g i j)) s → wpAny (model X.prog X.w) X.A (f (.int i t) (.int j u)) Q E s) :
    OpR X f (rI0 fun i j => .bl (g i j)) := by
  intro pins s σ H x y v u Q I rx ry h
  obtain ⟨i, j, rfl, rfl, q⟩ := h
  obtain ⟨t, rfl⟩ := rx
  obtain ⟨t', rfl⟩ := ry
  exact rule i j t t' s _ _ ⟨.bl (g i j), H, I, rfl, q⟩

def CDiv (i j : Int) : Prop := 0 < j ∧ j < 1073741824
def CMul (i j : Int) : Prop := (-(2 ^ 64) < i ∧ i < 2 ^ 64) ∨ (-(2 ^ 64) < j ∧ j < 2 ^ 64)
theorem CMul.ok {i j : Int} (h : CMul i j) : IntMulOk i j := by
  rcases h with ⟨h1, h2⟩ | ⟨h1, h2⟩
  · exact .of_left (intBits_le_64 h1 h2)
  · exact .of_right (intBits_le_64 h1 h2)
theorem op_add : OpR X (binaryOp .Add) (rI0 fun i j => .int (i + j)) := opI0 fun _ _ _ _ _ _ _ q => add_int q
theorem op_sub : OpR X (binaryOp .Sub) (rI0 fun i j => .int (i - j)) := opI0 fun _ _ _ _ _ _ _ q => sub_int q
theorem op_mul : OpR X (binaryOp .Mult) (rI CMul fun i j => .int (i * j)) := opI fun _ _ _ _ _ _ _ hc q => mul_int q hc.ok
/-- // by a positive divisor -/
theorem op_fdiv : OpR X (binaryOp .FloorDiv) (rI CDiv fun i j => .int (i / j)) := opI fun i j _ _ _ _ _ hc q => by
  have h1 : (0 : Int) < j := hc.1
  have h2 : j < 1073741824 := hc.2
  exact floordiv_int (by omega) (by rw [Int.fdiv_eq_ediv_of_nonneg i (by omega)]; exact q) (.inl (PyProof.noPylong_small (by omega)))
/-- % by a positive divisor of any size -/
theorem op_mod : OpR X (binaryOp .Mod) (rI (fun _ j => 0 < j) fun i j => .int (i % j)) := opI fun i j _ _ _ _ _ hc q => by
  have h1 : (0 : Int) < j := hc
  exact mod_int' (by omega) (by rw [Int.fmod_eq_emod_of_nonneg i (by omega)]; exact q)
/-! ### bools among ints: n += (a < b) -/
end

/-! ### comparisons -/
/-- the scalars that == tells apart as data does -/
def scal : V → V → Bool
  | .non, .non => true | .non, .int _ => true | .int _, .non => true | .non, .bl _ => true | .bl _, .non => true | .non, .str _ => true | .str _, .non => true
  | .int _, .int _ => true | .bl _, .bl _ => true | .str _, .str _ => true | .byt _, .byt _ => true
  | .int _, .str _ => true | .str _, .int _ => true | .bl _, .str _ => true | .str _, .bl _ => true
  | _, _ => false
def rEq : R2 := fun x y H Q => scal x y = true ∧ Q (.bl (decide (x = y))) H
def rNe : R2 := fun x y H Q => scal x y = true ∧ Q (.bl (!decide (x = y))) H

theorem dec_int {i j : Int} : decide (V.int i = V.int j) = (i == j) := by
  rw [Bool.eq_iff_iff]
  simp
theorem dec_bl {i j : Bool} : decide (V.bl i = V.bl j) = (i == j) := by
  rw [Bool.eq_iff_iff]
  simp
theorem dec_str {i j : Str} : decide (V.str i = V.str j) = (i == j) := by
  rw [Bool.eq_iff_iff]
  simp
theorem dec_byt {i j : Array UInt8} : decide (V.byt i = V.byt j) = (i.toList == j.toList) := by
  rw [Bool.eq_iff_iff]
  cases i
  cases j
  simp

section
variable {X : Cx} {a b c : Expr} {ta tb tc : TE} {pos : Pos}
theorem fin_bl {pins : List (Addr × Obj)} {σ : St} {H : Hp} {s : Shared} {Q : VK} {k k' : Bool} (I : Inv X pins σ H s) (q : Q (.bl k) H) (e : k = k') : EP X pins σ Q (.bool k') s := by
  subst e
  exact ⟨.bl k, H, I, rfl, q⟩
theorem op_eq : OpR X (compareOp .Eq) rEq := by
  intro pins s σ H x y v u Q I rx ry h
  obtain ⟨hs, q⟩ := h
  cases x with
  | non =>
    cases rx
    cases y with
    | non => cases ry; exact PySem.EqNone.eq_none_none (fin_bl I q (by simp))
    | bl j => cases ry; exact PySem.EqNone.eq_none_bool (fin_bl I q (by simp))
    | int j => obtain ⟨t', rfl⟩ := ry; exact PySem.EqNone.eq_none_int (fin_bl I q (by simp))
    | str j => obtain ⟨t', rfl⟩ := ry; exact PySem.EqNone.eq_none_str (fin_bl I q (by simp))
    | _ => exact absurd (show false = true from hs) Bool.false_ne_true
  | bl i =>
    cases rx
    cases y with
    | non => cases ry; exact PySem.EqNone.eq_bool_none (fin_bl I q (by simp))
    | bl j => cases ry; exact eq_bool (fin_bl I q dec_bl)
    | str j => obtain ⟨t', rfl⟩ := ry; exact PySem.EqMixed.eq_bool_str (fin_bl I q (by simp))
    | _ => exact absurd (show false = true from hs) Bool.false_ne_true
  | int i =>
    obtain ⟨t, rfl⟩ := rx
    cases y with
    | non => cases ry; exact PySem.EqNone.eq_int_none (fin_bl I q (by simp))
    | int j => obtain ⟨t', rfl⟩ := ry; exact eq_int (fin_bl I q dec_int)
    | str j => obtain ⟨t', rfl⟩ := ry; exact PySem.EqMixed.eq_int_str (fin_bl I q (by simp))
    | _ => exact absurd (show false = true from hs) Bool.false_ne_true
  | str i =>
    obtain ⟨t, rfl⟩ := rx
    cases y with
    | non => cases ry; exact PySem.EqNone.eq_str_none (fin_bl I q (by simp))
    | bl j => cases ry; exact PySem.EqMixed.eq_str_bool (fin_bl I q (by simp))
    | int j => obtain ⟨t', rfl⟩ := ry; exact PySem.EqMixed.eq_str_int (fin_bl I q (by simp))
    | str j => obtain ⟨t', rfl⟩ := ry; exact eq_str (fin_bl I q dec_str)
    | _ => exact absurd (show false = true from hs) Bool.false_ne_true
  | byt i =>
    obtain ⟨t, rfl⟩ := rx
    cases y with
    | byt j => obtain ⟨t', rfl⟩ := ry; exact PySem.W.eq_bytes (fin_bl I q dec_byt)
    | _ => exact absurd (show false = true from hs) Bool.false_ne_true
  | _ => cases y <;> exact absurd (show false = true from hs) Bool.false_ne_true
theorem op_ne : OpR X (compareOp .NotEq) rNe := by
  intro pins s σ H x y v u Q I rx ry h
  obtain ⟨hs, q⟩ := h
  cases x with
  | non =>
    cases rx
    cases y with
    | non => cases ry; exact PySem.EqNone.ne_none_none (fin_bl I q (by simp))
    | bl j => cases ry; exact PySem.EqNone.ne_none_bool (fin_bl I q (by simp))
    | int j => obtain ⟨t', rfl⟩ := ry; exact PySem.EqNone.ne_none_int (fin_bl I q (by simp))
    | str j => obtain ⟨t', rfl⟩ := ry; exact PySem.EqNone.ne_none_str (fin_bl I q (by simp))
    | _ => exact absurd (show false = true from hs) Bool.false_ne_true
  | bl i =>
    cases rx
    cases y with
    | non => cases ry; exact PySem.EqNone.ne_bool_none (fin_bl I q (by simp))
    | bl j => cases ry; exact ne_bool (fin_bl I q (congrArg not dec_bl))
    | str j => obtain ⟨t', rfl⟩ := ry; exact PySem.EqMixed.ne_bool_str (fin_bl I q (by simp))
    | _ => exact absurd (show false = true from hs) Bool.false_ne_true
  | int i =>
    obtain ⟨t, rfl⟩ := rx
    cases y with
    | non => cases ry; exact PySem.EqNone.ne_int_none (fin_bl I q (by simp))
    | int j => obtain ⟨t', rfl⟩ := ry; exact ne_int (fin_bl I q (congrArg not dec_int))
    | str j => obtain ⟨t', rfl⟩ := ry; exact PySem.EqMixed.ne_int_str (fin_bl I q (by simp))
    | _ => exact absurd (show false = true from hs) Bool.false_ne_true
  | str i =>
    obtain ⟨t, rfl⟩ := rx
    cases y with
    | non => cases ry; exact PySem.EqNone.ne_str_none (fin_bl I q (by simp))
    | bl j => cases ry; exact PySem.EqMixed.ne_str_bool (fin_bl I q (by simp))
    | int j => obtain ⟨t', rfl⟩ := ry; exact PySem.EqMixed.ne_str_int (fin_bl I q (by simp))
    | str j => obtain ⟨t', rfl⟩ := ry; exact ne_str (fin_bl I q (congrArg not dec_str))
    | _ => exact absurd (show false = true from hs) Bool.false_ne_true
  | byt i =>
    obtain ⟨t, rfl⟩ := rx
    cases y with
    | byt j => obtain ⟨t', rfl⟩ := ry; exact PySem.W.ne_bytes (fin_bl I q (congrArg not dec_byt))
    | _ => exact absurd (show false = true from hs) Bool.false_ne_true
  | _ => cases y <;> exact absurd (show false = true from hs) Bool.false_ne_true

theorem op_lt : OpR X (compareOp .Lt) (rI0 fun i j => .bl (decide (i < j))) := opB0 fun _ _ _ _ _ _ _ q => lt_int q
theorem op_le : OpR X (compareOp .LtE) (rI0 fun i j => .bl (decide (i ≤ j))) := opB0 fun _ _ _ _ _ _ _ q => le_int q
theorem op_gt : OpR X (compareOp .Gt) (rI0 fun i j => .bl (decide (j < i))) := opB0 fun _ _ _ _ _ _ _ q => gt_int q
/-- two rules for one operation: by cases -/
theorem OpR.or {f : Value → Value → Sem Value} {r r' : R2} (h : OpR X f r) (h' : OpR X f r') : OpR X f (fun x y H Q => r x y H Q ∨ r' x y H Q) := by
  intro pins s σ H x y v u Q I rx ry q
  rcases q with q | q
  · exact h pins s σ H x y v u Q I rx ry q
  · exact h' pins s σ H x y v u Q I rx ry q

theorem nomark (b : Expr) {op : CmpOp} (h : op ≠ .In := by decide) (h2 : op ≠ .NotIn := by decide) : behindInMarks op b = false := by
  have e1 : (op == CmpOp.In) = false := by cases op <;> first | rfl | exact absurd rfl h
  have e2 : (op == CmpOp.NotIn) = false := by cases op <;> first | rfl | exact absurd rfl h2
  cases b <;> simp [behindInMarks, e1, e2]
/-- a comparison as a value; hm: nomark b, or (for in, not in) by with_unfolding_all rfl -/
theorem pe_cmpR {op : CmpOp} {r : R2} (ho : OpR X (compareOp op) r) (ha : PE X a ta) (hb : PE X b tb) (hm : behindInMarks op b = false) : PE X (.Compare a [op] [b] pos) (tOp r ta tb) := by
  intro pins s σ H Q I h
  exact wpAny_Compare1 (binT ha hb I h fun v u s2 x y H2 I2 rx ry q => ho pins s2 σ H2 x y v u Q I2 rx ry q) hm
/-- a reading of a value as a test -/
def tTest (t : TE) : TT := fun σ H Q => t σ H fun x H' => ∃ k, x = .bl k ∧ Q k H'
theorem pt_cmpR {op : CmpOp} {r : R2} (ho : OpR X (compareOp op) r) (ha : PE X a ta) (hb : PE X b tb) (hm : behindInMarks op b = false) : PT X (.Compare a [op] [b] pos) (tTest (tOp r ta tb)) := by
  intro pins s σ H Q I h
  refine wpAny_isTrue_Compare1 (thn (ha pins s σ H _ I h) fun v s1 ⟨x, H1, I1, r1, q1⟩ => thn (hb pins s1 σ H1 _ I1 q1) fun u s2 ⟨y, H2, I2, r2, q2⟩ =>
    thn (ho pins s2 σ H2 x y v u _ I2 r1 r2 q2) fun c s3 ⟨z, H3, I3, r3, k, e, q3⟩ => ?_) hm
  subst e
  cases r3
  exact wpAny_truthy_bool ⟨H3, I3, q3⟩
/-! ### truth -/
theorem line63 : (sizeLine : Nat) < 2 ^ 63 := by rw [sizeLine_eq]; decide
/-! ### strs and bytes -/
/-! ### scalar builtins, by CallR -/
theorem vals1 {x : V} {us : List Value} (r : Vals [x] us) : ∃ u, us = [u] ∧ RelV x u := by
  cases r with
  | cons r1 r2 => cases r2; exact ⟨_, rfl, r1⟩
theorem vals2 {x y : V} {us : List Value} (r : Vals [x, y] us) : ∃ u w', us = [u, w'] ∧ RelV x u ∧ RelV y w' := by
  cases r with
  | cons r1 r2 =>
    cases r2 with
    | cons r3 r4 => cases r4; exact ⟨_, _, rfl, r1, r3⟩
theorem call_max2 (hc : X.calm = true) : CallR X (.builtin "max") (fun xs H Q => ∃ i j, xs = [.int i, .int j] ∧ Q (.int (if j > i then j else i)) H) := by
  intro pins s σ H xs us Q I r h
  obtain ⟨i, j, rfl, q⟩ := h
  obtain ⟨u, w', rfl, ⟨t, rfl⟩, ⟨t', rfl⟩⟩ := vals2 r
  refine max_two_ints (I.ok.hd hc) fun h' tk k => ⟨_, H, I.kept k, ?_, q⟩
  by_cases hj : j > i
  · rw [if_pos hj, if_pos hj]; exact ⟨_, rfl⟩
  · rw [if_neg hj, if_neg hj]; exact ⟨_, rfl⟩
theorem call_int1 : CallR X (.type "int") (fun xs H Q => (∃ i, xs = [.int i] ∧ Q (.int i) H) ∨ ∃ k, xs = [.bl k] ∧ Q (.int (if k then 1 else 0)) H) := by
  intro pins s σ H xs us Q I r h
  rcases h with ⟨i, rfl, q⟩ | ⟨k, rfl, q⟩
  · obtain ⟨u, rfl, t, rfl⟩ := vals1 r
    exact call_int_int ⟨.int i, H, I, ⟨_, rfl⟩, q⟩
  · obtain ⟨u, rfl, r1⟩ := vals1 r
    cases r1
    exact call_int_bool ⟨.int (if k then 1 else 0), H, I.tok _, ⟨_, rfl⟩, q⟩
end
end L2

namespace L2
open PySem PySem.Spec PyProof.Rows

/-! ### an instance, its attributes a map -/
structure ObjM (h : Heap) (x dx C : Addr) (mA : Str → Option Value) : Prop where
  obj : h.get? x = some (PySem.W.instObj C dx)
  ns : h.Ns1 dx mA
  ne : dx ≠ x

theorem lookIn_ns {h : Heap} {dx : Addr} {mA : Str → Option Value} (n : h.Ns1 dx mA) : ∃ od, h.get? dx = some od ∧ ∀ name, PySem.W.lookIn name od = some (mA name) := by
  obtain ⟨o, es, ep, ho, hd, hk, _, hm⟩ := n
  refine ⟨o, ho, fun name => ?_⟩
  have e := hm name
  unfold nsFind findBy at e
  rw [← Array.find?_toList] at e
  unfold PySem.W.lookIn
  rw [hd]
  dsimp only
  split
  · rename_i y q
    rw [q] at e
    exact congrArg some e
  · rename_i q
    rw [q] at e
    have a : es.toList.any (·.refKey) = false := by
      rw [List.any_eq_false]
      intro y hy
      obtain ⟨z, t, hkey⟩ := hk y (Array.mem_toList_iff.mp hy)
      simp [DictEntry.refKey, hkey]
    have a' : ¬ es.toList.any (·.refKey) = true := by rw [a]; exact Bool.false_ne_true
    rw [if_neg a']
    exact congrArg some e

theorem ObjM.look {h : Heap} {x dx C : Addr} {mA : Str → Option Value} (I : ObjM h x dx C mA) : ∃ od, PySem.W.InstAt h x (PySem.W.instObj C dx) C (some od) ∧ ∀ name, PySem.W.lookIn name od = some (mA name) :=
  let ⟨od, ho, hl⟩ := lookIn_ns I.ns
  ⟨od, ⟨I.obj, rfl, rfl, ho⟩, hl⟩

section
variable {prog : Program} {w : World} {A : Around} {E : Value → Shared → Prop} {s : Shared} {K : PySem.W.Frag} {x dx C f : Addr} {mA : Str → Option Value} {name : Str} {v : Value}

end

/-! ### the attributes as a list of pairs -/
theorem RelO.some_of {v : V} {o : Option Value} (r : RelO (some v) o) : ∃ u, o = some u ∧ RelV v u := by
  cases o with
  | none => exact (show False from r).elim
  | some u => exact ⟨u, rfl, r⟩
theorem RelO.none_of {o : Option Value} (r : RelO none o) : o = none := by
  cases o with
  | none => rfl
  | some u => exact (show False from r).elim
section
variable {P : Program} {w : World} {H H' : Hp} {h h' : Heap} {a C dx : Addr} {fs fs' : List (Str × V)}
theorem ins_get (hok : HOk P w H h) (e : H a = some (.ins C dx fs)) : ∃ mA, ObjM h a dx C mA ∧ (∀ f, RelO (fs.lookup f) (mA f)) ∧ PySem.Within mA (fs.map (·.1)) ∧ fs.length ≤ 1000 ∧ H dx = some (.own a) := by
  obtain ⟨d, z, ne, ob, mA, n, r, q⟩ := (show ObjOk P w H h a (.ins C dx fs) from hok a _ e)
  exact ⟨mA, ⟨ob, n, ne⟩, r, q, z, d⟩
end

/-! ### what of the text a class must have -/
structure Cls (K : PySem.W.Frag) (C : Addr) : Prop where
  pg : PySem.W.plainGet K C Str.empty = true
  hd : PySem.W.hasDictIn K C = true
  po : PySem.W.plainOver K C = true
  sa : PySem.W.findIn K (.ref C) "__setattr__" = some (some (.builtin "object.__setattr__"))
theorem Cls.get {K : PySem.W.Frag} {C : Addr} (c : Cls K C) (f : Str) : PySem.W.plainGet K C f = true := c.pg
/-- a constant of the class -/
structure Con (K : PySem.W.Frag) (C : Addr) (f : Str) (v : V) (u : Value) : Prop where
  at_ : PySem.W.findIn K (.ref C) f = some (some u)
  rel : RelV v u
  get : PySem.W.specialIn K u "__get__" = some none
  cp : PySem.W.copiedNames.contains f = false
/-- a method: a plain def of the class or of one above it -/
structure Meth (K : PySem.W.Frag) (C : Addr) (m : Str) (f : Addr) : Prop where
  at_ : PySem.W.findIn K (.ref C) m = some (some (.ref f))
  fn : PySem.W.isFn K (.ref f) = true
  kp : PySem.W.keepIn K (.ref f) = true

section
variable {X : Cx} {pins : List (Addr × Obj)} {σ : St} {H : Hp} {s : Shared} {a C dx : Addr} {fs : List (Str × V)} {f : Str} {v : V} {A : Around} {E : Value → Shared → Prop}

/-- a new instance, tracked, without attributes -/
theorem Inv.made (I : Inv X pins σ H s) : Inv X pins σ (upd (upd H s.heap.objs.size (.own (s.heap.objs.size + 1))) (s.heap.objs.size + 1) (.ins C s.heap.objs.size []))
    { s with heap := (s.heap.push PySem.W.emptyDict).push (PySem.W.instObj C s.heap.objs.size) } := by
  have e1 : (s.heap.push PySem.W.emptyDict).get? s.heap.objs.size = some PySem.W.emptyDict := Heap.get?_push_size s.heap rfl
  have e2 : ((s.heap.push PySem.W.emptyDict).push (PySem.W.instObj C s.heap.objs.size)).get? (s.heap.objs.size + 1) = some (PySem.W.instObj C s.heap.objs.size) := by
    have := Heap.get?_push_size (s.heap.push PySem.W.emptyDict) (o := PySem.W.instObj C s.heap.objs.size) rfl
    rwa [Heap.size_push] at this
  have e3 : (s.heap.push PySem.W.emptyDict).Ns s.heap.objs.size (fun _ => none) := ⟨PySem.W.emptyDict, #[], _, e1, rfl, (fun e he => absurd he (by simp)), fun _ => rfl⟩
  have I1 := I.laid (a := s.heap.objs.size) (o := .own (s.heap.objs.size + 1)) (h' := s.heap.push PySem.W.emptyDict) (t' := s.toks) (fun b u q => Heap.get?_push_of_some _ q) (Nat.le_refl _) ⟨_, e1⟩
  refine I1.laid (a := s.heap.objs.size + 1) (o := .ins C s.heap.objs.size []) (t' := s.toks) (fun b u q => Heap.get?_push_of_some _ q) (Nat.le_of_eq (Heap.size_push _ _)) ?_
  have ne : s.heap.objs.size ≠ s.heap.objs.size + 1 := Nat.ne_of_lt (Nat.lt_succ_self _)
  refine ⟨by rw [upd_ne ne, upd_same], Nat.zero_le _, ne, e2, fun _ => none, (Heap.Ns1.of_empty e3).at fun o q => Heap.get?_push_of_some _ q, fun _ => True.intro, fun y hy => absurd rfl hy⟩

end

/-! ### readings and rules -/
section
variable {X : Cx} {o e value : Expr} {f : Str} {pos pos' tpos : Pos} {ta tv : TE}
end

/-! ### isinstance -/
section
variable {X : Cx} {pins : List (Addr × Obj)} {σ : St} {H : Hp} {s : Shared} {A : Around} {E : Value → Shared → Prop} {Q : Value → Shared → Prop} {c : Value} {b : Bool}
/-- the type of a value, as the fragment's deciders take it; for an instance its class -/
inductive TyOf (K : PySem.W.Frag) (H : Hp) : V → Value → Prop where
  | non : TyOf K H .non (.type "NoneType")
  | bl (x : Bool) : TyOf K H (.bl x) (.type "bool")
  | int (i : Int) : TyOf K H (.int i) (.type "int")
  | str (x : Str) : TyOf K H (.str x) (.type "str")
  | flt (x : UInt64) : TyOf K H (.flt x) (.type "float")
  | lst {a : Addr} {xs : List V} (e : H a = some (.lst xs)) : TyOf K H (.ref a) (.type "list")
  | frz {a : Addr} {o : Obj} {xs : List V} (e : H a = some (.frz o (.lst xs))) : TyOf K H (.ref a) (.type "list")
  | tup {a : Addr} {xs : List V} (e : H a = some (.tup xs)) : TyOf K H (.ref a) (.type "tuple")
  | dK {a : Addr} {kvs : List (Key × V)} (e : H a = some (.dK kvs)) : TyOf K H (.ref a) (.type "dict")
  | dT {a : Addr} {kvs : List (List Key × V)} (e : H a = some (.dT kvs)) : TyOf K H (.ref a) (.type "dict")
  | ins {a C dx : Addr} {fs : List (Str × V)} (e : H a = some (.ins C dx fs)) (cl : Cls K C) (ha : PySem.W.findIn K (.ref C) "__class__" = some (some (.builtin "object.__class__")))
      (hn : PySem.W.specialIn K (.builtin "object.__class__") "__get__" = some (some (.builtin "getset_descriptor.__get__"))) (htk : PySem.W.takesIn K (.builtin "object.__class__") = some true)
      (hm : PySem.W.mroIn K C (.type "object") = some true) : TyOf K H (.ref a) (.ref C)
/-- isinstance(x, c) for one class c, a built-in or an own one: kitOne's answer -/
theorem isinst_ok {x : V} {u t : Value} (I : Inv X pins σ H s) (rx : RelV x u) (ty : TyOf X.K H x t) (e : PySem.W.kitOne X.K t c = some b) (h : ∀ tk, Q (.bool b) { s with toks := tk }) :
    wpAny (model X.prog X.w) A (call (.builtin "isinstance") [u, c]) Q E s := by
  cases ty with
  | non => cases (show u = Value.none from rx); exact PySem.W.kia_one PySem.W.kitx_none I.kIn True.intro e (fun z => nomatch z) h
  | bl y => cases (show u = Value.bool y from rx); exact PySem.W.kia_one PySem.W.kitx_bool I.kIn True.intro e (fun z => nomatch z) h
  | int i => obtain ⟨t, q⟩ := (show ∃ t, u = Value.int i t from rx); cases q; exact PySem.W.kia_one PySem.W.kitx_int I.kIn True.intro e (fun z => nomatch z) h
  | str y => obtain ⟨t, q⟩ := (show ∃ t, u = Value.str y t from rx); cases q; exact PySem.W.kia_one PySem.W.kitx_str I.kIn True.intro e (fun z => nomatch z) h
  | flt y => obtain ⟨t, q⟩ := (show ∃ t, u = Value.float y t from rx); cases q; exact PySem.W.kia_one PySem.W.kitx_float I.kIn True.intro e (fun z => nomatch z) h
  | @lst a xs ea =>
    cases (show u = Value.ref a from rx)
    obtain ⟨_, _, n, _, h1⟩ := (show ObjOk X.prog X.w H s.heap a (.lst xs) from I.hok a _ ea)
    exact PySem.W.kia_one PySem.W.kitx_list I.kIn ⟨_, h1, rfl⟩ e (fun z => nomatch z) h
  | @frz a ob xs ea =>
    cases (show u = Value.ref a from rx)
    obtain ⟨_, _, _, n, _, h1⟩ := (show ObjOk X.prog X.w H s.heap a (.frz ob (.lst xs)) from I.hok a _ ea)
    exact PySem.W.kia_one PySem.W.kitx_list I.kIn ⟨_, h1, rfl⟩ e (fun z => nomatch z) h
  | @tup a xs ea =>
    cases (show u = Value.ref a from rx)
    obtain ⟨_, _, _, p⟩ := (show ObjOk X.prog X.w H s.heap a (.tup xs) from I.hok a _ ea)
    obtain ⟨o, h1, h2, _⟩ := p
    exact PySem.W.kia_one PySem.W.kitx_tuple I.kIn ⟨o, h1, h2⟩ e (fun z => nomatch z) h
  | @dK a kvs ea =>
    cases (show u = Value.ref a from rx)
    obtain ⟨_, _, vs, _, p⟩ := (show ObjOk X.prog X.w H s.heap a (.dK kvs) from I.hok a _ ea)
    obtain ⟨o, es, ep, h1, h2, _⟩ := p
    exact PySem.W.kia_one PySem.W.kitx_dict I.kIn ⟨o, h1, h2.1⟩ e (fun z => nomatch z) h
  | @dT a kvs ea =>
    cases (show u = Value.ref a from rx)
    obtain ⟨_, _, xs, _, o, es, ep, h1, h2, _⟩ := (show ObjOk X.prog X.w H s.heap a (.dT kvs) from I.hok a _ ea)
    exact PySem.W.kia_one PySem.W.kitx_dict I.kIn ⟨o, h1, h2.1⟩ e (fun z => nomatch z) h
  | @ins a C dx fs ea cl ha hn htk hm =>
    cases (show u = Value.ref a from rx)
    obtain ⟨mA, O, _⟩ := ins_get I.hok ea
    obtain ⟨od, J, _⟩ := O.look
    exact PySem.W.kia_one (PySem.W.kitx_own (cl.get _) cl.hd ha hn htk hm) I.kIn J e (fun z => nomatch z) h
end
end L2

namespace L2
open PySem PySem.Spec PyProof.Rows

/-! ### room -/
structure Room (k : Nat) (A : Around) : Prop where
  hd : A.handled = none
  dp : A.depth + 3 * k + 5 < recursionLimit
  un : A.units + 16 * k + 200 < cLine
theorem Room.mono {j k : Nat} {A : Around} (r : Room k A) (h : j ≤ k) : Room j A := ⟨r.hd, by have := r.dp; omega, by have := r.un; omega⟩
theorem Room.deeper {k : Nat} {A : Around} (r : Room (k + 1) A) (env : Env) : Room k (A.deeper env) :=
  ⟨r.hd, by have := r.dp; show A.depth + 1 + 3 * k + 5 < _; omega, by have := r.un; show A.units + 3 + 16 * k + 200 < _; omega⟩
theorem Room.in1 {k : Nat} {A : Around} (r : Room (k + 1) A) : Room k A.in1 :=
  ⟨r.hd, by have := r.dp; show A.depth + 3 * k + 5 < _; omega, by have := r.un; show A.units + 1 + 16 * k + 200 < _; omega⟩
theorem Room.depth {k : Nat} {A : Around} (r : Room k A) : A.depth < recursionLimit := by have := r.dp; omega
theorem Room.units {k : Nat} {A : Around} (r : Room k A) : A.units + 64 < cLine := by have := r.un; omega
/-! ### argument lists and displays -/
def tNil : TA := fun _ H Q => Q [] H
def tCons (ta : TE) (tr : TA) : TA := fun σ H Q => ta σ H fun x H1 => tr σ H1 fun xs H2 => Q (x :: xs) H2
section
variable {X : Cx} {e : Expr} {es : List Expr} {te : TE} {t : TA} {pos : Pos}
theorem pa_nil : PA X [] tNil := fun _ _ _ _ H Q I h => Calls.spliced_nil ⟨[], H, I, .nil, h⟩
theorem pa_cons (ha : PE X e te) (hr : PA X es t) (hs : starEach (e :: es) X.env = (false, eval e X.env) :: starEach es X.env := by rfl) : PA X (e :: es) (tCons te t) := by
  intro pos pins s σ H Q I h
  rw [hs]
  show wpAny _ _ (spliced ((false, eval e X.env) :: backTo pos (starEach es X.env))) _ _ s
  refine Calls.spliced_cons (thn (ha pins s σ H _ I h) fun u s1 ⟨x, H1, I1, r1, q1⟩ => ?_)
  exact thn (hr pos pins s1 σ H1 _ I1 q1) fun us s2 ⟨xs, H2, I2, r2, q2⟩ => ⟨x :: xs, H2, I2, .cons r1 r2, q2⟩

/-- a tuple, a list of written items -/
def tTup (t : TA) : TE := fun σ H Q => t σ H fun xs H1 => xs.length ≤ sizeLine ∧ ∀ p, H1 p = none → Q (.ref p) (upd H1 p (.tup xs))
def tLst (t : TA) : TE := fun σ H Q => t σ H fun xs H1 => xs.length ≤ sizeLine ∧ ∀ p, H1 p = none → Q (.ref p) (upd H1 p (.lst xs))
theorem pe_tup {x1} (h : PA X es t) : PE X (.Tuple es x1 pos) (tTup t) := by
  intro pins s σ H Q I hq
  refine wpAny_Tuple_spliced (thn (h pos pins s σ H _ I hq) fun us s1 ⟨xs, H1, I1, r, z, q⟩ => ⟨by rw [← r.length]; exact z, ?_⟩)
  have hf : H1 s1.heap.objs.size = none := I1.hok.fresh (Nat.le_refl _)
  refine ⟨.ref s1.heap.objs.size, upd H1 s1.heap.objs.size (.tup xs), I1.laid (t' := s1.toks) (fun b u e => Heap.get?_push_of_some _ e) (Nat.le_refl _) ?_, rfl, q _ hf⟩
  exact ⟨z, us, r, ⟨_, Heap.get?_push_size _ rfl, rfl, _, rfl⟩⟩
theorem pe_lst (h : PA X es t) : PE X (.List es pos) (tLst t) := by
  intro pins s σ H Q I hq
  refine wpAny_List_spliced (thn (h pos pins s σ H _ I hq) fun us s1 ⟨xs, H1, I1, r, z, q⟩ => ⟨by rw [← r.length]; exact z, ?_⟩)
  have hf : H1 s1.heap.objs.size = none := I1.hok.fresh (Nat.le_refl _)
  refine ⟨.ref s1.heap.objs.size, upd H1 s1.heap.objs.size (.lst xs), I1.laid (t' := s1.toks) (fun b u e => Heap.get?_push_of_some _ e) (Nat.le_refl _) ?_, rfl, q _ hf⟩
  exact ⟨z, us, 0, r, Heap.get?_push_size _ rfl⟩
end

/-! ### what a def promises -/
/-- a def's promise: the bound arguments in the parameters' order, the heap, the wanted end, the wanted exception -/
abbrev Sp := List V → Hp → VK → XK → Prop
/-- how an exception lies behind a call (file 08 gives it): the callers' frames, abstract heap and state ahead of the call, the wish, the exception, the state -/
abbrev CXT := List Env → Hp → Shared → XK → Value → Shared → Prop

/-- the state at a call -/
structure Env0 (P : Program) (w : World) (K : PySem.W.Frag) (mg : Str → Option Value) (base : Heap) (A : Around) (outer : List Env) (s : Shared) (H : Hp) : Prop where
  frames : A.frames = some outer
  mod : Mod K mg base
  bs : ∀ b o, base.get? b = some o → s.heap.get? b = some o ∧ H b = none
  bsz : base.objs.size ≤ s.heap.objs.size
  funs : s.heap.FunFrames base outer
  frf : ∀ b ∈ frs outer, H b = none
  hok : HOk P w H s.heap
  bare : AllBare s.gens
/-- a call's end -/
def CE (outer : List Env) (P : Program) (w : World) (H : Hp) (s : Shared) (Q : VK) (u : Value) (s' : Shared) : Prop :=
  ∃ v H', s'.os = s.os ∧ AllBare s'.gens ∧ Un (frs outer) [] H H' s.heap s'.heap ∧ HOk P w H' s'.heap ∧ RelV v u ∧ Q v H'
def CR (CX : CXT) (outer : List Env) (P : Program) (w : World) (H : Hp) (s : Shared) (Q : VK) (E : XK) (r : Result) (s' : Shared) : Prop :=
  match r with
  | .ok (.ret u) => CE outer P w H s Q u s'
  | .ok _ => False
  | .error e => CX outer H s E e s'
structure FnOk (P : Program) (w : World) (K : PySem.W.Frag) (mg : Str → Option Value) (base : Heap) (CX : CXT) (k : Nat) (f : Addr) (fd : FuncData) (ps : List Str) (sp : Sp) : Prop where
  len : ∀ vs H Q E, sp vs H Q E → vs.length = ps.length
  run : ∀ (A : Around) (outer : List Env) (s : Shared) (H : Hp) (args : Args) (us : List Value) (vs : List V) (Q : VK) (E : XK), Room k A → Env0 P w K mg base A outer s H → BindsTo s fd args (ps.zip us) → Vals vs us → sp vs H Q E →
    codeAny (model P w) A (.call (.ref f) args) (CR CX outer P w H s Q E) s
theorem FnOk.mono {P : Program} {w : World} {K : PySem.W.Frag} {mg : Str → Option Value} {base : Heap} {CX : CXT} {j k : Nat} {f : Addr} {fd : FuncData} {ps : List Str} {sp : Sp} (F : FnOk P w K mg base CX j f fd ps sp) (h : j ≤ k) :
    FnOk P w K mg base CX k f fd ps sp := ⟨F.len, fun A outer s H args us vs Q E hr => F.run A outer s H args us vs Q E (hr.mono h)⟩
/-- a weaker promise -/
theorem FnOk.imp {P : Program} {w : World} {K : PySem.W.Frag} {mg : Str → Option Value} {base : Heap} {CX : CXT} {k : Nat} {f : Addr} {fd : FuncData} {ps : List Str} {sp sp' : Sp} (F : FnOk P w K mg base CX k f fd ps sp)
    (h : ∀ vs H Q E, sp' vs H Q E → sp vs H Q E) : FnOk P w K mg base CX k f fd ps sp' :=
  ⟨fun vs H Q E q => F.len vs H Q E (h _ _ _ _ q), fun A outer s H args us vs Q E hr he hb hv hs => F.run A outer s H args us vs Q E hr he hb hv (h _ _ _ _ hs)⟩

theorem Env0.in1 {P : Program} {w : World} {K : PySem.W.Frag} {mg : Str → Option Value} {base : Heap} {A : Around} {outer : List Env} {s : Shared} {H : Hp} (e : Env0 P w K mg base A outer s H) :
    Env0 P w K mg base A.in1 outer s H := ⟨e.frames, e.mod, e.bs, e.bsz, e.funs, e.frf, e.hok, e.bare⟩

section
variable {X : Cx} {pins : List (Addr × Obj)} {σ : St} {H : Hp} {s s' : Shared}
/-- from a body: what a callee wants -/
theorem Inv.env0 (I : Inv X pins σ H s) : Env0 X.prog X.w X.K X.mg X.base X.A X.stack s H :=
  ⟨I.ok.frames, I.ok.mod, I.bs, Nat.le_trans I.ok.bsz I.sz, I.stack, I.stkFree, I.hok, I.bare⟩
/-- behind a call -/
theorem Inv.after {Q : VK} {u : Value} (I : Inv X pins σ H s) (h : CE X.stack X.prog X.w H s Q u s') : EP X pins σ Q u s' := by
  obtain ⟨v, H', os, bare, un, hok, r, q⟩ := h
  obtain ⟨hh, g, d, t, os'⟩ := s'
  obtain rfl : os' = s.os := os
  exact ⟨v, H', I.call (h' := hh) (g' := g) (d' := d) (t' := t) (ch := []) un hok bare (fun b z => absurd z (by simp)), r, q⟩
end

/-! ### calls -/
/-- f(..): the written arguments, then the defaults dvs; E: what is wanted of an exception -/
def tCall (sp : Sp) (dvs : List V) (E : XK) (t : TA) : TE := fun σ H Q => t σ H fun vs H1 => sp (vs ++ dvs) H1 Q E
/-- how the parameters are bound: us the positional arguments, kw the keywords' values by name, ds the defaults that fill up -/
def Binds (K : PySem.W.Frag) (fd : FuncData) (ps : List Str) (ds : List Value) : Prop :=
  ∀ (s : Shared) (us : List Value), K.In s.heap → (us ++ ds).length = ps.length → BindsTo s fd ⟨us, []⟩ (ps.zip (us ++ ds))
/-- every parameter is given -/
theorem Binds.all {K : PySem.W.Frag} {fd : FuncData} {ps : List Str} (h : ∀ us : List Value, us.length = ps.length → bindArgs fd ⟨us, []⟩ = pure (ps.zip us)) : Binds K fd ps [] := fun s us _ hl => by
  rw [List.append_nil] at hl ⊢
  exact .of_eq (h us hl)

/-- an exception of a callee reaches what this body wants of exceptions -/
def Passes (CX : CXT) (X : Cx) (E : XK) : Prop := ∀ (pins : List (Addr × Obj)) (σ : St) (H : Hp) (s : Shared) (e : Value) (s' : Shared), Inv X pins σ H s → CX X.stack H s E e s' → X.xe e s'

section
variable {X : Cx} {CX : CXT} {k : Nat} {f C : Addr} {fd : FuncData} {ps : List Str} {sp : Sp} {dvs : List V} {ds : List Value} {E : XK} {x m : Str} {p pos apos : Pos} {e o : Expr} {es : List Expr} {ta : TE} {t : TA}

/-- the callee runs -/
theorem run_fn {pins : List (Addr × Obj)} {σ : St} {H : Hp} {s : Shared} {Q : VK} {us : List Value} {vs : List V} (F : FnOk X.prog X.w X.K X.mg X.base CX k f fd ps sp) (hr : Room k X.A) (hb : Binds X.K fd ps ds) (hd : Vals dvs ds) (hx : Passes CX X E)
    (I : Inv X pins σ H s) (r : Vals vs us) (h : sp (vs ++ dvs) H Q E) : wpAny (model X.prog X.w) X.A (call (.ref f) us) (EP X pins σ Q) X.xe s := by
  have r2 : Vals (vs ++ dvs) (us ++ ds) := r.append hd
  have hl : (us ++ ds).length = ps.length := by rw [← r2.length]; exact F.len _ _ _ _ h
  refine wpAny_call (codeAny_mono (F.run X.A X.stack s H ⟨us, []⟩ (us ++ ds) (vs ++ dvs) Q E hr I.env0 (hb s us I.kIn hl) r2 h) fun r s' hq => ?_)
  cases r with
  | error e => exact hx pins σ H s e s' I hq
  | ok fl =>
    cases fl with
    | ret u => exact I.after hq
    | next => exact False.elim hq
    | brk => exact False.elim hq
    | cont => exact False.elim hq

theorem pe_call (F : FnOk X.prog X.w X.K X.mg X.base CX k f fd ps sp) (hr : Room k X.A) (hg : Gl X x) (hm : X.mg x = some (.ref f)) (hk : PySem.W.keepIn X.K (.ref f) = true) (hb : Binds X.K fd ps ds) (hd : Vals dvs ds) (hx : Passes CX X E)
    (ha : PA X (e :: es) t) (hdb : (x == ("__debug__" : Str)) = false := by decide) (he : starEach (e :: es) X.env = (false, eval e X.env) :: starEach es X.env := by rfl) (hpl : (backTo pos (starEach es X.env)).any (·.1) = false := by rfl) :
    PE X (.Call (.Name x p) (e :: es) [] pos) (tCall sp dvs E t) := by
  intro pins s σ H Q I h
  refine wpAny_Call_Name_kw (ld_glob I hg hm ?_ hdb)
  refine PySem.W.callWith_K (h₀ := X.base) I.ok.mod.kin hk (thn (ha pos pins s σ H _ I h) fun us s1 ⟨vs, H1, I1, r, q⟩ => ⟨I1.kIn, ?_⟩) he hpl
  exact run_fn F hr hb hd hx I1 r q
/-- what a class must have to be made -/
structure Mk (K : PySem.W.Frag) (C f : Addr) : Prop where
  makes : PySem.W.makesIn K C = true
  init : PySem.W.findIn K (.ref C) "__init__" = some (some (.ref f))
  fn : PySem.W.isFn K (.ref f) = true
  kp : PySem.W.keepIn K (.ref C) = true

end

/-! ### keywords -/
/-- the values of the keywords, from the left -/
def PK (X : Cx) (kws : List Keyword) (t : TA) : Prop :=
  ∀ (pos : Pos) (pins : List (Addr × Obj)) (s : Shared) (σ : St) (H : Hp) (Q : List V → Hp → Prop), Inv X pins σ H s → t σ H Q → wpAny (model X.prog X.w) X.A (evalAll ((backToKw pos (keywordEach kws X.env)).map (·.2))) (AP X pins σ Q) X.xe s
section
variable {X : Cx} {CX : CXT} {k : Nat} {f C : Addr} {fd : FuncData} {ps ks : List Str} {sp : Sp} {E : XK} {x m : Str} {p pos apos kpos : Pos} {e o : Expr} {es : List Expr} {kws : List Keyword} {te ta : TE} {t tk : TA} {nm : Option Str}
theorem pk_nil : PK X [] tNil := fun _ _ _ _ H Q I h => wpAny_evalAll_nil ⟨[], H, I, .nil, h⟩
theorem pk_cons (ha : PE X e te) (hr : PK X kws t) : PK X (⟨nm, e, kpos⟩ :: kws) (tCons te t) := by
  intro pos pins s σ H Q I h
  show wpAny _ _ (evalAll ((do let v ← eval e X.env; standAt pos; pure v) :: (backToKw pos (keywordEach kws X.env)).map (·.2))) _ _ s
  refine wpAny_evalAll_cons (wpAny_bind (thn (ha pins s σ H _ I h) fun u s1 ⟨x, H1, I1, r1, q1⟩ => wpAny_bind (wpAny_standAt (wpAny_pure ?_))))
  exact thn (hr pos pins s1 σ H1 _ I1 q1) fun us s2 ⟨xs, H2, I2, r2, q2⟩ => ⟨x :: xs, H2, I2, .cons r1 r2, q2⟩

/-- how a call with keywords binds: g puts the positional values us and the keywords' values ws (names ks) in the parameters' order, defaults among them -/
structure KBinds (K : PySem.W.Frag) (fd : FuncData) (ps ks : List Str) (g : List Value → List Value → List Value) (gV : List V → List V → List V) : Prop where
  to : ∀ (s : Shared) (us ws : List Value), K.In s.heap → (g us ws).length = ps.length → BindsTo s fd ⟨us, ks.zip ws⟩ (ps.zip (g us ws))
  rel : ∀ {vs : List V} {us : List Value} {zs : List V} {ws : List Value}, Vals vs us → Vals zs ws → Vals (gV vs zs) (g us ws)
variable {g : List Value → List Value → List Value} {gV : List V → List V → List V}
end

/-! ### a def's body keeps its promise -/
/-- names: the parameters first -/
structure FnScope (N P : List Str) (sc : Scope) : Prop where
  kind : sc.kind = .function
  co : sc.isCoroutine = false
  gen : sc.isGenerator = false
  nd : N.Nodup
  pre : N.take P.length = P
  par : ∀ x ∈ P, sc.names.lookup x = some .local ∨ sc.names.lookup x = some .cell
  nofree : ∀ y ∈ sc.names, y.2 ≠ .free

theorem bindL_out {kindOf : Str → Option NameKind} {x : Str} : ∀ {binds : List (Str × Value)} {m : Str → Option Value}, (∀ v, (x, v) ∉ binds) → bindL kindOf binds m x = m x
  | [], _, _ => rfl
  | (n, v) :: r, m, h => by
    unfold bindL
    rw [bindL_out fun w hw => h w (List.mem_cons_of_mem _ hw)]
    split
    · have : x ≠ n := by rintro rfl; exact h v List.mem_cons_self
      simp [this]
    · rfl
theorem bindC_out {kindOf : Str → Option NameKind} {x : Str} : ∀ {binds : List (Str × Value)} {m : Str → Option Value}, (∀ v, (x, v) ∉ binds) → bindC kindOf binds m x = m x
  | [], _, _ => rfl
  | (n, v) :: r, m, h => by
    unfold bindC
    rw [bindC_out fun w hw => h w (List.mem_cons_of_mem _ hw)]
    split
    · rfl
    · have : x ≠ n := by rintro rfl; exact h v List.mem_cons_self
      simp [this]
theorem bindL_get {kindOf : Str → Option NameKind} {x : Str} {v : Value} : ∀ {P : List Str} {vs : List Value} {i : Nat} {m : Str → Option Value}, P.Nodup → P[i]? = some x → vs[i]? = some v → kindOf x = some .local →
    bindL kindOf (P.zip vs) m x = some v
  | [], _, _, _, _, h, _, _ => by simp at h
  | _ :: _, [], _, _, _, _, h, _ => by simp at h
  | p :: P, w :: vs, 0, m, nd, h1, h2, hk => by
    simp at h1 h2; subst h1; subst h2
    show bindL kindOf ((p, w) :: P.zip vs) m p = _
    unfold bindL
    rw [bindL_out fun v hv => (List.nodup_cons.mp nd).1 (List.of_mem_zip hv).1, if_pos hk]
    simp
  | p :: P, w :: vs, i + 1, m, nd, h1, h2, hk => by
    show bindL kindOf ((p, w) :: P.zip vs) m x = _
    unfold bindL
    exact bindL_get (i := i) (List.nodup_cons.mp nd).2 (by simpa using h1) (by simpa using h2) hk
theorem bindC_get {kindOf : Str → Option NameKind} {x : Str} {v : Value} : ∀ {P : List Str} {vs : List Value} {i : Nat} {m : Str → Option Value}, P.Nodup → P[i]? = some x → vs[i]? = some v → kindOf x ≠ some .local →
    bindC kindOf (P.zip vs) m x = some v
  | [], _, _, _, _, h, _, _ => by simp at h
  | _ :: _, [], _, _, _, _, h, _ => by simp at h
  | p :: P, w :: vs, 0, m, nd, h1, h2, hk => by
    simp at h1 h2; subst h1; subst h2
    show bindC kindOf ((p, w) :: P.zip vs) m p = _
    unfold bindC
    rw [bindC_out fun v hv => (List.nodup_cons.mp nd).1 (List.of_mem_zip hv).1, if_neg hk]
    simp
  | p :: P, w :: vs, i + 1, m, nd, h1, h2, hk => by
    show bindC kindOf ((p, w) :: P.zip vs) m x = _
    unfold bindC
    exact bindC_get (i := i) (List.nodup_cons.mp nd).2 (by simpa using h1) (by simpa using h2) hk

/-- the names' values at the entry -/
def start (N : List Str) (vs : List V) : St := vs.map some ++ List.replicate (N.length - vs.length) none

/-- the context of a def's body, at its entry; an exception leaves the frame, then lies as CX says -/
def cxOf (CX : CXT) (P : Program) (w : World) (K : PySem.W.Frag) (mg : Str → Option Value) (base : Heap) (N : List Str) (qual : Str) (scope : Scope) (f : Addr) (cd : Value) (A : Around) (outer : List Env) (s : Shared) (H : Hp) (E : XK) : Cx where
  prog := P
  w := w
  K := K
  mg := mg
  base := base
  A := A.deeper (envOfC qual scope s.heap.objs.size f cd)
  N := N
  s₀ := s
  H₀ := H
  env := envOfC qual scope s.heap.objs.size f cd
  outer := outer
  stack := envOfC qual scope s.heap.objs.size f cd :: outer
  ex := []
  calm := true
  fn := fun _ => true
  pn := []
  xe := fun e s' => wpAny (model P w) (A.deeper (envOfC qual scope s.heap.objs.size f cd)) (leaving (envOfC qual scope s.heap.objs.size f cd) e) (fun _ s'' => CX outer H s E e s'') (fun e' s'' => CX outer H s E e' s'') s'

theorem cell_has {sc : Scope} {n : Nat} {x : Str} (h : sc.names.lookup x = some .cell) : ∃ c, (cellsFrom n sc.names []).lookup x = some c := by
  have q := PySem.W.cellsFrom_some sc.names n [] (.inl h)
  exact Option.isSome_iff_exists.mp q

theorem inv_start {CX : CXT} {P : Program} {w : World} {K : PySem.W.Frag} {mg : Str → Option Value} {base : Heap} {N ps : List Str} {qual : Str} {scope : Scope} {f : Addr} {cd : Value} {A : Around} {outer : List Env} {s s1 : Shared} {H : Hp} {E : XK} {us : List Value} {vs : List V}
    (S : FnScope N ps scope) (hd : A.handled = none) (e0 : Env0 P w K mg base A outer s H) (hl : vs.length = ps.length) (r : Vals vs us)
    (x : InCallC s s.heap.objs.size (bindL (envOfC qual scope s.heap.objs.size f cd).kindOf (ps.zip us) fun _ => none) (cellsFrom (s.heap.objs.size + 1) scope.names []) (bindC (envOfC qual scope s.heap.objs.size f cd).kindOf (ps.zip us) fun _ => none) s1) :
    Inv (cxOf CX P w K mg base N qual scope f cd A outer s H E) [] (start N vs) H s1 := by
  have hpl : ps.length ≤ N.length := by have := congrArg List.length S.pre; rw [List.length_take] at this; omega
  obtain ⟨h1, tk, rfl, hk⟩ := x.done
  have noA : ∀ b : Addr, b ∉ (cxOf CX P w K mg base N qual scope f cd A outer s H E).ex := fun b z => absurd (show b ∈ ([] : List Addr) from z) (by simp)
  refine ⟨⟨e0.mod, S.kind, rfl, rfl, Nat.le_refl _, fun y z c h1 h2 => ?_, fun y hy => ?_, fun y c _ h => ?_, fun _ => hd, Around.frames_deeper e0.frames, .inr ⟨rfl, rfl⟩, fun b z => absurd z (noA b), e0.bs, e0.bsz, fun b _ _ => noA b, fun b z => absurd z (noA b), e0.funs, e0.frf⟩,
    rfl, e0.bare, Un.kept hk, ⟨_, x.toInCall.ns, fun i y v h1 h2 h3 => ?_⟩, fun y c h => ⟨_, x.cell y c h⟩, e0.hok.fresh (Nat.le_refl _), fun y c h => ?_, fun p hp => absurd (show p ∈ ([] : List (Addr × Obj)) from hp) (by simp), e0.hok.kept hk, ?_⟩
  · exact name_of_addr x.apart (PySem.mem_of_lookup h1) (PySem.mem_of_lookup h2)
  · have hy : scope.names.lookup y = some .cell ∨ scope.names.lookup y = some .free := hy
    rcases hy with hy | hy
    · exact cell_has hy
    · exact absurd rfl (S.nofree _ (PySem.mem_of_lookup hy))
  · exact Nat.le_of_lt (x.above y c (PySem.mem_of_lookup h))
  · have hi : i < vs.length := by
      unfold start at h2
      by_cases hi : i < vs.length
      · exact hi
      · rw [List.getElem?_append_right (by simpa using hi)] at h2
        rw [List.getElem?_replicate] at h2
        split at h2 <;> cases h2
    have ha : vs[i]? = some v := by
      unfold start at h2
      rw [List.getElem?_append_left (by simpa using hi), List.getElem?_map] at h2
      cases e : vs[i]? with
      | none => rw [e] at h2; cases h2
      | some a => rw [e] at h2; cases h2; rfl
    obtain ⟨u, hu, rv⟩ := r.get ha
    have hp : ps[i]? = some y := by
      rw [← S.pre, List.getElem?_take_of_lt (by omega)]; exact h1
    have ndP : ps.Nodup := by rw [← S.pre]; exact S.nd.sublist (List.take_sublist _ _)
    refine ⟨u, rv, ?_⟩
    rcases S.par y (List.mem_of_getElem? hp) with k | k
    · exact .inl ⟨k, bindL_get ndP hp hu k⟩
    · obtain ⟨c, e⟩ := cell_has (n := s.heap.objs.size + 1) k
      refine .inr ⟨.inl k, c, e, ?_⟩
      have q := x.cell y c e
      rw [bindC_get ndP hp hu (by show scope.names.lookup y ≠ _; rw [k]; decide)] at q
      exact q
  · exact e0.hok.fresh (Nat.le_of_lt (x.above y c (PySem.mem_of_lookup h)))
  · unfold start
    show _ = N.length
    rw [List.length_append, List.length_map, List.length_replicate]
    omega

/-- THE RULE: a def (or a method) of the text, by its body. The body's reading t is chosen for each entry; it is run at the parameters' values -/
theorem fn_of {CX : CXT} {P : Program} {w : World} {K : PySem.W.Frag} {mg : Str → Option Value} {base : Heap} {k : Nat} {f : Addr} {name qual : Str} {params : Arguments} {body : List Stmt} {scope : Scope} {dV kV doc pm cdv ct oc : Value} {an od : Option Addr}
    {osl : Array (Option Value)} {N ps : List Str} {sp : Sp} (lk : K.lookup f = some ⟨oc, od, .func (PySem.W.fnOf name qual params body scope dV kV doc pm an cdv ct), osl⟩) (hcd : PySem.W.codeIn K cdv qual = true) (S : FnScope N ps scope)
    (len : ∀ vs H Q E, sp vs H Q E → vs.length = ps.length)
    (hbody : ∀ (A : Around) (outer : List Env) (s : Shared) (H : Hp) (vs : List V) (Q : VK) (E : XK), Room k (A.deeper (envOfC qual scope s.heap.objs.size f cdv)) → sp vs H Q E →
      ∃ t, PSs (cxOf CX P w K mg base N qual scope f cdv A outer s H E) body t ∧ t { nx := fun _ H' => Q .non H', rt := Q } (start N vs) H) :
    FnOk P w K mg base CX (k + 1) f (PySem.W.fnOf name qual params body scope dV kV doc pm an cdv ct) ps sp := by
  refine ⟨len, fun A outer s H args us vs Q E hr e0 hb r hsp => ?_⟩
  have hl := len _ _ _ _ hsp
  have KX : K.In s.heap := e0.mod.kin.keeps fun b o e => (e0.bs b o e).1
  have lim : s.heap.NoLimit := e0.mod.nolimit.keeps fun b o e => (e0.bs b o e).1
  have hkind : ∀ y ∈ ps.zip us, scope.names.lookup y.1 = some .local ∨ (scope.names.lookup y.1 = some .cell ∧ ((cellsFrom (s.heap.objs.size + 1) scope.names []).lookup y.1).isSome = true) := fun ⟨n, v⟩ hy => by
    rcases S.par n (List.of_mem_zip hy).1 with q | q
    · exact .inl q
    · exact .inr ⟨q, PySem.W.cellsFrom_some _ _ _ (.inl q)⟩
  refine codeAny_call_function hr.depth (KX _ _ lk) rfl S.co S.gen rfl (PySem.W.codeRec_of KX hcd) (hb _ _ _ _ ?_)
  refine wpAny_newFunctionEnv_cells S.kind hkind fun env he s1 x => ?_
  subst he
  refine ⟨lim.keeps x.toInCall.keep, codeAny_func ?_⟩
  obtain ⟨t, ht, hq⟩ := hbody A outer s H vs Q E (hr.deeper _) hsp
  have I : Inv (cxOf CX P w K mg base N qual scope f cdv A outer s H E) [] (start N vs) H s1 := inv_start S hr.hd e0 hl r x
  refine wpAny_mono (ht [] s1 (start N vs) H _ I hq) (fun fl s' hs => ?_) fun e s' hs => hs
  have fin : ∀ {σ' : St} {H' : Hp} {v : V} {u : Value}, Inv (cxOf CX P w K mg base N qual scope f cdv A outer s H E) [] σ' H' s' → RelV v u → Q v H' → CE outer P w H s Q u s' :=
    fun {σ' H' v u} J rv q => ⟨v, H', J.os, J.bare, J.base, J.hok, rv, q⟩
  cases fl with
  | ret u =>
    obtain ⟨v, σ', H', J, rv, q⟩ := hs
    exact fin J rv q
  | next =>
    obtain ⟨σ', H', J, q⟩ := hs
    exact fin (v := V.non) (u := Value.none) J rfl q
  | brk =>
    obtain ⟨_, _, _, q⟩ := hs
    exact False.elim q
  | cont =>
    obtain ⟨_, _, _, q⟩ := hs
    exact False.elim q
end L2

namespace L2
open PySem PySem.Spec PyProof.Rows
section
variable {X : Cx} {x : Str} {p pos : Pos} {e : Expr} {es : List Expr} {t : TA} {id T : String} {r : List V → Hp → VK → Prop}

def tCB (r : List V → Hp → VK → Prop) (t : TA) : TE := fun σ H Q => t σ H fun vs H1 => r vs H1 Q
/-- f(e, ..), f a built-in function -/
theorem pe_callB (hc : CallR X (.builtin id) r) (hg : Gl X x) (hm : X.mg x = none) (hv : bootBuiltins x = some (.builtin id)) (ha : PA X (e :: es) t) (hn : x ≠ "__name__" := by decide) (hdb : (x == ("__debug__" : Str)) = false := by decide)
    (he : starEach (e :: es) X.env = (false, eval e X.env) :: starEach es X.env := by rfl) (hpl : (backTo pos (starEach es X.env)).any (·.1) = false := by rfl) : PE X (.Call (.Name x p) (e :: es) [] pos) (tCB r t) := by
  intro pins s σ H Q I h
  refine wpAny_Call_Name_kw (ld_blt I hg hm hv ?_ hn hdb)
  exact PyProof.Rows.callWith_builtin1 (thn (ha pos pins s σ H _ I h) fun us s1 ⟨vs, H1, I1, r1, q1⟩ => hc pins s1 σ H1 vs us Q I1 r1 q1) he hpl
/-- T(e, ..), T a built-in type -/
theorem pe_callTy (hc : CallR X (.type T) r) (hg : Gl X x) (hm : X.mg x = none) (hv : bootBuiltins x = some (.type T)) (ha : PA X (e :: es) t) (hn : x ≠ "__name__" := by decide) (hdb : (x == ("__debug__" : Str)) = false := by decide)
    (he : starEach (e :: es) X.env = (false, eval e X.env) :: starEach es X.env := by rfl) (hpl : (backTo pos (starEach es X.env)).any (·.1) = false := by rfl) : PE X (.Call (.Name x p) (e :: es) [] pos) (tCB r t) := by
  intro pins s σ H Q I h
  refine wpAny_Call_Name_kw (ld_blt I hg hm hv ?_ hn hdb)
  exact PyProof.Rows.callWith_type1 (thn (ha pos pins s σ H _ I h) fun us s1 ⟨vs, H1, I1, r1, q1⟩ => hc pins s1 σ H1 vs us Q I1 r1 q1) he hpl
end
end L2

namespace HT
open PySem PyProof.Rows

/-- t < u of tuples of ints -/
def lexLt : List Int → List Int → Bool
  | [], [] => false
  | [], _ :: _ => true
  | _ :: _, [] => false
  | x :: xs, y :: ys => if x = y then lexLt xs ys else decide (x < y)
theorem lexLt_cons (x y : Int) (xs ys : List Int) : lexLt (x :: xs) (y :: ys) = if x = y then lexLt xs ys else decide (x < y) := rfl
theorem lexLt_nil_nil : lexLt [] [] = false := rfl
theorem eqAt_int (A : Around) (s : Shared) (a : Int) (t : Tok) (c : Int) (u : Tok) : ∃ e, SeqAt.EqAt A s (.int a t) (.int c u) e ∧ (e = true ↔ a = c) :=
  ⟨(a == c), SeqAt.EqAt.int_int a t c u, by simp⟩
section
open PySem.SeqAt
open PySem.AutoSeq1 (wpAny_loadPart')
open PySem.MeetsSeq PySem.MeetsSeq2 PySem.MeetsSeq3

end

section
variable {prog : Program} {w : World} {A : Around} {E : Value → Shared → Prop} {s : Shared}

/-! ### t[a:b], not the whole -/
/-- a slice's bound as a place among n (d where it is left out) -/
def sIx (n d : Nat) : Option Int → Nat
  | none => d
  | some v => if v < 0 then (v + (n : Int)).toNat else min v.toNat n
theorem sIx_nat (n d k : Nat) : sIx n d (some (k : Int)) = min k n := by
  show (if (k : Int) < 0 then ((k : Int) + (n : Int)).toNat else min (k : Int).toNat n) = min k n
  rw [if_neg (by omega), Int.toNat_natCast]
end
end HT

namespace L2
open PySem PySem.Spec PyProof.Rows

/-! ### the parts of a slice -/
abbrev TO := St → Hp → (Option Int → Hp → Prop) → Prop
/-- a slice's part (left out, or an int) -/
def PO (X : Cx) (e : Option Expr) (t : TO) : Prop :=
  ∀ (pins : List (Addr × Obj)) (s : Shared) (σ : St) (H : Hp) (Q : Option Int → Hp → Prop), Inv X pins σ H s → t σ H Q →
    wpAny (model X.prog X.w) X.A (evalPart e X.env) (fun u s' => ∃ o H', Inv X pins σ H' s' ∧ IsPart u o ∧ Q o H') X.xe s
def tPart (t : TE) : TO := fun σ H Q => t σ H fun x H1 => ∃ i, x = .int i ∧ Q (some i) H1

theorem intsAre_of {ns : List Int} : ∀ {us : List Value}, Vals (ns.map V.int) us → IntsAre us ns := by
  induction ns with
  | nil => intro us r; rw [List.map_nil] at r; cases r; exact .nil
  | cons n ns ih =>
    intro us r
    rw [List.map_cons] at r
    cases r with
    | cons r1 r2 =>
      obtain ⟨t, e⟩ := r1
      subst e
      exact .cons n t (ih r2)

section
variable {X : Cx} {e : Expr} {te : TE} {lo hi : Option Expr} {tl th : TO} {pos p2 : Pos}

theorem po_some (h : PE X e te) : PO X (some e) (tPart te) := by
  intro pins s σ H Q I hw
  rw [evalPart_some]
  refine thn (h pins s σ H _ I hw) fun u s1 ⟨x, H1, I1, r1, q1⟩ => ?_
  obtain ⟨i, rfl, q⟩ := q1
  obtain ⟨t, rfl⟩ := r1
  exact ⟨some i, H1, I1, .int i t, q⟩

/-- what a slice of a value is, by values: the slice object stands at sl -/
def SlR (X : Cx) (r : V → Option Int → Option Int → Hp → VK → Prop) : Prop :=
  ∀ (pins : List (Addr × Obj)) (s : Shared) (σ : St) (H : Hp) (x : V) (v vl vu : Value) (lo hi : Option Int) (sl : Addr) (Q : VK), Inv X pins σ H s → RelV x v → s.heap.IsSliceOf sl vl vu .none → IsPart vl lo → IsPart vu hi → r x lo hi H Q →
    ∃ T id, typeLookup (.type T) "__getitem__" = pure (some (.builtin id)) ∧ s.TypeIs v T ∧ wpAny (model X.prog X.w) X.A (getItem v (.ref sl)) (EP X pins σ Q) X.xe s
theorem SlR.or {r r' : V → Option Int → Option Int → Hp → VK → Prop} (h : SlR X r) (h' : SlR X r') : SlR X (fun x lo hi H Q => r x lo hi H Q ∨ r' x lo hi H Q) := by
  intro pins s σ H x v vl vu lo hi sl Q I rx hs pl pu q
  rcases q with q | q
  · exact h pins s σ H x v vl vu lo hi sl Q I rx hs pl pu q
  · exact h' pins s σ H x v vl vu lo hi sl Q I rx hs pl pu q
def tSl (r : V → Option Int → Option Int → Hp → VK → Prop) (te : TE) (tl th : TO) : TE := fun σ H Q => te σ H fun x H1 => tl σ H1 fun l H2 => th σ H2 fun u H3 => r x l u H3 Q
/-- a[lo:hi], any a -/
theorem pe_slice {r : V → Option Int → Option Int → Hp → VK → Prop} (hr : SlR X r) (he : PE X e te) (hl : PO X lo tl) (hu : PO X hi th) : PE X (.Subscript e (.Slice lo hi none p2) pos) (tSl r te tl th) := by
  intro pins s σ H Q I h
  refine Subscript_ (thn (he pins s σ H _ I h) fun v s1 ⟨x, H1, I1, r1, q1⟩ => ?_)
  refine wpAny_Slice (thn (hl pins s1 σ H1 _ I1 q1) fun vl s2 ⟨l, H2, I2, pl, q2⟩ => thn (hu pins s2 σ H2 _ I2 q2) fun vu s3 ⟨u, H3, I3, pu, q3⟩ => ?_)
  rw [evalPart_none]
  refine wpAny_pure ?_
  have I4 : Inv X pins σ H3 { s3 with heap := s3.heap.push { cls := .type "slice", data := .fields #[vl, vu, .none] } } := I3.kept (t' := s3.toks) fun b ob q => Heap.get?_push_of_some _ q
  obtain ⟨T, id, hT, ht, hg⟩ := hr pins { s3 with heap := s3.heap.push { cls := .type "slice", data := .fields #[vl, vu, .none] } } σ H3 x v vl vu l u s3.heap.objs.size Q I4 r1 (Heap.IsSliceOf.new ..) pl pu q3
  show wpAny (model X.prog X.w) X.A (subscriptTail e (.Slice lo hi none p2) v (.ref s3.heap.objs.size)) (EP X pins σ Q) X.xe { s3 with heap := s3.heap.push { cls := .type "slice", data := .fields #[vl, vu, .none] } }
  exact tail_any (ops := [.ref s3.heap.objs.size, v]) ht hT hg (by with_unfolding_all rfl)

/-- the items of xs[lo:hi] -/
def cutV (xs : List V) (lo hi : Option Int) : List V := (xs.drop (HT.sIx xs.length 0 lo)).take (HT.sIx xs.length xs.length hi - HT.sIx xs.length 0 lo)
theorem cutV_length (xs : List V) (lo hi : Option Int) : (cutV xs lo hi).length ≤ xs.length := by
  unfold cutV
  rw [List.length_take, List.length_drop]
  omega
/-! ### t < u, t + u -/
end
end L2

namespace L2
open PySem PySem.Spec PyProof.Rows

/-! ### places -/
/-- the place that an index of any sign means -/
def ixN (n : Nat) (i : Int) : Option Nat := if 0 ≤ i then (if i < n then some i.toNat else none) else if -(n : Int) ≤ i then some (i + n).toNat else none
def atI {α : Type} (xs : List α) (i : Int) : Option α := (ixN xs.length i).bind fun j => xs[j]?
theorem ixN_seq {n : Nat} {i : Int} {j : Nat} (h : ixN n i = some j) : seqIndex? i n = some j ∧ j < n ∧ -(n : Int) ≤ i ∧ i < n := by
  unfold ixN at h
  by_cases h0 : 0 ≤ i
  · rw [if_pos h0] at h
    by_cases h1 : i < n
    · rw [if_pos h1] at h
      have e : i.toNat = j := Option.some.inj h
      exact ⟨by rw [seqIndex_of h0 h1, e], by omega, by omega, h1⟩
    · rw [if_neg h1] at h; cases h
  · rw [if_neg h0] at h
    by_cases h1 : -(n : Int) ≤ i
    · rw [if_pos h1] at h
      have e : (i + n).toNat = j := Option.some.inj h
      exact ⟨by rw [seqIndex_neg (by omega) h1, e], by omega, h1, by omega⟩
    · rw [if_neg h1] at h; cases h
theorem atI_get {α : Type} {xs : List α} {i : Int} {v : α} (h : atI xs i = some v) : ∃ j, seqIndex? i xs.length = some j ∧ xs[j]? = some v ∧ j < xs.length ∧ -(xs.length : Int) ≤ i ∧ i < xs.length := by
  unfold atI at h
  cases e : ixN xs.length i with
  | none => rw [e] at h; cases h
  | some j =>
    rw [e] at h
    obtain ⟨h1, h2, h3, h4⟩ := ixN_seq e
    exact ⟨j, h1, h, h2, h3, h4⟩
theorem atI_nat {α : Type} {xs : List α} {j : Nat} {v : α} (h : xs[j]? = some v) : atI xs (j : Int) = some v := by
  have hj : j < xs.length := (List.getElem?_eq_some_iff.mp h).1
  have e : ixN xs.length (j : Int) = some j := by
    unfold ixN
    rw [if_pos (by omega), if_pos (by omega)]; simp
  unfold atI; rw [e]; exact h
/-! ### what may be subscripted -/
/-- what stands as an index of a plain subscript -/
def PlainIx (b : Expr) : Prop := ∀ o i, subscripted b false o i = operate [o, i] (getItem o i)
/-- a subscript by values -/
def IxR (X : Cx) (r : R2) : Prop :=
  ∀ (value slice : Expr) (pins : List (Addr × Obj)) (s : Shared) (σ : St) (H : Hp) (x y : V) (v u : Value) (Q : VK), Inv X pins σ H s → RelV x v → RelV y u → r x y H Q →
    subscripted slice false v u = operate [v, u] (getItem v u) → wpAny (model X.prog X.w) X.A (subscriptTail value slice v u) (EP X pins σ Q) X.xe s
/-- a call of a builtin's method by values: the receiver, the arguments -/
def MtR (X : Cx) (id : String) (r : V → List V → Hp → VK → Prop) : Prop :=
  ∀ (pins : List (Addr × Obj)) (s : Shared) (σ : St) (H : Hp) (x : V) (xs : List V) (v : Value) (us : List Value) (Q : VK), Inv X pins σ H s → RelV x v → Vals xs us → r x xs H Q →
    wpAny (model X.prog X.w) X.A (call (.builtin id) (v :: us)) (EP X pins σ Q) X.xe s
section
variable {X : Cx} {a b : Expr} {ta tb : TE} {pos : Pos}
theorem IxR.or {r r' : R2} (h : IxR X r) (h' : IxR X r') : IxR X (fun x y H Q => r x y H Q ∨ r' x y H Q) := by
  intro value slice pins s σ H x y v u Q I rx ry q hs
  rcases q with q | q
  · exact h value slice pins s σ H x y v u Q I rx ry q hs
  · exact h' value slice pins s σ H x y v u Q I rx ry q hs
theorem MtR.or {id : String} {r r' : V → List V → Hp → VK → Prop} (h : MtR X id r) (h' : MtR X id r') : MtR X id (fun x xs H Q => r x xs H Q ∨ r' x xs H Q) := by
  intro pins s σ H x xs v us Q I rx rs q
  rcases q with q | q
  · exact h pins s σ H x xs v us Q I rx rs q
  · exact h' pins s σ H x xs v us Q I rx rs q
/-- a[b] -/
theorem pe_ix {r : R2} (hr : IxR X r) (ha : PE X a ta) (hb : PE X b tb) (hs : PlainIx b) : PE X (.Subscript a b pos) (tOp r ta tb) := by
  intro pins s σ H Q I h
  exact Subscript_ (binT ha hb I h fun v u s2 x y H2 I2 rx ry q => hr a b pins s2 σ H2 x y v u Q I2 rx ry q (hs _ _))

def rIxL (K : PySem.W.Frag) : R2 := fun x y H Q => ∃ p xs i v, x = .ref p ∧ y = .int i ∧ SqL K H p xs ∧ atI xs i = some v ∧ Q v H
def rIxT (K : PySem.W.Frag) : R2 := fun x y H Q => ∃ p xs i v, x = .ref p ∧ y = .int i ∧ SqT K H p xs ∧ atI xs i = some v ∧ Q v H
theorem ix_list : IxR X (rIxL X.K) := by
  intro value slice pins s σ H x y v u Q I rx ry h hs
  obtain ⟨p, xs, i, z, rfl, rfl, hq, he, q⟩ := h
  cases rx
  obtain ⟨t, rfl⟩ := ry
  obtain ⟨its, r, pl, hz⟩ := I.list hq
  obtain ⟨j, h1, h2, h3, h4, h5⟩ := atI_get he
  obtain ⟨w, ew, rw'⟩ := r.get h2
  have hl := r.length
  have hn := line63
  have fin : EP X pins σ Q w s := ⟨z, H, I, rw', q⟩
  by_cases h0 : 0 ≤ i
  · have hj : i.toNat = j := by
      rw [seqIndex_of h0 h5] at h1
      exact Option.some.inj h1
    exact item_listR pl.isList h0 (by omega) (by rw [hj]; simpa using ew) fin hs
  · have hj : (i + (its.toArray.size : Int)).toNat = j := by
      rw [seqIndex_neg (by omega) h4] at h1
      rw [List.size_toArray, ← hl]
      exact Option.some.inj h1
    exact subscriptTail_builtinR (x := w) pl.isList.typeIs slot_list_getitem.lookup
      (wpAny_getItem_list_neg (Q := fun r s' => r = w ∧ EP X pins σ Q r s') pl.isList (by omega) (by rw [List.size_toArray] <;> omega) (by omega) (by rw [hj]; simpa using ew) ⟨rfl, fin⟩) hs
theorem ix_tup : IxR X (rIxT X.K) := by
  intro value slice pins s σ H x y v u Q I rx ry h hs
  obtain ⟨p, xs, i, z, rfl, rfl, hq, he, q⟩ := h
  cases rx
  obtain ⟨t, rfl⟩ := ry
  obtain ⟨its, r, pl, hz⟩ := I.tuple hq
  obtain ⟨j, h1, h2, h3, h4, h5⟩ := atI_get he
  obtain ⟨w, ew, rw'⟩ := r.get h2
  have hl := r.length
  have hn := line63
  have fin : EP X pins σ Q w s := ⟨z, H, I, rw', q⟩
  exact subscriptTail_builtinR (x := w) pl.typeIs slot_tuple_getitem.lookup
    (getItem_tuple (j := j) (Q := fun r s' => r = w ∧ EP X pins σ Q r s') pl (by omega) (by omega) (by rw [List.size_toArray, ← hl]; exact h1) (by simpa using ew) ⟨rfl, fin⟩) hs
/-! ### xs[i] = v, any sign -/
/-- the list's object behind a store -/
theorem mapSeq_set (its : List Value) (n j : Nat) (u : Value) : Obj.mapSeq (·.setIfInBounds j u) { cls := .type "list", data := .seq its.toArray n } = { cls := .type "list", data := .seq (its.set j u).toArray n } := by
  simp [Obj.mapSeq]
theorem Inv.lst {pins : List (Addr × Obj)} {σ : St} {H : Hp} {s : Shared} {p : Addr} {xs : List V} (I : Inv X pins σ H s) (h : H p = some (.lst xs)) :
    ∃ (its : List Value) (n : Nat), Vals xs its ∧ s.heap.get? p = some { cls := .type "list", data := .seq its.toArray n } ∧ xs.length ≤ sizeLine := by
  obtain ⟨z, its, n, r, e⟩ := I.hok p _ h
  exact ⟨its, n, r, e, z⟩
/-- the list at p is written by an update of its object -/
theorem Inv.lstUpd {pins : List (Addr × Obj)} {σ : St} {H : Hp} {s : Shared} {p : Addr} {xs ys : List V} {its its' : List Value} {n n' : Nat} {f : Obj → Obj} (I : Inv X pins σ H s) (h : H p = some (.lst xs))
    (ho : s.heap.get? p = some { cls := .type "list", data := .seq its.toArray n }) (hf : f { cls := .type "list", data := .seq its.toArray n } = { cls := .type "list", data := .seq its'.toArray n' }) (r : Vals ys its') (hz : ys.length ≤ sizeLine) (t : Nat) :
    Inv X pins σ (upd H p (.lst ys)) { s with heap := s.heap.update p f, toks := t } := by
  have e : (s.heap.update p f).get? p = some { cls := .type "list", data := .seq its'.toArray n' } := by
    rw [Heap.get?_update_self f ho (by rw [hf] <;> rfl), hf]
  refine I.write (x := p) (e := p) (by rw [h]; trivial) (.inl rfl) (fun b u hb q => (Heap.get?_update_other _ _ (Ne.symm hb)).trans q) ⟨_, e⟩ ?_
  exact ⟨hz, its', n', r, e⟩
def rSetL : V → V → V → Hp → (Hp → Prop) → Prop := fun o i v H Q => ∃ p xs k j, o = .ref p ∧ i = .int k ∧ H p = some (.lst xs) ∧ ixN xs.length k = some j ∧ Q (upd H p (.lst (xs.set j v)))
theorem set_list : PSet X rSetL := by
  intro pins s σ H o i v ov iv u Q I ro ri rv h
  obtain ⟨p, xs, k, j, rfl, rfl, hp, hj, q⟩ := h
  cases ro
  obtain ⟨t, rfl⟩ := ri
  obtain ⟨its, n, r, ho, hz⟩ := I.lst hp
  obtain ⟨h1, h2, h3, h4⟩ := ixN_seq hj
  have hl := r.length
  have hn := line63
  have I' : Inv X pins σ (upd H p (.lst (xs.set j v))) { s with heap := s.heap.update p (Obj.mapSeq (·.setIfInBounds j u)) } :=
    I.lstUpd hp ho (mapSeq_set its n j u) (r.set rv j) (by rw [List.length_set]; exact hz) s.toks
  by_cases h0 : 0 ≤ k
  · have hk : k.toNat = j := by
      rw [seqIndex_of h0 h4] at h1
      exact Option.some.inj h1
    exact PySem.W.ki_setAt ho h0 (by omega) (by rw [List.size_toArray, ← hl]; exact h4) (by rw [hk]; exact ⟨_, I', q⟩)
  · have hk : (k + (its.toArray.size : Int)).toNat = j := by
      rw [seqIndex_neg (by omega) h3] at h1
      rw [List.size_toArray, ← hl]
      exact Option.some.inj h1
    exact PySem.W.ki_setBack ho (by omega) (by rw [List.size_toArray, ← hl]; exact h3) (by omega) (by rw [hk]; exact ⟨_, I', q⟩)

/-! ### slices -/
theorem slice_bounds (lo hi : Option Int) (n : Nat) : (sliceBounds lo hi none n).1 = ((HT.sIx n 0 lo : Nat) : Int) ∧ (sliceBounds lo hi none n).2.1 = ((HT.sIx n n hi : Nat) : Int) ∧ (sliceBounds lo hi none n).2.2 = 1 := by
  refine ⟨?_, ?_, rfl⟩
  · cases lo with
    | none => simp [sliceBounds, HT.sIx]
    | some i =>
      simp only [sliceBounds, HT.sIx, Option.getD_none, show (1 : Int) > 0 by decide, if_true]
      by_cases h : i < 0
      · simp only [h, if_true] <;> omega
      · simp only [h, if_false] <;> omega
  · cases hi with
    | none => simp [sliceBounds, HT.sIx]
    | some i =>
      simp only [sliceBounds, HT.sIx, Option.getD_none, show (1 : Int) > 0 by decide, if_true]
      by_cases h : i < 0
      · simp only [h, if_true] <;> omega
      · simp only [h, if_false] <;> omega
theorem slicePick_cut (its : List Value) (lo hi : Option Int) : slicePick its.toArray lo hi none = ((its.drop (HT.sIx its.length 0 lo)).take (HT.sIx its.length its.length hi - HT.sIx its.length 0 lo)).toArray := by
  obtain ⟨h1, h2, h3⟩ := slice_bounds lo hi its.toArray.size
  unfold slicePick
  rw [h1, h2, h3]
  simp only [sliceRange_one, pick_run, List.size_toArray] <;> rfl
/-- xs[lo:hi] of a list: a new list -/
def rSlL (K : PySem.W.Frag) : V → Option Int → Option Int → Hp → VK → Prop := fun x lo hi H Q => ∃ a xs, x = .ref a ∧ SqL K H a xs ∧ ∀ p, H p = none → Q (.ref p) (upd H p (.lst (cutV xs lo hi)))
theorem sl_list : SlR X (rSlL X.K) := by
  intro pins s σ H x v vl vu lo hi sl Q I rx hs pl pu h
  obtain ⟨a, xs, rfl, hx, q⟩ := h
  cases rx
  obtain ⟨its, r, ht, hz⟩ := I.list hx
  have hlen := r.length
  refine ⟨"list", _, slot_list_getitem.lookup, ht.isList.typeIs, ?_⟩
  refine wpAny_getItem_list_slice ht.isList hs pl pu .none (by simp) ?_ (by rw [List.size_toArray] <;> omega)
  rw [slicePick_cut, ← hlen]
  refine ⟨.ref s.heap.objs.size, _, I.laid (t' := s.toks) (o := .lst (cutV xs lo hi)) (fun b ob q => Heap.get?_push_of_some _ q) (Nat.le_refl _) ?_, rfl, q _ (I.hok.fresh (Nat.le_refl _))⟩
  exact ⟨Nat.le_trans (cutV_length xs lo hi) hz, _, 0, (r.drop (HT.sIx xs.length 0 lo)).take (HT.sIx xs.length xs.length hi - HT.sIx xs.length 0 lo), Heap.get?_push_size _ rfl⟩

/-! ### in, not in: flat items -/
/-! ### len, list(x), tuple(x) of any list or tuple that is read -/
theorem call_len_seq : CallR X (.builtin "len") (fun xs H Q => ∃ p ys, xs = [.ref p] ∧ (SqL X.K H p ys ∨ SqT X.K H p ys) ∧ Q (.int ys.length) H) := by
  intro pins s σ H xs us Q I r h
  obtain ⟨p, ys, rfl, hq, q⟩ := h
  obtain ⟨u, rfl, rx⟩ := vals1 r
  cases rx
  have hn := line63
  rcases hq with hq | hq
  · obtain ⟨its, r', pl, hz⟩ := I.list hq
    have hlen := r'.length
    exact Calls.call_len_list pl.isList (by simp only [List.size_toArray] <;> omega) ⟨.int ys.length, H, I.tok _, ⟨s.toks + 1, by rw [List.size_toArray, hlen]⟩, q⟩
  · obtain ⟨its, r', pl, hz⟩ := I.tuple hq
    have hlen := r'.length
    exact len_tuple pl (by simp only [List.size_toArray] <;> omega) ⟨.int ys.length, H, I.tok _, ⟨s.toks + 1, by rw [List.size_toArray, hlen]⟩, q⟩
theorem CallR.or {f : Value} {r r' : List V → Hp → VK → Prop} (h : CallR X f r) (h' : CallR X f r') : CallR X f (fun xs H Q => r xs H Q ∨ r' xs H Q) := by
  intro pins s σ H xs us Q I rs q
  rcases q with q | q
  · exact h pins s σ H xs us Q I rs q
  · exact h' pins s σ H xs us Q I rs q
theorem call_list_of : CallR X (.type "list") (fun xs H Q => ∃ p ys, xs = [.ref p] ∧ (SqL X.K H p ys ∨ SqT X.K H p ys) ∧ ∀ l, H l = none → Q (.ref l) (upd H l (.lst ys))) := by
  intro pins s σ H xs us Q I r h
  obtain ⟨p, ys, rfl, hq, q⟩ := h
  obtain ⟨u, rfl, rx⟩ := vals1 r
  cases rx
  have fin : ∀ (its : List Value), Vals ys its → ys.length ≤ sizeLine → ∀ (h' : Heap) (c' : Nat), (∀ b o', s.heap.get? b = some o' → h'.get? b = some o') →
      h'.get? s.heap.objs.size = some { cls := .type "list", dict := none, data := .seq its.toArray c', slots := #[] } → EP X pins σ Q (.ref s.heap.objs.size) { s with heap := h' } := fun its r' hz h' c' kp e =>
    ⟨.ref s.heap.objs.size, _, I.laid (t' := s.toks) kp (Nat.le_refl _) (show ObjOk X.prog X.w _ h' _ (.lst ys) from ⟨hz, its, c', r', e⟩), rfl, q _ (I.hok.fresh (Nat.le_refl _))⟩
  rcases hq with hq | hq
  · obtain ⟨its, r', pl, hz⟩ := I.list hq
    have hlen := r'.length
    obtain ⟨o, ho, hc, n, hd⟩ := pl.isList
    exact call_list_seq p (.inl rfl) ho hc hd (fun h' c' kp e => fin its r' hz h' c' kp e) (by simp only [List.size_toArray] <;> omega)
  · obtain ⟨its, r', pl, hz⟩ := I.tuple hq
    have hlen := r'.length
    obtain ⟨o, ho, hc, n, hd⟩ := pl
    exact call_list_seq p (.inr rfl) ho hc hd (fun h' c' kp e => fin its r' hz h' c' kp e) (by simp only [List.size_toArray] <;> omega)
theorem call_tuple_of : CallR X (.type "tuple") (fun xs H Q => ∃ p ys, xs = [.ref p] ∧ ((SqL X.K H p ys ∧ ∀ l, H l = none → Q (.ref l) (upd H l (.tup ys))) ∨ (SqT X.K H p ys ∧ Q (.ref p) H))) := by
  intro pins s σ H xs us Q I r h
  obtain ⟨p, ys, rfl, h⟩ := h
  obtain ⟨u, rfl, rx⟩ := vals1 r
  cases rx
  rcases h with ⟨hq, q⟩ | ⟨hq, q⟩
  · obtain ⟨its, r', pl, hz⟩ := I.list hq
    have hlen := r'.length
    refine call_tuple_list pl.isList (fun h' kp => ?_) (by simp only [List.size_toArray] <;> omega)
    have I1 : Inv X pins σ H { s with heap := h' } := I.kept (t' := s.toks) kp
    have I2 : Inv X pins σ (upd H h'.objs.size (.tup ys)) { s with heap := h'.push { cls := .type "tuple", data := .seq its.toArray } } :=
      I1.laid (t' := s.toks) (fun b o e => Heap.get?_push_of_some _ e) (Nat.le_refl _) (show ObjOk X.prog X.w _ _ _ (.tup ys) from ⟨hz, its, r', IsTup.new _ _⟩)
    exact ⟨.ref h'.objs.size, _, I2, rfl, q _ (I1.hok.fresh (Nat.le_refl _))⟩
  · obtain ⟨its, r', pl, hz⟩ := I.tuple hq
    exact call_tuple_same pl ⟨.ref p, H, I, rfl, q⟩

/-! ### the call of a builtin's method: o.m(..) -/
/-- the value is of that builtin type -/
def tyV (K : PySem.W.Frag) (T : String) (x : V) (H : Hp) : Prop := match x with
  | .str _ => T = "str"
  | .int _ => T = "int"
  | .ref p => (T = "list" ∧ ∃ xs, SqL K H p xs) ∨ (T = "tuple" ∧ ∃ o, K.lookup p = some o ∧ o.cls = .type "tuple" ∧ o.dict = none) ∨
      (T = "dict" ∧ ((∃ kvs, H p = some (.dK kvs)) ∨ ∃ kvs, H p = some (.dT kvs))) ∨ (T = "set" ∧ ∃ S n, H p = some (.set S n))
  | _ => False
theorem tyV_is {pins : List (Addr × Obj)} {σ : St} {H : Hp} {s : Shared} {T : String} {x : V} {v : Value} (I : Inv X pins σ H s) (r : RelV x v) (ty : tyV X.K T x H) :
    s.TypeIs v T ∧ ∀ a, v = .ref a → ∃ ob, s.heap.get? a = some ob ∧ ob.dict = none := by
  cases x with
  | str z =>
    obtain ⟨t, rfl⟩ := r
    cases (show T = "str" from ty)
    exact ⟨typeIs_str s z t, fun _ e => nomatch e⟩
  | int i =>
    obtain ⟨t, rfl⟩ := r
    cases (show T = "int" from ty)
    exact ⟨typeIs_int s i t, fun _ e => nomatch e⟩
  | ref p =>
    cases r
    rcases ty with ⟨rfl, xs, hq⟩ | ⟨rfl, o, hk, hc, hd⟩ | ⟨rfl, hk⟩ | ⟨rfl, S, n, hk⟩
    · obtain ⟨its, _, pl, _⟩ := I.list hq
      refine ⟨pl.isList.typeIs, fun a e => ?_⟩
      cases e
      obtain ⟨o, n, e, c, hd, _⟩ := pl
      exact ⟨o, e, hd⟩
    · refine ⟨⟨o, I.kIn p o hk, hc⟩, fun a e => ?_⟩
      cases e
      exact ⟨o, I.kIn _ o hk, hd⟩
    · have z : ∃ o, s.heap.get? p = some o ∧ o.ExactDict := by
        rcases hk with ⟨kvs, hk⟩ | ⟨kvs, hk⟩
        · obtain ⟨_, _, _, _, o, _, _, e, ex, _⟩ := I.hok p _ hk
          exact ⟨o, e, ex⟩
        · obtain ⟨_, _, _, _, o, _, _, e, ex, _⟩ := I.hok p _ hk
          exact ⟨o, e, ex⟩
      obtain ⟨o, e, ex⟩ := z
      refine ⟨⟨o, e, ex.1⟩, fun a e2 => ?_⟩
      cases e2
      exact ⟨o, e, ex.2.1⟩
    · obtain ⟨o, _, _, _, e, ex, _⟩ := I.hok p _ hk
      refine ⟨⟨o, e, ex.1⟩, fun a e2 => ?_⟩
      cases e2
      exact ⟨o, e, ex.2.1⟩
  | _ => exact False.elim ty
def tBM (K : PySem.W.Frag) (T : String) (r : V → List V → Hp → VK → Prop) (to : TE) (t : TA) : TE := fun σ H Q => to σ H fun x H1 => tyV K T x H1 ∧ t σ H1 fun xs H2 => r x xs H2 Q
variable {o e : Expr} {es : List Expr} {to : TE} {t : TA} {name : Str} {apos cpos : Pos} {T id : String} {r : V → List V → Hp → VK → Prop}
theorem pe_bm (pa : PlainAttrs T) (slot : Slot T name id) (hty : typeOf (.builtin id) = pure (.type "method_descriptor")) (hm : MtR X id r) (ho : PE X o to) (ha : PA X (e :: es) t)
    (hbase : attributeBase o name X.env (eval o X.env) = eval o X.env := by rfl)
    (hfew : ((backTo cpos (starEach (e :: es) X.env)).all (fun x => !x.1) && (backToKw cpos (keywordEach [] X.env)).all (fun x => x.1.isSome)
      && decide ((e :: es).length + ([] : List Keyword).length + (if ([] : List Keyword).isEmpty then 0 else 1) < 30)) = true := by rfl)
    (hline : (apos.endLine == cpos.line) = true := by rfl) (hs : starEach (e :: es) X.env = (false, eval e X.env) :: starEach es X.env := by rfl) (hplain : (backTo cpos (starEach es X.env)).any (·.1) = false := by rfl) :
    PE X (.Call (.Attribute o name apos) (e :: es) [] cpos) (tBM X.K T r to t) := by
  intro pins s σ H Q I h
  refine wpAny_Call_method_late hbase hfew hline rfl (thn (ho pins s σ H _ I h) fun v s1 ⟨x, H1, I1, r1, ty, q1⟩ => ?_)
  obtain ⟨h1, h2⟩ := tyV_is I1 r1 ty
  refine ⟨T, id, pa, slot, hty, h1, h2, ?_⟩
  have hA := ha cpos pins s1 σ H1 _ I1 q1
  rw [hs] at hA ⊢
  refine Calls.callWith_builtin (by show (false || (backTo cpos (starEach es X.env)).any (·.1)) = false; rw [hplain] <;> rfl) (Calls.evalArgs_plain ?_)
  exact thn hA fun us s2 ⟨vs, H2, I2, r2, q2⟩ => hm pins s2 σ H2 x vs v us Q I2 r1 r2 q2
/- xs.append(e), list.index on a module's tuple .. are MtR facts of 06m -/
end
end L2

namespace L2
open PySem PySem.Spec PyProof.Rows

def MtM (X : Cx) (id : String) (r : V → List V → Hp → VK → Prop) : Prop :=
  ∀ (pins : List (Addr × Obj)) (s : Shared) (σ : St) (H : Hp) (x : V) (xs : List V) (v : Value) (us : List Value) (Q : VK), Inv X pins σ H s → RelV x v → Vals xs us → r x xs H Q →
    wpAny (model X.prog X.w) X.A (call (.builtin id) (v :: us)) (EP X pins σ Q) X.xe s

/-! ### lists of values -/
theorem Vals.one : ∀ {x : V} {us : List Value}, Vals [x] us → ∃ u, us = [u] ∧ RelV x u
  | _, _, .cons r .nil => ⟨_, rfl, r⟩
theorem Vals.two : ∀ {x y : V} {us : List Value}, Vals [x, y] us → ∃ u v, us = [u, v] ∧ RelV x u ∧ RelV y v
  | _, _, _, .cons r (.cons q .nil) => ⟨_, _, rfl, r, q⟩
theorem Vals.zero : ∀ {us : List Value}, Vals [] us → us = []
  | _, .nil => rfl
theorem Vals.eraseIdx : ∀ {xs : List V} {us : List Value} (i : Nat), Vals xs us → Vals (xs.eraseIdx i) (us.eraseIdx i)
  | _, _, _, .nil => .nil
  | _, _, 0, .cons _ t => t
  | _, _, i + 1, .cons r t => .cons r (Vals.eraseIdx i t)
theorem Vals.reverse {xs : List V} {us : List Value} (h : Vals xs us) : Vals xs.reverse us.reverse := by
  induction h with
  | nil => exact .nil
  | cons r t ih => rw [List.reverse_cons, List.reverse_cons]; exact Vals.append ih (.cons r .nil)
theorem Vals.rep {xs : List V} {us : List Value} (h : Vals xs us) : ∀ k : Nat, Vals (List.replicate k xs).flatten (List.replicate k us).flatten
  | 0 => .nil
  | k + 1 => by
    rw [List.replicate_succ, List.replicate_succ, List.flatten_cons, List.flatten_cons]
    exact Vals.append h (Vals.rep h k)
theorem foldl_rep (its : List Value) : ∀ (k : Nat) (acc : List Value),
    List.foldl (fun x1 x2 => x1 ++ x2) acc.toArray (List.replicate k its.toArray) = (acc ++ (List.replicate k its).flatten).toArray
  | 0, acc => by simp
  | k + 1, acc => by
    have e : acc.toArray ++ its.toArray = (acc ++ its).toArray := by simp
    have e2 : (acc ++ its) ++ (List.replicate k its).flatten = acc ++ (List.replicate (k + 1) its).flatten := by
      rw [List.replicate_succ, List.flatten_cons, List.append_assoc]
    rw [← e2, ← foldl_rep its k (acc ++ its), ← e, List.replicate_succ, List.foldl_cons]

section
variable {X : Cx} {pins : List (Addr × Obj)} {σ : St} {H : Hp} {s : Shared} {l b : Addr} {xs ys zs : List V}

/-! ### the two steps: a tracked list is rewritten, a new list is laid -/
theorem Inv.lset {its its' : List Value} {n : Nat} {f : Array Value → Array Value} {t' : Nat} (I : Inv X pins σ H s) (hH : H l = some (.lst xs))
    (e : s.heap.get? l = some { cls := .type "list", data := .seq its.toArray n }) (hf : f its.toArray = its'.toArray) (hv : Vals ys its') (hz : ys.length ≤ sizeLine) :
    Inv X pins σ (upd H l (.lst ys)) { s with heap := s.heap.update l (Obj.mapSeq f), toks := t' } := by
  have q := PySem.IsL.update e f
  rw [hf] at q
  refine I.write (x := l) (e := l) (by rw [hH]; exact trivial) (.inl rfl) (fun b' u hb hu => (Heap.get?_update_other s.heap (Obj.mapSeq f) (Ne.symm hb)).trans hu) ⟨_, q⟩ ?_
  exact ⟨hz, its', _, hv, q⟩
theorem Inv.lnew {its : List Value} {t' : Nat} (I : Inv X pins σ H s) (hv : Vals ys its) (hz : ys.length ≤ sizeLine) :
    Inv X pins σ (upd H s.heap.objs.size (.lst ys)) { s with heap := s.heap.push { cls := .type "list", data := .seq its.toArray }, toks := t' } :=
  I.laid (fun _ _ q => Heap.get?_push_of_some _ q) (Nat.le_refl _) ⟨hz, its, 0, hv, Heap.get?_push_size _ rfl⟩
theorem Inv.fresh (I : Inv X pins σ H s) : H s.heap.objs.size = none := I.hok.fresh (Nat.le_refl _)
theorem Inv.lstM (I : Inv X pins σ H s) (hH : H l = some (.lst xs)) : xs.length ≤ sizeLine ∧ ∃ (its : List Value) (n : Nat), Vals xs its ∧ xs.length = its.length ∧ s.heap.get? l = some { cls := .type "list", data := .seq its.toArray n } := by
  obtain ⟨z, its, n, r, e⟩ := I.hok l _ hH
  exact ⟨z, its, n, r, r.length, e⟩

theorem notLongL {n : Nat} (h : n ≤ sizeLine) : Builtin.List.listTooLong n = false := by
  unfold Builtin.List.listTooLong
  exact decide_eq_false (by omega)
end

section
variable {X : Cx}

/-! ### methods -/
def rAppend : V → List V → Hp → VK → Prop := fun x vs H Q => ∃ l xs y, x = .ref l ∧ vs = [y] ∧ H l = some (.lst xs) ∧ xs.length < sizeLine ∧ Q .non (upd H l (.lst (xs ++ [y])))
theorem mt_append : MtM X "list.append" rAppend := by
  intro pins s σ H x vs v us Q I rx rv h
  obtain ⟨l, xs, y, rfl, rfl, hH, hz, q⟩ := h
  cases rx
  obtain ⟨u, rfl, ru⟩ := rv.one
  obtain ⟨z, its, n, r, hl, e⟩ := I.lstM hH
  refine call_meets F.slot_list_append ⟨_, e, rfl⟩ F.entry_list_append (F.args_list_append_2 _ _) (PySem.list_append l its.toArray n u (by rw [List.size_toArray]; omega)) ⟨e, ?_⟩
  refine ⟨.non, _, I.lset (its' := its ++ [u]) hH e (by simp) (r.append (.cons ru .nil)) ?_, rfl, q⟩
  rw [List.length_append, List.length_singleton]
  omega

/-! ### list + list, list += list, list * int -/
/-- a list times an int (a negative one is nothing) -/
def rRep : R2 := fun x y H Q => ∃ l k xs, x = .ref l ∧ y = .int k ∧ H l = some (.lst xs) ∧ -(2 ^ 63) ≤ k ∧ k < 2 ^ 63 ∧ xs.length * k.toNat ≤ sizeLine ∧
  ∀ p, H p = none → Q (.ref p) (upd H p (.lst (List.replicate k.toNat xs).flatten))
theorem len_rep {α : Type} (xs : List α) (k : Nat) : (List.replicate k xs).flatten.length = k * xs.length := by
  induction k with
  | zero => simp
  | succ k ih => rw [List.replicate_succ, List.flatten_cons, List.length_append, ih, Nat.succ_mul, Nat.add_comm]
theorem op_rep : OpR X (binaryOp .Mult) rRep := by
  intro pins s σ H x y v u Q I rx ry h
  obtain ⟨l, k, xs, rfl, rfl, hH, h1, h2, hz, q⟩ := h
  cases rx
  obtain ⟨t, rfl⟩ := ry
  obtain ⟨z, its, n, r, hl, e⟩ := I.lstM hH
  have hlen : its.toArray.size * k.toNat ≤ sizeLine := by rw [List.size_toArray, ← hl]; exact hz
  have hcap : ¬ its.toArray.size * k.toNat > (2 ^ 63 - 1) / 8 := by
    have : (sizeLine : Nat) ≤ (2 ^ 63 - 1) / 8 := by decide
    omega
  have hfit : ¬ (!Builtin.List.listFitsIndex k) = true := by
    rw [fitsIndex_both h1 h2]
    exact Bool.false_ne_true
  have hlong : ¬ Builtin.List.listTooLong (its.toArray.size * k.toNat) = true := by
    rw [notLongL hlen]
    exact Bool.false_ne_true
  have hnew : List.foldl (fun x1 x2 => x1 ++ x2) #[] (List.replicate (if its.toArray.isEmpty = true then 0 else k.toNat) its.toArray) = (List.replicate k.toNat its).flatten.toArray := by
    have f0 : ∀ m : Nat, List.foldl (fun x1 x2 => x1 ++ x2) #[] (List.replicate m its.toArray) = (List.replicate m its).flatten.toArray := fun m => by
      have := foldl_rep its m []
      rw [List.nil_append] at this
      exact this
    rw [f0]
    cases its with
    | nil => simp
    | cons a r' => rw [if_neg (by simp)]
  refine wpAny_binaryOp_repeat_ref (T := "list") (U := "int") (by decide) ⟨_, e, rfl⟩ (fun s' => typeIs_int s' k t) noFill_list_mul F.fills_int_mul F.slot_int_rmul repeat_list F.slot_int_index.lookup
    (call_meets F.slot_int_rmul (typeIs_int s k t) F.entry_int_rmul (F.args_int_rmul_2 _ _) (int___rmul___int_list k t l its.toArray n)
      ⟨e, rfl, ⟨_, e, rfl⟩, call_meets F.slot_list_mul ⟨_, e, rfl⟩ F.entry_list_mul (F.args_list_mul_2 _ _) (AutoListH.list___mul___list_int_3 l its.toArray n k t hfit hcap hlong) ⟨e, ?_⟩⟩)
  rw [hnew]
  exact ⟨.ref _, _, I.lnew (t' := s.toks) (r.rep k.toNat) (by rw [len_rep, Nat.mul_comm]; exact hz), rfl, q _ I.fresh⟩

/-! ### del xs[i] -/
end

/-! ### xs[a:b] = ys -/
section
variable {prog : Program} {w : World} {A : Around} {E : Value → Shared → Prop} {s : Shared}
theorem bounds_run {a c n : Nat} (hac : a ≤ c) (hc : c ≤ n) : sliceBounds (some (a : Int)) (some (c : Int)) none n = ((a : Int), (c : Int), 1) := by
  simp only [sliceBounds, Option.getD_none]
  have h1 : ¬ ((a : Int) < 0) := by omega
  have h2 : ¬ ((c : Int) < 0) := by omega
  simp only [h1, h2, if_false, show (1 : Int) > 0 by decide, if_true]
  congr 1
  · omega
  · congr 1; omega
set_option maxRecDepth 100000 in
/-- list.__setitem__ with a slice of step one and another list -/
theorem setItem_slice {l b sl : Addr} {items new : Array Value} {n n2 : Nat} {vl vu : Value} {a c : Nat} {Q : Unit → Shared → Prop}
    (e : s.heap.get? l = some { cls := .type "list", data := .seq items n }) (e2 : s.heap.get? b = some { cls := .type "list", data := .seq new n2 }) (hne : l ≠ b)
    (hs : s.heap.IsSliceOf sl vl vu .none) (pl : IsPart vl (some (a : Int))) (pu : IsPart vu (some (c : Int))) (hac : a ≤ c) (hc : c ≤ items.size)
    (hsz : items.size + new.size ≤ sizeLine) (h : Q () { s with heap := s.heap.update l (Obj.mapSeq fun xs => xs.extract 0 a ++ new ++ xs.extract c xs.size) }) :
    wpAny (model prog w) A (setItem (.ref l) (.ref sl) (.ref b)) Q E s := by
  have hl : s.heap.IsList l items := PySem.IsL.isList e
  have hb : s.heap.IsList b new := PySem.IsL.isList e2
  obtain ⟨os, hos, hcs, hds⟩ := id hs
  have hTs : s.TypeIs (.ref sl) "slice" := ⟨os, hos, hcs⟩
  have hstep : ¬ ((rawPart none == rawInt 0) = true) := Bool.false_ne_true
  have hsame : Builtin.List.listSameRef (.ref l) (.ref b) = false := by
    unfold Builtin.List.listSameRef
    exact beq_eq_false_iff_ne.mpr hne
  have hmax : (max (a : Int) (c : Int)).toNat = c := by omega
  have hz' : ((fun xs : Array Value => xs.extract 0 a ++ new ++ xs.extract c xs.size) items).size ≤ sizeLine + 1 := by
    simp only [Array.size_append, Array.size_extract]
    omega
  unfold setItem
  try with_reducible refine wpAny_holding ?_
  first | refine wpAny_bind (wpAny_pure ?_) | skip
  refine wpAny_bind (wpAny_sequenceKey hl.typeIs (by decide) ?_)
  refine wpAny_bind (wpAny_callSpecial?_slot (name := Str.ofString "__setitem__") hl.typeIs slot_list_setitem
    (wpAny_call_entry slot_list_setitem hl.typeIs entry_list_setitem ?_ (args_list_setitem _ _ _)))
  show wpAny _ _ (Builtin.List.listSubscript? (.ref sl) >>= _) _ _ s
  refine wpAny_bind ?_
  unfold Builtin.List.listSubscript?
  refine wpAny_bind (wpAny_specialOf hTs slice_no_index ?_)
  simp only [Option.isNone_none, if_true]
  refine wpAny_pure ?_
  show wpAny _ _ (typeOf (.ref sl) >>= _) _ _ s
  refine wpAny_bind (wpAny_typeOf hTs ?_)
  first
    | rw [if_neg (by decide)]
    | refine PySem.W.KFB.if_not (by decide) ?_
  rw [listSliceParts_eq]
  refine wpAny_bind (wpAny_bind (wpAny_field hos hds (x := .none) rfl (wpAny_bind (wpAny_listPart .none ?_))))
  rw [if_neg hstep]
  refine wpAny_bind (wpAny_field hos hds (x := vl) rfl (wpAny_bind (wpAny_listPart pl ?_)))
  refine wpAny_bind (wpAny_field hos hds (x := vu) rfl (wpAny_bind (wpAny_listPart pu (wpAny_pure ?_))))
  first
    | simp only [hsame, Bool.false_eq_true, if_false]
    | refine PySem.W.KFB.if_not hsame ?_
    | (dsimp only
       rw [if_neg (by rw [hsame]; exact Bool.false_ne_true)])
  refine wpAny_bind (m := Builtin.List.listAllItems (.ref b) "must assign iterable to extended slice") ?_
  unfold Builtin.List.listAllItems
  refine wpAny_bind (wpAny_typeOf hb.typeIs ?_)
  first
    | refine PySem.W.KFB.if_so (by decide) ?_
    | rw [if_pos (by decide)]
    | simp only [beq_self_eq_true, Bool.true_or, if_true]
  unfold Builtin.List.listItems
  refine wpAny_bind (wpAny_seqItems e2 rfl (wpAny_pure ?_))
  refine wpAny_bind (wpAny_bind (wpAny_seqItems e rfl (wpAny_pure ?_)))
  refine wpAny_bind (wpAny_of_eq ((sliceIndices_raw (some (a : Int)) (some (c : Int)) none items.size (by simp)).trans (congrArg (pure : Int × Int × Int → Sem (Int × Int × Int)) (bounds_run hac hc))) ?_)
  show wpAny _ _ (if ((1 : Int) == 1) = true then _ else _) _ _ s
  rw [if_pos (by decide)]
  refine wpAny_bind (wpAny_rule ?_)
  first
    | simp only [notLongL hsz, Bool.false_eq_true, if_false]
    | refine PySem.W.KFB.if_not (notLongL hsz) ?_
  first | refine wpAny_bind (wpAny_pure ?_) | skip
  show wpAny _ _ (updateSeq l (fun xs => xs.extract 0 ((a : Int)).toNat ++ new ++ xs.extract (max (a : Int) (c : Int)).toNat xs.size) >>= _) _ _ s
  rw [hmax, Int.toNat_natCast]
  refine wpAny_bind (wpAny_updateSeq (hz := Nat.le_trans (Nat.le_add_right _ _) hsz) (_hz' := hz') e rfl ?_)
  refine wpAny_bind (wpAny_letGo ?_)
  first
    | exact wpAny_bind (wpAny_pure (wpAny_pure ⟨.none, rfl, wpAny_pure h⟩))
    | exact wpAny_pure ⟨.none, rfl, wpAny_pure h⟩
end

section
variable {X : Cx}
end
end L2

namespace L2
open PySem PySem.Spec PyProof.Rows

/-! ### lists of pairs as tables -/
section
variable {κ : Type} [DecidableEq κ]
def valV (kvs : List (κ × V)) (k : κ) : Option V := (kvs.find? fun kv => decide (kv.1 = k)).map (·.2)
/-- in its place, or at the end -/
def putK (kvs : List (κ × V)) (k : κ) (v : V) : List (κ × V) :=
  if (kvs.any fun kv => decide (kv.1 = k)) = true then kvs.map (fun kv => if kv.1 = k then (kv.1, v) else kv) else kvs ++ [(k, v)]
def dropK (kvs : List (κ × V)) (k : κ) : List (κ × V) := kvs.filter fun kv => decide (kv.1 ≠ k)

theorem valV_pos {p : κ × V} {r : List (κ × V)} {k : κ} (e : p.1 = k) : valV (p :: r) k = some p.2 := by simp [valV, List.find?_cons, e]
theorem valV_neg {p : κ × V} {r : List (κ × V)} {k : κ} (e : ¬ p.1 = k) : valV (p :: r) k = valV r k := by simp [valV, List.find?_cons, e]
theorem valV_any (k : κ) : ∀ kvs : List (κ × V), (kvs.any fun kv => decide (kv.1 = k)) = (valV kvs k).isSome
  | [] => rfl
  | p :: r => by
    rw [List.any_cons]
    by_cases e : p.1 = k
    · simp only [valV_pos e, decide_eq_true e, Bool.true_or, Option.isSome_some]
    · rw [valV_neg e, decide_eq_false e, Bool.false_or]; exact valV_any k r
theorem length_putK (kvs : List (κ × V)) (k : κ) (v : V) : (putK kvs k v).length ≤ kvs.length + 1 := by
  unfold putK
  split
  · rw [List.length_map]; omega
  · rw [List.length_append, List.length_cons, List.length_nil]; omega
theorem putK_new {kvs : List (κ × V)} {k : κ} (v : V) (h : valV kvs k = none) : putK kvs k v = kvs ++ [(k, v)] := by
  unfold putK
  rw [valV_any, h]
  exact if_neg (by decide)

theorem RelO.isSome_eq {o : Option V} {u : Option Value} (r : RelO o u) : o.isSome = u.isSome := by
  cases o with
  | none => cases u with
    | none => rfl
    | some _ => exact (show False from r).elim
  | some _ => cases u with
    | none => exact (show False from r).elim
    | some _ => rfl
theorem RelO.getD {o : Option V} {u : Option Value} {d : V} {d' : Value} (r : RelO o u) (rd : RelV d d') : RelV (o.getD d) (u.getD d') := by
  cases o with
  | none => cases u with
    | none => exact rd
    | some _ => exact (show False from r).elim
  | some _ => cases u with
    | none => exact (show False from r).elim
    | some _ => exact r

/-- raw tables of the same keys -/
theorem KV.val {kvs : List (κ × V)} {vs : List (κ × Value)} (r : KV kvs vs) (k : κ) : RelO (valV kvs k) (valueAt vs k) := by
  unfold KV at r
  induction r with
  | nil => exact True.intro
  | @cons p q ps qs h t ih =>
    obtain ⟨h1, h2⟩ := h
    by_cases e : p.1 = k
    · have e' : q.1 = k := h1.symm.trans e
      have b : valueAt (q :: qs) k = some q.2 := by simp [valueAt, List.find?_cons, e']
      rw [valV_pos e, b]; exact h2
    · have e' : ¬ q.1 = k := fun z => e (h1.trans z)
      have b : valueAt (q :: qs) k = valueAt qs k := by simp [valueAt, List.find?_cons, e']
      rw [valV_neg e, b]; exact ih
theorem KV.any {kvs : List (κ × V)} {vs : List (κ × Value)} (r : KV kvs vs) (k : κ) : (kvs.any fun kv => decide (kv.1 = k)) = vs.any fun kv => decide (kv.1 = k) := by
  unfold KV at r
  induction r with
  | nil => rfl
  | cons h t ih => rw [List.any_cons, List.any_cons, ih, h.1]
theorem KV.repl {kvs : List (κ × V)} {vs : List (κ × Value)} (r : KV kvs vs) (k : κ) {y : V} {u : Value} (ry : RelV y u) :
    KV (kvs.map fun kv => if kv.1 = k then (kv.1, y) else kv) (vs.map fun kv => if kv.1 = k then (kv.1, u) else kv) := by
  unfold KV at r ⊢
  induction r with
  | nil => exact .nil
  | @cons p q ps qs h t ih =>
    rw [List.map_cons, List.map_cons]
    refine .cons ?_ ih
    obtain ⟨h1, h2⟩ := h
    by_cases e : p.1 = k
    · rw [if_pos e, if_pos (h1.symm.trans e)]; exact ⟨h1, ry⟩
    · rw [if_neg e, if_neg (fun z => e (h1.trans z))]; exact ⟨h1, h2⟩
theorem KV.put {kvs : List (κ × V)} {vs : List (κ × Value)} (r : KV kvs vs) (k : κ) {y : V} {u : Value} (ry : RelV y u) : KV (putK kvs k y) (stored vs k u) := by
  unfold putK stored
  rw [r.any k]
  by_cases e : (vs.any fun kv => decide (kv.1 = k)) = true
  · rw [if_pos e, if_pos e]; exact r.repl k ry
  · rw [if_neg e, if_neg e]; exact Paired.snoc r ⟨rfl, ry⟩
theorem KV.drop {kvs : List (κ × V)} {vs : List (κ × Value)} (r : KV kvs vs) (k : κ) : KV (dropK kvs k) (without vs k) := by
  unfold KV at r ⊢
  unfold dropK without
  induction r with
  | nil => exact .nil
  | @cons p q ps qs h t ih =>
    obtain ⟨h1, h2⟩ := h
    rw [List.filter_cons, List.filter_cons]
    by_cases e : p.1 = k
    · have a : ¬ decide (p.1 ≠ k) = true := by simp [e]
      have b : ¬ decide (q.1 ≠ k) = true := by simp [h1.symm.trans e]
      rw [if_neg a, if_neg b]; exact ih
    · have e' : ¬ q.1 = k := fun z => e (h1.trans z)
      have a : decide (p.1 ≠ k) = true := by simp [e]
      have b : decide (q.1 ≠ k) = true := by simp [e']
      rw [if_pos a, if_pos b]; exact .cons ⟨h1, h2⟩ ih
theorem KV.keys {kvs : List (κ × V)} {vs : List (κ × Value)} (r : KV kvs vs) : kvs.map (·.1) = vs.map (·.1) := by
  unfold KV at r
  induction r with
  | nil => rfl
  | cons h t ih => rw [List.map_cons, List.map_cons, ih, h.1]
theorem KV.length {kvs : List (κ × V)} {vs : List (κ × Value)} (r : KV kvs vs) : kvs.length = vs.length := Paired.length r
end


/-! ### a tracked dict, its keys ints and texts or tuples of these -/
theorem kV_is {P : Program} {w : World} {k : Key} {u : Value} (r : RelV (kV k) u) : (mixKind P w).is k u = true := by
  cases k with
  | inl i => obtain ⟨t, e⟩ := (show ∃ t, u = Value.int i t from r); subst e; exact mixKind_int P w i t
  | inr x => obtain ⟨t, e⟩ := (show ∃ t, u = Value.str x t from r); subst e; exact mixKind_str P w x t
theorem items_are {P : Program} {w : World} : ∀ {ks : List Key} {us : List Value}, Vals (ks.map kV) us → ItemsAre (mixKind P w) ks us
  | [], _, r => by rw [List.map_nil] at r; cases r; exact .nil
  | k :: ks, _, r => by
    rw [List.map_cons] at r
    cases r with
    | cons h t => exact .cons (kV_is h) (items_are t)

/-- raw entries of a dict with tuple keys -/
abbrev KT (H : Hp) : List (List Key × V) → List (List Key × Addr × Value) → Prop := Paired fun p q => p.1 = q.1 ∧ H q.2.1 = some (.tup (p.1.map kV)) ∧ RelV p.2 q.2.2
theorem KT.val {H : Hp} {kvs : List (List Key × V)} {xs : List (List Key × Addr × Value)} (r : KT H kvs xs) (k : List Key) : RelO (valV kvs k) ((atKey xs k).map (·.2)) := by
  induction r with
  | nil => exact True.intro
  | @cons p q ps qs h t ih =>
    obtain ⟨h1, _, h2⟩ := h
    by_cases e : p.1 = k
    · have e' : q.1 = k := h1.symm.trans e
      have b : atKey (q :: qs) k = some q.2 := by simp [atKey, List.find?_cons, e']
      rw [valV_pos e, b]; exact h2
    · have e' : ¬ q.1 = k := fun z => e (h1.trans z)
      have b : atKey (q :: qs) k = atKey qs k := by simp [atKey, List.find?_cons, e']
      rw [valV_neg e, b]; exact ih
theorem KT.repl {H : Hp} {kvs : List (List Key × V)} {xs : List (List Key × Addr × Value)} (r : KT H kvs xs) (k : List Key) {y : V} {u : Value} (ry : RelV y u) :
    KT H (kvs.map fun kv => if kv.1 = k then (kv.1, y) else kv) (xs.map (putAt k u)) := by
  induction r with
  | nil => exact .nil
  | @cons p q ps qs h t ih =>
    rw [List.map_cons, List.map_cons]
    refine .cons ?_ ih
    obtain ⟨h1, h2, h3⟩ := h
    unfold putAt
    by_cases e : p.1 = k
    · rw [if_pos e, if_pos (h1.symm.trans e)]; exact ⟨h1, h2, ry⟩
    · rw [if_neg e, if_neg (fun z => e (h1.trans z))]; exact ⟨h1, h2, h3⟩
theorem KT.put {H : Hp} {kvs : List (List Key × V)} {xs : List (List Key × Addr × Value)} (r : KT H kvs xs) (k : List Key) {b : Addr} {y : V} {u : Value} (hb : H b = some (.tup (k.map kV))) (ry : RelV y u) :
    KT H (putK kvs k y) (storedH xs k b u) := by
  have e : (kvs.any fun kv => decide (kv.1 = k)) = (atKey xs k).isSome := by
    rw [valV_any, (r.val k).isSome_eq, Option.isSome_map]
  unfold putK storedH
  rw [e]
  by_cases q : (atKey xs k).isSome = true
  · rw [if_pos q, if_pos q]; exact r.repl k ry
  · rw [if_neg q, if_neg q]; exact Paired.snoc r ⟨rfl, hb, ry⟩
theorem KT.keeps {H H' : Hp} {kvs : List (List Key × V)} {xs : List (List Key × Addr × Value)} (r : KT H kvs xs) (ht : ∀ b ys, H b = some (.tup ys) → H' b = some (.tup ys)) : KT H' kvs xs :=
  Paired.mapP r fun _ _ z => ⟨z.1, ht _ _ z.2.1, z.2.2⟩

section
variable {P : Program} {w : World} {H : Hp} {h : Heap} {a : Addr}
theorem rd_of {u : HO} (ok : HOk P w H h) (e : Rd H a u) : ObjOk P w H h a u := e.ok ok
theorem dk_rd {kvs : List (Key × V)} (ok : HOk P w H h) (e : Rd H a (.dK kvs)) : kvs.length ≤ sizeLine ∧ (a == sysModules) = false ∧ ∃ vs, KV kvs vs ∧ h.DictOf (mixKind P w) a vs :=
  show ObjOk P w H h a (.dK kvs) from rd_of ok e
theorem dk_of {kvs : List (Key × V)} (ok : HOk P w H h) (e : H a = some (.dK kvs)) : kvs.length ≤ sizeLine ∧ (a == sysModules) = false ∧ ∃ vs, KV kvs vs ∧ h.DictOf (mixKind P w) a vs := dk_rd ok (.inl e)
/-- a tracked tuple of ints and texts is a key -/
theorem key_of {ks : List Key} (ok : HOk P w H h) (e : H a = some (.tup (ks.map kV))) : (tupleKind (mixKind P w)).is h ks a := by
  obtain ⟨_, its, r, o, h1, h2, n, h3⟩ := (show ObjOk P w H h a (.tup (ks.map kV)) from ok a _ e)
  exact ⟨o, its.toArray, n, h1, h2, h3, by simpa using items_are r⟩
theorem dt_rd {kvs : List (List Key × V)} (ok : HOk P w H h) (e : Rd H a (.dT kvs)) : kvs.length ≤ sizeLine ∧ (a == sysModules) = false ∧
    ∃ xs, KT H kvs xs ∧ h.DictOfH (tupleKind (mixKind P w)) a xs := by
  obtain ⟨z, y, xs, r, o, es, ep, h1, h2, h3, h4, h5⟩ := (show ObjOk P w H h a (.dT kvs) from rd_of ok e)
  refine ⟨z, y, xs, r, o, es, ep, h1, h2, h3, h4, fun x hx => ?_, h5⟩
  have all : ∀ {l : List (List Key × V)} {m : List (List Key × Addr × Value)}, KT H l m → ∀ x ∈ m, (tupleKind (mixKind P w)).is h x.1 x.2.1 := by
    intro l m q
    induction q with
    | nil => intro x hx; exact nomatch hx
    | @cons p q ps qs hq t ih =>
      intro x hx
      rcases List.mem_cons.mp hx with e | hx
      · subst e
        exact key_of ok (by rw [← hq.1]; exact hq.2.1)
      · exact ih x hx
  exact all r x hx
theorem dt_of {kvs : List (List Key × V)} (ok : HOk P w H h) (e : H a = some (.dT kvs)) : kvs.length ≤ sizeLine ∧ (a == sysModules) = false ∧
    ∃ xs, KT H kvs xs ∧ h.DictOfH (tupleKind (mixKind P w)) a xs := dt_rd ok (.inl e)
end

/-- what the dict at a holds at the key y -/
def DGet (H : Hp) (a : Addr) (y : V) (r : Option V) : Prop :=
  (∃ kvs k, Rd H a (.dK kvs) ∧ y = kV k ∧ r = valV kvs k) ∨ ∃ kvs k b, Rd H a (.dT kvs) ∧ y = .ref b ∧ H b = some (.tup (k.map kV)) ∧ r = valV kvs k
/-- the heap behind a[y] = v -/
def DPut (H : Hp) (a : Addr) (y v : V) (H' : Hp) : Prop :=
  (∃ kvs k, H a = some (.dK kvs) ∧ y = kV k ∧ kvs.length < sizeLine ∧ H' = upd H a (.dK (putK kvs k v))) ∨
  ∃ kvs k b, H a = some (.dT kvs) ∧ y = .ref b ∧ H b = some (.tup (k.map kV)) ∧ kvs.length < sizeLine ∧ H' = upd H a (.dT (putK kvs k v))
theorem DGet.k {H : Hp} {a : Addr} {kvs : List (Key × V)} {k : Key} (e : H a = some (.dK kvs)) : DGet H a (kV k) (valV kvs k) := .inl ⟨kvs, k, .inl e, rfl, rfl⟩
theorem DGet.t {H : Hp} {a b : Addr} {kvs : List (List Key × V)} {k : List Key} (e : H a = some (.dT kvs)) (eb : H b = some (.tup (k.map kV))) : DGet H a (.ref b) (valV kvs k) := .inr ⟨kvs, k, b, .inl e, rfl, eb, rfl⟩
theorem DPut.k {H : Hp} {a : Addr} {kvs : List (Key × V)} {k : Key} {v : V} (e : H a = some (.dK kvs)) (hl : kvs.length < sizeLine) : DPut H a (kV k) v (upd H a (.dK (putK kvs k v))) := .inl ⟨kvs, k, e, rfl, hl, rfl⟩
theorem DPut.t {H : Hp} {a b : Addr} {kvs : List (List Key × V)} {k : List Key} {v : V} (e : H a = some (.dT kvs)) (eb : H b = some (.tup (k.map kV))) (hl : kvs.length < sizeLine) :
    DPut H a (.ref b) v (upd H a (.dT (putK kvs k v))) := .inr ⟨kvs, k, b, e, rfl, eb, hl, rfl⟩


section
variable {X : Cx} {pins : List (Addr × Obj)} {σ : St} {H : Hp} {s : Shared} {a : Addr} {y v : V} {u r : Value} {o : Option V} {A : Around} {E : Value → Shared → Prop}

theorem Inv.big (I : Inv X pins σ H s) : sysModules < s.heap.objs.size := by
  have h : mainGlobals < s.heap.objs.size := (I.mod.glob.keeps I.bk).lt
  exact Nat.lt_trans (by decide) h

/-- d[y], there -/
theorem d_getItem {Q : Value → Shared → Prop} (hu : A.units + 1 < cLine) (I : Inv X pins σ H s) (g : DGet H a y (some v)) (ry : RelV y u) (h : ∀ w' s', Inv X pins σ H s' → RelV v w' → Q w' s') :
    wpAny (model X.prog X.w) A (getItem (.ref a) u) Q E s := by
  rcases g with ⟨kvs, k, e, ey, l⟩ | ⟨kvs, k, b, e, ey, eb, l⟩
  · subst ey
    obtain ⟨z, hd, vs, rel, dd⟩ := dk_rd I.hok e
    obtain ⟨w', hw, rw'⟩ := RelO.some_of (v := v) (o := valueAt vs k) (by rw [l]; exact rel.val k)
    exact wpAny_getItem_of (kV_is ry) dd.mapOf hw (h w' _ (I.tok _) rw')
  · subst ey
    cases (show u = Value.ref b from ry)
    obtain ⟨z, hd, xs, rel, dd⟩ := dt_rd I.hok e
    obtain ⟨w', hw, rw'⟩ := RelO.some_of (v := v) (o := (atKey xs k).map (·.2)) (by rw [l]; exact rel.val k)
    obtain ⟨p, hp, hp2⟩ := Option.map_eq_some_iff.mp hw
    refine wpAny_getItem_heap (tupleKind_room_in1 hu) (key_of I.hok eb) dd hp ?_
    rw [hp2]
    exact h w' _ (I.tok _) rw'
/-- y in d -/
theorem d_in {Q : Value → Shared → Prop} (hu : A.units + 1 < cLine) (I : Inv X pins σ H s) (g : DGet H a y o) (ry : RelV y u) (h : ∀ s', Inv X pins σ H s' → Q (.bool o.isSome) s') :
    wpAny (model X.prog X.w) A (compareOp .In u (.ref a)) Q E s := by
  rcases g with ⟨kvs, k, e, ey, l⟩ | ⟨kvs, k, b, e, ey, eb, l⟩
  · subst ey
    obtain ⟨z, hd, vs, rel, dd⟩ := dk_rd I.hok e
    refine wpAny_in_of (kV_is ry) hd dd.mapOf ?_
    rw [← (rel.val k).isSome_eq, ← l]
    exact h _ (I.tok _)
  · subst ey
    cases (show u = Value.ref b from ry)
    obtain ⟨z, hd, xs, rel, dd⟩ := dt_rd I.hok e
    refine wpAny_in_heap (tupleKind_room_in1 hu) (key_of I.hok eb) hd dd ?_
    have q := (rel.val k).isSome_eq
    rw [Option.isSome_map] at q
    rw [← q, ← l]
    exact h _ (I.tok _)
theorem d_notIn {Q : Value → Shared → Prop} (hu : A.units + 1 < cLine) (I : Inv X pins σ H s) (g : DGet H a y o) (ry : RelV y u) (h : ∀ s', Inv X pins σ H s' → Q (.bool (!o.isSome)) s') :
    wpAny (model X.prog X.w) A (compareOp .NotIn u (.ref a)) Q E s := by
  rcases g with ⟨kvs, k, e, ey, l⟩ | ⟨kvs, k, b, e, ey, eb, l⟩
  · subst ey
    obtain ⟨z, hd, vs, rel, dd⟩ := dk_rd I.hok e
    refine wpAny_notIn_of (kV_is ry) hd dd.mapOf ?_
    rw [← (rel.val k).isSome_eq, ← l]
    exact h _ (I.tok _)
  · subst ey
    cases (show u = Value.ref b from ry)
    obtain ⟨z, hd, xs, rel, dd⟩ := dt_rd I.hok e
    refine wpAny_notIn_heap (tupleKind_room_in1 hu) (key_of I.hok eb) hd dd ?_
    have q := (rel.val k).isSome_eq
    rw [Option.isSome_map] at q
    rw [← q, ← l]
    exact h _ (I.tok _)
/-- a dict's object is replaced -/
theorem d_write {h' : Heap} {t' : Nat} {ob : HO} (I : Inv X pins σ H s) (mu : Mut (H a)) (hs : Heap.SameBut a s.heap h') (he : ∃ q, h'.get? a = some q) (new : ObjOk X.prog X.w (upd H a ob) h' a ob) :
    Inv X pins σ (upd H a ob) { s with heap := h', toks := t' } :=
  I.write (x := a) (e := a) mu (.inl rfl) (fun b q hb z => (hs.2 b hb).trans z) he new
theorem dk_new {P : Program} {w : World} {H' : Hp} {h' : Heap} {kvs : List (Key × V)} {vs : List (Key × Value)} (z : kvs.length ≤ sizeLine) (hd : (a == sysModules) = false) (rel : KV kvs vs) (dd : h'.DictOf (mixKind P w) a vs) :
    ObjOk P w H' h' a (.dK kvs) := ⟨z, hd, vs, rel, dd⟩
/-- d[y] = v -/
theorem d_setItem {H' : Hp} {Q : Unit → Shared → Prop} (hu : A.units + 1 < cLine) (I : Inv X pins σ H s) (g : DPut H a y v H') (ry : RelV y u) (rv : RelV v r) (h : ∀ s', Inv X pins σ H' s' → Q () s') :
    wpAny (model X.prog X.w) A (setItem (.ref a) u r) Q E s := by
  rcases g with ⟨kvs, k, e, ey, l, eH⟩ | ⟨kvs, k, b, e, ey, eb, l, eH⟩
  · subst ey eH
    obtain ⟨z, hd, vs, rel, dd⟩ := dk_of I.hok e
    have hz : vs.length ≤ sizeLine := by rw [← rel.length]; exact z
    have hl : (putK kvs k v).length ≤ sizeLine := by have := length_putK kvs k v; omega
    refine wpAny_setItem_pairs (hsz := hz) (kV_is ry) dd fun h' dd' hs => h _ ?_
    have he : ∃ q, h'.get? a = some q := let ⟨q, _, _, hq, _⟩ := dd'; ⟨q, hq⟩
    exact d_write I (by rw [e]; exact True.intro) hs he (dk_new hl hd (rel.put k rv) dd')
  · subst ey eH
    cases (show u = Value.ref b from ry)
    obtain ⟨z, hd, xs, rel, dd⟩ := dt_of I.hok e
    have hz : xs.length ≤ sizeLine := by rw [← Paired.length rel]; exact z
    have hl : (putK kvs k v).length ≤ sizeLine := by have := length_putK kvs k v; omega
    refine wpAny_setItem_heap (hsz := hz) (tupleKind_room_in1 hu) (key_of I.hok eb) dd fun h' dd' hs => h _ ?_
    obtain ⟨q, es, ep, hq, h2, h3, h4, _, h5⟩ := dd'
    refine d_write I (by rw [e]; exact True.intro) hs ⟨q, hq⟩ ⟨hl, hd, _, (rel.put k eb rv).keeps fun c ys ec => ?_, q, es, ep, hq, h2, h3, h4, h5⟩
    rw [upd_ne (ne_of ec e (fun z => nomatch z))]
    exact ec
end

section
variable {X : Cx} {pins : List (Addr × Obj)} {σ : St} {H : Hp} {s : Shared} {a : Addr} {kvs : List (Key × V)} {k : Key} {u : Value} {A : Around} {E : Value → Shared → Prop}
end


/-! ### readings and rules -/
/-- the element of a subscription, not a slice -/
def NoSl (i : Expr) : Prop := ∀ ov iv, subscripted i false ov iv = operate [ov, iv] (getItem ov iv)
theorem subD_of {prog : Program} {w : World} {A : Around} {E : Value → Shared → Prop} {s : Shared} {env : Env} {value slice : Expr} {pos : Pos} {T id : String} {Q : Value → Shared → Prop}
    (hl : typeLookup (.type T) "__getitem__" = pure (some (.builtin id))) (hs : NoSl slice)
    (h : wpAny (model prog w) A (eval value env) (fun o s₁ => wpAny (model prog w) A (eval slice env) (fun i s₂ => s₂.TypeIs o T ∧ wpAny (model prog w) A (getItem o i) Q E s₂) E s₁) E s) :
    wpAny (model prog w) A (eval (.Subscript value slice pos) env) Q E s := by
  refine Subscript_ (wpAny_mono h (fun o s₁ h₁ => wpAny_mono h₁ (fun i s₂ h₂ => ?_) fun _ _ x => x) fun _ _ x => x)
  obtain ⟨hT, h₂⟩ := h₂
  unfold subscriptTail
  refine wpAny_bind ?_
  rw [getitemInPython_of_ne hT.not_modules]
  refine wpAny_bind (wpAny_specialOf hT hl ?_)
  have fin : wpAny (model prog w) A (subscripted slice false o i) (fun r s₃ => wpAny (model prog w) A (letTemporaryGo value o r >>= fun _ => pure r) Q E s₃) E s₂ := by
    rw [hs o i]
    exact wpAny_operating (wpAny_mono h₂ (fun r s₃ h₃ => wpAny_bind (wpAny_letTemporaryGo (wpAny_pure h₃))) fun _ _ x => x)
  first
    | exact wpAny_pure (wpAny_bind fin)
    | exact wpAny_bind (wpAny_pure (wpAny_bind fin))
    | exact wpAny_bind fin

theorem dict_typeIs {X : Cx} {pins : List (Addr × Obj)} {σ : St} {H : Hp} {s : Shared} {a : Addr} {y : V} {o : Option V} (I : Inv X pins σ H s) (g : DGet H a y o) : s.TypeIs (.ref a) "dict" := by
  rcases g with ⟨kvs, k, e, _, _⟩ | ⟨kvs, k, b, e, _, _, _⟩
  · obtain ⟨_, _, vs, _, dd⟩ := dk_rd I.hok e
    exact dd.typeIs
  · obtain ⟨_, _, xs, _, dd⟩ := dt_rd I.hok e
    exact dd.typeIs
/-- d[y] -/
def tDGet (td ty : TE) : TE := fun σ H Q => td σ H fun x H1 => ty σ H1 fun y H2 => ∃ a v, x = .ref a ∧ DGet H2 a y (some v) ∧ Q v H2
/-- y in d, y not in d -/
def tDIn (ty td : TE) : TE := fun σ H Q => ty σ H fun y H1 => td σ H1 fun x H2 => ∃ a o, x = .ref a ∧ DGet H2 a y o ∧ Q (.bl o.isSome) H2
def tDNotIn (ty td : TE) : TE := fun σ H Q => ty σ H fun y H1 => td σ H1 fun x H2 => ∃ a o, x = .ref a ∧ DGet H2 a y o ∧ Q (.bl (!o.isSome)) H2
/-- d[y] = v -/
def sDPut (td ty tv : TE) : TS := fun D σ H => tv σ H fun v H1 => td σ H1 fun x H2 => ty σ H2 fun y H3 => ∃ a H4, x = .ref a ∧ DPut H3 a y v H4 ∧ D.nx σ H4
section
variable {X : Cx} {o i e value : Expr} {pos pos' tpos : Pos} {td ty tv : TE}
theorem pe_dget (hu : X.A.units + 1 < cLine) (ho : PE X o td) (hi : PE X i ty) (hs : NoSl i) : PE X (.Subscript o i pos) (tDGet td ty) := by
  intro pins s σ H Q I h
  refine subD_of PySem.F.slot_dict_getitem.lookup hs (thn (ho pins s σ H _ I h) fun u s1 ⟨x, H1, I1, rx, q1⟩ => thn (hi pins s1 σ H1 _ I1 q1) fun iv s2 ⟨y, H2, I2, ry, a, v, ex, g, q2⟩ => ?_)
  subst ex
  obtain rfl : u = Value.ref a := rx
  exact ⟨dict_typeIs I2 g, d_getItem hu I2 g ry fun w' s3 I3 rw' => ⟨v, H2, I3, rw', q2⟩⟩
theorem pc_din (hu : X.A.units + 1 < cLine) (hi : PE X i ty) (ho : PE X o td) : PC X .In i o (tDIn ty td) := by
  intro pins s σ H Q I h
  refine thn (hi pins s σ H _ I h) fun iv s1 ⟨y, H1, I1, ry, q1⟩ => thn (ho pins s1 σ H1 _ I1 q1) fun u s2 ⟨x, H2, I2, rx, a, ov, ex, g, q2⟩ => ?_
  subst ex
  obtain rfl : u = Value.ref a := rx
  exact d_in hu I2 g ry fun s3 I3 => ⟨.bl ov.isSome, H2, I3, rfl, q2⟩
theorem pc_dnotin (hu : X.A.units + 1 < cLine) (hi : PE X i ty) (ho : PE X o td) : PC X .NotIn i o (tDNotIn ty td) := by
  intro pins s σ H Q I h
  refine thn (hi pins s σ H _ I h) fun iv s1 ⟨y, H1, I1, ry, q1⟩ => thn (ho pins s1 σ H1 _ I1 q1) fun u s2 ⟨x, H2, I2, rx, a, ov, ex, g, q2⟩ => ?_
  subst ex
  obtain rfl : u = Value.ref a := rx
  exact d_notIn hu I2 g ry fun s3 I3 => ⟨.bl (!ov.isSome), H2, I3, rfl, q2⟩
theorem ps_dput (hu : X.A.units + 1 < cLine) (ho : PE X o td) (hi : PE X i ty) (hv : PE X value tv) (hs : swapsWith value (some (.Subscript o i pos')) pos.line X.env = pure false) :
    PS X (.Assign [.Subscript o i pos'] value pos) (sDPut td ty tv) := by
  intro pins s σ H D I h
  refine wpAny_Assign_Subscript (thn (hv pins s σ H _ I h) fun r s1 ⟨v, H1, I1, rv, q1⟩ => thn (ho pins s1 σ H1 _ I1 q1) fun u s2 ⟨x, H2, I2, rx, q2⟩ => thn (hi pins s2 σ H2 _ I2 q2) fun iv s3 ⟨y, H3, I3, ry, a, H4, ex, g, q3⟩ => ?_) hs
  subst ex
  obtain rfl : u = Value.ref a := rx
  exact d_setItem hu I3 g ry rv fun s4 I4 => ⟨σ, H4, I4, q3⟩
end


/-! ### displays -/
theorem dt_empty {P : Program} {w : World} {H : Hp} (h : Heap) (hb : sysModules < h.objs.size) : ObjOk P w H (h.push { cls := .type "dict", data := .dict #[] }) h.objs.size (.dT []) :=
  ⟨Nat.zero_le _, beq_eq_false_iff_ne.mpr (Ne.symm (Nat.ne_of_lt hb)), [], .nil, _, #[], 0, Heap.get?_push_size _ rfl, ⟨rfl, rfl, rfl⟩, rfl, rfl, List.nodup_nil⟩
def tDNewT : TE := fun _ H Q => ∀ p, H p = none → Q (.ref p) (upd H p (.dT []))
section
variable {X : Cx} {pos : Pos}
theorem pe_dnewT : PE X (.Dict [] [] pos) tDNewT := fun pins s σ H Q I h =>
  wpAny_Dict_empty ⟨.ref s.heap.objs.size, _, I.laid (a := s.heap.objs.size) (o := .dT []) (t' := s.toks) (fun _ _ q => Heap.get?_push_of_some _ q) (Nat.le_refl _) (dt_empty s.heap I.big), rfl, h _ (I.hok.fresh (Nat.le_refl _))⟩
end

/-- the pairs of a display, from the left -/
def tPairs : List (TE × TE) → St → Hp → (List (V × V) → Hp → Prop) → Prop
  | [], _, H, Q => Q [] H
  | (tk, tv) :: r, σ, H, Q => tk σ H fun x H1 => tv σ H1 fun y H2 => tPairs r σ H2 fun ps H3 => Q ((x, y) :: ps) H3
abbrev VV : List (V × V) → List (Value × Value) → Prop := Paired fun p q => RelV p.1 q.1 ∧ RelV p.2 q.2
def PPs (X : Cx) (pos : Pos) (keys : List (Option Expr)) (values : List Expr) (trs : List (TE × TE)) : Prop :=
  ∀ (pins : List (Addr × Obj)) (s : Shared) (σ : St) (H : Hp) (Q : List (V × V) → Hp → Prop), Inv X pins σ H s → tPairs trs σ H Q →
    wpAny (model X.prog X.w) X.A (evalPairs (pairTrees keys values X.env pos)) (fun vs s' => ∃ ps H', Inv X pins σ H' s' ∧ VV ps vs ∧ Q ps H') X.xe s
def mergeK (kvs more : List (Key × V)) : List (Key × V) := more.foldl (fun acc kv => putK acc kv.1 kv.2) kvs
theorem KV.merge : ∀ {more : List (Key × V)} {rs : List (Key × Value)} {kvs : List (Key × V)} {vs : List (Key × Value)}, KV more rs → KV kvs vs → KV (mergeK kvs more) (merged vs rs) := by
  intro more rs kvs vs r
  unfold KV at r
  induction r generalizing kvs vs with
  | nil => intro q; exact q
  | @cons p q ps qs h t ih =>
    intro r0
    have e : KV (putK kvs p.1 p.2) (stored vs q.1 q.2) := by
      have := r0.put p.1 h.2
      rw [← h.1]; exact this
    exact ih e
/-! ### methods -/
/-- a method call o.m(e) of a built-in, with one argument: what must be seen of the text -/
structure M1 (X : Cx) (o : Expr) (m : Str) (apos : Pos) (e : Expr) (cpos : Pos) : Prop where
  base : attributeBase o m X.env (eval o X.env) = eval o X.env
  few : ((backTo cpos (starEach [e] X.env)).all (fun x => !x.1) && (backToKw cpos (keywordEach [] X.env)).all (fun x => x.1.isSome)
    && decide (([e] : List Expr).length + ([] : List Keyword).length + (if ([] : List Keyword).isEmpty then 0 else 1) < 30)) = true
  line : (apos.endLine == cpos.line) = true
  trees : backTo cpos (starEach [e] X.env) = [(false, eval e X.env)]
structure M2 (X : Cx) (o : Expr) (m : Str) (apos : Pos) (e f : Expr) (cpos : Pos) : Prop where
  base : attributeBase o m X.env (eval o X.env) = eval o X.env
  few : ((backTo cpos (starEach [e, f] X.env)).all (fun x => !x.1) && (backToKw cpos (keywordEach [] X.env)).all (fun x => x.1.isSome)
    && decide (([e, f] : List Expr).length + ([] : List Keyword).length + (if ([] : List Keyword).isEmpty then 0 else 1) < 30)) = true
  line : (apos.endLine == cpos.line) = true
  trees : backTo cpos (starEach [e, f] X.env) = [(false, eval e X.env), (false, eval f X.env)]

/-- a is a dict, whatever its keys -/
def IsD (H : Hp) (a : Addr) : Prop := (∃ kvs, Rd H a (.dK kvs)) ∨ ∃ kvs, Rd H a (.dT kvs)
theorem isD_at {X : Cx} {pins : List (Addr × Obj)} {σ : St} {H : Hp} {s : Shared} {a : Addr} (I : Inv X pins σ H s) (d : IsD H a) :
    s.TypeIs (.ref a) "dict" ∧ (∀ b, Value.ref a = .ref b → ∃ ob, s.heap.get? b = some ob ∧ ob.dict = none) ∧ (a == sysModules) = false := by
  rcases d with ⟨kvs, e⟩ | ⟨kvs, e⟩
  · obtain ⟨_, hd, vs, _, dd⟩ := dk_rd I.hok e
    refine ⟨dd.typeIs, fun b q => ?_, hd⟩
    cases q
    obtain ⟨ob, _, _, h1, h2, _⟩ := dd
    exact ⟨ob, h1, h2.2.1⟩
  · obtain ⟨_, hd, xs, _, dd⟩ := dt_rd I.hok e
    refine ⟨dd.typeIs, fun b q => ?_, hd⟩
    cases q
    obtain ⟨ob, _, _, h1, h2, _⟩ := dd
    exact ⟨ob, h1, h2.2.1⟩

section
variable {X : Cx} {pins : List (Addr × Obj)} {σ : St} {H : Hp} {s : Shared} {a : Addr} {y d : V} {u r : Value} {o : Option V} {A : Around} {E : Value → Shared → Prop}
end

section
variable {X : Cx} {o e f : Expr} {apos cpos : Pos} {td ty tx : TE}
end

/-! ### dict(d): a copy -/
section
variable {X : Cx} {pins : List (Addr × Obj)} {σ : St} {H : Hp} {s : Shared} {a : Addr} {kvs : List (Key × V)} {A : Around} {E : Value → Shared → Prop}
end


section
variable {X : Cx} {pins : List (Addr × Obj)} {σ : St} {H : Hp} {s : Shared} {a : Addr} {y : V} {u : Value} {A : Around} {E : Value → Shared → Prop}
end
end L2

namespace Att
open PySem PySem.W PySem.Calls PyProof.Rows

/-! ### the script -/
theorem ints_of_wellAll {P : Params} {h : Heap} : ∀ (ns : List Int) (vs : List Value), WellAll P h vs (ns.map WData.int) → IntsAre vs ns := by
  intro ns
  induction ns with
  | nil =>
    intro vs w
    rw [List.map_nil] at w
    cases w
    exact .nil
  | cons n ns ih =>
    intro vs w
    rw [List.map_cons] at w
    cases w with
    | cons a b =>
      cases a
      exact .cons _ _ (ih _ b)

theorem script_of {l : OpenLaw} {n : Nat} (hn : l.most = some n) {P : Params} {h : Heap} {args : List WData} {vals : List Value}
    (hpre : l.row.toRowW.claim.pre args = true) (hwl : WellAll P h vals args) :
    ∃ a vs ns, vals = [Value.ref a] ∧ args = [WData.list (ns.map WData.int)] ∧ h.get? a = some { cls := .type "list", data := .seq vs.toArray } ∧ IntsAre vs ns ∧ ns.length ≤ n := by
  have hsh : WShape.hasAll [] args [.list .int] = true := (pre_splitW hpre).1
  have hc : l.pre.holds [] { args := args } = true := (pre_splitW hpre).2
  obtain ⟨d, r, rfl, h1, h2⟩ := hasAllW_cons hsh
  obtain rfl := hasAllW_nil h2
  obtain ⟨xs, rfl, h3⟩ := hasW_list h1
  obtain ⟨ns, rfl⟩ := items_int h3
  have hlen : ns.length ≤ n := by
    unfold OpenLaw.pre at hc
    have h4 : (WTm.not (.lt (.lit (.int (n : Int))) (.len (.arg 0)))).holds [] { args := [.list (ns.map .int)] } = true := by
      have h4 := (holds_andW hc).1
      rw [hn] at h4
      exact h4
    have h5 := condW_of h4 (w_not (w_lt w_lit (w_len_list (w_arg rfl))))
    rw [List.length_map] at h5
    refine Nat.le_of_not_lt fun q => ?_
    have q' : (n : Int) < ((ns.length : Nat) : Int) := by omega
    first
      | (rw [decide_eq_true q'] at h5; exact absurd h5 (by decide))
      | (simp at h5; omega)
  cases hwl with
  | cons w1 w2 =>
    cases w2
    cases w1 with
    | list ho hall => exact ⟨_, _, ns, rfl, rfl, ho, ints_of_wellAll ns _ hall, hlen⟩

theorem post_true (l : OpenLaw) (args : List WData) : l.row.toRowW.claim.post args (.bool true) args = true :=
  postW_of (r := l.row.toRowW) (X := (true == true))
    (show WShape.has [] (.bool true) .bool = true by first | rfl | decide | simp [WShape.has, WShape.arms, WShape.armsAll])
    (show (WTm.eq .res (.lit (.bool true))).value [] { args := args, res := some (.bool true), after := args } = some (.bool (true == true)) from w_eq_bool (w_res rfl) w_lit) rfl

/-! ### the attachment: holds_open's last premise (the goal 'hc' behind k_head) from a wpAny of the law's body -/
/-- the same from a codeAny of the CALL (for a layer whose function contracts speak of calls) -/
theorem attach_call {l : OpenLaw} {n : Nat} {q : Program} {loose : List Str} {XP : (Str → Option Value) → Heap → Prop} {YP : World → Heap → Prop} {d : DefRec}
    (hn : l.most = some n) (hdf : d.params.defaults = [])
    (call : ∀ (w : World) (s₀ s₁ : Shared) (mg mb : Str → Option Value) (fa : Addr) (o : Obj) (pm cd doc : Value) (a : Addr) (vs : List Value) (ns : List Int),
      Ground q loose [] XP w s₀ mg mb s₁.heap → YP w s₁.heap →
      s₁.heap.get? fa = some o → o.data = .func (docDef d.name d.params d.body d.scope pm cd doc) → s₁.heap.CodeRec cd d.name → mg d.name = some (.ref fa) →
      s₁.heap.get? a = some { cls := .type "list", data := .seq vs.toArray } → IntsAre vs ns → ns.length ≤ n → s₁.gens = #[] →
      codeAny (model l.prog w) callerA (.call (.ref fa) ⟨[.ref a], []⟩) (fun r s' => r = .ok (.ret (.bool true)) ∧ OldK s₁.heap s'.heap ∧ s'.os = s₁.os ∧ AllBare s'.gens) s₁) :
    WalkO q loose XP YP l.row.toRowW d [] (fun f vs => PySem.call f vs) := by
  intro w s₀ s₁ mg mb G Y fa o pm cd doc dV kV ho hd hcd hD hmg hg args vals as hpre hlay hrd hwl hlo
  obtain rfl : dV = .none := Dflts.none hD hdf
  obtain rfl : kV = .none := Dflts.noKw hD
  obtain ⟨a, vs, ns, rfl, rfl, hobj, hints, hlen⟩ := script_of hn hpre hwl
  refine enter_call (codeAny_mono (call w s₀ s₁ mg mb fa o pm cd doc a vs ns G Y ho (fd_plain hd) hcd hmg hobj hints hlen hg) fun r s' hq => ?_)
  obtain ⟨rfl, h2, h3, h4⟩ := hq
  exact ⟨.inl ⟨.bool true, .bool true, [], rfl, fun _ => rfl, .bool true, post_true l _, fun _ => ⟨List.Pairwise.nil, fun _ hm => (nomatch hm)⟩⟩, h2, h3, h4⟩

/-! ### rules over ANY heap (no ledger) from facts about the written part K: the library's own take a ledger (News) for what they write -/
section
variable {prog : Program} {w : World} {A : Around} {E : Value → Shared → Prop} {s : Shared} {K : Frag}

/-! the whole heap as the ledger: makes every rule that writes through a ledger a rule over any heap -/
def ledger (h : Heap) (L d : Addr) : List (Addr × Obj) := (List.range h.objs.size).filterMap fun a => if a = L ∨ a = d then none else (h.get? a).map fun o => (a, o)
end
end Att

namespace L2
open PySem PySem.Spec PyProof.Rows

theorem vals_ints : ∀ {vs : List Value} {ns : List Int}, IntsAre vs ns → Vals (ns.map V.int) vs
  | _, _, .nil => .nil
  | _, _, .cons n t h => .cons ⟨t, rfl⟩ (vals_ints h)

/-- nothing is tracked but the script, known to the object (or it is an object of the module) -/
def Only (H : Hp) : Prop := ∀ b, H b = none ∨ ∃ o xs, H b = some (.frz o (.lst xs))

/-- THE HEAD: the law's promise, at the heap behind the top. F, the promise of the law's def, may use that base is part of the heap (so K.In base, base.Ns mainGlobals mg stand in Mod) -/
theorem law_call {P : Program} {w : World} {K : PySem.W.Frag} {mg mb : Str → Option Value} {CX : CXT} {k : Nat} {fa a : Addr} {fd : FuncData} {x : Str} {sp : Sp} {s₁ : Shared} {vs : List Value} {ns : List Int}
    (KX : K.In s₁.heap) (hns : s₁.heap.Ns mainGlobals mg) (hb : s₁.heap.Ns builtinsNs mb) (hbb : ∀ x : Str, x ≠ "__name__" → mb x = bootBuiltins x) (hlim : s₁.heap.NoLimit) (hg : s₁.gens = #[])
    (ha : s₁.heap.get? a = some { cls := .type "list", data := .seq vs.toArray }) (hi : IntsAre vs ns) (hl : ns.length ≤ sizeLine) (hr : Room k callerA)
    (F : ∀ base : Heap, K.In base → base.Ns mainGlobals mg → FnOk P w K mg base CX k fa fd [x] sp) (hbind : ∀ (s : Shared) (u : Value), BindsTo s fd ⟨[u], []⟩ [(x, u)])
    (hsp : ∀ H : Hp, Only H → SqL K H a (ns.map V.int) → sp [.ref a] H (fun v _ => v = .bl true) fun _ _ _ => False)
    (hCX : ∀ H e s', CX [] H s₁ (fun _ _ _ => False) e s' → False) :
    codeAny (model P w) callerA (.call (.ref fa) ⟨[.ref a], []⟩) (fun r s' => r = .ok (.ret (.bool true)) ∧ OldK s₁.heap s'.heap ∧ s'.os = s₁.os ∧ AllBare s'.gens) s₁ := by
  have rv := vals_ints hi
  have lenV := hi.length
  -- from an abstract heap in which nothing but the script may be tracked
  have core : ∀ H : Hp, Only H → SqL K H a (ns.map V.int) → HOk P w H s₁.heap → (∀ b, H b ≠ none → b = a) → (H a ≠ none → K.lookup a = none) →
      codeAny (model P w) callerA (.call (.ref fa) ⟨[.ref a], []⟩) (fun r s' => r = .ok (.ret (.bool true)) ∧ OldK s₁.heap s'.heap ∧ s'.os = s₁.os ∧ AllBare s'.gens) s₁ := by
    intro H hO hS hok hA hK
    have base_of : ∀ {b : Addr} {o : Obj}, s₁.heap.get? b = some o → H b = none → (hidT s₁.heap H).get? b = some o := fun e n => hidT_get e n
    have noA : ∀ {b : Addr} {o : Obj} {es : Array DictEntry} {ep : Nat}, s₁.heap.get? b = some o → o.data = .dict es ep → H b = none := fun {b o es ep} e d => by
      cases q : H b with
      | none => rfl
      | some u =>
        have e' : b = a := hA b (by rw [q]; simp)
        subst e'
        rw [ha] at e; cases e
        have d' : Data.seq vs.toArray _ = Data.dict es ep := d
        cases d'
    have nsK : ∀ {b : Addr} {m : Str → Option Value}, s₁.heap.Ns b m → (hidT s₁.heap H).Ns b m := fun {b m} ⟨o, es, ep, e, d, r⟩ => ⟨o, es, ep, base_of e (noA e d), d, r⟩
    have hKb : K.In (hidT s₁.heap H) := fun b o e => base_of (KX b o e) (by
      cases q : H b with
      | none => rfl
      | some u =>
        have e' : b = a := hA b (by rw [q]; simp)
        subst e'
        rw [hK (by rw [q]; simp)] at e; cases e)
    have hM : Mod K mg (hidT s₁.heap H) := ⟨hKb, nsK hns, ⟨mb, nsK hb, hbb⟩, let ⟨mc, h1, h2⟩ := hlim; ⟨mc, nsK h1, h2⟩⟩
    have e0 : Env0 P w K mg (hidT s₁.heap H) callerA [] s₁ H := ⟨rfl, hM, fun b o e => of_hidT e, Nat.le_of_eq (hidT_size _ _), trivial, fun b hb => absurd (show b ∈ ([] : List Addr) from hb) (by simp), hok, .of_eq hg⟩
    refine codeAny_mono ((F _ hKb (nsK hns)).run callerA [] s₁ H ⟨[.ref a], []⟩ [.ref a] [.ref a] _ _ hr e0 (hbind s₁ (.ref a)) (.cons rfl .nil) (hsp H hO hS)) fun r s' h => ?_
    cases r with
    | error e => exact (hCX H e s' h).elim
    | ok fl =>
      cases fl with
      | next => exact False.elim h
      | brk => exact False.elim h
      | cont => exact False.elim h
      | ret u =>
        obtain ⟨v, H', os, bare, un, hok', r', q⟩ := h
        have q' : v = .bl true := q
        subst q'
        obtain rfl : u = Value.bool true := r'
        refine ⟨rfl, OldK.of_keep fun b o e => ?_, os, bare⟩
        cases q : H b with
        | none => exact un.keep b o e q (by intro z; exact absurd (show b ∈ ([] : List Addr) from z) (by simp)) (by simp)
        | some u =>
          rcases hO b with z | ⟨ob, xs, z⟩
          · rw [q] at z; cases z
          · have z2 := un.frzs b ob _ z
            obtain ⟨e1, _⟩ := hok b _ z
            obtain ⟨e2, _⟩ := hok' b _ z2
            rw [e] at e1; cases e1
            exact e2
  cases hk : K.lookup a with
  | some o =>
    -- the script is one of the module's own objects
    have e := KX a o hk
    rw [ha] at e
    cases e
    refine core (fun _ => none) (fun _ => .inl rfl) (.inr ⟨_, vs.toArray, _, hk, rfl, rfl, rfl, by rw [List.size_toArray, lenV]; exact hl, by simpa using rv⟩) (fun b u z => by have z' : (none : Option HO) = some u := z; cases z') (fun b z => absurd rfl z) fun z => absurd rfl z
  | none =>
    refine core (fun b => if b = a then some (.frz { cls := .type "list", data := .seq vs.toArray } (.lst (ns.map V.int))) else none) (fun b => ?_) (.inl (.inr ⟨{ cls := .type "list", data := .seq vs.toArray }, if_pos rfl⟩)) (fun b u z => ?_) (fun b z => ?_) fun _ => hk
    · by_cases hb : b = a
      · exact .inr ⟨_, _, if_pos hb⟩
      · exact .inl (if_neg hb)
    · by_cases hb : b = a
      · have z' := (if_pos hb).symm.trans z
        cases z'
        subst hb
        exact ⟨ha, by rw [List.length_map]; exact hl, vs, _, rv, ha⟩
      · have z' := (if_neg hb).symm.trans z
        cases z'
    · by_cases hb : b = a
      · exact hb
      · exact absurd (if_neg hb) z
end L2

namespace L2
open PySem PySem.Spec PyProof.Rows

abbrev KOf {K : PySem.W.Frag} {h : Heap} (_ : K.In h) : PySem.W.Frag := K

/-- the goal that k_head leaves (case hc), from the law's promise. F gives the function object fd (K's own) once, then the promise over every base -/
theorem walk_of {l : PySem.W.OpenLaw} {n k : Nat} {q : Program} {loose : List Str} {XP : (Str → Option Value) → Heap → Prop} {YP : World → Heap → Prop} {d : DefRec} {K : Params → PySem.W.Frag} {CX : World → CXT} {sp : World → Sp} {x : Str}
    (hn : l.most = some n) (hn2 : n ≤ sizeLine) (hdf : d.params.defaults = []) (hr : Room k callerA)
    (hY : ∀ (w : World) (h : Heap), YP w h → (K w.params).In h)
    (F : ∀ (w : World) (mg : Str → Option Value) (fa : Addr) (h : Heap), (K w.params).In h → h.Ns mainGlobals mg → mg d.name = some (.ref fa) →
      ∃ fd : FuncData, (∀ (s : Shared) (u : Value), BindsTo s fd ⟨[u], []⟩ [(x, u)]) ∧
        ∀ base : Heap, (K w.params).In base → base.Ns mainGlobals mg → FnOk l.prog w (K w.params) mg base (CX w) k fa fd [x] (sp w))
    (hsp : ∀ (w : World) (H : Hp) (a : Addr) (ns : List Int), ns.length ≤ n → Only H → SqL (K w.params) H a (ns.map V.int) → sp w [.ref a] H (fun v _ => v = .bl true) fun _ _ _ => False)
    (hCX : ∀ (w : World) (H : Hp) (s : Shared) (e : Value) (s' : Shared), CX w [] H s (fun _ _ _ => False) e s' → False) :
    PySem.W.WalkO q loose XP YP l.row.toRowW d [] (fun f vs => PySem.call f vs) := by
  refine Att.attach_call hn hdf fun w s₀ s₁ mg mb fa o pm cd doc a vs ns G Y ho hd hcd hmg hobj hints hlen hg => ?_
  have KX := hY w _ Y
  obtain ⟨fd, hb, hF⟩ := F w mg fa _ KX G.T.g hmg
  exact law_call KX G.T.g G.T.b G.T.builtins G.T.nolimit hg hobj hints (Nat.le_trans hlen hn2) hr hF hb (fun H hO hS => hsp w H a ns hlen hO hS) fun H e s' => hCX w H s₁ e s'
end L2

/- THE LAST THEOREM (shape; LID, My.* are yours):
   My.Adr: a structure of the addresses that your layer names (classes, functions); My.Txt K t: a structure (Prop) of the equations over K;
   My.txt_mk : {K} {implicit addresses ..} (e1 : nsIn K mainGlobals "law" = some (some (.ref f))) (e2 : K.lookup f = some ⟨oc, od, .func (fnOf "law" "law" params body scope dV kV doc pm an cdv ct), sl⟩) (e3 : codeIn K cdv "law" = true) .. : ∃ t, My.Txt K t

set_option maxRecDepth 100000 in
set_option maxHeartbeats 0 in
theorem PySem.Challenge.cw_LID_holds : PySem.Challenge.rw_LID.Holds := by
  w_on; o_law; k_head; (case hw => w_witness2)
  k_fill
  refine L2.walk_of (l := PySem.Challenge.rw_LID) (n := 63) (k := 40) (x := "script") (CX := fun w => ..) (sp := fun _ => My.sp_law) rfl (by decide) rfl ⟨rfl, by decide, by decide⟩ (fun w h Y => PySem.W.kIn_of Y) ?F ?S ?C
  case F =>
    intro w mg fa h KX G hmg
    have T : ∃ t, My.Txt (L2.KOf KX) t := by
      dsimp only [L2.KOf]                          -- K must stand as «<heap const> w.params» for k_is
      refine' My.txt_mk ?e1 ?e2 ?e3 ..
      (case e1 => PySem.W.k_is)                    -- in the order: a name -> its address -> its object -> its parts
      (case e2 => PySem.W.k_is)
      ..
    obtain ⟨t, T⟩ := T
    have e0 := hmg.symm.trans (PySem.W.mg_of KX G T.law)
    cases e0                                       -- fa is the law's own address
    exact ⟨_, fun s u => .of_eq rfl, fun base kb nb => My.law_fn T kb nb⟩     -- if «.of_eq rfl» comes too early: refine' ⟨_, ?b, fun base kb nb => My.law_fn T kb nb⟩; exact fun s u => .of_eq rfl
  case S => exact fun w H a ns hl hO hS => ..
  case C => exact ..
(the tactic k_is has no namespace: write k_is) -/

/-! SHORT WORDS over the layer: a def of the text, its body, what a loop and a test want. -/
namespace L2
open PySem PySem.Spec PyProof.Rows

/-! ### the text by places -/
def defArgs (s : Stmt) : Arguments := match s with
  | .FunctionDef _ a _ _ _ _ _ _ _ _ => a
  | _ => { posonlyargs := [], args := [], vararg := none, kwonlyargs := [], kw_defaults := [], kwarg := none, defaults := [] }
def defBody (s : Stmt) : List Stmt := match s with
  | .FunctionDef _ _ b _ _ _ _ _ _ _ => b
  | _ => []
def defScope (s : Stmt) : Scope := match s with
  | .FunctionDef _ _ _ _ _ _ sc _ _ _ => sc
  | _ => { kind := .function, names := [], isGenerator := false, isCoroutine := false }

/-! ### no exception leaves a def -/
abbrev CX0 : CXT := fun _ _ _ _ _ _ => False
abbrev E0 : XK := fun _ _ _ => False
theorem pass0 {X : Cx} : Passes CX0 X E0 := fun _ _ _ _ _ _ _ h => h.elim

/-! ### a def (or method) of the text as it stands behind the top -/
structure Fun (K : PySem.W.Frag) (x qual : Str) (st : Stmt) (f : Addr) (fd : FuncData) : Prop where
  ex : ∃ (oc : Value) (od : Option Addr) (kV doc pm : Value) (an : Option Addr) (cdv ct : Value) (osl : Array (Option Value)),
    fd = PySem.W.fnOf x qual (defArgs st) (defBody st) (defScope st) .none kV doc pm an cdv ct ∧ K.lookup f = some ⟨oc, od, .func fd, osl⟩ ∧ PySem.W.codeIn K cdv qual = true
  kp : PySem.W.keepIn K (.ref f) = true
section
variable {P : Program} {w : World} {K : PySem.W.Frag} {mg : Str → Option Value} {base : Heap}
/-- THE RULE for a def: its body as a term of rules, and the reading of that term -/
theorem Fun.ok {x qual : Str} {st : Stmt} {f : Addr} {fd : FuncData} {N ps : List Str} {k : Nat} {sp : Sp} (F : Fun K x qual st f fd) (S : FnScope N ps (defScope st)) (len : ∀ vs H Q E, sp vs H Q E → vs.length = ps.length)
    (hbody : ∀ (cdv : Value) (A : Around) (outer : List Env) (s : Shared) (H : Hp) (vs : List V) (Q : VK) (E : XK), Room k (A.deeper (envOfC qual (defScope st) s.heap.objs.size f cdv)) → sp vs H Q E →
      ∃ t, PSs (cxOf CX0 P w K mg base N qual (defScope st) f cdv A outer s H E).nox (defBody st) t ∧ t { nx := fun _ H' => Q .non H', rt := Q } (start N vs) H) : FnOk P w K mg base CX0 (k + 1) f fd ps sp := by
  obtain ⟨oc, od, kV, doc, pm, an, cdv, ct, osl, rfl, lk, hcd⟩ := F.ex
  refine fn_of lk hcd S len fun A outer s H vs Q E hr hsp => ?_
  obtain ⟨t, h, q⟩ := hbody cdv A outer s H vs Q E hr hsp
  exact ⟨t, h.nox, q⟩
/-- how its arguments bind (no defaults): h is «fun _ _ _ _ _ _ us hl => match us, hl with | [_, _], _ => rfl», one _ a parameter -/
theorem Fun.binds {x qual : Str} {st : Stmt} {f : Addr} {fd : FuncData} {ps : List Str} (F : Fun K x qual st f fd)
    (h : ∀ (kV doc pm : Value) (an : Option Addr) (cdv ct : Value) (us : List Value), us.length = ps.length → bindArgs (PySem.W.fnOf x qual (defArgs st) (defBody st) (defScope st) .none kV doc pm an cdv ct) ⟨us, []⟩ = pure (ps.zip us)) : Binds K fd ps [] := by
  obtain ⟨oc, od, kV, doc, pm, an, cdv, ct, osl, rfl, lk, hcd⟩ := F.ex
  exact .all (h kV doc pm an cdv ct)
theorem fun_mk {x qual : Str} {st : Stmt} {f : Addr} {oc : Value} {od an : Option Addr} {osl : Array (Option Value)} {kV doc pm cdv ct : Value} (l : K.lookup f = some ⟨oc, od, .func (PySem.W.fnOf x qual (defArgs st) (defBody st) (defScope st) .none kV doc pm an cdv ct), osl⟩)
    (c : PySem.W.codeIn K cdv qual = true) (k : PySem.W.keepIn K (.ref f) = true) : Fun K x qual st f (PySem.W.fnOf x qual (defArgs st) (defBody st) (defScope st) .none kV doc pm an cdv ct) := ⟨⟨oc, od, kV, doc, pm, an, cdv, ct, osl, rfl, l, c⟩, k⟩
end
theorem small1000 {n : Nat} (h : n ≤ 1000) : n < sizeLine := Nat.lt_of_le_of_lt h (by decide)

/-! ### expressions in short: the name that stands in the i-th slot -/
section
variable {X : Cx}
theorem pv (i : Nat) {x : Str} {pos : Pos} (hN : X.N[i]? = some x := by rfl) (hv : Vis X.env.scope x := by first | exact Or.inl rfl | exact Or.inr (Or.inl rfl) | exact Or.inr (Or.inr rfl)) (hd : (x == ("__debug__" : Str)) = false := by decide)
    (hcd : (x == ("__classdict__" : Str)) = false := by decide) : PE X (.Name x pos) (tVar i) := pe_var hN hv hd hcd
end

/-! ### tests -/
theorem iteF {A B : Prop} (h : B) : if false = true then A else B := by
  rw [if_neg Bool.false_ne_true]
  exact h
theorem iteT {A B : Prop} (h : A) : if true = true then A else B := by
  rw [if_pos rfl]
  exact h
theorem ite2 {c A B : Prop} [Decidable c] (h1 : c → A) (h2 : ¬ c → B) : if c then A else B := by
  by_cases h : c
  · rw [if_pos h]
    exact h1 h
  · rw [if_neg h]
    exact h2 h
theorem iteNS {c A B : Prop} [Decidable c] (hc : c) (h : B) : if (!decide c) = true then A else B := by
  rw [decide_eq_true hc]
  exact iteF h

/-! ### heaps -/
/-- all that was tracked is as it was -/
def Same (H H' : Hp) : Prop := ∀ b o, H b = some o → H' b = some o
theorem Same.refl (H : Hp) : Same H H := fun _ _ h => h
theorem Same.trans {H H1 H2 : Hp} (a : Same H H1) (b : Same H1 H2) : Same H H2 := fun c o h => b c o (a c o h)
theorem Same.free {H H' : Hp} (e : Same H H') {l : Addr} (h : H' l = Option.none) : H l = Option.none := by
  cases q : H l with
  | none => rfl
  | some o =>
    rw [e l o q] at h
    cases h
theorem Same.seq {K : PySem.W.Frag} {H H' : Hp} {a : Addr} {xs : List V} (e : Same H H') (h : SqL K H a xs) : SqL K H' a xs := by
  rcases h with (h | ⟨o, h⟩) | h
  · exact .inl (.inl (e _ _ h))
  · exact .inl (.inr ⟨o, e _ _ h⟩)
  · exact .inr h

end L2


namespace L2
open PySem PySem.Spec PyProof.Rows
section
variable {X : Cx}
end
/-! ### a dict's pairs: keys that differ -/
section
variable {κ : Type} [DecidableEq κ]
end
end L2


namespace L2
open PySem PySem.Spec PyProof.Rows

/-! ### comprehensions -/
theorem relabel_lookup {env : Env} : ∀ {names : List (Str × NameKind)} {x : Str} {k : NameKind},
    (names.map fun (n, k) => if (k == NameKind.free && env.scope.kind == .function && env.kindOf n == some .cell) then (n, NameKind.cell) else (n, k)).lookup x = some k →
    ∃ k', names.lookup x = some k' ∧ (k = k' ∨ (k' = .free ∧ k = .cell))
  | [], _, _, h => by simp at h
  | (n, k0) :: r, x, k, h => by
    have ih := @relabel_lookup env r x k
    rw [List.map_cons] at h
    by_cases hc : (k0 == NameKind.free && env.scope.kind == .function && env.kindOf n == some .cell) = true
    · have e : (if (k0 == NameKind.free && env.scope.kind == .function && env.kindOf n == some .cell) = true then (n, NameKind.cell) else (n, k0)) = (n, NameKind.cell) := if_pos hc
      simp only [e] at h
      cases hx : x == n with
      | true =>
        simp only [List.lookup_cons, hx] at h ⊢
        have hf : k0 = .free := by
          have := hc
          simp only [Bool.and_eq_true, beq_iff_eq] at this
          exact this.1.1
        exact ⟨k0, rfl, .inr ⟨hf, (Option.some.inj h).symm⟩⟩
      | false =>
        simp only [List.lookup_cons, hx] at h ⊢
        exact ih h
    · have e : (if (k0 == NameKind.free && env.scope.kind == .function && env.kindOf n == some .cell) = true then (n, NameKind.cell) else (n, k0)) = (n, k0) := if_neg hc
      simp only [e] at h
      cases hx : x == n with
      | true =>
        simp only [List.lookup_cons, hx] at h ⊢
        exact ⟨k0, rfl, .inl (Option.some.inj h).symm⟩
      | false =>
        simp only [List.lookup_cons, hx] at h ⊢
        exact ih h

theorem relabel_free {env : Env} : ∀ {names : List (Str × NameKind)} {x : Str}, names.lookup x = some .free →
    (names.map fun (n, k) => if (k == NameKind.free && env.scope.kind == .function && env.kindOf n == some .cell) then (n, NameKind.cell) else (n, k)).lookup x = some .cell ∨
    (names.map fun (n, k) => if (k == NameKind.free && env.scope.kind == .function && env.kindOf n == some .cell) then (n, NameKind.cell) else (n, k)).lookup x = some .free
  | [], _, h => by simp at h
  | (n, k0) :: r, x, h => by
    have ih := @relabel_free env r x
    rw [List.map_cons]
    by_cases hc : (k0 == NameKind.free && env.scope.kind == .function && env.kindOf n == some .cell) = true
    · have e : (if (k0 == NameKind.free && env.scope.kind == .function && env.kindOf n == some .cell) = true then (n, NameKind.cell) else (n, k0)) = (n, NameKind.cell) := if_pos hc
      simp only [e]
      cases hx : x == n with
      | true =>
        simp only [List.lookup_cons, hx] at h ⊢
        first | exact .inl rfl | exact .inl trivial
      | false =>
        simp only [List.lookup_cons, hx] at h ⊢
        exact ih h
    · have e : (if (k0 == NameKind.free && env.scope.kind == .function && env.kindOf n == some .cell) = true then (n, NameKind.cell) else (n, k0)) = (n, k0) := if_neg hc
      simp only [e]
      cases hx : x == n with
      | true =>
        simp only [List.lookup_cons, hx] at h ⊢
        exact .inr h
      | false =>
        simp only [List.lookup_cons, hx] at h ⊢
        exact ih h

/-! ### the cells that a block closes over -/
def cloOf (env : Env) : List (Str × NameKind) → List (Str × Addr) → List (Str × Addr)
  | [], acc => acc
  | y :: r, acc => if (y.2 == NameKind.free) = true then cloOf env r ((y.1, (env.cells.lookup y.1).getD 0) :: acc) else cloOf env r acc
theorem clo_run {env : Env} : ∀ {names : List (Str × NameKind)} {acc : List (Str × Addr)}, (∀ y ∈ names, y.2 = .free → ∃ c, env.cells.lookup y.1 = some c) →
    (forIn names acc fun (x : Str × NameKind) (cs : List (Str × Addr)) => if (x.2 == NameKind.free) = true then do let c ← cellOf env x.1; pure (ForInStep.yield ((x.1, c) :: cs)) else pure (ForInStep.yield cs) : Sem (List (Str × Addr))) = pure (cloOf env names acc)
  | [], _, _ => rfl
  | y :: r, acc, h => by
    rw [List.forIn_cons]
    by_cases hy : (y.2 == NameKind.free) = true
    · obtain ⟨c, hc⟩ := h y List.mem_cons_self (by simpa using hy)
      have e : cellOf env y.1 = pure c := by unfold cellOf; rw [hc]
      rw [if_pos hy, e, pure_bind, pure_bind]
      show (forIn r ((y.1, c) :: acc) _ : Sem (List (Str × Addr))) = _
      rw [clo_run fun z hz => h z (List.mem_cons_of_mem _ hz)]
      show _ = pure (if (y.2 == NameKind.free) = true then cloOf env r ((y.1, (env.cells.lookup y.1).getD 0) :: acc) else cloOf env r acc)
      rw [if_pos hy, hc]
      rfl
    · rw [if_neg hy, pure_bind]
      show (forIn r acc _ : Sem (List (Str × Addr))) = _
      rw [clo_run fun z hz => h z (List.mem_cons_of_mem _ hz)]
      show _ = pure (if (y.2 == NameKind.free) = true then cloOf env r ((y.1, (env.cells.lookup y.1).getD 0) :: acc) else cloOf env r acc)
      rw [if_neg hy]
theorem clo_for {scope : Scope} {env : Env} (h : ∀ y ∈ scope.names, y.2 = .free → ∃ c, env.cells.lookup y.1 = some c) : closureFor scope env = pure (cloOf env scope.names []) := by
  have q := clo_run (env := env) (names := scope.names) (acc := []) h
  unfold closureFor
  exact (by first | (simp only [bind_pure]; exact q) | (rw [bind_pure]; exact q) | exact q)
theorem clo_sub {env : Env} : ∀ {names : List (Str × NameKind)} {acc : List (Str × Addr)}, (∀ y ∈ names, y.2 = .free → ∃ c, env.cells.lookup y.1 = some c) → (∀ x c, acc.lookup x = some c → env.cells.lookup x = some c) →
    ∀ x c, (cloOf env names acc).lookup x = some c → env.cells.lookup x = some c
  | [], _, _, ha => ha
  | y :: r, acc, h, ha => by
    have hr : ∀ z ∈ r, z.2 = .free → ∃ c, env.cells.lookup z.1 = some c := fun z hz => h z (List.mem_cons_of_mem _ hz)
    intro x c e
    unfold cloOf at e
    by_cases hy : (y.2 == NameKind.free) = true
    · rw [if_pos hy] at e
      refine clo_sub hr (fun x' c' e' => ?_) x c e
      obtain ⟨d, hd⟩ := h y List.mem_cons_self (by simpa using hy)
      rw [hd, Option.getD_some] at e'
      cases hx : x' == y.1 with
      | true =>
        simp only [List.lookup_cons, hx] at e'
        have e1 : x' = y.1 := eq_of_beq hx
        rw [e1, hd]
        exact e'
      | false =>
        simp only [List.lookup_cons, hx] at e'
        exact ha x' c' e'
    · rw [if_neg hy] at e
      exact clo_sub hr ha x c e
theorem clo_keep {env : Env} : ∀ {names : List (Str × NameKind)} {acc : List (Str × Addr)} {x : Str}, (∃ c, acc.lookup x = some c) → ∃ c, (cloOf env names acc).lookup x = some c
  | [], _, _, h => h
  | y :: r, acc, x, h => by
    unfold cloOf
    by_cases hy : (y.2 == NameKind.free) = true
    · rw [if_pos hy]
      refine clo_keep ?_
      cases hx : x == y.1 with
      | true => exact ⟨(env.cells.lookup y.1).getD 0, by simp only [List.lookup_cons, hx]⟩
      | false =>
        obtain ⟨c, e⟩ := h
        exact ⟨c, by simp only [List.lookup_cons, hx]; exact e⟩
    · rw [if_neg hy]
      exact clo_keep h
theorem clo_has {env : Env} : ∀ {names : List (Str × NameKind)} {acc : List (Str × Addr)} {x : Str}, names.lookup x = some .free → ∃ c, (cloOf env names acc).lookup x = some c
  | [], _, _, h => by simp at h
  | (n, k) :: r, acc, x, h => by
    unfold cloOf
    cases hx : x == n with
    | true =>
      simp only [List.lookup_cons, hx] at h
      have hy : (k == NameKind.free) = true := by rw [Option.some.inj h]; rfl
      rw [if_pos hy]
      exact clo_keep ⟨(env.cells.lookup n).getD 0, by simp only [List.lookup_cons, hx]⟩
    | false =>
      simp only [List.lookup_cons, hx] at h
      by_cases hy : (k == NameKind.free) = true
      · rw [if_pos hy]; exact clo_has h
      · rw [if_neg hy]; exact clo_has h

abbrev compCx (X : Cx) (scope : Scope) (N' : List Str) (C : Addr) (s0 : Shared) (H0 : Hp) (ex : List Addr) : Cx where
  prog := X.prog
  w := X.w
  K := X.K
  mg := X.mg
  base := X.base
  A := X.A
  N := N'
  s₀ := s0
  H₀ := H0
  env := compEnvC scope (cloOf X.env scope.names []) C X.env
  outer := X.stack
  stack := X.stack
  ex := ex
  fn := fun _ => false
  calm := X.calm
  pn := []
  xe := fun _ _ => False

/-- what the block reads of the names around it -/
def CapOk (X : Cx) (sc : Scope) : List Nat → List Str → Prop
  | [], [] => True
  | j :: js, x :: xs => X.N[j]? = some x ∧ sc.names.lookup x = some .free ∧ CapOk X sc js xs
  | _, _ => False
theorem CapOk.get {X : Cx} {sc : Scope} : ∀ {js : List Nat} {xs : List Str} {i : Nat} {x : Str}, CapOk X sc js xs → xs[i]? = some x →
    ∃ j, js[i]? = some j ∧ X.N[j]? = some x ∧ sc.names.lookup x = some .free
  | [], [], _, _, _, e => by simp at e
  | j :: js, y :: xs, 0, x, h, e => by
    obtain ⟨h1, h2, _⟩ := h
    have e' : y = x := by simpa using e
    subst e'
    exact ⟨j, rfl, h1, h2⟩
  | j :: js, y :: xs, i + 1, x, h, e => by
    obtain ⟨_, _, h6⟩ := h
    obtain ⟨j', q⟩ := CapOk.get (i := i) (x := x) h6 (by simpa using e)
    exact ⟨j', by simpa using q.1, q.2⟩
  | [], _ :: _, _, _, h, _ => h.elim
  | _ :: _, [], _, _, h, _ => h.elim
theorem CapOk.len {X : Cx} {sc : Scope} : ∀ {js : List Nat} {xs : List Str}, CapOk X sc js xs → js.length = xs.length
  | [], [], _ => rfl
  | j :: js, y :: xs, h => by
    obtain ⟨_, _, h6⟩ := h
    simp [CapOk.len h6]
  | [], _ :: _, h => h.elim
  | _ :: _, [], h => h.elim

/-- the block's names: checks that compute; names that are free in it are cells (or free) around it -/
structure CompOk (X : Cx) (scope : Scope) (cap : List Nat) (capN : List Str) : Prop where
  kind : scope.kind = .function
  names : ∀ x ∈ scope.names, x.2 = .local → scope.names.lookup x.1 = some .local
  nocell : ∀ y ∈ scope.names, y.2 ≠ .cell
  frees : (scope.names.all fun y => !(y.2 == NameKind.free) || (X.env.kindOf y.1 == some .cell || X.env.kindOf y.1 == some .free)) = true
  cap : CapOk X scope cap capN
section
variable {X : Cx} {scope : Scope} {cap : List Nat} {capN : List Str}
theorem CompOk.around (O : CompOk X scope cap capN) {y : Str × NameKind} (hy : y ∈ scope.names) (hf : y.2 = .free) : X.env.kindOf y.1 = some .cell ∨ X.env.kindOf y.1 = some .free := by
  have q := List.all_eq_true.mp O.frees y hy
  rw [hf] at q
  simpa using q
theorem CompOk.cells (O : CompOk X scope cap capN) (ok : X.Ok) : ∀ y ∈ scope.names, y.2 = .free → ∃ c, X.env.cells.lookup y.1 = some c := fun y hy hf => ok.has _ (O.around hy hf)
theorem CompOk.clos (O : CompOk X scope cap capN) (ok : X.Ok) : closureFor scope X.env = pure (cloOf X.env scope.names []) := clo_for (O.cells ok)
theorem CompOk.sub (O : CompOk X scope cap capN) (ok : X.Ok) : ∀ x c, (cloOf X.env scope.names []).lookup x = some c → X.env.cells.lookup x = some c := clo_sub (O.cells ok) fun x c e => by simp at e
theorem CompOk.has (_O : CompOk X scope cap capN) {x : Str} (h : scope.names.lookup x = some .free) : ∃ c, (cloOf X.env scope.names []).lookup x = some c := clo_has h
end

def compSt (n : Nat) (cap : List Nat) (σ : St) : St := List.replicate n none ++ cap.map (fun j => (σ[j]?).join)
theorem compSt_len {n : Nat} {cap : List Nat} {σ : St} : (compSt n cap σ).length = n + cap.length := by
  unfold compSt
  rw [List.length_append, List.length_replicate, List.length_map]
theorem compSt_get {n : Nat} {cap : List Nat} {σ : St} {i : Nat} {v : V} (h : (compSt n cap σ)[i]? = some (some v)) : n ≤ i ∧ ∃ j, cap[i - n]? = some j ∧ σ[j]? = some (some v) := by
  unfold compSt at h
  by_cases hi : i < n
  · rw [List.getElem?_append_left (by simpa using hi), List.getElem?_replicate] at h
    rw [if_pos hi] at h
    cases h
  · have hi' : n ≤ i := Nat.le_of_not_lt hi
    rw [List.getElem?_append_right (by simpa using hi'), List.length_replicate, List.getElem?_map] at h
    refine ⟨hi', ?_⟩
    cases e : cap[i - n]? with
    | none => rw [e] at h; cases h
    | some j =>
      rw [e] at h
      refine ⟨j, rfl, ?_⟩
      have h' : (σ[j]?).join = some v := by simpa using h
      cases q : σ[j]? with
      | none => rw [q] at h'; cases h'
      | some o =>
        rw [q] at h'
        have : o = some v := h'
        rw [this]

section
variable {X : Cx} {pins : List (Addr × Obj)} {σ : St} {H : Hp} {s : Shared} {scope : Scope} {cap : List Nat} {capN N' : List Str} {C : Addr} {ex : List Addr}
theorem compCx_ok (I : Inv X pins σ H s) (O : CompOk X scope cap capN) (hC : s.heap.objs.size ≤ C) (hex : ∀ b ∈ ex, FpOk X pins H b ∧ b < s.heap.objs.size) : (compCx X scope N' C s H ex).Ok where
  mod := I.ok.mod
  kind := O.kind
  glob := I.ok.glob
  blt := I.ok.blt
  above := hC
  inj := fun x y c h1 h2 => I.ok.inj x y c (O.sub I.ok x c h1) (O.sub I.ok y c h2)
  has := fun x hx => by
    have hx' : (relabel scope X.env).names.lookup x = some .cell ∨ (relabel scope X.env).names.lookup x = some .free := hx
    have key : ∀ k, (relabel scope X.env).names.lookup x = some k → (k = .cell ∨ k = .free) → scope.names.lookup x = some .free := fun k e hk => by
      obtain ⟨k', e', q⟩ := relabel_lookup (env := X.env) e
      rcases q with q | ⟨q, _⟩
      · subst q
        rcases hk with z | z
        · subst z; exact absurd rfl (O.nocell _ (PySem.mem_of_lookup e'))
        · subst z; exact e'
      · subst q; exact e'
    rcases hx' with e | e
    · exact O.has (key _ e (.inl rfl))
    · exact O.has (key _ e (.inr rfl))
  cab := fun x c h _ => by cases h
  hd := I.ok.hd
  frames := I.ok.frames
  stk := .inl rfl
  exf := fun b hb => by
    obtain ⟨⟨f0, f1, f2, f3, f4, f5⟩, lt⟩ := hex b hb
    exact ⟨Nat.ne_of_lt (Nat.lt_of_lt_of_le lt hC), fun x c e => f4 x c (O.sub I.ok x c e)⟩
  bs := I.bs
  bsz := Nat.le_trans I.ok.bsz I.sz
  noex := fun b o e hb => by
    obtain ⟨⟨f0, f1, f2, f3, f4, f5⟩, lt⟩ := hex b hb
    rcases f3 with z | z
    · exact I.ok.noex b o e z
    · exact absurd (Nat.lt_of_lt_of_le (Heap.lt_size e) (Nat.le_trans I.ok.bsz z)) (Nat.lt_irrefl _)
  exfs := fun b hb z => by
    obtain ⟨⟨f0, f1, f2, f3, f4, f5⟩, lt⟩ := hex b hb
    rcases List.mem_cons.mp (I.stkSub b z) with e | e
    · exact f1 e
    · exact f2 e
  funs := I.stack
  frf := I.stkFree

theorem not_stack (I : Inv X pins σ H s) {b : Addr} (hb : s.heap.objs.size ≤ b) : b ∉ frs X.stack := fun z => by
  rcases List.mem_cons.mp (I.stkSub b z) with e | e
  · exact absurd (Nat.lt_of_lt_of_le I.lt hb) (by rw [e]; exact Nat.lt_irrefl _)
  · exact I.nofs hb e
theorem not_cell (I : Inv X pins σ H s) {b : Addr} (hb : s.heap.objs.size ≤ b) : ∀ x c, X.env.cells.lookup x = some c → c ≠ b := fun x c e z => by
  obtain ⟨v, q⟩ := I.cell x c e
  exact absurd (Nat.lt_of_lt_of_le q.lt (by rw [z]; exact hb)) (Nat.lt_irrefl _)

/-- the block's first state -/
theorem comp_start {n : Nat} {h1 : Heap} {m1 : Str → Option Value} {tk : Nat} (I : Inv X pins σ H s) (O : CompOk X scope cap capN) (hN : N'.length = n + capN.length) (hN2 : ∀ i x, n ≤ i → N'[i]? = some x → capN[i - n]? = some x) (hC : s.heap.objs.size ≤ C) (hex : ∀ b ∈ ex, FpOk X pins H b ∧ b < s.heap.objs.size)
    (hk : ∀ b o, s.heap.get? b = some o → h1.get? b = some o) (hn : h1.Ns C m1) : Inv (compCx X scope N' C s H ex) [] (compSt n cap σ) H { s with heap := h1, toks := tk } := by
  refine ⟨compCx_ok I O hC hex, rfl, I.bare, Un.kept hk, ⟨m1, hn, fun i x v e1 e2 e3 => ?_⟩, fun x c e => ?_, I.hok.fresh hC, fun x c e => I.freeC x c (O.sub I.ok x c e), fun p hp => absurd (show p ∈ ([] : List (Addr × Obj)) from hp) (by simp), I.hok.kept hk, ?_⟩
  · obtain ⟨hi, j, ej, es⟩ := compSt_get e2
    obtain ⟨j', q1, q2, qf⟩ := O.cap.get (hN2 i x hi e1)
    have q3 := O.around (PySem.mem_of_lookup qf) rfl
    have q4 := relabel_free (env := X.env) qf
    obtain ⟨c, q5⟩ := O.has qf
    have q6 := O.sub I.ok x c q5
    rw [q1] at ej
    cases ej
    obtain ⟨m0, hn0, hl0⟩ := I.loc
    obtain ⟨u, r, l⟩ := hl0 _ x v q2 es (by
      rcases q3 with z | z
      · exact .inr (.inl z)
      · exact .inr (.inr z))
    refine ⟨u, r, .inr ⟨q4, c, q5, ?_⟩⟩
    rcases l with ⟨k, _⟩ | ⟨_, c', e', z⟩
    · rcases q3 with z | z
      · have z' : X.env.kindOf x = some .cell := z
        rw [z'] at k; cases k
      · have z' : X.env.kindOf x = some .free := z
        rw [z'] at k; cases k
    · rw [q6] at e'
      cases e'
      obtain ⟨o, ho, hd⟩ := z
      exact ⟨o, hk _ _ ho, hd⟩
  · obtain ⟨v, o, ho, hd⟩ := I.cell x c (O.sub I.ok x c e)
    exact ⟨v, o, hk _ _ ho, hd⟩
  · rw [compSt_len, O.cap.len]
    exact hN.symm
end

/-! ### the tests of a comprehension -/
def PIfs (X : Cx) (ifs : List Expr) (t : TT) : Prop :=
  ∀ (pins : List (Addr × Obj)) (s : Shared) (σ : St) (H : Hp) (Q : Bool → Hp → Prop), Inv X pins σ H s → t σ H Q →
    wpAny (model X.prog X.w) X.A (forIn ifs true fun c r => if r = true then do let ok ← isTrue c X.env (eval c X.env); pure (ForInStep.yield ok) else pure (ForInStep.yield r)) (TP X pins σ Q) X.xe s
def tNoIf : TT := fun _ H Q => Q true H
theorem pifs_nil {X : Cx} : PIfs X [] tNoIf := fun _ _ _ H _ I h => wpAny_tests_nil ⟨H, I, h⟩
theorem pifs_one {X : Cx} {c : Expr} {t : TT} (h : PT X c t) : PIfs X [c] t := fun pins s σ H Q I hw => wpAny_tests_one (h pins s σ H Q I hw)

/-- a target that leaves the later names as they are -/
def GK (n : Nat) (g : TG) : Prop := ∀ x σ H Q, g x σ H Q → g x σ H (fun σ2 H2 => (σ2.length = σ.length ∧ ∀ i, n ≤ i → σ2[i]? = σ[i]?) ∧ Q σ2 H2)
theorem gk_name {n i : Nat} (hi : i < n) : GK n (gName i) := fun x σ H Q h => ⟨⟨List.length_set, fun j hj => List.getElem?_set_ne (by omega)⟩, h⟩
def GKs (n : Nat) (g : TGs) : Prop := ∀ xs σ H Q, g xs σ H Q → g xs σ H (fun σ2 H2 => (σ2.length = σ.length ∧ ∀ i, n ≤ i → σ2[i]? = σ[i]?) ∧ Q σ2 H2)
theorem gks_nil {n : Nat} : GKs n gNil := fun xs σ H Q h => ⟨h.1, ⟨rfl, fun _ _ => rfl⟩, h.2⟩
/-- targets are monotone -/
def GM (g : TG) : Prop := ∀ x σ H Q Q', (∀ σ2 H2, Q σ2 H2 → Q' σ2 H2) → g x σ H Q → g x σ H Q'
def GMs (g : TGs) : Prop := ∀ xs σ H Q Q', (∀ σ2 H2, Q σ2 H2 → Q' σ2 H2) → g xs σ H Q → g xs σ H Q'
theorem gm_name {i : Nat} : GM (gName i) := fun _ _ _ _ _ f h => f _ _ h
theorem gms_nil : GMs gNil := fun _ _ _ _ _ f h => ⟨h.1, f _ _ h.2⟩
theorem gms_cons {t : TG} {u : TGs} (a : GM t) (b : GMs u) : GMs (gCons t u) := fun xs σ H Q Q' f h => by
  obtain ⟨v, r, e, h⟩ := h
  exact ⟨v, r, e, a _ _ _ _ _ (fun σ2 H2 z => b _ _ _ _ _ f z) h⟩
theorem gks_cons {n : Nat} {t : TG} {u : TGs} (a : GK n t) (m : GM t) (b : GKs n u) (mb : GMs u) : GKs n (gCons t u) := fun xs σ H Q h => by
  obtain ⟨v, r, e, h⟩ := h
  refine ⟨v, r, e, m _ _ _ _ _ (fun σ2 H2 z => ?_) (a _ _ _ _ h)⟩
  obtain ⟨⟨l1, k1⟩, z⟩ := z
  refine mb _ _ _ _ _ (fun σ3 H3 w => ?_) (b _ _ _ _ z)
  obtain ⟨⟨l2, k2⟩, w⟩ := w
  exact ⟨⟨l2.trans l1, fun i hi => (k2 i hi).trans (k1 i hi)⟩, w⟩
theorem gk_tup {n m : Nat} {K : PySem.W.Frag} {t : TGs} (a : GKs n t) : GK n (gTup K m t) := fun x σ H Q h => by
  obtain ⟨b, xs, e, h1, h2, h3⟩ := h
  exact ⟨b, xs, e, h1, h2, a _ _ _ _ h3⟩
/-- the reading of a comprehension over what J yields -/
def tCompR (n : Nat) (cap : List Nat) (g : TG) (tc : TT) (te : TE) (σ : St) (J : It) (H1 : Hp) (Q : VK) : Prop :=
  ∃ W : Nat → Nat → List V → Hp → Prop, (∃ m, W 0 m [] H1) ∧ ∀ i m ys H, W i m ys H →
    (J.stop i H ∧ ∀ p, H p = none → Q (.ref p) (upd H p (.lst ys))) ∨
    (J.go i H ∧ ys.length < sizeLine ∧ ∀ x H', J.yld i H x H' → g x (compSt n cap σ) H' fun σ2 H2 => tc σ2 H2 fun b H3 =>
      if b = true then te σ2 H3 fun y H4 => ∃ m', m' < m ∧ W (i + 1) m' (ys ++ [y]) H4 else ∃ m', m' < m ∧ W (i + 1) m' ys H3)
def tComp (n : Nat) (cap : List Nat) (wi : TI) (g : TG) (tc : TT) (te : TE) : TE := fun σ H Q => wi σ H fun J H1 => tCompR n cap g tc te σ J H1 Q

/-- one turn of a comprehension, nothing raised -/
theorem codeAny_compLoop_gen {prog : Program} {w : World} {A : Around} {R : Result → Shared → Prop} {s : Shared} {elt target iter : Expr} {ifs : List Expr} {scope : Scope} {pos : Pos} {it acc : Value} {env : Env} (I : Nat → Shared → Prop)
    (turn : ∀ n s, I n s → wpAny (model prog w) A (pyNext it) (fun r s₁ => match r with
      | none => R (.ok .next) s₁
      | some v => wpAny (model prog w) A (letOwnedTupleGo target it v) (fun _ s₁' => wpAny (model prog w) A (assign target env v) (fun _ s₂ =>
          wpAny (model prog w) A (forIn ifs true fun c r => if r = true then do let ok ← isTrue c env (eval c env); pure (ForInStep.yield ok) else pure (ForInStep.yield r)) (fun ok s₃ =>
            if ok = true then wpAny (model prog w) A (eval elt env) (fun x s₄ =>
              wpAny (model prog w) A (call (.builtin "list.append") [acc, x]) (fun _ s₅ => ∃ m, m < n ∧ I m s₅) (fun _ _ => False) s₄) (fun _ _ => False) s₃
            else ∃ m, m < n ∧ I m s₃) (fun _ _ => False) s₂) (fun _ _ => False) s₁') (fun _ _ => False) s₁) (fun _ _ => False) s)
    (n : Nat) (h : I n s) :
    codeAny (model prog w) A (.compLoop (.ListComp elt [⟨target, iter, ifs, 0⟩] scope pos) 0 it acc env) R s := by
  refine codeAny_loop rfl I (fun n s hI => ?_) n h
  show wpAny _ A ((compTurn (.ListComp elt [⟨target, iter, ifs, 0⟩] scope pos) 0 it acc env).onRaise (fun x => do noteFrame x env; theTreesLotGoes x)) _ _ s
  refine wpAny_noted (wpAny_noRaise ?_)
  rw [compTurn_list]
  refine wpAny_bind (wpAny_standAt (wpAny_bind (wpAny_mono (turn n s hI) (fun r s₁ h₁ => ?_) fun _ _ h' => h')))
  cases r with
  | none => exact wpAny_pure h₁
  | some v =>
    refine wpAny_bind (wpAny_mono h₁ (fun _ s₁' h₁' => ?_) fun _ _ h' => h')
    refine wpAny_bind (wpAny_mono h₁' (fun _ s₂ h₂ => wpAny_bind (wpAny_mono h₂ (fun ok s₃ h₃ => ?_) fun _ _ h' => h')) fun _ _ h' => h')
    cases ok with
    | false => exact wpAny_pure ⟨rfl, h₃⟩
    | true =>
      exact wpAny_bind (wpAny_bind (wpAny_mono h₃ (fun x s₄ h₄ => wpAny_bind (wpAny_mono h₄ (fun _ s₅ h₅ => wpAny_pure (wpAny_pure ⟨rfl, h₅⟩)) fun _ _ h' => h')) fun _ _ h' => h'))

theorem own_get {own capN : List Str} : ∀ (i : Nat) (x : Str), own.length ≤ i → (own ++ capN)[i]? = some x → capN[i - own.length]? = some x := fun i x hi e => by
  rw [List.getElem?_append_right hi] at e
  exact e

section
variable {X : Cx} {pins : List (Addr × Obj)} {σ : St} {H2 : Hp} {s2 : Shared} {scope : Scope} {cap : List Nat} {capN own : List Str}
variable {elt tg iter : Expr} {ifs : List Expr} {pos : Pos} {g : TG} {tc : TT} {te : TE} {Q : VK}
abbrev lobj (its : List Value) (nn : Nat) : Obj := { cls := .type "list", data := .seq its.toArray nn }

theorem comp_core {J : It} {fp : List Addr} {it : Addr} {tn : Nat → Heap → Prop} {E : Value → Shared → Prop} {RR : Value → Addr → Result → Shared → Prop}
    (O : CompOk X scope cap capN) (hc : X.calm = true)
    (hg : ∀ C s0 H0 ex, PG (compCx X scope (own ++ capN) C s0 H0 ex) tg g) (gk : GK own.length g) (ht : ∀ C s0 H0 ex, PIfs (compCx X scope (own ++ capN) C s0 H0 ex) ifs tc) (he : ∀ C s0 H0 ex, PE (compCx X scope (own ++ capN) C s0 H0 ex) elt te)
    (I2 : Inv X pins σ H2 s2) (T : Turn X.prog X.w X.K tg J fp it tn) (st2 : tn 0 s2.heap) (f2 : ∀ b ∈ fp, FpOk X pins H2 b) (hq : tCompR own.length cap g tc te σ J H2 Q)
    (fin : ∀ (D C : Addr) (s4 : Shared) (H4 : Hp) (ys : List V), Inv X pins σ (upd H4 D (.lst ys)) s4 → (∃ m, s4.heap.Ns C m) → FpOk X pins (upd H4 D (.lst ys)) C → Q (.ref D) (upd H4 D (.lst ys)) → RR (.ref D) C (.ok .next) s4) :
    wpAny (model X.prog X.w) X.A (newList []) (fun acc s₃ => wpAny (model X.prog X.w) X.A (newFunctionEnv scope X.env.globals (cloOf X.env scope.names []) [] X.env.qual none .none (some X.env)) (fun cenv s₄ =>
      codeAny (model X.prog X.w) X.A (.compStart (.ListComp elt [⟨tg, iter, ifs, 0⟩] scope pos) 0 (.ref it) acc { cenv with scope := relabel scope X.env }) (RR acc cenv.locals) s₄) E s₃) E s2 := by
  obtain ⟨W, ⟨m0, w0⟩, turn⟩ := hq
  refine wpAny_newObj_type (wpAny_newFunctionEnv O.nocell (by intro y hy; simp at hy) (fun h₁ hns₁ hsb₁ => ?_) O.kind)
  dsimp only at hns₁ hsb₁ ⊢
  generalize hHp : s2.heap.push { cls := .type "list", dict := none, data := .seq ([] : List Value).toArray } = Hp2 at hns₁ hsb₁ ⊢
  have hC : Hp2.objs.size = s2.heap.objs.size + 1 := by rw [← hHp, Heap.size_push]
  have hDC : s2.heap.objs.size ≠ Hp2.objs.size := by rw [hC]; exact Nat.ne_of_lt (Nat.lt_succ_self _)
  have hCle : s2.heap.objs.size ≤ Hp2.objs.size := by rw [hC]; exact Nat.le_succ _
  have below : ∀ b, b < s2.heap.objs.size → b ≠ Hp2.objs.size ∧ b ≠ s2.heap.objs.size := fun b hb => ⟨by rw [hC]; exact Nat.ne_of_lt (Nat.lt_succ_of_lt hb), Nat.ne_of_lt hb⟩
  have old : ∀ b o, s2.heap.get? b = some o → h₁.get? b = some o := fun b o e => hsb₁.extBut b o (below b (Heap.lt_size e)).1 (Heap.get?_push_of_some _ (hHp ▸ Heap.get?_push_of_some _ e))
  have hacc : h₁.get? s2.heap.objs.size = some (lobj [] 0) := hsb₁.extBut _ _ hDC (Heap.get?_push_of_some _ (hHp ▸ Heap.get?_push_size _ rfl))
  generalize hDe : s2.heap.objs.size = D at *
  generalize hCe : Hp2.objs.size = C at *
  have hfpl : ∀ b ∈ fp, b < s2.heap.objs.size := fun b hb => by
    obtain ⟨o, e, _⟩ := T.obj _ _ st2 b hb
    exact Heap.lt_size e
  have hex : ∀ b ∈ fp, FpOk X pins H2 b ∧ b < s2.heap.objs.size := fun b hb => ⟨f2 b hb, hfpl b hb⟩
  have hCle' : s2.heap.objs.size ≤ C := by rw [hDe]; exact hCle
  have hDle : s2.heap.objs.size ≤ D := by rw [hDe]; exact Nat.le_refl _
  have hDfp : ∀ b ∈ fp, D ≠ b := fun b hb z => by have := hfpl b hb; rw [← z] at this; exact absurd this (Nat.not_lt.mpr hDle)
  have I0 : ∀ tk, Inv (compCx X scope (own ++ capN) C s2 H2 fp) [] (compSt own.length cap σ) H2 { s2 with heap := h₁, toks := tk } := fun tk => comp_start I2 O (by simp) own_get hCle' hex old hns₁
  have Dst : D ∉ frs X.stack := not_stack I2 hDle
  have Dcell : ∀ x c, (compCx X scope (own ++ capN) C s2 H2 fp).env.cells.lookup x = some c → c ≠ D := fun x c e => not_cell I2 hDle x c (O.sub I2.ok x c e)
  have pinD : ∀ {σ' : St} {H' : Hp} {s' : Shared} {its : List Value} {nn : Nat}, Inv (compCx X scope (own ++ capN) C s2 H2 fp) [] σ' H' s' → s'.heap.get? D = some (lobj its nn) → H' D = none → Inv (compCx X scope (own ++ capN) C s2 H2 fp) [(D, lobj its nn)] σ' H' s' := fun {σ' H' s' its nn} I e hn =>
    I.pins_of fun p hp => by
      have z : p = (D, lobj its nn) := by simpa using hp
      subst z
      exact ⟨e, hn, hDC, Dst, fun v q => by cases q⟩
  have loop : ∀ s₃ : Shared, s₃ = { s2 with heap := h₁, toks := s2.toks + ([] : List (Str × Value)).length } →
      codeAny (model X.prog X.w) X.A (.compLoop (.ListComp elt [⟨tg, iter, ifs, 0⟩] scope pos) 0 (.ref it) (.ref D) (compEnvC scope (cloOf X.env scope.names []) C X.env)) (RR (.ref D) C) s₃ := by
    rintro s₃ rfl
    refine codeAny_compLoop_gen (fun k s' => ∃ (i : Nat) (ys : List V) (its : List Value) (nn : Nat) (H' : Hp), Inv (compCx X scope (own ++ capN) C s2 H2 fp) [(D, lobj its nn)] (compSt own.length cap σ) H' s' ∧ tn i s'.heap ∧ (∀ b ∈ fp, H' b = none) ∧ Vals ys its ∧ ys.length ≤ sizeLine ∧ W i k ys H') ?_ m0
      ⟨0, [], [], 0, H2, pinD (I0 _) hacc (I2.hok.fresh hDle), T.keep _ _ _ st2 (fun b hb o e => old b o e), fun b hb => (f2 b hb).1, .nil, Nat.zero_le _, w0⟩
    rintro k s3 ⟨i, ys, its, nn, H3, I3, st3, fr3, rv, hz, w3⟩
    have oD3 : s3.heap.get? D = some (lobj its nn) := (I3.pin (D, lobj its nn) (by simp)).1
    have fpY : ∀ {H' : Hp}, (∀ b ∈ fp, H' b = none) → ∀ b ∈ fp, FpOk (compCx X scope (own ++ capN) C s2 H2 fp) [(D, lobj its nn)] H' b := fun {H'} hn b hb => by
      obtain ⟨f0, f1, g2, f3, f4, f5⟩ := f2 b hb
      refine ⟨hn b hb, Nat.ne_of_lt (Nat.lt_of_lt_of_le (hfpl b hb) hCle'), fun z => ?_, .inl hb, fun x c e => f4 x c (O.sub I2.ok x c e), fun p hp => ?_⟩
      · rcases List.mem_cons.mp (I2.stkSub b z) with e | e
        · exact f1 e
        · exact g2 e
      · have z : p = (D, lobj its nn) := by simpa [compCx] using hp
        subst z
        exact hDfp b hb
    rcases turn i k ys H3 w3 with ⟨stop, qn⟩ | ⟨go, hlt, step⟩
    · refine thn (T.done (compCx X scope (own ++ capN) C s2 H2 fp) rfl rfl rfl hc i _ s3 _ H3 _ I3 (fpY fr3) st3 stop) fun r s4 ⟨hr, I4⟩ => ?_
      subst hr
      obtain ⟨oD, nD, _⟩ := I4.pin (D, lobj its nn) (by simp)
      have neD : ∀ {b : Addr} {u : HO}, H3 b = some u → b ≠ D := fun {b u} e => ne_of_none e nD
      have JX : Inv X pins σ (upd H3 D (.lst ys)) s4 := by
        refine I2.call' (ch := fp) I4.os ⟨I4.base.keep, I4.base.slot, fun b o e nb hx => ?_, I4.base.there, fun b xs e => ?_, fun b o u e => ?_, fun b ps e => ?_⟩ (fun b u e => ?_) I4.bare (fun b hb => ?_)
        · rw [upd_ne (by rw [← hDe]; exact Nat.ne_of_lt (Heap.lt_size e))]
          exact I4.base.free b o e nb hx
        · have q := I4.base.tups b xs e
          rw [upd_ne (neD q)]
          exact q
        · have q := I4.base.frzs b o u e
          rw [upd_ne (neD q)]
          exact q
        · obtain ⟨more, q⟩ := I4.base.tbls b ps e
          exact ⟨more, by rw [upd_ne (neD q)]; exact q⟩
        · by_cases hb : b = D
          · subst hb
            rw [upd_same] at e
            cases e
            exact ⟨hz, its, nn, rv, oD⟩
          · rw [upd_ne hb] at e
            exact (I4.hok b u e).stay (fun _ _ _ q => q) (fun c q => by rw [upd_ne (neD q)]; exact q) fun c xs q => by rw [upd_ne (neD q)]; exact q
        · obtain ⟨f0, f1, g2, f3, f4, f5⟩ := f2 b hb
          exact ⟨f3, f1, f4, f5⟩
      obtain ⟨m4, hn4, _⟩ := I4.loc
      refine fin D C s4 H3 ys JX ⟨m4, hn4⟩ ?_ (qn D nD)
      refine I2.fpOk (b := C) hCle' ?_
      rw [upd_ne (Ne.symm hDC)]
      exact I4.free
    · refine thn (T.item (compCx X scope (own ++ capN) C s2 H2 fp) rfl rfl rfl hc i _ s3 _ H3 _ I3 (fpY fr3) st3 go) fun r s4 ⟨u, hr, h4⟩ => ?_
      subst hr
      refine thn h4 fun _ s5 ⟨x, H5, I5, r5, y5, st5, fr5⟩ => ?_
      have I5' := I5.pinned (fpY fr5) (T.obj _ _ st5)
      refine thn (hg C s2 H2 fp _ s5 _ H5 x u _ I5' r5 (gk _ _ _ _ (step x H5 y5))) fun _ s6 ⟨σ6, H6, I6, ⟨l6, k6⟩, q6⟩ => ?_
      refine thn (ht C s2 H2 fp _ s6 σ6 H6 _ I6 q6) fun ok s7 ⟨H7, I7, q7⟩ => ?_
      -- what stands at a turn's end
      have wk : ∀ {H8 : Hp} {s8 : Shared} {pl : List (Addr × Obj)}, Inv (compCx X scope (own ++ capN) C s2 H2 fp) pl σ6 H8 s8 → Inv (compCx X scope (own ++ capN) C s2 H2 fp) pl (compSt own.length cap σ) H8 s8 := fun I => I.weak l6.symm fun j v e => by
        obtain ⟨hj, _⟩ := compSt_get e
        rw [k6 j hj]
        exact e
      have tn8 : ∀ {σ8 : St} {H8 : Hp} {s8 : Shared}, Inv (compCx X scope (own ++ capN) C s2 H2 fp) ([(D, lobj its nn)] ++ pinsAt fp s5.heap) σ8 H8 s8 → (∀ b ∈ fp, ∀ o, s5.heap.get? b = some o → s8.heap.get? b = some o) ∧ ∀ b ∈ fp, H8 b = none := fun {σ8 H8 s8} I => by
        refine ⟨fun b hb o e => (I.pin (b, o) (List.mem_append_right _ (List.mem_append_right _ (mem_pinsAt hb e)))).1, fun b hb => ?_⟩
        obtain ⟨o, e, d⟩ := T.obj _ _ st5 b hb
        exact (I.pin (b, o) (List.mem_append_right _ (List.mem_append_right _ (mem_pinsAt hb e)))).2.1
      cases ok with
      | false =>
        rw [if_neg Bool.false_ne_true] at q7 ⊢
        obtain ⟨m', hm, w7⟩ := q7
        obtain ⟨t1, t2⟩ := tn8 I7
        exact ⟨m', hm, i + 1, ys, its, nn, H7, wk I7.unpinned, T.keep _ _ _ st5 t1, t2, rv, hz, w7⟩
      | true =>
        rw [if_pos rfl] at q7 ⊢
        refine thn (he C s2 H2 fp _ s7 σ6 H7 _ I7 q7) fun y s8 ⟨yv, H8, I8, r8, m', hm, w8⟩ => ?_
        obtain ⟨t1, t2⟩ := tn8 I8
        obtain ⟨oD, nD, _⟩ := I8.pin (D, lobj its nn) (by simp)
        have hil := rv.length
        refine call_meets F.slot_list_append ⟨_, oD, rfl⟩ F.entry_list_append (F.args_list_append_2 _ _) (PySem.list_append D its.toArray nn y (by rw [List.size_toArray]; omega)) ⟨oD, ?_⟩
        have q := PySem.IsL.update oD (fun x_1 => x_1.push y)
        have hf : its.toArray.push y = (its ++ [y]).toArray := by simp
        rw [hf] at q
        have keepO : ∀ b o, b ≠ D → s8.heap.get? b = some o → (s8.heap.update D (Obj.mapSeq fun x_1 => x_1.push y)).get? b = some o := fun b o hb e => (Heap.get?_update_other s8.heap (Obj.mapSeq fun x_1 => x_1.push y) (Ne.symm hb)).trans e
        have I9 : Inv (compCx X scope (own ++ capN) C s2 H2 fp) [] σ6 H8 { s8 with heap := s8.heap.update D (Obj.mapSeq fun x_1 => x_1.push y), toks := s8.toks } :=
          (I8.pins_of (pins' := []) fun p hp => absurd hp (by simp)).turned (it := D) keepO nD hDC (.inr hDle) Dcell (fun p hp => absurd (show p ∈ ([] : List (Addr × Obj)) from hp) (by simp))
        refine ⟨m', hm, i + 1, ys ++ [yv], its ++ [y], _, H8, wk (pinD I9 q nD), T.keep _ _ _ st5 (fun b hb o e => keepO b o (Ne.symm (hDfp b hb)) (t1 b hb o e)), t2, rv.append (.cons r8 .nil), ?_, w8⟩
        rw [List.length_append, List.length_singleton]
        omega
  exact codeAny_compStart_list (loop _ rfl) (T.self _ 0 _ _ _ (T.keep _ _ _ st2 (fun b hb o e => old b o e)) (loop _ rfl))

/-- [elt for tg in iter if ..] -/
theorem pe_comp {wi : TI} (O : CompOk X scope cap capN) (hc : X.calm = true) (hi : PI X tg iter wi)
    (hg : ∀ C s0 H0 ex, PG (compCx X scope (own ++ capN) C s0 H0 ex) tg g) (gk : GK own.length g) (ht : ∀ C s0 H0 ex, PIfs (compCx X scope (own ++ capN) C s0 H0 ex) ifs tc) (he : ∀ C s0 H0 ex, PE (compCx X scope (own ++ capN) C s0 H0 ex) elt te)
    (hs : ∀ x, foldedSetIterable iter X.env x = pure x := by intro _; rfl) : PE X (.ListComp elt [⟨tg, iter, ifs, 0⟩] scope pos) (tComp own.length cap wi g tc te) := by
  intro pins s σ H Q I h
  rw [eval_ListComp]
  refine wpAny_comprehension_free (use := none) rfl hs (O.clos I.ok) O.kind O.names (thn (hi pins s σ H _ I h) fun v s1 h1 => thn h1 fun itv s2 h2 => ?_)
  obtain ⟨it, fp, tn, J, H2, e, I2, T, st2, f2, hq⟩ := h2
  subst e
  refine comp_core (RR := fun acc C => compPost (model X.prog X.w) X.A X.xe none (EP X pins σ Q) acc C) O hc hg gk ht he I2 T st2 f2 hq fun D C s4 H4 ys J4 hn4 fC q4 => ?_
  obtain ⟨m, hn⟩ := hn4
  obtain ⟨f0, f1, g2, f3, f4, f5⟩ := fC
  exact ⟨m, hn, fun h' sb => ⟨.ref D, _, J4.turned (t' := s4.toks) (fun b o hb e => (sb.2 b hb).trans e) f0 f1 f3 f4 f5, rfl, q4⟩⟩

/-- y = [elt for tg in iter if ..], the store ahead of the block's end -/
theorem ps_setC {wi : TI} {j : Nat} {y : Str} {py spos : Pos} (hN0 : X.N.Nodup) (hj : X.N[j]? = some y) (hy : Loc X.env.scope y) (O : CompOk X scope cap capN) (hc : X.calm = true) (hi : PI X tg iter wi)
    (hg : ∀ C s0 H0 ex, PG (compCx X scope (own ++ capN) C s0 H0 ex) tg g) (gk : GK own.length g) (ht : ∀ C s0 H0 ex, PIfs (compCx X scope (own ++ capN) C s0 H0 ex) ifs tc) (he : ∀ C s0 H0 ex, PE (compCx X scope (own ++ capN) C s0 H0 ex) elt te)
    (hsw : swapsWith (.ListComp elt [⟨tg, iter, ifs, 0⟩] scope pos) (some (.Name y py)) spos.line X.env = pure true := by rfl)
    (hs : ∀ x, foldedSetIterable iter X.env x = pure x := by intro _; rfl) (hf : X.fn y = true ∨ X.env.scope.names.lookup y = some .local := by first | exact .inl rfl | exact .inr rfl | assumption) :
    PS X (.Assign [.Name y py] (.ListComp elt [⟨tg, iter, ifs, 0⟩] scope pos) spos) (tAsg (tComp own.length cap wi g tc te) (gName j)) := by
  intro pins s σ H D0 I h
  rw [exec_Assign_Name_used _ _ _ _ hsw]
  refine wpAny_bind (wpAny_standAt (wpAny_bind ?_))
  show wpAny _ X.A (do let _ ← comprehension (.ListComp elt [⟨tg, iter, ifs, 0⟩] scope pos) scope X.env _ (newList []) false (eval iter X.env) (some (assign (.Name y py) X.env))) _ _ s
  refine wpAny_bind (wpAny_mono (wpAny_comprehension_free (use := some (assign (.Name y py) X.env)) (Q := fun _ s' => SP X pins D0 .next s') rfl hs (O.clos I.ok) O.kind O.names (thn (hi pins s σ H _ I h) fun v s1 h1 => thn h1 fun itv s2 h2 => ?_)) (fun _ s' hq => wpAny_pure (wpAny_pure hq)) fun _ _ e => e)
  obtain ⟨it, fp, tn, J, H2, e, I2, T, st2, f2, hq⟩ := h2
  subst e
  refine comp_core (RR := fun acc C => compPost (model X.prog X.w) X.A X.xe (some (assign (.Name y py) X.env)) (fun _ s' => SP X pins D0 .next s') acc C) O hc hg gk ht he I2 T st2 f2 hq fun D C s4 H4 ys J4 hn4 fC q4 => ?_
  obtain ⟨m, hn⟩ := hn4
  obtain ⟨f0, f1, g2, f3, f4, f5⟩ := fC
  show wpAny _ X.A (assign (.Name y py) X.env (.ref D)) _ _ _
  refine wpAny_assign_Name (store_ok2 J4 hN0 hj hy (v := .ref D) rfl (fun s5 I5 ⟨a, sba, ha⟩ => ?_) hf)
  have hCa : C ≠ a := by
    rcases ha with z | z
    · rw [z]; exact f1
    · exact Ne.symm (f4 _ _ z)
  refine ⟨m, hn.sameBut sba hCa, fun h' sb => ?_⟩
  exact ⟨_, _, I5.turned (t' := s5.toks) (fun b o hb e => (sb.2 b hb).trans e) f0 f1 f3 f4 f5, q4⟩
end
end L2
namespace L2
open PySem PySem.Spec PyProof.Rows

/-! ### a def of the text, all in one -/
structure Fn (P : Program) (w : World) (K : PySem.W.Frag) (mg : Str → Option Value) (base : Heap) (k : Nat) (x : Str) (ps : List Str) (sp : Sp) : Prop where
  ex : ∃ f fd, FnOk P w K mg base CX0 k f fd ps sp ∧ mg x = some (.ref f) ∧ PySem.W.keepIn K (.ref f) = true ∧ Binds K fd ps []
theorem Fn.mk' {P : Program} {w : World} {K : PySem.W.Frag} {mg : Str → Option Value} {base : Heap} {k : Nat} {x : Str} {ps : List Str} {sp : Sp} {f : Addr} {fd : FuncData}
    (G : FnOk P w K mg base CX0 k f fd ps sp) (m : mg x = some (.ref f)) (kp : PySem.W.keepIn K (.ref f) = true) (b : Binds K fd ps []) : Fn P w K mg base k x ps sp := ⟨f, fd, G, m, kp, b⟩
section
variable {X : Cx} {k : Nat} {x : Str} {p pos : Pos} {e : Expr} {es : List Expr} {ps : List Str} {sp : Sp} {t : TA}
theorem pe_fn (F : Fn X.prog X.w X.K X.mg X.base k x ps sp) (hr : Room k X.A) (ha : PA X (e :: es) t) (hg : Gl X x := by rfl) (hdb : (x == ("__debug__" : Str)) = false := by decide)
    (he : starEach (e :: es) X.env = (false, eval e X.env) :: starEach es X.env := by rfl) (hpl : (backTo pos (starEach es X.env)).any (·.1) = false := by rfl) :
    PE X (.Call (.Name x p) (e :: es) [] pos) (tCall sp [] E0 t) := by
  obtain ⟨f, fd, G, m, kp, b⟩ := F.ex
  exact pe_call G hr hg m kp b .nil pass0 ha hdb he hpl
end

/-! ### built-ins -/
section
variable {X : Cx} {x : Str} {p pos : Pos} {e : Expr} {es : List Expr} {t : TA} {id T : String} {r : List V → Hp → VK → Prop}
end
theorem boot_isinstance : bootBuiltins "isinstance" = some (.builtin "isinstance") := by decide +kernel
theorem boot_max : bootBuiltins "max" = some (.builtin "max") := by decide +kernel
theorem boot_int : bootBuiltins "int" = some (.type "int") := by decide +kernel
theorem boot_tuple : bootBuiltins "tuple" = some (.type "tuple") := by decide +kernel
theorem boot_list : bootBuiltins "list" = some (.type "list") := by decide +kernel
theorem boot_all' : bootBuiltins "all" = some (.builtin "all") := by decide +kernel

section
variable {X : Cx}
theorem call_all (hc : X.calm = true) : CallR X (.builtin "all") (fun xs H Q => ∃ (p : Addr) (bs : List Bool), xs = [.ref p] ∧ SqL X.K H p (bs.map V.bl) ∧ Q (.bl (bs.all id)) H) := by
  intro pins s σ H xs us Q I r h
  obtain ⟨p, bs, rfl, hq, q⟩ := h
  obtain ⟨u, rfl, rx⟩ := vals1 r
  cases rx
  obtain ⟨its, rv, pl, hz⟩ := I.list hq
  have hl := pl.isList
  have hlt : p < s.heap.objs.size := by obtain ⟨_, e, _⟩ := hl; exact Heap.lt_size e
  have hh := I.ok.hd hc
  have hlen : bs.length = its.length := by rw [← rv.length, List.length_map]
  refine call_all_walk (wpAny_pyIter_list hl ?_)
  refine ⟨s.heap.objs.size, [s.heap.objs.size, p], [s.heap.objs.size], its.toArray.size, _, _, fun i => (bs[i]?).getD true, rfl, Walks.list (A := X.A.in1) hh _ p (Nat.ne_of_lt hlt) its.toArray,
    ⟨⟨_, Heap.get?_push_size _ rfl, rfl, rfl⟩, hl.push _⟩, fun i v s' Q' E' hP hQ => ?_, fun h' tk hk => ?_⟩
  · have hv : its[i]? = some v := by simpa using hP
    have hi : i < bs.length := by rw [hlen]; exact (List.getElem?_eq_some_iff.mp hv).1
    obtain ⟨u, hu, ru⟩ := rv.get (i := i) (x := .bl bs[i]) (by rw [List.getElem?_map, List.getElem?_eq_getElem hi]; rfl)
    rw [hv] at hu
    cases hu
    cases ru
    have hQ' : Q' ((bs[i]?).getD true) s' := hQ
    rw [List.getElem?_eq_getElem hi] at hQ'
    exact wpAny_truthy_bool hQ'
  · have e : ((List.range its.toArray.size).all fun i => (bs[i]?).getD true) = bs.all id := by
      rw [List.size_toArray, ← hlen]; exact LSm.range_all bs
    rw [e]
    exact ⟨.bl _, H, I.kept (t' := tk) (LSm.kept_iter hk), rfl, q⟩
theorem call_isi : CallR X (.builtin "isinstance") (fun xs H Q => ∃ x T t b, xs = [x, .ty T] ∧ TyOf X.K H x t ∧ PySem.W.kitOne X.K t (.type T) = some b ∧ Q (.bl b) H) := by
  intro pins s σ H xs us Q I r h
  obtain ⟨x, T, t, b, rfl, ty, e, q⟩ := h
  obtain ⟨u, w', rfl, rx, ry⟩ := vals2 r
  cases (show w' = Value.type T from ry)
  exact isinst_ok I rx ty e fun tk => ⟨.bl b, H, I.tok tk, rfl, q⟩
end

/-! ### kinds -/
/-! ### heaps -/
theorem same_new {H : Hp} {p : Addr} (h : H p = none) (o : HO) : Same H (upd H p o) := fun b u q => by rw [upd_ne (ne_of_none q h)]; exact q
theorem same_tup {K : PySem.W.Frag} {H H' : Hp} {a : Addr} {xs : List V} (e : Same H H') (h : SqT K H a xs) : SqT K H' a xs := by
  rcases h with (h | ⟨o, h⟩) | h
  · exact .inl (.inl (e _ _ h))
  · exact .inl (.inr ⟨o, e _ _ h⟩)
  · exact .inr h
theorem same_ty {K : PySem.W.Frag} {H H' : Hp} {v : V} {n : Value} (e : Same H H') (h : TyOf K H v n) : TyOf K H' v n := by
  cases h with
  | non => exact .non
  | bl x => exact .bl x
  | int i => exact .int i
  | str x => exact .str x
  | flt x => exact .flt x
  | lst q => exact .lst (e _ _ q)
  | frz q => exact .frz (e _ _ q)
  | tup q => exact .tup (e _ _ q)
  | dK q => exact .dK (e _ _ q)
  | dT q => exact .dT (e _ _ q)
  | ins q cl ha hn htk hm => exact .ins (e _ _ q) cl ha hn htk hm
theorem size63 {n : Nat} (h : n ≤ 1000) : n ≤ sizeLine := Nat.le_of_lt (small1000 h)

/-! ### a comprehension without tests, its elements leave what was there -/
theorem comp_pure {J : It} {N n : Nat} {cap : List Nat} {te : TE} {σ : St} {H0 : Hp} {Q : VK} (x0 f : Nat → V) (hz : N ≤ 1000)
    (hgo : ∀ i H, i < N → Same H0 H → J.go i H) (hst : ∀ H, Same H0 H → J.stop N H) (hy : ∀ i H x H', i < N → Same H0 H → J.yld i H x H' → H' = H ∧ x = x0 i)
    (he : ∀ i H, i < N → Same H0 H → ∀ R : VK, (∀ H', Same H H' → R (f i) H') → te ((compSt n cap σ).set 0 (some (x0 i))) H R)
    (hq : ∀ p H, Same H0 H → H p = none → Q (.ref p) (upd H p (.lst ((List.range N).map f)))) : tCompR n cap (gName 0) tNoIf te σ J H0 Q := by
  refine ⟨fun i m ys H => m = N - i ∧ i ≤ N ∧ Same H0 H ∧ ys = (List.range i).map f, ⟨N, by simp, Nat.zero_le _, Same.refl _, rfl⟩, ?_⟩
  rintro i m ys H ⟨rfl, hi, sm, rfl⟩
  by_cases hlt : i < N
  · refine .inr ⟨hgo i H hlt sm, ?_, fun x H' y => ?_⟩
    · rw [List.length_map, List.length_range]
      exact small1000 (by omega)
    · obtain ⟨e1, e2⟩ := hy i H x H' hlt sm y
      subst e1 e2
      refine he i H' hlt sm _ fun H4 sm4 => ⟨N - (i + 1), by omega, rfl, hlt, sm.trans sm4, ?_⟩
      rw [List.range_succ, List.map_append]
      rfl
  · have e : i = N := by omega
    subst e
    exact .inl ⟨hst H sm, fun p hp => hq p H sm hp⟩
theorem comp_list {K : PySem.W.Frag} {a : Addr} {xs : List V} {n : Nat} {cap : List Nat} {te : TE} {σ : St} {H0 : Hp} {Q : VK} (f : Nat → V) (hz : xs.length ≤ 1000) (hl : SqL K H0 a xs)
    (he : ∀ i x H, xs[i]? = some x → Same H0 H → ∀ R : VK, (∀ H', Same H H' → R (f i) H') → te ((compSt n cap σ).set 0 (some x)) H R)
    (hq : ∀ p H, Same H0 H → H p = none → Q (.ref p) (upd H p (.lst ((List.range xs.length).map f)))) : tCompR n cap (gName 0) tNoIf te σ (Itl K a) H0 Q := by
  refine comp_pure (N := xs.length) (fun i => (xs[i]?).getD .non) f hz (fun i H hi sm => ⟨xs, xs[i], sm.seq hl, by simp [hi]⟩) (fun H sm => ⟨xs, sm.seq hl, Nat.le_refl _⟩) (fun i H x H' hi sm y => ⟨y.1, ?_⟩) (fun i H hi sm R k => ?_) hq
  · rw [y.2 xs (sm.seq hl)]
    rfl
  · have e : xs[i]? = some xs[i] := by simp [hi]
    rw [e]
    exact he i xs[i] H e sm R k
theorem comp_range {N n : Nat} {lo : Int} {cap : List Nat} {te : TE} {σ : St} {H0 : Hp} {Q : VK} (f : Nat → V) (hz : N ≤ 1000)
    (he : ∀ i H, i < N → Same H0 H → ∀ R : VK, (∀ H', Same H H' → R (f i) H') → te ((compSt n cap σ).set 0 (some (.int (lo + i)))) H R)
    (hq : ∀ p H, Same H0 H → H p = none → Q (.ref p) (upd H p (.lst ((List.range N).map f)))) : tCompR n cap (gName 0) tNoIf te σ (Itr lo N) H0 Q :=
  comp_pure (N := N) (fun i => .int (lo + i)) f hz (fun _ _ hi _ => hi) (fun _ _ => Nat.le_refl N) (fun _ _ _ _ _ _ y => y) he hq
end L2
namespace L2
open PySem PySem.Spec PyProof.Rows
/-! ### argument lists: no star, told once -/
def noStar : Expr → Bool
  | .Starred _ _ => false
  | _ => true
theorem star_cons {e : Expr} {es : List Expr} {env : Env} (h : noStar e = true) : starEach (e :: es) env = (false, eval e env) :: starEach es env := by
  cases e <;> first | rfl | cases h
theorem plain_back {env : Env} {pos : Pos} : ∀ {es : List Expr}, es.all noStar = true → (backTo pos (starEach es env)).any (·.1) = false
  | [], _ => rfl
  | e :: es, h => by
    rw [List.all_cons, Bool.and_eq_true] at h
    rw [star_cons h.1]
    show (false || (backTo pos (starEach es env)).any (·.1)) = false
    rw [Bool.false_or]
    exact plain_back h.2
section
variable {X : Cx} {x : Str} {p pos : Pos} {e : Expr} {es : List Expr} {te : TE} {t : TA} {id T : String} {r : List V → Hp → VK → Prop} {k : Nat} {ps : List Str} {sp : Sp}
theorem pa (ha : PE X e te) (hr : PA X es t) (hs : noStar e = true := by rfl) : PA X (e :: es) (tCons te t) := pa_cons ha hr (star_cons hs)
theorem pB (hc : CallR X (.builtin id) r) (hm : X.mg x = none) (hv : bootBuiltins x = some (.builtin id)) (ha : PA X (e :: es) t) (hg : Gl X x := by rfl) (hs : (e :: es).all noStar = true := by rfl) (hn : x ≠ "__name__" := by decide) (hdb : (x == ("__debug__" : Str)) = false := by decide) :
    PE X (.Call (.Name x p) (e :: es) [] pos) (tCB r t) := by
  rw [List.all_cons, Bool.and_eq_true] at hs
  exact pe_callB hc hg hm hv ha hn hdb (star_cons hs.1) (plain_back hs.2)
theorem pTy (hc : CallR X (.type T) r) (hm : X.mg x = none) (hv : bootBuiltins x = some (.type T)) (ha : PA X (e :: es) t) (hg : Gl X x := by rfl) (hs : (e :: es).all noStar = true := by rfl) (hn : x ≠ "__name__" := by decide) (hdb : (x == ("__debug__" : Str)) = false := by decide) :
    PE X (.Call (.Name x p) (e :: es) [] pos) (tCB r t) := by
  rw [List.all_cons, Bool.and_eq_true] at hs
  exact pe_callTy hc hg hm hv ha hn hdb (star_cons hs.1) (plain_back hs.2)
theorem pfn (F : Fn X.prog X.w X.K X.mg X.base k x ps sp) (hr : Room k X.A) (ha : PA X (e :: es) t) (hg : Gl X x := by rfl) (hs : (e :: es).all noStar = true := by rfl) (hdb : (x == ("__debug__" : Str)) = false := by decide) :
    PE X (.Call (.Name x p) (e :: es) [] pos) (tCall sp [] E0 t) := by
  rw [List.all_cons, Bool.and_eq_true] at hs
  exact pe_fn F hr ha hg hdb (star_cons hs.1) (plain_back hs.2)
end
end L2
namespace L2
open PySem PySem.Spec PyProof.Rows
/-! ### the judgements, closed up: nothing looks into them while a term of rules is read -/
structure QE (X : Cx) (e : Expr) (t : TE) : Prop where
  h : PE X e t
structure QT (X : Cx) (e : Expr) (t : TT) : Prop where
  h : PT X e t
structure QW (X : Cx) (e : Expr) (t : TT) : Prop where
  h : PW X e t
structure QA (X : Cx) (es : List Expr) (t : TA) : Prop where
  h : PA X es t
structure QS (X : Cx) (st : Stmt) (t : TS) : Prop where
  h : PS X st t
structure QB (X : Cx) (st : List Stmt) (t : TS) : Prop where
  h : PSs X st t
structure QG (X : Cx) (tg : Expr) (g : TG) : Prop where
  h : PG X tg g
structure QGs (X : Cx) (ts : List Expr) (g : TGs) : Prop where
  h : PGs X ts g
structure QI (X : Cx) (tg iter : Expr) (wi : TI) : Prop where
  h : PI X tg iter wi
structure QIf (X : Cx) (ifs : List Expr) (t : TT) : Prop where
  h : PIfs X ifs t
structure QO (X : Cx) (e : Option Expr) (t : TO) : Prop where
  h : PO X e t
structure QOp (X : Cx) (f : Value → Value → Sem Value) (r : R2) : Prop where
  h : OpR X f r
structure QCall (X : Cx) (f : Value) (r : List V → Hp → VK → Prop) : Prop where
  h : CallR X f r
structure QIx (X : Cx) (r : R2) : Prop where
  h : IxR X r
structure QSl (X : Cx) (r : V → Option Int → Option Int → Hp → VK → Prop) : Prop where
  h : SlR X r
structure QSet (X : Cx) (t : TSet) : Prop where
  h : PSet X t
structure QUn (X : Cx) (f : Value → Sem Value) (r : V → Hp → VK → Prop) : Prop where
  h : UnR X f r
structure QIp (X : Cx) (op : Operator) (t : TIp) : Prop where
  h : PIp X op t
section
variable {X : Cx} {pos p : Pos} {e a b c o : Expr} {es rest : List Expr} {te ta tb tc : TE} {t : TA} {tA tB' : TT} {x : Str}
theorem q_v (i : Nat) {x : Str} {pos : Pos} (hN : X.N[i]? = some x := by rfl) (hv : Vis X.env.scope x := by first | exact Or.inl rfl | exact Or.inr (Or.inl rfl) | exact Or.inr (Or.inr rfl)) (hd : (x == ("__debug__" : Str)) = false := by decide)
    (hcd : (x == ("__classdict__" : Str)) = false := by decide) : QE X (.Name x pos) (tVar i) := ⟨pe_var hN hv hd hcd⟩
theorem q_int {i : Int} {j : Nat} : QE X (.Constant (.int i) j pos) (tC (.int i)) := ⟨pe_int⟩
theorem q_bl {i : Bool} {j : Nat} : QE X (.Constant (.bool i) j pos) (tC (.bl i)) := ⟨pe_bl⟩
theorem q_non {j : Nat} : QE X (.Constant .none j pos) (tC .non) := ⟨pe_non⟩
theorem q_str {i : Str} {j : Nat} : QE X (.Constant (.str i) j pos) (tC (.str i)) := ⟨pe_str⟩
theorem q_bt {T : String} (hm : X.mg x = none) (hv : bootBuiltins x = some (.type T)) (hg : Gl X x := by rfl) (hn : x ≠ "__name__" := by decide) (hd : (x == ("__debug__" : Str)) = false := by decide) : QE X (.Name x pos) (tC (.ty T)) := ⟨pe_bltn hg hm hv rfl hn hd⟩
theorem q_op {op : Operator} {r : R2} (ho : QOp X (binaryOp op) r) (ha : QE X a ta) (hb : QE X b tb) : QE X (.BinOp a op b pos) (tOp r ta tb) := ⟨pe_op ho.h ha.h hb.h⟩
theorem q_one {op} (h : QE X a ta) : QE X (.BoolOp op [a] pos) ta := ⟨pe_one h.h⟩
theorem q_and (ha : QE X a ta) (hb : QE X (.BoolOp .And (b :: rest) pos) tb) : QE X (.BoolOp .And (a :: b :: rest) pos) (tAndV ta tb) := ⟨pe_and ha.h hb.h⟩
theorem q_cmp {op : CmpOp} {r : R2} (ho : QOp X (compareOp op) r) (ha : QE X a ta) (hb : QE X b tb) (hm : behindInMarks op b = false := by first | exact nomark _ | with_unfolding_all rfl) : QE X (.Compare a [op] [b] pos) (tOp r ta tb) := ⟨pe_cmpR ho.h ha.h hb.h hm⟩
theorem q_if (hc : QT X c tA) (ha : QE X a ta) (hb : QE X b tb) : QE X (.IfExp c a b pos) (tIf tA ta tb) := ⟨pe_ifExp hc.h ha.h hb.h⟩
theorem q_lst (h : QA X es t) : QE X (.List es pos) (tLst t) := ⟨pe_lst h.h⟩
theorem q_tup {x1} (h : QA X es t) : QE X (.Tuple es x1 pos) (tTup t) := ⟨pe_tup h.h⟩
theorem q_ix {r : R2} (hr : QIx X r) (ha : QE X a ta) (hb : QE X b tb) (hs : PlainIx b := by intro _ _; rfl) : QE X (.Subscript a b pos) (tOp r ta tb) := ⟨pe_ix hr.h ha.h hb.h hs⟩
theorem q_sl {r : V → Option Int → Option Int → Hp → VK → Prop} {lo hi : Option Expr} {tl th : TO} {p2 : Pos} (hr : QSl X r) (he : QE X e te) (hl : QO X lo tl) (hu : QO X hi th) : QE X (.Subscript e (.Slice lo hi none p2) pos) (tSl r te tl th) := ⟨pe_slice hr.h he.h hl.h hu.h⟩
theorem q_o1 (h : QE X e te) : QO X (some e) (tPart te) := ⟨po_some h.h⟩
theorem q_a0 : QA X [] tNil := ⟨pa_nil⟩
theorem q_a (ha : QE X e te) (hr : QA X es t) (hs : noStar e = true := by rfl) : QA X (e :: es) (tCons te t) := ⟨pa ha.h hr.h hs⟩
theorem q_B {id : String} {r : List V → Hp → VK → Prop} (hc : QCall X (.builtin id) r) (hm : X.mg x = none) (hv : bootBuiltins x = some (.builtin id)) (ha : QA X (e :: es) t) (hg : Gl X x := by rfl) (hs : (e :: es).all noStar = true := by rfl) (hn : x ≠ "__name__" := by decide) (hdb : (x == ("__debug__" : Str)) = false := by decide) :
    QE X (.Call (.Name x p) (e :: es) [] pos) (tCB r t) := ⟨pB hc.h hm hv ha.h hg hs hn hdb⟩
theorem q_Ty {T : String} {r : List V → Hp → VK → Prop} (hc : QCall X (.type T) r) (hm : X.mg x = none) (hv : bootBuiltins x = some (.type T)) (ha : QA X (e :: es) t) (hg : Gl X x := by rfl) (hs : (e :: es).all noStar = true := by rfl) (hn : x ≠ "__name__" := by decide) (hdb : (x == ("__debug__" : Str)) = false := by decide) :
    QE X (.Call (.Name x p) (e :: es) [] pos) (tCB r t) := ⟨pTy hc.h hm hv ha.h hg hs hn hdb⟩
theorem q_fn {k : Nat} {ps : List Str} {sp : Sp} (F : Fn X.prog X.w X.K X.mg X.base k x ps sp) (hr : Room k X.A) (ha : QA X (e :: es) t) (hg : Gl X x := by rfl) (hs : (e :: es).all noStar = true := by rfl) (hdb : (x == ("__debug__" : Str)) = false := by decide) :
    QE X (.Call (.Name x p) (e :: es) [] pos) (tCall sp [] E0 t) := ⟨pfn F hr ha.h hg hs hdb⟩
/-! tests -/
theorem t_cmp {op : CmpOp} {r : R2} (ho : QOp X (compareOp op) r) (ha : QE X a ta) (hb : QE X b tb) (hm : behindInMarks op b = false := by first | exact nomark _ | with_unfolding_all rfl) : QT X (.Compare a [op] [b] pos) (tTest (tOp r ta tb)) := ⟨pt_cmpR ho.h ha.h hb.h hm⟩
theorem t_val (h : QE X e te) (he : ∀ whole, isTrue e X.env whole = (do let v ← whole; standAt e.pos; holding [v] (truthy v)) := by intro _; rfl) : QT X e (tB te) := ⟨pt_val h.h he⟩
theorem w_and1 (ha : QT X a tA) : QW X (.BoolOp .And [a] pos) tA := ⟨pw_and1 ha.h⟩
theorem w_and (ha : QT X a tA) (hb : QW X (.BoolOp .And (b :: rest) pos) tB') : QW X (.BoolOp .And (a :: b :: rest) pos) (tAnd tA tB') := ⟨pw_and ha.h hb.h⟩
theorem t_w (h : QW X e tA) : QT X e tA := ⟨h.h.pt⟩
end
section
variable {X : Cx} {pos : Pos} {tg iter elt : Expr} {ifs : List Expr} {g : TG} {gs : TGs} {tc : TT} {te : TE} {scope : Scope} {cap : List Nat} {capN own : List Str} {wi : TI}
/-! targets, what is walked -/
theorem g_name {i : Nat} {x : Str} (hN : X.N.Nodup) (hi : X.N[i]? = some x := by rfl) (hx : Loc X.env.scope x := by first | exact Or.inl rfl | exact Or.inr rfl) (hf : X.fn x = true ∨ X.env.scope.names.lookup x = some .local := by first | exact .inl rfl | exact .inr rfl) : QG X (.Name x pos) (gName i) := ⟨pg_name hN hi hx hf⟩
theorem gs_0 : QGs X [] gNil := ⟨pgs_nil⟩
theorem gs_1 {e : Expr} {es : List Expr} (h1 : QG X e g) (h2 : QGs X es gs) (hs : (assignEach (e :: es) X.env).map (·.2) = assign e X.env :: (assignEach es X.env).map (·.2) := by rfl) : QGs X (e :: es) (gCons g gs) := ⟨pgs_cons h1.h h2.h hs⟩
theorem g_tup {es : List Expr} {k n : Nat} (hc : X.calm = true) (h : QGs X es gs) (hn : (assignEach es X.env).length = n := by rfl) (hst : (assignEach es X.env).findIdx? (·.1) = none := by rfl) : QG X (.Tuple es k pos) (gTup X.K n gs) := ⟨pg_tup hc h.h hn hst⟩
theorem g_sub {o i : Expr} {to ti : TE} {t : TSet} (ho : QE X o to) (hi : QE X i ti) (hs : QSet X t)
    (ha : ∀ v, assign (.Subscript o i pos) X.env v = (do
      let ov ← holding [v] (eval o X.env)
      let iv ← holding [v, ov] (eval i X.env)
      standAt pos
      holding [v, ov, iv] (setItem ov iv v)
      release [v, ov, iv] []) := by intro _; rfl) : QG X (.Subscript o i pos) (gSub to ti t) := ⟨pg_sub ho.h hi.h hs.h ha⟩
theorem i_list {l : Expr} (hl : QE X l te) : QI X tg l (iList X.K te) := ⟨pi_list hl.h⟩
theorem i_rng1 {a : Expr} {ta : TA} {p : Pos} (hm : X.mg "range" = none) (ha : QA X [a] ta) (hg : Gl X "range" := by rfl) (hs : noStar a = true := by rfl) : QI X tg (.Call (.Name "range" p) [a] [] pos) (iRng1 ta) := ⟨pi_range1 hg hm ha.h (star_cons hs)⟩
theorem if_0 : QIf X [] tNoIf := ⟨pifs_nil⟩
theorem if_1 {c : Expr} {t : TT} (h : QT X c t) : QIf X [c] t := ⟨pifs_one h.h⟩
theorem q_comp (O : CompOk X scope cap capN) (hc : X.calm = true) (hi : QI X tg iter wi) (hg : ∀ C s0 H0 ex, QG (compCx X scope (own ++ capN) C s0 H0 ex) tg g) (gk : GK own.length g) (ht : ∀ C s0 H0 ex, QIf (compCx X scope (own ++ capN) C s0 H0 ex) ifs tc)
    (he : ∀ C s0 H0 ex, QE (compCx X scope (own ++ capN) C s0 H0 ex) elt te) (hs : ∀ x, foldedSetIterable iter X.env x = pure x := by intro _; rfl) : QE X (.ListComp elt [⟨tg, iter, ifs, 0⟩] scope pos) (tComp own.length cap wi g tc te) :=
  ⟨pe_comp O hc hi.h (fun C s0 H0 ex => (hg C s0 H0 ex).h) gk (fun C s0 H0 ex => (ht C s0 H0 ex).h) (fun C s0 H0 ex => (he C s0 H0 ex).h) hs⟩
/-! statements -/
variable {st : Stmt} {rest : List Stmt} {t u : TS} {e c : Expr}
theorem b_0 : QB X [] tNext := ⟨pss_nil⟩
theorem b_1 (h : QS X st t) : QB X [st] t := ⟨pss_one h.h⟩
theorem b_c (h1 : QS X st t) (h2 : QB X rest u) : QB X (st :: rest) (tSeq t u) := ⟨pss_cons h1.h h2.h⟩
theorem s_ret (h : QE X e te) : QS X (.Return (some e) pos) (tRet te) := ⟨ps_ret h.h⟩
theorem s_expr (h : QE X e te) (hs : swapsWith e none pos.line X.env = pure false := by rfl) : QS X (.Expr e pos) (tDrop te) := ⟨ps_expr h.h hs⟩
theorem s_if {body els : List Stmt} (hc : QT X c tc) (ht : QB X body t) (hu : QB X els u) : QS X (.If c body els pos) (tIfS tc t u) := ⟨ps_if hc.h ht.h hu.h⟩
theorem s_set {i : Nat} {x : Str} {pos' : Pos} (hN : X.N.Nodup) (he : QE X e te) (hi : X.N[i]? = some x := by rfl) (hx : Loc X.env.scope x := by first | exact Or.inl rfl | exact Or.inr rfl) (hs : swapsWith e (some (.Name x pos')) pos.line X.env = pure false := by rfl)
    (hf : X.fn x = true ∨ X.env.scope.names.lookup x = some .local := by first | exact .inl rfl | exact .inr rfl) : QS X (.Assign [.Name x pos'] e pos) (tAsg te (gName i)) := ⟨ps_set hN hi hx he.h hs hf⟩
theorem s_setC {j : Nat} {y : Str} {py spos : Pos} (hN0 : X.N.Nodup) (O : CompOk X scope cap capN) (hc : X.calm = true) (hi : QI X tg iter wi)
    (hg : ∀ C s0 H0 ex, QG (compCx X scope (own ++ capN) C s0 H0 ex) tg g) (gk : GK own.length g) (ht : ∀ C s0 H0 ex, QIf (compCx X scope (own ++ capN) C s0 H0 ex) ifs tc) (he : ∀ C s0 H0 ex, QE (compCx X scope (own ++ capN) C s0 H0 ex) elt te)
    (hj : X.N[j]? = some y := by rfl) (hy : Loc X.env.scope y := by first | exact Or.inl rfl | exact Or.inr rfl) (hsw : swapsWith (.ListComp elt [⟨tg, iter, ifs, 0⟩] scope pos) (some (.Name y py)) spos.line X.env = pure true := by rfl)
    (hs : ∀ x, foldedSetIterable iter X.env x = pure x := by intro _; rfl) (hf : X.fn y = true ∨ X.env.scope.names.lookup y = some .local := by first | exact .inl rfl | exact .inr rfl) :
    QS X (.Assign [.Name y py] (.ListComp elt [⟨tg, iter, ifs, 0⟩] scope pos) spos) (tAsg (tComp own.length cap wi g tc te) (gName j)) :=
  ⟨ps_setC hN0 hj hy O hc hi.h (fun C s0 H0 ex => (hg C s0 H0 ex).h) gk (fun C s0 H0 ex => (ht C s0 H0 ex).h) (fun C s0 H0 ex => (he C s0 H0 ex).h) hsw hs hf⟩
theorem s_asg (he : QE X e te) (hg : QG X tg g) (hs : swapsWithSole [tg] e pos.line X.env = pure false := by rfl) (hw : swappedStores [tg] e X.env = pure none := by rfl) (h1 : (assignEach [tg] X.env).map (·.2) = [assign tg X.env] := by rfl) : QS X (.Assign [tg] e pos) (tAsg te g) := ⟨ps_asg he.h hg.h hs hw h1⟩
theorem s_for {body : List Stmt} (hp : PassesOwn (model X.prog X.w) X.A X.env X.xe) (hc : X.calm = true) (hi : QI X tg iter wi) (hg : QG X tg g) (hb : QB X body t) (hs : ∀ x, foldedSetIterable iter X.env x = pure x := by intro _; rfl) : QS X (.For tg iter body [] pos) (tFor wi g t) := ⟨ps_for hp hc hi.h hg.h hb.h hs⟩
theorem s_while {body : List Stmt} (hp : PassesOwn (model X.prog X.w) X.A X.env X.xe) (hc : QT X c tc) (hb : QB X body t) : QS X (.While c body [] pos) (tWhile tc t) := ⟨ps_while hp hc.h hb.h⟩
end
theorem Fun.okQ {P : Program} {w : World} {K : PySem.W.Frag} {mg : Str → Option Value} {base : Heap} {x qual : Str} {st : Stmt} {f : Addr} {fd : FuncData} {N ps : List Str} {k : Nat} {sp : Sp} (F : Fun K x qual st f fd) (S : FnScope N ps (defScope st)) (len : ∀ vs H Q E, sp vs H Q E → vs.length = ps.length)
    (hbody : ∀ (cdv : Value) (A : Around) (outer : List Env) (s : Shared) (H : Hp) (vs : List V) (Q : VK) (E : XK), Room k (A.deeper (envOfC qual (defScope st) s.heap.objs.size f cdv)) → sp vs H Q E →
      ∃ t, QB (cxOf CX0 P w K mg base N qual (defScope st) f cdv A outer s H E).nox (defBody st) t ∧ t { nx := fun _ H' => Q .non H', rt := Q } (start N vs) H) : FnOk P w K mg base CX0 (k + 1) f fd ps sp :=
  F.ok S len fun cdv A outer s H vs Q E hr hsp => let ⟨t, h, q⟩ := hbody cdv A outer s H vs Q E hr hsp; ⟨t, h.h, q⟩
/-! the operations -/
section
variable {X : Cx}
theorem o_add : QOp X (binaryOp .Add) (rI0 fun i j => .int (i + j)) := ⟨op_add⟩
theorem o_sub : QOp X (binaryOp .Sub) (rI0 fun i j => .int (i - j)) := ⟨op_sub⟩
theorem o_mul : QOp X (binaryOp .Mult) (rI CMul fun i j => .int (i * j)) := ⟨op_mul⟩
theorem o_fdiv : QOp X (binaryOp .FloorDiv) (rI CDiv fun i j => .int (i / j)) := ⟨op_fdiv⟩
theorem o_mod : QOp X (binaryOp .Mod) (rI (fun _ j => 0 < j) fun i j => .int (i % j)) := ⟨op_mod⟩
theorem o_eq : QOp X (compareOp .Eq) rEq := ⟨op_eq⟩
theorem o_ne : QOp X (compareOp .NotEq) rNe := ⟨op_ne⟩
theorem o_lt : QOp X (compareOp .Lt) (rI0 fun i j => .bl (decide (i < j))) := ⟨op_lt⟩
theorem o_le : QOp X (compareOp .LtE) (rI0 fun i j => .bl (decide (i ≤ j))) := ⟨op_le⟩
theorem o_gt : QOp X (compareOp .Gt) (rI0 fun i j => .bl (decide (j < i))) := ⟨op_gt⟩
theorem x_list : QIx X (rIxL X.K) := ⟨ix_list⟩
theorem x_tup : QIx X (rIxT X.K) := ⟨ix_tup⟩
theorem l_list : QSl X (rSlL X.K) := ⟨sl_list⟩
theorem set_l : QSet X rSetL := ⟨set_list⟩
theorem c_len : QCall X (.builtin "len") (fun xs H Q => ∃ p ys, xs = [.ref p] ∧ (SqL X.K H p ys ∨ SqT X.K H p ys) ∧ Q (.int ys.length) H) := ⟨call_len_seq⟩
theorem c_isi : QCall X (.builtin "isinstance") (fun xs H Q => ∃ x T t b, xs = [x, .ty T] ∧ TyOf X.K H x t ∧ PySem.W.kitOne X.K t (.type T) = some b ∧ Q (.bl b) H) := ⟨call_isi⟩
theorem c_all (hc : X.calm = true) : QCall X (.builtin "all") (fun xs H Q => ∃ (p : Addr) (bs : List Bool), xs = [.ref p] ∧ SqL X.K H p (bs.map V.bl) ∧ Q (.bl (bs.all id)) H) := ⟨call_all hc⟩
theorem c_max (hc : X.calm = true) : QCall X (.builtin "max") (fun xs H Q => ∃ i j, xs = [.int i, .int j] ∧ Q (.int (if j > i then j else i)) H) := ⟨call_max2 hc⟩
theorem c_tup : QCall X (.type "tuple") (fun xs H Q => ∃ p ys, xs = [.ref p] ∧ ((SqL X.K H p ys ∧ ∀ l, H l = none → Q (.ref l) (upd H l (.tup ys))) ∨ (SqT X.K H p ys ∧ Q (.ref p) H))) := ⟨call_tuple_of⟩
theorem c_list : QCall X (.type "list") (fun xs H Q => ∃ p ys, xs = [.ref p] ∧ (SqL X.K H p ys ∨ SqT X.K H p ys) ∧ ∀ l, H l = none → Q (.ref l) (upd H l (.lst ys))) := ⟨call_list_of⟩
theorem c_int : QCall X (.type "int") (fun xs H Q => (∃ i, xs = [.int i] ∧ Q (.int i) H) ∨ ∃ k, xs = [.bl k] ∧ Q (.int (if k then 1 else 0)) H) := ⟨call_int1⟩
end
end L2
namespace L2
open PySem PySem.Spec PyProof.Rows
/-! ### data: what a value is, lists and tuples within one another -/
mutual
def Dt (H : Hp) : PyData → V → Prop
  | .none, v => v = .non
  | .bool b, v => v = .bl b
  | .int i, v => v = .int i
  | .str x, v => v = .str x
  | .list ds, v => ∃ a xs, v = .ref a ∧ Rd H a (.lst xs) ∧ DtAll H ds xs
  | .tuple ds, v => ∃ a xs, v = .ref a ∧ Rd H a (.tup xs) ∧ DtAll H ds xs
  | .dict _, _ => False
def DtAll (H : Hp) : List PyData → List V → Prop
  | [], xs => xs = []
  | d :: ds, xs => ∃ y ys, xs = y :: ys ∧ Dt H d y ∧ DtAll H ds ys
end
section
variable {P : Program} {w : World} {H : Hp} {h : Heap}
mutual
theorem Dt.reads (ok : HOk P w H h) : ∀ (d : PyData) (x : V) (v : Value), Dt H d x → RelV x v → ∃ as, Reads h v d as
  | .none, x, v, e, r => by
    have e' : x = .non := by simpa only [Dt] using e
    subst e'
    cases r
    exact ⟨_, .none⟩
  | .bool b, x, v, e, r => by
    have e' : x = .bl b := by simpa only [Dt] using e
    subst e'
    cases r
    exact ⟨_, .bool b⟩
  | .int i, x, v, e, r => by
    have e' : x = .int i := by simpa only [Dt] using e
    subst e'
    obtain ⟨t, rfl⟩ := r
    exact ⟨_, .int i t⟩
  | .str z, x, v, e, r => by
    have e' : x = .str z := by simpa only [Dt] using e
    subst e'
    obtain ⟨t, rfl⟩ := r
    exact ⟨_, .str z t⟩
  | .list ds, x, v, e, r => by
    have e' : ∃ a xs, x = .ref a ∧ Rd H a (.lst xs) ∧ DtAll H ds xs := by simpa only [Dt] using e
    obtain ⟨a, xs, rfl, hr, hd⟩ := e'
    cases r
    obtain ⟨_, its, n, rv, eo⟩ := hr.ok ok
    obtain ⟨as, q⟩ := DtAll.reads ok ds xs its hd rv
    exact ⟨_, .list eo rfl rfl (by simpa using q)⟩
  | .tuple ds, x, v, e, r => by
    have e' : ∃ a xs, x = .ref a ∧ Rd H a (.tup xs) ∧ DtAll H ds xs := by simpa only [Dt] using e
    obtain ⟨a, xs, rfl, hr, hd⟩ := e'
    cases r
    obtain ⟨_, its, rv, o, eo, hc, n, hs⟩ := hr.ok ok
    obtain ⟨as, q⟩ := DtAll.reads ok ds xs its hd rv
    exact ⟨_, .tuple eo hc hs (by simpa using q)⟩
  | .dict kvs, x, v, e, r => by
    have e' : False := by simpa only [Dt] using e
    exact e'.elim
theorem DtAll.reads (ok : HOk P w H h) : ∀ (ds : List PyData) (xs : List V) (vs : List Value), DtAll H ds xs → Vals xs vs → ∃ as, ReadsAll h vs ds as
  | [], xs, vs, e, r => by
    have e' : xs = [] := by simpa only [DtAll] using e
    subst e'
    cases r
    exact ⟨_, .nil⟩
  | d :: ds, xs, vs, e, r => by
    have e' : ∃ y ys, xs = y :: ys ∧ Dt H d y ∧ DtAll H ds ys := by simpa only [DtAll] using e
    obtain ⟨y, ys, rfl, h1, h2⟩ := e'
    cases r with
    | cons r1 r2 =>
      obtain ⟨as, q1⟩ := Dt.reads ok d y _ h1 r1
      obtain ⟨bs, q2⟩ := DtAll.reads ok ds ys _ h2 r2
      exact ⟨_, .cons q1 q2⟩
end
end
theorem dt_ints {H : Hp} : ∀ (ns : List Int), DtAll H (ns.map PyData.int) (ns.map V.int)
  | [] => by simp only [List.map_nil, DtAll]
  | n :: ns => by
    simp only [List.map_cons, DtAll]
    exact ⟨_, _, rfl, by simp only [Dt], dt_ints ns⟩
section
variable {X : Cx}
def rEqD : R2 := fun x y H Q => ∃ dx dy, Dt H dx x ∧ Dt H dy y ∧ SeqAt.shaped dx = true ∧ SeqAt.shaped dy = true ∧ Q (.bl (PyData.eqv dx dy)) H
theorem op_eqD (hu : X.A.units + 64 < cLine) : OpR X (compareOp .Eq) rEqD := by
  intro pins s σ H x y v u Q I rx ry h
  obtain ⟨dx, dy, h1, h2, s1, s2, q⟩ := h
  obtain ⟨as, r1⟩ := Dt.reads I.hok dx x v h1 rx
  obtain ⟨bs, r2⟩ := Dt.reads I.hok dy y u h2 ry
  exact eq_dataH r1 r2 s1 s2 hu ⟨.bl _, H, I, rfl, q⟩
theorem o_eqD (hu : X.A.units + 64 < cLine) : QOp X (compareOp .Eq) rEqD := ⟨op_eqD hu⟩
end

/-! ### a dict and a tuple are not equal -/
section
variable {X : Cx}
/-! ### xs.append(e) -/
variable {o e : Expr} {to te : TE} {apos cpos : Pos}
theorem q_app (ho : QE X o to) (he : QE X e te) (hs : noStar e = true := by rfl) (hbase : attributeBase o "append" X.env (eval o X.env) = eval o X.env := by rfl) (hline : (apos.endLine == cpos.line) = true := by rfl) :
    QE X (.Call (.Attribute o "append" apos) [e] [] cpos) (tBM X.K "list" rAppend to (tCons te tNil)) := by
  have h1 := star_cons (es := []) (env := X.env) hs
  have h2 : starEach ([] : List Expr) X.env = [] := rfl
  refine ⟨pe_bm PySem.F.plainAttrs_list PySem.F.slot_list_append PySem.F.type_list_append mt_append ho.h (pa he.h pa_nil hs) hbase ?_ hline h1 (by rw [h2]; rfl)⟩
  rw [h1, h2]
  rfl
end
end L2
namespace L2
open PySem PySem.Spec PyProof.Rows
/-! ### tests of ints, told by their ints -/
theorem iteI {i j : Int} {A B : Prop} (h1 : i = j → A) (h2 : i ≠ j → B) : if decide (V.int i = V.int j) = true then A else B := by
  by_cases h : i = j
  · rw [if_pos (decide_eq_true (by rw [h]))]
    exact h1 h
  · rw [if_neg (by rw [decide_eq_false (fun z => h (by injection z))]; exact Bool.false_ne_true)]
    exact h2 h
theorem same_write {H H' : Hp} {p : Addr} {o : HO} (e : Same H H') (h : H p = none) : Same H (upd H' p o) := fun b u q => by
  rw [upd_ne (ne_of_none q h)]
  exact e _ _ q
/-- a cell of the script -/
def cellZ (ns : List Int) (k : Nat) : Int := (ns[k]?).getD 0
theorem atI_cell {ns : List Int} {k : Int} (h0 : 0 ≤ k) (h1 : k < ns.length) : atI (ns.map V.int) k = some (.int (cellZ ns k.toNat)) := by
  have hk : k.toNat < ns.length := by omega
  have ek : k = ((k.toNat : Nat) : Int) := by omega
  have q : atI (ns.map V.int) ((k.toNat : Nat) : Int) = some (.int ns[k.toNat]) := atI_nat (by rw [List.getElem?_map, List.getElem?_eq_getElem hk] <;> rfl)
  rw [← ek] at q
  rw [q]
  unfold cellZ
  rw [List.getElem?_eq_getElem hk]
  rfl
theorem cell_out {ns : List Int} {k : Int} (h0 : 0 ≤ k) (h1 : ¬ k < ns.length) : cellZ ns k.toNat = 0 := by
  unfold cellZ
  rw [List.getElem?_eq_none (by omega)]
  rfl
/-- any thing as it may be asked: its kind is known, and those of a tuple's items -/
def Asked (K : PySem.W.Frag) (H : Hp) (v : V) : Prop :=
  (∃ n, TyOf K H v (.type n)) ∧ ∀ a xs, v = .ref a → H a = some (.tup xs) → xs.length ≤ 1000 ∧ ∀ x ∈ xs, ∃ m, TyOf K H x (.type m)
theorem Asked.same {K : PySem.W.Frag} {H H' : Hp} {v : V} (h : Asked K H v) (e : Same H H') : Asked K H' v := by
  obtain ⟨⟨n, ty⟩, h2⟩ := h
  refine ⟨⟨n, same_ty e ty⟩, fun a xs hv hx => ?_⟩
  subst hv
  have q : H a = some (.tup xs) := by
    cases ty with
    | lst q => rw [e _ _ q] at hx; cases hx
    | frz q => rw [e _ _ q] at hx; cases hx
    | tup q => rw [e _ _ q] at hx; cases hx; exact q
    | dK q => rw [e _ _ q] at hx; cases hx
    | dT q => rw [e _ _ q] at hx; cases hx
  obtain ⟨l, k⟩ := h2 a xs rfl q
  exact ⟨l, fun x hm => let ⟨m, t⟩ := k x hm; ⟨m, same_ty e t⟩⟩
end L2
namespace L2
open PySem PySem.Spec PyProof.Rows
/-! ### a tuple drawn from, for zip -/
section
variable {prog : Program} {w : World} {A : Around}
theorem draws_tuple (calm : A.handled = none) (it t : Addr) (apart : t ≠ it) (xs : Array Value) :
    Draws prog w A it [it, t] xs.size (fun i v => xs[i]? = some v) (fun i h => h.IsTupleIter it t i ∧ h.IsTuple t xs) where
  live := fun _ _ q => let ⟨o, eo, _⟩ := q.1; ⟨o, eo⟩
  frame := fun _ _ _ q kp => ⟨let ⟨o, eo, r⟩ := q.1; ⟨o, kp it (by simp) o eo, r⟩, let ⟨o, eo, r⟩ := q.2; ⟨o, kp t (by simp) o eo, r⟩⟩
  item := fun i s Q E lt q cont => by
    have ei : xs[i]? = some xs[i] := by simp [lt]
    obtain ⟨o, eo, ec, ed⟩ := id q.1; obtain ⟨p, ep, _, np, edp⟩ := id q.2
    have ty := q.1.typeIs
    unfold Builtin.SmallTypes.nextOf
    refine wpAny_bind (wpAny_callSpecial?_slot (name := Str.ofString "__next__") ty F.slot_tuple_iterator_next (wpAny_call_entry F.slot_tuple_iterator_next ty F.entry_tuple_iterator_next ?_ (F.args_tuple_iterator_next_1 _)))
    show wpAny _ _ (field (.ref it) 0 >>= _) _ _ s; refine wpAny_bind (wpAny_field eo ed (x := .ref t) rfl ?_)
    show wpAny _ _ (if (Value.ref t == Value.none) = true then _ else _) _ _ s; rw [if_neg (show ¬ ((Value.ref t == Value.none) = true) from Bool.false_ne_true)]
    show wpAny _ _ (field (.ref it) 1 >>= _) _ _ s; refine wpAny_bind (wpAny_field eo ed (x := .int i 0) rfl ?_)
    show wpAny _ _ (seqItems? (.ref t) >>= _) _ _ s; refine wpAny_bind (wpAny_seqItems ep edp ?_)
    simp only [Int.toNat_natCast, ei]
    have sb := Heap.SameBut.update s.heap it (fun ob => ob.mapFields fun fs => fs.setIfInBounds 1 (rawInt (i + 1)))
    refine wpAny_bind (wpAny_setField eo ed (by simp) (wpAny_pure ⟨xs[i], rfl, wpAny_pure (cont _ _ s.toks ei ⟨?_, ?_⟩ (Heap.SameBut.update ..))⟩))
    · exact ⟨_, Heap.get?_update_self _ eo (Obj.isFreed_of_fields (Obj.data_mapFields ed _)), (Obj.cls_mapFields ..).trans ec, by rw [Obj.data_mapFields ed]; simp [rawInt]⟩
    · exact q.2.extBut (Heap.SameBut.update ..).extBut apart
  done := fun s Q E q cont => by
    have ei : xs[xs.size]? = none := by simp
    obtain ⟨o, eo, ec, ed⟩ := id q.1; obtain ⟨p, ep, _, np, edp⟩ := id q.2
    have ty := q.1.typeIs
    unfold Builtin.SmallTypes.nextOf
    refine wpAny_bind (wpAny_callSpecial?_slot (name := Str.ofString "__next__") ty F.slot_tuple_iterator_next (wpAny_call_entry F.slot_tuple_iterator_next ty F.entry_tuple_iterator_next ?_ (F.args_tuple_iterator_next_1 _)))
    show wpAny _ _ (field (.ref it) 0 >>= _) _ _ s; refine wpAny_bind (wpAny_field eo ed (x := .ref t) rfl ?_)
    show wpAny _ _ (if (Value.ref t == Value.none) = true then _ else _) _ _ s; rw [if_neg (show ¬ ((Value.ref t == Value.none) = true) from Bool.false_ne_true)]
    show wpAny _ _ (field (.ref it) 1 >>= _) _ _ s; refine wpAny_bind (wpAny_field eo ed (x := .int xs.size 0) rfl ?_)
    show wpAny _ _ (seqItems? (.ref t) >>= _) _ _ s; refine wpAny_bind (wpAny_seqItems ep edp ?_)
    simp only [Int.toNat_natCast, ei]
    refine wpAny_bind (wpAny_rule (wpAny_bind (wpAny_setField eo ed (by simp) ?_)))
    show wpAny _ _ (newExc (.type "StopIteration") [] >>= _) _ _ _; refine wpAny_bind ?_
    simp only [newExc, newTuple]; refine wpAny_bind (wpAny_newObj_type ?_ (by size_fits))
    refine wpAny_bind (m := firstArgMember _ _) (wpAny_of_eq (a := Value.none) (by first | rfl | (simp only [firstArgMember]; rfl)) (wpAny_newObj_type ?_ (by size_fits)))
    simp only [raiseNew]; refine wpAny_bind (wpAny_handled ?_)
    first | rw [show A.in1.handled = none from calm] | rw [calm]
    exact wpAny_bind (wpAny_pure (wpAny_throw (cont _ _ (((Heap.SameBut.update ..).extBut.push _).push _) ⟨_, Heap.get?_push_size _ rfl, rfl⟩)))
end

/-! ### zip of two that are drawn from -/
structure ZAp (z u v i j : Addr) (f g : List Addr) : Prop where
  uz : u ≠ z
  vz : v ≠ z
  uv : u ≠ v
  ui : u ≠ i
  uj : u ≠ j
  vi : v ≠ i
  vj : v ≠ j
  iz : i ≠ z
  jz : j ≠ z
  ij : i ≠ j
  zf : z ∉ f
  zg : z ∉ g
  vf : v ∉ f
  vg : v ∉ g
  jf : j ∉ f
  ig : i ∉ g
section
variable {prog : Program} {w : World} {A : Around} {E : Value → Shared → Prop} {s : Shared} {z u v i j : Addr} {f g : List Addr} {n m k : Nat} {P1 P2 : Nat → Value → Prop} {S1 S2 : Nat → Heap → Prop} {a b : Value}
/-- kept but the four that turn -/
def ZKeep (z v i j : Addr) (h h' : Heap) : Prop := ∀ c o, c ≠ z → c ≠ v → c ≠ i → c ≠ j → h.get? c = some o → h'.get? c = some o
theorem ne_mem {c : Addr} {f : List Addr} {d : Addr} (hc : c ∈ f) (hd : d ∉ f) : c ≠ d := fun e => hd (e ▸ hc)
theorem zip_item (d1 : Draws prog w A i f n P1 S1) (d2 : Draws prog w A j g m P2 S2) (ap : ZAp z u v i j f g) (hz : IsZip s.heap z u v .none) (hu : IsPair s.heap u (.ref i) (.ref j)) (hv : IsPair s.heap v a b) (h1 : S1 k s.heap) (h2 : S2 k s.heap) (l1 : k < n) (l2 : k < m) {Q : Value → Shared → Prop}
    (cont : ∀ h' tk x y, P1 k x → P2 k y → IsZip h' z u v (rawInt s.heap.objs.size) → IsPair h' v x y → S1 (k + 1) h' → S2 (k + 1) h' → IsPair h' s.heap.objs.size x y → ZKeep z v i j s.heap h' → Q (.ref s.heap.objs.size) { s with heap := h', toks := tk }) :
    wpAny (model prog w) A (Builtin.«zip.__next__» ⟨[.ref z], []⟩) (fun fin s' => ∃ r, fin = .done (.ret r) ∧ Q r s') E s := by
  show wpAny _ _ (field (.ref z) 2 >>= _) _ _ _; refine wpAny_bind (wpAny_field hz rfl (x := .bool false) rfl ?_)
  show wpAny _ _ (field (.ref z) 3 >>= _) _ _ _; refine wpAny_bind (wpAny_field hz rfl (x := .ref u) rfl (wpAny_bind (wpAny_seqItems hu rfl ?_)))
  show wpAny _ _ (Builtin.SmallTypes.ownedTupleIsFree (.ref z) >>= _) _ _ _; refine wpAny_bind ?_
  unfold Builtin.SmallTypes.ownedTupleIsFree; refine wpAny_bind (wpAny_field hz rfl (x := .none) rfl (wpAny_pure ?_))
  simp only [if_true]; refine wpAny_bind (wpAny_rule (wpAny_bind (wpAny_field hz rfl (x := .ref v) rfl ?_)))
  refine wpAny_bind (wpAny_setField_rec hz (by simp) fun q1 z1 b1 => ?_)
  replace z1 : IsZip q1 z u v .ellipsis := z1
  refine wpAny_bind ?_; simp only [List.zipIdx_cons, List.zipIdx_nil, List.forIn_cons, List.forIn_nil]
  refine wpAny_bind (wpAny_bind (wpAny_onRaise ?_)); show wpAny _ _ (Builtin.SmallTypes.nextOf (.ref i) >>= _) _ _ _
  refine wpAny_bind (d1.item k { s with heap := q1 } _ _ l1 (d1.frame _ _ _ h1 fun c hc o e => b1.extBut c o (ne_mem hc ap.zf) e) fun x q2 t2 px s2 b2 => wpAny_pure ?_)
  have v2 : IsPair q2 v a b := b2.extBut _ _ ap.vi (b1.extBut _ _ ap.vz hv)
  refine wpAny_bind (wpAny_seqItems v2 rfl (wpAny_bind (wpAny_updateSeq_pair v2 fun q3 w3 b3 => ?_)))
  replace w3 : IsPair q3 v x b := w3
  refine wpAny_bind (wpAny_letGo (wpAny_pure ?_)); refine wpAny_bind (wpAny_bind (wpAny_onRaise ?_)); show wpAny _ _ (Builtin.SmallTypes.nextOf (.ref j) >>= _) _ _ _
  refine wpAny_bind (d2.item k { s with heap := q3, toks := t2 } _ _ l2 (d2.frame _ _ _ h2 fun c hc o e => b3.extBut c o (ne_mem hc ap.vg) (b2.extBut c o (ne_mem hc ap.ig) (b1.extBut c o (ne_mem hc ap.zg) e))) fun y q4 t4 py s4 b4 => wpAny_pure ?_)
  have v4 : IsPair q4 v x b := b4.extBut _ _ ap.vj w3
  refine wpAny_bind (wpAny_seqItems v4 rfl (wpAny_bind (wpAny_updateSeq_pair v4 fun q5 w5 b5 => ?_)))
  replace w5 : IsPair q5 v x y := w5
  refine wpAny_bind (wpAny_letGo (wpAny_pure (wpAny_pure (wpAny_bind (wpAny_seqItems w5 rfl (wpAny_bind (wpAny_newTuple ?_)))))))
  have sz : q5.objs.size = s.heap.objs.size := by rw [b5.1, b4.1, b3.1, b2.1, b1.1]
  have z5 : IsZip q5 z u v .ellipsis := b5.extBut _ _ ap.vz.symm (b4.extBut _ _ ap.jz.symm (b3.extBut _ _ ap.vz.symm (b2.extBut _ _ ap.iz.symm z1)))
  have k5 : ZKeep z v i j s.heap q5 := fun c o c1 c2 c3 c4 e => b5.extBut _ _ c2 (b4.extBut _ _ c4 (b3.extBut _ _ c2 (b2.extBut _ _ c3 (b1.extBut _ _ c1 e))))
  have s5 : S1 (k + 1) q5 := d1.frame _ _ _ s2 fun c hc o e => b5.extBut c o (ne_mem hc ap.vf) (b4.extBut c o (ne_mem hc ap.jf) (b3.extBut c o (ne_mem hc ap.vf) e))
  have r5 : S2 (k + 1) q5 := d2.frame _ _ _ s4 fun c hc o e => b5.extBut c o (ne_mem hc ap.vg) e
  have zlt : z < q5.objs.size := Heap.lt_size z5
  show wpAny _ _ (Builtin.SmallTypes.ownedTupleHandOut (.ref z) (.ref q5.objs.size) >>= _) _ _ _; refine wpAny_bind ?_
  unfold Builtin.SmallTypes.ownedTupleHandOut
  refine wpAny_bind (wpAny_setField_rec (show IsZip (q5.push { cls := .type "tuple", data := .seq #[x, y] }) z u v .ellipsis from Heap.get?_push_of_some _ z5) (by simp) fun q7 z7 b7 => ?_)
  replace z7 : IsZip q7 z u v (rawInt q5.objs.size) := z7
  refine wpAny_setField_rec z7 (by simp) fun q8 z8 b8 => ?_
  replace z8 : IsZip q8 z u v (rawInt q5.objs.size) := z8
  have up : ∀ c o, c ≠ z → q5.get? c = some o → q8.get? c = some o := fun c o c1 e => b8.extBut _ _ c1 (b7.extBut _ _ c1 (Heap.get?_push_of_some _ e))
  have p8 : IsPair q8 q5.objs.size x y := b8.extBut _ _ (Nat.ne_of_gt zlt) (b7.extBut _ _ (Nat.ne_of_gt zlt) (Heap.get?_push_size _ rfl))
  rw [sz] at z8 p8
  refine wpAny_pure ⟨_, rfl, ?_⟩
  show Q (.ref q5.objs.size) _
  rw [sz]
  exact cont q8 _ x y px py z8 (up _ _ ap.vz w5) (d1.frame _ _ _ s5 fun c hc o e => up c o (ne_mem hc ap.zf) e) (d2.frame _ _ _ r5 fun c hc o e => up c o (ne_mem hc ap.zg) e) p8 fun c o c1 c2 c3 c4 e => up c o c1 (k5 c o c1 c2 c3 c4 e)
theorem zip_end (d1 : Draws prog w A i f n P1 S1) (d2 : Draws prog w A j g m P2 S2) (ap : ZAp z u v i j f g) (hz : IsZip s.heap z u v .none) (hu : IsPair s.heap u (.ref i) (.ref j)) (hv : IsPair s.heap v a b) (h1 : S1 n s.heap) {Q : Fin → Shared → Prop}
    (cont : ∀ h' e, ZKeep z v i j s.heap h' → (∃ o, h'.get? e = some o ∧ o.cls = .type "StopIteration") → E (.ref e) { s with heap := h' }) : wpAny (model prog w) A (Builtin.«zip.__next__» ⟨[.ref z], []⟩) Q E s := by
  show wpAny _ _ (field (.ref z) 2 >>= _) _ _ _; refine wpAny_bind (wpAny_field hz rfl (x := .bool false) rfl ?_)
  show wpAny _ _ (field (.ref z) 3 >>= _) _ _ _; refine wpAny_bind (wpAny_field hz rfl (x := .ref u) rfl (wpAny_bind (wpAny_seqItems hu rfl ?_)))
  show wpAny _ _ (Builtin.SmallTypes.ownedTupleIsFree (.ref z) >>= _) _ _ _; refine wpAny_bind ?_
  unfold Builtin.SmallTypes.ownedTupleIsFree; refine wpAny_bind (wpAny_field hz rfl (x := .none) rfl (wpAny_pure ?_))
  simp only [if_true]; refine wpAny_bind (wpAny_rule (wpAny_bind (wpAny_field hz rfl (x := .ref v) rfl ?_)))
  refine wpAny_bind (wpAny_setField_rec hz (by simp) fun q1 z1 b1 => ?_)
  replace z1 : IsZip q1 z u v .ellipsis := z1
  refine wpAny_bind ?_; simp only [List.zipIdx_cons, List.zipIdx_nil, List.forIn_cons, List.forIn_nil]
  refine wpAny_bind (wpAny_bind (wpAny_onRaise ?_)); show wpAny _ _ (Builtin.SmallTypes.nextOf (.ref i) >>= _) _ _ _
  refine wpAny_bind (d1.done { s with heap := q1 } _ _ (d1.frame _ _ _ h1 fun c hc o e => b1.extBut c o (ne_mem hc ap.zf) e) fun q2 e b2 he => ?_)
  obtain ⟨oe, hoe, hce⟩ := he
  have z2 : IsZip q2 z u v .ellipsis := b2 _ _ ap.iz.symm z1
  have ez : e ≠ z := fun x => by subst x; rw [z2] at hoe; cases hoe; simp at hce
  exact wpAny_setField_rec z2 (by simp) fun q3 _ b3 => cont q3 e (fun c o c1 _ c3 _ x => b3.extBut _ _ c1 (b2 _ _ c3 (b1.extBut _ _ c1 x))) ⟨oe, b3.extBut _ _ ez hoe, hce⟩
end

/-! ### objects of ours have turned -/
section
variable {X : Cx} {pins : List (Addr × Obj)} {σ : St} {H : Hp} {s : Shared} {h' : Heap} {ch : List Addr} {t' : Nat}
theorem Inv.turnH {H' : Hp} (I : Inv X pins σ H s) (hch : ∀ b ∈ ch, FpOk X pins H b) (kp : ∀ b o, b ∉ ch → s.heap.get? b = some o → h'.get? b = some o) (up : ∀ b u, H b = some u → H' b = some u) (dn : ∀ b o, s.heap.get? b = some o → H b = none → H' b = none) (hok : HOk X.prog X.w H' h') :
    Inv X pins σ H' { s with heap := h', toks := t' } := by
  refine I.step (g' := s.gens) (d' := s.drawn) (ch := ch) (fun b hb => ?_) (fun b o _ _ hc e _ => kp b o hc e) (fun b o _ _ hc e _ => ⟨o.slots, kp b o hc e⟩) (fun b o _ e n => dn b o e n) (fun b o hc e => ⟨o, kp b o hc e⟩) (fun b xs e => up _ _ e) (fun b o u e => up _ _ e) (fun b ps e => ⟨#[], by rw [up _ _ e]; simp⟩) (fun m hm => ?_) hok I.bare
  · obtain ⟨f0, f1, f2, f3, f4, f5⟩ := hch b hb
    exact ⟨f3, f1, f4, f5⟩
  · obtain ⟨o, es, ep, ho, r⟩ := hm
    exact ⟨o, es, ep, kp _ o (fun z => (hch _ z).2.1 rfl) ho, r⟩
theorem hok_turn (I : Inv X pins σ H s) (hch : ∀ b ∈ ch, FpOk X pins H b) (kp : ∀ b o, b ∉ ch → s.heap.get? b = some o → h'.get? b = some o) : HOk X.prog X.w H h' := fun b u e => by
  have nin : ∀ {c : Addr} {q : HO}, H c = some q → c ∉ ch := fun {c q} e z => by rw [(hch c z).1] at e; cases e
  refine (I.hok b u e).stay (fun c v hc q => kp c v ?_ q) (fun _ q => q) fun _ _ q => q
  rcases hc with z | z
  · rw [z]; exact nin e
  · exact nin z
theorem Inv.turnM (I : Inv X pins σ H s) (hch : ∀ b ∈ ch, FpOk X pins H b) (kp : ∀ b o, b ∉ ch → s.heap.get? b = some o → h'.get? b = some o) : Inv X pins σ H { s with heap := h', toks := t' } :=
  I.turnH hch kp (fun _ _ e => e) (fun _ _ _ n => n) (hok_turn I hch kp)
theorem Inv.turnT {xs : List V} {its : List Value} (I : Inv X pins σ H s) (hch : ∀ b ∈ ch, FpOk X pins H b) (kp : ∀ b o, b ∉ ch → s.heap.get? b = some o → h'.get? b = some o) (hp : IsTup h' s.heap.objs.size its.toArray) (rv : Vals xs its) (hz : xs.length ≤ sizeLine) :
    Inv X pins σ (upd H s.heap.objs.size (.tup xs)) { s with heap := h', toks := t' } := by
  have fr := I.hok.fresh (Nat.le_refl s.heap.objs.size)
  have ne : ∀ {b : Addr} {u : HO}, H b = some u → b ≠ s.heap.objs.size := fun {b u} e => ne_of_none e fr
  have hk := hok_turn I hch kp
  refine I.turnH hch kp (fun b u e => by rw [upd_ne (ne e)]; exact e) (fun b o e n => by rw [upd_ne (Nat.ne_of_lt (Heap.lt_size e))]; exact n) fun b u e => ?_
  by_cases hb : b = s.heap.objs.size
  · subst hb
    rw [upd_same] at e
    cases e
    exact ⟨hz, its, rv, hp⟩
  · rw [upd_ne hb] at e
    exact (hk b u e).stay (fun _ _ _ q => q) (fun c q => by rw [upd_ne (ne q)]; exact q) fun c ys q => by rw [upd_ne (ne q)]; exact q
end

/-! ### zip(t, u) of two tuples of one length, walked to a pair of names -/
def Itz (K : PySem.W.Frag) (a b : Addr) (xs ys : List V) : It :=
  ⟨fun i H => i < xs.length ∧ SqT K H a xs ∧ SqT K H b ys, fun i H x H' => ∃ T p q, H T = none ∧ xs[i]? = some p ∧ ys[i]? = some q ∧ x = .ref T ∧ H' = upd H T (.tup [p, q]), fun i H => i = xs.length ∧ SqT K H a xs ∧ SqT K H b ys⟩
abbrev zTn (z u v i1 i2 a b : Addr) : Nat → Heap → Prop := fun i h => IsZip h z u v .none ∧ IsPair h u (.ref i1) (.ref i2) ∧ (∃ p q, IsPair h v p q) ∧ h.IsTupleIter i1 a i ∧ h.IsTupleIter i2 b i
theorem turn_zip {P : Program} {w : World} {K : PySem.W.Frag} {elts : List Expr} {kt : Nat} {tp : Pos} {z u v i1 i2 a b : Addr} {xs ys : List V} (hl : xs.length = ys.length) (D : [z, u, v, i1, i2].Nodup) (ha : ∀ c ∈ [z, u, v, i1, i2], c ≠ a ∧ c ≠ b) :
    Turn P w K (.Tuple elts kt tp) (Itz K a b xs ys) [z, u, v, i1, i2] z (zTn z u v i1 i2 a b) := by
  have nd : (z ≠ u ∧ z ≠ v ∧ z ≠ i1 ∧ z ≠ i2) ∧ (u ≠ v ∧ u ≠ i1 ∧ u ≠ i2) ∧ (v ≠ i1 ∧ v ≠ i2) ∧ i1 ≠ i2 := by simpa using D
  obtain ⟨⟨zu, zv, z1, z2⟩, ⟨uv, u1, u2⟩, ⟨v1, v2⟩, i12⟩ := nd
  have az := ha z (by simp)
  have av := ha v (by simp)
  have a1 := ha i1 (by simp)
  have a2 := ha i2 (by simp)
  have ap : ZAp z u v i1 i2 [i1, a] [i2, b] := ⟨zu.symm, zv.symm, uv, u1, u2, v1, v2, z1.symm, z2.symm, i12, by simp [z1, az.1], by simp [z2, az.2], by simp [v1, av.1], by simp [v2, av.2], by simp [i12.symm, a2.1], by simp [i12, a1.2]⟩
  refine ⟨by simp, fun i h st c hc => ?_, fun i h h' st k => ?_, ?_, ?_, fun A i s Q E st h => wpAny_pyIter_zip st.1 h⟩
  · obtain ⟨e1, e2, ⟨p, q, e3⟩, ⟨o4, e4, _, d4⟩, ⟨o5, e5, _, d5⟩⟩ := st
    simp only [List.mem_cons, List.not_mem_nil, or_false] at hc
    rcases hc with rfl | rfl | rfl | rfl | rfl
    · exact ⟨_, e1, fun v z => nomatch z⟩
    · exact ⟨_, e2, fun v z => nomatch z⟩
    · exact ⟨_, e3, fun v z => nomatch z⟩
    · exact ⟨_, e4, fun v z => by rw [d4] at z; cases z⟩
    · exact ⟨_, e5, fun v z => by rw [d5] at z; cases z⟩
  · obtain ⟨e1, e2, ⟨p, q, e3⟩, ⟨o4, e4, r4⟩, ⟨o5, e5, r5⟩⟩ := st
    exact ⟨k z (by simp) _ e1, k u (by simp) _ e2, ⟨p, q, k v (by simp) _ e3⟩, ⟨o4, k i1 (by simp) _ e4, r4⟩, ⟨o5, k i2 (by simp) _ e5, r5⟩⟩
  · intro X hP hw hK hc i pins s σ H E I hf st hg
    subst hP hw hK
    obtain ⟨e1, e2, ⟨p, q, e3⟩, e4, e5⟩ := st
    obtain ⟨hi, hx, hy⟩ := hg
    obtain ⟨its, rx, px, zx⟩ := I.tuple hx
    obtain ⟨jts, ry, py, zy⟩ := I.tuple hy
    have lx : i < its.toArray.size := by rw [List.size_toArray, ← rx.length]; exact hi
    have ly : i < jts.toArray.size := by rw [List.size_toArray, ← ry.length, ← hl]; exact hi
    have hh := I.ok.hd hc
    have hT : s.TypeIs (.ref z) "zip" := ⟨_, e1, rfl⟩
    unfold pyNext
    refine wpAny_bind (wpAny_attempt (wpAny_callSpecial?_slot (name := Str.ofString "__next__") hT F.slot_zip_next (wpAny_call_entry F.slot_zip_next hT F.entry_zip_next
      (zip_item (draws_tuple (A := X.A.in1) hh i1 a a1.1.symm its.toArray) (draws_tuple (A := X.A.in1) hh i2 b a2.2.symm jts.toArray) ap e1 e2 e3 ⟨e4, px⟩ ⟨e5, py⟩ lx ly fun h' tk x y qx qy zz vv s1 s2 pp kp => wpAny_pure ?_) (F.args_zip_next_1 _))))
    refine ⟨_, rfl, wpAny_letOwnedTupleGo_zip (s := { s with heap := h', toks := tk }) zz fun h2 z2' sb => ?_⟩
    obtain ⟨xv, ex⟩ : ∃ xv, xs[i]? = some xv := ⟨xs[i], by simp [hi]⟩
    obtain ⟨yv, ey⟩ : ∃ yv, ys[i]? = some yv := ⟨ys[i]'(by omega), by simp [show i < ys.length by omega]⟩
    obtain ⟨x', gx, rxv⟩ := rx.get ex
    obtain ⟨y', gy, ryv⟩ := ry.get ey
    have qx' : its[i]? = some x := by simpa using qx
    have qy' : jts[i]? = some y := by simpa using qy
    rw [gx] at qx'
    rw [gy] at qy'
    cases qx'
    cases qy'
    have ltz : z < s.heap.objs.size := Heap.lt_size e1
    have kp2 : ∀ c o, c ∉ [z, u, v, i1, i2] → s.heap.get? c = some o → h2.get? c = some o := fun c o hc e => by
      simp only [List.mem_cons, List.not_mem_nil, or_false, not_or] at hc
      exact sb.extBut c o hc.1 (kp c o hc.1 hc.2.2.1 hc.2.2.2.1 hc.2.2.2.2 e)
    have tT : IsTup h2 s.heap.objs.size [x, y].toArray := ⟨_, sb.extBut _ _ (Nat.ne_of_gt ltz) pp, rfl, _, rfl⟩
    refine ⟨.ref s.heap.objs.size, upd H s.heap.objs.size (.tup [xv, yv]), I.turnT (t' := tk) hf kp2 tT (.cons rxv (.cons ryv .nil)) (size63 (Nat.le_of_ble_eq_true rfl)), rfl, ⟨_, xv, yv, I.hok.fresh (Nat.le_refl _), ex, ey, rfl, rfl⟩, ?_, fun c hc => ?_⟩
    · exact ⟨z2', sb.extBut _ _ zu.symm (kp _ _ zu.symm uv u1 u2 e2), ⟨_, _, sb.extBut _ _ zv.symm vv⟩, s1.1.extBut sb.extBut z1.symm, s2.1.extBut sb.extBut z2.symm⟩
    · rw [upd_ne]
      · exact (hf c hc).1
      · obtain ⟨o, eo, _⟩ : ∃ o, s.heap.get? c = some o ∧ True := by
          simp only [List.mem_cons, List.not_mem_nil, or_false] at hc
          rcases hc with rfl | rfl | rfl | rfl | rfl
          · exact ⟨_, e1, trivial⟩
          · exact ⟨_, e2, trivial⟩
          · exact ⟨_, e3, trivial⟩
          · obtain ⟨o, eo, _⟩ := e4
            exact ⟨o, eo, trivial⟩
          · obtain ⟨o, eo, _⟩ := e5
            exact ⟨o, eo, trivial⟩
        exact Nat.ne_of_lt (Heap.lt_size eo)
  · intro X hP hw hK hc i pins s σ H E I hf st hg
    subst hP hw hK
    obtain ⟨e1, e2, ⟨p, q, e3⟩, e4, e5⟩ := st
    obtain ⟨rfl, hx, hy⟩ := hg
    obtain ⟨its, rx, px, zx⟩ := I.tuple hx
    obtain ⟨jts, ry, py, zy⟩ := I.tuple hy
    have lx : its.toArray.size = xs.length := by rw [List.size_toArray, ← rx.length]
    have hh := I.ok.hd hc
    have hT : s.TypeIs (.ref z) "zip" := ⟨_, e1, rfl⟩
    unfold pyNext
    refine wpAny_bind (wpAny_attempt (wpAny_callSpecial?_slot (name := Str.ofString "__next__") hT F.slot_zip_next (wpAny_call_entry F.slot_zip_next hT F.entry_zip_next
      (zip_end (draws_tuple (A := X.A.in1) hh i1 a a1.1.symm its.toArray) (draws_tuple (A := X.A.in1) hh i2 b a2.2.symm jts.toArray) ap e1 e2 e3 ⟨by rw [lx]; exact e4, px⟩ fun h' e kp he => ?_) (F.args_zip_next_1 _))))
    obtain ⟨o, ho, hco⟩ := he
    refine wpAny_bind (wpAny_isInstance (T := "StopIteration") (b := true) ⟨o, ho, hco⟩ isSubtype_stop (wpAny_pure ⟨rfl, ?_⟩))
    exact I.turnM (t' := s.toks) hf fun c ob hc e => by
      simp only [List.mem_cons, List.not_mem_nil, or_false, not_or] at hc
      exact kp c ob hc.1 hc.2.2.1 hc.2.2.2.1 hc.2.2.2.2 e
theorem meets_zipT (l1 l2 : Addr) (xs ys : Array Value) :
    Meets (Builtin.«zip.__new__» ⟨[.type "zip", .ref l1, .ref l2], []⟩) (fun _ R s => s.heap.IsTuple l1 xs ∧ s.heap.IsTuple l2 ys ∧
      R (.ok (.ret (.ref ((((s.heap.push { cls := .type "tuple_iterator", data := .fields #[.ref l1, .int 0 0] }).push { cls := .type "tuple_iterator", data := .fields #[.ref l2, .int 0 0] }).push { cls := .type "tuple", data := .seq #[.ref s.heap.objs.size, .ref (s.heap.push { cls := .type "tuple_iterator", data := .fields #[.ref l1, .int 0 0] }).objs.size] }).push { cls := .type "tuple", data := .seq #[.none, .none] }).objs.size)))
        { s with heap := ((((s.heap.push { cls := .type "tuple_iterator", data := .fields #[.ref l1, .int 0 0] }).push { cls := .type "tuple_iterator", data := .fields #[.ref l2, .int 0 0] }).push { cls := .type "tuple", data := .seq #[.ref s.heap.objs.size, .ref (s.heap.push { cls := .type "tuple_iterator", data := .fields #[.ref l1, .int 0 0] }).objs.size] }).push { cls := .type "tuple", data := .seq #[.none, .none] }).push { cls := .type "zip", data := .fields #[.none, .bool false, .bool false, .ref ((s.heap.push { cls := .type "tuple_iterator", data := .fields #[.ref l1, .int 0 0] }).push { cls := .type "tuple_iterator", data := .fields #[.ref l2, .int 0 0] }).objs.size, .ref (((s.heap.push { cls := .type "tuple_iterator", data := .fields #[.ref l1, .int 0 0] }).push { cls := .type "tuple_iterator", data := .fields #[.ref l2, .int 0 0] }).push { cls := .type "tuple", data := .seq #[.ref s.heap.objs.size, .ref (s.heap.push { cls := .type "tuple_iterator", data := .fields #[.ref l1, .int 0 0] }).objs.size] }).objs.size] } }) :=
  .of_wp fun prog w A R s h => by
    obtain ⟨hp, g, d, tk, os⟩ := s; obtain ⟨t1, t2, h⟩ := h
    have hsub := sub_zip
    have T1 : Heap.IsTuple (Shared.heap ⟨hp, g, d, tk, os⟩) l1 xs := t1
    have T2 : Heap.IsTuple (Shared.heap ⟨hp.push { cls := .type "tuple_iterator", data := .fields #[.ref l1, .int 0 0] }, g, d, tk, os⟩) l2 ys := Heap.IsTuple.push t2 _
    wp_walk using wpAny_pyIter_tuple T1, wpAny_pyIter_tuple T2
    exact ⟨_, rfl, h⟩
theorem nodup5 (n : Nat) : [n + 4, n + 2, n + 3, n, n + 1].Nodup := by
  simp
def iZip (K : PySem.W.Frag) (ta : TA) : TI := fun σ H R => ta σ H fun vs H1 => ∃ a b xs ys, vs = [.ref a, .ref b] ∧ SqT K H1 a xs ∧ SqT K H1 b ys ∧ xs.length = ys.length ∧ R (Itz K a b xs ys) H1
section
variable {X : Cx}
theorem pi_zip {e1 e2 : Expr} {ta : TA} {p pos tp : Pos} {elts : List Expr} {kt : Nat} (hg : Gl X "zip") (hm : X.mg "zip" = none) (ha : PA X [e1, e2] ta) (n1 : noStar e1 = true) (n2 : noStar e2 = true) : PI X (.Tuple elts kt tp) (.Call (.Name "zip" p) [e1, e2] [] pos) (iZip X.K ta) := by
  intro pins s σ H R I h
  refine Call_ (ld_blt I hg hm boot_zip (PyProof.Rows.callWith_type1 (thn (ha pos pins s σ H _ I h) fun us s1 ⟨vs, H1, I1, r1, q1⟩ => ?_) (star_cons n1) (plain_back (by simp [n2]))))
  obtain ⟨a, b, xs, ys, e, hx, hy, hl, q⟩ := q1
  subst e
  obtain ⟨ua, ub, rfl, ra, rb⟩ := vals2 r1
  cases ra
  cases rb
  obtain ⟨its, rx, px, zx⟩ := I1.tuple hx
  obtain ⟨jts, ry, py, zy⟩ := I1.tuple hy
  refine callType_new F.called_zip (by decide) (F.typeCall_zip_2 _ _) (F.newCall_zip_2 _ _) (fun obj => F.args_object_init_3 obj _ _) F.entry_zip_new (meets_zipT a b its.toArray jts.toArray) ⟨px, py, ?_⟩
  generalize ea : ({ cls := .type "tuple_iterator", data := .fields #[.ref a, .int 0 0] } : Obj) = oa
  generalize eb : ({ cls := .type "tuple_iterator", data := .fields #[.ref b, .int 0 0] } : Obj) = ob
  have z1 : (s1.heap.push oa).objs.size = s1.heap.objs.size + 1 := Heap.size_push ..
  have z2 : ((s1.heap.push oa).push ob).objs.size = s1.heap.objs.size + 2 := by rw [Heap.size_push, z1]
  rw [z2, z1]
  generalize eu : ({ cls := .type "tuple", data := .seq #[.ref s1.heap.objs.size, .ref (s1.heap.objs.size + 1)] } : Obj) = ou
  have z3 : (((s1.heap.push oa).push ob).push ou).objs.size = s1.heap.objs.size + 3 := by rw [Heap.size_push, z2]
  generalize ev : ({ cls := .type "tuple", data := .seq #[.none, .none] } : Obj) = ov
  have z4 : ((((s1.heap.push oa).push ob).push ou).push ov).objs.size = s1.heap.objs.size + 4 := by rw [Heap.size_push, z3]
  rw [z4, z3]
  generalize ez : ({ cls := .type "zip", data := .fields #[.none, .bool false, .bool false, .ref (s1.heap.objs.size + 2), .ref (s1.heap.objs.size + 3)] } : Obj) = oz
  have g5 : (((((s1.heap.push oa).push ob).push ou).push ov).push oz).get? (s1.heap.objs.size + 4) = some oz := by rw [← z4]; exact Heap.get?_push_size _ (by rw [← ez]; rfl)
  have g4 : (((((s1.heap.push oa).push ob).push ou).push ov).push oz).get? (s1.heap.objs.size + 3) = some ov := by rw [← z3]; exact Heap.get?_push_of_some _ (Heap.get?_push_size _ (by rw [← ev]; rfl))
  have g3 : (((((s1.heap.push oa).push ob).push ou).push ov).push oz).get? (s1.heap.objs.size + 2) = some ou := by rw [← z2]; exact Heap.get?_push_of_some _ (Heap.get?_push_of_some _ (Heap.get?_push_size _ (by rw [← eu]; rfl)))
  have g2 : (((((s1.heap.push oa).push ob).push ou).push ov).push oz).get? (s1.heap.objs.size + 1) = some ob := by rw [← z1]; exact Heap.get?_push_of_some _ (Heap.get?_push_of_some _ (Heap.get?_push_of_some _ (Heap.get?_push_size _ (by rw [← eb]; rfl))))
  have g1 : (((((s1.heap.push oa).push ob).push ou).push ov).push oz).get? s1.heap.objs.size = some oa := Heap.get?_push_of_some _ (Heap.get?_push_of_some _ (Heap.get?_push_of_some _ (Heap.get?_push_of_some _ (Heap.get?_push_size _ (by rw [← ea]; rfl)))))
  have kp : ∀ c o, s1.heap.get? c = some o → (((((s1.heap.push oa).push ob).push ou).push ov).push oz).get? c = some o := fun c o e => Heap.get?_push_of_some _ (Heap.get?_push_of_some _ (Heap.get?_push_of_some _ (Heap.get?_push_of_some _ (Heap.get?_push_of_some _ e))))
  generalize ((((s1.heap.push oa).push ob).push ou).push ov).push oz = hN at g1 g2 g3 g4 g5 kp ⊢
  have I2 : Inv X pins σ H1 { s1 with heap := hN } := I1.kept (t' := s1.toks) kp
  have la : a < s1.heap.objs.size := px.lt
  have lb : b < s1.heap.objs.size := py.lt
  subst ea eb eu ev ez
  have base : ∀ c ∈ [s1.heap.objs.size + 4, s1.heap.objs.size + 2, s1.heap.objs.size + 3, s1.heap.objs.size, s1.heap.objs.size + 1], s1.heap.objs.size ≤ c := fun c hc => by
    simp only [List.mem_cons, List.not_mem_nil, or_false] at hc
    omega
  refine ⟨⟨_, g5, rfl⟩, ?_⟩
  show wpAny (model X.prog X.w) X.A (pyIter (.ref (s1.heap.objs.size + 4))) (PIE X pins σ (.Tuple elts kt tp) R) X.xe { s1 with heap := hN }
  refine wpAny_pyIter_zip g5 ?_
  refine ⟨s1.heap.objs.size + 4, [s1.heap.objs.size + 4, s1.heap.objs.size + 2, s1.heap.objs.size + 3, s1.heap.objs.size, s1.heap.objs.size + 1], zTn (s1.heap.objs.size + 4) (s1.heap.objs.size + 2) (s1.heap.objs.size + 3) s1.heap.objs.size (s1.heap.objs.size + 1) a b, _, H1, rfl, I2,
    turn_zip hl ?_ (fun c hc => ⟨Nat.ne_of_gt (Nat.lt_of_lt_of_le la (base c hc)), Nat.ne_of_gt (Nat.lt_of_lt_of_le lb (base c hc))⟩), ⟨g5, g3, ⟨_, _, g4⟩, ⟨_, g1, rfl, rfl⟩, ⟨_, g2, rfl, rfl⟩⟩, fun c hc => ?_, q⟩
  · exact nodup5 s1.heap.objs.size
  · exact I1.fpOk (base c hc) (I1.hok.fresh (base c hc))
theorem i_zip {e1 e2 : Expr} {ta : TA} {p pos tp : Pos} {elts : List Expr} {kt : Nat} (hm : X.mg "zip" = none) (ha : QA X [e1, e2] ta) (hg : Gl X "zip" := by rfl) (n1 : noStar e1 = true := by rfl) (n2 : noStar e2 = true := by rfl) : QI X (.Tuple elts kt tp) (.Call (.Name "zip" p) [e1, e2] [] pos) (iZip X.K ta) := ⟨pi_zip hg hm ha.h n1 n2⟩
end
end L2
namespace L2
open PySem PySem.Spec PyProof.Rows
/-! ### a comprehension with tests, its elements leave what was there -/
theorem comp_any {J : It} {N n : Nat} {cap : List Nat} {g : TG} {tc : TT} {te : TE} {σ : St} {H0 : Hp} {Q : VK} (keep : Nat → Bool) (f : Nat → V) (hz : N ≤ 1000)
    (hgo : ∀ i H, i < N → Same H0 H → J.go i H) (hst : ∀ H, Same H0 H → J.stop N H)
    (ht : ∀ i H x H', i < N → Same H0 H → J.yld i H x H' → ∀ (A : VK) (B : Hp → Prop), (keep i = true → ∀ H4, Same H H4 → A (f i) H4) → (keep i = false → ∀ H4, Same H H4 → B H4) →
      g x (compSt n cap σ) H' fun σ2 H2 => tc σ2 H2 fun b H3 => if b = true then te σ2 H3 A else B H3)
    (hq : ∀ p H, Same H0 H → H p = none → Q (.ref p) (upd H p (.lst (((List.range N).filter keep).map f)))) : tCompR n cap g tc te σ J H0 Q := by
  refine ⟨fun i m ys H => m = N - i ∧ i ≤ N ∧ Same H0 H ∧ ys = ((List.range i).filter keep).map f, ⟨N, by simp, Nat.zero_le _, Same.refl _, rfl⟩, ?_⟩
  rintro i m ys H ⟨rfl, hi, sm, rfl⟩
  by_cases hlt : i < N
  · refine .inr ⟨hgo i H hlt sm, ?_, fun x H' y => ?_⟩
    · rw [List.length_map]
      have := List.length_filter_le keep (List.range i)
      rw [List.length_range] at this
      exact small1000 (by omega)
    · refine ht i H x H' hlt sm y _ _ (fun k H4 s4 => ⟨N - (i + 1), by omega, rfl, hlt, sm.trans s4, ?_⟩) (fun k H4 s4 => ⟨N - (i + 1), by omega, rfl, hlt, sm.trans s4, ?_⟩)
      · rw [List.range_succ, List.filter_append, List.map_append]
        simp [k]
      · rw [List.range_succ, List.filter_append, List.map_append]
        simp [k]
  · have e : i = N := by omega
    subst e
    exact .inl ⟨hst H sm, fun p hp => hq p H sm hp⟩
theorem comp_rangeIf {N n : Nat} {lo : Int} {cap : List Nat} {tc : TT} {te : TE} {σ : St} {H0 : Hp} {Q : VK} (keep : Nat → Bool) (f : Nat → V) (hz : N ≤ 1000)
    (hc : ∀ i H, i < N → Same H0 H → ∀ R : Bool → Hp → Prop, (∀ H', Same H H' → R (keep i) H') → tc ((compSt n cap σ).set 0 (some (.int (lo + i)))) H R)
    (he : ∀ i H, i < N → Same H0 H → keep i = true → ∀ R : VK, (∀ H', Same H H' → R (f i) H') → te ((compSt n cap σ).set 0 (some (.int (lo + i)))) H R)
    (hq : ∀ p H, Same H0 H → H p = none → Q (.ref p) (upd H p (.lst (((List.range N).filter keep).map f)))) : tCompR n cap (gName 0) tc te σ (Itr lo N) H0 Q := by
  refine comp_any (N := N) keep f hz (fun _ _ hi _ => hi) (fun _ _ => Nat.le_refl N) (fun i H x H' hi sm y A B kA kB => ?_) hq
  obtain ⟨rfl, rfl⟩ := y
  refine hc i H' hi sm _ fun H2 s2 => ?_
  cases k : keep i with
  | true => exact iteT (he i H2 hi (sm.trans s2) k _ fun H4 s4 => kA k H4 (s2.trans s4))
  | false => exact iteF (kB k H2 s2)
/-- zip of two tuples, to two names, no tests -/
theorem comp_zip {K : PySem.W.Frag} {a b : Addr} {xs ys : List V} {n : Nat} {cap : List Nat} {te : TE} {σ : St} {H0 : Hp} {Q : VK} (f : Nat → V) (hz : xs.length ≤ 1000) (ha : SqT K H0 a xs) (hb : SqT K H0 b ys) (hl : xs.length = ys.length)
    (he : ∀ i x y H, xs[i]? = some x → ys[i]? = some y → Same H0 H → ∀ R : VK, (∀ H', Same H H' → R (f i) H') → te (((compSt n cap σ).set 0 (some x)).set 1 (some y)) H R)
    (hq : ∀ p H, Same H0 H → H p = none → Q (.ref p) (upd H p (.lst ((List.range xs.length).map f)))) : tCompR n cap (gTup K 2 (gCons (gName 0) (gCons (gName 1) gNil))) tNoIf te σ (Itz K a b xs ys) H0 Q := by
  refine comp_any (N := xs.length) (fun _ => true) f hz (fun i H hi sm => ⟨hi, same_tup sm ha, same_tup sm hb⟩) (fun H sm => ⟨rfl, same_tup sm ha, same_tup sm hb⟩) (fun i H x H' hi sm y A B kA kB => ?_) (fun p H sm hp => ?_)
  · obtain ⟨T, p, q, hT, hx, hy, rfl, rfl⟩ := y
    have s1 := same_new hT (.tup [p, q])
    refine ⟨T, [p, q], rfl, SqT.of upd_same, rfl, p, [q], rfl, q, [], rfl, rfl, ?_⟩
    unfold tNoIf
    refine iteT ?_
    exact he i p q _ hx hy (sm.trans s1) _ fun H4 s4 => kA rfl H4 (s1.trans s4)
  · have := hq p H sm hp
    rw [List.filter_eq_self.mpr (fun _ _ => rfl)]
    exact this
/-! ### t + u, either one empty or not; t * k, 1 ≤ k -/
section
variable {X : Cx}
theorem int_item {ns : List Int} {i : Nat} {x : V} (h : (ns.map V.int)[i]? = some x) : x = .int (cellZ ns i) ∧ i < ns.length := by
  rw [List.getElem?_map] at h
  unfold cellZ
  cases e : ns[i]? with
  | none => rw [e] at h; cases h
  | some z =>
    rw [e] at h
    cases h
    exact ⟨rfl, (List.getElem?_eq_some_iff.mp e).1⟩
theorem map_ints (f : Nat → Int) (n : Nat) : ((List.range n).map f).map V.int = (List.range n).map fun i => V.int (f i) := by
  rw [List.map_map]
  rfl
theorem sIx_at {n d : Nat} {h : Int} (h0 : 0 ≤ h) : HT.sIx n d (some h) = min h.toNat n := by
  have e := HT.sIx_nat n d h.toNat
  rw [show ((h.toNat : Nat) : Int) = h by omega] at e
  exact e
/-! the rules that name the kept records, with a name of their own for them: within a comprehension -/
variable {K : PySem.W.Frag} (hK : X.K = K)
include hK
theorem xK_list : QIx X (rIxL K) := by subst hK; exact x_list
theorem xK_tup : QIx X (rIxT K) := by subst hK; exact x_tup
theorem gK_tup {es : List Expr} {k n : Nat} {gs : TGs} {pos : Pos} (hc : X.calm = true) (h : QGs X es gs) (hn : (assignEach es X.env).length = n := by rfl) (hst : (assignEach es X.env).findIdx? (·.1) = none := by rfl) : QG X (.Tuple es k pos) (gTup K n gs) := by subst hK; exact g_tup hc h hn hst
omit hK
end
end L2
namespace L2
open PySem PySem.Spec PyProof.Rows PySem.W
section
variable {X : Cx}
/-! ### xs.insert(i, e) -/
variable {o e d : Expr} {to te td : TE} {apos cpos : Pos}
/-! ### t[lo:hi], the whole of it too -/
end
/-! ### sorted([t, u]) of two tuples of ints -/
section
variable {prog : Program} {w : World} {A : Around} {s : Shared} {fin : Bool} {Q : Bool → Shared → Prop}
theorem katlex_ints : ∀ (ns ms : List Int) (vs ws : List Value) (i : Nat), IntsAre vs ns → IntsAre ws ms → fin = decide (ns.length < ms.length) → Q (HT.lexLt ns ms) s → KatLex prog w A true fin Q (vs.zip ws) i s
  | [], [], _, _, _, .nil, .nil, hf, q => by
    subst hf
    exact kat_nil q
  | [], _ :: _, _, _, _, .nil, .cons _ _ _, hf, q => by
    subst hf
    exact kat_nil (by rw [decide_eq_true (by simp)]; exact q)
  | _ :: _, [], _, _, _, .cons _ _ _, .nil, hf, q => by
    subst hf
    exact kat_nil q
  | x :: ns, y :: ms, _, _, i, .cons _ t h1, .cons _ u h2, hf, q => by
    obtain ⟨e, he, iff⟩ := HT.eqAt_int A s x t y u
    rw [HT.lexLt_cons] at q
    refine kat_cons (he _ _ _ _ (kat_go (fun et => ?_) (fun ef => ?_)))
    · rw [if_pos (iff.mp et)] at q
      exact kat_yes (katlex_ints ns ms _ _ (i + 1) h1 h2 (by rw [hf]; simp) q)
    · have hne : x ≠ y := fun z => by rw [iff.mpr z] at ef; cases ef
      rw [if_neg hne] at q
      refine kat_no ?_
      cases i with
      | zero => exact oneLt_int q
      | succ i => exact kat_one _ _ (PyProof.Rows.lt_int q)
end
section
variable {X : Cx} {pins : List (Addr × Obj)} {σ : St} {H : Hp} {s : Shared} {h' : Heap}
theorem obj_some {P : Program} {w : World} {H : Hp} {h : Heap} {a : Addr} {o : HO} (x : ObjOk P w H h a o) : ∃ ob, h.get? a = some ob := by
  cases o with
  | lst xs =>
    have ⟨_, _, _, _, e⟩ := x
    exact ⟨_, e⟩
  | tup xs =>
    have ⟨_, _, _, ob, e, _⟩ := x
    exact ⟨ob, e⟩
  | dK kvs =>
    have ⟨_, _, _, _, ob, _, _, e, _⟩ := x
    exact ⟨ob, e⟩
  | dT kvs =>
    have ⟨_, _, _, _, ob, _, _, e, _⟩ := x
    exact ⟨ob, e⟩
  | set S n =>
    have ⟨ob, _, _, _, e, _⟩ := x
    exact ⟨ob, e⟩
  | ins C dx fs =>
    have ⟨_, _, _, e, _⟩ := x
    exact ⟨_, e⟩
  | own y => exact x
  | xd fs =>
    have ⟨_, ⟨ob, _, _, e, _⟩, _⟩ := x
    exact ⟨ob, e⟩
  | rng lo hi =>
    have ⟨_, _, _, e⟩ := x
    exact ⟨_, e⟩
  | frz ob u => exact ⟨ob, x.1⟩
  | tbl ps => exact ⟨_, x⟩
  | met f y => exact ⟨_, x⟩
  | ext φ => exact x.2.1
theorem none_of (I : Inv X pins σ H s) {a : Addr} (hg : s.heap.get? a = none) : H a = none := by
  cases q : H a with
  | none => rfl
  | some u =>
    obtain ⟨ob, e⟩ := obj_some (I.hok a u q)
    rw [hg] at e
    cases e
def restOf (base h : Heap) (L : Addr) : List (Addr × Obj) := (List.range h.objs.size).filterMap fun b => if b = L ∨ (base.get? b).isSome = true then none else (h.get? b).map fun o => (b, o)
theorem restOf_news (base h : Heap) (L : Addr) : News base L h (restOf base h L) := fun p hp => by
  obtain ⟨b, _, e⟩ := List.mem_filterMap.mp hp
  by_cases c : b = L ∨ (base.get? b).isSome = true
  · rw [if_pos c] at e; cases e
  · rw [if_neg c] at e
    cases q : h.get? b with
    | none => rw [q] at e; cases e
    | some o =>
      rw [q] at e
      cases e
      refine ⟨q, fun z => c (.inl z), ?_⟩
      cases z : base.get? b with
      | none => rfl
      | some u => exact absurd (.inr (by rw [z]; rfl)) c
theorem restOf_mem {base h : Heap} {L b : Addr} {o : Obj} (e : h.get? b = some o) (hL : b ≠ L) (hb : base.get? b = none) : (b, o) ∈ restOf base h L := by
  refine List.mem_filterMap.mpr ⟨b, List.mem_range.mpr (Heap.lt_size e), ?_⟩
  rw [if_neg (by rintro (z | z); exact hL z; rw [hb] at z; cases z), e]
  rfl
end
section
variable {X : Cx}
end

/-! ### tuples of ints, == and != -/
section
variable {X : Cx}
end
theorem iteIT {c A B : Prop} [Decidable c] (h : c) (hA : A) : if decide c = true then A else B := by
  rw [decide_eq_true h]
  exact iteT hA
theorem iteD {c A B : Prop} [Decidable c] (h1 : c → A) (h2 : ¬ c → B) : if decide c = true then A else B := by
  by_cases h : c
  · exact iteIT h (h1 h)
  · rw [decide_eq_false h]
    exact iteF (h2 h)
end L2
namespace L2
open PySem PySem.Spec PyProof.Rows
/-! ### a comprehension whose own name is a cell (a block within it reads it) -/
structure CompOk1 (X : Cx) (scope : Scope) (cx : Str) (cap : List Nat) (capN : List Str) : Prop where
  kind : scope.kind = .function
  names : ∀ x ∈ scope.names, x.2 = .local → scope.names.lookup x.1 = some .local
  onecell : ∀ y ∈ scope.names, y.2 = .cell → y.1 = cx
  own : scope.names.lookup cx = some .cell
  cf : ∀ (n : Nat) (acc : List (Str × Addr)), cellsFrom n scope.names acc = (cx, n) :: acc
  pc : ∀ h : Heap, pushCells h scope.names = h.push { cls := .type "cell", data := .cell none }
  frees : (scope.names.all fun y => !(y.2 == NameKind.free) || (X.env.kindOf y.1 == some .cell || X.env.kindOf y.1 == some .free)) = true
  cap : CapOk X scope cap capN
section
variable {X : Cx} {scope : Scope} {cx : Str} {cap : List Nat} {capN : List Str}
theorem CompOk1.around (O : CompOk1 X scope cx cap capN) {y : Str × NameKind} (hy : y ∈ scope.names) (hf : y.2 = .free) : X.env.kindOf y.1 = some .cell ∨ X.env.kindOf y.1 = some .free := by
  have q := List.all_eq_true.mp O.frees y hy
  rw [hf] at q
  simpa using q
theorem CompOk1.cells (O : CompOk1 X scope cx cap capN) (ok : X.Ok) : ∀ y ∈ scope.names, y.2 = .free → ∃ c, X.env.cells.lookup y.1 = some c := fun y hy hf => ok.has _ (O.around hy hf)
theorem CompOk1.clos (O : CompOk1 X scope cx cap capN) (ok : X.Ok) : closureFor scope X.env = pure (cloOf X.env scope.names []) := clo_for (O.cells ok)
theorem CompOk1.sub (O : CompOk1 X scope cx cap capN) (ok : X.Ok) : ∀ x c, (cloOf X.env scope.names []).lookup x = some c → X.env.cells.lookup x = some c := clo_sub (O.cells ok) fun x c e => by simp at e
theorem CompOk1.has (_O : CompOk1 X scope cx cap capN) {x : Str} (h : scope.names.lookup x = some .free) : ∃ c, (cloOf X.env scope.names []).lookup x = some c := clo_has h
theorem CompOk1.ne (O : CompOk1 X scope cx cap capN) {x : Str} (h : scope.names.lookup x = some .free) : x ≠ cx := fun z => by
  rw [z, O.own] at h
  cases h
end
section
variable {M : Model} {A : Around} {E : Value → Shared → Prop} {s : Shared}
end
section
variable {X : Cx} {pins : List (Addr × Obj)} {σ : St} {H : Hp} {s : Shared} {scope : Scope} {cx : Str} {cap : List Nat} {capN N' : List Str} {C : Addr} {ex : List Addr}
end

section
variable {X : Cx} {pins : List (Addr × Obj)} {σ : St} {H2 : Hp} {s2 : Shared} {scope : Scope} {cx : Str} {cap : List Nat} {capN own : List Str}
variable {elt tg iter : Expr} {ifs : List Expr} {pos : Pos} {g : TG} {tc : TT} {te : TE} {Q : VK}

end
/-! ### max of a list of ints -/
theorem ints_items : ∀ {vs : List Value} {ns : List Int}, IntsAre vs ns → ∃ xs : List (Int × Tok), vs = xs.map (fun p => .int p.1 p.2) ∧ ns = xs.map (·.1)
  | _, _, .nil => ⟨[], rfl, rfl⟩
  | _, _, .cons n t h => by
    obtain ⟨xs, e1, e2⟩ := ints_items h
    exact ⟨(n, t) :: xs, by rw [e1]; rfl, by rw [e2]; rfl⟩
section
variable {X : Cx}
/-! ### xs[::-1] of a list -/
theorem Vals.rev {xs : List V} {us : List Value} (h : Vals xs us) : Vals xs.reverse us.reverse := by
  induction h with
  | nil => exact .nil
  | cons r _ ih =>
    rw [List.reverse_cons, List.reverse_cons]
    exact ih.append (.cons r .nil)
end
end L2
namespace L2
open PySem PySem.Spec PyProof.Rows PySem.W
/-! ### the stations of an exception, its dict known -/
def DictIs (h : Heap) (e : Addr) (dc : Option Addr) : Prop := ∃ o, h.get? e = some o ∧ o.dict = dc
section
variable {M : Model} {A : Around} {E : Value → Shared → Prop} {s : Shared} {base : Heap} {env : Env} {outer l : List Env} {L e : Addr}
end
end L2
namespace L2
open PySem PySem.Spec PyProof.Rows PySem.W
/-! ### a text walked sign by sign -/
section
variable {X : Cx} {tg l : Expr} {tl : TE}
end
/-! ### ord of one sign -/
section
variable {X : Cx}
end
section
variable {X : Cx}
end
/-! ### a table of the text: a dict with texts as keys that stands at the top and is only read -/
inductive TV where
  | flat (v : V)
  | tup (xs : List V)
def vLook : V → Value → Bool
  | .non, .none => true
  | .bl b, .bool c => b == c
  | .int i, .int j _ => i == j
  | .str x, .str y _ => x == y
  | _, _ => false
theorem vLook_rel : ∀ {v : V} {u : Value}, vLook v u = true → RelV v u := by
  intro v u h
  unfold vLook at h
  split at h
  · exact rfl
  · obtain rfl := beq_iff_eq.mp h
    exact rfl
  · obtain rfl := beq_iff_eq.mp h
    exact ⟨_, rfl⟩
  · obtain rfl := beq_iff_eq.mp h
    exact ⟨_, rfl⟩
  · cases h
def vsLook : List V → List Value → Bool
  | [], [] => true
  | v :: vs, u :: us => vLook v u && vsLook vs us
  | _, _ => false
theorem vsLook_vals : ∀ {vs : List V} {us : List Value}, vsLook vs us = true → Vals vs us
  | [], [], _ => .nil
  | _ :: _, _ :: _, h => by
    have h := (Bool.and_eq_true _ _).mp h
    exact .cons (vLook_rel h.1) (vsLook_vals h.2)
  | [], _ :: _, h => nomatch h
  | _ :: _, [], h => nomatch h
def tvLook (K : PySem.W.Frag) : TV → Value → Bool
  | .flat v, u => vLook v u
  | .tup xs, .ref a => (match K.lookup a with
    | some o => o.cls == .type "tuple" && (match o.data with | .seq its _ => decide (its.size ≤ 1000) && vsLook xs its.toList | _ => false)
    | none => false)
  | _, _ => false
def TVOk (K : PySem.W.Frag) : TV → Value → Prop
  | .flat v, u => RelV v u
  | .tup xs, u => ∃ a, u = .ref a ∧ ∀ H, SqT K H a xs
theorem tv_ok {K : PySem.W.Frag} (d : TV) (u : Value) (h : tvLook K d u = true) : TVOk K d u := by
  unfold tvLook at h
  split at h
  · exact vLook_rel h
  · rename_i xs a
    split at h
    · rename_i o ho
      obtain ⟨e1, e2⟩ := (Bool.and_eq_true _ _).mp h
      split at e2
      · rename_i its n hd
        obtain ⟨e3, e4⟩ := (Bool.and_eq_true _ _).mp e2
        exact ⟨a, rfl, fun H => .inr ⟨o, its, n, ho, beq_iff_eq.mp e1, hd, size63 (of_decide_eq_true e3), vsLook_vals e4⟩⟩
      · cases e2
    · cases h
  · cases h
structure Tab (K : PySem.W.Frag) (a : Addr) (D : List (Str × TV)) : Prop where
  look : KTD.tabLook (tvLook K) (fun b => K.lookup b) a D = true
theorem Tab.at {K : PySem.W.Frag} {a : Addr} {D : List (Str × TV)} (T : Tab K a D) {h : Heap} (X : K.In h) : KTD.TabOf (TVOk K) h a D := KTD.tab_of_look tv_ok (fun b o e => X b o e) T.look
section
variable {prog : Program} {w : World} {A : Around} {E : Value → Shared → Prop} {s : Shared} {d : Addr} {o : Obj} {es : Array DictEntry} {ep : Nat} {x : Str} {tx : Tok}
end
section
variable {X : Cx}
end
end L2
namespace L2
open PySem PySem.Spec PyProof.Rows PySem.W
/-! ### an exception that leaves a def: how it lies behind the call -/
def CXr (P : Program) (w : World) : CXT := fun outer H s E e s' =>
  ∃ (ea t : Addr) (C : Value) (vs : List Value) (B : Heap) (H' : Hp) (dc : Option Addr), e = .ref ea ∧ s'.os = s.os ∧ AllBare s'.gens ∧ Un (frs outer) [] H H' s.heap s'.heap ∧ HOk P w H' s'.heap ∧
    Heap.FlyingW B outer ea C (.ref t) s'.heap ∧ s'.heap.TupAt t vs ∧ B.get? t = none ∧ (∀ b o, b ∉ frs outer → ((∃ u, H' b = some u) ∨ ∃ o0, s.heap.get? b = some o0) → s'.heap.get? b = some o → B.get? b = some o) ∧ DictIs s'.heap ea dc ∧ E C dc H'
section
variable {P : Program} {w : World} {K : PySem.W.Frag} {mg : Str → Option Value} {base : Heap} {N : List Str} {qual : Str} {scope : Scope} {f : Addr} {cd : Value} {A : Around} {outer : List Env} {s : Shared} {H : Hp} {E : XK}
end
/-! ### raise C(e, ..) of an own class under ValueError that has no __init__ of its own -/
structure ExCls (K : PySem.W.Frag) (C : Addr) : Prop where
  cls : ∀ h, K.In h → ∃ nm q N bs bm hdct sn sub ab col dd k0 k1 k2 k3 k5 mN, h.get? C = some (excClassObj nm q C N bs bm hdct sn sub ab col dd k0 k1 k2 k3 k5 "ValueError.__new__") ∧ h.Ns N mN ∧ mN "__init__" = none ∧ bm.contains (.type "BaseException") = true ∧
    OwnTail h [.type "ValueError", .type "Exception", .type "BaseException", .type "object"] bm
section
variable {X : Cx} {EC : Value → Hp → Prop} {C : Addr} {x : Str} {np cpos pos : Pos} {e : Expr} {es : List Expr} {ta : TA}
end
end L2
namespace L2
open PySem PySem.Spec PyProof.Rows PySem.W
/-! ### a def whose body may raise -/
structure FnX (P : Program) (w : World) (K : PySem.W.Frag) (mg : Str → Option Value) (base : Heap) (k : Nat) (x : Str) (ps : List Str) (sp : Sp) : Prop where
  ex : ∃ f fd, FnOk P w K mg base (CXr P w) k f fd ps sp ∧ mg x = some (.ref f) ∧ PySem.W.keepIn K (.ref f) = true ∧ Binds K fd ps []
/-! ### code that may raise, with the names as they were: XP is how the exception lies -/
def XP (X : Cx) (pins : List (Addr × Obj)) (σ : St) (E : XK) (e : Value) (s' : Shared) : Prop := ∃ s0 H0, Inv X pins σ H0 s0 ∧ CXr X.prog X.w X.stack H0 s0 E e s'
abbrev TX := St → Hp → VK → XK → Prop
structure QX (X : Cx) (e : Expr) (t : TX) : Prop where
  h : ∀ (pins : List (Addr × Obj)) (s : Shared) (σ : St) (H : Hp) (Q : VK) (E : XK), Inv X pins σ H s → t σ H Q E → wpAny (model X.prog X.w) X.A (eval e X.env) (EP X pins σ Q) (XP X pins σ E) s
section
variable {X : Cx} {k : Nat} {x : Str} {p pos : Pos} {e : Expr} {es : List Expr} {ps : List Str} {sp : Sp} {t : TA}
end
abbrev TSX := Ends → St → Hp → XK → Prop
structure QSX (X : Cx) (st : Stmt) (t : TSX) : Prop where
  h : ∀ (pins : List (Addr × Obj)) (s : Shared) (σ : St) (H : Hp) (D : Ends) (E : XK), Inv X pins σ H s → t D σ H E → wpAny (model X.prog X.w) X.A (exec st X.env) (SP X pins D) (XP X pins σ E) s
section
variable {X : Cx} {e : Expr} {tx : TX} {pos pos' : Pos} {x : Str}
end
/-! ### an exception on its way: the state behind it, but for the records that it bears -/
structure Fl (X : Cx) (H0 H' : Hp) (s0 s' : Shared) (B : Heap) : Prop where
  os : s'.os = s0.os
  bare : AllBare s'.gens
  un : Un (frs X.stack) [] H0 H' s0.heap s'.heap
  hok : HOk X.prog X.w H' s'.heap
  kb : ∀ b o, b ∉ frs X.stack → ((∃ u, H' b = some u) ∨ ∃ o0, s0.heap.get? b = some o0) → s'.heap.get? b = some o → B.get? b = some o
section
variable {X : Cx} {pins : List (Addr × Obj)} {σ : St} {H0 H' : Hp} {s0 s' : Shared} {B h' : Heap}
theorem Fl.inv (F : Fl X H0 H' s0 s' B) (I : Inv X pins σ H0 s0) : Inv X pins σ H' s' := I.call' F.os F.un F.hok F.bare fun _ z => nomatch z
theorem Fl.nf (F : Fl X H0 H' s0 s' B) (I : Inv X pins σ H0 s0) {b : Addr} {u : HO} (h : H' b = some u) : b ∉ frs X.stack := fun hm => by
  have := (F.inv I).stkFree b hm
  rw [h] at this
  cases this
end
/-! ### own exception classes: the class' object in K, with its mro -/
structure ExC (K : PySem.W.Frag) (C : Addr) (bm : List Value) : Prop where
  cls : ∀ h, K.In h → ∃ nm q N bs hdct sn sub ab col dd k0 k1 k2 k3 k5 ni, h.get? C = some (excClassObj nm q C N bs bm hdct sn sub ab col dd k0 k1 k2 k3 k5 ni)
  exc : bm.contains (.type "BaseException") = true
/-! ### the caught exception as a thing of the abstract heap -/
/-! ### the name goes -/
/-! ### a handler's suite: its own context -/
def Cx.exc (X : Cx) (e : Value) : Cx := { X with A := X.A.mark (some e), calm := false, xe := fun _ _ => False }
section
variable {X : Cx} {pins : List (Addr × Obj)} {σ : St} {H : Hp} {s : Shared} {e : Value}
theorem Inv.exc (I : Inv X pins σ H s) (e : Value) : Inv (X.exc e) pins σ H s :=
  ⟨⟨I.ok.mod, I.ok.kind, I.ok.glob, I.ok.blt, I.ok.above, I.ok.inj, I.ok.has, I.ok.cab, fun z => (nomatch z), I.ok.frames, I.ok.stk, I.ok.exf, I.ok.bs, I.ok.bsz, I.ok.noex, I.ok.exfs, I.ok.funs, I.ok.frf⟩, I.os, I.bare, I.base, I.loc, I.cell, I.free, I.freeC, I.pin, I.hok, I.len⟩
end
abbrev TH := Ends → St → Value → Option Addr → Hp → Prop
structure QH (X : Cx) (hs : List ExceptHandler) (th : TH) : Prop where
  h : ∀ (pins : List (Addr × Obj)) (s0 : Shared) (H0 : Hp) (σ : St) (D : Ends) (ea t : Addr) (C : Value) (B : Heap) (H' : Hp) (dc : Option Addr) (s' : Shared), Inv X pins σ H0 s0 → Fl X H0 H' s0 s' B → Heap.FlyingW B X.stack ea C (.ref t) s'.heap → DictIs s'.heap ea dc → th D σ C dc H' →
    wpAny (model X.prog X.w) X.A (handleBy (.ref ea) X.env hs) (SP X pins D) X.xe s'
section
variable {X : Cx}
end
end L2
namespace L2
open PySem PySem.Spec PyProof.Rows PySem.W
/-! ### what is looked up of an own exception class in K -/
abbrev VE : List Value := [.type "ValueError", .type "Exception", .type "BaseException", .type "object"]
structure ExcAt (K : PySem.W.Frag) (C : Addr) (bm : List Value) : Prop where
  isIn : excIn K C VE "ValueError.__new__" = true
  mro : ∃ c d cd sl, K.lookup C = some ⟨c, d, .cls cd, sl⟩ ∧ cd.mro = Value.ref C :: bm
  exc : bm.contains (.type "BaseException") = true
/-! ### isinstance of a caught exception -/
section
variable {K : PySem.W.Frag} {prog : Program} {w : World} {A : Around} {E : Value → Shared → Prop} {h : Heap} {g : Array GenState} {d : Drawn} {t : Nat} {os : OsState} {x D : Addr} {ox : Obj}
end
structure ExK (K : PySem.W.Frag) (c : Addr) : Prop where
  hc : (clsIn K c).isSome = true
  hga : findIn K (.ref c) "__getattribute__" = some (some (.builtin "BaseException.__getattribute__"))
  hgh : findIn K (.ref c) "__getattr__" = some none
  ha : findIn K (.ref c) "__class__" = some (some (.builtin "object.__class__"))
  hb : mroIn K c (.type "BaseException") = some true
  hm : mroIn K c (.type "object") = some true
section
variable {X : Cx}
end
end L2
namespace L2
open PySem PySem.Spec PyProof.Rows PySem.W
/-! ### numbers as texts -/
section
variable {X : Cx} {K : PySem.W.Frag}
/-! ### sep.join(list of texts) -/
end
/-! ### for a, b in zip(t, u) -/
/-- a comprehension by an invariant over what it has made so far -/
theorem comp_inv {J : It} {N n : Nat} {cap : List Nat} {g : TG} {te : TE} {σ : St} {H0 : Hp} {Q : VK} (Pv : Nat → List V → Hp → Prop) (hz : N ≤ 1000) (hn : ∀ i ys H, Pv i ys H → ys.length = i) (h0 : Pv 0 [] H0)
    (hgo : ∀ i ys H, i < N → Pv i ys H → J.go i H) (hst : ∀ ys H, Pv N ys H → J.stop N H)
    (ht : ∀ i ys H x H', i < N → Pv i ys H → J.yld i H x H' → ∀ A : VK, (∀ v H4, Pv (i + 1) (ys ++ [v]) H4 → A v H4) → g x (compSt n cap σ) H' fun σ2 H2 => te σ2 H2 A)
    (hq : ∀ ys p H, Pv N ys H → H p = none → Q (.ref p) (upd H p (.lst ys))) : tCompR n cap g tNoIf te σ J H0 Q := by
  refine ⟨fun i m ys H => m = N - i ∧ i ≤ N ∧ Pv i ys H, ⟨N, by simp, Nat.zero_le _, h0⟩, ?_⟩
  rintro i m ys H ⟨rfl, hi, pv⟩
  by_cases hlt : i < N
  · refine .inr ⟨hgo i ys H hlt pv, by rw [hn i ys H pv]; exact small1000 (by omega), fun x H' y => ?_⟩
    have k := ht i ys H x H' hlt pv y (fun v H4 => ∃ m', m' < N - i ∧ m' = N - (i + 1) ∧ i + 1 ≤ N ∧ Pv (i + 1) (ys ++ [v]) H4) (fun v H4 z => ⟨N - (i + 1), by omega, rfl, hlt, z⟩)
    unfold tNoIf
    simpa using k
  · have e : i = N := by omega
    subst e
    exact .inl ⟨hst ys H pv, fun p hp => hq ys p H pv hp⟩
end L2
namespace L2
open PySem PySem.Spec PyProof.Rows PySem.W
/-! ### texts: exact cuts, upper, times -/
section
variable {X : Cx} {K : PySem.W.Frag}
end
end L2
namespace L2
open PySem PySem.Spec PyProof.Rows PySem.W
end L2
namespace L2
open PySem PySem.Spec PyProof.Rows PySem.W
/-! ### the tree of a sort: every end is a permutation, every question is about items -/
def KIn {α : Type} (n : Nat) (P : α → Prop) : KasT α → Prop
  | .ret a => P a
  | .ask i j k => i < n ∧ j < n ∧ ∀ b, KIn n P (k b)
theorem KIn.bind {α β : Type} {n : Nat} {P : α → Prop} {R : β → Prop} {f : α → KasT β} : ∀ {t : KasT α}, KIn n P t → (∀ a, P a → KIn n R (f a)) → KIn n R (t.bind f)
  | .ret _, h, k => k _ h
  | .ask _ _ _, ⟨h1, h2, h3⟩, k => ⟨h1, h2, fun b => KIn.bind (h3 b) k⟩
def POk (n : Nat) (p : Array Nat) : Prop := p.Perm (List.range n).toArray
theorem POk.lt {n : Nat} {p : Array Nat} (h : POk n p) (hn : 0 < n) (k : Nat) : p.getD k 0 < n := by
  rw [Array.getD_eq_getD_getElem?]
  cases e : p[k]? with
  | none => exact hn
  | some x =>
    have hm : x ∈ p := Array.mem_of_getElem? e
    have := (h.mem_iff).mp hm
    simpa using this
theorem POk.rev {n : Nat} {p : Array Nat} (h : POk n p) (i j : Nat) : POk n (kas_rev p i j) := (mirror_perm p i j _).trans h
theorem POk.bub {n : Nat} {p : Array Nat} (h : POk n p) (i j : Nat) : POk n (bubble p i j) := (bubble_perm p i j).trans h
section
variable {X : Cx}
theorem c_sumT {K : PySem.W.Frag} (hK : X.K = K) (hc : X.calm = true) : QCall X (.builtin "sum") (fun xs H Q => ∃ (p : Addr) (ns : List Int), xs = [.ref p] ∧ SqT K H p (ns.map V.int) ∧ Q (.int ns.sum) H) := by
  subst hK
  refine ⟨?_⟩
  intro pins s σ H xs us Q I r h
  obtain ⟨p, ns, rfl, hS, q⟩ := h
  obtain ⟨u, rfl, ru⟩ := vals1 r
  cases ru
  obtain ⟨its, rv, pl, hz⟩ := I.tuple hS
  obtain ⟨ys, e1, e2⟩ := ints_items (intsAre_of rv)
  have hl : s.heap.IsTuple p (intItems ys.toArray) := by
    obtain ⟨o, ho, hc', n, hd⟩ := pl
    rw [e1] at hd
    exact ⟨o, ho, hc', n, by simpa [intItems] using hd⟩
  refine ktm_sumG (I.ok.hd hc) hl fun h' tk t' hk => ⟨.int ns.sum, H, I.kept (t' := tk) hk, ⟨t', ?_⟩, q⟩
  have e : preSum (numAt ys.toArray) ys.toArray.size = ns.sum := by
    rw [preSum_eq, List.take_of_length_le (by simp), e2]
  rw [e]
theorem o_rep : QOp X (binaryOp .Mult) rRep := ⟨op_rep⟩
end
end L2
namespace L2
open PySem PySem.Spec PyProof.Rows PySem.W
/-! ### a sort is sorted, and stable: by key, then by place -/
def KW {α : Type} (lt : Nat → Nat → Bool) (Q : α → Prop) : KasT α → Prop
  | .ret a => Q a
  | .ask i j k => KW lt Q (k (lt i j))
theorem KW.bind {α β : Type} {lt : Nat → Nat → Bool} {Q : β → Prop} {f : α → KasT β} : ∀ {t : KasT α}, KW lt (fun a => KW lt Q (f a)) t → KW lt Q (t.bind f)
  | .ret _, h => h
  | .ask i j k, h => KW.bind (t := k (lt i j)) h
theorem KW.mono {α : Type} {lt : Nat → Nat → Bool} {Q R : α → Prop} (k : ∀ a, Q a → R a) : ∀ {t : KasT α}, KW lt Q t → KW lt R t
  | .ret _, h => k _ h
  | .ask i j c, h => KW.mono k (t := c (lt i j)) h
structure LtOk (lt : Nat → Nat → Bool) : Prop where
  as : ∀ {a b}, lt a b = true → lt b a = false
  tr : ∀ {a b c}, lt b a = false → lt c b = false → lt c a = false
def gA (p : Array Nat) (k : Nat) : Nat := p.getD k 0
def Lx (lt : Nat → Nat → Bool) (a b : Nat) : Prop := lt b a = false ∧ (lt a b = true ∨ a < b)
section
variable {lt : Nat → Nat → Bool} (O : LtOk lt)
include O
theorem LtOk.lt_le {a b c : Nat} (h : lt a b = true) (h2 : lt c b = false) : lt a c = true := by
  cases e : lt a c with
  | true => rfl
  | false => rw [O.tr h2 e] at h; cases h
theorem LtOk.le_lt {a b c : Nat} (h : lt b a = false) (h2 : lt b c = true) : lt a c = true := by
  cases e : lt a c with
  | true => rfl
  | false => rw [O.tr e h] at h2; cases h2
theorem Lx.trans {a b c : Nat} (h : Lx lt a b) (k : Lx lt b c) : Lx lt a c := by
  refine ⟨O.tr h.1 k.1, ?_⟩
  rcases h.2 with x | x
  · exact .inl (O.lt_le x k.1)
  · rcases k.2 with y | y
    · exact .inl (O.le_lt h.1 y)
    · exact .inr (Nat.lt_trans x y)
theorem Lx.of_lt {a b : Nat} (h : lt a b = true) : Lx lt a b := ⟨O.as h, .inl h⟩
end
structure Fx (N : Nat) (p : Array Nat) (m : Nat) : Prop where
  sz : p.size = N
  hi : ∀ k, m ≤ k → k < N → gA p k = k
  lo : ∀ i, i < m → gA p i < m
def LS (lt : Nat → Nat → Bool) (p : Array Nat) (m : Nat) : Prop := ∀ i j, i < j → j < m → Lx lt (gA p i) (gA p j)
def AS (lt : Nat → Nat → Bool) (p : Array Nat) (m : Nat) : Prop := ∀ i j, i < j → j < m → Lx lt (gA p j) (gA p i)
theorem Fx.succ {N : Nat} {p : Array Nat} {m : Nat} (h : Fx N p m) (hm : m < N) : Fx N p (m + 1) := ⟨h.sz, fun k h1 h2 => h.hi k (by omega) h2, fun i hi => by
  rcases Nat.lt_or_ge i m with h1 | h1
  · have := h.lo i h1; omega
  · have e : i = m := by omega
    subst e
    rw [h.hi i (Nat.le_refl _) hm]
    omega⟩
theorem gA_rev {p : Array Nat} {i j k : Nat} (hj : j ≤ p.size) : gA (kas_rev p i j) k = if i ≤ k ∧ k < j then gA p (i + j - 1 - k) else gA p k := by
  unfold gA kas_rev
  rw [Array.getD_eq_getD_getElem?, getElem?_mirror_all hj]
  split
  · rw [Array.getD_eq_getD_getElem?]
  · rw [Array.getD_eq_getD_getElem?]
theorem gA_eq (p : Array Nat) (k : Nat) : gA p k = (p[k]?).getD 0 := by
  unfold gA
  rw [Array.getD_eq_getD_getElem?]
theorem gA_bub {p : Array Nat} {k d i : Nat} (hk : k < p.size) (hd : d ≤ k) : gA (bubble p k d) i = if i = k - d then gA p k else if k - d < i ∧ i ≤ k then gA p (i - 1) else gA p i := by
  rw [gA_eq, getElem?_bubble hk d hd]
  split
  · rw [gA_eq]
  · split
    · rw [gA_eq]
    · rw [gA_eq]
theorem Fx.rev {N : Nat} {p : Array Nat} {m i j : Nat} (h : Fx N p m) (hj : j ≤ m) (hm : m ≤ N) : Fx N (kas_rev p i j) m := by
  have hs : j ≤ p.size := by rw [h.sz]; omega
  refine ⟨by rw [kas_rev_size]; exact h.sz, fun k h1 h2 => ?_, fun k hk => ?_⟩
  · rw [gA_rev hs, if_neg (by omega)]
    exact h.hi k h1 h2
  · rw [gA_rev hs]
    split
    · exact h.lo _ (by omega)
    · exact h.lo _ hk
section
variable {lt : Nat → Nat → Bool} (O : LtOk lt) {N : Nat}
include O
theorem LS.step {p : Array Nat} {n : Nat} (h : LS lt p n) (hx : Lx lt (gA p (n - 1)) (gA p n)) (h1 : 1 ≤ n) : LS lt p (n + 1) := fun i j hij hj => by
  rcases Nat.lt_or_ge j n with h2 | h2
  · exact h i j hij h2
  · have e : j = n := by omega
    subst e
    rcases Nat.lt_or_ge i (j - 1) with h3 | h3
    · exact (h i (j - 1) h3 (by omega)).trans O hx
    · have e : i = j - 1 := by omega
      subst e
      exact hx
theorem kw_asc {p : Array Nat} : ∀ (f n : Nat), 1 ≤ n → n + f ≤ N → Fx N p n → LS lt p n → KW lt (fun m => n ≤ m ∧ m ≤ n + f ∧ Fx N p m ∧ LS lt p m ∧ (m < n + f → lt (gA p m) (gA p (m - 1)) = true)) (kas_asc p f n)
  | 0, n, _, _, hf, hs => ⟨Nat.le_refl _, Nat.le_refl _, hf, hs, fun h => absurd h (by omega)⟩
  | f + 1, n, h1, hN, hf, hs => by
    show KW lt _ (if lt (gA p n) (gA p (n - 1)) = true then .ret n else kas_asc p f (n + 1))
    by_cases c : lt (gA p n) (gA p (n - 1)) = true
    · rw [if_pos c]
      exact ⟨Nat.le_refl _, by omega, hf, hs, fun _ => c⟩
    · rw [if_neg c]
      have c' := Bool.eq_false_iff.mpr c
      have hx : Lx lt (gA p (n - 1)) (gA p n) := ⟨c', .inr (by rw [hf.hi n (Nat.le_refl _) (by omega)]; exact hf.lo _ (by omega))⟩
      refine KW.mono (fun m hm => ?_) (kw_asc f (n + 1) (by omega) (by omega) (hf.succ (by omega)) (hs.step O hx h1))
      exact ⟨by omega, by omega, hm.2.2.1, hm.2.2.2.1, fun z => hm.2.2.2.2 (by omega)⟩
theorem AS.rev {p : Array Nat} {n : Nat} (h : AS lt p n) (hn : n ≤ p.size) : LS lt (kas_rev p 0 n) n := fun i j hij hj => by
  rw [gA_rev hn, gA_rev hn, if_pos (by omega), if_pos (by omega)]
  exact h _ _ (by omega) (by omega)
theorem kw_tail {p : Array Nat} {n : Nat} (h1 : 1 ≤ n) (hN : n ≤ N) (hf : Fx N p n) (ha : AS lt p n) : KW lt (fun r => r.1 ≤ N ∧ 1 ≤ r.1 ∧ Fx N r.2 r.1 ∧ LS lt r.2 r.1) (kas_tail3 n N p) := by
  refine KW.bind (KW.mono (fun m hm => ?_) (kw_asc O (N := N) (N - n) n h1 (by omega) (hf.rev (Nat.le_refl _) hN) (ha.rev O (by rw [hf.sz]; exact hN))))
  exact ⟨by omega, by omega, hm.2.2.1, hm.2.2.2.1⟩
/-- a falling stretch whose last q + 1 items are alike -/
structure Dn (lt : Nat → Nat → Bool) (p : Array Nat) (n q : Nat) : Prop where
  hq : q + 1 ≤ n
  up : ∀ i j, i < j → j < n - (q + 1) → Lx lt (gA p j) (gA p i)
  cr : ∀ i j, i < n - (q + 1) → n - (q + 1) ≤ j → j < n → lt (gA p j) (gA p i) = true
  eq : ∀ i j, n - (q + 1) ≤ i → i < j → j < n → lt (gA p i) (gA p j) = false ∧ lt (gA p j) (gA p i) = false ∧ gA p i < gA p j
theorem Dn.rev {p : Array Nat} {n q : Nat} (h : Dn lt p n q) (hn : n ≤ p.size) : AS lt (kas_rev p (n - (q + 1)) n) n := fun i j hij hj => by
  have hq := h.hq
  rw [gA_rev hn, gA_rev hn]
  by_cases c1 : n - (q + 1) ≤ i
  · rw [if_pos (by omega), if_pos (by omega)]
    obtain ⟨e1, e2, e3⟩ := h.eq (n - (q + 1) + n - 1 - j) (n - (q + 1) + n - 1 - i) (by omega) (by omega) (by omega)
    exact ⟨e2, .inr e3⟩
  · rw [if_neg (show ¬ (n - (q + 1) ≤ i ∧ i < n) by omega)]
    by_cases c2 : n - (q + 1) ≤ j
    · rw [if_pos (by omega)]
      exact Lx.of_lt O (h.cr _ _ (by omega) (by omega) (by omega))
    · rw [if_neg (by omega)]
      exact h.up _ _ hij (by omega)
theorem Dn.zero {p : Array Nat} {n : Nat} (h : Dn lt p n 0) : AS lt p n := fun i j hij hj => by
  rcases Nat.lt_or_ge j (n - 1) with c | c
  · exact h.up i j hij c
  · exact Lx.of_lt O (h.cr i j (by omega) (by omega) hj)
theorem Dn.start {p : Array Nat} {n : Nat} (h : AS lt p n) (h1 : 1 ≤ n) (hl : lt (gA p n) (gA p (n - 1)) = true) : Dn lt p (n + 1) 0 := by
  refine ⟨by omega, fun i j hij hj => h i j hij (by omega), fun i j hi h2 h3 => ?_, fun i j h2 h3 h4 => absurd h3 (by omega)⟩
  have e : j = n := by omega
  subst e
  rcases Nat.lt_or_ge i (j - 1) with h3 | h3
  · exact O.lt_le hl (h i (j - 1) h3 (by omega)).1
  · have e : i = j - 1 := by omega
    subst e
    exact hl
theorem kw_desc : ∀ (f : Nat) {p : Array Nat} {n q : Nat}, n + f ≤ N → Fx N p n → Dn lt p n q → KW lt (fun r => n ≤ r.2.1 ∧ r.2.1 ≤ n + f ∧ Fx N r.1 r.2.1 ∧ Dn lt r.1 r.2.1 r.2.2) (kas_desc f p n q)
  | 0, _, n, _, _, hf, hd => ⟨Nat.le_refl _, Nat.le_refl _, hf, hd⟩
  | f + 1, p, n, q, hN, hf, hd => by
    have hs : n ≤ p.size := by rw [hf.sz]; omega
    have hq := hd.hq
    show KW lt _ (if lt (gA p n) (gA p (n - 1)) = true then (if q > 0 then kas_desc f (kas_rev p (n - (q + 1)) n) (n + 1) 0 else kas_desc f p (n + 1) 0) else KasT.ask (gA p (n - 1)) (gA p n) fun d => if d = true then .ret (p, n, q) else kas_desc f p (n + 1) (q + 1))
    by_cases c : lt (gA p n) (gA p (n - 1)) = true
    · rw [if_pos c]
      have wk : ∀ {r : Array Nat × Nat × Nat}, (n + 1 ≤ r.2.1 ∧ r.2.1 ≤ n + 1 + f ∧ Fx N r.1 r.2.1 ∧ Dn lt r.1 r.2.1 r.2.2) → n ≤ r.2.1 ∧ r.2.1 ≤ n + (f + 1) ∧ Fx N r.1 r.2.1 ∧ Dn lt r.1 r.2.1 r.2.2 := fun h => ⟨by omega, by omega, h.2.2.1, h.2.2.2⟩
      by_cases cq : q > 0
      · rw [if_pos cq]
        have fr := hf.rev (i := n - (q + 1)) (Nat.le_refl n) (by omega)
        have e1 : gA (kas_rev p (n - (q + 1)) n) n = gA p n := by rw [gA_rev hs, if_neg (by omega)]
        have e2 : gA (kas_rev p (n - (q + 1)) n) (n - 1) = gA p (n - (q + 1)) := by
          rw [gA_rev hs, if_pos (by omega)]
          congr 1
          omega
        have l2 : lt (gA p n) (gA p (n - (q + 1))) = true := O.lt_le c (hd.eq (n - (q + 1)) (n - 1) (Nat.le_refl _) (by omega) (by omega)).1
        refine KW.mono (fun r h => wk h) (kw_desc f (by omega) (fr.succ (by omega)) (Dn.start O (hd.rev O hs) (by omega) (by rw [e1, e2]; exact l2)))
      · rw [if_neg cq]
        have e : q = 0 := by omega
        subst e
        exact KW.mono (fun r h => wk h) (kw_desc f (by omega) (hf.succ (by omega)) (Dn.start O (hd.zero O) (by omega) c))
    · rw [if_neg c]
      have c' := Bool.eq_false_iff.mpr c
      show KW lt _ (if lt (gA p (n - 1)) (gA p n) = true then _ else _)
      by_cases d : lt (gA p (n - 1)) (gA p n) = true
      · rw [if_pos d]
        exact ⟨Nat.le_refl _, Nat.le_add_right _ _, hf, hd⟩
      · rw [if_neg d]
        have d' := Bool.eq_false_iff.mpr d
        have gn : gA p n = n := hf.hi n (Nat.le_refl _) (by omega)
        have same : ∀ i, n - (q + 1) ≤ i → i < n → lt (gA p i) (gA p n) = false ∧ lt (gA p n) (gA p i) = false := fun i h1 h2 => by
          rcases Nat.lt_or_ge i (n - 1) with h3 | h3
          · obtain ⟨a1, a2, _⟩ := hd.eq i (n - 1) h1 h3 (by omega)
            exact ⟨O.tr d' a1, O.tr a2 c'⟩
          · have e : i = n - 1 := by omega
            subst e
            exact ⟨d', c'⟩
        refine KW.mono (fun r h => ⟨by omega, by omega, h.2.2.1, h.2.2.2⟩) (kw_desc f (n := n + 1) (q := q + 1) (by omega) (hf.succ (by omega)) ⟨by omega, fun i j hij hj => hd.up i j hij (by omega), fun i j hi h2 h3 => ?_, fun i j h1 h2 h3 => ?_⟩)
        · rcases Nat.lt_or_ge j n with h4 | h4
          · exact hd.cr i j (by omega) (by omega) h4
          · have e : j = n := by omega
            subst e
            exact O.le_lt d' (hd.cr i (j - 1) (by omega) (by omega) (by omega))
        · rcases Nat.lt_or_ge j n with h4 | h4
          · exact hd.eq i j (by omega) h2 h4
          · have e : j = n := by omega
            subst e
            obtain ⟨a1, a2⟩ := same i (by omega) h2
            exact ⟨a1, a2, by rw [gn]; exact hf.lo _ h2⟩
theorem kw_descPart {p : Array Nat} {n : Nat} (h1 : 1 ≤ n) (hN : n < N) (hf : Fx N p n) (ha : AS lt p n) (hl : lt (gA p n) (gA p (n - 1)) = true) : KW lt (fun r => r.1 ≤ N ∧ 1 ≤ r.1 ∧ Fx N r.2 r.1 ∧ LS lt r.2 r.1) (kas_descPart n N p) := by
  refine KW.bind (KW.mono (fun r hr => ?_) (kw_desc O (N := N) (N - (n + 1)) (by omega) (hf.succ hN) (Dn.start O ha h1 hl)))
  obtain ⟨r1, r2, r3, r4⟩ := hr
  show KW lt _ (if r.2.2 > 0 then _ else _)
  by_cases c : r.2.2 > 0
  · rw [if_pos c]
    exact kw_tail O (by omega) (by omega) (r3.rev (Nat.le_refl _) (by omega)) (r4.rev O (by rw [r3.sz]; omega))
  · rw [if_neg c]
    have e : r.2.2 = 0 := by omega
    rw [e] at r4
    exact kw_tail O (by omega) (by omega) r3 (r4.zero O)
theorem kw_count {p : Array Nat} (hN : 1 ≤ N) (hf : Fx N p 1) : KW lt (fun r => r.1 ≤ N ∧ 1 ≤ r.1 ∧ Fx N r.2 r.1 ∧ LS lt r.2 r.1) (kas_count N p) := by
  refine KW.bind (KW.mono (fun n hn => ?_) (kw_asc O (N := N) (N - 1) 1 (Nat.le_refl _) (by omega) hf (fun i j h1 h2 => absurd h1 (by omega))))
  obtain ⟨n1, n2, nf, ns, nl⟩ := hn
  show KW lt _ (if (n == N) = true then KasT.ret (n, p) else if n > 1 then KasT.ask (gA p 0) (gA p (n - 1)) (fun c => if c = true then .ret (n, p) else kas_descPart n N (kas_rev p 0 n)) else kas_descPart n N p)
  by_cases c : (n == N) = true
  · rw [if_pos c]
    exact ⟨by omega, n1, nf, ns⟩
  · rw [if_neg c]
    have nN : n < N := by
      have : n ≠ N := fun z => c (beq_iff_eq.mpr z)
      omega
    have hl := nl (by omega)
    by_cases c2 : n > 1
    · rw [if_pos c2]
      show KW lt _ (if lt (gA p 0) (gA p (n - 1)) = true then _ else _)
      by_cases c3 : lt (gA p 0) (gA p (n - 1)) = true
      · rw [if_pos c3]
        exact ⟨by omega, n1, nf, ns⟩
      · rw [if_neg c3]
        have c3' := Bool.eq_false_iff.mpr c3
        have hs : n ≤ p.size := by rw [nf.sz]; omega
        have le0 : ∀ i, i < n → lt (gA p i) (gA p 0) = false := fun i hi => by
          rcases Nat.eq_zero_or_pos i with z | z
          · subst z
            cases e : lt (gA p 0) (gA p 0) with
            | false => rfl
            | true => rw [O.as e] at e; cases e
          · exact (ns 0 i z hi).1
        have leN : ∀ i, i < n → lt (gA p (n - 1)) (gA p i) = false := fun i hi => by
          rcases Nat.lt_or_ge i (n - 1) with z | z
          · exact (ns i (n - 1) z (by omega)).1
          · have e : i = n - 1 := by omega
            subst e
            cases e : lt (gA p (n - 1)) (gA p (n - 1)) with
            | false => rfl
            | true => rw [O.as e] at e; cases e
        have all : ∀ i j, i < n → j < n → lt (gA p i) (gA p j) = false := fun i j hi hj => O.tr (leN j hj) (O.tr c3' (le0 i hi))
        refine kw_descPart O n1 nN (nf.rev (Nat.le_refl _) (by omega)) (fun i j hij hj => ?_) ?_
        · rw [gA_rev hs, gA_rev hs, if_pos (by omega), if_pos (by omega)]
          have z := ns (0 + n - 1 - j) (0 + n - 1 - i) (by omega) (by omega)
          refine ⟨all _ _ (by omega) (by omega), ?_⟩
          rcases z.2 with y | y
          · rw [all _ _ (by omega) (by omega)] at y
            cases y
          · exact .inr y
        · rw [gA_rev hs, gA_rev hs, if_neg (by omega), if_pos (by omega)]
          exact O.lt_le hl (all _ _ (by omega) (by omega))
    · rw [if_neg c2]
      have e : n = 1 := by omega
      subst e
      exact kw_descPart O n1 nN nf (fun i j h1 h2 => absurd h1 (by omega)) hl
theorem kw_place {p : Array Nat} {k : Nat} (hs : LS lt p k) : ∀ (f l r : Nat), r - l ≤ f → r ≤ k → (∀ i, i < l → i < k → lt (gA p k) (gA p i) = false) → (∀ i, r ≤ i → i < k → lt (gA p k) (gA p i) = true) → l ≤ r →
    KW lt (fun m => m ≤ k ∧ (∀ i, i < m → lt (gA p k) (gA p i) = false) ∧ ∀ i, m ≤ i → i < k → lt (gA p k) (gA p i) = true) (kas_place p k f l r)
  | 0, l, r, h1, h2, h3, h4, h5 => ⟨by omega, fun i hi => h3 i hi (by omega), fun i hi => h4 i (by omega)⟩
  | f + 1, l, r, h1, h2, h3, h4, h5 => by
    show KW lt _ (if l ≥ r then KasT.ret l else KasT.ask (gA p k) (gA p ((l + r) / 2)) fun c => if c = true then kas_place p k f l ((l + r) / 2) else kas_place p k f ((l + r) / 2 + 1) r)
    by_cases c : l ≥ r
    · rw [if_pos c]
      exact ⟨by omega, fun i hi => h3 i hi (by omega), fun i hi => h4 i (by omega)⟩
    · rw [if_neg c]
      show KW lt _ (if lt (gA p k) (gA p ((l + r) / 2)) = true then _ else _)
      by_cases d : lt (gA p k) (gA p ((l + r) / 2)) = true
      · rw [if_pos d]
        refine kw_place hs f l ((l + r) / 2) (by omega) (by omega) h3 (fun i hi hk => ?_) (by omega)
        rcases Nat.eq_or_lt_of_le hi with e | e
        · rw [← e]; exact d
        · exact O.lt_le d (hs _ _ e hk).1
      · rw [if_neg d]
        have d' := Bool.eq_false_iff.mpr d
        refine kw_place hs f ((l + r) / 2 + 1) r (by omega) h2 (fun i hi hk => ?_) h4 (by omega)
        rcases Nat.lt_or_ge i ((l + r) / 2) with e | e
        · exact O.tr (hs _ _ e (by omega)).1 d'
        · have e : i = (l + r) / 2 := by omega
          rw [e]; exact d'
end
end L2
namespace L2
open PySem PySem.Spec PyProof.Rows PySem.W
/-! ### enumerate(xs) of a list, walked to a pair of names -/
def Ite (K : PySem.W.Frag) (a : Addr) (xs : List V) : It :=
  ⟨fun i H => i < xs.length ∧ SqL K H a xs, fun i H x H' => ∃ T p, H T = none ∧ xs[i]? = some p ∧ x = .ref T ∧ H' = upd H T (.tup [.int i, p]), fun i H => i = xs.length ∧ SqL K H a xs⟩
abbrev eTn (e it a : Addr) : Nat → Heap → Prop := fun i h => (∃ old, IsEnum h e it i old) ∧ h.IsListIter it a i
theorem turn_enum {P : Program} {w : World} {K : PySem.W.Frag} {elts : List Expr} {kt : Nat} {tp : Pos} {e it a : Addr} {xs : List V} (ne : e ≠ it) (ha : e ≠ a ∧ it ≠ a) :
    Turn P w K (.Tuple elts kt tp) (Ite K a xs) [e, it] e (eTn e it a) := by
  refine ⟨by simp, fun i h st c hc => ?_, fun i h h' st k => ?_, ?_, ?_, fun A i s Q E st h => ?_⟩
  · obtain ⟨⟨old, e1⟩, ⟨o4, e4, _, d4⟩⟩ := st
    simp only [List.mem_cons, List.not_mem_nil, or_false] at hc
    rcases hc with rfl | rfl
    · exact ⟨_, e1, fun v z => nomatch z⟩
    · exact ⟨_, e4, fun v z => by rw [d4] at z; cases z⟩
  · obtain ⟨⟨old, e1⟩, ⟨o4, e4, r4⟩⟩ := st
    exact ⟨⟨old, k e (by simp) _ e1⟩, ⟨o4, k it (by simp) _ e4, r4⟩⟩
  · intro X hP hw hK hc i pins s σ H E I hf st hg
    subst hP hw hK
    obtain ⟨⟨old, e1⟩, e4⟩ := st
    obtain ⟨hi, hx⟩ := hg
    obtain ⟨its, rx, px, zx⟩ := I.list hx
    have lx : i < its.toArray.size := by rw [List.size_toArray, ← rx.length]; exact hi
    have hh := I.ok.hd hc
    refine wpAny_pyNext_enum_itemD (Draws.list (A := X.A.in1) hh it a ha.2.symm its.toArray) e1 ⟨e4, px.isList⟩ lx ne (by simp [ne, ha.1]) fun x h' tk qx ho hs' hT hsz hk => ?_
    refine ⟨_, rfl, wpAny_letOwnedTupleGo_enum (s := { s with heap := h', toks := tk + 1 }) ho fun h2 he2 sb => ?_⟩
    obtain ⟨xv, ex⟩ : ∃ xv, xs[i]? = some xv := ⟨xs[i], by simp [hi]⟩
    obtain ⟨x', gx, rxv⟩ := rx.get ex
    have qx' : its[i]? = some x := by simpa using qx
    rw [gx] at qx'
    cases qx'
    have lte : e < s.heap.objs.size := Heap.lt_size e1
    have kp2 : ∀ c o, c ∉ [e, it] → s.heap.get? c = some o → h2.get? c = some o := fun c o hc q => by
      simp only [List.mem_cons, List.not_mem_nil, or_false, not_or] at hc
      exact sb.extBut c o hc.1 (hk c o hc.1 hc.2 q)
    have tT : IsTup h2 s.heap.objs.size [.int i tk, x].toArray := ⟨_, sb.extBut _ _ (Nat.ne_of_gt lte) hT, rfl, _, rfl⟩
    refine ⟨.ref s.heap.objs.size, upd H s.heap.objs.size (.tup [.int i, xv]), I.turnT (t' := tk + 1) hf kp2 tT (.cons ⟨tk, rfl⟩ (.cons rxv .nil)) (size63 (Nat.le_of_ble_eq_true rfl)), rfl, ⟨_, xv, I.hok.fresh (Nat.le_refl _), ex, rfl, rfl⟩, ?_, fun c hc => ?_⟩
    · exact ⟨⟨_, by simpa using he2⟩, hs'.1.extBut sb.extBut ne.symm⟩
    · rw [upd_ne]
      · exact (hf c hc).1
      · obtain ⟨o, eo⟩ : ∃ o, s.heap.get? c = some o := by
          simp only [List.mem_cons, List.not_mem_nil, or_false] at hc
          rcases hc with rfl | rfl
          · exact ⟨_, e1⟩
          · obtain ⟨o, eo, _⟩ := e4
            exact ⟨o, eo⟩
        exact Nat.ne_of_lt (Heap.lt_size eo)
  · intro X hP hw hK hc i pins s σ H E I hf st hg
    subst hP hw hK
    obtain ⟨⟨old, e1⟩, e4⟩ := st
    obtain ⟨rfl, hx⟩ := hg
    obtain ⟨its, rx, px, zx⟩ := I.list hx
    have lx : its.toArray.size = xs.length := by rw [List.size_toArray, ← rx.length]
    have hh := I.ok.hd hc
    refine wpAny_pyNext_enum_endD (Draws.list (A := X.A.in1) hh it a ha.2.symm its.toArray) e1 ⟨by rw [lx]; exact e4, px.isList⟩ fun h' kp => ⟨rfl, ?_⟩
    exact I.turnM (t' := s.toks) hf fun c ob hc q => by
      simp only [List.mem_cons, List.not_mem_nil, or_false, not_or] at hc
      exact kp c ob hc.2 q
  · obtain ⟨⟨old, e1⟩, _⟩ := st
    exact wpAny_pyIter_enum e1 h
def iEnum (K : PySem.W.Frag) (ta : TA) : TI := fun σ H R => ta σ H fun vs H1 => ∃ a xs, vs = [.ref a] ∧ H1 a = some (.lst xs) ∧ R (Ite K a xs) H1
section
variable {X : Cx}
theorem pi_enum {e1 : Expr} {ta : TA} {p pos tp : Pos} {elts : List Expr} {kt : Nat} (hg : Gl X "enumerate") (hm : X.mg "enumerate" = none) (ha : PA X [e1] ta) (n1 : noStar e1 = true) : PI X (.Tuple elts kt tp) (.Call (.Name "enumerate" p) [e1] [] pos) (iEnum X.K ta) := by
  intro pins s σ H R I h
  refine Call_ (ld_blt I hg hm boot_enumerate (PyProof.Rows.callWith_type1 (thn (ha pos pins s σ H _ I h) fun us s1 ⟨vs, H1, I1, r1, q1⟩ => ?_) (star_cons n1) (plain_back (by simp))))
  obtain ⟨a, xs, e, hx, q⟩ := q1
  subst e
  obtain ⟨ua, rfl, ra⟩ := vals1 r1
  cases ra
  obtain ⟨z, its, n, rx, hl', eo⟩ := I1.lstM hx
  have la : a < s1.heap.objs.size := Heap.lt_size eo
  refine call_enumerate_1 eo fun h' he hl hz hk => wpAny_pyIter_enum he ?_
  refine ⟨s1.heap.objs.size + 1, [s1.heap.objs.size + 1, s1.heap.objs.size], eTn (s1.heap.objs.size + 1) s1.heap.objs.size a, _, H1, rfl, I1.kept (t' := s1.toks) hk, turn_enum (Nat.succ_ne_self _) ⟨Nat.ne_of_gt (Nat.lt_succ_of_lt la), Nat.ne_of_gt la⟩, ⟨⟨_, he⟩, hl⟩, fun c hc => ?_, q⟩
  have hc' : s1.heap.objs.size ≤ c := by
    simp only [List.mem_cons, List.not_mem_nil, or_false] at hc
    rcases hc with rfl | rfl
    · exact Nat.le_succ _
    · exact Nat.le_refl _
  exact I1.fpOk hc' (I1.hok.fresh hc')
theorem i_enum {e1 : Expr} {ta : TA} {p pos tp : Pos} {elts : List Expr} {kt : Nat} (hm : X.mg "enumerate" = none) (ha : QA X [e1] ta) (hg : Gl X "enumerate" := by rfl) (n1 : noStar e1 = true := by rfl) : QI X (.Tuple elts kt tp) (.Call (.Name "enumerate" p) [e1] [] pos) (iEnum X.K ta) := ⟨pi_enum hg hm ha.h n1⟩
end
/-- for i, x in enumerate(xs) -/
theorem for_enum {K : PySem.W.Frag} {a : Addr} {xs : List V} {i j : Nat} {tb : TS} {D : Ends} {σ : St} {H : Hp} (Pv : Nat → St → Hp → Prop) (h0 : Pv 0 σ H) (ha : ∀ i σ H, i ≤ xs.length → Pv i σ H → SqL K H a xs)
    (hs : ∀ k x σ H, xs[k]? = some x → Pv k σ H → ∀ T, H T = none → tb { D with nx := Pv (k + 1), ct := Pv (k + 1), bk := D.nx } ((σ.set i (some (.int k))).set j (some x)) (upd H T (.tup [.int k, x]))) (hd : ∀ σ H, Pv xs.length σ H → D.nx σ H) :
    ∃ W : Nat → Nat → St → Hp → Prop, (∃ m, W 0 m σ H) ∧ ∀ k m σ H, W k m σ H →
      ((Ite K a xs).stop k H ∧ D.nx σ H) ∨ ((Ite K a xs).go k H ∧ ∃ N : St → Hp → Prop, (∀ σ' H', N σ' H' → ∃ m', m' < m ∧ W (k + 1) m' σ' H') ∧ ∀ x H', (Ite K a xs).yld k H x H' → gTup K 2 (gCons (gName i) (gCons (gName j) gNil)) x σ H' fun σ2 H2 => tb { D with nx := N, ct := N, bk := D.nx } σ2 H2) := by
  refine ⟨fun k m σ H => m = xs.length - k ∧ k ≤ xs.length ∧ Pv k σ H, ⟨xs.length, by simp, Nat.zero_le _, h0⟩, ?_⟩
  rintro k m σ H ⟨rfl, hk, pv⟩
  by_cases hlt : k < xs.length
  · refine .inr ⟨⟨hlt, ha k σ H hk pv⟩, Pv (k + 1), fun σ' H' z => ⟨xs.length - (k + 1), by omega, rfl, hlt, z⟩, fun x H' y => ?_⟩
    obtain ⟨T, p, hT, hx, rfl, rfl⟩ := y
    exact ⟨T, [.int k, p], rfl, SqT.of upd_same, rfl, .int k, [p], rfl, p, [], rfl, rfl, hs k p σ H hx pv T hT⟩
  · have e : k = xs.length := by omega
    subst e
    exact .inl ⟨⟨rfl, ha _ σ H hk pv⟩, hd σ H pv⟩
end L2
namespace L2
open PySem PySem.Spec PyProof.Rows PySem.W
/-! ### sorted(xs, key=f) -/
section
variable {X : Cx} {pins : List (Addr × Obj)} {σ : St} {H : Hp} {s : Shared} {h' : Heap}
/-- untracked objects of ours have changed, the frame's own names are kept -/
theorem Inv.movedF {ch : List Addr} {t' : Nat} (I : Inv X pins σ H s) (hch : ∀ b ∈ ch, FpOk X pins H b) (k : ∀ b u, b ≠ X.env.locals → b ∉ ch → s.heap.get? b = some u → h'.get? b = some u) (hn : ∃ m, s.heap.Ns X.env.locals m ∧ h'.Ns X.env.locals m) : Inv X pins σ H { s with heap := h', toks := t' } := by
  have neL : ∀ {b : Addr} {u : HO}, H b = some u → b ≠ X.env.locals := fun {b u} e => ne_of_none e I.free
  have neC : ∀ {b : Addr} {u : HO}, H b = some u → b ∉ ch := fun {b u} e z => by
    have := (hch b z).1
    rw [e] at this
    cases this
  refine I.step (g' := s.gens) (d' := s.drawn) (ch := ch) (fun b hb => ⟨(hch b hb).2.2.2.1, (hch b hb).2.1, (hch b hb).2.2.2.2.1, (hch b hb).2.2.2.2.2⟩) (fun b o hL _ hc e _ => k b o hL hc e) (fun b o hL _ hc e _ => ⟨o.slots, k b o hL hc e⟩) (fun b o _ e n => n) (fun b o hc e => ?_)
    (fun b xs e => e) (fun b o u e => e) (fun b ps e => ⟨#[], by rw [e]; simp⟩) (fun m' hm' => ?_) (fun b u e => ?_) I.bare
  · by_cases hL : b = X.env.locals
    · obtain ⟨m, _, o', _, _, e', _⟩ := hn
      exact ⟨o', by rw [hL]; exact e'⟩
    · exact ⟨o, k b o hL hc e⟩
  · obtain ⟨m, h1, h2⟩ := hn
    rw [hm'.eq_nsMap, ← h1.eq_nsMap]
    exact h2
  · refine (I.hok b u e).stay (fun c v hc q => k c v ?_ ?_ q) (fun c q => q) fun c ys q => q
    · rcases hc with z | z
      · rw [z]; exact neL e
      · exact neL z
    · rcases hc with z | z
      · rw [z]; exact neC e
      · exact neC z
/-- one of them is known from here on -/
theorem Inv.tookF {ch : List Addr} {a : Addr} {o : HO} {t' : Nat} (I : Inv X pins σ H s) (ha : a ∈ ch) (hch : ∀ b ∈ ch, FpOk X pins H b) (k : ∀ b u, b ≠ X.env.locals → b ∉ ch → s.heap.get? b = some u → h'.get? b = some u) (hn : ∃ m, s.heap.Ns X.env.locals m ∧ h'.Ns X.env.locals m)
    (new : ObjOk X.prog X.w (upd H a o) h' a o) : Inv X pins σ (upd H a o) { s with heap := h', toks := t' } := by
  have fr := (hch a ha).1
  have ne : ∀ {b : Addr} {u : HO}, H b = some u → b ≠ a := fun {b u} e => ne_of_none e fr
  have neL : ∀ {b : Addr} {u : HO}, H b = some u → b ≠ X.env.locals := fun {b u} e => ne_of_none e I.free
  have neC : ∀ {b : Addr} {u : HO}, H b = some u → b ∉ ch := fun {b u} e z => by
    have := (hch b z).1
    rw [e] at this
    cases this
  refine I.step (g' := s.gens) (d' := s.drawn) (ch := ch) (fun b hb => ⟨(hch b hb).2.2.2.1, (hch b hb).2.1, (hch b hb).2.2.2.2.1, (hch b hb).2.2.2.2.2⟩) (fun b o hL _ hc e _ => k b o hL hc e) (fun b o hL _ hc e _ => ⟨o.slots, k b o hL hc e⟩) (fun b o hc e n => by rw [upd_ne (fun z : b = a => hc (by rw [z]; exact ha))]; exact n) (fun b o hc e => ?_)
    (fun b xs e => by rw [upd_ne (ne e)]; exact e) (fun b o u e => by rw [upd_ne (ne e)]; exact e) (fun b ps e => ⟨#[], by rw [upd_ne (ne e), e]; simp⟩) (fun m' hm' => ?_) (fun b u e => ?_) I.bare
  · by_cases hL : b = X.env.locals
    · obtain ⟨m, _, o', _, _, e', _⟩ := hn
      exact ⟨o', by rw [hL]; exact e'⟩
    · exact ⟨o, k b o hL hc e⟩
  · obtain ⟨m, h1, h2⟩ := hn
    rw [hm'.eq_nsMap, ← h1.eq_nsMap]
    exact h2
  · by_cases hb : b = a
    · subst hb
      rw [upd_same] at e
      cases e
      exact new
    · rw [upd_ne hb] at e
      refine (I.hok b u e).stay (fun c v hc q => k c v ?_ ?_ q) (fun c q => by rw [upd_ne (ne q)]; exact q) fun c ys q => by rw [upd_ne (ne q)]; exact q
      · rcases hc with z | z
        · rw [z]; exact neL e
        · exact neL z
      · rcases hc with z | z
        · rw [z]; exact neC e
        · exact neC z
/-- all objects but base's, the frame's own and one -/
def restBut (base h : Heap) (L kS : Addr) : List (Addr × Obj) := (restOf base h L).filter fun p => decide (p.1 ≠ kS)
theorem restBut_news {base h : Heap} {L kS : Addr} {o : Obj} (e : h.get? kS = some o) (hL : kS ≠ L) (hb : base.get? kS = none) : News base L h ((kS, o) :: restBut base h L kS) := fun p hp => by
  rcases List.mem_cons.mp hp with rfl | hp
  · exact ⟨e, hL, hb⟩
  · exact restOf_news base h L p (List.mem_filter.mp hp).1
theorem restBut_ne {base h : Heap} {L kS : Addr} : ∀ p ∈ restBut base h L kS, p.1 ≠ kS := fun p hp => of_decide_eq_true (List.mem_filter.mp hp).2
theorem restBut_keep {base h h2 : Heap} {L kS : Addr} {o' : Obj} {m : Str → Option Value} (hbk : ∀ b o, base.get? b = some o → h.get? b = some o) (F : Fr base L h2 m) (N : News base L h2 ((kS, o') :: restBut base h L kS)) : ∀ b u, b ≠ L → b ∉ [kS] → h.get? b = some u → h2.get? b = some u := fun b u hL hk e => by
  cases q : base.get? b with
  | none => exact (N (b, u) (.tail _ (List.mem_filter.mpr ⟨restOf_mem e hL q, decide_eq_true (fun z => hk (List.mem_singleton.mpr z))⟩))).1
  | some o =>
    have e' := hbk b o q
    rw [e] at e'
    cases e'
    exact F.keep b u q
/-- the state between two keys -/
structure SK (X : Cx) (pins : List (Addr × Obj)) (σ : St) (H1 : Hp) (m : Str → Option Value) (kS D : Addr) (e1 : Nat) (ks : List (List Int)) (as : List Addr) (e : Nat) (H : Hp) (s : Shared) : Prop where
  I : Inv X pins σ H s
  sm : Same H1 H
  fk : FpOk X pins H kS
  fd : FpOk X pins H D
  bk : X.base.get? kS = none
  bd : X.base.get? D = none
  hk : s.heap.get? kS = some (seqObj "list" (List.toArray (as.map Value.ref)) e)
  hd : s.heap.get? D = some (seqObj "list" #[] e1)
  ns : s.heap.Ns X.env.locals m
  keys : ∀ (i : Nat) (a : Addr) (k : List Int), as[i]? = some a → ks[i]? = some k → H a = some (.tup (k.map V.int))
theorem SK.fr {H1 : Hp} {m : Str → Option Value} {kS D : Addr} {e1 : Nat} {ks : List (List Int)} {as : List Addr} {e : Nat} (S : SK X pins σ H1 m kS D e1 ks as e H s) : Fr X.base X.env.locals s.heap m := ⟨S.ns, S.I.bk, Nat.le_trans S.I.ok.bsz S.I.ok.above⟩
end
end L2
namespace L2
open PySem PySem.Spec PyProof.Rows PySem.W
theorem lex_as : ∀ {a b : List Int}, HT.lexLt a b = true → HT.lexLt b a = false
  | [], [], h => by cases h
  | [], _ :: _, _ => rfl
  | _ :: _, [], h => by cases h
  | x :: a, y :: b, h => by
    rw [HT.lexLt_cons] at h ⊢
    by_cases e : x = y
    · subst e
      rw [if_pos rfl] at h ⊢
      exact lex_as h
    · rw [if_neg e] at h
      rw [if_neg (fun z => e z.symm)]
      have := of_decide_eq_true h
      exact decide_eq_false (by omega)
theorem lex_tr : ∀ {a b c : List Int}, HT.lexLt b a = false → HT.lexLt c b = false → HT.lexLt c a = false
  | [], [], [], _, _ => rfl
  | [], [], _ :: _, _, _ => rfl
  | [], _ :: _, [], _, h => by cases h
  | [], _ :: _, _ :: _, _, _ => rfl
  | _ :: _, [], _, h, _ => by cases h
  | _ :: _, _ :: _, [], _, h => by cases h
  | x :: a, y :: b, z :: c, h, k => by
    rw [HT.lexLt_cons] at h k ⊢
    by_cases e : y = x
    · subst e
      rw [if_pos rfl] at h
      by_cases e2 : z = y
      · rw [if_pos e2] at k ⊢
        exact lex_tr h k
      · rw [if_neg e2] at k ⊢
        exact k
    · rw [if_neg e] at h
      have h' := of_decide_eq_false h
      by_cases e2 : z = y
      · rw [if_neg (by omega)]
        exact decide_eq_false (by omega)
      · rw [if_neg e2] at k
        have k' := of_decide_eq_false k
        rw [if_neg (by omega)]
        exact decide_eq_false (by omega)
theorem lex_ok (ks : List (List Int)) : LtOk (fun i j => HT.lexLt (ks.getD i []) (ks.getD j [])) := ⟨lex_as, lex_tr⟩
section
variable {X : Cx} {pins : List (Addr × Obj)} {σ : St} {H : Hp} {s : Shared}
def wX (X : Cx) (l : List Addr) : Cx := { X with ex := l ++ X.ex }
structure ExOk (X : Cx) (b : Addr) : Prop where
  old : b ∈ X.ex ∨ X.s₀.heap.get? b = none
  loc : b ≠ X.env.locals
  cel : ∀ x c, X.env.cells.lookup x = some c → c ≠ b
  bas : X.base.get? b = none
  fs : b ∉ X.fs
theorem Inv.widen {l : List Addr} (I : Inv X pins σ H s) (hl : ∀ b ∈ l, ExOk X b) : Inv (wX X l) pins σ H s := by
  have ok : (wX X l).Ok := by
    have o := I.ok
    refine ⟨o.mod, o.kind, o.glob, o.blt, o.above, o.inj, o.has, o.cab, o.hd, o.frames, o.stk, fun b hb => ?_, o.bs, o.bsz, fun b ob hb z => ?_, fun b hb => ?_, o.funs, o.frf⟩
    · rcases List.mem_append.mp hb with h | h
      · exact ⟨(hl b h).loc, (hl b h).cel⟩
      · exact o.exf b h
    · rcases List.mem_append.mp z with h | h
      · have hb' : X.base.get? b = some ob := hb
        rw [(hl b h).bas] at hb'
        cases hb'
      · exact o.noex b ob hb h
    · rcases List.mem_append.mp hb with h | h
      · exact (hl b h).fs
      · exact o.exfs b h
  have ne : ∀ {b : Addr}, b ∉ l ++ X.ex → b ∉ X.ex := fun h z => h (List.mem_append_right _ z)
  have u := I.base
  exact ⟨ok, I.os, I.bare, ⟨fun b o e n hb hx => u.keep b o e n hb (ne hx), fun b o e n hb hx => u.slot b o e n hb (ne hx), fun b o e n hx => u.free b o e n (ne hx), fun b o e hx => u.there b o e (ne hx), u.tups, u.frzs, u.tbls⟩, I.loc, I.cell, I.free, I.freeC, I.pin, I.hok, I.len⟩
theorem Inv.narrow {l : List Addr} (I : Inv (wX X l) pins σ H s) (ok : X.Ok) (hl : ∀ b ∈ l, b ∈ X.ex ∨ X.s₀.heap.get? b = none) : Inv X pins σ H s := by
  have ne : ∀ {b : Addr} {o : Obj}, X.s₀.heap.get? b = some o → b ∉ X.ex → b ∉ l ++ X.ex := fun {b o} e h z => by
    rcases List.mem_append.mp z with z | z
    · rcases hl b z with y | y
      · exact h y
      · rw [y] at e
        cases e
    · exact h z
  have u := I.base
  exact ⟨ok, I.os, I.bare, ⟨fun b o e n hb hx => u.keep b o e n hb (ne e hx), fun b o e n hb hx => u.slot b o e n hb (ne e hx), fun b o e n hx => u.free b o e n (ne e hx), fun b o e hx => u.there b o e (ne e hx), u.tups, u.frzs, u.tbls⟩, I.loc, I.cell, I.free, I.freeC, I.pin, I.hok, I.len⟩
/-- an address that is not alive may be among those that change -/
theorem Inv.exOk (I : Inv X pins σ H s) {b : Addr} (hb : s.heap.get? b = none) (hL : b ≠ X.env.locals) (h0 : X.base.get? b = none) : ExOk X b := by
  have old : b ∈ X.ex ∨ X.s₀.heap.get? b = none := by
    by_cases hx : b ∈ X.ex
    · exact .inl hx
    · cases e : X.s₀.heap.get? b with
      | none => exact .inr rfl
      | some o =>
        obtain ⟨o', e'⟩ := I.base.there b o e hx
        rw [hb] at e'
        cases e'
  refine ⟨old, hL, fun x c e z => ?_, h0, fun z => ?_⟩
  · obtain ⟨v, o, ho, _⟩ := I.cell x c e
    rw [z, hb] at ho
    cases ho
  · obtain ⟨_, o, ho, _⟩ := I.ok.funs.mem z
    rcases old with y | y
    · exact I.ok.exfs b y z
    · rw [y] at ho
      cases ho
theorem Inv.fpW {l : List Addr} (I : Inv X pins σ H s) {b : Addr} (hm : b ∈ l) (x : ExOk X b) (hb : s.heap.get? b = none) : FpOk (wX X l) pins H b := by
  refine ⟨none_of I hb, x.loc, x.fs, .inl (List.mem_append_left _ hm), x.cel, fun p hp z => ?_⟩
  have := (I.pin p hp).1
  rw [z, hb] at this
  cases this
end
end L2
namespace L2
open PySem PySem.Spec PyProof.Rows PySem.W
/-! ### dicts with pairs as keys, as closed judgements -/
section
variable {X : Cx} {o i value : Expr} {pos pos' : Pos} {td ty tv : TE}
theorem q_d0T : QE X (.Dict [] [] pos) tDNewT := ⟨pe_dnewT⟩
theorem q_dget (hu : X.A.units + 64 < cLine) (ho : QE X o td) (hi : QE X i ty) (hs : NoSl i := by intro _ _; rfl) : QE X (.Subscript o i pos) (tDGet td ty) := ⟨pe_dget (by omega) ho.h hi.h hs⟩
theorem q_din (hu : X.A.units + 64 < cLine) (hi : QE X i ty) (ho : QE X o td) (hm : behindInMarks .In o = false := by with_unfolding_all rfl) : QE X (.Compare i [.In] [o] pos) (tDIn ty td) := ⟨pe_cmp (pc_din (by omega) hi.h ho.h) hm⟩
theorem t_din (hu : X.A.units + 64 < cLine) (hi : QE X i ty) (ho : QE X o td) (hm : behindInMarks .In o = false := by with_unfolding_all rfl) : QT X (.Compare i [.In] [o] pos) (tB (tDIn ty td)) := ⟨pt_cmp (pc_din (by omega) hi.h ho.h) hm⟩
theorem t_dnotin (hu : X.A.units + 64 < cLine) (hi : QE X i ty) (ho : QE X o td) (hm : behindInMarks .NotIn o = false := by with_unfolding_all rfl) : QT X (.Compare i [.NotIn] [o] pos) (tB (tDNotIn ty td)) := ⟨pt_cmp (pc_dnotin (by omega) hi.h ho.h) hm⟩
theorem s_dput (hu : X.A.units + 64 < cLine) (ho : QE X o td) (hi : QE X i ty) (hv : QE X value tv) (hs : swapsWith value (some (.Subscript o i pos')) pos.line X.env = pure false := by rfl) : QS X (.Assign [.Subscript o i pos'] value pos) (sDPut td ty tv) := ⟨ps_dput (by omega) ho.h hi.h hv.h hs⟩
end
end L2
namespace L2
open PySem PySem.Spec PyProof.Rows PySem.W
/-! ### sorted([x], key=f) -/
section
variable {X : Cx} {pins : List (Addr × Obj)} {σ : St} {H : Hp} {s : Shared}
end
end L2
namespace L2
open PySem PySem.Spec PyProof.Rows PySem.W
/-! ### range(a, b, -1) -/
section
variable {X : Cx} {tg : Expr}
end
/-! ### reversed(xs) -/
section
variable {X : Cx}
end
/-! ### list(reversed(xs)) -/
section
variable {prog : Program} {w : World} {A : Around} {E : Value → Shared → Prop} {s : Shared} {r d : Addr}
end
section
variable {X : Cx}
end
section
variable {X : Cx} {o e : Expr} {to te : TE} {apos cpos : Pos}
end
end L2
namespace L2
open PySem PySem.Spec PyProof.Rows PySem.W
/-! ### x in xs, xs.count(x), of data -/
section
variable {P : Program} {w : World} {H : Hp} {h : Heap}
end
section
variable {X : Cx}
end
section
variable {X : Cx} {o e : Expr} {to te : TE} {apos cpos : Pos}
end
end L2
namespace L2
open PySem PySem.Spec PyProof.Rows PySem.W
/-! ### zip(t, u) of two lists of one length, walked to a pair of names -/
section
variable {X : Cx}
end
section
variable {X : Cx}
/-- {k: v, ..} -/
structure QPs (X : Cx) (pos : Pos) (keys : List (Option Expr)) (values : List Expr) (trs : List (TE × TE)) : Prop where
  h : PPs X pos keys values trs
end
end L2
namespace L2
open PySem PySem.Spec PyProof.Rows PySem.W
/-! ### name = [..] whose own name is a cell; any(xs) of truths -/
section
variable {elt tg iter : Expr} {ifs : List Expr} {pos : Pos} {g : TG} {tc : TT} {te : TE} {Q : VK}
end
section
variable {X : Cx}
end
end L2
namespace L2
open PySem PySem.Spec PyProof.Rows PySem.W
/-! ### own classes: fields, methods, instances, as closed judgements -/
structure MFn (P : Program) (w : World) (K : PySem.W.Frag) (mg : Str → Option Value) (base : Heap) (k : Nat) (C : Addr) (m : Str) (ps : List Str) (sp : Sp) : Prop where
  cl : Cls K C
  ex : ∃ f fd, FnOk P w K mg base CX0 k f fd ps sp ∧ Meth K C m f ∧ Binds K fd ps []
structure MkFn (P : Program) (w : World) (K : PySem.W.Frag) (mg : Str → Option Value) (base : Heap) (k : Nat) (C : Addr) (x : Str) (ps : List Str) (sp : Sp) : Prop where
  cl : Cls K C
  mgC : mg x = some (.ref C)
  ex : ∃ f fd, FnOk P w K mg base CX0 k f fd ps sp ∧ Mk K C f ∧ Binds K fd ps []
section
variable {X : Cx} {k : Nat} {C : Addr} {m x f : Str} {p pos pos' apos : Pos} {o e value : Expr} {es : List Expr} {ps : List Str} {sp : Sp} {t : TA} {ta tv : TE}
end
/-! ### a dict whatever its keys are: its keys walked in their order -/
def DRaw (h : Heap) (d : Addr) (es : Array DictEntry) (ep : Nat) : Prop := ∃ o, h.get? d = some o ∧ o.ExactDict ∧ o.data = .dict es ep
theorem DRaw.type {s : Shared} {d : Addr} {es : Array DictEntry} {ep : Nat} (x : DRaw s.heap d es ep) : s.TypeIs (.ref d) "dict" := let ⟨o, ho, hc, _⟩ := x; ⟨o, ho, hc.1⟩
theorem DRaw.at' {h h' : Heap} {d : Addr} {es : Array DictEntry} {ep : Nat} (x : DRaw h d es ep) (e : ∀ o, h.get? d = some o → h'.get? d = some o) : DRaw h' d es ep := let ⟨o, ho, r⟩ := x; ⟨o, e o ho, r⟩
theorem DRaw.lt {h : Heap} {d : Addr} {es : Array DictEntry} {ep : Nat} (x : DRaw h d es ep) : d < h.objs.size := let ⟨_, ho, _⟩ := x; Heap.lt_size ho
section
variable {prog : Program} {w : World} {A : Around} {E : Value → Shared → Prop} {s : Shared} {d it : Addr} {es : Array DictEntry} {ep i : Nat}
end
section
variable {X : Cx}
end
/-! ### a statement whose ways meet again behind it: what holds there is said once -/
def tJoin (t : TS) : TS := fun D σ H => ∃ Pv : St → Hp → Prop, t { D with nx := Pv } σ H ∧ ∀ σ' H', Pv σ' H' → D.nx σ' H'
theorem s_join {X : Cx} {st : Stmt} {t : TS} (h : QS X st t) : QS X st (tJoin t) := ⟨fun pins s σ H D I ⟨Pv, h1, h2⟩ => thn (h.h pins s σ H _ I h1) fun fl s' q => by
  cases fl with
  | next =>
    obtain ⟨σ', H', I', q'⟩ := q
    exact ⟨σ', H', I', h2 _ _ q'⟩
  | _ => exact q⟩
end L2
namespace L2
open PySem PySem.Spec PyProof.Rows PySem.W
/-! ### an exception on its way leaves one more frame -/
section
variable {M : Model} {A : Around} {E : Value → Shared → Prop} {s : Shared} {base : Heap} {env : Env} {outer : List Env} {L e : Addr}
end
section
variable {P : Program} {w : World} {K : PySem.W.Frag} {mg : Str → Option Value} {base : Heap} {N : List Str} {qual : Str} {scope : Scope} {f : Addr} {cd : Value} {A : Around} {outer : List Env} {s : Shared} {H : Hp} {E : XK}
end
end L2
namespace L2
open PySem PySem.Spec PyProof.Rows PySem.W
/-! ### an own exception class, any depth under a built-in one, with an __init__ of its own -/
section
variable {prog : Program} {w : World} {A : Around} {E : Value → Shared → Prop} {h : Heap} {g : Array GenState} {d : Drawn} {t : Nat} {os : OsState}
variable {nm q : Str} {C N : Addr} {bs bm bmB : List Value} {hdct : Bool} {sn : List Str} {sub : List Value} {ab : Bool} {col : Option Bool} {dd : Option Addr} {k0 k1 k2 k3 k5 : Option Value} {B newId initId : String}
end
section
variable {M : Model} {A : Around} {E : Value → Shared → Prop} {env : Env} {K : PySem.W.Frag}
end
end L2
namespace L2
open PySem PySem.Spec PyProof.Rows PySem.W PySem.Builtin PySem.Builtin.ObjectAttr
/-! ### an attribute is stored on an exception that has no dict yet -/
def overVE : List Value → Bool
  | .ref _ :: r => overVE r
  | l => l == VE
/-- what is asked of an own exception class whose __init__ stores something -/
structure ExS (K : PySem.W.Frag) (c : Addr) : Prop where
  sa : findIn K (.ref c) "__setattr__" = some (some (.builtin "object.__setattr__"))
  ov : ((clsIn K c).any fun cd => overVE cd.mro && cd.hasDict) = true
  ob : mroIn K c (.type "object") = some true
section
variable {prog : Program} {w : World} {K : PySem.W.Frag} {A : Around} {R : Result → Shared → Prop} {s : Shared} {x C : Addr}
end
/-! ### a new exception as a thing of the abstract heap: its args at t, its dict -/
section
variable {X : Cx} {pins : List (Addr × Obj)} {σ : St} {H : Hp} {s : Shared} {a c t : Addr} {f : Str} {y : V} {u : Value} {A : Around} {E : Value → Shared → Prop}
end
end L2
namespace L2
open PySem PySem.Spec PyProof.Rows PySem.W
def del (H : Hp) (a : Addr) : Hp := fun b => if b = a then none else H b
section
variable {M : Model} {A : Around} {E : Value → Shared → Prop} {s : Shared} {base : Heap} {env : Env} {outer : List Env} {L e : Addr}
end
section
variable {P : Program} {w : World} {K : PySem.W.Frag} {mg : Str → Option Value} {base : Heap} {N : List Str} {qual : Str} {scope : Scope} {f : Addr} {cd : Value} {A : Around} {outer : List Env} {s : Shared} {H : Hp} {E : XK}
end
end L2
namespace L2
open PySem PySem.Spec PyProof.Rows PySem.W
/-! ### an own exception class with an __init__ of its own, as K has it -/
def excInI (K : PySem.W.Frag) (C fI : Addr) : Bool := match K.lookup C with
  | some ⟨.type "type", _, .cls cd, sl⟩ => (match cd.mro, sl.toList with
    | .ref C' :: bm, [_, _, _, _, some (.builtin n), _] => C' == C && n == "ValueError.__new__" && !cd.hasDel && tailIn K VE bm && nsOkIn K cd.ns && nsIn K cd.ns "__init__" == some (some (.ref fI))
    | _, _ => false)
  | _ => false
structure ExcAtI (K : PySem.W.Frag) (C fI : Addr) (bm : List Value) : Prop where
  isIn : excInI K C fI = true
  mro : ∃ c d cd sl, K.lookup C = some ⟨c, d, .cls cd, sl⟩ ∧ cd.mro = Value.ref C :: bm
  exc : bm.contains (.type "BaseException") = true
  fn : ∃ oI, K.lookup fI = some oI ∧ oI.cls = .type "function"
/-! ### raise C(..), C with an __init__ of its own that never raises -/
structure ExI (P : Program) (w : World) (K : PySem.W.Frag) (mg : Str → Option Value) (base : Heap) (k : Nat) (C : Addr) (bm : List Value) (ps : List Str) (sp : Sp) : Prop where
  ex : ∃ fI fd, ExcAtI K C fI bm ∧ FnOk P w K mg base CX0 k fI fd ps sp ∧ Binds K fd ps []
section
variable {X : Cx} {pins : List (Addr × Obj)} {σ : St} {H : Hp} {s : Shared}
end
section
variable {X : Cx} {EC : Value → Option Addr → Hp → Prop} {C : Addr} {bm : List Value} {k : Nat} {ps : List Str} {sp : Sp} {x : Str} {np cpos pos : Pos} {e : Expr} {es : List Expr} {ta : TA}
end
end L2
namespace L2
open PySem PySem.Spec PyProof.Rows PySem.W
/-! ### methods and defs that raise: called in a def that lets it pass, or in a try -/
structure MFnX (P : Program) (w : World) (K : PySem.W.Frag) (mg : Str → Option Value) (base : Heap) (k : Nat) (C : Addr) (m : Str) (ps : List Str) (sp : Sp) : Prop where
  cl : Cls K C
  ex : ∃ f fd, FnOk P w K mg base (CXr P w) k f fd ps sp ∧ Meth K C m f ∧ Binds K fd ps []
section
variable {X : Cx} {k : Nat} {C : Addr} {m x : Str} {p pos apos : Pos} {o e : Expr} {es : List Expr} {ps : List Str} {sp : Sp} {t : TA} {ta : TE} {E : XK}
end
/-! ### handlers without a name, several of them -/
section
variable {X : Cx}
end
/-! ### a caught exception with what its dict holds -/
section
variable {X : Cx}
end
end L2
namespace L2
open PySem PySem.Spec PyProof.Rows PySem.W
/-! ### isinstance of a caught exception whatever its dict is; what it holds, read -/
section
variable {K : PySem.W.Frag} {prog : Program} {w : World} {A : Around} {E : Value → Shared → Prop} {h : Heap} {g : Array GenState} {d : Drawn} {t : Nat} {os : OsState} {x D : Addr} {ox : Obj} {od : Option Obj}
end
section
variable {X : Cx} {pins : List (Addr × Obj)} {σ : St} {H : Hp} {s : Shared}
end
end L2
namespace L2
open PySem PySem.Spec PyProof.Rows PySem.W
/-! ### an exception aloft in a frame: not flown yet, flying, or held there -/
section
variable {M : Model} {A : Around} {E : Value → Shared → Prop} {s : Shared} {base : Heap} {l : List Env} {L e : Addr}
end
section
variable {X : Cx} {E : XK} {ea : Addr} {s' : Shared} {EE : Value → Shared → Prop}
end
/-! ### out of the frame -/
section
variable {P : Program} {w : World} {K : PySem.W.Frag} {mg : Str → Option Value} {base : Heap} {N : List Str} {qual : Str} {scope : Scope} {f : Addr} {cd : Value} {A : Around} {outer : List Env} {s : Shared} {H : Hp} {E : XK}
end
section
variable {X : Cx} {E : XK}
end
/-! ### statements run under another wish: loops whose body raises -/
section
variable {X : Cx} {E : XK} {st : Stmt} {t : TS}
end
section
variable {X : Cx} {E : XK} {C : Addr} {bm : List Value} {k : Nat} {ps : List Str} {sp : Sp} {x : Str} {np cpos pos : Pos} {e : Expr} {es : List Expr} {ta : TA}
end
end L2
namespace L2
open PySem PySem.Spec PyProof.Rows PySem.W
/-! ### range(a, b, c), c above nought -/
section
variable {X : Cx} {tg : Expr}
end
/-! ### isinstance of any thing and any class -/
end L2
namespace L2
open PySem PySem.Spec PyProof.Rows PySem.W
/-! ### lambda: its object, its code, the table of codes of the def around it -/
def lamFd (qual : Str) (params : Arguments) (body : Expr) (scope : Scope) (cl : List (Str × Addr)) (pm : Value) (c : Addr) (ct : Value) : FuncData := kla_fn "<lambda>" qual params body scope cl pm (.ref c) ct
def lamObj (qual : Str) (params : Arguments) (body : Expr) (scope : Scope) (cl : List (Str × Addr)) (pm : Value) (c : Addr) (ct : Value) : Obj := { cls := .type "function", data := .func (lamFd qual params body scope cl pm c ct) }
def isTh (a : Addr) (o : Obj) : HO := .ext fun h => h.get? a = some o
def isCd (c : Addr) (qual : Str) : HO := .ext fun h => h.CodeRec (.ref c) qual
theorem isTh_ok {P : Program} {w : World} {H : Hp} {h : Heap} {a : Addr} {o : Obj} (e : h.get? a = some o) : ObjOk P w H h a (isTh a o) := ⟨e, ⟨o, e⟩, fun _ _ x k => k _ x⟩
theorem isCd_ok {P : Program} {w : World} {H : Hp} {h : Heap} {c : Addr} {q : Str} (e : h.CodeRec (.ref c) q) : ObjOk P w H h c (isCd c q) := by
  obtain ⟨c', oc, vs, t, e1, e2, e3, e4⟩ := id e
  cases e1
  refine ⟨e, ⟨oc, e2⟩, fun h1 h2 x k => ?_⟩
  obtain ⟨c', oc, vs, t, e1, e2, e3, e4⟩ := id x
  cases e1
  exact ⟨c, oc, vs, t, rfl, k _ e2, e3, e4⟩
/-- the module of the builtins, as base has it -/
def Blt (h : Heap) (mg : Str → Option Value) : Prop := ∃ bm ob, mg "__builtins__" = some (.ref bm) ∧ bm ≠ builtinsNs ∧ h.get? bm = some ob ∧ ob.cls = .type "module" ∧ ob.dict = some builtinsNs ∧ ob.data = .plain
section
variable {X : Cx} {pins : List (Addr × Obj)} {σ : St} {H : Hp} {s : Shared}
theorem Inv.bltAt (I : Inv X pins σ H s) (B : Blt X.base X.mg) {P : Addr} {ps : Array Value} (hP : H P = some (.tbl ps)) : s.heap.BuiltinsAt X.mg P := by
  obtain ⟨bm, ob, b1, b2, b3, b4, b5, b6⟩ := B
  refine ⟨bm, ob, b1, b2, fun z => ?_, fun z => ?_, I.bk _ _ b3, b4, b5, b6⟩
  · obtain ⟨o, es, ep, e, d, _⟩ := I.ok.mod.glob
    rw [← z, b3] at e
    cases e
    rw [d] at b6
    cases b6
  · have := (I.bs _ _ b3).2
    rw [z, hP] at this
    cases this
/-- the table grows, a code and a function are new -/
theorem Inv.grown {h' : Heap} {P c f : Addr} {ps more : Array Value} {oc of' : HO} {t' : Nat} (I : Inv X pins σ H s) (hP : H P = some (.tbl ps)) (k : ∀ b o, b ≠ P → s.heap.get? b = some o → h'.get? b = some o) (hc : s.heap.objs.size ≤ c) (hf : s.heap.objs.size ≤ f) (hcf : c ≠ f)
    (eP : h'.get? P = some { cls := .none, data := .fields (ps ++ more) }) (nc : ∀ H', ObjOk X.prog X.w H' h' c oc) (nf : ∀ H', ObjOk X.prog X.w H' h' f of') :
    H c = none ∧ H f = none ∧ Inv X pins σ (upd (upd (upd H P (.tbl (ps ++ more))) c oc) f of') { s with heap := h', toks := t' } := by
  have c0 := I.hok.fresh hc
  have f0 := I.hok.fresh hf
  have nP : ∀ {b : Addr} {u : HO}, H b = some u → (∀ qs, u ≠ .tbl qs) → b ≠ P := fun {b u} e n z => by
    rw [z, hP] at e
    cases e
    exact n _ rfl
  have up : ∀ {b : Addr}, b ≠ P → b ≠ c → b ≠ f → upd (upd (upd H P (.tbl (ps ++ more))) c oc) f of' b = H b := fun {b} n1 n2 n3 => by rw [upd_ne n3, upd_ne n2, upd_ne n1]
  have old : ∀ {b : Addr} {o : Obj}, s.heap.get? b = some o → b ≠ c ∧ b ≠ f := fun {b o} e => ⟨Nat.ne_of_lt (Nat.lt_of_lt_of_le (Heap.lt_size e) hc), Nat.ne_of_lt (Nat.lt_of_lt_of_le (Heap.lt_size e) hf)⟩
  have pcf : P ≠ c ∧ P ≠ f := by
    have := I.hok P _ hP
    exact old (show s.heap.get? P = some _ from this)
  refine ⟨c0, f0, I.un (t' := t') ⟨fun b o e n _ _ => k b o (fun z => by rw [z, hP] at n; cases n) e, fun b o e n _ _ => ⟨o.slots, k b o (fun z => by rw [z, hP] at n; cases n) e⟩, fun b o e n _ => ?_, fun b o e _ => ?_, fun b xs e => ?_, fun b o u e => ?_, fun b qs e => ?_⟩ fun b u e => ?_⟩
  · rw [up (fun z => by rw [z, hP] at n; cases n) (old e).1 (old e).2]
    exact n
  · by_cases z : b = P
    · exact ⟨_, z ▸ eP⟩
    · exact ⟨o, k b o z e⟩
  · rw [up (nP e fun _ z => nomatch z) (ne_of_none e c0) (ne_of_none e f0)]
    exact e
  · rw [up (nP e fun _ z => nomatch z) (ne_of_none e c0) (ne_of_none e f0)]
    exact e
  · by_cases z : b = P
    · subst z
      rw [hP] at e
      cases e
      exact ⟨more, by rw [upd_ne pcf.2, upd_ne pcf.1, upd_same]⟩
    · exact ⟨#[], by rw [up z (ne_of_none e c0) (ne_of_none e f0), e]; simp⟩
  · by_cases zf : b = f
    · subst zf
      rw [upd_same] at e
      cases e
      exact nf _
    · rw [upd_ne zf] at e
      by_cases zc : b = c
      · subst zc
        rw [upd_same] at e
        cases e
        exact nc _
      · rw [upd_ne zc] at e
        by_cases zP : b = P
        · subst zP
          rw [upd_same] at e
          cases e
          exact eP
        · rw [upd_ne zP] at e
          refine (I.hok b u e).stay (fun b' v hb' q => k b' v (fun z => ?_) q) (fun b' z => by rw [up (nP z fun _ z => nomatch z) (ne_of_none z c0) (ne_of_none z f0)]; exact z) fun b' xs z => by rw [up (nP z fun _ z => nomatch z) (ne_of_none z c0) (ne_of_none z f0)]; exact z
          rcases hb' with rfl | hb'
          · exact zP z
          · rw [z, hP] at hb'
            cases hb'
end
section
variable {X : Cx} {c P : Addr} {params : Arguments} {body : Expr} {scope : Scope} {pos : Pos} {cl : List (Str × Addr)}
end
/-! ### a lambda is called -/
theorem lam_of {CX : CXT} {P : Program} {w : World} {K : PySem.W.Frag} {mg : Str → Option Value} {base : Heap} {k : Nat} {f c' : Addr} {qual : Str} {params : Arguments} {body : Expr} {scope : Scope} {pm ct : Value} {N ps : List Str} {sp : Sp} (S : FnScope N ps scope)
    (len : ∀ vs H Q E, sp vs H Q E → vs.length = ps.length)
    (hbody : ∀ (A : Around) (outer : List Env) (s : Shared) (H : Hp) (vs : List V) (Q : VK) (E : XK), Room k (A.deeper (envOfC qual scope s.heap.objs.size f (.ref c'))) → sp vs H Q E →
      ∃ t, PE (cxOf CX P w K mg base N qual scope f (.ref c') A outer s H E) body t ∧ t (start N vs) H Q) :
    FnOk P w K mg base CX (k + 1) f (lamFd qual params body scope [] pm c' ct) ps (fun vs H Q E => H f = some (isTh f (lamObj qual params body scope [] pm c' ct)) ∧ H c' = some (isCd c' qual) ∧ sp vs H Q E) := by
  refine ⟨fun vs H Q E h => len _ _ _ _ h.2.2, fun A outer s H args us vs Q E hr e0 hb r ⟨hf, hc, hsp⟩ => ?_⟩
  have hl := len _ _ _ _ hsp
  have lim : s.heap.NoLimit := e0.mod.nolimit.keeps fun b o e => (e0.bs b o e).1
  have hkind : ∀ y ∈ ps.zip us, scope.names.lookup y.1 = some .local ∨ (scope.names.lookup y.1 = some .cell ∧ ((cellsFrom (s.heap.objs.size + 1) scope.names []).lookup y.1).isSome = true) := fun ⟨n, v⟩ hy => by
    rcases S.par n (List.of_mem_zip hy).1 with q | q
    · exact .inl q
    · exact .inr ⟨q, PySem.W.cellsFrom_some _ _ _ (.inl q)⟩
  have of1 := (e0.hok f _ hf).1
  have oc1 := (e0.hok c' _ hc).1
  refine kla_callFunE hr.depth of1 rfl S.co S.gen rfl oc1 (hb _ _ _ _ ?_)
  refine wpAny_newFunctionEnv_cells S.kind hkind fun env he s1 x => ?_
  subst he
  refine ⟨lim.keeps x.toInCall.keep, kla_codeExpr ?_⟩
  obtain ⟨t, ht, hq⟩ := hbody A outer s H vs Q E (hr.deeper _) hsp
  have I : Inv (cxOf CX P w K mg base N qual scope f (.ref c') A outer s H E) [] (start N vs) H s1 := inv_start S hr.hd e0 hl r x
  refine wpAny_mono (ht [] s1 (start N vs) H _ I hq) (fun u s' ⟨v, H', J, rv, q⟩ => ?_) fun e s' hs => hs
  exact ⟨v, H', J.os, J.bare, J.base, J.hok, rv, q⟩
/-! ### sorted(e, key=lambda x: ..) -/
/-- the table of codes at P is as a lambda at pos wants it -/
def LamTab (q : Str) (P : Addr) (pos : Pos) (H : Hp) : Prop := ∃ ps : Array Value, H P = some (.tbl ps) ∧ TriplesOk ps.toList ∧ (codeAmong pos ps.toList = none ∨ ∃ c', codeAmong pos ps.toList = some (.ref c') ∧ H c' = some (isCd c' q))
/-- all stays but the table -/
def SameT (P : Addr) (H H' : Hp) : Prop := ∀ b o, H b = some o → b ≠ P → H' b = some o
theorem SameT.of {P : Addr} {H H' : Hp} (s : Same H H') : SameT P H H' := fun b o e _ => s b o e
theorem SameT.trans {P : Addr} {H H' H2 : Hp} (s : SameT P H H') (t : SameT P H' H2) : SameT P H H2 := fun b o e n => t b o (s b o e n) n
theorem triples_snoc {x y : Int} {c : Value} {a b : Tok} : ∀ l : List Value, TriplesOk l → TriplesOk (l ++ [.int x a, .int y b, c])
  | [], _ => trivial
  | .int _ _ :: .int _ _ :: _ :: rest, h => triples_snoc rest h
/-- the lambda's body -/
structure LamOk (P : Program) (w : World) (K : PySem.W.Frag) (mg : Str → Option Value) (base : Heap) (k : Nat) (qual : Str) (body : Expr) (scope : Scope) (x : Str) (sp : Sp) : Prop where
  ex : ∃ N : List Str, FnScope N [x] scope ∧ (∀ vs H Q E, sp vs H Q E → vs.length = 1) ∧ ∀ (f c' : Addr) (A : Around) (outer : List Env) (s : Shared) (H : Hp) (vs : List V) (Q : VK) (E : XK), Room k (A.deeper (envOfC qual scope s.heap.objs.size f (.ref c'))) → sp vs H Q E →
    ∃ t, QE (cxOf CX0 P w K mg base N qual scope f (.ref c') A outer s H E) body t ∧ t (start N vs) H Q
section
variable {X : Cx} {c P : Addr}
end
end L2
namespace L2
open PySem PySem.Spec PyProof.Rows PySem.W
/-! ### the law's entry, the tables of codes of some defs laid aside -/
/-- at the entry: the script's list, and the tables, which are empty -/
def AtEntry (a : Addr) (tabs : List (Addr × Addr)) (H : Hp) : Prop := ∀ b, H b = none ∨ (b = a ∧ ∃ o xs, H b = some (.frz o (.lst xs))) ∨ ((∃ c, (c, b) ∈ tabs) ∧ H b = some (.tbl #[]))
theorem law_tabs {P : Program} {w : World} {K : PySem.W.Frag} {mg mb : Str → Option Value} {k : Nat} {fa a : Addr} {fd : FuncData} {x : Str} {sp : Sp} {s : Shared} {vs : List Value} {ns : List Int} {tabs : List (Addr × Addr)}
    (kx : K.In s.heap) (gx : s.heap.Ns mainGlobals mg) (bx : s.heap.Ns builtinsNs mb) (bb : ∀ y : Str, y ≠ "__name__" → mb y = bootBuiltins y) (nl : s.heap.NoLimit) (gn : s.gens = #[]) (bl : Blt s.heap mg)
    (tx : ∀ q ∈ tabs, CodeHd s.heap q.1 q.2 ∧ s.heap.get? q.2 = some (tabObj #[])) (nt : noTabs K = true)
    (sa : s.heap.get? a = some { cls := .type "list", data := .seq vs.toArray }) (si : IntsAre vs ns) (sl : ns.length ≤ sizeLine) (hr : Room k callerA)
    (F : ∀ base : Heap, K.In base → base.Ns mainGlobals mg → Blt base mg → (∀ q ∈ tabs, CodeHd base q.1 q.2) → FnOk P w K mg base CX0 k fa fd [x] sp) (bind : ∀ (s : Shared) (u : Value), BindsTo s fd ⟨[u], []⟩ [(x, u)])
    (go : ∀ H : Hp, (∀ q ∈ tabs, H q.2 = some (.tbl #[])) → SqL K H a (ns.map V.int) → sp [.ref a] H (fun v _ => v = .bl true) fun _ _ _ => False) :
    codeAny (model P w) callerA (.call (.ref fa) ⟨[.ref a], []⟩) (fun r s' => r = .ok (.ret (.bool true)) ∧ OldK s.heap s'.heap ∧ s'.os = s.os ∧ AllBare s'.gens) s := by
  have tabNot : ∀ {b : Addr} {c : Addr}, (c, b) ∈ tabs → K.lookup b = none := fun {b c} hm => by
    cases e : K.lookup b with
    | none => rfl
    | some o =>
      have e1 := (kx b o e).symm.trans (tx _ hm).2
      cases e1
      have := List.all_eq_true.mp nt _ (mem_of_lookupK e)
      cases this
  have aNot : ∀ {c : Addr}, ¬ (c, a) ∈ tabs := fun {c} hm => by
    have := (tx _ hm).2
    rw [sa] at this
    cases this
  have main : ∀ H : Hp, AtEntry a tabs H → (∀ q ∈ tabs, H q.2 = some (.tbl #[])) → SqL K H a (ns.map V.int) → HOk P w H s.heap → (H a ≠ none → K.lookup a = none) →
      codeAny (model P w) callerA (.call (.ref fa) ⟨[.ref a], []⟩) (fun r s' => r = .ok (.ret (.bool true)) ∧ OldK s.heap s'.heap ∧ s'.os = s.os ∧ AllBare s'.gens) s := by
    intro H ae ht hS ok ha
    have free : ∀ {b : Addr} {o : Obj}, s.heap.get? b = some o → (∀ n m, o.data ≠ .seq n m) → (∀ n, o.data ≠ .fields n) → H b = none := fun {b o} e n1 n2 => by
      rcases ae b with z | ⟨rfl, _⟩ | ⟨⟨c, hm⟩, _⟩
      · exact z
      · rw [sa] at e
        cases e
        exact absurd rfl (n1 _ _)
      · rw [(tx _ hm).2] at e
        cases e
        exact absurd rfl (n2 _)
    have nsB : ∀ {b : Addr} {m : Str → Option Value}, s.heap.Ns b m → (hidT s.heap H).Ns b m := fun {b m} ⟨o, es, ep, e, d, r⟩ => ⟨o, es, ep, hidT_get e (free e (fun _ _ z => by rw [d] at z; cases z) fun _ z => by rw [d] at z; cases z), d, r⟩
    have kB : K.In (hidT s.heap H) := fun b o e => hidT_get (kx b o e) (by
      rcases ae b with z | ⟨rfl, o', xs, z⟩ | ⟨⟨c, hm⟩, _⟩
      · exact z
      · rw [ha (by rw [z]; simp)] at e
        cases e
      · rw [tabNot hm] at e
        cases e)
    have bB : Blt (hidT s.heap H) mg := by
      obtain ⟨bm, ob, b1, b2, b3, b4, b5, b6⟩ := bl
      exact ⟨bm, ob, b1, b2, hidT_get b3 (free b3 (fun _ _ z => by rw [b6] at z; cases z) fun _ z => by rw [b6] at z; cases z), b4, b5, b6⟩
    have cB : ∀ q ∈ tabs, CodeHd (hidT s.heap H) q.1 q.2 := fun q hq => by
      obtain ⟨o, ws, file, tf, fl, tg, inF, text, tt, c1, c2, c3, c4⟩ := (tx q hq).1
      refine ⟨o, ws, file, tf, fl, tg, inF, text, tt, hidT_get c1 ?_, c2, c3, c4⟩
      rcases ae q.1 with z | ⟨z, _⟩ | ⟨⟨c, hm⟩, _⟩
      · exact z
      · rw [z, sa] at c1
        cases c1
        injection c2 with c2
        exact absurd c2 (by decide)
      · rw [(tx _ hm).2] at c1
        cases c1
        cases c2
    have mB : Mod K mg (hidT s.heap H) := ⟨kB, nsB gx, ⟨mb, nsB bx, bb⟩, let ⟨mc, n1, n2⟩ := nl; ⟨mc, nsB n1, n2⟩⟩
    have env : Env0 P w K mg (hidT s.heap H) callerA [] s H := ⟨rfl, mB, fun b o e => of_hidT e, Nat.le_of_eq (hidT_size _ _), trivial, fun b hb => absurd (show b ∈ ([] : List Addr) from hb) (by simp), ok, .of_eq gn⟩
    refine codeAny_mono ((F _ kB (nsB gx) bB cB).run callerA [] s H ⟨[.ref a], []⟩ [.ref a] [.ref a] _ _ hr env (bind s (.ref a)) (.cons rfl .nil) (go H ht hS)) fun r s' h => ?_
    cases r with
    | error e => exact False.elim h
    | ok fl =>
      cases fl with
      | next => exact False.elim h
      | brk => exact False.elim h
      | cont => exact False.elim h
      | ret u =>
        obtain ⟨v, H', os, bare, un, ok', rv, hv⟩ := h
        obtain rfl : v = .bl true := hv
        obtain rfl : u = Value.bool true := rv
        have each : ∀ b o, s.heap.get? b = some o → asItWas s.heap s'.heap b o ∧ ∃ o', s'.heap.get? b = some o' := fun b o e => by
          rcases ae b with z | ⟨rfl, o', xs, z⟩ | ⟨⟨c, hm⟩, z⟩
          · have := un.keep b o e z (by intro q; exact absurd (show b ∈ ([] : List Addr) from q) (by simp)) (by simp)
            exact ⟨.inl this, _, this⟩
          · obtain ⟨e1, _⟩ := ok b _ z
            obtain ⟨e2, _⟩ := ok' b _ (un.frzs b o' _ z)
            rw [e] at e1
            cases e1
            exact ⟨.inl e2, _, e2⟩
          · obtain ⟨more, z2⟩ := un.tbls b _ z
            have e2 : s'.heap.get? b = some { cls := .none, data := .fields (#[] ++ more) } := ok' b _ z2
            have e1 := (tx _ hm).2
            rw [e] at e1
            cases e1
            exact ⟨.inr (.inl ⟨(((tx _ hm).1).tab e).isCodeTable, rfl, #[], more, rfl, e2⟩), _, e2⟩
        exact ⟨rfl, ⟨fun b o e => (each b o e).1, fun b o e => (each b o e).2⟩, os, bare⟩
  have rv := vals_ints si
  have lv := si.length
  have inT : ∀ b, Decidable (∃ c, (c, b) ∈ tabs) := fun b => Classical.propDecidable _
  cases hk : K.lookup a with
  | some o =>
    have e := kx a o hk
    rw [sa] at e
    cases e
    refine main (fun b => @ite _ (∃ c, (c, b) ∈ tabs) (inT b) (some (.tbl #[])) none) (fun b => ?_) (fun q hq => if_pos ⟨q.1, hq⟩) (.inr ⟨_, vs.toArray, _, hk, rfl, rfl, rfl, by rw [List.size_toArray, lv]; exact sl, by simpa using rv⟩) (fun b u z => ?_) (fun z => absurd (if_neg fun ⟨c, hm⟩ => aNot hm) z)
    · by_cases c : ∃ c, (c, b) ∈ tabs
      · exact .inr (.inr ⟨c, if_pos c⟩)
      · exact .inl (if_neg c)
    · by_cases c : ∃ c, (c, b) ∈ tabs
      · have z' := (if_pos c).symm.trans z
        cases z'
        obtain ⟨c, hm⟩ := c
        exact (tx _ hm).2
      · have z' := (if_neg c).symm.trans z
        cases z'
  | none =>
    refine main (fun b => @ite _ (∃ c, (c, b) ∈ tabs) (inT b) (some (.tbl #[])) (if b = a then some (.frz { cls := .type "list", data := .seq vs.toArray } (.lst (ns.map V.int))) else none)) (fun b => ?_) (fun q hq => if_pos ⟨q.1, hq⟩) (.inl (.inr ⟨{ cls := .type "list", data := .seq vs.toArray }, (if_neg fun ⟨c, hm⟩ => aNot hm).trans (if_pos rfl)⟩)) (fun b u z => ?_) (fun _ => hk)
    · by_cases c : ∃ c, (c, b) ∈ tabs
      · exact .inr (.inr ⟨c, if_pos c⟩)
      · by_cases hb : b = a
        · exact .inr (.inl ⟨hb, _, _, (if_neg c).trans (if_pos hb)⟩)
        · exact .inl ((if_neg c).trans (if_neg hb))
    · by_cases c : ∃ c, (c, b) ∈ tabs
      · have z' := (if_pos c).symm.trans z
        cases z'
        obtain ⟨c, hm⟩ := c
        exact (tx _ hm).2
      · have z' := (if_neg c).symm.trans z
        by_cases hb : b = a
        · rw [if_pos hb] at z'
          cases z'
          subst hb
          exact ⟨sa, by rw [List.length_map]; exact sl, vs, _, rv, sa⟩
        · rw [if_neg hb] at z'
          cases z'
/-- a def whose code is known -/
theorem Fun.okC {P : Program} {w : World} {K : PySem.W.Frag} {mg : Str → Option Value} {base : Heap} {x qual : Str} {st : Stmt} {f c : Addr} {fd : FuncData} {N ps : List Str} {k : Nat} {sp : Sp} (F : Fun K x qual st f fd) (hc : fd.code = .ref c) (S : FnScope N ps (defScope st)) (len : ∀ vs H Q E, sp vs H Q E → vs.length = ps.length)
    (body : ∀ (A : Around) (outer : List Env) (s : Shared) (H : Hp) (vs : List V) (Q : VK) (E : XK), Room k (A.deeper (envOfC qual (defScope st) s.heap.objs.size f (.ref c))) → sp vs H Q E →
      ∃ t, QB (cxOf CX0 P w K mg base N qual (defScope st) f (.ref c) A outer s H E).nox (defBody st) t ∧ t { nx := fun _ H' => Q .non H', rt := Q } (start N vs) H) : FnOk P w K mg base CX0 (k + 1) f fd ps sp := by
  obtain ⟨oc, od, kV, doc, pm, an, cdv, ct, osl, rfl, lk, hcd⟩ := F.ex
  obtain rfl : cdv = .ref c := hc
  refine fn_of lk hcd S len fun A outer s H vs Q E hr hs => ?_
  obtain ⟨t, h, q⟩ := body A outer s H vs Q E hr hs
  exact ⟨t, h.h.nox, q⟩
theorem tab_code {K : PySem.W.Frag} {x : Str} {f c P : Addr} {oc : Value} {od : Option Addr} {fd : FuncData} {sl : Array (Option Value)} (a : nsIn K mainGlobals x = some (some (.ref f))) (l : K.lookup f = some ⟨oc, od, .func fd, sl⟩) (t : tabIn K x = some (c, P)) : fd.code = .ref c := by
  unfold tabIn at t
  rw [a] at t
  dsimp only at t
  rw [l] at t
  dsimp only at t
  split at t
  · rename_i c' e
    rw [e]
    split at t
    · split at t
      · cases t
        rfl
      · cases t
    · cases t
  · cases t
/-- the goal behind the head, some defs' tables laid aside -/
theorem walk_tabs {l : PySem.W.OpenLaw} {n k : Nat} {q : Program} {loose : List Str} {XP : (Str → Option Value) → Heap → Prop} {YP : World → Heap → Prop} {d : DefRec} {K : Params → PySem.W.Frag} {tabs : Params → List (Str × Addr × Addr)} {sp : World → Sp} {x : Str}
    (hn : l.most = some n) (hn2 : n ≤ sizeLine) (hdf : d.params.defaults = []) (hr : Room k callerA) (hY : ∀ (w : World) (h : Heap), YP w h → (K w.params).In h)
    (ht : ∀ (w : World), ∀ t ∈ tabs w.params, tabIn (K w.params) t.1 = some t.2 ∧ ∃ d', (recsOf q).find? (fun e => e.name == t.1) = some d') (nt : ∀ w : World, noTabs (K w.params) = true)
    (F : ∀ (w : World) (mg : Str → Option Value) (fa : Addr) (h : Heap), (K w.params).In h → h.Ns mainGlobals mg → mg d.name = some (.ref fa) →
      ∃ fd : FuncData, (∀ (s : Shared) (u : Value), BindsTo s fd ⟨[u], []⟩ [(x, u)]) ∧
        ∀ base : Heap, (K w.params).In base → base.Ns mainGlobals mg → Blt base mg → (∀ t ∈ tabs w.params, CodeHd base t.2.1 t.2.2) → FnOk l.prog w (K w.params) mg base CX0 k fa fd [x] (sp w))
    (go : ∀ (w : World) (H : Hp) (a : Addr) (ns : List Int), ns.length ≤ n → (∀ t ∈ tabs w.params, H t.2.2 = some (.tbl #[])) → SqL (K w.params) H a (ns.map V.int) → sp w [.ref a] H (fun v _ => v = .bl true) fun _ _ _ => False) :
    PySem.W.WalkO q loose XP YP l.row.toRowW d [] (fun f vs => PySem.call f vs) := by
  refine Att.attach_call hn hdf fun w s₀ s₁ mg mb fa o pm cd doc a vs ns G Y ho hd hcd hmg hobj hints hlen hg => ?_
  have kx := hY w _ Y
  obtain ⟨fd, hb, hF⟩ := F w mg fa _ kx G.T.g hmg
  refine law_tabs (tabs := (tabs w.params).map (·.2)) kx G.T.g G.T.b G.T.builtins G.T.nolimit hg G.T.bmain (fun r hr' => ?_) (nt w) hobj hints (Nat.le_trans hlen hn2) hr (fun base h1 h2 h3 h4 => hF base h1 h2 h3 fun t htm => h4 _ (List.mem_map_of_mem htm)) hb fun H h1 h2 => go w H a ns hlen (fun t htm => h1 _ (List.mem_map_of_mem htm)) h2
  obtain ⟨t, htm, rfl⟩ := List.mem_map.mp hr'
  obtain ⟨e1, d', e2⟩ := ht w t htm
  exact tab_of G.T kx e2 (by rw [e1])
end L2
namespace L2
open PySem PySem.Spec PyProof.Rows PySem.W
/-! ### sorted(xs, key=f, reverse=b): keys that are numbers, texts, or a truth and a number -/
inductive SKey where
  | i (n : Int) | s (t : Str) | bi (b : Bool) (n : Int)
def SKey.nums : SKey → List Int
  | .i n => [n]
  | .s t => t.cps.toList.map Int.ofNat
  | .bi b n => [if b then 1 else 0, n]
def SKey.at (H : Hp) : SKey → V → Prop
  | .i n, v => v = .int n
  | .s t, v => v = .str t
  | .bi b n, v => ∃ a, v = .ref a ∧ H a = some (.tup [.bl b, .int n])
theorem SKey.at.same {H H' : Hp} (sm : Same H H') : ∀ {k : SKey} {v : V}, k.at H v → k.at H' v
  | .i _, _, h => h
  | .s _, _, h => h
  | .bi _ _, _, ⟨a, e, h⟩ => ⟨a, e, sm _ _ h⟩
section
variable {X : Cx} {pins : List (Addr × Obj)} {σ : St} {H : Hp} {s : Shared} {h' : Heap}
/-- a call of f with one thing, from here, keeps the promise sp -/
def RunsX (X : Cx) (pins : List (Addr × Obj)) (σ : St) (f : Addr) (sp : Sp) : Prop := ∀ (s : Shared) (H : Hp) (u : Value) (v : V) (Q : VK), Inv X pins σ H s → RelV v u → sp [v] H Q E0 → codeAny (model X.prog X.w) X.A.in1.in1 (.call (.ref f) ⟨[u], []⟩) (CR CX0 X.stack X.prog X.w H s Q E0) s
theorem runs_fn {k : Nat} {f : Addr} {fd : FuncData} {x : Str} {sp : Sp} (F : FnOk X.prog X.w X.K X.mg X.base CX0 k f fd [x] sp) (hb : ∀ (s : Shared) (u : Value), X.K.In s.heap → BindsTo s fd ⟨[u], []⟩ [(x, u)]) (hr : Room k X.A.in1.in1) : ∀ l, RunsX (wX X l) pins σ f sp := fun l s H u v Q I ru hs => by
  have env : Env0 X.prog X.w X.K X.mg X.base X.A.in1.in1 X.stack s H := by
    have e0 := I.env0
    exact ⟨e0.frames, e0.mod, e0.bs, e0.bsz, e0.funs, e0.frf, e0.hok, e0.bare⟩
  exact F.run X.A.in1.in1 X.stack s H ⟨[u], []⟩ [u] [v] Q E0 hr env (hb s u I.kIn) (.cons ru .nil) hs
/-- the state between two keys -/
structure SG (X : Cx) (pins : List (Addr × Obj)) (σ : St) (H1 : Hp) (m : Str → Option Value) (kS D : Addr) (e1 : Nat) (ks : List SKey) (as : List V) (us : List Value) (e : Nat) (H : Hp) (s : Shared) : Prop where
  I : Inv X pins σ H s
  sm : Same H1 H
  fk : FpOk X pins H kS
  fd : FpOk X pins H D
  bk : X.base.get? kS = none
  bd : X.base.get? D = none
  hk : s.heap.get? kS = some (seqObj "list" (List.toArray us) e)
  hd : s.heap.get? D = some (seqObj "list" #[] e1)
  ns : s.heap.Ns X.env.locals m
  vals : Vals as us
  keys : ∀ (i : Nat) (a : V) (k : SKey), as[i]? = some a → ks[i]? = some k → k.at H a
theorem SG.fr {H1 : Hp} {m : Str → Option Value} {kS D : Addr} {e1 : Nat} {ks : List SKey} {as : List V} {us : List Value} {e : Nat} (S : SG X pins σ H1 m kS D e1 ks as us e H s) : Fr X.base X.env.locals s.heap m := ⟨S.ns, S.I.bk, Nat.le_trans S.I.ok.bsz S.I.ok.above⟩
theorem vals_rev : ∀ (b : Bool) {xs : List V} {us : List Value}, Vals xs us → Vals (katRev b xs) (katRev b us)
  | false, _, _, h => h
  | true, [], [], _ => .nil
  | true, x :: xs, u :: us, .cons r h => by
    show Vals (x :: xs).reverse (u :: us).reverse
    rw [List.reverse_cons, List.reverse_cons]
    exact (vals_rev true h).append (.cons r .nil)
theorem lex_one (n m : Int) : HT.lexLt [n] [m] = decide (n < m) := by
  rw [HT.lexLt_cons, HT.lexLt_nil_nil]
  by_cases z : n = m
  · rw [if_pos z, decide_eq_false (by omega)]
  · rw [if_neg z]
end
end L2
namespace L2
open PySem PySem.Spec PyProof.Rows PySem.W
/-! ### a lambda that reads a name of the def around it -/
structure LamScope (x y : Str) (sc : Scope) : Prop where
  kind : sc.kind = .function
  co : sc.isCoroutine = false
  gen : sc.isGenerator = false
  lx : sc.names.lookup x = some .local
  ly : sc.names.lookup y = some .free
  nc : ∀ z ∈ sc.names, z.2 ≠ .cell
  nf : ∀ z ∈ sc.names, z.2 = .free → z.1 = y
  ne : x ≠ y
def cxX (CX : CXT) (P : Program) (w : World) (K : PySem.W.Frag) (mg : Str → Option Value) (base : Heap) (N : List Str) (qual : Str) (scope : Scope) (f : Addr) (cd : Value) (cl : List (Str × Addr)) (A : Around) (outer : List Env) (s : Shared) (H : Hp) (E : XK) : Cx where
  prog := P
  w := w
  K := K
  mg := mg
  base := base
  A := A.deeper (envX qual scope s.heap.objs.size f cd cl)
  N := N
  s₀ := s
  H₀ := H
  env := envX qual scope s.heap.objs.size f cd cl
  outer := outer
  stack := envX qual scope s.heap.objs.size f cd cl :: outer
  ex := []
  calm := true
  fn := fun _ => false
  pn := []
  xe := fun e s' => wpAny (model P w) (A.deeper (envX qual scope s.heap.objs.size f cd cl)) (leaving (envX qual scope s.heap.objs.size f cd cl) e) (fun _ s'' => CX outer H s E e s'') (fun e' s'' => CX outer H s E e' s'') s'
theorem inv_startX {CX : CXT} {P : Program} {w : World} {K : PySem.W.Frag} {mg : Str → Option Value} {base : Heap} {x y : Str} {qual : Str} {scope : Scope} {f c : Addr} {cd : Value} {A : Around} {outer : List Env} {s : Shared} {H : Hp} {E : XK} {u ku : Value} {v kv : V} {h1 : Heap} {tk : Nat}
    (S : LamScope x y scope) (hd : A.handled = none) (e0 : Env0 P w K mg base A outer s H) (r : RelV v u) (kr : RelV kv ku) (hc : s.heap.IsCell c (some ku)) (fc : H c = none)
    (hns : h1.Ns s.heap.objs.size fun z => [(x, u)].reverse.lookup z) (hk : ∀ b o, s.heap.get? b = some o → h1.get? b = some o) :
    Inv (cxX CX P w K mg base [x, y] qual scope f cd [(y, c)] A outer s H E) [] [some v, some kv] H { s with heap := h1, toks := tk } := by
  have noA : ∀ b : Addr, b ∉ (cxX CX P w K mg base [x, y] qual scope f cd [(y, c)] A outer s H E).ex := fun b z => absurd (show b ∈ ([] : List Addr) from z) (by simp)
  have lk : ∀ {z : Str} {d : Addr}, ([(y, c)] : List (Str × Addr)).lookup z = some d → z = y ∧ d = c := fun {z d} h => by
    rw [List.lookup_cons] at h
    split at h
    · rename_i e
      cases h
      exact ⟨by simpa using e, rfl⟩
    · cases h
  have ly : ([(y, c)] : List (Str × Addr)).lookup y = some c := by simp
  have cell1 : h1.IsCell c (some ku) := by
    obtain ⟨o, a1, a2⟩ := hc
    exact ⟨o, hk _ _ a1, a2⟩
  refine ⟨⟨e0.mod, S.kind, rfl, rfl, Nat.le_refl _, fun z z' d q1 q2 => ?_, fun z hz => ?_, fun z d q _ => (nomatch q), fun _ => hd, Around.frames_deeper e0.frames, .inr ⟨rfl, rfl⟩, fun b z => absurd z (noA b), e0.bs, e0.bsz, fun b _ _ => noA b, fun b z => absurd z (noA b), e0.funs, e0.frf⟩,
    rfl, e0.bare, Un.kept hk, ⟨_, hns, fun i z v' q1 q2 q3 => ?_⟩, fun z d q => ⟨some ku, by rw [(lk q).2]; exact cell1⟩, e0.hok.fresh (Nat.le_refl _), fun z d q => by rw [(lk q).2]; exact fc, fun p hp => absurd (show p ∈ ([] : List (Addr × Obj)) from hp) (by simp), e0.hok.kept hk, rfl⟩
  · exact (lk q1).1.trans (lk q2).1.symm
  · have hz : scope.names.lookup z = some .cell ∨ scope.names.lookup z = some .free := hz
    rcases hz with hz | hz
    · exact absurd rfl (S.nc _ (PySem.mem_of_lookup hz))
    · exact ⟨c, by rw [show z = y from S.nf _ (PySem.mem_of_lookup hz) rfl]; exact ly⟩
  · match i, q1, q2 with
    | 0, q1, q2 =>
      cases q1
      cases q2
      exact ⟨u, r, .inl ⟨S.lx, by simp⟩⟩
    | 1, q1, q2 =>
      cases q1
      cases q2
      exact ⟨ku, kr, .inr ⟨.inr S.ly, c, ly, cell1⟩⟩
    | i + 2, q1, _ => simp [cxX] at q1
section
variable {X : Cx} {pins : List (Addr × Obj)} {σ : St}
theorem lam_runs {k j : Nat} {x y qual : Str} {params : Arguments} {body : Expr} {scope : Scope} {f c c' : Addr} {pm ct : Value} {kv : V} {sp : Sp} (S : LamScope x y scope) (hi : X.N[j]? = some y) (hσ : σ[j]? = some (some kv)) (hyc : X.env.scope.names.lookup y = some .cell) (hcy : X.env.cells.lookup y = some c) (hr : Room (k + 1) X.A.in1.in1)
    (hbd : ∀ (s : Shared) (u : Value), BindsTo s (lamFd qual params body scope [(y, c)] pm c' ct) ⟨[u], []⟩ [(x, u)])
    (hbody : ∀ (A : Around) (outer : List Env) (s : Shared) (H : Hp) (v : V) (Q : VK), Room k (A.deeper (envX qual scope s.heap.objs.size f (.ref c') [(y, c)])) → sp [v] H Q E0 →
      ∃ t, PE (cxX CX0 X.prog X.w X.K X.mg X.base [x, y] qual scope f (.ref c') [(y, c)] A outer s H E0) body t ∧ t [some v, some kv] H Q) :
    ∀ l, RunsX (wX X l) pins σ f (fun vs H Q E => H f = some (isTh f (lamObj qual params body scope [(y, c)] pm c' ct)) ∧ H c' = some (isCd c' qual) ∧ sp vs H Q E) := by
  intro l s H u v Q I ru ⟨hf, hc, hsp⟩
  have e0 : Env0 X.prog X.w X.K X.mg X.base X.A.in1.in1 X.stack s H := by
    have e0 := I.env0
    exact ⟨e0.frames, e0.mod, e0.bs, e0.bsz, e0.funs, e0.frf, e0.hok, e0.bare⟩
  have lim : s.heap.NoLimit := e0.mod.nolimit.keeps fun b o e => (e0.bs b o e).1
  have of1 := (e0.hok f _ hf).1
  have oc1 := (e0.hok c' _ hc).1
  obtain ⟨m, _, look⟩ := I.loc
  obtain ⟨ku, kr, lk⟩ := look j y kv hi hσ (.inr (.inl hyc))
  have cell : s.heap.IsCell c (some ku) := by
    rcases lk with ⟨z, _⟩ | ⟨_, d, e1, e2⟩
    · have z' : X.env.scope.names.lookup y = some .local := z
      rw [hyc] at z'
      cases z'
    · have e1' : X.env.cells.lookup y = some d := e1
      rw [hcy] at e1'
      cases e1'
      exact e2
  have fc : H c = none := I.freeC y c hcy
  refine kla_callFunE hr.depth of1 rfl S.co S.gen rfl oc1 (hbd s u _ _ _ _ ?_)
  refine wpAny_newFunctionEnv S.nc (fun z hz => ?_) (fun h1 hns hsb => ⟨lim.keeps ?_, kla_codeExpr ?_⟩) S.kind
  · rw [List.mem_singleton.mp hz]
    exact S.lx
  all_goals have hk : ∀ b o, s.heap.get? b = some o → h1.get? b = some o := fun b o e => hsb.extBut b o (Nat.ne_of_lt (Heap.lt_size e)) (Heap.get?_push_of_some _ e)
  · exact hk
  · obtain ⟨t, ht, hq⟩ := hbody X.A.in1.in1 X.stack s H v Q (hr.deeper _) hsp
    have I2 := inv_startX (CX := CX0) (qual := qual) (f := f) (cd := .ref c') (E := E0) (tk := s.toks + 1) S hr.hd e0 ru kr cell fc hns hk
    refine wpAny_mono (ht [] _ _ H _ I2 hq) (fun u s' ⟨v, H', J, rv, q⟩ => ?_) fun e s' hs => hs
    exact ⟨v, H', J.os, J.bare, J.base, J.hok, rv, q⟩
end
end L2
namespace L2
open PySem PySem.Spec PyProof.Rows PySem.W
section
variable {X : Cx} {c P : Addr} {params : Arguments} {body : Expr} {scope : Scope} {pos : Pos} {cl : List (Str × Addr)}
/-- a lambda is made: its code is in the table, or is put there -/
def tLamC (cl : List (Str × Addr)) (X : Cx) (P : Addr) (params : Arguments) (body : Expr) (scope : Scope) (pos : Pos) : TE := fun _ H Q => ∃ ps : Array Value, H P = some (.tbl ps) ∧ TriplesOk ps.toList ∧
  ((∃ c', codeAmong pos ps.toList = some (.ref c') ∧ H c' = some (isCd c' (X.env.qual ++ "<lambda>")) ∧ ∀ f ct, H f = none → Q (.ref f) (upd H f (isTh f (lamObj (X.env.qual ++ "<lambda>") params body scope cl ((X.mg "__name__").getD .none) c' ct)))) ∨
   (codeAmong pos ps.toList = none ∧ ∀ f c' ct, H f = none → H c' = none → c' ≠ f → Q (.ref f) (upd (upd (upd H P (.tbl (ps ++ #[rawInt pos.line, rawInt pos.col, .ref c']))) c' (isCd c' (X.env.qual ++ "<lambda>"))) f (isTh f (lamObj (X.env.qual ++ "<lambda>") params body scope cl ((X.mg "__name__").getD .none) c' ct)))))
theorem pe_lamC (hcode : X.env.code = .ref c) (hge : X.env.globals = mainGlobals) (C : CodeHd X.base c P) (B : Blt X.base X.mg) (hdef : defaultsOf params X.env = ([], [])) (hcl : closureFor scope X.env = pure cl) : PE X (.Lambda params body scope pos) (tLamC cl X P params body scope pos) := by
  intro pins s σ H Q I h
  obtain ⟨ps, hP, ht, hh⟩ := h
  have oP : s.heap.get? P = some (tabObj ps) := I.hok P _ hP
  have hg : s.heap.Ns mainGlobals X.mg := I.ok.mod.glob.keeps I.bk
  have hb := I.bltAt B hP
  refine kla_eval hdef ?_
  rcases hh with ⟨c', hf, hc', q⟩ | ⟨hnf, q⟩
  · refine kla_makeFunctionHit hcl hge hg hcode (C.keeps I.bk) oP ht hf hb fun ct h' tk kp hsz => ?_
    have hn := I.hok.fresh hsz
    exact ⟨.ref _, _, I.laid (t' := tk) (fun b o e => Heap.get?_push_of_some _ (kp b o e)) hsz (isTh_ok (Heap.get?_push_size _ rfl)), rfl, q _ ct hn⟩
  · have hgP : mainGlobals ≠ P := fun z => by
      obtain ⟨o, es, ep, e, d, _⟩ := hg
      rw [z, oP] at e
      cases e
      cases d
    refine kla_makeFunction hcl hge hg hcode (C.keeps I.bk) oP ht hnf hgP hb fun c' ct h' tk hx hge' hlt hrec htb => ?_
    have hnF : c' ≠ h'.objs.size := Nat.ne_of_lt hlt
    obtain ⟨i1, i2, i3⟩ := I.grown (t' := tk) (c := c') (f := h'.objs.size) (h' := h'.push (lamObj (X.env.qual ++ "<lambda>") params body scope cl ((X.mg "__name__").getD .none) c' ct)) (oc := isCd c' (X.env.qual ++ "<lambda>")) (of' := isTh h'.objs.size (lamObj (X.env.qual ++ "<lambda>") params body scope cl ((X.mg "__name__").getD .none) c' ct)) hP
      (fun b o hb' e => Heap.get?_push_of_some _ (hx b o hb' e)) hge' (Nat.le_trans hge' (Nat.le_of_lt hlt)) hnF (Heap.get?_push_of_some _ htb) (fun _ => isCd_ok (by
        obtain ⟨c₂, oc, vs, t, e1, e2, e3, e4⟩ := hrec
        exact ⟨c₂, oc, vs, t, e1, Heap.get?_push_of_some _ e2, e3, e4⟩)) (fun _ => isTh_ok (Heap.get?_push_size _ rfl))
    exact ⟨.ref _, _, i3, rfl, q _ c' ct i2 i1 hnF⟩
/-- the lambda's body, the name around it read -/
structure LamOkX (P : Program) (w : World) (K : PySem.W.Frag) (mg : Str → Option Value) (base : Heap) (k : Nat) (qual : Str) (body : Expr) (scope : Scope) (x y : Str) (sp : V → Sp) : Prop where
  sc : LamScope x y scope
  ex : ∀ (f c' c : Addr) (kv : V) (A : Around) (outer : List Env) (s : Shared) (H : Hp) (v : V) (Q : VK), Room k (A.deeper (envX qual scope s.heap.objs.size f (.ref c') [(y, c)])) → sp kv [v] H Q E0 →
    ∃ t, QE (cxX CX0 P w K mg base [x, y] qual scope f (.ref c') [(y, c)] A outer s H E0) body t ∧ t [some v, some kv] H Q
/-- behind the lambda's making -/
def LamMade (X : Cx) (P : Addr) (q : Str) (lpos : Pos) (params : Arguments) (body : Expr) (scope : Scope) (cl : List (Str × Addr)) (H1 : Hp) (f : Addr) (H2 : Hp) : Prop :=
  ∃ (c' : Addr) (ct : Value), SameT P H1 H2 ∧ LamTab q P lpos H2 ∧ H2 f = some (isTh f (lamObj q params body scope cl ((X.mg "__name__").getD .none) c' ct)) ∧ H2 c' = some (isCd c' q) ∧ f ≠ P ∧ c' ≠ P
theorem lam_made {H1 : Hp} {lpos : Pos} {σ : St} {R : VK} (tab : LamTab (X.env.qual ++ "<lambda>") P lpos H1) (h : ∀ f H2, LamMade X P (X.env.qual ++ "<lambda>") lpos params body scope cl H1 f H2 → R (.ref f) H2) : tLamC cl X P params body scope lpos σ H1 R := by
  obtain ⟨ps, tP, t3, tc⟩ := tab
  refine ⟨ps, tP, t3, ?_⟩
  rcases tc with hno | ⟨c', hy, hc'⟩
  · refine .inr ⟨hno, fun f c' ct f0 c0 hcf => h _ _ ?_⟩
    have nPf : f ≠ P := fun z => by rw [z, tP] at f0; cases f0
    have nPc : c' ≠ P := fun z => by rw [z, tP] at c0; cases c0
    refine ⟨c', ct, fun b o e hb => ?_, ⟨_, by rw [upd_ne (Ne.symm nPf), upd_ne (Ne.symm nPc), upd_same], ?_, .inr ⟨c', ?_, by rw [upd_ne hcf, upd_same]⟩⟩, upd_same, by rw [upd_ne hcf, upd_same], nPf, nPc⟩
    · rw [upd_ne (ne_of_none e f0), upd_ne (ne_of_none e c0), upd_ne hb]
      exact e
    · rw [Array.toList_append]
      exact triples_snoc _ t3
    · rw [Array.toList_append]
      exact codeAmong_snoc _ t3 hno
  · refine .inl ⟨c', hy, hc', fun f ct f0 => h _ _ ?_⟩
    have nPf : f ≠ P := fun z => by rw [z, tP] at f0; cases f0
    have nPc : c' ≠ P := fun z => by rw [z, tP] at hc'; cases hc'
    exact ⟨c', ct, fun b o e hb => by rw [upd_ne (ne_of_none e f0)]; exact e, ⟨ps, by rw [upd_ne (Ne.symm nPf)]; exact tP, t3, .inr ⟨c', hy, by rw [upd_ne (ne_of_none hc' f0)]; exact hc'⟩⟩, upd_same, by rw [upd_ne (ne_of_none hc' f0)]; exact hc', nPf, nPc⟩
section
variable {k j : Nat} {x y : Str} {cy : Addr} {sp : V → Sp} {e : Expr} {ta : TA} {p lpos kpos rpos rp : Pos}
end
end
end L2
namespace L2
open PySem PySem.Spec PyProof.Rows PySem.W
/-! ### xs.index(x) of data; < of two texts or two numbers -/
section
variable {X : Cx}
end
section
variable {X : Cx} {o e : Expr} {to te : TE} {apos cpos : Pos}
end
end L2
namespace L2
open PySem PyProof.Rows PySem.W
/-! ### a sort of any length: the gallop, the merges, the runs -/
def zGal : Bool → Keyed → Array Keyed → Nat → Nat → Nat → StateT SortSt Sem (Option Nat) := sortPriv% PySem.Builtin.gallop
def zLo : Array Keyed → Array Keyed → StateT SortSt Sem (Array Keyed) := sortPriv% PySem.Builtin.mergeLo
def zHi : Array Keyed → Array Keyed → StateT SortSt Sem (Array Keyed) := sortPriv% PySem.Builtin.mergeHi
def zSet : Nat → StateT SortSt Sem Unit := sortPriv% PySem.Builtin.setMinGallop
def zBey (le : Bool) (ky : Keyed) (ar : Array Keyed) (ba i : Nat) : StateT SortSt Sem (Option Bool) := do
  let it ← elem' ar (ba + i)
  if le then lt' it ky else do
    let o ← lt' ky it
    pure (o.map (!·))
theorem zGal_eq (le : Bool) (ky : Keyed) (ar : Array Keyed) (ba n at0 : Nat) : zGal le ky ar ba n at0 = (do
  let mut las := 0; let mut ofs := 1; let mut lo := 0; let mut hi := 0
  let some rig ← zBey le ky ar ba at0 | return none
  if rig then
    for _ in [0:n] do
      if ofs ≥ n - at0 then break
      let some mo ← zBey le ky ar ba (at0 + ofs) | return none
      if !mo then break
      las := ofs; ofs := 2 * ofs + 1
    lo := at0 + las + 1; hi := at0 + min ofs (n - at0)
  else
    for _ in [0:n] do
      if ofs ≥ at0 + 1 then break
      let some fo ← zBey le ky ar ba (at0 - ofs) | return none
      if fo then break
      las := ofs; ofs := 2 * ofs + 1
    lo := at0 + 1 - min ofs (at0 + 1); hi := at0 - las
  for _ in [0:n] do
    if lo ≥ hi then break
    let some mo ← zBey le ky ar ba (lo + (hi - lo) / 2) | return none
    if mo then lo := lo + (hi - lo) / 2 + 1 else hi := lo + (hi - lo) / 2
  return some hi) := rfl
theorem zLo_eq (a b : Array Keyed) : zLo a b = (do
  liftM (rule "list.sort.merge-lo"); let e0 ← elem' b 0; let mut out : Array Keyed := #[e0]; let mut ia := 0; let mut ib := 1
  if ib == b.size then return out ++ a.extract ia a.size ++ b.extract ib b.size
  if ia + 1 == a.size then return out ++ b.extract ib b.size ++ a.extract ia a.size
  let mut mg := gallopOf (← get)
  for _ in [0:a.size + b.size] do
    let mut ac := 0; let mut bc := 0
    for _ in [0:a.size + b.size] do
      let y ← elem' b ib; let x ← elem' a ia
      let some won ← lt' y x | return out ++ a.extract ia a.size ++ b.extract ib b.size
      if won then
        let y ← elem' b ib; out := out.push y; ib := ib + 1; bc := bc + 1; ac := 0
        if ib == b.size then return out ++ a.extract ia a.size ++ b.extract ib b.size
        if bc ≥ mg then break
      else
        let x ← elem' a ia; out := out.push x; ia := ia + 1; ac := ac + 1; bc := 0
        if ia + 1 == a.size then return out ++ b.extract ib b.size ++ a.extract ia a.size
        if ac ≥ mg then break
    liftM (rule "list.sort.gallop"); mg := mg + 1
    for _ in [0:a.size + b.size] do
      if mg > 1 then mg := mg - 1
      zSet mg; let y ← elem' b ib
      let some k ← zGal false y a ia (a.size - ia) 0 | return out ++ a.extract ia a.size ++ b.extract ib b.size
      ac := k
      if k > 0 then
        out := out ++ a.extract ia (ia + k); ia := ia + k
        if ia + 1 == a.size then return out ++ b.extract ib b.size ++ a.extract ia a.size
        if ia == a.size then return out ++ a.extract ia a.size ++ b.extract ib b.size
      let y ← elem' b ib; out := out.push y; ib := ib + 1
      if ib == b.size then return out ++ a.extract ia a.size ++ b.extract ib b.size
      let x ← elem' a ia
      let some k ← zGal true x b ib (b.size - ib) 0 | return out ++ a.extract ia a.size ++ b.extract ib b.size
      bc := k
      if k > 0 then
        out := out ++ b.extract ib (ib + k); ib := ib + k
        if ib == b.size then return out ++ a.extract ia a.size ++ b.extract ib b.size
      let x ← elem' a ia; out := out.push x; ia := ia + 1
      if ia + 1 == a.size then return out ++ b.extract ib b.size ++ a.extract ia a.size
      if ac < 7 && bc < 7 then break
    mg := mg + 1; zSet mg
  unsupported "internal:list.sort.merge-bound") := rfl
theorem zHi_eq (a b : Array Keyed) : zHi a b = (do
  liftM (rule "list.sort.merge-hi"); let mut na := a.size - 1; let mut nb := b.size; let e0 ← elem' a na; let mut out : Array Keyed := #[e0]
  if na == 0 then return a.extract 0 na ++ b.extract 0 nb ++ out.reverse
  if nb == 1 then return b.extract 0 nb ++ a.extract 0 na ++ out.reverse
  let mut mg := gallopOf (← get)
  for _ in [0:a.size + b.size] do
    let mut ac := 0; let mut bc := 0
    for _ in [0:a.size + b.size] do
      let y ← elem' b (nb - 1); let x ← elem' a (na - 1)
      let some won ← lt' y x | return a.extract 0 na ++ b.extract 0 nb ++ out.reverse
      if won then
        na := na - 1; let x ← elem' a na; out := out.push x; ac := ac + 1; bc := 0
        if na == 0 then return a.extract 0 na ++ b.extract 0 nb ++ out.reverse
        if ac ≥ mg then break
      else
        nb := nb - 1; let y ← elem' b nb; out := out.push y; bc := bc + 1; ac := 0
        if nb == 1 then return b.extract 0 nb ++ a.extract 0 na ++ out.reverse
        if bc ≥ mg then break
    liftM (rule "list.sort.gallop"); mg := mg + 1
    for _ in [0:a.size + b.size] do
      if mg > 1 then mg := mg - 1
      zSet mg; let y ← elem' b (nb - 1)
      let some k ← zGal false y a 0 na (na - 1) | return a.extract 0 na ++ b.extract 0 nb ++ out.reverse
      ac := na - k
      if na - k > 0 then
        out := out ++ (a.extract k na).reverse; na := k
        if na == 0 then return a.extract 0 na ++ b.extract 0 nb ++ out.reverse
      nb := nb - 1; let y ← elem' b nb; out := out.push y
      if nb == 1 then return b.extract 0 nb ++ a.extract 0 na ++ out.reverse
      let x ← elem' a (na - 1)
      let some k ← zGal true x b 0 nb (nb - 1) | return a.extract 0 na ++ b.extract 0 nb ++ out.reverse
      bc := nb - k
      if nb - k > 0 then
        out := out ++ (b.extract k nb).reverse; nb := k
        if nb == 1 then return b.extract 0 nb ++ a.extract 0 na ++ out.reverse
        if nb == 0 then return a.extract 0 na ++ b.extract 0 nb ++ out.reverse
      na := na - 1; let x ← elem' a na; out := out.push x
      if na == 0 then return a.extract 0 na ++ b.extract 0 nb ++ out.reverse
      if ac < 7 && bc < 7 then break
    mg := mg + 1; zSet mg
  unsupported "internal:list.sort.merge-bound") := rfl
def zPut (ar : Array Keyed) (at0 : Nat) (xs : Array Keyed) : Array Keyed := xs.toList.zipIdx.foldl (fun a (p, j) => a.setIfInBounds (at0 + j) p) ar
theorem zAt_eq (i : Nat) : mergeAt' i = (do
  let st ← get
  let (some (sa, na, pw), some (sb, nb, _)) := ((pendingOf st)[i]?, (pendingOf st)[i + 1]?) | unsupported "internal:list.sort.pending"
  set (setPending st (((pendingOf st).setIfInBounds i (sa, na + nb, pw)).eraseIdxIfInBounds (i + 1)))
  let y ← elem' (arrOf st) sb
  let some k ← zGal false y (arrOf st) sa na 0 | return false
  if na - k == 0 then return true
  let x ← elem' (arrOf st) (sa + k + (na - k) - 1)
  let some nc ← zGal true x (arrOf st) sb nb (nb - 1) | return false
  if nc == 0 then return true
  let mer ← if na - k ≤ nc then zLo ((arrOf st).extract (sa + k) sb) ((arrOf st).extract sb (sb + nc)) else zHi ((arrOf st).extract (sa + k) sb) ((arrOf st).extract sb (sb + nc))
  modify fun st => setArr st (zPut (arrOf st) (sa + k) mer)
  return (failedOf (← get)).isNone) := rfl
end L2
namespace L2
open PySem PyProof.Rows PySem.W
section
variable {prog : Program} {w : World} {A : Around} {E : Value → Shared → Prop} {s : Shared} {κ : SortKind} {it : Array Keyed} {lt : Nat → Nat → Bool} {N : Nat} {st : SortSt}
/-- the questions of a sort: they leave all as it is -/
def Zc (prog : Program) (w : World) (A : Around) (s : Shared) (κ : SortKind) (it : Array Keyed) (lt : Nat → Nat → Bool) (N : Nat) : Prop :=
  ∀ i j (C : Bool → Shared → Prop), i < N → j < N → C (lt i j) s → kas_cmp prog w A κ it i j C s
theorem z_lt (Z : Zc prog w A s κ it lt N) {i j : Nat} {Q : Option Bool → SortSt → Prop} (hk : kindOf st = κ) (hi : i < N) (hj : j < N) (h : Q (some (lt i j)) st) : wpS (model prog w) A E s (lt' (kas_item it i) (kas_item it j)) Q st := by
  rw [lt'_eq]
  refine wpS_bind (wpS_get ?_)
  rw [hk]
  refine wpS_bind (wpS_lift (wpAny_attempt (wpAny_mono (Z i j (fun c s' => c = lt i j ∧ s' = s) hi hj ⟨rfl, rfl⟩) (fun c s' hc => ?_) fun _ _ hF => hF.elim)))
  obtain ⟨rfl, rfl⟩ := hc
  exact ⟨rfl, wpS_pure h⟩
theorem z_el {q : Array Nat} {i : Nat} (hi : i < q.size) : elem' (q.map (kas_item it)) i = pure (kas_item it (gA q i)) := by
  rw [elem'_eq]
  have e : (q.map (kas_item it))[i]? = some (kas_item it (gA q i)) := by
    rw [Array.getElem?_map]
    have e1 : gA q i = q[i] := by unfold gA; simp [Array.getD, hi]
    rw [e1]
    simp [hi]
  rw [e]
def zB (lt : Nat → Nat → Bool) (le : Bool) (k x : Nat) : Bool := if le = true then lt x k else !lt k x
theorem z_bey (Z : Zc prog w A s κ it lt N) {le : Bool} {k ba i : Nat} {q : Array Nat} {Q : Option Bool → SortSt → Prop} (hk : kindOf st = κ) (hK : k < N) (hi : ba + i < q.size) (hq : gA q (ba + i) < N) (h : Q (some (zB lt le k (gA q (ba + i)))) st) :
    wpS (model prog w) A E s (zBey le (kas_item it k) (q.map (kas_item it)) ba i) Q st := by
  unfold zBey
  rw [z_el hi]
  refine wpS_bind (wpS_pure ?_)
  cases le with
  | true =>
    simp only [if_true]
    exact z_lt Z hk hq hK h
  | false =>
    simp only [Bool.false_eq_true, if_false]
    exact wpS_bind (z_lt Z hk hK hq (wpS_pure h))
theorem z_gal0 {le : Bool} {ky : Keyed} {ar : Array Keyed} {ba n at0 : Nat} {B : Nat → Bool} {Q : Option Nat → SortSt → Prop} (hb : ∀ i (Q : Option Bool → SortSt → Prop), i < n → Q (some (B i)) st → wpS (model prog w) A E s (zBey le ky ar ba i) Q st) (h0 : at0 < n)
    (mono : ∀ i j, i ≤ j → j < n → B j = true → B i = true) (h : ∀ m, m ≤ n → (∀ i, i < m → B i = true) → (∀ i, m ≤ i → i < n → B i = false) → Q (some m) st) : wpS (model prog w) A E s (zGal le ky ar ba n at0) Q st := by
  have fin : ∀ lo hi, lo ≤ hi → hi ≤ n → (∀ i, i < lo → B i = true) → (∀ i, hi ≤ i → i < n → B i = false) → wpS (model prog w) A E s (do
      let mut lo := lo; let mut hi := hi
      for _ in [0:n] do
        if lo ≥ hi then break
        let some mo ← zBey le ky ar ba (lo + (hi - lo) / 2) | return none
        if mo then lo := lo + (hi - lo) / 2 + 1 else hi := lo + (hi - lo) / 2
      return some hi) Q st := fun lo hi h1 h2 h3 h4 => by
    refine wpS_bind (wpS_mono (wpS_forRange (I := fun x c st' => st' = st ∧ ∃ lo hi, c = (none, lo, hi) ∧ lo ≤ hi ∧ hi ≤ n ∧ hi - lo ≤ n - x ∧ (∀ i, i < lo → B i = true) ∧ (∀ i, hi ≤ i → i < n → B i = false))
      (Q := fun c st' => st' = st ∧ ∃ hi, c = (none, hi, hi) ∧ hi ≤ n ∧ (∀ i, i < hi → B i = true) ∧ (∀ i, hi ≤ i → i < n → B i = false)) ?step ?fin ⟨rfl, lo, hi, rfl, h1, h2, by omega, h3, h4⟩) ?post)
    case fin =>
      rintro c st' ⟨rfl, lo, hi, rfl, g1, g2, g3, g4, g5⟩
      have e : lo = hi := by omega
      subst e
      exact ⟨rfl, lo, rfl, g2, g4, g5⟩
    case post =>
      rintro c st' ⟨rfl, hi, rfl, g2, g4, g5⟩
      exact wpS_pure (h hi g2 g4 g5)
    case step =>
      rintro x c st' _ hx ⟨rfl, lo, hi, rfl, g1, g2, g3, g4, g5⟩
      dsimp only
      by_cases hge : lo ≥ hi
      · rw [if_pos hge]
        have e : lo = hi := by omega
        subst e
        exact wpS_pure ⟨rfl, lo, rfl, g2, g4, g5⟩
      · rw [if_neg hge]
        refine wpS_bind (hb _ _ (by omega) ?_)
        dsimp only
        cases e : B (lo + (hi - lo) / 2) with
        | true =>
          rw [if_pos rfl]
          exact wpS_pure ⟨rfl, _, _, rfl, by omega, g2, by omega, fun i hi' => mono i (lo + (hi - lo) / 2) (by omega) (by omega) e, g5⟩
        | false =>
          rw [if_neg (by simp)]
          refine wpS_pure ⟨rfl, _, _, rfl, by omega, by omega, by omega, g4, fun i hi1 hi2 => ?_⟩
          cases e' : B i with
          | false => rfl
          | true => rw [mono _ i hi1 hi2 e'] at e; cases e
  rw [zGal_eq]
  refine wpS_bind (hb at0 _ h0 ?_)
  dsimp only
  cases e : B at0 with
  | true =>
    simp only [if_true]
    refine wpS_bind (wpS_mono (wpS_forRange (I := fun x c st' => st' = st ∧ ∃ las ofs, c = (none, las, ofs) ∧ las < ofs ∧ x + 1 ≤ ofs ∧ las < n - at0 ∧ B (at0 + las) = true)
      (Q := fun c st' => st' = st ∧ ∃ las ofs, c = (none, las, ofs) ∧ las < ofs ∧ las < n - at0 ∧ B (at0 + las) = true ∧ (ofs ≥ n - at0 ∨ B (at0 + ofs) = false)) ?step ?fin ⟨rfl, 0, 1, rfl, by omega, by omega, by omega, e⟩) ?post)
    case fin =>
      rintro c st' ⟨rfl, las, ofs, rfl, g1, g2, g3, g4⟩
      exact ⟨rfl, las, ofs, rfl, g1, g3, g4, .inl (by omega)⟩
    case post =>
      rintro c st' ⟨rfl, las, ofs, rfl, g1, g2, g3, g4⟩
      refine fin (at0 + las + 1) (at0 + min ofs (n - at0)) (by omega) (by omega) (fun i hi' => mono i (at0 + las) (by omega) (by omega) g3) fun i hi1 hi2 => ?_
      rcases g4 with g4 | g4
      · omega
      · cases e' : B i with
        | false => rfl
        | true => rw [mono _ i (by omega) hi2 e'] at g4; cases g4
    case step =>
      rintro x c st' _ hx ⟨rfl, las, ofs, rfl, g1, g2, g3, g4⟩
      dsimp only
      by_cases hge : ofs ≥ n - at0
      · rw [if_pos hge]
        exact wpS_pure ⟨rfl, las, ofs, rfl, g1, g3, g4, .inl hge⟩
      · rw [if_neg hge]
        refine wpS_bind (hb _ _ (by omega) ?_)
        dsimp only
        cases e : B (at0 + ofs) with
        | true =>
          rw [if_neg (by simp)]
          exact wpS_pure ⟨rfl, ofs, _, rfl, by omega, by omega, by omega, e⟩
        | false =>
          rw [if_pos (by simp)]
          exact wpS_pure ⟨rfl, las, ofs, rfl, g1, g3, g4, .inr e⟩
  | false =>
    simp only [Bool.false_eq_true, if_false]
    refine wpS_bind (wpS_mono (wpS_forRange (I := fun x c st' => st' = st ∧ ∃ las ofs, c = (none, las, ofs) ∧ las < ofs ∧ x + 1 ≤ ofs ∧ las ≤ at0 ∧ B (at0 - las) = false)
      (Q := fun c st' => st' = st ∧ ∃ las ofs, c = (none, las, ofs) ∧ las < ofs ∧ las ≤ at0 ∧ B (at0 - las) = false ∧ (ofs ≥ at0 + 1 ∨ B (at0 - ofs) = true)) ?step ?fin ⟨rfl, 0, 1, rfl, by omega, by omega, by omega, e⟩) ?post)
    case fin =>
      rintro c st' ⟨rfl, las, ofs, rfl, g1, g2, g3, g4⟩
      exact ⟨rfl, las, ofs, rfl, g1, g3, g4, .inl (by omega)⟩
    case post =>
      rintro c st' ⟨rfl, las, ofs, rfl, g1, g2, g3, g4⟩
      refine fin (at0 + 1 - min ofs (at0 + 1)) (at0 - las) (by omega) (by omega) (fun i hi' => ?_) fun i hi1 hi2 => ?_
      · rcases g4 with g4 | g4
        · omega
        · exact mono i (at0 - ofs) (by omega) (by omega) g4
      · cases e' : B i with
        | false => rfl
        | true => rw [mono _ i hi1 hi2 e'] at g3; cases g3
    case step =>
      rintro x c st' _ hx ⟨rfl, las, ofs, rfl, g1, g2, g3, g4⟩
      dsimp only
      by_cases hge : ofs ≥ at0 + 1
      · rw [if_pos hge]
        exact wpS_pure ⟨rfl, las, ofs, rfl, g1, g3, g4, .inl hge⟩
      · rw [if_neg hge]
        refine wpS_bind (hb _ _ (by omega) ?_)
        dsimp only
        cases e : B (at0 - ofs) with
        | true =>
          rw [if_pos rfl]
          exact wpS_pure ⟨rfl, las, ofs, rfl, g1, g3, g4, .inr e⟩
        | false =>
          rw [if_neg (by simp)]
          exact wpS_pure ⟨rfl, ofs, _, rfl, by omega, by omega, by omega, e⟩
theorem z_gal (Z : Zc prog w A s κ it lt N) {le : Bool} {k ba n at0 : Nat} {q : Array Nat} {Q : Option Nat → SortSt → Prop} (hk : kindOf st = κ) (hK : k < N) (hz : ba + n ≤ q.size) (hq : ∀ i, ba ≤ i → i < ba + n → gA q i < N) (h0 : at0 < n)
    (mono : ∀ i j, i ≤ j → j < n → zB lt le k (gA q (ba + j)) = true → zB lt le k (gA q (ba + i)) = true)
    (h : ∀ m, m ≤ n → (∀ i, i < m → zB lt le k (gA q (ba + i)) = true) → (∀ i, m ≤ i → i < n → zB lt le k (gA q (ba + i)) = false) → Q (some m) st) : wpS (model prog w) A E s (zGal le (kas_item it k) (q.map (kas_item it)) ba n at0) Q st :=
  z_gal0 (B := fun i => zB lt le k (gA q (ba + i))) (fun i _ hi hQ => z_bey Z hk hK (by omega) (hq _ (by omega) (by omega)) hQ) h0 mono h
end
end L2
namespace L2
open PySem PyProof.Rows PySem.W
section
variable {lt : Nat → Nat → Bool}
theorem gA_list (p : Array Nat) (k : Nat) : gA p k = p.toList.getD k 0 := by
  unfold gA
  rw [Array.getD_eq_getD_getElem?, List.getD_eq_getElem?_getD, Array.getElem?_toList]
theorem mem_d {l : List Nat} {i x : Nat} (h : x ∈ l.drop i) : ∃ j, i ≤ j ∧ j < l.length ∧ l.getD j 0 = x := by
  obtain ⟨n, hn, e⟩ := List.mem_iff_getElem.mp h
  rw [List.length_drop] at hn
  refine ⟨i + n, by omega, by omega, ?_⟩
  rw [List.getElem_drop] at e
  rw [List.getD_eq_getElem?_getD, List.getElem?_eq_getElem (by omega)]
  exact e
theorem mem_t {l : List Nat} {i x : Nat} (h : x ∈ l.take i) : ∃ j, j < i ∧ j < l.length ∧ l.getD j 0 = x := by
  obtain ⟨n, hn, e⟩ := List.mem_iff_getElem.mp h
  rw [List.length_take] at hn
  refine ⟨n, by omega, by omega, ?_⟩
  rw [List.getElem_take] at e
  rw [List.getD_eq_getElem?_getD, List.getElem?_eq_getElem (by omega)]
  exact e
theorem mem_dt {l : List Nat} {i k x : Nat} (h : x ∈ (l.drop i).take k) : ∃ j, i ≤ j ∧ j < i + k ∧ j < l.length ∧ l.getD j 0 = x := by
  obtain ⟨j, h1, h2, e⟩ := mem_t h
  rw [List.length_drop] at h2
  refine ⟨i + j, by omega, by omega, by omega, ?_⟩
  rw [← e, List.getD_eq_getElem?_getD, List.getD_eq_getElem?_getD, List.getElem?_drop]
/-- what stands is in order, and whatever follows in order is in order behind it -/
def Mg (lt : Nat → Nat → Bool) (T o A B : List Nat) : Prop := ∀ r : List Nat, r.Perm (A ++ B) → r.Pairwise (Lx lt) → (o ++ r).Pairwise (Lx lt) ∧ (o ++ r).Perm T
def Mh (lt : Nat → Nat → Bool) (T o A B : List Nat) : Prop := ∀ r : List Nat, r.Perm (A ++ B) → r.Pairwise (Lx lt) → (r ++ o).Pairwise (Lx lt) ∧ (r ++ o).Perm T
theorem Mg.step {T o A B c A' B' : List Nat} (h : Mg lt T o A B) (hp : (c ++ (A' ++ B')).Perm (A ++ B)) (hc : c.Pairwise (Lx lt)) (hx : ∀ x ∈ c, ∀ y ∈ A' ++ B', Lx lt x y) : Mg lt T (o ++ c) A' B' := fun r hr hs => by
  rw [List.append_assoc]
  exact h (c ++ r) ((hr.append_left c).trans hp) (List.pairwise_append.mpr ⟨hc, hs, fun x hx' y hy => hx x hx' y (hr.mem_iff.mp hy)⟩)
theorem Mh.step {T o A B c A' B' : List Nat} (h : Mh lt T o A B) (hp : ((A' ++ B') ++ c).Perm (A ++ B)) (hc : c.Pairwise (Lx lt)) (hx : ∀ y ∈ A' ++ B', ∀ x ∈ c, Lx lt y x) : Mh lt T (c ++ o) A' B' := fun r hr hs => by
  rw [← List.append_assoc]
  exact h (r ++ c) ((hr.append_right c).trans hp) (List.pairwise_append.mpr ⟨hs, hc, fun y hy x hx' => hx y (hr.mem_iff.mp hy) x hx'⟩)
structure MF (lt : Nat → Nat → Bool) (N : Nat) (a b : Array Nat) : Prop where
  sa : ∀ i j, i < j → j < a.size → Lx lt (gA a i) (gA a j)
  sb : ∀ i j, i < j → j < b.size → Lx lt (gA b i) (gA b j)
  cr : ∀ i j, i < a.size → j < b.size → lt (gA b j) (gA a i) = false → Lx lt (gA a i) (gA b j)
  na : ∀ i, i < a.size → gA a i < N
  nb : ∀ i, i < b.size → gA b i < N
  a0 : 0 < a.size
  b0 : 0 < b.size
  fst : lt (gA b 0) (gA a 0) = true
  lst : ∀ j, j < b.size → lt (gA b j) (gA a (a.size - 1)) = true
theorem pw_of {p : Array Nat} (h : ∀ i j, i < j → j < p.size → Lx lt (gA p i) (gA p j)) : p.toList.Pairwise (Lx lt) := by
  rw [List.pairwise_iff_getElem]
  intro i j hi hj hij
  have := h i j hij (by simpa using hj)
  rw [gA_list, gA_list, List.getD_eq_getElem?_getD, List.getD_eq_getElem?_getD, List.getElem?_eq_getElem hi, List.getElem?_eq_getElem hj] at this
  exact this
theorem of_pw {p : Array Nat} (h : p.toList.Pairwise (Lx lt)) : ∀ i j, i < j → j < p.size → Lx lt (gA p i) (gA p j) := fun i j hij hj => by
  rw [List.pairwise_iff_getElem] at h
  have hj' : j < p.toList.length := by simpa using hj
  have := h i j (by omega) hj' hij
  rw [gA_list, gA_list, List.getD_eq_getElem?_getD, List.getD_eq_getElem?_getD, List.getElem?_eq_getElem (show i < p.toList.length by omega), List.getElem?_eq_getElem hj']
  exact this
variable {N : Nat} {a b : Array Nat} {f : Nat → Keyed}
theorem MF.leA (h : MF lt N a b) (O : LtOk lt) {i j : Nat} (hij : i ≤ j) (hj : j < a.size) {x : Nat} (hx : lt x (gA a i) = true) : lt x (gA a j) = true := by
  rcases Nat.lt_or_ge i j with h1 | h1
  · exact O.lt_le hx (h.sa i j h1 hj).1
  · have e : i = j := by omega
    rw [← e]
    exact hx
theorem MF.leB (h : MF lt N a b) (O : LtOk lt) {i j : Nat} (hij : i ≤ j) (hj : j < b.size) {x : Nat} (hx : lt (gA b j) x = true) : lt (gA b i) x = true := by
  rcases Nat.lt_or_ge i j with h1 | h1
  · exact O.le_lt (h.sb i j h1 hj).1 hx
  · have e : i = j := by omega
    rw [e]
    exact hx
def Gd (lt : Nat → Nat → Bool) (f : Nat → Keyed) (a b : Array Nat) (r : Array Keyed) : Prop := ∃ q : Array Nat, r = q.map f ∧ q.toList.Pairwise (Lx lt) ∧ q.toList.Perm (a.toList ++ b.toList)
def LoM (lt : Nat → Nat → Bool) (f : Nat → Keyed) (a b : Array Nat) (out : Array Keyed) (ia ib : Nat) : Prop := ∃ o : Array Nat, out = o.map f ∧ Mg lt (a.toList ++ b.toList) o.toList (a.toList.drop ia) (b.toList.drop ib)
def HiM (lt : Nat → Nat → Bool) (f : Nat → Keyed) (a b : Array Nat) (out : Array Keyed) (na nb : Nat) : Prop := ∃ o : Array Nat, out = o.map f ∧ Mh lt (a.toList ++ b.toList) o.toList.reverse (a.toList.take na) (b.toList.take nb)
theorem ext_map (p : Array Nat) (i j : Nat) : (p.map f).extract i j = (p.extract i j).map f := by
  apply Array.toList_inj.mp
  simp
theorem ext_tail (p : Array Nat) (i k : Nat) : (p.extract i (i + k)).toList = (p.toList.drop i).take k := by
  rw [Array.toList_extract, List.extract_eq_take_drop, Nat.add_sub_cancel_left]
theorem ext_from (p : Array Nat) (i : Nat) : (p.extract i p.size).toList = p.toList.drop i := by
  rw [Array.toList_extract, List.extract_eq_take_drop]
  exact List.take_of_length_le (by simp)
theorem ext_upto (p : Array Nat) (i : Nat) : (p.extract 0 i).toList = p.toList.take i := by
  rw [Array.toList_extract, List.extract_eq_take_drop, List.drop_zero, Nat.sub_zero]
theorem LoM.chunkA (M : MF lt N a b) (O : LtOk lt) {out : Array Keyed} {ia ib : Nat} (h : LoM lt f a b out ia ib) (k : Nat) (hk : ia + k ≤ a.size) (hb : ib < b.size) (hw : ∀ i, i < k → lt (gA b ib) (gA a (ia + i)) = false) : LoM lt f a b (out ++ (a.map f).extract ia (ia + k)) (ia + k) ib := by
  obtain ⟨o, rfl, h⟩ := h
  refine ⟨o ++ a.extract ia (ia + k), by rw [ext_map, Array.map_append], ?_⟩
  rw [Array.toList_append, ext_tail]
  have e : a.toList.drop ia = (a.toList.drop ia).take k ++ a.toList.drop (ia + k) := by rw [← List.drop_drop, List.take_append_drop]
  have pa : (a.toList.drop ia).Pairwise (Lx lt) := (pw_of M.sa).sublist (List.drop_sublist _ _)
  refine h.step ?_ (pa.sublist (List.take_sublist _ _)) fun x hx y hy => ?_
  · rw [← List.append_assoc, ← e]
  · rcases List.mem_append.mp hy with hy | hy
    · rw [e] at pa
      exact (List.pairwise_append.mp pa).2.2 x hx y hy
    · obtain ⟨i, h1, h2, h3, rfl⟩ := mem_dt hx
      obtain ⟨j, g1, g2, rfl⟩ := mem_d hy
      have h3' : i < a.size := by simpa using h3
      have g2' : j < b.size := by simpa using g2
      rw [← gA_list, ← gA_list]
      have w := hw (i - ia) (by omega)
      rw [show ia + (i - ia) = i by omega] at w
      refine M.cr i j h3' g2' ?_
      cases e' : lt (gA b j) (gA a i) with
      | false => rfl
      | true => rw [M.leB O g1 g2' e'] at w; cases w
theorem LoM.chunkB (M : MF lt N a b) (O : LtOk lt) {out : Array Keyed} {ia ib : Nat} (h : LoM lt f a b out ia ib) (k : Nat) (hk : ib + k ≤ b.size) (hb : ia < a.size) (hw : ∀ i, i < k → lt (gA b (ib + i)) (gA a ia) = true) : LoM lt f a b (out ++ (b.map f).extract ib (ib + k)) ia (ib + k) := by
  obtain ⟨o, rfl, h⟩ := h
  refine ⟨o ++ b.extract ib (ib + k), by rw [ext_map, Array.map_append], ?_⟩
  rw [Array.toList_append, ext_tail]
  have e : b.toList.drop ib = (b.toList.drop ib).take k ++ b.toList.drop (ib + k) := by rw [← List.drop_drop, List.take_append_drop]
  have pb : (b.toList.drop ib).Pairwise (Lx lt) := (pw_of M.sb).sublist (List.drop_sublist _ _)
  refine h.step ?_ (pb.sublist (List.take_sublist _ _)) fun x hx y hy => ?_
  · refine (List.perm_append_comm_assoc _ _ _).trans ?_
    rw [← e]
  · rcases List.mem_append.mp hy with hy | hy
    · obtain ⟨i, h1, h2, h3, rfl⟩ := mem_dt hx
      obtain ⟨j, g1, g2, rfl⟩ := mem_d hy
      have g2' : j < a.size := by simpa using g2
      rw [← gA_list, ← gA_list]
      have w := hw (i - ib) (by omega)
      rw [show ib + (i - ib) = i by omega] at w
      exact Lx.of_lt O (M.leA O g1 g2' w)
    · rw [e] at pb
      exact (List.pairwise_append.mp pb).2.2 x hx y hy
theorem push_ext {out : Array Keyed} {p : Array Nat} {i : Nat} (hi : i < p.size) : out.push (f (gA p i)) = out ++ (p.map f).extract i (i + 1) := by
  apply Array.toList_inj.mp
  rw [Array.toList_push, Array.toList_append, ext_map, Array.toList_map, ext_tail]
  have hi' : i < p.toList.length := by simpa using hi
  have e : (p.toList.drop i).take 1 = [gA p i] := by
    rw [List.drop_eq_getElem_cons hi', gA_list, List.getD_eq_getElem?_getD, List.getElem?_eq_getElem hi']
    rfl
  rw [e]
  rfl
theorem LoM.pushA (M : MF lt N a b) (O : LtOk lt) {out : Array Keyed} {ia ib : Nat} (h : LoM lt f a b out ia ib) (ha : ia < a.size) (hb : ib < b.size) (hw : lt (gA b ib) (gA a ia) = false) : LoM lt f a b (out.push (f (gA a ia))) (ia + 1) ib := by
  rw [push_ext ha]
  refine h.chunkA M O 1 (by omega) hb fun i hi => ?_
  rw [show ia + i = ia by omega]
  exact hw
theorem LoM.pushB (M : MF lt N a b) (O : LtOk lt) {out : Array Keyed} {ia ib : Nat} (h : LoM lt f a b out ia ib) (ha : ia < a.size) (hb : ib < b.size) (hw : lt (gA b ib) (gA a ia) = true) : LoM lt f a b (out.push (f (gA b ib))) ia (ib + 1) := by
  rw [push_ext hb]
  refine h.chunkB M O 1 (by omega) ha fun i hi => ?_
  rw [show ib + i = ib by omega]
  exact hw
theorem LoM.done (M : MF lt N a b) {out : Array Keyed} {ia ib : Nat} (h : LoM lt f a b out ia ib) (he : ia = a.size ∨ ib = b.size) : Gd lt f a b (out ++ (a.map f).extract ia a.size ++ (b.map f).extract ib b.size) := by
  obtain ⟨o, rfl, h⟩ := h
  have pa : (a.toList.drop ia).Pairwise (Lx lt) := (pw_of M.sa).sublist (List.drop_sublist _ _)
  have pb : (b.toList.drop ib).Pairwise (Lx lt) := (pw_of M.sb).sublist (List.drop_sublist _ _)
  refine ⟨o ++ a.extract ia a.size ++ b.extract ib b.size, by rw [ext_map, ext_map, Array.map_append, Array.map_append], ?_⟩
  rw [Array.toList_append, Array.toList_append, ext_from, ext_from, List.append_assoc]
  refine h _ (List.Perm.refl _) ?_
  rcases he with rfl | rfl
  · rw [List.drop_of_length_le (by simp), List.nil_append]
    exact pb
  · rw [List.drop_of_length_le (l := b.toList) (by simp), List.append_nil]
    exact pa
theorem LoM.last (M : MF lt N a b) (O : LtOk lt) {out : Array Keyed} {ia ib : Nat} (h : LoM lt f a b out ia ib) (he : ia + 1 = a.size) : Gd lt f a b (out ++ (b.map f).extract ib b.size ++ (a.map f).extract ia a.size) := by
  obtain ⟨o, rfl, h⟩ := h
  have pa : (a.toList.drop ia).Pairwise (Lx lt) := (pw_of M.sa).sublist (List.drop_sublist _ _)
  have pb : (b.toList.drop ib).Pairwise (Lx lt) := (pw_of M.sb).sublist (List.drop_sublist _ _)
  refine ⟨o ++ b.extract ib b.size ++ a.extract ia a.size, by rw [ext_map, ext_map, Array.map_append, Array.map_append], ?_⟩
  rw [Array.toList_append, Array.toList_append, ext_from, ext_from, List.append_assoc]
  refine h _ List.perm_append_comm (List.pairwise_append.mpr ⟨pb, pa, fun x hx y hy => ?_⟩)
  obtain ⟨i, h1, h3, rfl⟩ := mem_d hx
  obtain ⟨j, g1, g2, rfl⟩ := mem_d hy
  have g2' : j < a.size := by simpa using g2
  rw [← gA_list, ← gA_list]
  have w := M.lst i (by simpa using h3)
  rw [show j = a.size - 1 by omega]
  exact Lx.of_lt O w
theorem LoM.start (M : MF lt N a b) (O : LtOk lt) : LoM lt f a b #[f (gA b 0)] 0 1 := by
  have h : LoM lt f a b #[] 0 0 := ⟨#[], by simp, fun r hr hs => ⟨hs, hr⟩⟩
  exact h.pushB M O M.a0 M.b0 M.fst
theorem rev_ext {out : Array Keyed} (p : Array Nat) (i j : Nat) (o : Array Nat) (e : out = o.map f) : out ++ ((p.map f).extract i j).reverse = (o ++ (p.extract i j).reverse).map f := by
  rw [e, ext_map, Array.map_append, Array.map_reverse]
theorem ext_mid (p : Array Nat) (i j : Nat) : (p.extract i j).toList = (p.toList.take j).drop i := by
  rw [Array.toList_extract, List.extract_eq_take_drop, List.drop_take]
theorem mem_td {l : List Nat} {i j x : Nat} (h : x ∈ (l.take j).drop i) : ∃ k, i ≤ k ∧ k < j ∧ k < l.length ∧ l.getD k 0 = x := by
  obtain ⟨k, h1, h2, e⟩ := mem_d h
  rw [List.length_take] at h2
  refine ⟨k, h1, by omega, by omega, ?_⟩
  rw [← e, List.getD_eq_getElem?_getD, List.getD_eq_getElem?_getD, List.getElem?_take, if_pos (by omega)]
theorem HiM.chunkA (M : MF lt N a b) (O : LtOk lt) {out : Array Keyed} {na nb : Nat} (h : HiM lt f a b out na nb) (k : Nat) (hk : k ≤ na) (ha : na ≤ a.size) (hb1 : 0 < nb) (hb : nb ≤ b.size) (hw : ∀ i, k ≤ i → i < na → lt (gA b (nb - 1)) (gA a i) = true) : HiM lt f a b (out ++ ((a.map f).extract k na).reverse) k nb := by
  obtain ⟨o, e0, h⟩ := h
  refine ⟨o ++ (a.extract k na).reverse, rev_ext a k na o e0, ?_⟩
  rw [Array.toList_append, Array.toList_reverse, List.reverse_append, List.reverse_reverse, ext_mid]
  have e : a.toList.take na = a.toList.take k ++ (a.toList.take na).drop k := by
    have := List.take_append_drop k (a.toList.take na)
    rw [List.take_take, Nat.min_eq_left hk] at this
    exact this.symm
  have pa : (a.toList.take na).Pairwise (Lx lt) := (pw_of M.sa).sublist (List.take_sublist _ _)
  refine h.step ?_ (pa.sublist (List.drop_sublist _ _)) fun y hy x hx => ?_
  · rw [List.append_assoc]
    refine (List.perm_append_comm.append_left _).trans ?_
    rw [← List.append_assoc, ← e]
  · rcases List.mem_append.mp hy with hy | hy
    · rw [e] at pa
      exact (List.pairwise_append.mp pa).2.2 y hy x hx
    · obtain ⟨i, h1, h2, h3, rfl⟩ := mem_td hx
      obtain ⟨j, g1, g2, rfl⟩ := mem_t hy
      rw [← gA_list, ← gA_list]
      exact Lx.of_lt O (M.leB O (show j ≤ nb - 1 by omega) (by omega) (hw i h1 h2))
theorem HiM.chunkB (M : MF lt N a b) (O : LtOk lt) {out : Array Keyed} {na nb : Nat} (h : HiM lt f a b out na nb) (k : Nat) (hk : k ≤ nb) (ha : na ≤ a.size) (ha1 : 0 < na) (hb : nb ≤ b.size) (hw : ∀ i, k ≤ i → i < nb → lt (gA b i) (gA a (na - 1)) = false) : HiM lt f a b (out ++ ((b.map f).extract k nb).reverse) na k := by
  obtain ⟨o, e0, h⟩ := h
  refine ⟨o ++ (b.extract k nb).reverse, rev_ext b k nb o e0, ?_⟩
  rw [Array.toList_append, Array.toList_reverse, List.reverse_append, List.reverse_reverse, ext_mid]
  have e : b.toList.take nb = b.toList.take k ++ (b.toList.take nb).drop k := by
    have := List.take_append_drop k (b.toList.take nb)
    rw [List.take_take, Nat.min_eq_left hk] at this
    exact this.symm
  have pb : (b.toList.take nb).Pairwise (Lx lt) := (pw_of M.sb).sublist (List.take_sublist _ _)
  refine h.step ?_ (pb.sublist (List.drop_sublist _ _)) fun y hy x hx => ?_
  · rw [List.append_assoc, ← e]
  · rcases List.mem_append.mp hy with hy | hy
    · obtain ⟨i, h1, h2, h3, rfl⟩ := mem_td hx
      obtain ⟨j, g1, g2, rfl⟩ := mem_t hy
      have h3' : i < b.size := by simpa using h3
      have g2' : j < a.size := by simpa using g2
      rw [← gA_list, ← gA_list]
      have w := hw i h1 h2
      refine M.cr j i g2' h3' ?_
      cases e' : lt (gA b i) (gA a j) with
      | false => rfl
      | true => rw [M.leA O (show j ≤ na - 1 by omega) (by omega) e'] at w; cases w
    · rw [e] at pb
      exact (List.pairwise_append.mp pb).2.2 y hy x hx
theorem push_rev {out : Array Keyed} {p : Array Nat} {i : Nat} (hi : i < p.size) : out.push (f (gA p i)) = out ++ ((p.map f).extract i (i + 1)).reverse := by
  have e := push_ext (f := f) (out := #[]) hi
  have e2 : (p.map f).extract i (i + 1) = #[f (gA p i)] := by rw [← Array.empty_append (xs := (p.map f).extract i (i + 1)), ← e]; rfl
  rw [e2]
  rfl
theorem HiM.pushA (M : MF lt N a b) (O : LtOk lt) {out : Array Keyed} {na nb : Nat} (h : HiM lt f a b out na nb) (ha1 : 0 < na) (ha : na ≤ a.size) (hb1 : 0 < nb) (hb : nb ≤ b.size) (hw : lt (gA b (nb - 1)) (gA a (na - 1)) = true) : HiM lt f a b (out.push (f (gA a (na - 1)))) (na - 1) nb := by
  rw [push_rev (show na - 1 < a.size by omega), Nat.sub_add_cancel ha1]
  refine h.chunkA M O (na - 1) (by omega) ha hb1 hb fun i h1 h2 => ?_
  rw [show i = na - 1 by omega]
  exact hw
theorem HiM.pushB (M : MF lt N a b) (O : LtOk lt) {out : Array Keyed} {na nb : Nat} (h : HiM lt f a b out na nb) (ha1 : 0 < na) (ha : na ≤ a.size) (hb1 : 0 < nb) (hb : nb ≤ b.size) (hw : lt (gA b (nb - 1)) (gA a (na - 1)) = false) : HiM lt f a b (out.push (f (gA b (nb - 1)))) na (nb - 1) := by
  rw [push_rev (show nb - 1 < b.size by omega), Nat.sub_add_cancel hb1]
  refine h.chunkB M O (nb - 1) (by omega) ha ha1 hb fun i h1 h2 => ?_
  rw [show i = nb - 1 by omega]
  exact hw
theorem HiM.done (M : MF lt N a b) {out : Array Keyed} {na nb : Nat} (h : HiM lt f a b out na nb) (he : na = 0 ∨ nb = 0) : Gd lt f a b ((a.map f).extract 0 na ++ (b.map f).extract 0 nb ++ out.reverse) := by
  obtain ⟨o, rfl, h⟩ := h
  have pa : (a.toList.take na).Pairwise (Lx lt) := (pw_of M.sa).sublist (List.take_sublist _ _)
  have pb : (b.toList.take nb).Pairwise (Lx lt) := (pw_of M.sb).sublist (List.take_sublist _ _)
  refine ⟨a.extract 0 na ++ b.extract 0 nb ++ o.reverse, by rw [ext_map, ext_map, Array.map_append, Array.map_append, Array.map_reverse], ?_⟩
  rw [Array.toList_append, Array.toList_append, ext_upto, ext_upto, Array.toList_reverse]
  refine h _ (List.Perm.refl _) ?_
  rcases he with rfl | rfl
  · exact pb
  · rw [List.take_zero, List.append_nil]
    exact pa
theorem HiM.first (M : MF lt N a b) (O : LtOk lt) {out : Array Keyed} {na nb : Nat} (h : HiM lt f a b out na nb) (he : nb = 1) : Gd lt f a b ((b.map f).extract 0 nb ++ (a.map f).extract 0 na ++ out.reverse) := by
  obtain ⟨o, rfl, h⟩ := h
  have pa : (a.toList.take na).Pairwise (Lx lt) := (pw_of M.sa).sublist (List.take_sublist _ _)
  have pb : (b.toList.take nb).Pairwise (Lx lt) := (pw_of M.sb).sublist (List.take_sublist _ _)
  refine ⟨b.extract 0 nb ++ a.extract 0 na ++ o.reverse, by rw [ext_map, ext_map, Array.map_append, Array.map_append, Array.map_reverse], ?_⟩
  rw [Array.toList_append, Array.toList_append, ext_upto, ext_upto, Array.toList_reverse]
  refine h _ List.perm_append_comm (List.pairwise_append.mpr ⟨pb, pa, fun x hx y hy => ?_⟩)
  obtain ⟨i, h1, h3, rfl⟩ := mem_t hx
  obtain ⟨j, g1, g2, rfl⟩ := mem_t hy
  have g2' : j < a.size := by simpa using g2
  rw [← gA_list, ← gA_list, show i = 0 by omega]
  exact Lx.of_lt O (M.leA O (Nat.zero_le _) g2' M.fst)
theorem HiM.start (M : MF lt N a b) (O : LtOk lt) : HiM lt f a b #[f (gA a (a.size - 1))] (a.size - 1) b.size := by
  have h : HiM lt f a b #[] a.size b.size := ⟨#[], by simp, fun r hr hs => by
    rw [List.take_of_length_le (by simp), List.take_of_length_le (by simp)] at hr
    have e : (#[] : Array Nat).toList.reverse = [] := rfl
    rw [e, List.append_nil]
    exact ⟨hs, hr⟩⟩
  exact h.pushA M O M.a0 (Nat.le_refl _) M.b0 (Nat.le_refl _) (M.lst _ (by have := M.b0; omega))
end
end L2
namespace L2
open PySem PyProof.Rows PySem.W
abbrev LoC := Option (Array Keyed) × Array Keyed × Nat × Nat × Nat × Nat × Nat
def loEnd (a b out : Array Keyed) (ia ib : Nat) : Array Keyed := out ++ a.extract ia a.size ++ b.extract ib b.size
def loLast (a b out : Array Keyed) (ia ib : Nat) : Array Keyed := out ++ b.extract ib b.size ++ a.extract ia a.size
def loG3 (a b out : Array Keyed) (ia ib mg ac bc : Nat) : StateT SortSt Sem (ForInStep LoC) := do
  let x ← elem' a ia
  if (ia + 1 + 1 == a.size) = true then pure (.done (some (loLast a b (out.push x) (ia + 1) ib), out.push x, ia + 1, ib, mg, ac, bc))
  else if (decide (ac < 7) && decide (bc < 7)) = true then pure (.done (none, out.push x, ia + 1, ib, mg, ac, bc)) else pure (.yield (none, out.push x, ia + 1, ib, mg, ac, bc))
def loG2 (a b out : Array Keyed) (ia ib mg ac bc : Nat) : StateT SortSt Sem (ForInStep LoC) := do
  let y ← elem' b ib
  if (ib + 1 == b.size) = true then pure (.done (some (loEnd a b (out.push y) ia (ib + 1)), out.push y, ia, ib + 1, mg, ac, bc))
  else do
    let x ← elem' a ia
    let some k ← zGal true x b (ib + 1) (b.size - (ib + 1)) 0 | pure (.done (some (loEnd a b (out.push y) ia (ib + 1)), out.push y, ia, ib + 1, mg, ac, bc))
    if k > 0 then
      if (ib + 1 + k == b.size) = true then pure (.done (some (loEnd a b (out.push y ++ b.extract (ib + 1) (ib + 1 + k)) ia (ib + 1 + k)), out.push y ++ b.extract (ib + 1) (ib + 1 + k), ia, ib + 1 + k, mg, ac, k))
      else loG3 a b (out.push y ++ b.extract (ib + 1) (ib + 1 + k)) ia (ib + 1 + k) mg ac k
    else loG3 a b (out.push y) ia (ib + 1) mg ac k
def loG1 (a b out : Array Keyed) (ia ib mg ac bc : Nat) : StateT SortSt Sem (ForInStep LoC) := do
  zSet mg
  let y ← elem' b ib
  let some k ← zGal false y a ia (a.size - ia) 0 | pure (.done (some (loEnd a b out ia ib), out, ia, ib, mg, ac, bc))
  if k > 0 then
    if (ia + k + 1 == a.size) = true then pure (.done (some (loLast a b (out ++ a.extract ia (ia + k)) (ia + k) ib), out ++ a.extract ia (ia + k), ia + k, ib, mg, k, bc))
    else if (ia + k == a.size) = true then pure (.done (some (loEnd a b (out ++ a.extract ia (ia + k)) (ia + k) ib), out ++ a.extract ia (ia + k), ia + k, ib, mg, k, bc))
    else loG2 a b (out ++ a.extract ia (ia + k)) (ia + k) ib mg k bc
  else loG2 a b out ia ib mg k bc
section
variable {prog : Program} {w : World} {A : Around} {E : Value → Shared → Prop} {s : Shared} {κ : SortKind} {it : Array Keyed} {lt : Nat → Nat → Bool} {N : Nat} {st : SortSt} {a b : Array Nat}
def setG (st : SortSt) (g : Nat) : SortSt := SortSt.mk' (kindOf st) (arrOf st) (pendingOf st) g (failedOf st)
def SG' (st st' : SortSt) : Prop := ∃ g, st' = setG st g
theorem SG'.refl : SG' st st := ⟨gallopOf st, rfl⟩
theorem SG'.set {st' : SortSt} (h : SG' st st') (g : Nat) : SG' st (setG st' g) := by
  obtain ⟨g', rfl⟩ := h
  exact ⟨g, rfl⟩
theorem SG'.kind {st' : SortSt} (h : SG' st st') (hk : kindOf st = κ) : kindOf st' = κ := by
  obtain ⟨g', rfl⟩ := h
  exact hk
theorem z_set {g : Nat} {Q : Unit → SortSt → Prop} (h : Q () (setG st g)) : wpS (model prog w) A E s (zSet g) Q st := by
  have e : zSet g = modify fun st => setG st g := rfl
  rw [e]
  exact wpS_modify h
theorem z_elem {q : Array Nat} {i : Nat} {Q : Keyed → SortSt → Prop} (hi : i < q.size) (h : Q (kas_item it (gA q i)) st) : wpS (model prog w) A E s (elem' (q.map (kas_item it)) i) Q st := by
  rw [z_el hi]
  exact wpS_pure h
theorem z_ite {α : Type} {c : Prop} [Decidable c] {x y : StateT SortSt Sem α} {Q : α → SortSt → Prop} (h1 : c → wpS (model prog w) A E s x Q st) (h2 : ¬ c → wpS (model prog w) A E s y Q st) : wpS (model prog w) A E s (if c then x else y) Q st := by
  split
  · exact h1 ‹_›
  · exact h2 ‹_›
def LoI (lt : Nat → Nat → Bool) (f : Nat → Keyed) (a b : Array Nat) (n : Nat) (c : LoC) : Prop := ∃ out ia ib mg ac bc, c = (none, out, ia, ib, mg, ac, bc) ∧ LoM lt f a b out ia ib ∧ ia + 1 < a.size ∧ ib < b.size ∧ n ≤ ia + ib
def LoQ (lt : Nat → Nat → Bool) (f : Nat → Keyed) (a b : Array Nat) (st : SortSt) (n : Nat) (r : ForInStep LoC) (st' : SortSt) : Prop := SG' st st' ∧ match r with
  | .done c => (∃ r d, c = (some r, d) ∧ Gd lt f a b r) ∨ LoI lt f a b n c
  | .yield c => LoI lt f a b n c
theorem z_loG3 (O : LtOk lt) (M : MF lt N a b) {out : Array Keyed} {ia ib mg ac bc n : Nat} {st0 : SortSt} (g : SG' st0 st) (l : LoM lt (kas_item it) a b out ia ib) (h1 : ia + 1 < a.size) (h2 : ib < b.size) (hn : n ≤ ia + ib) (hw : lt (gA b ib) (gA a ia) = false) :
    wpS (model prog w) A E s (loG3 (a.map (kas_item it)) (b.map (kas_item it)) out ia ib mg ac bc) (LoQ lt (kas_item it) a b st0 n) st := by
  unfold loG3 loLast
  rw [Array.size_map, Array.size_map]
  refine wpS_bind (z_elem (by omega) ?_)
  have l3 := l.pushA M O (by omega) h2 hw
  refine z_ite (fun e => ?_) fun e => z_ite (fun _ => ?_) fun _ => ?_
  · exact wpS_pure ⟨g, .inl ⟨_, _, rfl, l3.last M O (by simpa using e)⟩⟩
  · have e' : ia + 1 + 1 ≠ a.size := by simpa using e
    exact wpS_pure ⟨g, .inr ⟨_, _, _, _, _, _, rfl, l3, by omega, h2, by omega⟩⟩
  · have e' : ia + 1 + 1 ≠ a.size := by simpa using e
    exact wpS_pure ⟨g, ⟨_, _, _, _, _, _, rfl, l3, by omega, h2, by omega⟩⟩
theorem z_loG2 (Z : Zc prog w A s κ it lt N) (O : LtOk lt) (M : MF lt N a b) {out : Array Keyed} {ia ib mg ac bc n : Nat} {st0 : SortSt} (hk : kindOf st0 = κ) (g : SG' st0 st) (l : LoM lt (kas_item it) a b out ia ib) (h1 : ia + 1 < a.size) (h2 : ib < b.size) (hn : n ≤ ia + ib) (hw : lt (gA b ib) (gA a ia) = true) :
    wpS (model prog w) A E s (loG2 (a.map (kas_item it)) (b.map (kas_item it)) out ia ib mg ac bc) (LoQ lt (kas_item it) a b st0 n) st := by
  unfold loG2 loEnd
  rw [Array.size_map, Array.size_map]
  refine wpS_bind (z_elem h2 ?_)
  have l3 := l.pushB M O (by omega) h2 hw
  refine z_ite (fun e => ?_) fun e => ?_
  · exact wpS_pure ⟨g, .inl ⟨_, _, rfl, l3.done M (.inr (by simpa using e))⟩⟩
  have e' : ib + 1 ≠ b.size := by simpa using e
  refine wpS_bind (z_elem (by omega) (wpS_bind (z_gal Z (g.kind hk) (M.na _ (by omega)) (by omega) (fun i _ _ => M.nb i (by omega)) (by omega) (fun i j h3 h4 h5 => ?_) fun k hk1 hk2 hk3 => ?_)))
  · exact M.leB O (by omega) (by omega) h5
  refine z_ite (fun hp => z_ite (fun e => ?_) fun e => ?_) fun hp => ?_
  · have l4 := l3.chunkB M O k (by omega) (by omega) hk2
    exact wpS_pure ⟨g, .inl ⟨_, _, rfl, l4.done M (.inr (by simpa using e))⟩⟩
  · have l4 := l3.chunkB M O k (by omega) (by omega) hk2
    have e2 : ib + 1 + k ≠ b.size := by simpa using e
    exact z_loG3 O M g l4 h1 (by omega) (by omega) (hk3 k (Nat.le_refl _) (by omega))
  · have e3 : k = 0 := by omega
    subst e3
    exact z_loG3 O M g l3 h1 (by omega) (by omega) (hk3 0 (Nat.le_refl _) (by omega))
theorem z_loG1 (Z : Zc prog w A s κ it lt N) (O : LtOk lt) (M : MF lt N a b) {out : Array Keyed} {ia ib mg ac bc n : Nat} {st0 : SortSt} (hk : kindOf st0 = κ) (g : SG' st0 st) (l : LoM lt (kas_item it) a b out ia ib) (h1 : ia + 1 < a.size) (h2 : ib < b.size) (hn : n ≤ ia + ib) :
    wpS (model prog w) A E s (loG1 (a.map (kas_item it)) (b.map (kas_item it)) out ia ib mg ac bc) (LoQ lt (kas_item it) a b st0 n) st := by
  unfold loG1 loEnd loLast
  rw [Array.size_map, Array.size_map]
  have tf : ∀ {x y : Nat}, zB lt false x y = true → lt x y = false := fun {x y} z => by
    have z' : (!lt x y) = true := z
    simpa using z'
  have ft : ∀ {x y : Nat}, zB lt false x y = false → lt x y = true := fun {x y} z => by
    have z' : (!lt x y) = false := z
    simpa using z'
  refine wpS_bind (z_set (wpS_bind (z_elem h2 (wpS_bind (z_gal Z ((g.set _).kind hk) (M.nb _ h2) (by omega) (fun i _ _ => M.na i (by omega)) (by omega) (fun i j h3 h4 h5 => ?_) fun k hk1 hk2 hk3 => ?_)))))
  · have z := tf h5
    show (!lt (gA b ib) (gA a (ia + i))) = true
    cases e : lt (gA b ib) (gA a (ia + i)) with
    | false => rfl
    | true => rw [M.leA O (show ia + i ≤ ia + j by omega) (by omega) e] at z; cases z
  refine z_ite (fun hp => z_ite (fun e => ?_) fun e => z_ite (fun e2 => ?_) fun e2 => ?_) fun hp => ?_
  · have l4 := l.chunkA M O k (by omega) h2 fun i hi => tf (hk2 i hi)
    exact wpS_pure ⟨g.set _, .inl ⟨_, _, rfl, l4.last M O (by simpa using e)⟩⟩
  · have l4 := l.chunkA M O k (by omega) h2 fun i hi => tf (hk2 i hi)
    exact wpS_pure ⟨g.set _, .inl ⟨_, _, rfl, l4.done M (.inl (by simpa using e2))⟩⟩
  · have l4 := l.chunkA M O k (by omega) h2 fun i hi => tf (hk2 i hi)
    have e' : ia + k + 1 ≠ a.size := by simpa using e
    have e2' : ia + k ≠ a.size := by simpa using e2
    exact z_loG2 Z O M hk (g.set _) l4 (by omega) h2 (by omega) (ft (hk3 k (Nat.le_refl _) (by omega)))
  · have e3 : k = 0 := by omega
    subst e3
    exact z_loG2 Z O M hk (g.set _) l (by omega) h2 (by omega) (ft (hk3 0 (Nat.le_refl _) (by omega)))
theorem z_lo (Z : Zc prog w A s κ it lt N) (O : LtOk lt) (M : MF lt N a b) {Q : Array Keyed → SortSt → Prop} (hk : kindOf st = κ) (h : ∀ r st', Gd lt (kas_item it) a b r → SG' st st' → Q r st') : wpS (model prog w) A E s (zLo (a.map (kas_item it)) (b.map (kas_item it))) Q st := by
  have a0 := M.a0
  have b0 := M.b0
  have za : (a.map (kas_item it)).size = a.size := Array.size_map ..
  have zb : (b.map (kas_item it)).size = b.size := Array.size_map ..
  rw [zLo_eq]
  refine wpS_bind (wpS_lift (wpAny_rule ⟨rfl, ?_⟩))
  refine wpS_bind (z_elem b0 ?_)
  have l0 := LoM.start (f := kas_item it) M O
  have dn : ∀ {out ia ib}, LoM lt (kas_item it) a b out ia ib → ia = a.size ∨ ib = b.size → Gd lt (kas_item it) a b (out ++ (a.map (kas_item it)).extract ia (a.map (kas_item it)).size ++ (b.map (kas_item it)).extract ib (b.map (kas_item it)).size) := fun h e => by rw [za, zb]; exact h.done M e
  have ls : ∀ {out ia ib}, LoM lt (kas_item it) a b out ia ib → ia + 1 = a.size → Gd lt (kas_item it) a b (out ++ (b.map (kas_item it)).extract ib (b.map (kas_item it)).size ++ (a.map (kas_item it)).extract ia (a.map (kas_item it)).size) := fun h e => by rw [za, zb]; exact h.last M O e
  have hit : ∀ {α : Type} {c : Prop} [Decidable c] {x y : StateT SortSt Sem α} {Q : α → SortSt → Prop} {st : SortSt}, (c → wpS (model prog w) A E s x Q st) → (¬ c → wpS (model prog w) A E s y Q st) → wpS (model prog w) A E s (if c then x else y) Q st := fun h1 h2 => by
    split
    · exact h1 ‹_›
    · exact h2 ‹_›
  refine hit (fun e1 => ?_) fun e1 => hit (fun e2 => ?_) fun e2 => ?_
  · exact wpS_pure (h _ _ (dn l0 (.inr (by rw [← zb]; simpa using e1))) .refl)
  · exact wpS_pure (h _ _ (ls l0 (by rw [← za]; simpa using e2)) .refl)
  have e1' : 1 ≠ b.size := by rw [← zb]; simpa using e1
  have e2' : 1 ≠ a.size := by rw [← za]; simpa using e2
  refine wpS_bind (wpS_get ?_)
  have J : ∀ {γ : Type} {m : StateT SortSt Sem γ} {Q R : γ → SortSt → Prop} {st : SortSt}, wpS (model prog w) A E s m R st → (∀ c st, R c st → Q c st) → wpS (model prog w) A E s m Q st := fun h k => wpS_mono h k
  refine wpS_bind (wpS_mono (wpS_forRange (I := fun x c st' => SG' st st' ∧ ∃ out ia ib mg, c = (none, out, ia, ib, mg) ∧ LoM lt (kas_item it) a b out ia ib ∧ ia + 1 < a.size ∧ ib < b.size ∧ x + 1 ≤ ia + ib)
    (Q := fun c st' => SG' st st' ∧ ∃ r d, c = (some r, d) ∧ Gd lt (kas_item it) a b r) ?step ?fin ⟨.refl, _, 0, 1, _, rfl, l0, by omega, by omega, by omega⟩) ?post)
  case fin =>
    rintro c st' ⟨_, out, ia, ib, mg, rfl, _, h1, h2, h3⟩
    rw [za, zb] at h3
    omega
  case post =>
    rintro c st' ⟨g, r, d, rfl, hr⟩
    exact wpS_pure (h r st' hr g)
  case step =>
    rintro x c st1 _ hx ⟨g, out, ia, ib, mg, rfl, l1, h1, h2, h3⟩
    refine wpS_bind (wpS_mono (wpS_forRange (I := fun y c st' => st' = st1 ∧ ∃ out ia' ib' ac bc, c = (none, out, ia', ib', ac, bc) ∧ LoM lt (kas_item it) a b out ia' ib' ∧ ia' + 1 < a.size ∧ ib' < b.size ∧ ia + ib + y ≤ ia' + ib')
      (Q := fun c st' => st' = st1 ∧ ((∃ r d, c = (some r, d) ∧ Gd lt (kas_item it) a b r) ∨ ∃ out ia' ib' ac bc, c = (none, out, ia', ib', ac, bc) ∧ LoM lt (kas_item it) a b out ia' ib' ∧ ia' + 1 < a.size ∧ ib' < b.size ∧ ia + ib + 1 ≤ ia' + ib')) ?step1 ?fin1 ⟨rfl, _, ia, ib, _, _, rfl, l1, h1, h2, by omega⟩) ?post1)
    case fin1 =>
      rintro c st' ⟨rfl, out, ia', ib', ac, bc, rfl, l2, g1, g2, g3⟩
      exact ⟨rfl, .inr ⟨out, ia', ib', ac, bc, rfl, l2, g1, g2, by rw [za, zb] at g3; omega⟩⟩
    case step1 =>
      rintro y c st' _ hy ⟨rfl, out, ia', ib', ac, bc, rfl, l2, g1, g2, g3⟩
      dsimp only
      refine wpS_bind (z_elem g2 (wpS_bind (z_elem (show ia' < a.size by omega) (wpS_bind (z_lt Z (g.kind hk) (M.nb _ g2) (M.na _ (by omega)) ?_)))))
      cases ew : lt (gA b ib') (gA a ia') with
      | true =>
        refine hit (fun _ => ?_) (fun z => absurd rfl z)
        refine wpS_bind (z_elem g2 ?_)
        have l3 := l2.pushB M O (by omega) g2 ew
        refine hit (fun e => ?_) fun e => hit (fun _ => ?_) fun _ => ?_
        · exact wpS_pure ⟨rfl, .inl ⟨_, _, rfl, dn l3 (.inr (by rw [← zb]; simpa using e))⟩⟩
        · exact wpS_pure ⟨rfl, .inr ⟨_, _, _, _, _, rfl, l3, g1, by have : ib' + 1 ≠ b.size := by (rw [← zb]; simpa using e)
                                                                    omega, by omega⟩⟩
        · exact wpS_pure ⟨rfl, _, _, _, _, _, rfl, l3, g1, by have : ib' + 1 ≠ b.size := by (rw [← zb]; simpa using e)
                                                              omega, by omega⟩
      | false =>
        refine hit (fun z => absurd z (by simp)) fun _ => ?_
        refine wpS_bind (z_elem (show ia' < a.size by omega) ?_)
        have l3 := l2.pushA M O (by omega) g2 ew
        refine hit (fun e => ?_) fun e => hit (fun _ => ?_) fun _ => ?_
        · exact wpS_pure ⟨rfl, .inl ⟨_, _, rfl, ls l3 (by rw [← za]; simpa using e)⟩⟩
        · exact wpS_pure ⟨rfl, .inr ⟨_, _, _, _, _, rfl, l3, by have : ia' + 1 + 1 ≠ a.size := by (rw [← za]; simpa using e)
                                                                omega, g2, by omega⟩⟩
        · exact wpS_pure ⟨rfl, _, _, _, _, _, rfl, l3, by have : ia' + 1 + 1 ≠ a.size := by (rw [← za]; simpa using e)
                                                          omega, g2, by omega⟩
    case post1 =>
      rintro c st' ⟨rfl, ⟨r, d, rfl, hr⟩ | ⟨out, ia', ib', ac, bc, rfl, l2, g1, g2, g3⟩⟩
      · exact wpS_pure ⟨g, r, _, rfl, hr⟩
      refine wpS_bind (wpS_lift (wpAny_rule ⟨rfl, ?_⟩))
      refine wpS_bind (wpS_mono (wpS_forRange (I := fun y c st' => SG' st st' ∧ ∃ out ia1 ib1 mg ac bc, c = (none, out, ia1, ib1, mg, ac, bc) ∧ LoM lt (kas_item it) a b out ia1 ib1 ∧ ia1 + 1 < a.size ∧ ib1 < b.size ∧ ia' + ib' ≤ ia1 + ib1)
        (Q := fun c st' => SG' st st' ∧ ((∃ r d, c = (some r, d) ∧ Gd lt (kas_item it) a b r) ∨ ∃ out ia1 ib1 mg ac bc, c = (none, out, ia1, ib1, mg, ac, bc) ∧ LoM lt (kas_item it) a b out ia1 ib1 ∧ ia1 + 1 < a.size ∧ ib1 < b.size ∧ ia' + ib' ≤ ia1 + ib1)) ?step2 ?fin2 ⟨g, _, _, _, _, _, _, rfl, l2, g1, g2, Nat.le_refl _⟩) ?post2)
      case fin2 =>
        rintro c st2 ⟨gg, hh⟩
        exact ⟨gg, .inr hh⟩
      case post2 =>
        rintro c st2 ⟨gg, ⟨r, d, rfl, hr⟩ | ⟨out, ia1, ib1, mg, ac, bc, rfl, l3, k1, k2, k3⟩⟩
        · exact wpS_pure ⟨gg, r, _, rfl, hr⟩
        · exact wpS_bind (z_set (wpS_pure ⟨gg.set _, out, ia1, ib1, _, rfl, l3, k1, k2, by omega⟩))
      case step2 =>
        rintro y c st2 _ hy ⟨gg, out, ia1, ib1, mg, ac, bc, rfl, l3, k1, k2, k3⟩
        dsimp only
        refine z_ite (fun _ => ?_) fun _ => ?_
        · exact wpS_mono (z_loG1 (n := ia' + ib') (mg := mg - 1) (ac := ac) (bc := bc) Z O M hk gg l3 k1 k2 k3) fun r st3 hr => by
            cases r with
            | done c => exact hr
            | yield c => exact hr
        · exact wpS_mono (z_loG1 (n := ia' + ib') (mg := mg) (ac := ac) (bc := bc) Z O M hk gg l3 k1 k2 k3) fun r st3 hr => by
            cases r with
            | done c => exact hr
            | yield c => exact hr
end
end L2
namespace L2
open PySem PyProof.Rows PySem.W
def hiEnd (a b out : Array Keyed) (na nb : Nat) : Array Keyed := a.extract 0 na ++ b.extract 0 nb ++ out.reverse
def hiFst (a b out : Array Keyed) (na nb : Nat) : Array Keyed := b.extract 0 nb ++ a.extract 0 na ++ out.reverse
abbrev HiC := Option (Array Keyed) × Nat × Nat × Array Keyed × Nat × Nat × Nat
def hiG3 (a b : Array Keyed) (na nb : Nat) (out : Array Keyed) (mg ac bc : Nat) : StateT SortSt Sem (ForInStep HiC) := do
  let x ← elem' a (na - 1)
  if (na - 1 == 0) = true then pure (.done (some (hiEnd a b (out.push x) (na - 1) nb), na - 1, nb, out.push x, mg, ac, bc))
  else if (decide (ac < 7) && decide (bc < 7)) = true then pure (.done (none, na - 1, nb, out.push x, mg, ac, bc)) else pure (.yield (none, na - 1, nb, out.push x, mg, ac, bc))
def hiG2 (a b : Array Keyed) (na nb : Nat) (out : Array Keyed) (mg ac bc : Nat) : StateT SortSt Sem (ForInStep HiC) := do
  let y ← elem' b (nb - 1)
  if (nb - 1 == 1) = true then pure (.done (some (hiFst a b (out.push y) na (nb - 1)), na, nb - 1, out.push y, mg, ac, bc))
  else do
    let x ← elem' a (na - 1)
    let some k ← zGal true x b 0 (nb - 1) (nb - 1 - 1) | pure (.done (some (hiEnd a b (out.push y) na (nb - 1)), na, nb - 1, out.push y, mg, ac, bc))
    if nb - 1 - k > 0 then
      if (k == 1) = true then pure (.done (some (hiFst a b (out.push y ++ (b.extract k (nb - 1)).reverse) na k), na, k, out.push y ++ (b.extract k (nb - 1)).reverse, mg, ac, nb - 1 - k))
      else if (k == 0) = true then pure (.done (some (hiEnd a b (out.push y ++ (b.extract k (nb - 1)).reverse) na k), na, k, out.push y ++ (b.extract k (nb - 1)).reverse, mg, ac, nb - 1 - k))
      else hiG3 a b na k (out.push y ++ (b.extract k (nb - 1)).reverse) mg ac (nb - 1 - k)
    else hiG3 a b na (nb - 1) (out.push y) mg ac (nb - 1 - k)
def hiG1 (a b : Array Keyed) (na nb : Nat) (out : Array Keyed) (mg ac bc : Nat) : StateT SortSt Sem (ForInStep HiC) := do
  zSet mg
  let y ← elem' b (nb - 1)
  let some k ← zGal false y a 0 na (na - 1) | pure (.done (some (hiEnd a b out na nb), na, nb, out, mg, ac, bc))
  if na - k > 0 then
    if (k == 0) = true then pure (.done (some (hiEnd a b (out ++ (a.extract k na).reverse) k nb), k, nb, out ++ (a.extract k na).reverse, mg, na - k, bc))
    else hiG2 a b k nb (out ++ (a.extract k na).reverse) mg (na - k) bc
  else hiG2 a b na nb out mg (na - k) bc
section
variable {prog : Program} {w : World} {A : Around} {E : Value → Shared → Prop} {s : Shared} {κ : SortKind} {it : Array Keyed} {lt : Nat → Nat → Bool} {N : Nat} {st : SortSt} {a b : Array Nat}
def HiI (lt : Nat → Nat → Bool) (f : Nat → Keyed) (a b : Array Nat) (n : Nat) (c : HiC) : Prop := ∃ na nb out mg ac bc, c = (none, na, nb, out, mg, ac, bc) ∧ HiM lt f a b out na nb ∧ 1 ≤ na ∧ na ≤ a.size ∧ 2 ≤ nb ∧ nb ≤ b.size ∧ na + nb ≤ n
def HiQ (lt : Nat → Nat → Bool) (f : Nat → Keyed) (a b : Array Nat) (st : SortSt) (n : Nat) (r : ForInStep HiC) (st' : SortSt) : Prop := SG' st st' ∧ match r with
  | .done c => (∃ r d, c = (some r, d) ∧ Gd lt f a b r) ∨ HiI lt f a b n c
  | .yield c => HiI lt f a b n c
theorem z_hiG3 (O : LtOk lt) (M : MF lt N a b) {out : Array Keyed} {na nb mg ac bc n : Nat} {st0 : SortSt} (g : SG' st0 st) (l : HiM lt (kas_item it) a b out na nb) (h1 : 1 ≤ na) (h1' : na ≤ a.size) (h2 : 2 ≤ nb) (h2' : nb ≤ b.size) (hn : na + nb ≤ n) (hw : lt (gA b (nb - 1)) (gA a (na - 1)) = true) :
    wpS (model prog w) A E s (hiG3 (a.map (kas_item it)) (b.map (kas_item it)) na nb out mg ac bc) (HiQ lt (kas_item it) a b st0 n) st := by
  unfold hiG3 hiEnd
  refine wpS_bind (z_elem (by omega) ?_)
  have l3 := l.pushA M O (by omega) h1' (by omega) h2' hw
  refine z_ite (fun e => ?_) fun e => z_ite (fun _ => ?_) fun _ => ?_
  · exact wpS_pure ⟨g, .inl ⟨_, _, rfl, l3.done M (.inl (by simpa using e))⟩⟩
  · have e' : na - 1 ≠ 0 := by simpa using e
    exact wpS_pure ⟨g, .inr ⟨_, _, _, _, _, _, rfl, l3, by omega, by omega, h2, h2', by omega⟩⟩
  · have e' : na - 1 ≠ 0 := by simpa using e
    exact wpS_pure ⟨g, ⟨_, _, _, _, _, _, rfl, l3, by omega, by omega, h2, h2', by omega⟩⟩
theorem z_hiG2 (Z : Zc prog w A s κ it lt N) (O : LtOk lt) (M : MF lt N a b) {out : Array Keyed} {na nb mg ac bc n : Nat} {st0 : SortSt} (hk : kindOf st0 = κ) (g : SG' st0 st) (l : HiM lt (kas_item it) a b out na nb) (h1 : 1 ≤ na) (h1' : na ≤ a.size) (h2 : 2 ≤ nb) (h2' : nb ≤ b.size) (hn : na + nb ≤ n) (hw : lt (gA b (nb - 1)) (gA a (na - 1)) = false) :
    wpS (model prog w) A E s (hiG2 (a.map (kas_item it)) (b.map (kas_item it)) na nb out mg ac bc) (HiQ lt (kas_item it) a b st0 n) st := by
  unfold hiG2 hiEnd hiFst
  refine wpS_bind (z_elem (by omega) ?_)
  have l3 := l.pushB M O (by omega) h1' (by omega) h2' hw
  refine z_ite (fun e => ?_) fun e => ?_
  · exact wpS_pure ⟨g, .inl ⟨_, _, rfl, l3.first M O (by simpa using e)⟩⟩
  have e' : nb - 1 ≠ 1 := by simpa using e
  have z0 : ∀ i, 0 + i = i := fun i => by omega
  refine wpS_bind (z_elem (by omega) (wpS_bind (z_gal Z (g.kind hk) (M.na _ (by omega)) (by omega) (fun i _ _ => M.nb i (by omega)) (by omega) (fun i j h3 h4 h5 => ?_) fun k hk1 hk2 hk3 => ?_)))
  · rw [z0] at h5 ⊢
    exact M.leB O (by omega) (by omega) h5
  have hk3' : ∀ i, k ≤ i → i < nb - 1 → lt (gA b i) (gA a (na - 1)) = false := fun i x y => by
    have := hk3 i x y
    rw [z0] at this
    exact this
  have hk2' : ∀ i, i < k → lt (gA b i) (gA a (na - 1)) = true := fun i x => by
    have := hk2 i x
    rw [z0] at this
    exact this
  refine z_ite (fun hp => z_ite (fun e => ?_) fun e => z_ite (fun e2 => ?_) fun e2 => ?_) fun hp => ?_
  · have l4 := l3.chunkB M O k (by omega) h1' (by omega) (by omega) hk3'
    exact wpS_pure ⟨g, .inl ⟨_, _, rfl, l4.first M O (by simpa using e)⟩⟩
  · have l4 := l3.chunkB M O k (by omega) h1' (by omega) (by omega) hk3'
    exact wpS_pure ⟨g, .inl ⟨_, _, rfl, l4.done M (.inr (by simpa using e2))⟩⟩
  · have l4 := l3.chunkB M O k (by omega) h1' (by omega) (by omega) hk3'
    have q1 : k ≠ 1 := by simpa using e
    have q2 : k ≠ 0 := by simpa using e2
    exact z_hiG3 O M g l4 h1 h1' (by omega) (by omega) (by omega) (hk2' (k - 1) (by omega))
  · have e3 : k = nb - 1 := by omega
    exact z_hiG3 O M g l3 h1 h1' (by omega) (by omega) (by omega) (hk2' (nb - 1 - 1) (by omega))
theorem z_hiG1 (Z : Zc prog w A s κ it lt N) (O : LtOk lt) (M : MF lt N a b) {out : Array Keyed} {na nb mg ac bc n : Nat} {st0 : SortSt} (hk : kindOf st0 = κ) (g : SG' st0 st) (l : HiM lt (kas_item it) a b out na nb) (h1 : 1 ≤ na) (h1' : na ≤ a.size) (h2 : 2 ≤ nb) (h2' : nb ≤ b.size) (hn : na + nb ≤ n) :
    wpS (model prog w) A E s (hiG1 (a.map (kas_item it)) (b.map (kas_item it)) na nb out mg ac bc) (HiQ lt (kas_item it) a b st0 n) st := by
  unfold hiG1 hiEnd
  have z0 : ∀ i, 0 + i = i := fun i => by omega
  have tf : ∀ {x y : Nat}, zB lt false x y = true → lt x y = false := fun {x y} z => by
    have z' : (!lt x y) = true := z
    simpa using z'
  have ft : ∀ {x y : Nat}, zB lt false x y = false → lt x y = true := fun {x y} z => by
    have z' : (!lt x y) = false := z
    simpa using z'
  refine wpS_bind (z_set (wpS_bind (z_elem (by omega) (wpS_bind (z_gal Z ((g.set _).kind hk) (M.nb _ (by omega)) (by omega) (fun i _ _ => M.na i (by omega)) (by omega) (fun i j h3 h4 h5 => ?_) fun k hk1 hk2 hk3 => ?_)))))
  · rw [z0] at h5 ⊢
    have z := tf h5
    show (!lt (gA b (nb - 1)) (gA a i)) = true
    cases e : lt (gA b (nb - 1)) (gA a i) with
    | false => rfl
    | true => rw [M.leA O h3 (by omega) e] at z; cases z
  have hk3' : ∀ i, k ≤ i → i < na → lt (gA b (nb - 1)) (gA a i) = true := fun i x y => by
    have := ft (hk3 i x y)
    rw [z0] at this
    exact this
  have hk2' : ∀ i, i < k → lt (gA b (nb - 1)) (gA a i) = false := fun i x => by
    have := tf (hk2 i x)
    rw [z0] at this
    exact this
  refine z_ite (fun hp => z_ite (fun e => ?_) fun e => ?_) fun hp => ?_
  · have l4 := l.chunkA M O k (by omega) h1' (by omega) h2' hk3'
    exact wpS_pure ⟨g.set _, .inl ⟨_, _, rfl, l4.done M (.inl (by simpa using e))⟩⟩
  · have l4 := l.chunkA M O k (by omega) h1' (by omega) h2' hk3'
    have q1 : k ≠ 0 := by simpa using e
    exact z_hiG2 Z O M hk (g.set _) l4 (by omega) (by omega) h2 h2' (by omega) (hk2' (k - 1) (by omega))
  · have e3 : k = na := by omega
    exact z_hiG2 Z O M hk (g.set _) l h1 h1' h2 h2' hn (hk2' (na - 1) (by omega))
theorem z_hi (Z : Zc prog w A s κ it lt N) (O : LtOk lt) (M : MF lt N a b) {Q : Array Keyed → SortSt → Prop} (hk : kindOf st = κ) (h : ∀ r st', Gd lt (kas_item it) a b r → SG' st st' → Q r st') : wpS (model prog w) A E s (zHi (a.map (kas_item it)) (b.map (kas_item it))) Q st := by
  have a0 := M.a0
  have b0 := M.b0
  have za : (a.map (kas_item it)).size = a.size := Array.size_map ..
  have zb : (b.map (kas_item it)).size = b.size := Array.size_map ..
  rw [zHi_eq]
  refine wpS_bind (wpS_lift (wpAny_rule ⟨rfl, ?_⟩))
  rw [za, zb]
  refine wpS_bind (z_elem (by omega) ?_)
  have l0 := HiM.start (f := kas_item it) M O
  refine z_ite (fun e1 => ?_) fun e1 => z_ite (fun e2 => ?_) fun e2 => ?_
  · exact wpS_pure (h _ _ (l0.done M (.inl (by simpa using e1))) .refl)
  · exact wpS_pure (h _ _ (l0.first M O (by simpa using e2)) .refl)
  have e1' : a.size - 1 ≠ 0 := by simpa using e1
  have e2' : b.size ≠ 1 := by simpa using e2
  refine wpS_bind (wpS_get ?_)
  refine wpS_bind (wpS_mono (wpS_forRange (I := fun x c st' => SG' st st' ∧ ∃ na nb out mg, c = (none, na, nb, out, mg) ∧ HiM lt (kas_item it) a b out na nb ∧ 1 ≤ na ∧ na ≤ a.size ∧ 2 ≤ nb ∧ nb ≤ b.size ∧ na + nb + x ≤ a.size + b.size)
    (Q := fun c st' => SG' st st' ∧ ∃ r d, c = (some r, d) ∧ Gd lt (kas_item it) a b r) ?step ?fin ⟨.refl, _, _, _, _, rfl, l0, by omega, by omega, by omega, by omega, by omega⟩) ?post)
  case fin =>
    rintro c st' ⟨_, na, nb, out, mg, rfl, _, h1, h1', h2, h2', h3⟩
    omega
  case post =>
    rintro c st' ⟨g, r, d, rfl, hr⟩
    exact wpS_pure (h r st' hr g)
  case step =>
    rintro x c st1 _ hx ⟨g, na, nb, out, mg, rfl, l1, h1, h1', h2, h2', h3⟩
    refine wpS_bind (wpS_mono (wpS_forRange (I := fun y c st' => st' = st1 ∧ ∃ na' nb' out ac bc, c = (none, na', nb', out, ac, bc) ∧ HiM lt (kas_item it) a b out na' nb' ∧ 1 ≤ na' ∧ na' ≤ a.size ∧ 2 ≤ nb' ∧ nb' ≤ b.size ∧ na' + nb' + y ≤ na + nb)
      (Q := fun c st' => st' = st1 ∧ ((∃ r d, c = (some r, d) ∧ Gd lt (kas_item it) a b r) ∨ ∃ na' nb' out ac bc, c = (none, na', nb', out, ac, bc) ∧ HiM lt (kas_item it) a b out na' nb' ∧ 1 ≤ na' ∧ na' ≤ a.size ∧ 2 ≤ nb' ∧ nb' ≤ b.size ∧ na' + nb' + 1 ≤ na + nb)) ?step1 ?fin1 ⟨rfl, na, nb, out, 0, 0, rfl, l1, h1, h1', h2, h2', by omega⟩) ?post1)
    case fin1 =>
      rintro c st' ⟨rfl, na', nb', out, ac, bc, rfl, l2, g1, g1', g2, g2', g3⟩
      exact ⟨rfl, .inr ⟨na', nb', out, ac, bc, rfl, l2, g1, g1', g2, g2', by omega⟩⟩
    case step1 =>
      rintro y c st' _ hy ⟨rfl, na', nb', out, ac, bc, rfl, l2, g1, g1', g2, g2', g3⟩
      dsimp only
      refine wpS_bind (z_elem (by omega) (wpS_bind (z_elem (by omega) (wpS_bind (z_lt Z (g.kind hk) (M.nb _ (by omega)) (M.na _ (by omega)) ?_)))))
      cases ew : lt (gA b (nb' - 1)) (gA a (na' - 1)) with
      | true =>
        refine z_ite (fun _ => ?_) (fun z => absurd rfl z)
        refine wpS_bind (z_elem (by omega) ?_)
        have l3 := l2.pushA M O (by omega) g1' (by omega) g2' ew
        refine z_ite (fun e => ?_) fun e => z_ite (fun _ => ?_) fun _ => ?_
        · exact wpS_pure ⟨rfl, .inl ⟨_, _, rfl, l3.done M (.inl (by simpa using e))⟩⟩
        · have e' : na' - 1 ≠ 0 := by simpa using e
          exact wpS_pure ⟨rfl, .inr ⟨_, _, _, _, _, rfl, l3, by omega, by omega, g2, g2', by omega⟩⟩
        · have e' : na' - 1 ≠ 0 := by simpa using e
          exact wpS_pure ⟨rfl, _, _, _, _, _, rfl, l3, by omega, by omega, g2, g2', by omega⟩
      | false =>
        refine z_ite (fun z => absurd z (by simp)) fun _ => ?_
        refine wpS_bind (z_elem (by omega) ?_)
        have l3 := l2.pushB M O (by omega) g1' (by omega) g2' ew
        refine z_ite (fun e => ?_) fun e => z_ite (fun _ => ?_) fun _ => ?_
        · exact wpS_pure ⟨rfl, .inl ⟨_, _, rfl, l3.first M O (by simpa using e)⟩⟩
        · have e' : nb' - 1 ≠ 1 := by simpa using e
          exact wpS_pure ⟨rfl, .inr ⟨_, _, _, _, _, rfl, l3, g1, g1', by omega, by omega, by omega⟩⟩
        · have e' : nb' - 1 ≠ 1 := by simpa using e
          exact wpS_pure ⟨rfl, _, _, _, _, _, rfl, l3, g1, g1', by omega, by omega, by omega⟩
    case post1 =>
      rintro c st' ⟨rfl, ⟨r, d, rfl, hr⟩ | ⟨na', nb', out, ac, bc, rfl, l2, g1, g1', g2, g2', g3⟩⟩
      · exact wpS_pure ⟨g, r, _, rfl, hr⟩
      refine wpS_bind (wpS_lift (wpAny_rule ⟨rfl, ?_⟩))
      refine wpS_bind (wpS_mono (wpS_forRange (I := fun y c st' => SG' st st' ∧ HiI lt (kas_item it) a b (na' + nb') c)
        (Q := fun c st' => SG' st st' ∧ ((∃ r d, c = (some r, d) ∧ Gd lt (kas_item it) a b r) ∨ HiI lt (kas_item it) a b (na' + nb') c)) ?step2 ?fin2 ⟨g, _, _, _, _, _, _, rfl, l2, g1, g1', g2, g2', Nat.le_refl _⟩) ?post2)
      case fin2 =>
        rintro c st2 ⟨gg, hh⟩
        exact ⟨gg, .inr hh⟩
      case post2 =>
        rintro c st2 ⟨gg, ⟨r, d, rfl, hr⟩ | ⟨na1, nb1, out, mg, ac, bc, rfl, l3, k1, k1', k2, k2', k3⟩⟩
        · exact wpS_pure ⟨gg, r, _, rfl, hr⟩
        · exact wpS_bind (z_set (wpS_pure ⟨gg.set _, na1, nb1, out, _, rfl, l3, k1, k1', k2, k2', by omega⟩))
      case step2 =>
        rintro y c st2 _ hy ⟨gg, na1, nb1, out, mg, ac, bc, rfl, l3, k1, k1', k2, k2', k3⟩
        dsimp only
        refine z_ite (fun _ => ?_) fun _ => ?_
        · exact wpS_mono (z_hiG1 (n := na' + nb') (mg := mg - 1) (ac := ac) (bc := bc) Z O M hk gg l3 k1 k1' k2 k2' k3) fun r st3 hr => by
            cases r with
            | done c => exact hr
            | yield c => exact hr
        · exact wpS_mono (z_hiG1 (n := na' + nb') (mg := mg) (ac := ac) (bc := bc) Z O M hk gg l3 k1 k1' k2 k2' k3) fun r st3 hr => by
            cases r with
            | done c => exact hr
            | yield c => exact hr
end
end L2
namespace L2
open PySem PyProof.Rows PySem.W
theorem zPut_go (at0 : Nat) : ∀ (l : List Keyed) (n : Nat) (ar : Array Keyed), at0 + n + l.length ≤ ar.size → ((l.zipIdx n).foldl (fun a (p, j) => a.setIfInBounds (at0 + j) p) ar).toList = ar.toList.take (at0 + n) ++ (l ++ ar.toList.drop (at0 + n + l.length))
  | [], n, ar, _ => by
    rw [List.nil_append, List.length_nil, Nat.add_zero, List.take_append_drop]
    rfl
  | x :: l, n, ar, h => by
    rw [List.length_cons] at h
    rw [List.zipIdx_cons, List.foldl_cons]
    have hs : (ar.setIfInBounds (at0 + n) x).size = ar.size := Array.size_setIfInBounds
    have ih := zPut_go at0 l (n + 1) (ar.setIfInBounds (at0 + n) x) (by omega)
    rw [ih, Array.toList_setIfInBounds]
    have hl : at0 + n < ar.toList.length := by rw [Array.length_toList]; omega
    have e1 : (ar.toList.set (at0 + n) x).take (at0 + (n + 1)) = ar.toList.take (at0 + n) ++ [x] := by
      rw [show at0 + (n + 1) = at0 + n + 1 by omega, List.take_add_one, List.take_set_of_le (Nat.le_refl _)]
      rw [List.getElem?_set_self hl]
      rfl
    have e2 : (ar.toList.set (at0 + n) x).drop (at0 + (n + 1) + l.length) = ar.toList.drop (at0 + n + (x :: l).length) := by
      rw [List.drop_set_of_lt (by omega), List.length_cons]
      congr 1
      omega
    rw [e1, e2, List.append_assoc]
    rfl
theorem zPut_eq {f : Nat → Keyed} {p q : Array Nat} {at0 : Nat} (h : at0 + q.size ≤ p.size) : ∃ p' : Array Nat, zPut (p.map f) at0 (q.map f) = p'.map f ∧ p'.toList = p.toList.take at0 ++ (q.toList ++ p.toList.drop (at0 + q.size)) := by
  refine ⟨(p.toList.take at0 ++ (q.toList ++ p.toList.drop (at0 + q.size))).toArray, ?_, by simp⟩
  apply Array.toList_inj.mp
  have e := zPut_go at0 (q.map f).toList 0 (p.map f) (by simpa using h)
  unfold zPut
  rw [e]
  simp
section
variable {prog : Program} {w : World} {A : Around} {E : Value → Shared → Prop} {s : Shared} {κ : SortKind} {it : Array Keyed} {lt : Nat → Nat → Bool} {N : Nat} {st : SortSt} {a b : Array Nat}
theorem getD_pw {l : List Nat} (h : l.Pairwise (Lx lt)) {i j : Nat} (hij : i < j) (hj : j < l.length) : Lx lt (l.getD i 0) (l.getD j 0) := by
  rw [List.pairwise_iff_getElem] at h
  have := h i j (by omega) hj hij
  rw [List.getD_eq_getElem?_getD, List.getD_eq_getElem?_getD, List.getElem?_eq_getElem (show i < l.length by omega), List.getElem?_eq_getElem hj]
  exact this
theorem getD_mem {l : List Nat} {i : Nat} (h : i < l.length) : l.getD i 0 ∈ l := by
  rw [List.getD_eq_getElem?_getD, List.getElem?_eq_getElem h]
  exact List.getElem_mem h
theorem mem_getD {l : List Nat} {x : Nat} (h : x ∈ l) : ∃ i, i < l.length ∧ l.getD i 0 = x := by
  obtain ⟨i, hi, e⟩ := List.mem_iff_getElem.mp h
  refine ⟨i, hi, ?_⟩
  rw [List.getD_eq_getElem?_getD, List.getElem?_eq_getElem hi]
  exact e
theorem getD_leX (O : LtOk lt) {l : List Nat} (h : l.Pairwise (Lx lt)) {i j : Nat} (hij : i ≤ j) (hj : j < l.length) {x : Nat} (hx : lt x (l.getD i 0) = true) : lt x (l.getD j 0) = true := by
  rcases Nat.lt_or_ge i j with h1 | h1
  · exact O.lt_le hx (getD_pw h h1 hj).1
  · have e : i = j := by omega
    rw [← e]
    exact hx
theorem getD_leY (O : LtOk lt) {l : List Nat} (h : l.Pairwise (Lx lt)) {i j : Nat} (hij : i ≤ j) (hj : j < l.length) {x : Nat} (hx : lt (l.getD j 0) x = true) : lt (l.getD i 0) x = true := by
  rcases Nat.lt_or_ge i j with h1 | h1
  · exact O.le_lt (getD_pw h h1 hj).1 hx
  · have e : i = j := by omega
    rw [e]
    exact hx
theorem z_at (Z : Zc prog w A s κ it lt N) (O : LtOk lt) {p : Array Nat} {pre X Y post : List Nat} {i pw pw2 : Nat} {Q : Bool → SortSt → Prop} (hk : kindOf st = κ) (hf : failedOf st = none) (ha : arrOf st = p.map (kas_item it)) (hp : p.toList = pre ++ (X ++ (Y ++ post)))
    (hX : X.Pairwise (Lx lt)) (hY : Y.Pairwise (Lx lt)) (hX0 : 0 < X.length) (hY0 : 0 < Y.length) (hXY : ∀ x ∈ X, ∀ y ∈ Y, x < y) (hN : ∀ x ∈ p.toList, x < N)
    (h1 : (pendingOf st)[i]? = some (pre.length, X.length, pw)) (h2 : (pendingOf st)[i + 1]? = some (pre.length + X.length, Y.length, pw2))
    (h : ∀ (st' : SortSt) (p' : Array Nat) (W : List Nat), kindOf st' = κ → failedOf st' = none → arrOf st' = p'.map (kas_item it) → p'.toList = pre ++ (W ++ post) → W.Pairwise (Lx lt) → W.Perm (X ++ Y) →
      pendingOf st' = ((pendingOf st).setIfInBounds i (pre.length, X.length + Y.length, pw)).eraseIdxIfInBounds (i + 1) → Q true st') : wpS (model prog w) A E s (mergeAt' i) Q st := by
  have psz : p.size = pre.length + (X.length + (Y.length + post.length)) := by rw [← Array.length_toList, hp]; simp
  have gX : ∀ i, i < X.length → gA p (pre.length + i) = X.getD i 0 := fun i hi => by
    rw [gA_list, hp, List.getD_eq_getElem?_getD, List.getD_eq_getElem?_getD, List.getElem?_append_right (by omega), Nat.add_sub_cancel_left, List.getElem?_append_left hi]
  have gY : ∀ i, i < Y.length → gA p (pre.length + X.length + i) = Y.getD i 0 := fun i hi => by
    rw [gA_list, hp, List.getD_eq_getElem?_getD, List.getD_eq_getElem?_getD, List.getElem?_append_right (by omega), show pre.length + X.length + i - pre.length = X.length + i by omega, List.getElem?_append_right (by omega), Nat.add_sub_cancel_left, List.getElem?_append_left hi]
  have nX : ∀ x ∈ X, x < N := fun x hx => hN x (by rw [hp]; simp [hx])
  have nY : ∀ x ∈ Y, x < N := fun x hx => hN x (by rw [hp]; simp [hx])
  have tf : ∀ {x y : Nat}, zB lt false x y = true → lt x y = false := fun {x y} z => by
    have z' : (!lt x y) = true := z
    simpa using z'
  have ft : ∀ {x y : Nat}, zB lt false x y = false → lt x y = true := fun {x y} z => by
    have z' : (!lt x y) = false := z
    simpa using z'
  rw [zAt_eq]
  refine wpS_bind (wpS_get ?_)
  rw [h1, h2]
  have hset : ∀ {st2 : SortSt} {Q : PUnit → SortSt → Prop}, Q ⟨⟩ st2 → wpS (model prog w) A E s (set st2 : StateT SortSt Sem PUnit) Q st := fun {st2 Q} hq => by
    have e : (set st2 : StateT SortSt Sem PUnit) = modify fun _ => st2 := rfl
    rw [e]
    exact wpS_modify hq
  refine wpS_bind (hset ?_)
  rw [ha]
  refine wpS_bind (z_elem (by omega) ?_)
  have eY : gA p (pre.length + X.length) = Y.getD 0 0 := gY 0 hY0
  rw [eY]
  refine wpS_bind (z_gal Z hk (nY _ (getD_mem hY0)) (by omega) (fun i h3 h4 => ?_) hX0 (fun i j h3 h4 h5 => ?_) fun k hk1 hk2 hk3 => ?_)
  · obtain ⟨d, rfl⟩ : ∃ d, i = pre.length + d := ⟨i - pre.length, by omega⟩
    rw [gX d (by omega)]
    exact nX _ (getD_mem (by omega))
  · rw [gX _ (by omega)] at h5 ⊢
    have z := tf h5
    show (!lt (Y.getD 0 0) (X.getD i 0)) = true
    cases e : lt (Y.getD 0 0) (X.getD i 0) with
    | false => rfl
    | true => rw [getD_leX O hX h3 h4 e] at z; cases z
  have k2 : ∀ i, i < k → lt (Y.getD 0 0) (X.getD i 0) = false := fun i hi => by
    have := tf (hk2 i hi)
    rw [gX i (by omega)] at this
    exact this
  have k3 : ∀ i, k ≤ i → i < X.length → lt (Y.getD 0 0) (X.getD i 0) = true := fun i hi hi2 => by
    have := ft (hk3 i hi hi2)
    rw [gX i (by omega)] at this
    exact this
  have low : ∀ x ∈ X.take k, ∀ y ∈ Y, Lx lt x y := fun x hx y hy => by
    have hm := List.mem_of_mem_take hx
    obtain ⟨i, i1, i2, rfl⟩ := mem_t hx
    obtain ⟨j, j1, rfl⟩ := mem_getD hy
    refine ⟨?_, .inr (hXY _ hm _ hy)⟩
    cases e : lt (Y.getD j 0) (X.getD i 0) with
    | false => rfl
    | true => rw [← k2 i i1]; exact (getD_leY O hY (Nat.zero_le j) j1 e).symm
  refine z_ite (fun e0 => ?_) fun e0 => ?_
  · have e0' : X.length - k = 0 := by simpa using e0
    refine wpS_pure (h _ p (X ++ Y) hk hf ha (by rw [hp, List.append_assoc]) (List.pairwise_append.mpr ⟨hX, hY, fun x hx y hy => ?_⟩) (List.Perm.refl _) rfl)
    exact low x (by rw [List.take_of_length_le (by omega)]; exact hx) y hy
  have e0' : X.length - k ≠ 0 := by simpa using e0
  refine wpS_bind (z_elem (by omega) ?_)
  have eXl : gA p (pre.length + k + (X.length - k) - 1) = X.getD (X.length - 1) 0 := by
    rw [show pre.length + k + (X.length - k) - 1 = pre.length + (X.length - 1) by omega]
    exact gX _ (by omega)
  rw [eXl]
  refine wpS_bind (z_gal Z hk (nX _ (getD_mem (by omega))) (by omega) (fun i h3 h4 => ?_) (by omega) (fun i j h3 h4 h5 => ?_) fun c hc1 hc2 hc3 => ?_)
  · obtain ⟨d, rfl⟩ : ∃ d, i = pre.length + X.length + d := ⟨i - (pre.length + X.length), by omega⟩
    rw [gY d (by omega)]
    exact nY _ (getD_mem (by omega))
  · rw [gY _ (by omega)] at h5 ⊢
    exact getD_leY O hY h3 h4 h5
  have c2 : ∀ i, i < c → lt (Y.getD i 0) (X.getD (X.length - 1) 0) = true := fun i hi => by
    have := hc2 i hi
    rw [gY i (by omega)] at this
    exact this
  have c3 : ∀ i, c ≤ i → i < Y.length → lt (Y.getD i 0) (X.getD (X.length - 1) 0) = false := fun i hi hi2 => by
    have := hc3 i hi hi2
    rw [gY i (by omega)] at this
    exact this
  refine z_ite (fun e1 => ?_) fun e1 => ?_
  · have e1' : c = 0 := by simpa using e1
    have z1 := c3 0 (by omega) hY0
    rw [k3 (X.length - 1) (by omega) (by omega)] at z1
    cases z1
  have e1' : c ≠ 0 := by simpa using e1
  have la : (p.extract (pre.length + k) (pre.length + X.length)).toList = X.drop k := by
    rw [ext_mid, hp, List.take_append, List.take_of_length_le (by omega), Nat.add_sub_cancel_left, List.take_left, List.drop_append, List.drop_of_length_le (by omega), List.nil_append, Nat.add_sub_cancel_left]
  have lb : (p.extract (pre.length + X.length) (pre.length + X.length + c)).toList = Y.take c := by
    rw [ext_tail, hp, ← List.append_assoc, List.drop_append, List.drop_of_length_le (by simp), List.nil_append, List.length_append, Nat.sub_self, List.drop_zero, List.take_append, show c - Y.length = 0 by omega, List.take_zero, List.append_nil]
  have sza : (p.extract (pre.length + k) (pre.length + X.length)).size = X.length - k := by rw [← Array.length_toList, la, List.length_drop]
  have szb : (p.extract (pre.length + X.length) (pre.length + X.length + c)).size = c := by rw [← Array.length_toList, lb, List.length_take]; omega
  have ga : ∀ i, gA (p.extract (pre.length + k) (pre.length + X.length)) i = X.getD (k + i) 0 := fun i => by
    rw [gA_list, la, List.getD_eq_getElem?_getD, List.getD_eq_getElem?_getD, List.getElem?_drop]
  have gb : ∀ i, i < c → gA (p.extract (pre.length + X.length) (pre.length + X.length + c)) i = Y.getD i 0 := fun i hi => by
    rw [gA_list, lb, List.getD_eq_getElem?_getD, List.getD_eq_getElem?_getD, List.getElem?_take, if_pos hi]
  have M : MF lt N (p.extract (pre.length + k) (pre.length + X.length)) (p.extract (pre.length + X.length) (pre.length + X.length + c)) := by
    refine ⟨of_pw (by rw [la]; exact hX.sublist (List.drop_sublist _ _)), of_pw (by rw [lb]; exact hY.sublist (List.take_sublist _ _)), fun i j hi hj e => ?_, fun i hi => ?_, fun i hi => ?_, by omega, by omega, ?_, fun j hj => ?_⟩
    · rw [ga, gb j (by omega)] at e ⊢
      exact ⟨e, .inr (hXY _ (getD_mem (by omega)) _ (getD_mem (by omega)))⟩
    · rw [ga]
      exact nX _ (getD_mem (by omega))
    · rw [gb i (by omega)]
      exact nY _ (getD_mem (by omega))
    · rw [ga, gb 0 (by omega)]
      exact k3 _ (by omega) (by omega)
    · rw [ga, gb j (by omega), sza, show k + (X.length - k - 1) = X.length - 1 by omega]
      exact c2 j (by omega)
  have fin : ∀ (r : Array Keyed) (st2 st3 : SortSt), Gd lt (kas_item it) (p.extract (pre.length + k) (pre.length + X.length)) (p.extract (pre.length + X.length) (pre.length + X.length + c)) r → kindOf st2 = κ → failedOf st2 = none → arrOf st2 = p.map (kas_item it) → pendingOf st2 = ((pendingOf st).setIfInBounds i (pre.length, X.length + Y.length, pw)).eraseIdxIfInBounds (i + 1) → SG' st2 st3 →
      wpS (model prog w) A E s (do
        modify fun st => setArr st (zPut (arrOf st) (pre.length + k) r)
        return (failedOf (← get)).isNone) Q st3 := fun r st2 st3 ⟨q, eq, qs, qp⟩ j1 j2 j3 j4 ⟨g, eg⟩ => by
    subst eg
    subst eq
    rw [la, lb] at qp
    have ql : q.size = X.length - k + c := by
      have := qp.length_eq
      rw [List.length_append, List.length_drop, List.length_take, Array.length_toList] at this
      omega
    obtain ⟨p', ep, lp⟩ := zPut_eq (f := kas_item it) (p := p) (q := q) (at0 := pre.length + k) (by omega)
    have lp' : p'.toList = pre ++ ((X.take k ++ (q.toList ++ Y.drop c)) ++ post) := by
      rw [lp, hp, List.take_append, List.take_of_length_le (by omega), Nat.add_sub_cancel_left, List.take_append, show k - X.length = 0 by omega, List.take_zero, List.append_nil]
      rw [List.append_assoc, List.append_assoc, List.append_assoc]
      congr 2
      congr 1
      rw [ql, show pre.length + k + (X.length - k + c) = pre.length + X.length + c by omega, ← List.append_assoc, List.drop_append, List.drop_of_length_le (by simp), List.nil_append, List.length_append, Nat.add_sub_cancel_left, List.drop_append, show c - Y.length = 0 by omega, List.drop_zero]
    refine wpS_bind (wpS_modify (wpS_bind (wpS_get ?_)))
    have hcr : ∀ x ∈ X, ∀ y ∈ Y.drop c, Lx lt x y := fun x hx y hy => by
      have hm := List.mem_of_mem_drop hy
      obtain ⟨j, d1, d2, rfl⟩ := mem_d hy
      obtain ⟨i, i1, rfl⟩ := mem_getD hx
      refine ⟨?_, .inr (hXY _ hx _ hm)⟩
      cases e : lt (Y.getD j 0) (X.getD i 0) with
      | false => rfl
      | true => rw [← c3 j d1 d2]; exact (getD_leX O hX (show i ≤ X.length - 1 by omega) (by omega) e).symm
    have sX := List.pairwise_append.mp (show (X.take k ++ X.drop k).Pairwise (Lx lt) by rw [List.take_append_drop]; exact hX)
    have sY := List.pairwise_append.mp (show (Y.take c ++ Y.drop c).Pairwise (Lx lt) by rw [List.take_append_drop]; exact hY)
    have pwW : (X.take k ++ (q.toList ++ Y.drop c)).Pairwise (Lx lt) := by
      refine List.pairwise_append.mpr ⟨sX.1, List.pairwise_append.mpr ⟨qs, sY.2.1, fun x hx y hy => ?_⟩, fun x hx y hy => ?_⟩
      · rcases List.mem_append.mp (qp.mem_iff.mp hx) with hx | hx
        · exact hcr x (List.mem_of_mem_drop hx) y hy
        · exact sY.2.2 x hx y hy
      · rcases List.mem_append.mp hy with hy | hy
        · rcases List.mem_append.mp (qp.mem_iff.mp hy) with hy | hy
          · exact sX.2.2 x hx y hy
          · exact low x hx y (List.mem_of_mem_take hy)
        · exact low x hx y (List.mem_of_mem_drop hy)
    have pmW : (X.take k ++ (q.toList ++ Y.drop c)).Perm (X ++ Y) := by
      refine ((qp.append_right (Y.drop c)).append_left (X.take k)).trans ?_
      rw [List.append_assoc, List.take_append_drop, ← List.append_assoc, List.take_append_drop]
    have ea : zPut (arrOf (setG st2 g)) (pre.length + k) (q.map (kas_item it)) = p'.map (kas_item it) := by
      show zPut (arrOf st2) (pre.length + k) (q.map (kas_item it)) = _
      rw [j3]
      exact ep
    have eF : (failedOf (setArr (setG st2 g) (zPut (arrOf (setG st2 g)) (pre.length + k) (q.map (kas_item it))))).isNone = true := by
      show (failedOf st2).isNone = true
      rw [j2]
      rfl
    rw [eF]
    exact wpS_pure (h _ p' _ j1 j2 ea lp' pwW pmW j4)
  rw [ext_map, ext_map]
  refine z_ite (fun _ => ?_) fun _ => ?_
  · exact wpS_bind (z_lo Z O M hk fun r st3 hr g => fin r (setPending st (((pendingOf st).setIfInBounds i (pre.length, X.length + Y.length, pw)).eraseIdxIfInBounds (i + 1))) st3 hr hk hf ha rfl g)
  · exact wpS_bind (z_hi Z O M hk fun r st3 hr g => fin r (setPending st (((pendingOf st).setIfInBounds i (pre.length, X.length + Y.length, pw)).eraseIdxIfInBounds (i + 1))) st3 hr hk hf ha rfl g)
end
end L2
namespace L2
open PySem PyProof.Rows PySem.W
theorem KW.unbind {α β : Type} {lt : Nat → Nat → Bool} {Q : β → Prop} {f : α → KasT β} : ∀ {t : KasT α}, KW lt Q (t.bind f) → KW lt (fun a => KW lt Q (f a)) t
  | .ret _, h => h
  | .ask i j k, h => KW.unbind (t := k (lt i j)) h
/-- what is not yet sorted, behind what is -/
def pj (pre u : Array Nat) : Array Nat := pre ++ u.map (pre.size + ·)
theorem pj_size (pre u : Array Nat) : (pj pre u).size = pre.size + u.size := by simp [pj]
theorem pj_get (pre u : Array Nat) (k : Nat) : (pj pre u)[k]? = if k < pre.size then pre[k]? else (u[k - pre.size]?).map (pre.size + ·) := by
  unfold pj
  rw [Array.getElem?_append]
  split
  · rfl
  · rw [Array.getElem?_map]
theorem pj_gA {pre u : Array Nat} {k : Nat} (hk : k < u.size) : gA (pj pre u) (pre.size + k) = pre.size + gA u k := by
  rw [gA_eq, gA_eq, pj_get, if_neg (by omega), Nat.add_sub_cancel_left]
  simp [hk]
theorem pj_rev {pre u : Array Nat} {i j : Nat} (hj : j ≤ u.size) : kas_rev (pj pre u) (pre.size + i) (pre.size + j) = pj pre (kas_rev u i j) := by
  apply Array.ext_getElem?
  intro k
  unfold kas_rev
  rw [getElem?_mirror_all (by rw [pj_size]; omega), pj_get, pj_get, pj_get, getElem?_mirror_all hj]
  by_cases h0 : k < pre.size
  · rw [if_neg (by omega), if_pos h0, if_pos h0]
  · rw [if_neg h0, if_neg h0]
    by_cases h1 : i ≤ k - pre.size ∧ k - pre.size < j
    · rw [if_pos (by omega), if_neg (by omega), if_pos h1]
      congr 2
      omega
    · rw [if_neg (by omega), if_neg h1]
theorem pj_bub {pre u : Array Nat} {k d : Nat} (hk : k < u.size) (hd : d ≤ k) : bubble (pj pre u) (pre.size + k) d = pj pre (bubble u k d) := by
  apply Array.ext_getElem?
  intro i
  rw [getElem?_bubble (by rw [pj_size]; omega) d (by omega), pj_get, pj_get, pj_get, pj_get, getElem?_bubble hk d hd]
  by_cases h0 : i < pre.size
  · rw [if_neg (by omega), if_neg (by omega), if_pos h0, if_pos h0]
  · rw [if_neg h0, if_neg h0]
    by_cases h1 : i - pre.size = k - d
    · rw [if_pos (by omega), if_pos h1, if_neg (by omega), Nat.add_sub_cancel_left]
    · rw [if_neg (by omega), if_neg h1]
      by_cases h2 : k - d < i - pre.size ∧ i - pre.size ≤ k
      · rw [if_pos (by omega), if_pos h2, if_neg (by omega)]
        congr 2
        omega
      · rw [if_neg (by omega), if_neg h2]
section
variable {prog : Program} {w : World} {A : Around} {E : Value → Shared → Prop} {s : Shared} {κ : SortKind} {it : Array Keyed} {lt : Nat → Nat → Bool} {N : Nat} {st : SortSt} {pre u : Array Nat}
def stQ (it : Array Keyed) (st : SortSt) (q : Array Nat) : SortSt := setArr st (q.map (kas_item it))
/-- the part behind pre can be asked about -/
structure Zp (prog : Program) (w : World) (A : Around) (s : Shared) (κ : SortKind) (it : Array Keyed) (lt : Nat → Nat → Bool) (N : Nat) (st : SortSt) (pre : Array Nat) (n : Nat) : Prop where
  Z : Zc prog w A s κ it lt N
  hk : kindOf st = κ
  hN : pre.size + n = N
  n0 : 0 < n
def ltS (lt : Nat → Nat → Bool) (lo : Nat) : Nat → Nat → Bool := fun i j => lt (lo + i) (lo + j)
theorem z_ask {n : Nat} (P : Zp prog w A s κ it lt N st pre n) (hu : POk n u) {i j : Nat} (hi : i < n) (hj : j < n) {Q : Option Bool → SortSt → Prop} (h : Q (some (ltS lt pre.size (gA u i) (gA u j))) (stQ it st (pj pre u))) : wpS (model prog w) A E s (ltAt' (pre.size + i) (pre.size + j)) Q (stQ it st (pj pre u)) := by
  have hz : u.size = n := by have := hu.size_eq; simpa using this
  have hN := P.hN
  rw [ltAt'_eq]
  refine wpS_bind (wpS_get ?_)
  have ea : arrOf (stQ it st (pj pre u)) = (pj pre u).map (kas_item it) := rfl
  rw [ea]
  refine wpS_bind (z_elem (by rw [pj_size]; omega) (wpS_bind (z_elem (by rw [pj_size]; omega) ?_)))
  rw [pj_gA (by omega), pj_gA (by omega)]
  have b1 := hu.lt P.n0 i
  have b2 := hu.lt P.n0 j
  exact z_lt P.Z P.hk (by unfold gA; omega) (by unfold gA; omega) h
theorem z_rev {n : Nat} (hu : POk n u) {i j : Nat} (hj : j ≤ n) {Q : Unit → SortSt → Prop} (h : Q () (stQ it st (pj pre (kas_rev u i j)))) : wpS (model prog w) A E s (reverseSlice' (pre.size + i) (pre.size + j)) Q (stQ it st (pj pre u)) := by
  have hz : u.size = n := by have := hu.size_eq; simpa using this
  rw [reverseSlice'_eq]
  refine wpS_modify ?_
  have e1 : mirror ((pj pre u).map (kas_item it)) (pre.size + i) (pre.size + j) ((pre.size + j - (pre.size + i)) / 2) = (kas_rev (pj pre u) (pre.size + i) (pre.size + j)).map (kas_item it) := kas_swaps_map (kas_item it) (fun k => pre.size + i + k) (fun k => pre.size + j - 1 - k) _ (pj pre u)
  have e2 : setArr (stQ it st (pj pre u)) (mirror (arrOf (stQ it st (pj pre u))) (pre.size + i) (pre.size + j) ((pre.size + j - (pre.size + i)) / 2)) = stQ it st (pj pre (kas_rev u i j)) := by
    show setArr st (mirror ((pj pre u).map (kas_item it)) (pre.size + i) (pre.size + j) ((pre.size + j - (pre.size + i)) / 2)) = setArr st ((pj pre (kas_rev u i j)).map (kas_item it))
    rw [e1, pj_rev (by omega)]
  rw [e2]
  exact h
theorem z_mov {n : Nat} (hu : POk n u) {k l : Nat} (hk : k < n) {Q : Unit → SortSt → Prop} (h : Q () (stQ it st (pj pre (bubble u k (k - l))))) : wpS (model prog w) A E s (moveDown' (pre.size + k) (pre.size + l)) Q (stQ it st (pj pre u)) := by
  have hz : u.size = n := by have := hu.size_eq; simpa using this
  rw [moveDown'_eq]
  refine wpS_modify ?_
  have e1 : bubble ((pj pre u).map (kas_item it)) (pre.size + k) (pre.size + k - (pre.size + l)) = (bubble (pj pre u) (pre.size + k) (pre.size + k - (pre.size + l))).map (kas_item it) := kas_swaps_map (kas_item it) (fun i => pre.size + k - i) (fun i => pre.size + k - i - 1) _ (pj pre u)
  have e2 : setArr (stQ it st (pj pre u)) (bubble (arrOf (stQ it st (pj pre u))) (pre.size + k) (pre.size + k - (pre.size + l))) = stQ it st (pj pre (bubble u k (k - l))) := by
    show setArr st (bubble ((pj pre u).map (kas_item it)) (pre.size + k) (pre.size + k - (pre.size + l))) = setArr st ((pj pre (bubble u k (k - l))).map (kas_item it))
    rw [e1, show pre.size + k - (pre.size + l) = k - l by omega, pj_bub (by omega) (by omega)]
  rw [e2]
  exact h
def cTail (lo m nr : Nat) : StateT SortSt Sem (Option Nat) := do
  reverseSlice' lo (lo + m)
  let mut m := m
  for _ in [m:nr] do
    let some sm ← ltAt' (lo + m) (lo + m - 1) | return none
    if sm then break
    m := m + 1
  return some m
def cDesc (lo m nr : Nat) : StateT SortSt Sem (Option Nat) := do
  liftM (rule "list.sort.descending-run"); let mut m := m + 1; let mut qe := 0
  for _ in [m:nr] do
    let some sm ← ltAt' (lo + m) (lo + m - 1) | return none
    if sm then
      if qe > 0 then reverseSlice' (lo + m - (qe + 1)) (lo + m)
      qe := 0
    else
      let some la ← ltAt' (lo + m - 1) (lo + m) | return none
      if la then break
      qe := qe + 1
    m := m + 1
  if qe > 0 then do
    reverseSlice' (lo + m - (qe + 1)) (lo + m)
    cTail lo m nr
  else cTail lo m nr
theorem z_asc {n : Nat} (P : Zp prog w A s κ it lt N st pre n) (hu : POk n u) {m0 : Nat} (h0 : 1 ≤ m0) (hm : m0 ≤ n) {R : Nat → Prop} (hr : KW (ltS lt pre.size) R (kas_asc u (n - m0) m0)) {f : Nat → Option (Option Nat) × Nat → StateT SortSt Sem (ForInStep (Option (Option Nat) × Nat))}
    (ef : ∀ i m, f i (none, m) = (do
      let r ← ltAt' (pre.size + m) (pre.size + m - 1)
      match r with
      | some sm => if sm = true then pure (ForInStep.done (none, m)) else pure (ForInStep.yield (none, m + 1))
      | _ => pure (ForInStep.done (some none, m)))) {Q : Option (Option Nat) × Nat → SortSt → Prop} (h : ∀ m, m0 ≤ m → m ≤ n → R m → Q (none, m) (stQ it st (pj pre u))) :
    wpS (model prog w) A E s (forIn [m0:n] ((none, m0) : Option (Option Nat) × Nat) f) Q (stQ it st (pj pre u)) := by
  refine wpS_forRange (I := fun i c st' => c = (none, i) ∧ st' = stQ it st (pj pre u) ∧ i ≤ n ∧ KW (ltS lt pre.size) R (kas_asc u (n - i) i)) ?_ ?_ ⟨rfl, rfl, hm, hr⟩
  · rintro i c st' hi1 hi2 ⟨rfl, rfl, hi3, hkw⟩
    rw [ef]
    rw [show n - i = (n - (i + 1)) + 1 by omega] at hkw
    have hkw' : KW (ltS lt pre.size) R (if ltS lt pre.size (gA u i) (gA u (i - 1)) = true then .ret i else kas_asc u (n - (i + 1)) (i + 1)) := hkw
    rw [show pre.size + i - 1 = pre.size + (i - 1) by omega]
    refine wpS_bind (z_ask P hu hi2 (by omega) ?_)
    refine z_ite (fun e => ?_) fun e => ?_
    · rw [if_pos e] at hkw'
      exact wpS_pure (h i hi1 hi3 hkw')
    · rw [if_neg e] at hkw'
      exact wpS_pure ⟨rfl, rfl, by omega, hkw'⟩
  · rintro c st' ⟨rfl, rfl, hi3, hkw⟩
    rw [Nat.max_eq_right hm] at hkw ⊢
    rw [Nat.sub_self] at hkw
    exact h n hm (Nat.le_refl _) hkw
theorem z_tail {n : Nat} (P : Zp prog w A s κ it lt N st pre n) (hu : POk n u) {m0 : Nat} (h0 : 1 ≤ m0) (hm : m0 ≤ n) {G : Nat × Array Nat → Prop} {Q : Option Nat → SortSt → Prop} (hr : KW (ltS lt pre.size) G (kas_tail3 m0 n u)) (h : ∀ m u', POk n u' → 1 ≤ m → m ≤ n → G (m, u') → Q (some m) (stQ it st (pj pre u'))) :
    wpS (model prog w) A E s (cTail pre.size m0 n) Q (stQ it st (pj pre u)) := by
  unfold cTail
  have hr' := KW.unbind hr
  have z := z_rev (prog := prog) (w := w) (A := A) (E := E) (s := s) (it := it) (st := st) (pre := pre) (i := 0) (j := m0) hu hm (Q := fun _ st' => st' = stQ it st (pj pre (kas_rev u 0 m0))) rfl
  rw [Nat.add_zero] at z
  refine wpS_bind (wpS_mono z fun _ st' e => ?_)
  subst e
  refine wpS_bind (z_asc P (hu.rev 0 m0) h0 hm hr' (fun i m => rfl) fun m h1 h2 h3 => ?_)
  exact wpS_pure (h m _ (hu.rev 0 m0) (by omega) h2 h3)
end
end L2
namespace L2
open PySem PyProof.Rows PySem.W
section
variable {lt : Nat → Nat → Bool} (O : LtOk lt) {N : Nat}
include O
theorem kw_binG : ∀ (f : Nat) {p : Array Nat} {k : Nat}, k + f ≤ N → 1 ≤ k → Fx N p k → LS lt p k → KW lt (fun p => Fx N p (k + f) ∧ LS lt p (k + f)) (kas_bin f p k)
  | 0, p, k, e, _, hf, hs => ⟨hf, hs⟩
  | f + 1, p, k, e, h1, hf, hs => by
    refine KW.bind (KW.mono (fun m hm => ?_) (kw_place O hs k 0 k (by omega) (Nat.le_refl _) (fun i hi => absurd hi (by omega)) (fun i h2 h3 => absurd h2 (by omega)) (Nat.zero_le _)))
    obtain ⟨m1, m2, m3⟩ := hm
    have hk : k < p.size := by rw [hf.sz]; omega
    have gk : gA p k = k := hf.hi k (Nat.le_refl _) (by omega)
    have ekm : k - (k - m) = m := by omega
    have gb : ∀ i, gA (bubble p k (k - m)) i = if i = m then gA p k else if m < i ∧ i ≤ k then gA p (i - 1) else gA p i := fun i => by
      rw [gA_bub hk (by omega), ekm]
    rw [show k + (f + 1) = k + 1 + f by omega]
    refine kw_binG f (by omega) (by omega) ⟨by rw [bubble_size]; exact hf.sz, fun i h2 h3 => ?_, fun i hi => ?_⟩ (fun i j hij hj => ?_)
    · rw [gb, if_neg (by omega), if_neg (by omega)]
      exact hf.hi i (by omega) h3
    · rw [gb]
      split
      · rw [gk]; omega
      · split
        · have := hf.lo (i - 1) (by omega); omega
        · have := hf.lo i (by omega); omega
    · have lk : ∀ i, i < m → Lx lt (gA p i) (gA p k) := fun i hi => ⟨m2 i hi, .inr (by rw [gk]; exact hf.lo i (by omega))⟩
      have gt : ∀ i, m ≤ i → i < k → Lx lt (gA p k) (gA p i) := fun i h2 h3 => Lx.of_lt O (m3 i h2 h3)
      rw [gb, gb]
      by_cases a1 : i = m
      · rw [if_pos a1, if_neg (by omega), if_pos (by omega)]
        exact gt _ (by omega) (by omega)
      · rw [if_neg a1]
        by_cases a2 : m < i ∧ i ≤ k
        · rw [if_pos a2, if_neg (by omega), if_pos (by omega)]
          exact hs _ _ (by omega) (by omega)
        · rw [if_neg a2]
          by_cases b1 : j = m
          · rw [if_pos b1]
            exact lk i (by omega)
          · rw [if_neg b1]
            by_cases b2 : m < j ∧ j ≤ k
            · rw [if_pos b2]
              exact hs _ _ (by omega) (by omega)
            · rw [if_neg b2]
              exact hs _ _ hij (by omega)
end
section
variable {prog : Program} {w : World} {A : Around} {E : Value → Shared → Prop} {s : Shared} {κ : SortKind} {it : Array Keyed} {lt : Nat → Nat → Bool} {N : Nat} {st : SortSt} {pre u : Array Nat}
theorem z_desc {n : Nat} (P : Zp prog w A s κ it lt N st pre n) (hu : POk n u) {m0 : Nat} (h0 : 1 ≤ m0) (hm : m0 + 1 ≤ n) {G : Nat × Array Nat → Prop} {Q : Option Nat → SortSt → Prop} (hr : KW (ltS lt pre.size) G (kas_descPart m0 n u)) (h : ∀ m u', POk n u' → 1 ≤ m → m ≤ n → G (m, u') → Q (some m) (stQ it st (pj pre u'))) :
    wpS (model prog w) A E s (cDesc pre.size m0 n) Q (stQ it st (pj pre u)) := by
  unfold cDesc
  have hr' := KW.unbind hr
  refine wpS_bind (wpS_lift (wpAny_rule ⟨rfl, ?_⟩))
  refine wpS_bind (wpS_mono (wpS_forRange (I := fun i c st' => ∃ u' q, c = (none, i, q) ∧ st' = stQ it st (pj pre u') ∧ POk n u' ∧ i ≤ n ∧ q + 1 ≤ i ∧ KW (ltS lt pre.size) (fun r => KW (ltS lt pre.size) G (if r.2.2 > 0 then kas_tail3 r.2.1 n (kas_rev r.1 (r.2.1 - (r.2.2 + 1)) r.2.1) else kas_tail3 r.2.1 n r.1)) (kas_desc (n - i) u' i q))
    (Q := fun c st' => ∃ u' m q, c = (none, m, q) ∧ st' = stQ it st (pj pre u') ∧ POk n u' ∧ 1 ≤ m ∧ m ≤ n ∧ q + 1 ≤ m ∧ KW (ltS lt pre.size) G (if q > 0 then kas_tail3 m n (kas_rev u' (m - (q + 1)) m) else kas_tail3 m n u')) ?step ?fin ⟨u, 0, rfl, rfl, hu, hm, by omega, hr'⟩) ?post)
  case fin =>
    rintro c st' ⟨u', q, rfl, rfl, hu', h1, h2, h3⟩
    rw [Nat.max_eq_right hm] at h1 h2 h3 ⊢
    rw [Nat.sub_self] at h3
    exact ⟨u', n, q, rfl, rfl, hu', by omega, Nat.le_refl _, h2, h3⟩
  case post =>
    rintro c st' ⟨u', m, q, rfl, rfl, hu', h1, h2, h3, h4⟩
    dsimp only
    refine z_ite (fun hq => ?_) fun hq => ?_
    · rw [if_pos hq] at h4
      rw [show pre.size + m - (q + 1) = pre.size + (m - (q + 1)) by omega]
      exact wpS_bind (z_rev hu' h2 (z_tail P (hu'.rev _ _) h1 h2 h4 h))
    · rw [if_neg hq] at h4
      exact z_tail P hu' h1 h2 h4 h
  case step =>
    rintro i c st' hi1 hi2 ⟨u', q, rfl, rfl, hu', h1, h2, h3⟩
    dsimp only
    rw [show n - i = (n - (i + 1)) + 1 by omega] at h3
    generalize hR : (fun r : Array Nat × Nat × Nat => KW (ltS lt pre.size) G (if r.2.2 > 0 then kas_tail3 r.2.1 n (kas_rev r.1 (r.2.1 - (r.2.2 + 1)) r.2.1) else kas_tail3 r.2.1 n r.1)) = R at h3 ⊢
    have h3' : KW (ltS lt pre.size) R (if ltS lt pre.size (gA u' i) (gA u' (i - 1)) = true then (if q > 0 then kas_desc (n - (i + 1)) (kas_rev u' (i - (q + 1)) i) (i + 1) 0 else kas_desc (n - (i + 1)) u' (i + 1) 0)
      else KasT.ask (gA u' (i - 1)) (gA u' i) fun d => if d = true then .ret (u', i, q) else kas_desc (n - (i + 1)) u' (i + 1) (q + 1)) := h3
    rw [show pre.size + i - 1 = pre.size + (i - 1) by omega]
    refine wpS_bind (z_ask P hu' hi2 (by omega) ?_)
    refine z_ite (fun e => ?_) fun e => ?_
    · rw [if_pos e] at h3'
      refine z_ite (fun hq => ?_) fun hq => ?_
      · rw [if_pos hq] at h3'
        rw [show pre.size + i - (q + 1) = pre.size + (i - (q + 1)) by omega]
        exact wpS_bind (z_rev hu' h1 (wpS_pure ⟨_, 0, rfl, rfl, hu'.rev _ _, by omega, by omega, h3'⟩))
      · rw [if_neg hq] at h3'
        exact wpS_pure ⟨_, 0, rfl, rfl, hu', by omega, by omega, h3'⟩
    · rw [if_neg e] at h3'
      have h3'' : KW (ltS lt pre.size) R (if ltS lt pre.size (gA u' (i - 1)) (gA u' i) = true then .ret (u', i, q) else kas_desc (n - (i + 1)) u' (i + 1) (q + 1)) := h3'
      refine wpS_bind (z_ask P hu' (by omega) hi2 ?_)
      refine z_ite (fun e2 => ?_) fun e2 => ?_
      · rw [if_pos e2] at h3''
        have h5 : R (u', i, q) := h3''
        rw [← hR] at h5
        exact wpS_pure ⟨u', i, q, rfl, rfl, hu', by omega, h1, h2, h5⟩
      · rw [if_neg e2] at h3''
        exact wpS_pure ⟨_, q + 1, rfl, rfl, hu', by omega, by omega, h3''⟩
theorem z_count {n : Nat} (P : Zp prog w A s κ it lt N st pre n) (hu : POk n u) {G : Nat × Array Nat → Prop} {Q : Option Nat → SortSt → Prop} (hr : KW (ltS lt pre.size) G (kas_count n u)) (h : ∀ m u', POk n u' → 1 ≤ m → m ≤ n → G (m, u') → Q (some m) (stQ it st (pj pre u'))) :
    wpS (model prog w) A E s (countRun' pre.size n) Q (stQ it st (pj pre u)) := by
  have n0 := P.n0
  have hr' := KW.unbind hr
  rw [countRun'_eq]
  refine wpS_bind (z_asc P hu (Nat.le_refl 1) n0 hr' (fun i m => rfl) fun m h1 h2 h3 => ?_)
  dsimp only
  refine z_ite (fun e => ?_) fun e => ?_
  · rw [if_pos e] at h3
    exact wpS_pure (h m u hu h1 h2 h3)
  · rw [if_neg e] at h3
    have hlt : m + 1 ≤ n := by
      have : m ≠ n := by simpa using e
      omega
    refine z_ite (fun e2 => ?_) fun e2 => ?_
    · rw [if_pos e2] at h3
      have h3' : KW (ltS lt pre.size) G (if ltS lt pre.size (gA u 0) (gA u (m - 1)) = true then .ret (m, u) else kas_descPart m n (kas_rev u 0 m)) := h3
      have z := z_ask (E := E) P hu (i := 0) (j := m - 1) n0 (by omega) (Q := fun r st' => r = some (ltS lt pre.size (gA u 0) (gA u (m - 1))) ∧ st' = stQ it st (pj pre u)) ⟨rfl, rfl⟩
      rw [Nat.add_zero] at z
      rw [show pre.size + m - 1 = pre.size + (m - 1) by omega]
      refine wpS_bind (wpS_mono z fun r st' hz => ?_)
      obtain ⟨rfl, rfl⟩ := hz
      refine z_ite (fun e3 => ?_) fun e3 => ?_
      · rw [if_pos e3] at h3'
        exact wpS_pure (h m u hu h1 h2 h3')
      · rw [if_neg e3] at h3'
        have z := z_rev (prog := prog) (w := w) (A := A) (E := E) (s := s) (it := it) (st := st) (pre := pre) (i := 0) (j := m) hu h2 (Q := fun _ st' => st' = stQ it st (pj pre (kas_rev u 0 m))) rfl
        rw [Nat.add_zero] at z
        refine wpS_bind (wpS_mono z fun _ st' ez => ?_)
        subst ez
        exact z_desc P (hu.rev 0 m) h1 hlt h3' h
    · rw [if_neg e2] at h3
      exact z_desc P hu h1 hlt h3 h
theorem z_bin {n nf ok : Nat} (P : Zp prog w A s κ it lt N st pre n) (hu : POk n u) (hn : nf ≤ n) {G : Array Nat → Prop} {Q : Bool → SortSt → Prop} (hr : KW (ltS lt pre.size) G (kas_bin (nf - max ok 1) u (max ok 1))) (h : ∀ u', POk n u' → G u' → Q true (stQ it st (pj pre u'))) :
    wpS (model prog w) A E s (binarySort' pre.size nf ok) Q (stQ it st (pj pre u)) := by
  rw [binarySort'_eq]
  refine wpS_bind (wpS_mono (wpS_forRange (I := fun k c st' => ∃ u', c = (none, ()) ∧ st' = stQ it st (pj pre u') ∧ POk n u' ∧ KW (ltS lt pre.size) G (kas_bin (nf - k) u' k))
    (Q := fun c st' => ∃ u', c = (none, ()) ∧ st' = stQ it st (pj pre u') ∧ POk n u' ∧ G u') ?step ?fin ⟨u, rfl, rfl, hu, hr⟩) ?post)
  case fin =>
    rintro c st' ⟨u', rfl, rfl, hu', h1⟩
    rw [show nf - max (max ok 1) nf = 0 by omega] at h1
    exact ⟨u', rfl, rfl, hu', h1⟩
  case post =>
    rintro c st' ⟨u', rfl, rfl, hu', h1⟩
    exact wpS_pure (h u' hu' h1)
  case step =>
    rintro k c st' hk1 hk2 ⟨u', rfl, rfl, hu', h1⟩
    dsimp only
    rw [show nf - k = (nf - (k + 1)) + 1 by omega] at h1
    have h1' := KW.unbind (show KW (ltS lt pre.size) G ((kas_place u' k k 0 k).bind fun l => kas_bin (nf - (k + 1)) (bubble u' k (k - l)) (k + 1)) from h1)
    generalize hR : (fun l : Nat => KW (ltS lt pre.size) G (kas_bin (nf - (k + 1)) (bubble u' k (k - l)) (k + 1))) = R at h1'
    refine wpS_bind (wpS_mono (wpS_forRange (I := fun x c st' => ∃ l r, c = (none, l, r) ∧ st' = stQ it st (pj pre u') ∧ r ≤ k ∧ KW (ltS lt pre.size) R (kas_place u' k (k - x) l r))
      (Q := fun c st' => ∃ l r, c = (none, l, r) ∧ st' = stQ it st (pj pre u') ∧ R l) ?istep ?ifin ⟨0, k, rfl, rfl, Nat.le_refl _, h1'⟩) ?ipost)
    case ifin =>
      rintro c st' ⟨l, r, rfl, rfl, g1, g2⟩
      rw [show k - max 0 k = 0 by omega] at g2
      exact ⟨l, r, rfl, rfl, g2⟩
    case ipost =>
      rintro c st' ⟨l, r, rfl, rfl, g2⟩
      rw [← hR] at g2
      exact wpS_bind (z_mov hu' (by omega) (wpS_pure ⟨_, rfl, rfl, hu'.bub _ _, g2⟩))
    case istep =>
      rintro x c st' _ hx ⟨l, r, rfl, rfl, g1, g2⟩
      dsimp only
      rw [show k - x = (k - (x + 1)) + 1 by omega] at g2
      have g2' : KW (ltS lt pre.size) R (if l ≥ r then KasT.ret l else KasT.ask (gA u' k) (gA u' ((l + r) / 2)) fun c => if c = true then kas_place u' k (k - (x + 1)) l ((l + r) / 2) else kas_place u' k (k - (x + 1)) ((l + r) / 2 + 1) r) := g2
      refine z_ite (fun e => ?_) fun e => ?_
      · rw [if_pos e] at g2'
        exact wpS_pure ⟨l, r, rfl, rfl, g2'⟩
      · rw [if_neg e] at g2'
        have g3 : KW (ltS lt pre.size) R (if ltS lt pre.size (gA u' k) (gA u' ((l + r) / 2)) = true then kas_place u' k (k - (x + 1)) l ((l + r) / 2) else kas_place u' k (k - (x + 1)) ((l + r) / 2 + 1) r) := g2'
        refine wpS_bind (z_ask P hu' (by omega) (by omega) ?_)
        refine z_ite (fun e2 => ?_) fun e2 => ?_
        · rw [if_pos e2] at g3
          exact wpS_pure ⟨l, (l + r) / 2, rfl, rfl, by omega, g3⟩
        · rw [if_neg e2] at g3
          exact wpS_pure ⟨(l + r) / 2 + 1, r, rfl, rfl, by omega, g3⟩
end
end L2
namespace L2
open PySem PyProof.Rows PySem.W
section
variable {lt : Nat → Nat → Bool}
/-- the runs that are pending: each in order, one behind the other -/
def RunsL (lt : Nat → Nat → Bool) : Nat → List (List Nat) → List (Nat × Nat × Nat) → Prop
  | _, [], [] => True
  | b, r :: rs, t :: ts => t.1 = b ∧ t.2.1 = r.length ∧ 0 < r.length ∧ r.Pairwise (Lx lt) ∧ r.Perm (List.range' b r.length) ∧ RunsL lt (b + r.length) rs ts
  | _, _, _ => False
theorem RunsL.len : ∀ {b : Nat} {rs : List (List Nat)} {ts : List (Nat × Nat × Nat)}, RunsL lt b rs ts → rs.length = ts.length ∧ rs.length ≤ rs.flatten.length
  | _, [], [], _ => ⟨rfl, Nat.le_refl _⟩
  | _, r :: rs, t :: ts, ⟨_, _, h, _, _, k⟩ => by
    have := RunsL.len k
    rw [List.length_cons, List.length_cons, List.flatten_cons, List.length_append]
    omega
theorem RunsL.snoc {r : List Nat} {x : Nat} (h0 : 0 < r.length) (h1 : r.Pairwise (Lx lt)) : ∀ {b : Nat} {rs : List (List Nat)} {ts : List (Nat × Nat × Nat)}, RunsL lt b rs ts → r.Perm (List.range' (b + rs.flatten.length) r.length) → RunsL lt b (rs ++ [r]) (ts ++ [(b + rs.flatten.length, r.length, x)])
  | _, [], [], _, hp => ⟨rfl, rfl, h0, h1, hp, trivial⟩
  | b, q :: rs, t :: ts, ⟨e1, e2, e3, e4, e5, k⟩, hp => by
    rw [List.flatten_cons, List.length_append, ← Nat.add_assoc] at hp
    have ih := RunsL.snoc (x := x) h0 h1 k hp
    rw [List.flatten_cons, List.length_append, ← Nat.add_assoc]
    exact ⟨e1, e2, e3, e4, e5, ih⟩
theorem RunsL.pow {g : Nat × Nat × Nat → Nat × Nat × Nat} (hg : ∀ t, (g t).1 = t.1 ∧ (g t).2.1 = t.2.1) : ∀ (i : Nat) {b : Nat} {rs : List (List Nat)} {ts : List (Nat × Nat × Nat)}, RunsL lt b rs ts → RunsL lt b rs (ts.modify i g)
  | _, _, [], [], _ => by rw [List.modify_nil]; trivial
  | 0, _, r :: rs, t :: ts, ⟨e1, e2, e3, e4, e5, k⟩ => by
    rw [List.modify_zero_cons]
    exact ⟨(hg t).1.trans e1, (hg t).2.trans e2, e3, e4, e5, k⟩
  | i + 1, _, r :: rs, t :: ts, ⟨e1, e2, e3, e4, e5, k⟩ => by
    rw [List.modify_succ_cons]
    exact ⟨e1, e2, e3, e4, e5, RunsL.pow hg i k⟩
theorem RunsL.two : ∀ (i : Nat) {b : Nat} {rs : List (List Nat)} {ts : List (Nat × Nat × Nat)}, RunsL lt b rs ts → i + 1 < ts.length → ∃ rs1 X Y rs2 pw pw2, rs = rs1 ++ X :: Y :: rs2 ∧ 0 < X.length ∧ 0 < Y.length ∧ X.Pairwise (Lx lt) ∧ Y.Pairwise (Lx lt) ∧ (∀ x ∈ X, ∀ y ∈ Y, x < y) ∧
    ts[i]? = some (b + rs1.flatten.length, X.length, pw) ∧ ts[i + 1]? = some (b + rs1.flatten.length + X.length, Y.length, pw2) ∧
    ∀ W : List Nat, W.Pairwise (Lx lt) → W.Perm (X ++ Y) → RunsL lt b (rs1 ++ W :: rs2) ((ts.set i (b + rs1.flatten.length, X.length + Y.length, pw)).eraseIdx (i + 1))
  | _, _, [], [], _, h => absurd h (by simp)
  | 0, b, X :: [], t :: [], _, h => absurd h (by simp)
  | 0, b, X :: [], t :: t2 :: ts, ⟨_, _, _, _, _, k⟩, h => k.elim
  | 0, b, X :: Y :: rs, t :: [], ⟨_, _, _, _, _, k⟩, h => k.elim
  | 0, b, X :: Y :: rs, t :: t2 :: ts, ⟨e1, e2, e3, e4, e5, f1, f2, f3, f4, f5, k⟩, h => by
    refine ⟨[], X, Y, rs, t.2.2, t2.2.2, rfl, e3, f3, e4, f4, fun x hx y hy => ?_, ?_, ?_, fun W hw hp => ?_⟩
    · have a1 := e5.mem_iff.mp hx
      have a2 := f5.mem_iff.mp hy
      rw [List.mem_range'_1] at a1 a2
      omega
    · show some t = some (b, X.length, t.2.2)
      rw [← e1, ← e2]
    · show some t2 = some (b + X.length, Y.length, t2.2.2)
      rw [← f1, ← f2]
    · have hl : W.length = X.length + Y.length := by rw [hp.length_eq, List.length_append]
      refine ⟨rfl, hl.symm, by omega, hw, ?_, ?_⟩
      · refine hp.trans ((e5.append f5).trans ?_)
        have := List.range'_append (s := b) (m := X.length) (n := Y.length) (step := 1)
        rw [Nat.one_mul] at this
        rw [this, hl]
      · rw [hl, ← Nat.add_assoc]
        exact k
  | i + 1, b, r :: rs, t :: ts, ⟨e1, e2, e3, e4, e5, k⟩, h => by
    obtain ⟨rs1, X, Y, rs2, pw, pw2, rfl, g1, g2, g3, g4, g5, g6, g7, g8⟩ := RunsL.two i k (by simpa using h)
    have el : b + (r :: rs1).flatten.length = b + r.length + rs1.flatten.length := by rw [List.flatten_cons, List.length_append, Nat.add_assoc]
    refine ⟨r :: rs1, X, Y, rs2, pw, pw2, rfl, g1, g2, g3, g4, g5, ?_, ?_, fun W hw hp => ?_⟩
    · rw [List.getElem?_cons_succ, el]
      exact g6
    · rw [List.getElem?_cons_succ, el]
      exact g7
    · rw [el, List.set_cons_succ, List.eraseIdx_cons_succ]
      exact ⟨e1, e2, e3, e4, e5, g8 W hw hp⟩
variable {prog : Program} {w : World} {A : Around} {E : Value → Shared → Prop} {s : Shared} {κ : SortKind} {it : Array Keyed} {N : Nat} {st : SortSt}
structure RI (κ : SortKind) (it : Array Keyed) (lt : Nat → Nat → Bool) (N lo : Nat) (T : List Nat) (p : Array Nat) (rs : List (List Nat)) (st : SortSt) : Prop where
  hk : kindOf st = κ
  hf : failedOf st = none
  ha : arrOf st = p.map (kas_item it)
  hp : p.toList = rs.flatten ++ T
  pm : p.toList.Perm (List.range N)
  rl : RunsL lt 0 rs (pendingOf st).toList
  hl : rs.flatten.length = lo
theorem z_mrg (Z : Zc prog w A s κ it lt N) (O : LtOk lt) {lo i : Nat} {T : List Nat} {p : Array Nat} {rs : List (List Nat)} (R : RI κ it lt N lo T p rs st) (hi : i + 1 < (pendingOf st).size) {Q : Bool → SortSt → Prop}
    (h : ∀ st' p' rs', RI κ it lt N lo T p' rs' st' → (pendingOf st').size + 1 = (pendingOf st).size → Q true st') : wpS (model prog w) A E s (mergeAt' i) Q st := by
  obtain ⟨rs1, X, Y, rs2, pw, pw2, e0, g1, g2, g3, g4, g5, g6, g7, g8⟩ := R.rl.two i (by rw [Array.length_toList]; exact hi)
  rw [Nat.zero_add] at g6 g7 g8
  rw [Array.getElem?_toList] at g6 g7
  refine z_at Z O (pre := rs1.flatten) (X := X) (Y := Y) (post := rs2.flatten ++ T) R.hk R.hf R.ha ?_ g3 g4 g1 g2 g5 (fun x hx => List.mem_range.mp (R.pm.mem_iff.mp hx)) g6 g7 fun st' p' W j1 j2 j3 j4 j5 j6 j7 => ?_
  · rw [R.hp, e0]
    simp
  · refine h st' p' (rs1 ++ W :: rs2) ⟨j1, j2, j3, ?_, ?_, ?_, ?_⟩ ?_
    · rw [j4]
      simp
    · refine List.Perm.trans ?_ R.pm
      rw [j4, R.hp, e0]
      have : (rs1.flatten ++ (W ++ (rs2.flatten ++ T))).Perm (rs1.flatten ++ ((X ++ Y) ++ (rs2.flatten ++ T))) := (j6.append_right _).append_left _
      refine this.trans (List.Perm.of_eq ?_)
      simp
    · rw [j7]
      have := g8 W j5 j6
      rw [Array.eraseIdxIfInBounds, dif_pos (by rw [Array.size_setIfInBounds]; exact hi), Array.toList_eraseIdx, Array.toList_setIfInBounds]
      exact this
    · rw [← R.hl, e0]
      have := j6.length_eq
      rw [List.length_append] at this
      simp
      omega
    · rw [j7, Array.eraseIdxIfInBounds, dif_pos (by rw [Array.size_setIfInBounds]; exact hi), Array.size_eraseIdx, Array.size_setIfInBounds]
      omega
theorem ltS_ok (O : LtOk lt) (lo : Nat) : LtOk (ltS lt lo) := ⟨fun h => O.as h, fun h k => O.tr h k⟩
theorem fx_range {n : Nat} (hn : 1 ≤ n) : Fx n (List.toArray (List.range n)) 1 := by
  have g : ∀ k, k < n → gA (List.toArray (List.range n)) k = k := fun k hk => by
    rw [gA_eq]
    simp [hk]
  refine ⟨by simp, fun k _ hk => g k hk, fun i hi => ?_⟩
  have e : i = 0 := by omega
  subst e
  rw [g 0 (by omega)]
  decide
/-- a run found, seen from all -/
theorem run_of {n m lo : Nat} {u pre : Array Nat} (hpre : pre.size = lo) (hu : POk n u) (F : Fx n u m) (S : LS (ltS lt lo) u m) (hm : m ≤ n) : ∃ r : List Nat, r.length = m ∧ r.Pairwise (Lx lt) ∧ r.Perm (List.range' lo m) ∧ (pj pre u).toList = pre.toList ++ (r ++ List.range' (lo + m) (n - m)) := by
  have hz : u.toList.length = n := by rw [Array.length_toList]; exact F.sz
  have ed : u.toList.drop m = List.range' m (n - m) := by
    apply List.ext_getElem
    · rw [List.length_drop, List.length_range', hz]
    · intro i h1 h2
      rw [List.length_drop, hz] at h1
      rw [List.getElem_drop, List.getElem_range']
      have := F.hi (m + i) (by omega) (by omega)
      rw [gA_list, List.getD_eq_getElem?_getD, List.getElem?_eq_getElem (by omega)] at this
      rw [Nat.one_mul]
      exact this
  have ep : u.toList.Perm (List.range n) := by
    have := Array.perm_iff_toList_perm.mp hu
    simpa using this
  have er : List.range n = List.range m ++ List.range' m (n - m) := by
    rw [List.range_eq_range', List.range_eq_range']
    have := List.range'_append (s := 0) (m := m) (n := n - m) (step := 1)
    rw [Nat.one_mul, Nat.zero_add] at this
    rw [this]
    congr 1
    omega
  have pt : (u.toList.take m).Perm (List.range m) := by
    have e := List.take_append_drop m u.toList
    rw [ed] at e
    rw [← e, er] at ep
    exact (List.perm_append_right_iff _).mp ep
  refine ⟨(u.toList.take m).map (lo + ·), by rw [List.length_map, List.length_take]; omega, ?_, ?_, ?_⟩
  · rw [List.pairwise_map]
    have hS : (u.toList.take m).Pairwise (Lx (ltS lt lo)) := by
      rw [List.pairwise_iff_getElem]
      intro i j hi hj hij
      rw [List.length_take] at hi hj
      have := S i j hij (by omega)
      rw [gA_list, gA_list, List.getD_eq_getElem?_getD, List.getD_eq_getElem?_getD, List.getElem?_eq_getElem (by omega), List.getElem?_eq_getElem (by omega)] at this
      rw [List.getElem_take, List.getElem_take]
      exact this
    refine hS.imp fun {a b} hab => ⟨hab.1, ?_⟩
    rcases hab.2 with x | x
    · exact .inl x
    · exact .inr (by omega)
  · rw [List.range'_eq_map_range]
    exact pt.map _
  · unfold pj
    rw [Array.toList_append, Array.toList_map, hpre]
    congr 1
    have e := List.take_append_drop m u.toList
    rw [ed] at e
    conv => lhs; rw [← e]
    rw [List.map_append]
    congr 1
    rw [List.range'_eq_map_range, List.range'_eq_map_range, List.map_map]
    apply List.map_congr_left
    intro x _
    show lo + (m + x) = lo + m + x
    omega
end
end L2
namespace L2
open PySem PyProof.Rows PySem.W
section
variable {lt : Nat → Nat → Bool} {prog : Program} {w : World} {A : Around} {E : Value → Shared → Prop} {s : Shared} {κ : SortKind} {it : Array Keyed} {N : Nat} {st : SortSt}
/-- the next run: found, and made longer where it is short -/
theorem z_next (Z : Zc prog w A s κ it lt N) (O : LtOk lt) {lo mr : Nat} {p : Array Nat} {rs : List (List Nat)} (R : RI κ it lt N lo (List.range' lo (N - lo)) p rs st) (hlo : lo < N) {β : Type} {g : Nat → StateT SortSt Sem β} {Q : β → SortSt → Prop}
    (h : ∀ (m : Nat) (r : List Nat) (p' : Array Nat) (st' : SortSt), 1 ≤ m → lo + m ≤ N → r.length = m → r.Pairwise (Lx lt) → r.Perm (List.range' lo m) → RI κ it lt N lo (r ++ List.range' (lo + m) (N - (lo + m))) p' rs st' → pendingOf st' = pendingOf st → wpS (model prog w) A E s (g m) Q st')
    {bad : StateT SortSt Sem β} {k : Option Nat → StateT SortSt Sem β} (hk : ∀ m, k (some m) = (if m < mr then do
        liftM (rule "list.sort.binary-insertion")
        let ok ← binarySort' lo (min (N - lo) mr) m
        if (!ok) = true then bad else g (min (N - lo) mr)
      else g m)) : wpS (model prog w) A E s (countRun' lo (N - lo) >>= k) Q st := by
  have hl := R.hl
  have O' : LtOk (ltS lt (List.toArray rs.flatten).size) := ltS_ok O _
  have n0 : 1 ≤ N - lo := by omega
  have hz : (List.toArray rs.flatten).size = lo := by rw [List.size_toArray]; exact hl
  have pu : POk (N - lo) (List.toArray (List.range (N - lo))) := Array.Perm.refl _
  have P : Zp prog w A s κ it lt N st (List.toArray rs.flatten) (N - lo) := ⟨Z, R.hk, by omega, by omega⟩
  have ep : p = pj (List.toArray rs.flatten) (List.toArray (List.range (N - lo))) := by
    apply Array.toList_inj.mp
    rw [R.hp]
    unfold pj
    rw [Array.toList_append, Array.toList_map, List.toList_toArray, List.toList_toArray, hz, List.range'_eq_map_range]
  have est : st = stQ it st (pj (List.toArray rs.flatten) (List.toArray (List.range (N - lo)))) := by
    unfold stQ
    rw [← ep, ← R.ha]
  have fin : ∀ (m : Nat) (u' : Array Nat), POk (N - lo) u' → 1 ≤ m → m ≤ N - lo → Fx (N - lo) u' m → LS (ltS lt (List.toArray rs.flatten).size) u' m → wpS (model prog w) A E s (g m) Q (stQ it st (pj (List.toArray rs.flatten) u')) := fun m u' hu h1 h2 h3 h4 => by
    rw [hz] at h4
    obtain ⟨r, r1, r2, r3, r4⟩ := run_of hz hu h3 h4 h2
    refine h m r (pj (List.toArray rs.flatten) u') _ h1 (by omega) r1 r2 r3 ⟨R.hk, R.hf, rfl, ?_, ?_, R.rl, hl⟩ rfl
    · rw [r4, List.toList_toArray, show N - (lo + m) = N - lo - m by omega]
    · refine List.Perm.trans ?_ R.pm
      rw [r4, R.hp, List.toList_toArray]
      refine List.Perm.append_left _ ?_
      refine (r3.append_right _).trans (List.Perm.of_eq ?_)
      have := List.range'_append (s := lo) (m := m) (n := N - lo - m) (step := 1)
      rw [Nat.one_mul] at this
      rw [this]
      congr 1
      omega
  have kc := kw_count O' (N := N - lo) (p := List.toArray (List.range (N - lo))) n0 (fx_range n0)
  rw [est]
  have zc := z_count (E := E) (Q := fun r st' => wpS (model prog w) A E s (k r) Q st') P pu kc fun m u' hu h1 h2 hG => by
    obtain ⟨g1, g2, g3, g4⟩ := hG
    rw [hk]
    refine z_ite (fun c => ?_) fun c => ?_
    · refine wpS_bind (wpS_lift (wpAny_rule ⟨rfl, ?_⟩))
      have em : max m 1 = m := by omega
      have kb := kw_binG O' (N := N - lo) (min (N - lo) mr - max m 1) (p := u') (k := max m 1) (by omega) (by omega) (by rw [em]; exact g3) (by rw [em]; exact g4)
      have zb := z_bin (E := E) (nf := min (N - lo) mr) (ok := m) (Q := fun r st' => wpS (model prog w) A E s (if (!r) = true then bad else g (min (N - lo) mr)) Q st') P hu (by omega) kb fun u2 hu2 hG2 => by
        rw [if_neg (by simp)]
        have e2 : max m 1 + (min (N - lo) mr - max m 1) = min (N - lo) mr := by omega
        rw [e2] at hG2
        exact fin _ u2 hu2 (by omega) (by omega) hG2.1 hG2.2
      rw [hz] at zb
      exact wpS_bind zb
    · exact fin m u' hu h1 h2 g3 g4
  rw [hz] at zc
  exact wpS_bind zc
def mgLoop (N pw : Nat) : StateT SortSt Sem (Option Unit × Unit) := forIn [0:N] ((none, ()) : Option Unit × Unit) fun _ _ => do
  let st ← get
  match (if (pendingOf st).size > 1 then (pendingOf st)[(pendingOf st).size - 2]? else none) with
  | some (_, _, old) => if old ≤ pw then pure (.done (none, ())) else do
    let ok ← mergeAt' ((pendingOf st).size - 2)
    if (!ok) = true then pure (.done (some (), ())) else pure (.yield (none, ()))
  | _ => pure (.done (none, ()))
def nxtRun (N lo n : Nat) : StateT SortSt Sem (ForInStep (Option Unit × Nat)) := do
  let st ← get
  match (pendingOf st).back? with
  | some (s1, n1, _) => do
    let c ← mgLoop N (power' N (2 * s1 + n1) (2 * s1 + n1 + n1 + n) N)
    match c.1 with
    | some r => pure (.done (some r, lo))
    | none => do
      modify fun st => setPending st ((pendingOf st).modify ((pendingOf st).size - 1) fun t => (t.1, t.2.1, power' N (2 * s1 + n1) (2 * s1 + n1 + n1 + n) N))
      modify fun st => setPending st ((pendingOf st).push (lo, n, 0))
      pure (.yield (none, lo + n))
  | _ => do
    modify fun st => setPending st ((pendingOf st).push (lo, n, 0))
    pure (.yield (none, lo + n))
theorem z_mgl (Z : Zc prog w A s κ it lt N) (O : LtOk lt) {lo pw : Nat} {T : List Nat} {p : Array Nat} {rs : List (List Nat)} (R : RI κ it lt N lo T p rs st) {Q : Option Unit × Unit → SortSt → Prop} (h : ∀ st' p' rs', RI κ it lt N lo T p' rs' st' → Q (none, ()) st') : wpS (model prog w) A E s (mgLoop N pw) Q st := by
  unfold mgLoop
  refine wpS_forRange (I := fun _ c st' => c = (none, ()) ∧ ∃ p' rs', RI κ it lt N lo T p' rs' st') ?_ ?_ ⟨rfl, p, rs, R⟩
  · rintro x c st' _ _ ⟨rfl, p', rs', R'⟩
    refine wpS_bind (wpS_get ?_)
    by_cases hs : (pendingOf st').size > 1
    · rw [if_pos hs]
      have e : (pendingOf st')[(pendingOf st').size - 2]? = some ((pendingOf st')[(pendingOf st').size - 2]'(by omega)) := Array.getElem?_eq_getElem (by omega)
      rw [e]
      refine z_ite (fun _ => wpS_pure (h st' p' rs' R')) fun _ => ?_
      refine wpS_bind (z_mrg Z O R' (by omega) fun st2 p2 rs2 R2 _ => ?_)
      refine z_ite (fun z => absurd z (by simp)) fun _ => wpS_pure ⟨rfl, p2, rs2, R2⟩
    · rw [if_neg hs]
      exact wpS_pure (h st' p' rs' R')
  · rintro c st' ⟨rfl, p', rs', R'⟩
    exact h st' p' rs' R'
theorem RI.push {lo m : Nat} {r : List Nat} {p : Array Nat} {rs : List (List Nat)} {T : List Nat} (R : RI κ it lt N lo (r ++ T) p rs st) (h1 : 1 ≤ m) (hr : r.length = m) (hw : r.Pairwise (Lx lt)) (hp : r.Perm (List.range' lo m)) : RI κ it lt N (lo + m) T p (rs ++ [r]) (setPending st ((pendingOf st).push (lo, m, 0))) := by
  have hl := R.hl
  refine ⟨R.hk, R.hf, R.ha, ?_, R.pm, ?_, ?_⟩
  · rw [R.hp]
    simp
  · show RunsL lt 0 (rs ++ [r]) ((pendingOf st).push (lo, m, 0)).toList
    rw [Array.toList_push]
    have := R.rl.snoc (r := r) (x := 0) (by omega) hw (by rw [Nat.zero_add, hl, hr]; exact hp)
    rw [Nat.zero_add, hl, hr] at this
    exact this
  · simp
    rw [← List.length_flatten, hl, hr]
theorem z_nxt (Z : Zc prog w A s κ it lt N) (O : LtOk lt) {lo m : Nat} {r : List Nat} {p : Array Nat} {rs : List (List Nat)} {T : List Nat} (R : RI κ it lt N lo (r ++ T) p rs st) (h1 : 1 ≤ m) (hr : r.length = m) (hw : r.Pairwise (Lx lt)) (hp : r.Perm (List.range' lo m)) {Q : ForInStep (Option Unit × Nat) → SortSt → Prop}
    (h : ∀ st' p' rs', RI κ it lt N (lo + m) T p' rs' st' → Q (.yield (none, lo + m)) st') : wpS (model prog w) A E s (nxtRun N lo m) Q st := by
  unfold nxtRun
  refine wpS_bind (wpS_get ?_)
  cases hb : (pendingOf st).back? with
  | none => exact wpS_bind (wpS_modify (wpS_pure (h _ _ _ (R.push h1 hr hw hp))))
  | some t =>
    obtain ⟨s1, n1, o1⟩ := t
    refine wpS_bind (z_mgl Z O R fun st' p' rs' R' => ?_)
    refine wpS_bind (wpS_modify (wpS_bind (wpS_modify (wpS_pure (h _ p' (rs' ++ [r]) (RI.push (st := setPending st' ((pendingOf st').modify ((pendingOf st').size - 1) fun t => (t.1, t.2.1, power' N (2 * s1 + n1) (2 * s1 + n1 + n1 + m) N))) ⟨R'.hk, R'.hf, R'.ha, R'.hp, R'.pm, ?_, R'.hl⟩ h1 hr hw hp))))))
    show RunsL lt 0 rs' ((pendingOf st').modify ((pendingOf st').size - 1) _).toList
    rw [Array.toList_modify]
    exact R'.rl.pow (g := fun t => (t.1, t.2.1, power' N (2 * s1 + n1) (2 * s1 + n1 + n1 + m) N)) (fun t => ⟨rfl, rfl⟩) _
theorem z_sort (Z : Zc prog w A s κ it lt N) (O : LtOk lt) (h1 : 1 ≤ N) {Q : Unit → SortSt → Prop} (h : ∀ (p : Array Nat) (st' : SortSt), POk N p → LS lt p N → p.size = N → arrOf st' = p.map (kas_item it) → failedOf st' = none → Q () st') :
    wpS (model prog w) A E s sortRuns' Q (SortSt.mk' κ ((List.toArray (List.range N)).map (kas_item it)) #[] 7 none) := by
  rw [sortRuns'_eq]
  refine wpS_bind (wpS_get ?_)
  have esz : (arrOf (SortSt.mk' κ ((List.toArray (List.range N)).map (kas_item it)) #[] 7 none)).size = N := by
    show ((List.toArray (List.range N)).map (kas_item it)).size = N
    simp
  rw [esz]
  have R0 : RI κ it lt N 0 (List.range' 0 (N - 0)) (List.toArray (List.range N)) [] (SortSt.mk' κ ((List.toArray (List.range N)).map (kas_item it)) #[] 7 none) := by
    refine ⟨rfl, rfl, rfl, ?_, List.Perm.refl _, trivial, rfl⟩
    rw [List.toList_toArray, List.range_eq_range', Nat.sub_zero]
    rfl
  refine wpS_bind (wpS_mono (wpS_forRange (I := fun x c st' => ∃ lo p rs, c = (none, lo) ∧ RI κ it lt N lo (List.range' lo (N - lo)) p rs st' ∧ lo ≤ N ∧ x ≤ lo)
    (Q := fun c st' => c = (none, N) ∧ ∃ p rs, RI κ it lt N N [] p rs st') ?step ?fin ⟨0, _, _, rfl, R0, by omega, Nat.le_refl _⟩) ?post)
  case fin =>
    rintro c st' ⟨lo, p, rs, rfl, R, h2, h3⟩
    have e : lo = N := by omega
    subst e
    refine ⟨rfl, p, rs, ?_⟩
    rw [Nat.sub_self] at R
    exact R
  case step =>
    rintro x c st' _ hx ⟨lo, p, rs, rfl, R, h2, h3⟩
    dsimp -zeta only
    refine z_ite (fun hge => ?_) fun hge => ?_
    · have e : lo = N := by omega
      subst e
      rw [Nat.sub_self] at R
      exact wpS_pure ⟨rfl, p, rs, R⟩
    refine z_next Z O R (by omega) (g := nxtRun N lo) (mr := minRun' N N 0) (bad := pure (ForInStep.done (some (), lo))) (fun m r p' st2 m1 m2 r1 r2 r3 R2 _ => ?_) (fun m => by kernel_rfl)
    exact z_nxt Z O R2 m1 r1 r2 r3 fun st3 p3 rs3 R3 => ⟨lo + m, p3, rs3, rfl, R3, m2, by omega⟩
  case post =>
    rintro c st' ⟨rfl, p, rs, R⟩
    dsimp only
    have hle : ∀ {c : Prop} [Decidable c] (x : Nat), (if c then x - 1 else x) ≤ x := fun x => by split <;> omega
    have hsz : (pendingOf st').size ≤ N := by
      obtain ⟨q1, q2⟩ := R.rl.len
      have q3 : (pendingOf st').toList.length = (pendingOf st').size := Array.length_toList
      have q4 := R.hl
      omega
    refine wpS_bind (wpS_mono (wpS_forRange (I := fun x c st' => c = (none, ()) ∧ (∃ p rs, RI κ it lt N N [] p rs st') ∧ ((pendingOf st').size + x ≤ N ∨ (pendingOf st').size ≤ 1))
      (Q := fun c st' => c = (none, ()) ∧ (∃ p rs, RI κ it lt N N [] p rs st') ∧ (pendingOf st').size ≤ 1) ?step2 ?fin2 ⟨rfl, ⟨p, rs, R⟩, .inl hsz⟩) ?post2)
    case fin2 =>
      rintro c st2 ⟨rfl, hR, h2⟩
      exact ⟨rfl, hR, by omega⟩
    case step2 =>
      rintro x c st2 _ hx ⟨rfl, ⟨p2, rs2, R2⟩, h2⟩
      refine wpS_bind (wpS_get ?_)
      refine z_ite (fun hge => wpS_pure ⟨rfl, ⟨p2, rs2, R2⟩, hge⟩) fun hge => ?_
      refine wpS_bind (z_mrg Z O R2 ?_ fun st3 p3 rs3 R3 e3 => ?_)
      · exact Nat.lt_of_le_of_lt (Nat.add_le_add_right (hle _) 1) (by omega)
      · refine z_ite (fun z => absurd z (by simp)) fun _ => wpS_pure ⟨rfl, ⟨p3, rs3, R3⟩, by omega⟩
    case post2 =>
      rintro c st2 ⟨rfl, ⟨p2, rs2, R2⟩, h2⟩
      have ln := R2.rl.len
      rw [Array.length_toList] at ln
      have hl := R2.hl
      have hp := R2.hp
      have rl := R2.rl
      match rs2, hl, hp, rl, ln with
      | [], hl, _, _, _ => exact absurd hl (by simp; omega)
      | r :: r2 :: rs3, _, _, _, ln => exact absurd ln.1 (by simp; omega)
      | [r], hl, hp, rl, _ =>
        rw [List.append_nil, List.flatten_singleton] at hp
        match hpl : (pendingOf st2).toList, rl with
        | [], rl => exact rl.elim
        | t :: ts, ⟨_, _, _, pw, _, _⟩ =>
          have hz : p2.size = N := by rw [← Array.length_toList, R2.pm.length_eq, List.length_range]
          refine wpS_pure (h p2 st2 (Array.perm_iff_toList_perm.mpr (by simpa using R2.pm)) (fun i j hij hj => of_pw (by rw [hp]; exact pw) i j hij (by omega)) hz R2.ha R2.hf)
end
end L2
namespace L2
open PySem PySem.Spec PyProof.Rows PySem.W
theorem size4k {n : Nat} (h : n ≤ 4096) : n ≤ sizeLine := by rw [sizeLine_eq]; omega
section
variable {prog : Program} {w : World} {A : Around} {E : Value → Shared → Prop} {s : Shared} {h₀ : Heap} {L a kS : Addr} {m : Str → Option Value} {news : List (Addr × Obj)} {vs ks : List Value}
theorem collect_rangeZ {Q : List Value → Shared → Prop} {r : Addr} {lo hi : Int} {t u v : Tok} {n : Nat} (hh : A.handled = none) (hr : IsRange s.heap r lo hi 1 t u v) (hsmall : Builtin.Range.small lo hi 1 = true) (hn : Builtin.Range.rangeSize lo hi 1 = n) (hlen : n ≤ 2 ^ 24)
    (h : ∀ h' tk acc, (∀ b o, s.heap.get? b = some o → h'.get? b = some o) → ItemsOf (fun i v => ∃ t, v = .int (lo + i * 1) t) acc n → Q acc.toList { s with heap := h', toks := tk }) : wpAny (model prog w) A (collect (.ref r)) Q E s := by
  unfold collect
  refine wpAny_bind (wpAny_runValue (codeAny_builtin F.entry_proto_collect ?_)); rw [Around.under_plainId F.plain_proto_collect _]
  show wpAny _ A.in1 (newList [] >>= fun q => again (.builtin "list.__iadd__" ⟨[q, .ref r], []⟩)) _ _ s
  refine wpAny_bind (wpAny_newObj_type (wpAny_pure ⟨plainId_quiet F.plain_list_iadd _, codeAny_builtin F.entry_list_iadd ?_⟩)); rw [Around.under_plainId F.plain_list_iadd _]
  show wpAny _ A.in1 (Builtin.List.listExtendWith (.ref s.heap.objs.size) (.ref r) (.ref s.heap.objs.size)) _ _ _
  refine wpAny_extend_range (A := A) (R := fun r s' => match r with
    | .ok (.ret v) => wpAny (model prog w) A (match v with
      | .ref a => do
        let o ← load a
        match o.data with
        | .seq xs _ => pure xs.toList
        | _ => unsupported "internal:collect"
      | _ => unsupported "internal:collect") Q E s'
    | .ok _ => False
    | .error e => E e s') (s := { s with heap := s.heap.push { cls := .type "list", data := .seq ([] : List Value).toArray } }) hh (Heap.get?_push_of_some _ hr) hsmall hn hlen s.heap.objs.size _ 0 (Heap.get?_push_size _ rfl) fun h' tk acc c hk hS hacc => ?_
  show wpAny _ A (load s.heap.objs.size >>= _) _ _ _
  refine wpAny_bind (wpAny_load hS (wpAny_pure ?_))
  exact h h' tk acc (fun b o e => hk b o (Nat.ne_of_lt (Heap.lt_size e)) (Heap.get?_push_of_some _ e)) hacc
/-- the end of a sort by keys: all as KatFin wants it, whatever the order found -/
def ZGo (prog : Program) (w : World) (A : Around) (b : Bool) (ks vs : List Value) (F : List Value → Shared → Prop) (κ : SortKind) (s : Shared) : Prop :=
  ∃ lt : Nat → Nat → Bool, LtOk lt ∧ (∀ i j (C : Bool → Shared → Prop), i < vs.length → j < vs.length → C (lt i j) s → kas_ask prog w A κ (katRev b ks) i j C s) ∧
    ∀ p : Array Nat, POk vs.length p → LS lt p vs.length → F (katRev b (p.toList.map fun i => (katRev b vs).getD i Value.none)) s
def ZEnd (prog : Program) (w : World) (A : Around) (b : Bool) (ks vs : List Value) (F : List Value → Shared → Prop) (s : Shared) : Prop :=
  (2 ≤ vs.length → wpAny (model prog w) A (keyKind' (List.toArray ks)) (ZGo prog w A b ks vs F) (fun _ _ => False) s) ∧ (vs.length < 2 → F (katRev b ((List.range vs.length).map fun i => (katRev b vs).getD i Value.none)) s)
theorem zk_tail {b : Bool} {st : SortSt} {e e1 : Nat} {out : List Value} {P : PySem.Fin → Shared → Prop} (ho : (arrOf st).map (·.2) = List.toArray out) (hz : out.length ≤ 4096) (hq : ks.length ≤ 4096) (hf : failedOf st = none)
    (h : KatFin h₀ L m kS a ks e e1 (katRev b out) (fun s' => P (.done (.ret .none)) s') s) : wpAny (model prog w) A (ksk_tail a b e1 (.ref kS) st) P E s := by
  obtain ⟨nw, g, Fq, Nq, Uq, kq⟩ := h
  obtain ⟨l1, l2, e0, hg, x1, x2⟩ := Uq.split; rw [e0] at Nq
  have ak := Nq (kS, seqObj "list" (List.toArray ks) e) (List.mem_append_right _ (.head _)); have s1 := Heap.SameBut.update s.heap kS (Obj.mapSeq fun _ => (#[] : Array Value))
  obtain ⟨ck, hck⟩ : ∃ z, (s.heap.update kS (Obj.mapSeq fun _ => (#[] : Array Value))).get? kS = some (seqObj "list" #[] z) := ⟨_, get?_update_seq ak.1 fun _ => #[]⟩
  have K2 := kq _ ck (kas_fr Fq s1 ak.2.1 ak.2.2) (by rw [hg]; exact news_set Nq x1 x2 s1 hck)
  obtain ⟨nw2, g2, F2, N2, U2, k2⟩ := K2
  obtain ⟨m1, m2, e2, hg2, y1, y2⟩ := U2.split; rw [e2] at N2
  have aa := N2 (a, seqObj "list" #[] e1) (List.mem_append_right _ (.head _))
  have s2 := Heap.SameBut.update (s.heap.update kS (Obj.mapSeq fun _ => (#[] : Array Value))) a (Obj.mapSeq fun _ => List.toArray (katRev b out)); have hsz : (List.toArray (katRev b out)).size = out.length := by rw [List.size_toArray, kat_len]
  obtain ⟨c2, hc2⟩ : ∃ z, ((s.heap.update kS (Obj.mapSeq fun _ => (#[] : Array Value))).update a (Obj.mapSeq fun _ => List.toArray (katRev b out))).get? a = some (seqObj "list" (List.toArray (katRev b out)) z) := ⟨_, get?_update_seq aa.1 fun _ => List.toArray (katRev b out)⟩
  unfold ksk_tail
  dsimp only
  rw [ho, kat_outs]
  refine wpAny_bind (listUpdate_at ak.1 rfl (wpAny_bind (wpAny_letGo (wpAny_bind (seqEpoch_at aa.1 rfl (wpAny_bind (listUpdate_at aa.1 rfl ?_ (Nat.zero_le _) (Nat.le_trans (Nat.le_of_eq hsz) (Nat.le_succ_of_le (size4k hz))))))))) (by rw [List.size_toArray]; exact size4k hq) (Nat.zero_le _))
  rw [hf]
  simp only [bne_self_eq_false, Bool.false_eq_true, if_false]
  refine wpAny_pure (k2 _ c2 (kas_fr F2 s2 aa.2.1 aa.2.2) ?_); rw [hg2]
  exact news_set N2 y1 y2 s2 hc2
theorem zk_end {b : Bool} {e e1 : Nat} {P : PySem.Fin → Shared → Prop} (hl : ks.length = vs.length) (hz : vs.length ≤ 4096)
    (h : ZEnd prog w A b ks vs (fun out => KatFin h₀ L m kS a ks e e1 out (fun s3 => P (.done (.ret .none)) s3)) s) :
    wpAny (model prog w) A (ksk_end a b vs.toArray e1 (.ref kS) (List.toArray ks)) P E s := by
  have lr : (katRev b ks).length = (katRev b vs).length := by rw [kat_len, kat_len, hl]
  have lv : (katRev b vs).length = vs.length := kat_len b vs
  have step : ∀ t : Sem PySem.Fin, wpAny (model prog w) A t P E s → wpAny (model prog w) A (if b = true then (do let _ ← rule "list.sort.reverse"; t) else t) P E s := by
    intro t ht
    split
    · exact wpAny_bind (wpAny_rule ht)
    · exact ht
  unfold ksk_end
  dsimp only
  refine step _ ?_
  have er : ∀ κ, SortSt.mk' κ ((List.toArray (katRev b ks)).zip (List.toArray (katRev b vs))) #[] 7 none = SortSt.mk' κ ((List.toArray (List.range vs.length)).map (kas_item ((List.toArray (katRev b ks)).zip (List.toArray (katRev b vs))))) #[] 7 none := fun κ => by
    have e := kas_range ((List.toArray (katRev b ks)).zip (List.toArray (katRev b vs)))
    rw [show ((List.toArray (katRev b ks)).zip (List.toArray (katRev b vs))).size = vs.length by simp [lr, lv]] at e
    rw [e]
  rw [kat_pairs b hl]
  by_cases n2 : vs.toArray.size < 2
  · rw [if_pos n2, if_pos n2]
    have n2' : vs.length < 2 := by simpa using n2
    refine wpAny_bind (wpAny_pure ?_)
    rw [er, StateT.run_pure]
    refine wpAny_bind (wpAny_pure ?_)
    dsimp only
    exact zk_tail (kat_snds lr (p := List.toArray (List.range vs.length)) rfl) (by simpa using hz) (by omega) rfl (h.2 n2')
  rw [if_neg n2, if_neg n2]
  have n3 : 2 ≤ vs.length := by
    rw [List.size_toArray] at n2
    omega
  refine wpAny_bind (wpAny_mono (h.1 n3) (fun κ s0 hg => ?_) fun _ _ x => x.elim)
  obtain ⟨lt, O, ask, fin⟩ := hg
  have Z : Zc prog w A s0 κ ((List.toArray (katRev b ks)).zip (List.toArray (katRev b vs))) lt vs.length := fun i j C hi hj hC => by
    have := ask i j C hi hj hC
    rw [kat_ask_eq lr] at this
    exact this
  rw [er]
  refine wpAny_bind (wpAny_mono (z_sort (E := E) (Q := fun _ st' => ∃ p : Array Nat, POk vs.length p ∧ LS lt p vs.length ∧ p.size = vs.length ∧ arrOf st' = p.map (kas_item ((List.toArray (katRev b ks)).zip (List.toArray (katRev b vs)))) ∧ failedOf st' = none) Z O (by omega) fun p st' a1 a2 a3 a4 a5 => ⟨p, a1, a2, a3, a4, a5⟩) ?_ fun _ _ x => x)
  rintro ⟨⟨⟩, st'⟩ s' ⟨rfl, p, a1, a2, a3, a4, a5⟩
  dsimp only
  exact zk_tail (kat_snds lr a4) (by rw [List.length_map, Array.length_toList, a3]; exact hz) (by omega) a5 (fin p a1 a2)
theorem zk_fold {f : Value} {Fin : List Value → Nat → Shared → Prop} {n : Nat} {body : Value → PUnit → Sem (ForInStep PUnit)} (hn : n ≤ 4096)
    (hb : ∀ x ks e (s : Shared) (C : Value → Nat → Shared → Prop), List.length ks < 4096 → wpAny (model prog w) A (call f [x]) (KatBack h₀ L m kS ks e C) (fun _ _ => False) s →
      wpAny (model prog w) A (body x ⟨⟩) (fun r s' => r = .yield ⟨⟩ ∧ ∃ k c, s'.heap.get? kS = some (seqObj "list" (List.toArray (ks ++ [k])) c) ∧ C k c s') E s) : ∀ (r qs : List Value) (e : Nat) (s : Shared), qs.length + r.length = n →
      s.heap.get? kS = some (seqObj "list" (List.toArray qs) e) → KatKeys prog w A h₀ L m kS f Fin r qs e s →
      wpAny (model prog w) A (forIn r PUnit.unit body) (fun _ s' => ∃ qs e, s'.heap.get? kS = some (seqObj "list" (List.toArray qs) e) ∧ qs.length = n ∧ Fin qs e s') E s
  | [], qs, e, s, hl, hq, h => by
    rw [List.forIn_nil]; exact wpAny_pure ⟨qs, e, hq, by simpa using hl, h⟩
  | x :: r, qs, e, s, hl, hq, h => by
    rw [List.length_cons] at hl; rw [List.forIn_cons]
    refine wpAny_bind (wpAny_mono (hb x qs e s (fun k c s' => KatKeys prog w A h₀ L m kS f Fin r (qs ++ [k]) c s') (by omega) h) (fun z s' hz => ?_) fun _ _ x => x)
    obtain ⟨rfl, k, c, hk', h2⟩ := hz
    exact zk_fold hn hb r (qs ++ [k]) c s' (by rw [List.length_append, List.length_singleton]; omega) hk' h2
theorem zk_rest {b : Bool} {f : Value} {e1 : Nat} {P : PySem.Fin → Shared → Prop} (hq : s.heap.get? kS = some (seqObj "list" #[] 0)) (hz : vs.length ≤ 4096)
    (h : KatKeys prog w A h₀ L m kS f (fun ks e s' => ZEnd prog w A b ks vs (fun out => KatFin h₀ L m kS a ks e e1 out (fun s3 => P (.done (.ret .none)) s3)) s') vs [] 0 s) :
    wpAny (model prog w) A (ksk_rest a f b vs.toArray e1 (.ref kS)) P E s := by
  unfold ksk_rest
  refine wpAny_bind (wpAny_rule ?_)
  rw [← Array.forIn_toList]
  refine wpAny_bind (wpAny_mono (zk_fold hz (fun x qs e s' C hzz hx => ?_) vs [] 0 s (by simp) hq h) (fun _ s' hd => ?_) fun _ _ x => x)
  · refine wpAny_bind (wpAny_attempt (wpAny_mono hx (fun k s2 hkk => ?_) fun _ _ hF => hF.elim))
    obtain ⟨nw, g, Fq, Nq, Uq, cq⟩ := hkk
    obtain ⟨l1, l2, e0, hg, x1, x2⟩ := Uq.split; rw [e0] at Nq
    have ak := Nq (kS, seqObj "list" (List.toArray qs) e) (List.mem_append_right _ (.head _)); have s1 := Heap.SameBut.update s2.heap kS (Obj.mapSeq (·.push k))
    have ea : (List.toArray qs).push k = List.toArray (qs ++ [k]) := by simp
    obtain ⟨c2, hc2⟩ : ∃ z, (s2.heap.update kS (Obj.mapSeq (·.push k))).get? kS = some (seqObj "list" (List.toArray (qs ++ [k])) z) := ⟨_, by rw [← ea]; exact get?_update_seq ak.1 (·.push k)⟩
    dsimp only
    refine wpAny_bind (listUpdate_at ak.1 rfl (wpAny_pure ⟨rfl, k, c2, hc2, cq _ c2 (kas_fr Fq s1 ak.2.1 ak.2.2) (by rw [hg]; exact news_set Nq x1 x2 s1 hc2)⟩) (by rw [List.size_toArray]; exact size4k (by omega)) (Nat.le_trans (Nat.le_of_eq (Array.size_push ..)) (by rw [List.size_toArray]; exact Nat.le_succ_of_le (size4k (by omega)))))
  · obtain ⟨qs, e, hq', hl, fin⟩ := hd
    exact wpAny_bind (listItems_at hq' rfl (zk_end hl hz fin))
theorem zk_keyed {b : Bool} {f : Value} {n : Nat} {P : PySem.Fin → Shared → Prop} (F : Fr h₀ L s.heap m) (N : News h₀ L s.heap news) (ho : s.heap.get? a = some (seqObj "list" vs.toArray n)) (haL : a ≠ L) (ha0 : h₀.get? a = none) (hna : ∀ p ∈ news, p.1 ≠ a) (hz : vs.length ≤ 4096)
    (h : ∀ kS e1 h', Fr h₀ L h' m → News h₀ L h' ((kS, seqObj "list" #[] 0) :: (a, seqObj "list" #[] e1) :: news) → a < kS → (∀ q ∈ news, q.1 < kS) →
      KatKeys prog w A h₀ L m kS f (fun ks e s' => ZEnd prog w A b ks vs (fun out => KatFin h₀ L m kS a ks e e1 out (fun s3 => P (.done (.ret .none)) s3)) s') vs [] 0 { s with heap := h' }) :
    wpAny (model prog w) A (ksk_tree a f b) P E s := by
  have la : a < s.heap.objs.size := Heap.lt_size ho
  have s1 := Heap.SameBut.update s.heap a (Obj.mapSeq fun _ => (#[] : Array Value)); have F1 := kas_fr F s1 haL ha0; have N1 := kas_news N s1 hna
  obtain ⟨e1, ho1⟩ : ∃ z, (s.heap.update a (Obj.mapSeq fun _ => (#[] : Array Value))).get? a = some (seqObj "list" #[] z) := ⟨_, get?_update_seq ho fun _ => #[]⟩
  have zk : ((s.heap.update a (Obj.mapSeq fun _ => (#[] : Array Value))).push (seqObj "tuple" vs.toArray 0)).objs.size = s.heap.objs.size + 1 := by rw [size_push', Heap.size_update]
  have lk : L < ((s.heap.update a (Obj.mapSeq fun _ => (#[] : Array Value))).push (seqObj "tuple" vs.toArray 0)).objs.size := (F1.push _).ns.lt
  unfold ksk_tree
  refine wpAny_bind (listItems_at ho rfl (wpAny_bind (listUpdate_at ho rfl (wpAny_bind (seqEpoch_at ho1 rfl (wpAny_bind (wpAny_newTuple (wpAny_bind (wpAny_newList (wpAny_holding ?_) (Nat.zero_le _))) (size4k hz))))) (by rw [List.size_toArray]; exact size4k hz) (Nat.zero_le _))))
  refine zk_rest (s := { s with heap := ((s.heap.update a (Obj.mapSeq fun _ => (#[] : Array Value))).push (seqObj "tuple" vs.toArray 0)).push (seqObj "list" #[] 0) }) (kS := ((s.heap.update a (Obj.mapSeq fun _ => (#[] : Array Value))).push (seqObj "tuple" vs.toArray 0)).objs.size)
    (Heap.get?_push_size _ rfl) hz (h _ e1 _ ((F1.push _).push _) (fun p hp => ?_) (by rw [zk]; exact Nat.lt_succ_of_lt la) fun q hq => by rw [zk]; exact Nat.lt_succ_of_lt (Heap.lt_size (N q hq).1))
  rcases List.mem_cons.mp hp with rfl | hp
  · exact ⟨Heap.get?_push_size _ rfl, Nat.ne_of_gt lk, Heap.get?_none_of_le (Nat.le_trans F.above (Nat.le_of_lt lk))⟩
  · rcases List.mem_cons.mp hp with rfl | hp
    · exact ⟨Heap.get?_push_of_some _ (Heap.get?_push_of_some _ ho1), haL, ha0⟩
    · exact ⟨Heap.get?_push_of_some _ (Heap.get?_push_of_some _ (N1 p hp).1), (N1 p hp).2⟩
/-- sorted, what is sorted collected -/
theorem zk_body {b : Bool} {f : Value} {kw : List (Str × Value)} {Q : Value → Shared → Prop} (F : Fr h₀ L s.heap m) (N : News h₀ L s.heap news) (hz : vs.length ≤ 4096) (ha2 : ∀ x, argsOk "list.sort" ⟨[.ref x], kw⟩) (ht : ∀ x, Builtin.«list.sort» ⟨[.ref x], kw⟩ = ksk_tree x f b)
    (h : ∀ D kS e1 h', Fr h₀ L h' m → News h₀ L h' ((kS, seqObj "list" #[] 0) :: (D, seqObj "list" #[] e1) :: news) → D < kS → (∀ q ∈ news, q.1 < D) →
      KatKeys prog w A.in1 h₀ L m kS f (fun ks e s' => ZEnd prog w A.in1 b ks vs (fun out => KatFin h₀ L m kS D ks e e1 out (fun s4 => Q (.ref D) s4)) s') vs [] 0 { s with heap := h' }) :
    wpAny (model prog w) A (do let l ← newList vs; let _ ← holding [l] (call (.builtin "list.sort") [l] kw); ret l) (fun fin s' => ∃ v, fin = .done (.ret v) ∧ Q v s') E s := by
  have hL : L < s.heap.objs.size := F.ns.lt
  have hoL : (s.heap.push (seqObj "list" vs.toArray 0)).get? s.heap.objs.size = some (seqObj "list" vs.toArray 0) := Heap.get?_push_size _ rfl
  refine wpAny_bind (wpAny_newList ?_ (size4k hz))
  refine wpAny_bind (wpAny_holding (wpAny_call_entry_kw slot_list_sort ⟨_, hoL, rfl⟩ entry_list_sort ?body (ha2 _)))
  case body =>
    show wpAny (model prog w) A.in1 (Builtin.«list.sort» ⟨[.ref s.heap.objs.size], kw⟩) _ _ _
    rw [ht]
    refine zk_keyed (s := { s with heap := s.heap.push (seqObj "list" vs.toArray 0) }) (F.kept fun b o q => Heap.get?_push_of_some _ q) (N.grown fun b o q => Heap.get?_push_of_some _ q) hoL (Nat.ne_of_gt hL) (Heap.get?_none_of_le (Nat.le_trans F.above (Nat.le_of_lt hL))) (fun p hp => Nat.ne_of_lt (Heap.lt_size (N p hp).1)) hz fun kS e1 h' F' N' l0 l1 => ?_
    refine kat_keys_mono (h _ kS e1 h' F' N' l0 fun q hq => Heap.lt_size (N q hq).1) fun ks e s' _ hd => ⟨fun n2 => wpAny_mono (hd.1 n2) (fun κ s2 hk => ?_) fun _ _ x => x, fun n2 => (hd.2 n2).mono fun s4 hq => ⟨_, rfl, wpAny_pure ⟨_, rfl, hq⟩⟩⟩
    obtain ⟨lt, O, ask, fin⟩ := hk
    exact ⟨lt, O, ask, fun p a1 a2 => (fin p a1 a2).mono fun s4 hq => ⟨_, rfl, wpAny_pure ⟨_, rfl, hq⟩⟩⟩
end
end L2
namespace L2
open PySem PySem.Spec PyProof.Rows PySem.W
/-! ### sorted(xs, key=f, reverse=b) of any length: keys that are numbers, or numbers in a tuple -/
inductive ZKey where
  | i (n : Int) | t (ns : List Int)
def ZKey.nums : ZKey → List Int
  | .i n => [n]
  | .t ns => ns
def ZKey.at (H : Hp) : ZKey → V → Prop
  | .i n, v => v = .int n
  | .t ns, v => ∃ a, v = .ref a ∧ H a = some (.tup (ns.map V.int))
theorem ZKey.at.same {H H' : Hp} (sm : Same H H') : ∀ {k : ZKey} {v : V}, k.at H v → k.at H' v
  | .i _, _, h => h
  | .t _, _, ⟨a, e, h⟩ => ⟨a, e, sm _ _ h⟩
def AlikeZ (ks : List ZKey) : Prop := (∀ k ∈ ks, ∃ n, k = .i n) ∨ ∀ k ∈ ks, ∃ ns, k = .t ns ∧ ns ≠ []
section
variable {X : Cx} {pins : List (Addr × Obj)} {σ : St} {H : Hp} {s : Shared} {h' : Heap}
/-- what can be collected: a list, a range -/
def Srcs (X : Cx) (s : Shared) (l : Addr) (xs : List V) : Prop := ∀ Q : List Value → Shared → Prop, (∀ h' tk its, (∀ b o, s.heap.get? b = some o → h'.get? b = some o) → Vals xs its → Q its { s with heap := h', toks := tk }) → wpAny (model X.prog X.w) X.A.in1 (collect (.ref l)) Q X.xe s
theorem srcs_list {l : Addr} {xs : List V} (I : Inv X pins σ H s) (hH : H l = some (.lst xs)) (hz : xs.length ≤ 4096) : Srcs X s l xs := fun Q h => by
  obtain ⟨z, its, n, rv, hlen, e⟩ := I.lstM hH
  have li : its.length = xs.length := hlen.symm
  refine collect_list ⟨_, e, rfl, n, rfl⟩ (h _ s.toks its (fun b o g => ?_) rv) (size4k (by omega))
  rw [Heap.get?_update_ne _ _ _ _ (Nat.ne_of_lt (Heap.lt_size g))]
  exact Heap.get?_push_of_some _ g
structure SGZ (X : Cx) (pins : List (Addr × Obj)) (σ : St) (H1 : Hp) (m : Str → Option Value) (kS D : Addr) (e1 : Nat) (ks : List ZKey) (as : List V) (us : List Value) (e : Nat) (H : Hp) (s : Shared) : Prop where
  I : Inv X pins σ H s
  sm : Same H1 H
  fk : FpOk X pins H kS
  fd : FpOk X pins H D
  bk : X.base.get? kS = none
  bd : X.base.get? D = none
  hk : s.heap.get? kS = some (seqObj "list" (List.toArray us) e)
  hd : s.heap.get? D = some (seqObj "list" #[] e1)
  ns : s.heap.Ns X.env.locals m
  vals : Vals as us
  keys : ∀ (i : Nat) (a : V) (k : ZKey), as[i]? = some a → ks[i]? = some k → k.at H a
theorem SGZ.fr {H1 : Hp} {m : Str → Option Value} {kS D : Addr} {e1 : Nat} {ks : List ZKey} {as : List V} {us : List Value} {e : Nat} (S : SGZ X pins σ H1 m kS D e1 ks as us e H s) : Fr X.base X.env.locals s.heap m := ⟨S.ns, S.I.bk, Nat.le_trans S.I.ok.bsz S.I.ok.above⟩
theorem sort_keysZ {H1 : Hp} {m : Str → Option Value} {kS D : Addr} {e1 : Nat} {ks : List ZKey} {xs : List V} {its : List Value} {f : Addr} {sp : Sp} {Fin : List Value → Nat → Shared → Prop} (hne : kS ≠ D) (rv : Vals xs its) (hl : ks.length = xs.length)
    (F : RunsX X pins σ f sp)
    (spec : ∀ (i : Nat) (v : V) (key : ZKey) (H' : Hp), xs[i]? = some v → ks[i]? = some key → Same H1 H' → ∀ R : VK, (∀ kv H'', Same H' H'' → key.at H'' kv → R kv H'') → sp [v] H' R E0)
    (fin : ∀ (as : List V) (us : List Value) (e : Nat) (H : Hp) (s : Shared), SGZ X pins σ H1 m kS D e1 ks as us e H s → as.length = xs.length → Fin us e s) :
    ∀ (r : List Value) (as : List V) (us : List Value) (e : Nat) (H : Hp) (s : Shared), SGZ X pins σ H1 m kS D e1 ks as us e H s → its = its.take as.length ++ r → as.length + r.length = xs.length →
      KatKeys X.prog X.w X.A.in1.in1 X.base X.env.locals m kS (.ref f) Fin r us e s
  | [], as, us, e, H, s, S, _, hlen => KatKeys.nil (fin as us e H s S (by simpa using hlen))
  | u :: r, as, us, e, H, s, S, hits, hlen => by
    have hi : as.length < xs.length := by rw [List.length_cons] at hlen; omega
    have hx : xs[as.length]? = some xs[as.length] := List.getElem?_eq_getElem hi
    obtain ⟨u', gu, ru⟩ := rv.get hx
    have hlt : as.length < its.length := by rw [← rv.length]; exact hi
    have gu' : its[as.length]? = some u := by
      rw [hits, List.getElem?_append_right (by rw [List.length_take]; omega), List.length_take, Nat.min_eq_left (by omega), Nat.sub_self]
      rfl
    rw [gu'] at gu
    cases gu
    have hkey : ks[as.length]? = some (ks[as.length]'(by omega)) := List.getElem?_eq_getElem (by omega)
    generalize ks[as.length]'(by omega) = key at hkey
    refine KatKeys.cons (wpAny_call (codeAny_mono (F s H u xs[as.length] (fun v H'' => Same H H'' ∧ key.at H'' v) S.I ru (spec _ _ _ H hx hkey S.sm _ fun kv H'' s' q => ⟨s', q⟩)) fun res s' hq => ?_))
    cases res with
    | error e => exact hq
    | ok fl =>
      cases fl with
      | next => exact False.elim hq
      | brk => exact False.elim hq
      | cont => exact False.elim hq
      | ret uv =>
        obtain ⟨v, H'', os, bare, un, hok, rvv, sm, ea⟩ := hq
        obtain ⟨hh, g, d, t, os'⟩ := s'
        obtain rfl : os' = s.os := os
        have I2 : Inv X pins σ H'' { s with heap := hh, gens := g, drawn := d, toks := t } := S.I.call (h' := hh) (g' := g) (d' := d) (t' := t) (ch := []) un hok bare (fun b z => absurd z (by simp))
        have nstk : ∀ {b : Addr}, FpOk X pins H b → b ∉ frs X.stack := fun {b} fo z => (List.mem_cons.mp (S.I.stkSub b z)).elim fo.2.1 fo.2.2.1
        have hk2 : hh.get? kS = some (seqObj "list" (List.toArray us) e) := un.keep kS _ S.hk S.fk.1 (nstk S.fk) (by simp)
        have hd2 : hh.get? D = some (seqObj "list" #[] e1) := un.keep D _ S.hd S.fd.1 (nstk S.fd) (by simp)
        have ns2 : hh.Ns X.env.locals m := by
          obtain ⟨o, es, ep, ho, rr⟩ := id S.ns
          obtain ⟨sl, hL⟩ := un.any ho S.I.free (by simp)
          exact ⟨_, es, ep, hL, rr⟩
        have fk2 : FpOk X pins H'' kS := ⟨un.free kS _ S.hk S.fk.1 (by simp), S.fk.2⟩
        have fd2 : FpOk X pins H'' D := ⟨un.free D _ S.hd S.fd.1 (by simp), S.fd.2⟩
        have hkL : kS ≠ X.env.locals := S.fk.2.1
        refine KatBack.intro (news := (kS, seqObj "list" (List.toArray us) e) :: restBut X.base hh X.env.locals kS) ⟨ns2, I2.bk, Nat.le_trans S.I.ok.bsz S.I.ok.above⟩ (restBut_news hk2 hkL S.bk) (.head restBut_ne) fun h3 c F3 N3 => ?_
        have mv := restBut_keep (fun b o q => I2.bk b o q) F3 N3
        have I3 : Inv X pins σ H'' { s with heap := h3, gens := g, drawn := d, toks := t } := Inv.movedF (ch := [kS]) (t' := t) I2 (fun b hb => by rw [List.mem_singleton.mp hb]; exact fk2) mv ⟨m, ns2, F3.ns⟩
        refine sort_keysZ hne rv hl F spec fin r (as ++ [v]) (us ++ [uv]) c H'' _ ⟨I3, S.sm.trans sm, fk2, fd2, S.bk, S.bd, (N3 _ (.head _)).1, mv D _ S.fd.2.1 (fun z => hne (List.mem_singleton.mp z).symm) hd2, F3.ns, S.vals.append (.cons rvv .nil), fun i b key' h1 h2 => ?_⟩ ?_ ?_
        · by_cases hi2 : i < as.length
          · rw [List.getElem?_append_left hi2] at h1
            exact (S.keys i b key' h1 h2).same sm
          · have hi3 := (List.getElem?_eq_some_iff.mp h1).1
            rw [List.length_append, List.length_singleton] at hi3
            have e3 : i = as.length := by omega
            subst e3
            rw [List.getElem?_append_right (Nat.le_refl _), Nat.sub_self] at h1
            cases h1
            rw [hkey] at h2
            cases h2
            exact ea
        · rw [List.length_append, List.length_singleton, List.take_add_one, gu', Option.toList_some, List.append_assoc]
          exact hits
        · rw [List.length_append, List.length_singleton, ← hlen, List.length_cons]
          omega
theorem sorted_keyZ {b : Bool} {kw : List (Str × Value)} {ks : List ZKey} {xs : List V} {f l : Addr} {sp : Sp} {Q : VK} (I : Inv X pins σ H s) (src : Srcs X s l xs) (hz : xs.length ≤ 4096) (hl : ks.length = xs.length) (hne : AlikeZ ks) (hs1 : argsOk "sorted" ⟨[.ref l], kw⟩) (hs2 : ∀ x, argsOk "list.sort" ⟨[.ref x], kw⟩) (hs3 : ∀ x, Builtin.«list.sort» ⟨[.ref x], kw⟩ = ksk_tree x (.ref f) b)
    (F : ∀ l, RunsX (wX X l) pins σ f sp)
    (spec : ∀ (i : Nat) (v : V) (key : ZKey) (H' : Hp), xs[i]? = some v → ks[i]? = some key → Same H H' → ∀ R : VK, (∀ kv H'', Same H' H'' → key.at H'' kv → R kv H'') → sp [v] H' R E0)
    (q : ∀ (p : Array Nat) (H2 : Hp) (D : Addr), POk xs.length p → LS (fun i j => HT.lexLt ((katRev b (ks.map ZKey.nums)).getD i []) ((katRev b (ks.map ZKey.nums)).getD j [])) p xs.length → Same H H2 → H2 D = none → Q (.ref D) (upd H2 D (.lst (katRev b (p.toList.map fun i => (katRev b xs).getD i .non))))) :
    wpAny (model X.prog X.w) X.A (call (.builtin "sorted") [.ref l] kw) (EP X pins σ Q) X.xe s := by
  refine call_function_entry_kw kind_sorted plain_sorted entry_sorted hs1 ?_
  unfold Builtin.«sorted»
  refine wpAny_bind (m := checkCount "sorted" 1 1 _) (wpAny_pure (wpAny_bind (src _ fun h0 tk its kp rv => ?_)))
  have I0 : Inv X pins σ H { s with heap := h0, toks := tk } := I.kept (t' := tk) kp
  obtain ⟨m, F0⟩ := I0.fr
  have li : its.length = xs.length := rv.length.symm
  refine zk_body (vs := its) (b := b) F0 (restOf_news X.base h0 X.env.locals) (by omega) hs2 hs3 fun D kS e1 h1 F1 N1 hDk hD => ?_
  have nD := N1 (D, seqObj "list" #[] e1) (.tail _ (.head _))
  have nK := N1 (kS, seqObj "list" #[] 0) (.head _)
  have hds : h0.get? D = none := by
    cases g : h0.get? D with
    | none => rfl
    | some o => exact absurd (hD (D, o) (restOf_mem g nD.2.1 nD.2.2)) (Nat.lt_irrefl _)
  have hks : h0.get? kS = none := by
    cases g : h0.get? kS with
    | none => rfl
    | some o => exact absurd (Nat.lt_trans hDk (hD (kS, o) (restOf_mem g nK.2.1 nK.2.2))) (Nat.lt_irrefl _)
  have xk := I0.exOk hks nK.2.1 nK.2.2
  have xd := I0.exOk hds nD.2.1 nD.2.2
  have hlx : ∀ b ∈ [kS, D], ExOk X b := fun b' hb => by
    simp only [List.mem_cons, List.not_mem_nil, or_false] at hb
    rcases hb with rfl | rfl
    · exact xk
    · exact xd
  have fpk := I0.fpW (l := [kS, D]) (by simp) xk hks
  have fpd := I0.fpW (l := [kS, D]) (by simp) xd hds
  have mv0 : ∀ b u, b ≠ X.env.locals → b ∉ ([] : List Addr) → h0.get? b = some u → h1.get? b = some u := fun b u hL _ g => by
    cases qb : X.base.get? b with
    | none => exact (N1 (b, u) (.tail _ (.tail _ (restOf_mem g hL qb)))).1
    | some o =>
      have e' := I0.bk b o qb
      rw [g] at e'
      cases e'
      exact F1.keep b u qb
  have I1 : Inv X pins σ H { s with heap := h1, toks := tk } := Inv.movedF (ch := []) (s := { s with heap := h0, toks := tk }) (t' := tk) I0 (fun b hb => absurd hb (by simp)) mv0 ⟨m, F0.ns, F1.ns⟩
  have I2 := I1.widen hlx
  have hkd : kS ≠ D := Nat.ne_of_gt hDk
  refine sort_keysZ (X := wX X [kS, D]) (H1 := H) (D := D) (e1 := e1) (ks := ks) (xs := xs) (its := its) hkd rv hl (F _) spec (fun as us e2 H' s' S la => ?_) its [] [] 0 H { s with heap := h1, toks := tk } ⟨I2, Same.refl H, fpk, fpd, nK.2.2, nD.2.2, nK.1, nD.1, F1.ns, .nil, fun i a k h => by simp at h⟩ (by simp) (by simpa using li)
  have hN : its.length = xs.length := li
  have lu : us.length = xs.length := by rw [← S.vals.length, la]
  have rvR : Vals (katRev b xs) (katRev b its) := vals_rev b rv
  have lR : (katRev b xs).length = xs.length := kat_len b xs
  have gk : ∀ i, i < xs.length → ∃ (v : V) (u : Value) (k : ZKey), RelV v u ∧ (katRev b us).getD i Value.none = u ∧ k ∈ ks ∧ (katRev b (ks.map ZKey.nums)).getD i [] = k.nums ∧ k.at H' v := fun i hi => by
    obtain ⟨j, hj, e1⟩ : ∃ j, j < xs.length ∧ ∀ {α : Type} (l : List α), l.length = xs.length → (katRev b l)[i]? = l[j]? := by
      cases b with
      | false => exact ⟨i, hi, fun l _ => rfl⟩
      | true => exact ⟨xs.length - 1 - i, by omega, fun l hl' => by
          show l.reverse[i]? = _
          rw [List.getElem?_reverse (by omega), hl']⟩
    have h1 : as[j]? = some (as[j]'(by omega)) := List.getElem?_eq_getElem (by omega)
    have h2 : ks[j]? = some (ks[j]'(by omega)) := List.getElem?_eq_getElem (by omega)
    obtain ⟨u, gu, ru⟩ := S.vals.get h1
    refine ⟨_, u, _, ru, ?_, List.getElem_mem (show j < ks.length by omega), ?_, S.keys j _ _ h1 h2⟩
    · rw [List.getD_eq_getElem?_getD, e1 us lu, gu]
      rfl
    · rw [List.getD_eq_getElem?_getD, e1 (ks.map ZKey.nums) (by rw [List.length_map, hl]), List.getElem?_map, h2]
      rfl
  have fin : ∀ p : Array Nat, POk xs.length p → p.size = xs.length ∧ LS (fun i j => HT.lexLt ((katRev b (ks.map ZKey.nums)).getD i []) ((katRev b (ks.map ZKey.nums)).getD j [])) p xs.length →
      KatFin X.base X.env.locals m kS D us e2 e1 (katRev b (p.toList.map fun i => (katRev b its).getD i Value.none)) (fun s4 => EP X pins σ Q (.ref D) s4) s' := fun p hp hs => by
    refine KatFin.intro (news := (kS, seqObj "list" (List.toArray us) e2) :: restBut X.base s'.heap X.env.locals kS) S.fr (restBut_news S.hk S.fk.2.1 S.bk) (.head restBut_ne) fun h3 c F3 N3 => ?_
    have mv3 := restBut_keep (fun b' o qb => S.I.bk b' o qb) F3 N3
    have hd3 : h3.get? D = some (seqObj "list" #[] e1) := mv3 D _ S.fd.2.1 (fun zz => hkd (List.mem_singleton.mp zz).symm) S.hd
    refine KasFin.intro (news := (D, seqObj "list" #[] e1) :: restBut X.base h3 X.env.locals D) (s := { s' with heap := h3 }) F3 (restBut_news hd3 S.fd.2.1 S.bd) (.head restBut_ne) fun h4 c4 F4 N4 => ?_
    have mv4 := restBut_keep (fun b' o qb => F3.keep b' o qb) F4 N4
    have hch : ∀ b ∈ [kS, D], FpOk (wX X [kS, D]) pins H' b := fun b' hb => by
      simp only [List.mem_cons, List.not_mem_nil, or_false] at hb
      rcases hb with rfl | rfl
      · exact S.fk
      · exact S.fd
    have mv : ∀ b u, b ≠ X.env.locals → b ∉ [kS, D] → s'.heap.get? b = some u → h4.get? b = some u := fun b' u hL hx g => mv4 b' u hL (fun zz => hx (by rw [List.mem_singleton.mp zz]; simp)) (mv3 b' u hL (fun zz => hx (by rw [List.mem_singleton.mp zz]; simp)) g)
    have pl : ∀ i ∈ p.toList, i < xs.length := fun i hi => by
      have := (hp.mem_iff).mp (Array.mem_toList_iff.mp hi)
      simpa using this
    have vals : ∀ (w : List Nat), (∀ i ∈ w, i < xs.length) → Vals (w.map fun i => (katRev b xs).getD i .non) (w.map fun i => (katRev b its).getD i Value.none) := fun w => by
      induction w with
      | nil => intro _; exact .nil
      | cons i w ih =>
        intro hw
        have hi := hw i List.mem_cons_self
        have hx : (katRev b xs)[i]? = some ((katRev b xs)[i]'(by omega)) := List.getElem?_eq_getElem (by omega)
        obtain ⟨u, gu, ru⟩ := rvR.get hx
        refine .cons ?_ (ih fun j hj => hw j (List.mem_cons_of_mem _ hj))
        show RelV ((katRev b xs).getD i V.non) ((katRev b its).getD i Value.none)
        rw [List.getD_eq_getElem?_getD, List.getD_eq_getElem?_getD, hx, gu]
        exact ru
    have lp : p.toList.length = xs.length := by
      have := hs.1
      simpa using this
    have new : ObjOk X.prog X.w (upd H' D (.lst (katRev b (p.toList.map fun i => (katRev b xs).getD i .non)))) h4 D (.lst (katRev b (p.toList.map fun i => (katRev b xs).getD i .non))) := ⟨by rw [kat_len, List.length_map, lp]; exact size4k (by omega), _, c4, vals_rev b (vals _ pl), (N4 _ (.head _)).1⟩
    have I4 := Inv.tookF (X := wX X [kS, D]) (ch := [kS, D]) (a := D) (o := .lst (katRev b (p.toList.map fun i => (katRev b xs).getD i .non))) (t' := s'.toks) S.I (by simp) hch mv ⟨m, S.ns, F4.ns⟩ new
    exact ⟨.ref D, _, I4.narrow I.ok (fun b' hb => (hlx b' hb).old), rfl, q p H' D hp hs.2 S.sm S.fd.1⟩
  have go : ∀ κ : SortKind, (∀ (i j : Nat) (C : Bool → Shared → Prop), i < xs.length → j < xs.length → C (HT.lexLt ((katRev b (ks.map ZKey.nums)).getD i []) ((katRev b (ks.map ZKey.nums)).getD j [])) s' → kas_ask X.prog X.w X.A.in1.in1 κ (katRev b us) i j C s') →
      ZGo X.prog X.w X.A.in1.in1 b us its (fun out => KatFin X.base X.env.locals m kS D us e2 e1 out (fun s4 => EP X pins σ Q (.ref D) s4)) κ s' := fun κ hask => by
    refine ⟨_, lex_ok (katRev b (ks.map ZKey.nums)), ?_, ?_⟩
    · rw [hN]
      exact hask
    · rw [hN]
      exact fun p hp hs => fin p hp ⟨by have := hp.size_eq; simpa using this, hs⟩
  refine ⟨fun n2 => ?_, fun n2 => ?_⟩
  rotate_left
  · have := fin (List.toArray (List.range its.length)) (by rw [hN]; exact Array.Perm.refl _) ⟨by simpa using hN, fun i j h1 h2 => by omega⟩
    rw [List.toList_toArray] at this
    exact this
  rcases hne with hI | hB
  · refine kas_kind (T := .type "int") (by omega) (fun u hu => ?_) rfl rfl (go _ fun i j C hi hj hC => ?_)
    · obtain ⟨j, hj, rfl⟩ := List.getElem_of_mem hu
      have h1 : as[j]? = some (as[j]'(by omega)) := List.getElem?_eq_getElem (by omega)
      have h2 : ks[j]? = some (ks[j]'(by omega)) := List.getElem?_eq_getElem (by omega)
      obtain ⟨u, gu, ru⟩ := S.vals.get h1
      have ky := S.keys j _ _ h1 h2
      obtain ⟨n', en⟩ := hI _ (List.getElem_mem (show j < ks.length by omega))
      rw [en] at ky
      rw [show as[j]'(by omega) = V.int n' from ky] at ru
      obtain ⟨t, rfl⟩ := ru
      rw [List.getElem?_eq_getElem hj] at gu
      rw [Option.some.inj gu]
      exact .now
    · obtain ⟨v, u, k1, ru, eu, m1, en, at1⟩ := gk i hi
      obtain ⟨v2, u2, k2, ru2, eu2, m2, en2, at2⟩ := gk j hj
      obtain ⟨n1, rfl⟩ := hI _ m1
      obtain ⟨n2, rfl⟩ := hI _ m2
      rw [show v = V.int n1 from at1] at ru
      rw [show v2 = V.int n2 from at2] at ru2
      obtain ⟨t, rfl⟩ := ru
      obtain ⟨t2, rfl⟩ := ru2
      unfold kas_ask
      rw [eu, eu2]
      rw [en, en2] at hC
      refine kat_lt_int ?_
      have e1' : HT.lexLt (ZKey.i n1).nums (ZKey.i n2).nums = decide (n1 < n2) := lex_one n1 n2
      rw [e1'] at hC
      exact hC
  · have tups : ∀ (vs : List V) (ws : List Value) (n : Nat), Vals vs ws → n + vs.length = ks.length → (∀ (i : Nat) (v : V) (k : ZKey), vs[i]? = some v → ks[n + i]? = some k → k.at H' v) → ∃ fs : List Value, KatTups s'.heap ws fs ∧ fs.length = ws.length ∧ ∀ v ∈ fs, ∃ i t, v = .int i t := fun vs => by
      induction vs with
      | nil =>
        intro ws n hv _ _
        cases hv
        exact ⟨[], KatTups.nil, rfl, fun v h => nomatch h⟩
      | cons v vs ih =>
        intro ws n hv hl' h
        cases hv with
        | cons rv1 hv =>
          rw [List.length_cons] at hl'
          have hkn : ks[n]? = some (ks[n]'(by omega)) := List.getElem?_eq_getElem (by omega)
          obtain ⟨ns, en, ne⟩ := hB _ (List.getElem_mem (show n < ks.length by omega))
          rw [en] at hkn
          obtain ⟨a, rfl, ea⟩ := h 0 v _ rfl (by rw [Nat.add_zero]; exact hkn)
          cases rv1
          obtain ⟨ia, ra, pa, za⟩ := S.I.tuple (SqT.of (K := X.K) ea)
          obtain ⟨oa, eo, ca, n1, da⟩ := id pa
          obtain ⟨x, t, ia', rfl⟩ : ∃ x t r, ia = .int x t :: r := by
            cases intsAre_of ra with
            | nil => exact absurd rfl ne
            | cons x t r => exact ⟨x, t, _, rfl⟩
          obtain ⟨fs, f1, f2, f3⟩ := ih _ (n + 1) hv (by omega) (fun i w k' h1 h2 => h (i + 1) w k' h1 (by rw [show n + (i + 1) = n + 1 + i by omega]; exact h2))
          refine ⟨.int x t :: fs, KatTups.cons eo ca da rfl f1, by rw [List.length_cons, List.length_cons, f2], fun v hv => ?_⟩
          rcases List.mem_cons.mp hv with rfl | hv
          · exact ⟨_, _, rfl⟩
          · exact f3 v hv
    obtain ⟨fs, t1, t2, t3⟩ := tups as us 0 S.vals (by omega) (fun i v k h1 h2 => S.keys i v k h1 (by rw [Nat.zero_add] at h2; exact h2))
    refine kat_kind (T := .type "int") t1 (by omega) (fun v hv => ?_) rfl (go _ fun i j C hi hj hC => ?_)
    · obtain ⟨i, t, rfl⟩ := t3 v hv
      exact .now
    · obtain ⟨v, u, k1, ru, eu, m1, en, at1⟩ := gk i hi
      obtain ⟨v2, u2, k2, ru2, eu2, m2, en2, at2⟩ := gk j hj
      obtain ⟨n1, rfl, _⟩ := hB _ m1
      obtain ⟨n2, rfl, _⟩ := hB _ m2
      obtain ⟨a1, rfl, ha1⟩ := at1
      obtain ⟨a2, rfl, ha2⟩ := at2
      cases ru
      cases ru2
      obtain ⟨ia, ra, pa, za⟩ := S.I.tuple (SqT.of (K := X.K) ha1)
      obtain ⟨ib, rb, pb, zb⟩ := S.I.tuple (SqT.of (K := X.K) ha2)
      obtain ⟨oa, eoa, ca, q1, da⟩ := id pa
      obtain ⟨ob, eob, cb, q2, db⟩ := id pb
      unfold kas_ask
      rw [eu, eu2]
      rw [en, en2] at hC
      exact kat_lt eoa da eob db (katlex_ints _ _ _ _ 0 (intsAre_of ra) (intsAre_of rb) (by rw [List.size_toArray, List.size_toArray, ← ra.length, ← rb.length, List.length_map, List.length_map]) hC)
end
end L2
namespace L2
open PySem PySem.Spec PyProof.Rows PySem.W
/-! ### sorted(e, key=..) of any length: e a list or a range, the key a def, a lambda, a lambda that reads a name around it -/
def rngO (j : Int) (t u v : Tok) : Obj := { cls := .type "range", data := .fields #[.int 0 t, .int j u, .int 1 v] }
def SrcH (H : Hp) (l : Addr) (xs : List V) : Prop := H l = some (.lst xs) ∨ ∃ (n : Nat) (t u v : Tok), n ≤ 4096 ∧ H l = some (isTh l (rngO (n : Int) t u v)) ∧ xs = (List.range n).map fun i : Nat => V.int (i : Int)
section
variable {X : Cx} {pins : List (Addr × Obj)} {σ : St} {H : Hp} {s : Shared}
theorem srcs_of {l : Addr} {xs : List V} (hc : X.calm = true) (I : Inv X pins σ H s) (h : SrcH H l xs) (hz : xs.length ≤ 4096) : Srcs X s l xs := by
  rcases h with h | ⟨n, t, u, v, hn, h, rfl⟩
  · exact srcs_list I h hz
  · intro Q hq
    have hr : IsRange s.heap l 0 (n : Int) 1 t u v := (I.hok l _ h).1
    have hh : X.A.in1.handled = none := I.ok.hd hc
    have h1 : Builtin.Range.rangeSize 0 (n : Int) 1 = ((n : Nat) : Int) := by rw [rangeSize_one]; split <;> omega
    refine collect_rangeZ hh hr (small_one (by omega) (by omega) (by omega) (by omega)) h1 (by omega) fun h' tk acc kp hI => hq h' tk acc.toList kp ?_
    have go : ∀ (its : List Value) (k : Nat), (∀ (i : Nat) (v : Value), its[i]? = some v → ∃ t, v = .int ((k + i : Nat) : Int) t) → Vals ((List.range' k its.length).map fun i : Nat => V.int (i : Int)) its := by
      intro its
      induction its with
      | nil => intro k _; exact .nil
      | cons x its ih =>
        intro k hx
        obtain ⟨t, rfl⟩ := hx 0 x rfl
        rw [List.length_cons, List.range'_succ, List.map_cons]
        refine .cons ⟨t, ?_⟩ (ih (k + 1) fun i v hv => ?_)
        · rfl
        · obtain ⟨t, e⟩ := hx (i + 1) v hv
          exact ⟨t, by rw [e]; congr 2; omega⟩
    have e := go acc.toList 0 fun i v hv => by
      obtain ⟨t, e⟩ := hI.2 i v (by rw [← hv, Array.getElem?_toList])
      refine ⟨t, by rw [e]; congr 1; omega⟩
    rw [Array.length_toList, hI.1] at e
    rw [List.range_eq_range']
    exact e
/-- range(n), not walked yet -/
def tRng (ta : TA) : TE := fun σ H Q => ta σ H fun vs H1 => ∃ n : Nat, vs = [.int (n : Int)] ∧ n ≤ 4096 ∧ ∀ r t u v, H1 r = none → Q (.ref r) (upd H1 r (isTh r (rngO (n : Int) t u v)))
theorem q_rng {a : Expr} {ta : TA} {p pos : Pos} (hm : X.mg "range" = none) (ha : QA X [a] ta) (hg : Gl X "range" := by rfl) (hn : noStar a = true := by rfl) : QE X (.Call (.Name "range" p) [a] [] pos) (tRng ta) := by
  refine ⟨?_⟩
  intro pins s σ H Q I h
  have hs : starEach [a] X.env = [(false, eval a X.env)] := by rw [star_cons hn]; rfl
  refine Call_ (ld_blt I hg hm boot_range (PyProof.Rows.callWith_type1 (thn (ha.h pos pins s σ H _ I h) fun us s1 ⟨vs, H1, I1, r1, q1⟩ => ?_) hs rfl))
  obtain ⟨n, rfl, hz, q⟩ := q1
  obtain ⟨u, rfl, ru⟩ := vals1 r1
  obtain ⟨t, rfl⟩ := ru
  refine call_range_1 ?_
  exact ⟨.ref _, _, I1.laid (fun b o e => Heap.get?_push_of_some _ e) (Nat.le_refl _) (isTh_ok (Heap.get?_push_size _ rfl)), rfl, q _ _ _ _ (I1.hok.fresh (Nat.le_refl _))⟩
end
/-- what a sort by keys wants, and what it gives -/
def tSortZ (sp : Hp → List V → Hp → VK → Prop) (sm : Hp → Hp → Prop) (end' : Hp → Prop) (H : Hp) (xs : List V) (ks : List ZKey) (Q : VK) : Prop :=
  xs.length ≤ 4096 ∧ ks.length = xs.length ∧ AlikeZ ks ∧
  (∀ (i : Nat) (v : V) (key : ZKey) (H' : Hp), xs[i]? = some v → ks[i]? = some key → sm H H' → ∀ R : VK, (∀ kv H'', Same H' H'' → key.at H'' kv → R kv H'') → sp H' [v] H' R) ∧
  ∀ (p : Array Nat) (H2 : Hp) (D : Addr), POk xs.length p → LS (fun i j => HT.lexLt ((ks.map ZKey.nums).getD i []) ((ks.map ZKey.nums).getD j [])) p xs.length → sm H H2 → end' H2 → H2 D = none → Q (.ref D) (upd H2 D (.lst (p.toList.map fun i => xs.getD i .non)))
def tSortZA (sp : Sp) (ta : TA) : TE := fun σ H0 Q => ta σ H0 fun vs H => ∃ (l : Addr) (xs : List V) (ks : List ZKey), vs = [.ref l] ∧ SrcH H l xs ∧ tSortZ (fun _ vs H Q => sp vs H Q E0) Same (fun _ => True) H xs ks Q
def tSortZL (P : Addr) (q : Str) (lpos : Pos) (sp : Sp) (ta : TA) : TE := fun σ H0 Q => ta σ H0 fun vs H => ∃ (l : Addr) (xs : List V) (ks : List ZKey), vs = [.ref l] ∧ SrcH H l xs ∧ LamTab q P lpos H ∧ tSortZ (fun _ vs H Q => sp vs H Q E0) (SameT P) (LamTab q P lpos) H xs ks Q
def tSortZC (P : Addr) (q : Str) (lpos : Pos) (j : Nat) (sp : V → Sp) (ta : TA) : TE := fun σ H0 Q => ta σ H0 fun vs H => ∃ (l : Addr) (xs : List V) (ks : List ZKey) (kv : V), vs = [.ref l] ∧ σ[j]? = some (some kv) ∧ SrcH H l xs ∧ LamTab q P lpos H ∧ tSortZ (fun _ vs H Q => sp kv vs H Q E0) (SameT P) (LamTab q P lpos) H xs ks Q
theorem SrcH.moved {P : Addr} {q : Str} {lpos : Pos} {H H2 : Hp} {l : Addr} {xs : List V} (h : SrcH H l xs) (tab : LamTab q P lpos H) (s : SameT P H H2) : SrcH H2 l xs := by
  obtain ⟨ps, tP, _⟩ := tab
  rcases h with h | ⟨n, t, u, v, hn, h, e⟩
  · exact .inl (s _ _ h fun z => by rw [z, tP] at h; cases h)
  · have hne : l ≠ P := fun z => by
      rw [z, tP] at h
      cases h
    exact .inr ⟨n, t, u, v, hn, s _ _ h hne, e⟩
section
variable {X : Cx} {c P : Addr} {pins : List (Addr × Obj)} {σ : St}
theorem q_sortZA {k : Nat} {fx x : Str} {sp : Sp} {e : Expr} {ta : TA} {p fp kpos pos : Pos} (hc : X.calm = true) (hm : X.mg "sorted" = none) (F : Fn X.prog X.w X.K X.mg X.base k fx [x] sp) (hr : Room (k + 2) X.A) (ha : QA X [e] ta) (hg : Gl X "sorted" := by rfl) (hgf : Gl X fx := by rfl) (hn : noStar e = true := by rfl)
    (hdb : (fx == ("__debug__" : Str)) = false := by decide) : QE X (.Call (.Name "sorted" p) [e] [⟨some "key", .Name fx fp, kpos⟩] pos) (tSortZA sp ta) := by
  refine ⟨?_⟩
  intro pins s σ H0 Q I h
  obtain ⟨f, fd, F1, m1, kp, bn⟩ := F.ex
  refine wpAny_Call_Name_kw (ld_blt I hg hm PyProof.Rows.boot_sorted ?_)
  have h1 := star_cons (es := []) (env := X.env) hn
  refine PyProof.Rows.callWith_kw (thn (ha.h pos pins s σ H0 _ I h) fun us s1 ⟨vs, H1, I1, r1, q1⟩ => ?_) (he := by rw [h1]; rfl) (hplain := by rw [h1]; rfl) (hall := rfl) (hkw := rfl)
  obtain ⟨l, xs, ks, rfl, hH, hz, hl, hne, spec, q⟩ := q1
  obtain ⟨u, rfl, ru⟩ := vals1 r1
  cases ru
  have hk : PK X [⟨some "key", .Name fx fp, kpos⟩] (tCons (tC (.ref f)) tNil) := pk_cons (pe_glob hgf m1 rfl hdb) pk_nil
  refine thn (hk pos pins s1 σ H1 (fun zs H2 => zs = [.ref f] ∧ H2 = H1) I1 ⟨rfl, rfl⟩) fun ws s2 ⟨zs, H2, I2, rz, e1, h2e⟩ => ?_
  subst e1 h2e
  obtain ⟨u, rfl, ru⟩ := vals1 rz
  cases ru
  exact sorted_keyZ (b := false) I2 (srcs_of hc I2 hH hz) hz hl hne (ksk_s1 _ _) (fun x => ksk_l1 _ _) (fun x => ksk_t1 f x) (runs_fn F1 (fun s u kin => bn s [u] kin rfl) (hr.mono (by omega) |>.in1 |>.in1)) spec fun p H3 D a1 a2 a3 a4 => q p H3 D a1 a2 a3 trivial a4
theorem q_sortZL {k : Nat} {x : Str} {sp : Sp} {e body : Expr} {params : Arguments} {scope : Scope} {ta : TA} {p lpos kpos pos : Pos} (hc : X.calm = true) (hm : X.mg "sorted" = none) (hcode : X.env.code = .ref c) (C : CodeHd X.base c P) (B : Blt X.base X.mg) (F : LamOk X.prog X.w X.K X.mg X.base k (X.env.qual ++ "<lambda>") body scope x sp) (hr : Room (k + 3) X.A) (ha : QA X [e] ta)
    (hbd : ∀ (pm ct : Value) (c' : Addr) (s : Shared) (u : Value), BindsTo s (lamFd (X.env.qual ++ "<lambda>") params body scope [] pm c' ct) ⟨[u], []⟩ [(x, u)] := by intros; exact .of_eq rfl)
    (hge : X.env.globals = mainGlobals := by rfl) (hdef : defaultsOf params X.env = ([], []) := by rfl) (hcl : closureFor scope X.env = pure [] := by rfl) (hg : Gl X "sorted" := by rfl) (hn : noStar e = true := by rfl) :
    QE X (.Call (.Name "sorted" p) [e] [⟨some "key", .Lambda params body scope lpos, kpos⟩] pos) (tSortZL P (X.env.qual ++ "<lambda>") lpos sp ta) := by
  refine ⟨?_⟩
  intro pins s σ H0 Q I h
  obtain ⟨N, S, len, hbody⟩ := F.ex
  refine wpAny_Call_Name_kw (ld_blt I hg hm PyProof.Rows.boot_sorted ?_)
  have h1 := star_cons (es := []) (env := X.env) hn
  refine PyProof.Rows.callWith_kw (thn (ha.h pos pins s σ H0 _ I h) fun us s1 ⟨vs, H1, I1, r1, q1⟩ => ?_) (he := by rw [h1]; rfl) (hplain := by rw [h1]; rfl) (hall := rfl) (hkw := rfl)
  obtain ⟨l, xs, ks, rfl, hH, tab, hz, hl, hne, spec, q⟩ := q1
  obtain ⟨u, rfl, ru⟩ := vals1 r1
  cases ru
  have hk : PK X [⟨some "key", .Lambda params body scope lpos, kpos⟩] (tCons (tLamC [] X P params body scope lpos) tNil) := pk_cons (pe_lamC hcode hge C B hdef hcl) pk_nil
  refine thn (hk pos pins s1 σ H1 (fun zs H2 => ∃ f, zs = [.ref f] ∧ LamMade X P (X.env.qual ++ "<lambda>") lpos params body scope [] H1 f H2) I1 (lam_made tab fun f H2 mk => ⟨f, rfl, mk⟩)) fun ws s2 ⟨zs, H2, I2, rz, f, e1, mk⟩ => ?_
  subst e1
  obtain ⟨u, rfl, ru⟩ := vals1 rz
  cases ru
  obtain ⟨c', ct, sT, lt, hf, hc', nf, nc⟩ := mk
  have F1 : FnOk X.prog X.w X.K X.mg X.base CX0 (k + 1) f (lamFd (X.env.qual ++ "<lambda>") params body scope [] ((X.mg "__name__").getD .none) c' ct) [x] _ := lam_of (params := params) (pm := (X.mg "__name__").getD .none) (ct := ct) (c' := c') S len fun A outer s H vs Q E hr' hs => let ⟨t, t1, t2⟩ := hbody f c' A outer s H vs Q E hr' hs; ⟨t, t1.h, t2⟩
  refine sorted_keyZ (b := false) I2 (srcs_of hc I2 (hH.moved tab sT) hz) hz hl hne (ksk_s1 _ _) (fun x => ksk_l1 _ _) (fun x => ksk_t1 f x) (runs_fn F1 (fun s u _ => hbd _ _ _ s u) (hr.mono (by omega) |>.in1 |>.in1)) (fun i v key H' g1 g2 g3 R hR => ⟨g3 _ _ hf, g3 _ _ hc', spec i v key H' g1 g2 (sT.trans (.of g3)) R hR⟩) fun p H3 D a1 a2 a3 a4 => q p H3 D a1 a2 (sT.trans (.of a3)) ?_ a4
  obtain ⟨ps', e1, e2, e3⟩ := lt
  exact ⟨ps', a3 _ _ e1, e2, e3.imp id fun ⟨c'', z1, z2⟩ => ⟨c'', z1, a3 _ _ z2⟩⟩
theorem q_sortZC {k j : Nat} {x y : Str} {cy : Addr} {sp : V → Sp} {e body : Expr} {params : Arguments} {scope : Scope} {ta : TA} {p lpos kpos pos : Pos} (hc : X.calm = true) (hm : X.mg "sorted" = none) (hcode : X.env.code = .ref c) (C : CodeHd X.base c P) (B : Blt X.base X.mg) (F : LamOkX X.prog X.w X.K X.mg X.base k (X.env.qual ++ "<lambda>") body scope x y sp) (hr : Room (k + 3) X.A) (ha : QA X [e] ta)
    (hj : X.N[j]? = some y) (hyc : X.env.scope.names.lookup y = some .cell) (hcy : X.env.cells.lookup y = some cy) (hcl : closureFor scope X.env = pure [(y, cy)])
    (hbd : ∀ (pm ct : Value) (c' : Addr) (s : Shared) (u : Value), BindsTo s (lamFd (X.env.qual ++ "<lambda>") params body scope [(y, cy)] pm c' ct) ⟨[u], []⟩ [(x, u)] := by intros; exact .of_eq rfl)
    (hge : X.env.globals = mainGlobals := by rfl) (hdef : defaultsOf params X.env = ([], []) := by rfl) (hg : Gl X "sorted" := by rfl) (hn : noStar e = true := by rfl) :
    QE X (.Call (.Name "sorted" p) [e] [⟨some "key", .Lambda params body scope lpos, kpos⟩] pos) (tSortZC P (X.env.qual ++ "<lambda>") lpos j sp ta) := by
  refine ⟨?_⟩
  intro pins s σ H0 Q I h
  refine wpAny_Call_Name_kw (ld_blt I hg hm PyProof.Rows.boot_sorted ?_)
  have h1 := star_cons (es := []) (env := X.env) hn
  refine PyProof.Rows.callWith_kw (thn (ha.h pos pins s σ H0 _ I h) fun us s1 ⟨vs, H1, I1, r1, q1⟩ => ?_) (he := by rw [h1]; rfl) (hplain := by rw [h1]; rfl) (hall := rfl) (hkw := rfl)
  obtain ⟨l, xs, ks, kv, rfl, hσ, hH, tab, hz, hl, hne, spec, q⟩ := q1
  obtain ⟨u, rfl, ru⟩ := vals1 r1
  cases ru
  have hk : PK X [⟨some "key", .Lambda params body scope lpos, kpos⟩] (tCons (tLamC [(y, cy)] X P params body scope lpos) tNil) := pk_cons (pe_lamC hcode hge C B hdef hcl) pk_nil
  refine thn (hk pos pins s1 σ H1 (fun zs H2 => ∃ f, zs = [.ref f] ∧ LamMade X P (X.env.qual ++ "<lambda>") lpos params body scope [(y, cy)] H1 f H2) I1 (lam_made tab fun f H2 mk => ⟨f, rfl, mk⟩)) fun ws s2 ⟨zs, H2, I2, rz, f, e1, mk⟩ => ?_
  subst e1
  obtain ⟨u, rfl, ru⟩ := vals1 rz
  cases ru
  obtain ⟨c', ct, sT, lt, hf, hc', nf, nc⟩ := mk
  have hr2 : Room (k + 1) X.A.in1.in1 := (hr.mono (by omega) |>.in1 |>.in1)
  have F1 := lam_runs (X := X) (pins := pins) (σ := σ) (sp := sp kv) (params := params) (f := f) (c := cy) (c' := c') (pm := (X.mg "__name__").getD .none) (ct := ct) F.sc hj hσ hyc hcy hr2 (hbd _ _ _) fun A outer s H v Q hr' hs => let ⟨t, t1, t2⟩ := F.ex f c' cy kv A outer s H v Q hr' hs; ⟨t, t1.h, t2⟩
  refine sorted_keyZ (b := false) I2 (srcs_of hc I2 (hH.moved tab sT) hz) hz hl hne (ksk_s1 _ _) (fun x => ksk_l1 _ _) (fun x => ksk_t1 f x) F1 (fun i v key H' g1 g2 g3 R hR => ⟨g3 _ _ hf, g3 _ _ hc', spec i v key H' g1 g2 (sT.trans (.of g3)) R hR⟩) fun p H3 D a1 a2 a3 a4 => q p H3 D a1 a2 (sT.trans (.of a3)) ?_ a4
  obtain ⟨ps', e1, e2, e3⟩ := lt
  exact ⟨ps', a3 _ _ e1, e2, e3.imp id fun ⟨c'', z1, z2⟩ => ⟨c'', z1, a3 _ _ z2⟩⟩
end
end L2
namespace L2
open PySem PySem.Spec PyProof.Rows PySem.W
/-! ### list(d.values()) of a dict with tuples as keys; enumerate of a tuple; xs.reverse() -/
section
variable {prog : Program} {w : World} {A : Around} {E : Value → Shared → Prop} {s : Shared} {d it v : Addr} {es : Array DictEntry} {ep i : Nat}
theorem raw_viter {Q : Value → Shared → Prop} (hv : s.heap.IsValuesView v d) (hm : DRaw s.heap d es ep)
    (hQ : Q (.ref s.heap.objs.size) { s with heap := s.heap.push { cls := .type "dict_valueiterator", data := .fields #[.ref d, .int 0 0, .int es.size 0, .int ep 0] } }) : wpAny (model prog w) A (pyIter (.ref v)) Q E s := by
  obtain ⟨ov, e1, e2, e3⟩ := id hv
  obtain ⟨o, f1, f2, f3⟩ := id hm
  refine wpAny_pyIter_slot hv.typeIs PySem.F.slot_dict_values_iter (wpAny_call_entry PySem.F.slot_dict_values_iter hv.typeIs PySem.F.entry_dict_values_iter ?_ (PySem.F.args_dict_values_iter_1 _))
  unfold Builtin.«dict_values.__iter__»
  refine wpAny_bind (wpAny_pure (wpAny_bind ?_))
  unfold Builtin.Dict_items.dictOf
  refine wpAny_bind (wpAny_field e1 e3 (x := .ref d) rfl (wpAny_pure (wpAny_bind ?_)))
  unfold Builtin.Dict_items.newIterator
  refine wpAny_bind (wpAny_dictEntries f1 f3 (wpAny_bind (wpAny_dictEpoch f1 f3 ?_)))
  have own : Builtin.Dict_items.ownsTuple "dict_valueiterator" = false := by decide
  simp only [own, Bool.false_eq_true, if_false]
  refine wpAny_newObj_type (wpAny_pure ⟨_, rfl, "dict_valueiterator", _, ⟨_, Heap.get?_push_size _ rfl, rfl⟩, PySem.F.slot_dict_valueiterator_next.lookup, ?_⟩)
  simpa [rawInt] using hQ
theorem raw_vitem {Q : Option Value → Shared → Prop} (hit : s.heap.IsValIter it d i es.size ep) (hm : DRaw s.heap d es ep) (hx : i < es.size)
    (hQ : ∀ h', h'.IsValIter it d (i + 1) es.size ep → Heap.SameBut it s.heap h' → Q (some es[i].val) { s with heap := h' }) : wpAny (model prog w) A (pyNext (.ref it)) Q E s := by
  obtain ⟨o, ho, hc, hd⟩ := id hit
  obtain ⟨od, hod, hcd, hdd⟩ := id hm
  unfold pyNext
  refine wpAny_bind (wpAny_attempt (wpAny_callSpecial?_slot (name := Str.ofString "__next__") hit.typeIs PySem.F.slot_dict_valueiterator_next
    (wpAny_call_entry PySem.F.slot_dict_valueiterator_next hit.typeIs PySem.F.entry_dict_valueiterator_next ?_ (PySem.F.args_dict_valueiterator_next_1 _))))
  refine wpAny_bind (wpAny_pure ?_)
  refine wpAny_bind ?_
  refine wpAny_bind ?_
  first | refine wpAny_bind (wpAny_typeNameOfWhole_valiter hit.typeIs (wpAny_pure ?_)) | refine wpAny_bind (wpAny_typeNameOf_valiter hit.typeIs (wpAny_pure ?_))
  refine wpAny_bind (wpAny_fieldsOf ho hd ?_)
  have hown : Builtin.Dict_items.ownsTuple "dict_valueiterator" = false := by decide
  simp only [hown, Bool.false_eq_true, if_false]
  show wpAny _ _ (if (Value.ref d == Value.none) = true then _ else _) _ _ s
  rw [if_neg (show ¬ ((Value.ref d == Value.none) = true) from Bool.false_ne_true)]
  refine wpAny_bind (wpAny_pure ?_)
  refine wpAny_bind (wpAny_dictEntries hod hdd ?_)
  rw [if_neg (by simp)]
  refine wpAny_bind (wpAny_pure ?_)
  refine wpAny_bind (wpAny_dictEpoch hod hdd ?_)
  rw [if_neg (by simp)]
  refine wpAny_pure ?_
  simp only [show ¬ ((i : Int) < 0) from by omega, if_false, Int.toNat_natCast, Array.getElem?_eq_getElem hx]
  refine wpAny_bind ?_
  first | refine wpAny_bind (wpAny_typeNameOfWhole_valiter hit.typeIs (wpAny_pure ?_)) | refine wpAny_bind (wpAny_typeNameOf_valiter hit.typeIs (wpAny_pure ?_))
  refine wpAny_bind (wpAny_isOneOf_valiter hit.typeIs ?_)
  show wpAny _ _ (setField (.ref it) 1 (rawInt ((i : Int) + 1)) >>= _) _ _ s
  refine wpAny_bind (wpAny_setField ho hd (by simp) ?_)
  have hit' : (s.heap.update it (Obj.mapFields (·.setIfInBounds 1 (rawInt ((i : Int) + 1))))).IsValIter it d (i + 1) es.size ep :=
    ⟨_, Heap.get?_update_self _ ho (Obj.isFreed_of_fields (Obj.data_mapFields hd _)), (Obj.cls_mapFields ..).trans hc, by rw [Obj.data_mapFields hd]; simp [rawInt]⟩
  refine wpAny_bind (wpAny_holding ?_)
  refine wpAny_bind (wpAny_isOneOf_valiter (s := { s with heap := s.heap.update it (Obj.mapFields (·.setIfInBounds 1 (rawInt ((i : Int) + 1)))) }) hit'.typeIs ?_)
  refine wpAny_bind (wpAny_isOneOf_valiter (s := { s with heap := s.heap.update it (Obj.mapFields (·.setIfInBounds 1 (rawInt ((i : Int) + 1)))) }) hit'.typeIs ?_)
  show wpAny _ _ (pure es[i].val) _ _ _
  exact wpAny_pure (wpAny_pure ⟨_, rfl, wpAny_pure (hQ _ hit' (Heap.SameBut.update ..))⟩)
theorem raw_vend {Q : Option Value → Shared → Prop} (hh : A.handled = none) (hit : s.heap.IsValIter it d es.size es.size ep) (hm : DRaw s.heap d es ep) (hQ : ∀ h', Heap.ExtBut it s.heap h' → Q none { s with heap := h' }) :
    wpAny (model prog w) A (pyNext (.ref it)) Q E s := by
  obtain ⟨o, ho, hc, hd⟩ := id hit
  obtain ⟨od, hod, hcd, hdd⟩ := id hm
  unfold pyNext
  refine wpAny_bind (wpAny_attempt (wpAny_callSpecial?_slot (name := Str.ofString "__next__") hit.typeIs PySem.F.slot_dict_valueiterator_next
    (wpAny_call_entry PySem.F.slot_dict_valueiterator_next hit.typeIs PySem.F.entry_dict_valueiterator_next ?_ (PySem.F.args_dict_valueiterator_next_1 _))))
  refine wpAny_bind (wpAny_pure ?_)
  refine wpAny_bind ?_
  refine wpAny_bind ?_
  first | refine wpAny_bind (wpAny_typeNameOfWhole_valiter hit.typeIs (wpAny_pure ?_)) | refine wpAny_bind (wpAny_typeNameOf_valiter hit.typeIs (wpAny_pure ?_))
  refine wpAny_bind (wpAny_fieldsOf ho hd ?_)
  have hown : Builtin.Dict_items.ownsTuple "dict_valueiterator" = false := by decide
  simp only [hown, Bool.false_eq_true, if_false]
  show wpAny _ _ (if (Value.ref d == Value.none) = true then _ else _) _ _ s
  rw [if_neg (show ¬ ((Value.ref d == Value.none) = true) from Bool.false_ne_true)]
  refine wpAny_bind (wpAny_pure ?_)
  refine wpAny_bind (wpAny_dictEntries hod hdd ?_)
  rw [if_neg (by simp)]
  refine wpAny_bind (wpAny_pure ?_)
  refine wpAny_bind (wpAny_dictEpoch hod hdd ?_)
  rw [if_neg (by simp)]
  refine wpAny_pure ?_
  simp only [show ¬ ((es.size : Int) < 0) from by omega, if_false, Int.toNat_natCast, Array.getElem?_eq_none (Nat.le_refl _)]
  refine wpAny_bind ?_
  first | refine wpAny_bind (wpAny_typeNameOfWhole_valiter hit.typeIs (wpAny_pure ?_)) | refine wpAny_bind (wpAny_typeNameOf_valiter hit.typeIs (wpAny_pure ?_))
  show wpAny _ _ (setField (.ref it) 0 .none >>= _) _ _ s
  refine wpAny_bind (wpAny_setField ho hd (by simp) ?_)
  show wpAny _ _ (newExc (.type "StopIteration") [] >>= _) _ _ _
  refine wpAny_bind ?_
  simp only [newExc, newTuple]
  refine wpAny_bind (wpAny_newObj_type ?_ (by size_fits))
  refine wpAny_bind (m := firstArgMember _ _) (wpAny_of_eq (a := Value.none) (by first | rfl | (simp only [firstArgMember]; rfl)) ?_)
  refine wpAny_newObj_type ?_ (by size_fits)
  simp only [raiseNew]
  refine wpAny_bind (wpAny_handled ?_)
  rw [show A.in1.handled = none from hh]
  refine wpAny_bind (wpAny_pure (wpAny_throw ?_))
  refine wpAny_bind (wpAny_isInstance (T := "StopIteration") (b := true) ⟨_, Heap.get?_push_size _ rfl, rfl⟩ isSubtype_stop ?_)
  exact wpAny_pure (hQ _ (((Heap.SameBut.update ..).extBut.push _).push _))
theorem raw_vwalks (hh : A.handled = none) (I d : Addr) (hne : d ≠ I) (es : Array DictEntry) (ep : Nat) :
    Walks prog w A I [I, d] [I] es.size (fun i v => ∃ e, es[i]? = some e ∧ v = e.val) (fun i h => h.IsValIter I d i es.size ep ∧ DRaw h d es ep) where
  sub := fun b hb => by simp at hb; simp [hb]
  frame := fun _ _ _ st hk => ⟨let ⟨o, ho, r⟩ := st.1; ⟨o, hk I (by simp) o ho, r⟩, st.2.at' fun o e => hk d (by simp) o e⟩
  item := fun i s Q E hi st hQ => raw_vitem st.1 st.2 hi fun h' hit' hs' => hQ _ h' s.toks ⟨es[i], by simp [hi], rfl⟩ ⟨hit', st.2.at' fun o e => hs'.extBut d o hne e⟩ fun b o hb e => hs'.extBut b o (fun h => hb (by simp [h])) e
  done := fun s Q E st hQ => raw_vend hh st.1 st.2 fun h' he' => hQ h' s.toks fun b o hb e => he' b o (fun h => hb (by simp [h])) e
  self := fun _ _ _ _ st hQ => wpAny_pyIter_valiter st.1 hQ
theorem raw_vsrc : KdlSrc prog w "dict_values" v d es.size (fun i v => ∃ e, es[i]? = some e ∧ v = e.val) (fun h => h.IsValuesView v d ∧ DRaw h d es ep) where
  type := fun _ hm => hm.1.typeIs
  there := fun _ hm => ⟨let ⟨_, ho, _⟩ := hm.1; Heap.lt_size ho, hm.2.lt⟩
  keep := fun _ _ hm hk => ⟨let ⟨o, ho, x⟩ := hm.1; ⟨o, hk v (.inl rfl) o ho, x⟩, hm.2.at' fun o e => hk d (.inr rfl) o e⟩
  notList := by decide
  notTuple := by decide
  hint := fun _ _ _ _ hm hq => kdl_hint_values hm.1.typeIs hq
  iter := fun _ _ hh hm => ⟨_, _, (fun _ _ hq => raw_viter hm.1 hm.2 hq), raw_vwalks hh _ d (Nat.ne_of_lt hm.2.lt) es ep, ⟨⟨_, Heap.get?_push_size _ rfl, rfl, rfl⟩, hm.2.at' fun o e => Heap.get?_push_of_some _ e⟩⟩
end
end L2
namespace L2
open PySem PySem.Spec PyProof.Rows PySem.W
section
variable {prog : Program} {w : World} {A : Around} {E : Value → Shared → Prop} {s : Shared}
theorem nextOf_tup_item {it l : Addr} {i : Nat} {items : Array Value} {x : Value} {Q : Value → Shared → Prop} (hit : s.heap.IsTupleIter it l i) (hl : s.heap.IsTuple l items) (hx : items[i]? = some x)
    (hQ : ∀ h', h'.IsTupleIter it l (i + 1) → Heap.SameBut it s.heap h' → Q x { s with heap := h' }) : wpAny (model prog w) A (Builtin.SmallTypes.nextOf (.ref it)) Q E s := by
  obtain ⟨o, ho, hc, hd⟩ := id hit
  obtain ⟨ol, g1, _, nl, g2⟩ := hl
  unfold Builtin.SmallTypes.nextOf
  refine wpAny_bind (wpAny_callSpecial?_slot (name := Str.ofString "__next__") hit.typeIs PySem.F.slot_tuple_iterator_next (wpAny_call_entry PySem.F.slot_tuple_iterator_next hit.typeIs PySem.F.entry_tuple_iterator_next ?_ (PySem.F.args_tuple_iterator_next_1 _)))
  show wpAny _ _ (field (.ref it) 0 >>= _) _ _ s
  refine wpAny_bind (wpAny_field ho hd (x := .ref l) rfl ?_); show wpAny _ _ (if (Value.ref l == Value.none) = true then _ else _) _ _ s
  rw [if_neg (show ¬ ((Value.ref l == Value.none) = true) from Bool.false_ne_true)]; show wpAny _ _ (field (.ref it) 1 >>= _) _ _ s
  refine wpAny_bind (wpAny_field ho hd (x := .int i 0) rfl ?_); show wpAny _ _ (seqItems? (.ref l) >>= _) _ _ s
  refine wpAny_bind (wpAny_seqItems g1 g2 ?_)
  simp only [Int.toNat_natCast, hx]
  refine wpAny_bind (wpAny_setField ho hd (by simp) (wpAny_pure ⟨x, rfl, wpAny_pure (hQ _ ⟨_, Heap.get?_update_self _ ho (Obj.isFreed_of_fields (Obj.data_mapFields hd _)), (Obj.cls_mapFields ..).trans hc, by rw [Obj.data_mapFields hd]; simp [rawInt]⟩ (Heap.SameBut.update ..))⟩))
theorem nextOf_tup_end {it l : Addr} {i : Nat} {items : Array Value} {Q : Value → Shared → Prop} (hh : A.handled = none) (hit : s.heap.IsTupleIter it l i) (hl : s.heap.IsTuple l items) (hx : items[i]? = none)
    (hE : ∀ h' e, Heap.ExtBut it s.heap h' → (∃ o, h'.get? e = some o ∧ o.cls = .type "StopIteration") → E (.ref e) { s with heap := h' }) : wpAny (model prog w) A (Builtin.SmallTypes.nextOf (.ref it)) Q E s := by
  obtain ⟨o, ho, hc, hd⟩ := id hit
  obtain ⟨ol, g1, _, nl, g2⟩ := hl
  unfold Builtin.SmallTypes.nextOf
  refine wpAny_bind (wpAny_callSpecial?_slot (name := Str.ofString "__next__") hit.typeIs PySem.F.slot_tuple_iterator_next (wpAny_call_entry PySem.F.slot_tuple_iterator_next hit.typeIs PySem.F.entry_tuple_iterator_next ?_ (PySem.F.args_tuple_iterator_next_1 _)))
  show wpAny _ _ (field (.ref it) 0 >>= _) _ _ s
  refine wpAny_bind (wpAny_field ho hd (x := .ref l) rfl ?_); show wpAny _ _ (if (Value.ref l == Value.none) = true then _ else _) _ _ s
  rw [if_neg (show ¬ ((Value.ref l == Value.none) = true) from Bool.false_ne_true)]; show wpAny _ _ (field (.ref it) 1 >>= _) _ _ s
  refine wpAny_bind (wpAny_field ho hd (x := .int i 0) rfl ?_); show wpAny _ _ (seqItems? (.ref l) >>= _) _ _ s
  refine wpAny_bind (wpAny_seqItems g1 g2 ?_)
  simp only [Int.toNat_natCast, hx]
  refine wpAny_bind (wpAny_rule (wpAny_bind (wpAny_setField ho hd (by simp) ?_))); show wpAny _ _ (newExc (.type "StopIteration") [] >>= _) _ _ _
  refine wpAny_bind ?_; simp only [newExc, newTuple]
  refine wpAny_bind (wpAny_newObj_type ?_ (by size_fits)); refine wpAny_bind (m := firstArgMember _ _) (wpAny_of_eq (a := Value.none) (by first | rfl | (simp only [firstArgMember]; rfl)) ?_)
  refine wpAny_newObj_type ?_ (by size_fits); simp only [raiseNew]
  refine wpAny_bind (wpAny_handled ?_)
  first | rw [show A.in1.handled = none from hh] | rw [hh]
  refine wpAny_bind (wpAny_pure (wpAny_throw ?_))
  exact hE _ _ (((Heap.SameBut.update ..).extBut.push _).push _) ⟨_, Heap.get?_push_size _ rfl, rfl⟩
theorem drawsT (hh : A.handled = none) (it l : Addr) (hne : l ≠ it) (items : Array Value) : Draws prog w A it [it, l] items.size (fun i v => items[i]? = some v) (fun i h => h.IsTupleIter it l i ∧ h.IsTuple l items) where
  live := fun _ _ st => let ⟨o, ho, _⟩ := st.1; ⟨o, ho⟩
  frame := fun _ _ _ st hk => ⟨let ⟨o, ho, r⟩ := st.1; ⟨o, hk it (by simp) o ho, r⟩, let ⟨o, ho, r⟩ := st.2; ⟨o, hk l (by simp) o ho, r⟩⟩
  item := fun i s Q E hi st hQ => nextOf_tup_item st.1 st.2 (x := items[i]) (by simp [hi]) fun h' hit' hs' => hQ _ h' s.toks (by simp [hi]) ⟨hit', st.2.extBut hs'.extBut hne⟩ hs'
  done := fun s Q E st hE => nextOf_tup_end hh st.1 st.2 (by simp) hE
open PySem.AutoSeq1 (wpAny_loadPart') in
theorem meets_enumT (l : Addr) (items : Array Value) (n : Nat) (dct : Option Addr) (sl : Array (Option Value)) :
    Meets (Builtin.«enumerate.__new__» ⟨[.type "enumerate", .ref l], []⟩) (fun _ R s => s.heap.get? l = some { cls := .type "tuple", dict := dct, data := .seq items n, slots := sl } ∧
      R (.ok (.ret (.ref (s.heap.push { cls := .type "tuple_iterator", data := .fields #[.ref l, .int 0 0] }).objs.size)))
        { s with heap := (s.heap.push { cls := .type "tuple_iterator", data := .fields #[.ref l, .int 0 0] }).push { cls := .type "enumerate", data := .fields #[.none, .bool false, .ref s.heap.objs.size, rawInt 0, .none, .none] } }) :=
  .of_wp fun prog w A R s h => by
    obtain ⟨hp, g, d, tk, os⟩ := s
    obtain ⟨hl, h⟩ := h
    have hsub := sub_enumerate
    have hL : Heap.IsTuple (Shared.heap ⟨hp, g, d, tk, os⟩) l items := ⟨_, hl, rfl, n, rfl⟩
    wp_walk using wpAny_loadPart' hl
    refine wpAny_stack_any fun st => wpAny_pure ?_
    split
    · rename_i c _ _ _ _ _
      cases (c == Value.type "enumerate")
      · wp_walk using wpAny_loadPart' hl, wpAny_pyIter_tuple hL
        exact ⟨_, rfl, h⟩
      · wp_walk using wpAny_loadPart' hl, wpAny_pyIter_tuple hL
        exact ⟨_, rfl, h⟩
    · wp_walk using wpAny_loadPart' hl, wpAny_pyIter_tuple hL
      exact ⟨_, rfl, h⟩
theorem call_enumT {l : Addr} {items : Array Value} {Q : Value → Shared → Prop} (hL : IsTup s.heap l items)
    (h : ∀ h', IsEnum h' (s.heap.objs.size + 1) s.heap.objs.size 0 .none → h'.IsTupleIter s.heap.objs.size l 0 → h'.objs.size = s.heap.objs.size + 2 → (∀ b o, s.heap.get? b = some o → h'.get? b = some o) → Q (.ref (s.heap.objs.size + 1)) { s with heap := h' }) :
    wpAny (model prog w) A (call (.type "enumerate") [.ref l]) Q E s := by
  obtain ⟨⟨c, dct, dt, sl⟩, hl, hc, n, hd⟩ := hL
  replace hc : c = .type "tuple" := hc
  replace hd : dt = .seq items n := hd
  subst hc hd
  refine callType_new PySem.F.called_enumerate (by decide) (PySem.F.typeCall_enumerate_1 _) (PySem.F.newCall_enumerate_1 _) (fun obj => PySem.F.args_object_init_2 obj _) PySem.F.entry_enumerate_new (meets_enumT l items n dct sl) ⟨hl, ?_⟩
  have hz : (s.heap.push { cls := .type "tuple_iterator", data := .fields #[.ref l, .int 0 0] }).objs.size = s.heap.objs.size + 1 := Heap.size_push ..
  show _ ∧ _
  rw [hz]
  have he : IsEnum ((s.heap.push { cls := .type "tuple_iterator", data := .fields #[.ref l, .int 0 0] }).push { cls := .type "enumerate", data := .fields #[.none, .bool false, .ref s.heap.objs.size, rawInt 0, .none, .none] }) (s.heap.objs.size + 1) s.heap.objs.size 0 .none := by
    have := Heap.get?_push_size (s.heap.push { cls := .type "tuple_iterator", data := .fields #[.ref l, .int 0 0] }) (o := { cls := .type "enumerate", data := .fields #[.none, .bool false, .ref s.heap.objs.size, rawInt 0, .none, .none] }) rfl
    rw [hz] at this; exact this
  refine ⟨⟨_, he, rfl⟩, h _ he ⟨_, Heap.get?_push_of_some _ (Heap.get?_push_size _ rfl), rfl, rfl⟩ (by rw [Heap.size_push, hz]) fun b o x => Heap.get?_push_of_some _ (Heap.get?_push_of_some _ x)⟩
end
def ItT (K : PySem.W.Frag) (a : Addr) (xs : List V) : It :=
  ⟨fun i H => i < xs.length ∧ SqT K H a xs, fun i H x H' => ∃ T p, H T = none ∧ xs[i]? = some p ∧ x = .ref T ∧ H' = upd H T (.tup [.int i, p]), fun i H => i = xs.length ∧ SqT K H a xs⟩
abbrev eTt (e it a : Addr) : Nat → Heap → Prop := fun i h => (∃ old, IsEnum h e it i old) ∧ h.IsTupleIter it a i
theorem turn_enumT {P : Program} {w : World} {K : PySem.W.Frag} {elts : List Expr} {kt : Nat} {tp : Pos} {e it a : Addr} {xs : List V} (ne : e ≠ it) (ha : e ≠ a ∧ it ≠ a) :
    Turn P w K (.Tuple elts kt tp) (ItT K a xs) [e, it] e (eTt e it a) := by
  refine ⟨by simp, fun i h st c hc => ?_, fun i h h' st k => ?_, ?_, ?_, fun A i s Q E st h => ?_⟩
  · obtain ⟨⟨old, e1⟩, ⟨o4, e4, _, d4⟩⟩ := st
    simp only [List.mem_cons, List.not_mem_nil, or_false] at hc
    rcases hc with rfl | rfl
    · exact ⟨_, e1, fun v z => nomatch z⟩
    · exact ⟨_, e4, fun v z => by rw [d4] at z; cases z⟩
  · obtain ⟨⟨old, e1⟩, ⟨o4, e4, r4⟩⟩ := st
    exact ⟨⟨old, k e (by simp) _ e1⟩, ⟨o4, k it (by simp) _ e4, r4⟩⟩
  · intro X hP hw hK hc i pins s σ H E I hf st hg
    subst hP hw hK
    obtain ⟨⟨old, e1⟩, e4⟩ := st
    obtain ⟨hi, hx⟩ := hg
    obtain ⟨its, rx, px, zx⟩ := I.tuple hx
    have lx : i < its.toArray.size := by rw [List.size_toArray, ← rx.length]; exact hi
    have hh := I.ok.hd hc
    refine wpAny_pyNext_enum_itemD (drawsT (A := X.A.in1) hh it a ha.2.symm its.toArray) e1 ⟨e4, px⟩ lx ne (by simp [ne, ha.1]) fun x h' tk qx ho hs' hT hsz hk => ?_
    refine ⟨_, rfl, wpAny_letOwnedTupleGo_enum (s := { s with heap := h', toks := tk + 1 }) ho fun h2 he2 sb => ?_⟩
    obtain ⟨xv, ex⟩ : ∃ xv, xs[i]? = some xv := ⟨xs[i], by simp [hi]⟩
    obtain ⟨x', gx, rxv⟩ := rx.get ex
    have qx' : its[i]? = some x := by simpa using qx
    rw [gx] at qx'
    cases qx'
    have lte : e < s.heap.objs.size := Heap.lt_size e1
    have kp2 : ∀ c o, c ∉ [e, it] → s.heap.get? c = some o → h2.get? c = some o := fun c o hc q => by
      simp only [List.mem_cons, List.not_mem_nil, or_false, not_or] at hc
      exact sb.extBut c o hc.1 (hk c o hc.1 hc.2 q)
    have tT : IsTup h2 s.heap.objs.size [.int i tk, x].toArray := ⟨_, sb.extBut _ _ (Nat.ne_of_gt lte) hT, rfl, _, rfl⟩
    refine ⟨.ref s.heap.objs.size, upd H s.heap.objs.size (.tup [.int i, xv]), I.turnT (t' := tk + 1) hf kp2 tT (.cons ⟨tk, rfl⟩ (.cons rxv .nil)) (size63 (Nat.le_of_ble_eq_true rfl)), rfl, ⟨_, xv, I.hok.fresh (Nat.le_refl _), ex, rfl, rfl⟩, ?_, fun c hc => ?_⟩
    · exact ⟨⟨_, by simpa using he2⟩, hs'.1.extBut sb.extBut ne.symm⟩
    · rw [upd_ne]
      · exact (hf c hc).1
      · obtain ⟨o, eo⟩ : ∃ o, s.heap.get? c = some o := by
          simp only [List.mem_cons, List.not_mem_nil, or_false] at hc
          rcases hc with rfl | rfl
          · exact ⟨_, e1⟩
          · obtain ⟨o, eo, _⟩ := e4
            exact ⟨o, eo⟩
        exact Nat.ne_of_lt (Heap.lt_size eo)
  · intro X hP hw hK hc i pins s σ H E I hf st hg
    subst hP hw hK
    obtain ⟨⟨old, e1⟩, e4⟩ := st
    obtain ⟨rfl, hx⟩ := hg
    obtain ⟨its, rx, px, zx⟩ := I.tuple hx
    have lx : its.toArray.size = xs.length := by rw [List.size_toArray, ← rx.length]
    have hh := I.ok.hd hc
    refine wpAny_pyNext_enum_endD (drawsT (A := X.A.in1) hh it a ha.2.symm its.toArray) e1 ⟨by rw [lx]; exact e4, px⟩ fun h' kp => ⟨rfl, ?_⟩
    exact I.turnM (t' := s.toks) hf fun c ob hc q => by
      simp only [List.mem_cons, List.not_mem_nil, or_false, not_or] at hc
      exact kp c ob hc.2 q
  · obtain ⟨⟨old, e1⟩, _⟩ := st
    exact wpAny_pyIter_enum e1 h
def iEnumT (K : PySem.W.Frag) (ta : TA) : TI := fun σ H R => ta σ H fun vs H1 => ∃ a xs, vs = [.ref a] ∧ H1 a = some (.tup xs) ∧ R (ItT K a xs) H1
section
variable {X : Cx}
theorem pi_enumT {e1 : Expr} {ta : TA} {p pos tp : Pos} {elts : List Expr} {kt : Nat} (hg : Gl X "enumerate") (hm : X.mg "enumerate" = none) (ha : PA X [e1] ta) (n1 : noStar e1 = true) : PI X (.Tuple elts kt tp) (.Call (.Name "enumerate" p) [e1] [] pos) (iEnumT X.K ta) := by
  intro pins s σ H R I h
  refine Call_ (ld_blt I hg hm boot_enumerate (PyProof.Rows.callWith_type1 (thn (ha pos pins s σ H _ I h) fun us s1 ⟨vs, H1, I1, r1, q1⟩ => ?_) (star_cons n1) (plain_back (by simp))))
  obtain ⟨a, xs, e, hx, q⟩ := q1
  subst e
  obtain ⟨ua, rfl, ra⟩ := vals1 r1
  cases ra
  obtain ⟨its, rx, pa, zz⟩ := I1.tuple (SqT.of (K := X.K) hx)
  obtain ⟨oo, eo, _⟩ := id pa
  have la : a < s1.heap.objs.size := Heap.lt_size eo
  refine call_enumT pa fun h' he hl hz hk => wpAny_pyIter_enum he ?_
  refine ⟨s1.heap.objs.size + 1, [s1.heap.objs.size + 1, s1.heap.objs.size], eTt (s1.heap.objs.size + 1) s1.heap.objs.size a, _, H1, rfl, I1.kept (t' := s1.toks) hk, turn_enumT (Nat.succ_ne_self _) ⟨Nat.ne_of_gt (Nat.lt_succ_of_lt la), Nat.ne_of_gt la⟩, ⟨⟨_, he⟩, hl⟩, fun c hc => ?_, q⟩
  have hc' : s1.heap.objs.size ≤ c := by
    simp only [List.mem_cons, List.not_mem_nil, or_false] at hc
    rcases hc with rfl | rfl
    · exact Nat.le_succ _
    · exact Nat.le_refl _
  exact I1.fpOk hc' (I1.hok.fresh hc')
theorem i_enumT {e1 : Expr} {ta : TA} {p pos tp : Pos} {elts : List Expr} {kt : Nat} (hm : X.mg "enumerate" = none) (ha : QA X [e1] ta) (hg : Gl X "enumerate" := by rfl) (n1 : noStar e1 = true := by rfl) : QI X (.Tuple elts kt tp) (.Call (.Name "enumerate" p) [e1] [] pos) (iEnumT X.K ta) := ⟨pi_enumT hg hm ha.h n1⟩
end
/-- for i, x in enumerate(xs) -/
theorem for_enumT {K : PySem.W.Frag} {a : Addr} {xs : List V} {i j : Nat} {tb : TS} {D : Ends} {σ : St} {H : Hp} (Pv : Nat → St → Hp → Prop) (h0 : Pv 0 σ H) (ha : ∀ i σ H, i ≤ xs.length → Pv i σ H → SqT K H a xs)
    (hs : ∀ k x σ H, xs[k]? = some x → Pv k σ H → ∀ T, H T = none → tb { D with nx := Pv (k + 1), ct := Pv (k + 1), bk := D.nx } ((σ.set i (some (.int k))).set j (some x)) (upd H T (.tup [.int k, x]))) (hd : ∀ σ H, Pv xs.length σ H → D.nx σ H) :
    ∃ W : Nat → Nat → St → Hp → Prop, (∃ m, W 0 m σ H) ∧ ∀ k m σ H, W k m σ H →
      ((ItT K a xs).stop k H ∧ D.nx σ H) ∨ ((ItT K a xs).go k H ∧ ∃ N : St → Hp → Prop, (∀ σ' H', N σ' H' → ∃ m', m' < m ∧ W (k + 1) m' σ' H') ∧ ∀ x H', (ItT K a xs).yld k H x H' → gTup K 2 (gCons (gName i) (gCons (gName j) gNil)) x σ H' fun σ2 H2 => tb { D with nx := N, ct := N, bk := D.nx } σ2 H2) := by
  refine ⟨fun k m σ H => m = xs.length - k ∧ k ≤ xs.length ∧ Pv k σ H, ⟨xs.length, by simp, Nat.zero_le _, h0⟩, ?_⟩
  rintro k m σ H ⟨rfl, hk, pv⟩
  by_cases hlt : k < xs.length
  · refine .inr ⟨⟨hlt, ha k σ H hk pv⟩, Pv (k + 1), fun σ' H' z => ⟨xs.length - (k + 1), by omega, rfl, hlt, z⟩, fun x H' y => ?_⟩
    obtain ⟨T, p, hT, hx, rfl, rfl⟩ := y
    exact ⟨T, [.int k, p], rfl, SqT.of upd_same, rfl, .int k, [p], rfl, p, [], rfl, rfl, hs k p σ H hx pv T hT⟩
  · have e : k = xs.length := by omega
    subst e
    exact .inl ⟨⟨rfl, ha _ σ H hk pv⟩, hd σ H pv⟩
/-! ### d.values(), list of it; xs.reverse() -/
def viewO (d : Addr) : Obj := { cls := .type "dict_values", data := .fields #[.ref d] }
def tVals (td : TE) : TE := fun σ H Q => td σ H fun x H1 => ∃ a kvs, x = .ref a ∧ H1 a = some (.dT kvs) ∧ ∀ v, H1 v = none → Q (.ref v) (upd H1 v (isTh v (viewO a)))
section
variable {X : Cx} {o : Expr} {td : TE} {apos cpos : Pos}
theorem q_vals (ho : QE X o td) (hbase : attributeBase o "values" X.env (eval o X.env) = eval o X.env := by rfl) (hline : (apos.endLine == cpos.line) = true := by rfl) : QE X (.Call (.Attribute o "values" apos) [] [] cpos) (tVals td) := by
  refine ⟨?_⟩
  intro pins s σ H Q I h
  refine wpAny_Call_method0_late hbase hline (thn (ho.h pins s σ H _ I h) fun v s1 ⟨x, H1, I1, r1, a, kvs, e, hd, q1⟩ => ?_)
  subst e
  cases r1
  obtain ⟨t1, t2, _⟩ := isD_at I1 (.inr ⟨kvs, .inl hd⟩)
  obtain ⟨z, ns, xs, rel, ob, es, ep, g1, g2, g3, _⟩ := dt_rd I1.hok (.inl hd)
  refine ⟨"dict", "dict.values", PySem.F.plainAttrs_dict, PySem.F.slot_dict_values, PySem.F.type_dict_values, t1, t2, Calls.callWith_builtin rfl (PySem.evalArgs_none ?_)⟩
  refine wpAny_call_entry PySem.F.slot_dict_values t1 PySem.F.entry_dict_values ?_ (PySem.F.args_dict_values_1 _)
  refine wpAny_bind ?_
  unfold Builtin.Dict.noArgs
  refine wpAny_bind (wpAny_notOrdered_dict t1 ?_); show wpAny _ _ (pure a) _ _ s1
  refine wpAny_pure ?_; show wpAny _ _ (Builtin.Dict.showsAll a >>= _) _ _ s1
  unfold Builtin.Dict.showsAll
  rw [if_neg (by rw [ns]; exact Bool.false_ne_true)]
  refine wpAny_bind (wpAny_pure (wpAny_bind (wpAny_newObj_type (wpAny_pure ⟨_, rfl, ?_⟩))))
  exact ⟨.ref _, _, I1.laid (t' := s1.toks) (fun b o e => Heap.get?_push_of_some _ e) (Nat.le_refl _) (isTh_ok (Heap.get?_push_size _ rfl)), rfl, q1 _ (I1.hok.fresh (Nat.le_refl _))⟩
theorem call_listV (hc : X.calm = true) : CallR X (.type "list") (fun xs H Q => ∃ v a kvs, xs = [.ref v] ∧ H v = some (isTh v (viewO a)) ∧ H a = some (.dT kvs) ∧ ∀ l, H l = none → Q (.ref l) (upd H l (.lst (kvs.map (·.2))))) := by
  intro pins s σ H xs us Q I r h
  obtain ⟨v, a, kvs, rfl, hv, hq, q⟩ := h
  obtain ⟨u, rfl, rx⟩ := vals1 r
  cases rx
  obtain ⟨z, hd, xs, rel, o, es, ep, h1, h2, h3, h4, _, _⟩ := dt_rd I.hok (.inl hq)
  have hsz : es.size = xs.length := size_of_entries h4
  have hkl : kvs.length = xs.length := Paired.length rel
  have vv : s.heap.IsValuesView v a := ⟨_, (I.hok v _ hv).1, rfl, rfl⟩
  refine kdl_call (raw_vsrc (es := es) (ep := ep)) (I.ok.hd hc) ⟨vv, ⟨o, h1, h2, h3⟩⟩ (by omega) fun h' tk acc' c' kp e hacc => ?_
  have ev : Vals (kvs.map (·.2)) acc'.toList := by
    have gen : ∀ (vs : List Value) (ys : List (List Key × Addr × Value)) (ks : List (List Key × V)), KT H ks ys → vs.length = ys.length → (∀ (j : Nat) (v : Value), vs[j]? = some v → ∃ x : List Key × Addr × Value, ys[j]? = some x ∧ v = x.2.2) → Vals (ks.map (·.2)) vs := by
      intro vs
      induction vs with
      | nil =>
        intro ys ks rl hl _
        cases ys with
        | nil => cases rl; exact .nil
        | cons _ _ => cases hl
      | cons v vs ih =>
        intro ys ks rl hl hv
        cases ys with
        | nil => cases hl
        | cons y ys =>
          cases rl with
          | cons hy rl =>
            obtain ⟨x, e1, e2⟩ := hv 0 v rfl
            cases e1
            rw [e2]
            exact .cons hy.2.2 (ih ys _ rl (by simpa using hl) fun j v' e' => hv (j + 1) v' (by simpa using e'))
    refine gen _ _ _ rel (by rw [Array.length_toList, hacc.1, hsz]) fun j v e' => ?_
    obtain ⟨en, e1, e2⟩ := hacc.2 j v (by rw [← Array.getElem?_toList]; exact e')
    rw [entry_at h4] at e1
    obtain ⟨x, e3, e4⟩ := Option.map_eq_some_iff.mp e1
    refine ⟨x, e3, ?_⟩
    rw [e2, ← e4]
    rfl
  exact ⟨.ref s.heap.objs.size, _, I.laid (t' := tk) kp (Nat.le_refl _) (show ObjOk X.prog X.w _ h' _ (.lst (kvs.map (·.2))) from ⟨by rw [List.length_map]; omega, acc'.toList, c', ev, by simpa using e⟩), rfl, q _ (I.hok.fresh (Nat.le_refl _))⟩
theorem c_listV (hc : X.calm = true) : QCall X (.type "list") (fun xs H Q => ∃ v a kvs, xs = [.ref v] ∧ H v = some (isTh v (viewO a)) ∧ H a = some (.dT kvs) ∧ ∀ l, H l = none → Q (.ref l) (upd H l (.lst (kvs.map (·.2))))) := ⟨call_listV hc⟩
end
end L2


set_option maxRecDepth 100000
set_option maxHeartbeats 4000000
namespace K17
open PySem L2
open PyProof.Rows (envOfC)
open PySem.W (envX CodeHd)
def top (i : Nat) : Stmt := PySem.Challenge.pw_limb_k17_whole_the_least_ready.main.body.getD i (.Pass ⟨0, 0, 0, 0⟩)
/-! ### deeds, and the order of their sums and hands -/
structure Dd where
  h : Nat
  ns : List Int
  w : Option Int
def D0 : Dd := ⟨0, [], none⟩
def lastZ (d : Dd) (i : Nat) : Int := if i = d.h then cellZ d.ns i - 1 else cellZ d.ns i
def nmZ (d : Dd) : List Int := [(d.h : Int), cellZ d.ns d.h]
def nmK (d : Dd) : List Key := [.inl (d.h : Int), .inl (cellZ d.ns d.h)]
def asks (d : Dd) : List Nat := (List.range d.ns.length).filter fun i => decide (lastZ d i > 0)
def kyZ (d : Dd) : List Int := [d.ns.sum, (d.h : Int)]
def kLt (d e : Dd) : Prop := d.ns.sum < e.ns.sum ∨ (d.ns.sum = e.ns.sum ∧ d.h < e.h)
def leC (a b : List Int) : Prop := ∀ i, i < a.length → cellZ a i ≤ cellZ b i
def withinB (ns ms : List Int) : Bool := ((List.range ns.length).map fun i => decide (cellZ ns i ≤ cellZ ms i)).all id
theorem within_of {a b : List Int} (h : leC a b) : withinB a b = true := by
  unfold withinB
  rw [List.all_eq_true]
  intro x hx
  obtain ⟨i, hi, rfl⟩ := List.mem_map.mp hx
  exact decide_eq_true (h i (List.mem_range.mp hi))
theorem ky_lt (d e : Dd) : HT.lexLt (kyZ d) (kyZ e) = true ↔ kLt d e := by
  unfold kyZ kLt
  rw [HT.lexLt_cons]
  by_cases c : d.ns.sum = e.ns.sum
  · rw [if_pos c, lex_one]
    constructor
    · intro h
      have := of_decide_eq_true h
      exact .inr ⟨c, by omega⟩
    · rintro (h | ⟨_, h⟩)
      · omega
      · exact decide_eq_true (by omega)
  · rw [if_neg c]
    constructor
    · intro h
      exact .inl (of_decide_eq_true h)
    · rintro (h | ⟨h, _⟩)
      · exact decide_eq_true h
      · exact absurd h c
theorem getD_range {α : Type} (L : List α) (z : α) : (List.range L.length).map (fun i => L.getD i z) = L := by
  apply List.ext_getElem
  · simp
  · intro i h1 h2
    simp [h2]
/-- sorted by sums and hands: in order, and a permutation -/
theorem sorted_uni {α : Type} {f : α → Dd} {L : List α} {z : α} {p : Array Nat} (g : (L.map f).Pairwise fun d e => d.h = e.h → d.ns.sum ≠ e.ns.sum) (hp : POk L.length p) (hs : LS (fun i j => HT.lexLt ((L.map fun x => kyZ (f x)).getD i []) ((L.map fun x => kyZ (f x)).getD j [])) p L.length) :
    ((p.toList.map fun i => L.getD i z).map f).Pairwise kLt ∧ (p.toList.map fun i => L.getD i z).Perm L := by
  have ep : p.toList.Perm (List.range L.length) := by
    have := Array.perm_iff_toList_perm.mp hp
    simpa using this
  refine ⟨?_, ?_⟩
  · rw [List.map_map, List.pairwise_map]
    have hz : p.size = L.length := by have := hp.size_eq; simpa using this
    rw [List.pairwise_iff_getElem]
    intro i j hi hj hij
    rw [Array.length_toList] at hi hj
    have lx := hs i j hij (by omega)
    have e1 : gA p i = p.toList[i]'(by rw [Array.length_toList]; exact hi) := by
      rw [gA_list, List.getD_eq_getElem?_getD, List.getElem?_eq_getElem (by rw [Array.length_toList]; exact hi)]
      rfl
    have e2 : gA p j = p.toList[j]'(by rw [Array.length_toList]; exact hj) := by
      rw [gA_list, List.getD_eq_getElem?_getD, List.getElem?_eq_getElem (by rw [Array.length_toList]; exact hj)]
      rfl
    have nd : (p.toList).Nodup := ep.nodup_iff.mpr List.nodup_range
    have ne : p.toList[i]'(by rw [Array.length_toList]; exact hi) ≠ p.toList[j]'(by rw [Array.length_toList]; exact hj) := by
      rw [List.nodup_iff_pairwise_ne, List.pairwise_iff_getElem] at nd
      exact nd i j _ _ hij
    have m1 : p.toList[i]'(by rw [Array.length_toList]; exact hi) < L.length := List.mem_range.mp (ep.mem_iff.mp (List.getElem_mem _))
    have m2 : p.toList[j]'(by rw [Array.length_toList]; exact hj) < L.length := List.mem_range.mp (ep.mem_iff.mp (List.getElem_mem _))
    rw [e1, e2] at lx
    generalize p.toList[i]'(by rw [Array.length_toList]; exact hi) = a at *
    generalize p.toList[j]'(by rw [Array.length_toList]; exact hj) = b at *
    have ga : ∀ k, k < L.length → (L.map fun x => kyZ (f x)).getD k [] = kyZ (f (L.getD k z)) := fun k hk => by
      simp [hk]
    have lx' : HT.lexLt (kyZ (f (L.getD b z))) (kyZ (f (L.getD a z))) = false := by
      have := lx.1
      dsimp only at this
      rw [ga a m1, ga b m2] at this
      exact this
    show kLt (f (L.getD a z)) (f (L.getD b z))
    have un : (f (L.getD a z)).h = (f (L.getD b z)).h → (f (L.getD a z)).ns.sum ≠ (f (L.getD b z)).ns.sum := fun e => by
      have u := g
      rw [List.pairwise_iff_getElem] at u
      have ea : ∀ k (hk : k < L.length), (L.map f)[k]'(by simpa using hk) = f (L.getD k z) := fun k hk => by simp [hk]
      rcases Nat.lt_or_ge a b with c | c
      · have := u a b (by simpa using m1) (by simpa using m2) c
        rw [ea a m1, ea b m2] at this
        exact this e
      · have := u b a (by simpa using m2) (by simpa using m1) (by omega)
        rw [ea a m1, ea b m2] at this
        exact (this e.symm).symm
    have nl : ¬ kLt (f (L.getD b z)) (f (L.getD a z)) := fun h => by
      rw [(ky_lt _ _).mpr h] at lx'
      cases lx'
    unfold kLt at nl ⊢
    by_cases c : (f (L.getD a z)).ns.sum = (f (L.getD b z)).ns.sum
    · by_cases c2 : (f (L.getD a z)).h = (f (L.getD b z)).h
      · exact absurd c (un c2)
      · right
        omega
    · left
      omega
  · have := ep.map fun i => L.getD i z
    rw [getD_range] at this
    exact this
theorem sorted_weak {α : Type} {f : α → Dd} {L : List α} {z : α} {p : Array Nat} (hp : POk L.length p) (hs : LS (fun i j => HT.lexLt ((L.map fun x => kyZ (f x)).getD i []) ((L.map fun x => kyZ (f x)).getD j [])) p L.length) :
    ((p.toList.map fun i => L.getD i z).map f).Pairwise (fun d e => ¬ kLt e d) ∧ (p.toList.map fun i => L.getD i z).Perm L := by
  have ep : p.toList.Perm (List.range L.length) := by
    have := Array.perm_iff_toList_perm.mp hp
    simpa using this
  refine ⟨?_, ?_⟩
  · rw [List.map_map, List.pairwise_map]
    have hz : p.size = L.length := by have := hp.size_eq; simpa using this
    rw [List.pairwise_iff_getElem]
    intro i j hi hj hij
    rw [Array.length_toList] at hi hj
    have lx := hs i j hij (by omega)
    have e1 : gA p i = p.toList[i]'(by rw [Array.length_toList]; exact hi) := by
      rw [gA_list, List.getD_eq_getElem?_getD, List.getElem?_eq_getElem (by rw [Array.length_toList]; exact hi)]
      rfl
    have e2 : gA p j = p.toList[j]'(by rw [Array.length_toList]; exact hj) := by
      rw [gA_list, List.getD_eq_getElem?_getD, List.getElem?_eq_getElem (by rw [Array.length_toList]; exact hj)]
      rfl
    have nd : (p.toList).Nodup := ep.nodup_iff.mpr List.nodup_range
    have ne : p.toList[i]'(by rw [Array.length_toList]; exact hi) ≠ p.toList[j]'(by rw [Array.length_toList]; exact hj) := by
      rw [List.nodup_iff_pairwise_ne, List.pairwise_iff_getElem] at nd
      exact nd i j _ _ hij
    have m1 : p.toList[i]'(by rw [Array.length_toList]; exact hi) < L.length := List.mem_range.mp (ep.mem_iff.mp (List.getElem_mem _))
    have m2 : p.toList[j]'(by rw [Array.length_toList]; exact hj) < L.length := List.mem_range.mp (ep.mem_iff.mp (List.getElem_mem _))
    rw [e1, e2] at lx
    generalize p.toList[i]'(by rw [Array.length_toList]; exact hi) = a at *
    generalize p.toList[j]'(by rw [Array.length_toList]; exact hj) = b at *
    have ga : ∀ k, k < L.length → (L.map fun x => kyZ (f x)).getD k [] = kyZ (f (L.getD k z)) := fun k hk => by
      simp [hk]
    have lx' : HT.lexLt (kyZ (f (L.getD b z))) (kyZ (f (L.getD a z))) = false := by
      have := lx.1
      dsimp only at this
      rw [ga a m1, ga b m2] at this
      exact this
    show ¬ kLt (f (L.getD b z)) (f (L.getD a z))
    intro h
    rw [(ky_lt _ _).mpr h] at lx'
    cases lx'
  · have := ep.map fun i => L.getD i z
    rw [getD_range] at this
    exact this
theorem kLt_irr {d e : Dd} (h : kLt d e) (k : kLt e d) : False := by
  unfold kLt at h k
  omega
theorem sorted_eq {A B : List Dd} (ha : A.Pairwise kLt) (hb : B.Pairwise kLt) (p : A.Perm B) : A = B := List.Perm.eq_of_pairwise (fun _ _ _ _ h k => (kLt_irr h k).elim) ha hb p
def kvsOf (M : List (Addr × Dd)) : List (List Key × V) := M.map fun x => (nmK x.2, V.ref x.1)
theorem nmK_inj {d e : Dd} (h : nmK d = nmK e) : d.h = e.h ∧ cellZ d.ns d.h = cellZ e.ns e.h := by
  unfold nmK at h
  injection h with h1 h2
  injection h2 with h3 _
  injection h1 with h1
  injection h3 with h3
  exact ⟨by omega, h3⟩
theorem leC.refl (a : List Int) : leC a a := fun _ _ => Int.le_refl _
theorem leC.trans {a b c : List Int} (h : leC a b) (k : leC b c) (e : a.length = b.length) : leC a c := fun i hi => Int.le_trans (h i hi) (k i (by omega))
theorem sum_le : ∀ {a b : List Int}, a.length = b.length → leC a b → a.sum ≤ b.sum
  | [], [], _, _ => Int.le_refl _
  | x :: a, y :: b, e, h => by
    rw [List.sum_cons, List.sum_cons]
    have h0 : x ≤ y := h 0 (by simp)
    have := sum_le (a := a) (b := b) (by simpa using e) fun i hi => h (i + 1) (by simpa using hi)
    omega
theorem cell_set {c : List Int} {k i : Nat} {v : Int} (hk : k < c.length) : cellZ (c.set k v) i = if i = k then v else cellZ c i := by
  unfold cellZ
  rw [List.getElem?_set]
  by_cases e : i = k
  · subst e
    rw [if_pos rfl, if_pos rfl, if_pos hk]
    rfl
  · rw [if_neg (fun z => e z.symm), if_neg e]
theorem sum_up : ∀ {c : List Int} {k : Nat}, k < c.length → (c.set k (cellZ c k + 1)).sum = c.sum + 1
  | x :: c, 0, _ => by
    show (((x :: c).set 0 (x + 1))).sum = _
    rw [List.set_cons_zero, List.sum_cons, List.sum_cons]
    omega
  | x :: c, k + 1, h => by
    show ((x :: c).set (k + 1) (cellZ c k + 1)).sum = _
    rw [List.set_cons_succ, List.sum_cons, List.sum_cons, sum_up (by simpa using h)]
    omega
def clk (cl : List (List Int)) (g : Nat) : List Int := (cl[g]?).getD []
theorem clk_set {cl : List (List Int)} {k g : Nat} {c : List Int} (hk : k < cl.length) : clk (cl.set k c) g = if g = k then c else clk cl g := by
  unfold clk
  rw [List.getElem?_set]
  by_cases e : g = k
  · subst e
    rw [if_pos rfl, if_pos rfl, if_pos hk]
    rfl
  · rw [if_neg (fun z => e z.symm), if_neg e]
theorem clk_rep {n g : Nat} (h : g < n) : clk (List.replicate n (List.replicate n (0 : Int))) g = List.replicate n 0 := by
  unfold clk
  rw [List.getElem?_replicate, if_pos h]
  rfl
theorem cell_rep (n i : Nat) : cellZ (List.replicate n (0 : Int)) i = 0 := by
  unfold cellZ
  rw [List.getElem?_replicate]
  split <;> rfl
def mx (a b : List Int) (n : Nat) : List Int := (List.range n).map fun j => if cellZ b j > cellZ a j then cellZ b j else cellZ a j
theorem mx_cell {a b : List Int} {n i : Nat} (h : i < n) : cellZ (mx a b n) i = if cellZ b i > cellZ a i then cellZ b i else cellZ a i := by
  unfold mx
  conv => lhs; unfold cellZ
  rw [List.getElem?_map, List.getElem?_range h]
  rfl
theorem mx_len {a b : List Int} {n : Nat} : (mx a b n).length = n := by unfold mx; simp

theorem within_iff {a b : List Int} : withinB a b = true ↔ leC a b := by
  refine ⟨fun h i hi => ?_, within_of⟩
  unfold withinB at h
  rw [List.all_eq_true] at h
  exact of_decide_eq_true (h _ (List.mem_map.mpr ⟨i, List.mem_range.mpr hi, rfl⟩))
structure UN (n : Nat) (L : List Dd) : Prop where
  len : ∀ d ∈ L, d.ns.length = n ∧ d.h < n
  own : ∀ d ∈ L, 0 < cellZ d.ns d.h
  uni : L.Pairwise fun d e => nmK d ≠ nmK e
theorem UN.perm {n : Nat} {L M : List Dd} (g : UN n L) (p : L.Perm M) : UN n M := ⟨fun d hd => g.len d (p.mem_iff.mpr hd), fun d hd => g.own d (p.mem_iff.mpr hd), g.uni.perm p fun {x y} h e => h e.symm⟩
theorem UN.sub {n : Nat} {L M : List Dd} (g : UN n L) (p : M.Sublist L) : UN n M := ⟨fun d hd => g.len d (p.subset hd), fun d hd => g.own d (p.subset hd), g.uni.sublist p⟩
theorem nm_inj : ∀ {L : List Dd}, (L.Pairwise fun d e => nmK d ≠ nmK e) → ∀ {d e : Dd}, d ∈ L → e ∈ L → nmK d = nmK e → d = e
  | x :: L, u, d, e, hd, he, h => by
    rw [List.pairwise_cons] at u
    rcases List.mem_cons.mp hd with z1 | hd'
    · rcases List.mem_cons.mp he with z2 | he'
      · rw [z1, z2]
      · exact absurd (z1 ▸ h) (u.1 e he')
    · rcases List.mem_cons.mp he with z2 | he'
      · exact absurd (z2 ▸ h).symm (u.1 d hd')
      · exact nm_inj u.2 hd' he' h
def ansB (R : List Dd) (d : Dd) (i : Nat) : Bool := match R.find? (fun e => decide (nmK e = [.inl (i : Int), .inl (lastZ d i)])) with
  | some e => withinB e.ns d.ns
  | none => false
def accB (R : List Dd) (d : Dd) : Bool := (asks d).all fun i => ansB R d i
def An (R : List Dd) (d : Dd) (i : Nat) : Prop := ∃ e ∈ R, e.h = i ∧ cellZ e.ns e.h = lastZ d i ∧ leC e.ns d.ns
theorem An.mono {R S : List Dd} {d : Dd} {i : Nat} (h : An R d i) (s : ∀ e ∈ R, e ∈ S) : An S d i := let ⟨e, he, r⟩ := h; ⟨e, s e he, r⟩
theorem nmK_eq {e : Dd} {i : Nat} {z : Int} : nmK e = [.inl (i : Int), .inl z] ↔ e.h = i ∧ cellZ e.ns e.h = z := by
  unfold nmK
  constructor
  · intro h
    injection h with h1 h2
    injection h2 with h3 _
    injection h1 with h1
    injection h3 with h3
    exact ⟨by omega, h3⟩
  · rintro ⟨rfl, rfl⟩
    rfl
theorem ans_iff {R : List Dd} (u : R.Pairwise fun d e => nmK d ≠ nmK e) {d : Dd} {i : Nat} : ansB R d i = true ↔ An R d i := by
  unfold ansB
  cases hf : R.find? (fun e => decide (nmK e = [.inl (i : Int), .inl (lastZ d i)])) with
  | none =>
    constructor
    · intro h
      cases h
    · rintro ⟨e, he, e1, e2, _⟩
      have := List.find?_eq_none.mp hf e he
      exact absurd (nmK_eq.mpr ⟨e1, e2⟩) (by simpa using this)
  | some x =>
    have hm := List.mem_of_find?_eq_some hf
    have hq := List.find?_some hf
    have hx := nmK_eq.mp (of_decide_eq_true hq)
    constructor
    · intro h
      exact ⟨x, hm, hx.1, hx.2, within_iff.mp h⟩
    · rintro ⟨e, he, e1, e2, e3⟩
      have : x = e := nm_inj u hm he ((nmK_eq.mpr hx).trans (nmK_eq.mpr ⟨e1, e2⟩).symm)
      rw [this]
      exact within_iff.mpr e3
theorem acc_iff {n : Nat} {R : List Dd} (u : R.Pairwise fun d e => nmK d ≠ nmK e) {d : Dd} (hd : d.ns.length = n) : accB R d = true ↔ ∀ i, i < n → lastZ d i > 0 → An R d i := by
  unfold accB asks
  rw [List.all_eq_true]
  constructor
  · intro h i hi hl
    exact (ans_iff u).mp (h i (List.mem_filter.mpr ⟨List.mem_range.mpr (by omega), decide_eq_true hl⟩))
  · intro h i hi
    obtain ⟨h1, h2⟩ := List.mem_filter.mp hi
    exact (ans_iff u).mpr (h i (by have := List.mem_range.mp h1; omega) (of_decide_eq_true h2))
/-- each stands behind those it asks for -/
def Ch (n : Nat) (R : List Dd) : Prop := ∀ k (hk : k < R.length), ∀ i, i < n → lastZ R[k] i > 0 → An (R.take k) R[k] i
def Sat (n : Nat) (L B : List Dd) : Prop := ∀ d ∈ L, (∀ i, i < n → lastZ d i > 0 → An B d i) → d ∈ B
theorem Ch.snoc {n : Nat} {R : List Dd} {d : Dd} (c : Ch n R) (h : ∀ i, i < n → lastZ d i > 0 → An R d i) : Ch n (R ++ [d]) := fun k hk i hi hl => by
  rcases Nat.lt_or_ge k R.length with c1 | c1
  · rw [List.getElem_append_left c1] at hl ⊢
    rw [List.take_append_of_le_length (Nat.le_of_lt c1)]
    exact c k c1 i hi hl
  · have e : k = R.length := by
      rw [List.length_append, List.length_singleton] at hk
      omega
    subst e
    have ed : (R ++ [d])[R.length] = d := by simp
    rw [ed] at hl ⊢
    rw [List.take_left]
    exact h i hi hl
theorem sub_of {n : Nat} {L A B : List Dd} (c : Ch n A) (hA : ∀ d ∈ A, d ∈ L) (s : Sat n L B) : ∀ d ∈ A, d ∈ B := by
  have go : ∀ k (hk : k < A.length), A[k] ∈ B := by
    intro k
    induction k using Nat.strongRecOn with
    | _ k ih =>
      intro hk
      refine s _ (hA _ (List.getElem_mem hk)) fun i hi hl => ?_
      obtain ⟨e, he, r⟩ := c k hk i hi hl
      obtain ⟨j, hj, rfl⟩ := List.mem_iff_getElem.mp he
      rw [List.length_take] at hj
      refine ⟨_, ?_, r⟩
      rw [List.getElem_take]
      exact ih j (by omega) (by omega)
  intro d hd
  obtain ⟨k, hk, rfl⟩ := List.mem_iff_getElem.mp hd
  exact go k hk
theorem sum_lt : ∀ {a b : List Int} {k : Nat}, a.length = b.length → leC a b → k < a.length → cellZ a k < cellZ b k → a.sum < b.sum
  | x :: a, y :: b, 0, e, h, _, hl => by
    rw [List.sum_cons, List.sum_cons]
    have h0 : x < y := hl
    have := sum_le (a := a) (b := b) (by simpa using e) fun i hi => h (i + 1) (by simpa using hi)
    omega
  | x :: a, y :: b, k + 1, e, h, hk, hl => by
    rw [List.sum_cons, List.sum_cons]
    have h0 : x ≤ y := h 0 (by simp)
    have := sum_lt (a := a) (b := b) (k := k) (by simpa using e) (fun i hi => h (i + 1) (by simpa using hi)) (by simpa using hk) hl
    omega
theorem list_ext {a b : List Int} (e : a.length = b.length) (h : ∀ i, i < a.length → cellZ a i = cellZ b i) : a = b := by
  apply List.ext_getElem e
  intro i h1 h2
  have := h i h1
  unfold cellZ at this
  rw [List.getElem?_eq_getElem h1, List.getElem?_eq_getElem h2] at this
  exact this
theorem le_or {a b : List Int} (e : a.length = b.length) (h : leC a b) : a = b ∨ a.sum < b.sum := by
  by_cases c : ∃ k, k < a.length ∧ cellZ a k < cellZ b k
  · obtain ⟨k, hk, hl⟩ := c
    exact .inr (sum_lt e h hk hl)
  · refine .inl (list_ext e fun i hi => ?_)
    have h1 := h i hi
    have h2 : ¬ cellZ a i < cellZ b i := fun z => c ⟨i, hi, z⟩
    omega
theorem last_self (d : Dd) : lastZ d d.h = cellZ d.ns d.h - 1 := by unfold lastZ; rw [if_pos rfl]
theorem last_ne {d : Dd} {i : Nat} (h : i ≠ d.h) : lastZ d i = cellZ d.ns i := by unfold lastZ; rw [if_neg h]
/-- of one hand, a later one has the greater sum -/
theorem ch_sum {n : Nat} {R : List Dd} (c : Ch n R) (u : UN n R) : ∀ (m : Nat) {d e : Dd}, d ∈ R → e ∈ R → d.h = e.h → cellZ d.ns d.h + (m : Int) + 1 = cellZ e.ns e.h → d.ns.sum < e.ns.sum := by
  intro m
  induction m with
  | zero =>
    intro d e hd he eh em
    obtain ⟨k, hk, rfl⟩ := List.mem_iff_getElem.mp he
    have h1 := u.own d hd
    obtain ⟨x, hx, x1, x2, x3⟩ := c k hk R[k].h (u.len _ he).2 (by rw [last_self]; omega)
    have hx' := List.mem_of_mem_take hx
    rw [last_self] at x2
    have : x = d := nm_inj u.uni hx' hd ((nmK_eq (i := R[k].h) (z := cellZ d.ns d.h)).mpr ⟨x1, by rw [x2]; omega⟩ |>.trans (nmK_eq.mpr ⟨eh, rfl⟩).symm)
    subst this
    refine sum_lt (k := x.h) (by rw [(u.len x hd).1, (u.len _ he).1]) x3 (by rw [(u.len x hd).1]; exact (u.len x hd).2) ?_
    rw [x2, x1]
    omega
  | succ m ih =>
    intro d e hd he eh em
    obtain ⟨k, hk, rfl⟩ := List.mem_iff_getElem.mp he
    have h1 := u.own d hd
    obtain ⟨x, hx, x1, x2, x3⟩ := c k hk R[k].h (u.len _ he).2 (by rw [last_self]; omega)
    have hx' := List.mem_of_mem_take hx
    rw [last_self] at x2
    have s1 := ih hd hx' (eh.trans x1.symm) (by rw [x2]; omega)
    have s2 : x.ns.sum < R[k].ns.sum := by
      refine sum_lt (k := x.h) (by rw [(u.len x hx').1, (u.len _ he).1]) x3 (by rw [(u.len x hx').1]; exact (u.len x hx').2) ?_
      rw [x2, x1]
      omega
    omega
theorem ch_uni {n : Nat} {R : List Dd} (c : Ch n R) (u : UN n R) : R.Pairwise fun d e => d.h = e.h → d.ns.sum ≠ e.ns.sum := by
  rw [List.pairwise_iff_getElem]
  intro i j hi hj hij eh es
  have hd := List.getElem_mem hi
  have he := List.getElem_mem hj
  have ne : cellZ R[i].ns R[i].h ≠ cellZ R[j].ns R[j].h := fun z => by
    have un := u.uni
    rw [List.pairwise_iff_getElem] at un
    exact un i j hi hj hij (by unfold nmK; rw [z, eh])
  rcases Int.lt_or_gt_of_ne ne with q | q
  · have := ch_sum c u (cellZ R[j].ns R[j].h - cellZ R[i].ns R[i].h - 1).toNat hd he eh (by omega)
    omega
  · have := ch_sum c u (cellZ R[i].ns R[i].h - cellZ R[j].ns R[j].h - 1).toNat he hd eh.symm (by omega)
    omega
abbrev LT := List (Addr × Dd)
def vals (L : LT) : List Dd := L.map Prod.snd
def stepA (R : LT) (x : Addr × Dd) : LT := if accB (vals R) x.2 = true then R ++ [x] else R
def accK (S : LT) (k : Nat) : LT := (S.take k).foldl stepA []
theorem accK_succ {S : LT} {k : Nat} (hk : k < S.length) : accK S (k + 1) = stepA (accK S k) S[k] := by
  unfold accK
  rw [List.take_add_one, List.getElem?_eq_getElem hk, Option.toList_some, List.foldl_append]
  rfl
theorem accK_sub (S : LT) : ∀ k, k ≤ S.length → (accK S k).Sublist (S.take k)
  | 0, _ => by unfold accK; exact List.Sublist.refl _
  | k + 1, h => by
    have ih := accK_sub S k (by omega)
    rw [accK_succ (by omega), List.take_add_one, List.getElem?_eq_getElem (by omega), Option.toList_some]
    unfold stepA
    split
    · exact ih.append (List.Sublist.refl _)
    · exact ih.trans (List.sublist_append_left _ _)
theorem vals_sub {A B : LT} (h : A.Sublist B) : (vals A).Sublist (vals B) := h.map _
theorem accK_ch {n : Nat} {S : LT} (u : UN n (vals S)) : ∀ k, k ≤ S.length → Ch n (vals (accK S k))
  | 0, _ => fun k hk => absurd hk (by simp [accK, vals])
  | k + 1, h => by
    have ih := accK_ch u k (by omega)
    have us := u.sub (vals_sub ((accK_sub S k (by omega)).trans (List.take_sublist _ _)))
    rw [accK_succ (by omega)]
    unfold stepA
    split
    · rename_i c
      unfold vals at ih us c ⊢
      rw [List.map_append]
      exact ih.snoc ((acc_iff us.uni (u.len _ (List.mem_map.mpr ⟨S[k], List.getElem_mem (by omega), rfl⟩)).1).mp c)
    · exact ih
theorem accK_pre (S : LT) : ∀ {k j : Nat}, k ≤ j → j ≤ S.length → ∀ x ∈ accK S k, x ∈ accK S j := by
  intro k j hkj
  induction hkj with
  | refl => intro _ x hx; exact hx
  | step h ih =>
    intro hj x hx
    rw [accK_succ (by omega)]
    unfold stepA
    have := ih (by omega) x hx
    split
    · exact List.mem_append_left _ this
    · exact this
theorem accK_back {S : LT} (nd : S.Nodup) {i : Nat} (hi : i < S.length) : ∀ {j : Nat}, i < j → j ≤ S.length → S[i] ∈ accK S j → S[i] ∈ accK S (i + 1) := by
  intro j hij
  induction hij with
  | refl => intro _ h; exact h
  | step h ih =>
    intro hj hx
    rename_i j
    have hij' : i + 1 ≤ j := h
    rw [accK_succ (by omega)] at hx
    unfold stepA at hx
    split at hx
    · rcases List.mem_append.mp hx with hx | hx
      · exact ih (by omega) hx
      · exfalso
        have e := List.mem_singleton.mp hx
        rw [List.nodup_iff_pairwise_ne, List.pairwise_iff_getElem] at nd
        exact nd i j hi (by omega) (by omega) e
    · exact ih (by omega) hx
theorem nodup_of {n : Nat} {S : LT} (u : UN n (vals S)) : S.Nodup := by
  have := u.uni
  unfold vals at this
  rw [List.pairwise_map] at this
  exact this.imp fun {a b} h z => h (by rw [z])
theorem accK_sat {n : Nat} {S : LT} (u : UN n (vals S)) (hs : (vals S).Pairwise fun d e => ¬ kLt e d) : Sat n (vals S) (vals (accK S S.length)) := fun d hd h => by
  obtain ⟨x, hx, rfl⟩ := List.mem_map.mp hd
  obtain ⟨k, hk, rfl⟩ := List.mem_iff_getElem.mp hx
  have nd := nodup_of u
  have subM := (accK_sub S S.length (Nat.le_refl _)).trans (List.take_sublist _ _)
  have uM := u.sub (vals_sub subM)
  have cM := accK_ch u S.length (Nat.le_refl _)
  by_cases c : ∃ i, i < n ∧ lastZ S[k].2 i > 0 ∧ ∃ e ∈ vals (accK S S.length), e.h = i ∧ cellZ e.ns e.h = lastZ S[k].2 i ∧ leC e.ns S[k].2.ns ∧ e.ns = S[k].2.ns
  · obtain ⟨i, hi, hl, e, he, e1, e2, e3, e4⟩ := c
    have ne : i ≠ S[k].2.h := fun z => by
      rw [z, last_self] at e2
      rw [e4, e1, z] at e2
      omega
    obtain ⟨j, hj, rfl⟩ := List.mem_iff_getElem.mp he
    have lh : lastZ (vals (accK S S.length))[j] S[k].2.h = cellZ S[k].2.ns S[k].2.h := by
      rw [last_ne (by rw [e1]; exact fun z => ne z.symm), e4]
    obtain ⟨x, hx, x1, x2, x3⟩ := cM j hj S[k].2.h (u.len _ hd).2 (by rw [lh]; exact u.own _ hd)
    have hx' := List.mem_of_mem_take hx
    rw [lh] at x2
    have : x = S[k].2 := nm_inj u.uni ((vals_sub subM).subset hx') hd (by unfold nmK; rw [x2, x1])
    rw [← this]
    exact hx'
  · have all : ∀ i, i < n → lastZ S[k].2 i > 0 → An (vals (accK S k)) S[k].2 i := fun i hi hl => by
      obtain ⟨e, he, e1, e2, e3⟩ := h i hi hl
      have heS := (vals_sub subM).subset he
      have sl : e.ns.sum < S[k].2.ns.sum := by
        rcases le_or (by rw [(u.len e heS).1, (u.len _ hd).1]) e3 with z | z
        · exact absurd ⟨i, hi, hl, e, he, e1, e2, e3, z⟩ c
        · exact z
      obtain ⟨y, hy, rfl⟩ := List.mem_map.mp he
      obtain ⟨j, hj, rfl⟩ := List.mem_iff_getElem.mp (subM.subset hy)
      have hjk : j < k := by
        rcases Nat.lt_or_ge j k with q | q
        · exact q
        · exfalso
          rcases Nat.lt_or_ge k j with q2 | q2
          · rw [List.pairwise_iff_getElem] at hs
            have := hs k j (by unfold vals; rw [List.length_map]; exact hk) (by unfold vals; rw [List.length_map]; exact hj) q2
            simp only [vals, List.getElem_map] at this
            exact this (.inl sl)
          · have : j = k := by omega
            subst this
            omega
      refine ⟨S[j].2, List.mem_map.mpr ⟨S[j], ?_, rfl⟩, e1, e2, e3⟩
      exact accK_pre S (show j + 1 ≤ k by omega) (by omega) _ (accK_back nd hj (show j < S.length by omega) (Nat.le_refl _) hy)
    have us := u.sub (vals_sub ((accK_sub S k (by omega)).trans (List.take_sublist _ _)))
    have ac := (acc_iff us.uni (u.len _ hd).1).mpr all
    have : S[k] ∈ accK S (k + 1) := by
      rw [accK_succ hk]
      unfold stepA
      rw [if_pos ac]
      exact List.mem_append_right _ (List.mem_singleton.mpr rfl)
    exact List.mem_map.mpr ⟨S[k], accK_pre S (show k + 1 ≤ S.length by omega) (Nat.le_refl _) _ this, rfl⟩
theorem strict_of {R : List Dd} (h : R.Pairwise fun d e => ¬ kLt e d) (u : R.Pairwise fun d e => d.h = e.h → d.ns.sum ≠ e.ns.sum) : R.Pairwise kLt := by
  refine (List.Pairwise.and h u).imp fun {d e} ⟨h1, h2⟩ => ?_
  unfold kLt at h1 ⊢
  by_cases c : d.h = e.h
  · have := h2 c
    omega
  · omega
/-- the heart: what is ready, in order, is what was taken, sorted -/
theorem ready_eq {n : Nat} {L S F : LT} {T : List Dd} (u : UN n (vals L)) (pS : S.Perm L) (hs : (vals S).Pairwise fun d e => ¬ kLt e d) (cT : Ch n T) (hT : ∀ d ∈ T, d ∈ vals L) (sT : Sat n (vals L) T) (hF : ∀ x, x ∈ F ↔ x ∈ L ∧ x.2 ∈ T) (nF : F.Nodup) :
    (vals (accK S S.length)).Pairwise kLt ∧ (accK S S.length).Perm F ∧ (vals F).Pairwise fun d e => d.h = e.h → d.ns.sum ≠ e.ns.sum := by
  have uS : UN n (vals S) := u.perm (pS.symm.map Prod.snd)
  have subM := (accK_sub S S.length (Nat.le_refl _)).trans (List.take_sublist _ _)
  have uM := uS.sub (vals_sub subM)
  have cM := accK_ch uS S.length (Nat.le_refl _)
  have sM := accK_sat uS hs
  have un := ch_uni cM uM
  have mm : ∀ d, d ∈ vals (accK S S.length) ↔ d ∈ T := fun d => ⟨fun hd => sub_of cM (fun e he => (pS.map Prod.snd).mem_iff.mp ((vals_sub subM).subset he)) sT d hd, fun hd => sub_of cT (fun e he => (pS.map Prod.snd).mem_iff.mpr (hT e he)) sM d hd⟩
  have pm : (accK S S.length).Perm F := by
    refine (List.perm_ext_iff_of_nodup (subM.nodup (nodup_of uS)) nF).mpr fun x => ?_
    rw [hF]
    constructor
    · intro hx
      exact ⟨pS.mem_iff.mp (subM.subset hx), (mm x.2).mp (List.mem_map.mpr ⟨x, hx, rfl⟩)⟩
    · rintro ⟨hx, hxT⟩
      obtain ⟨y, hy, e⟩ := List.mem_map.mp ((mm x.2).mpr hxT)
      have hyL := pS.mem_iff.mp (subM.subset hy)
      have : y = x := by
        have uu := u.uni
        unfold vals at uu
        rw [List.pairwise_map] at uu
        have inj : ∀ {A : LT}, (A.Pairwise fun a b => nmK a.2 ≠ nmK b.2) → ∀ {a b : Addr × Dd}, a ∈ A → b ∈ A → nmK a.2 = nmK b.2 → a = b := by
          intro A
          induction A with
          | nil => intro _ a b ha; exact absurd ha (by simp)
          | cons z A ih =>
            intro uz a b ha hb hab
            rw [List.pairwise_cons] at uz
            rcases List.mem_cons.mp ha with z1 | ha'
            · rcases List.mem_cons.mp hb with z2 | hb'
              · rw [z1, z2]
              · exact absurd (z1 ▸ hab) (uz.1 b hb')
            · rcases List.mem_cons.mp hb with z2 | hb'
              · exact absurd (z2 ▸ hab).symm (uz.1 a ha')
              · exact ih uz.2 ha' hb' hab
        exact inj uu hyL hx (by rw [e])
      rw [← this]
      exact hy
  refine ⟨strict_of (hs.sublist (vals_sub subM)) un, pm, ?_⟩
  exact un.perm (pm.map Prod.snd) fun {x y} h e => (h e.symm).symm
/-! ### how the deeds come about -/
structure Gen (n : Nat) (cl : List (List Int)) (L : List Dd) : Prop where
  cn : cl.length = n
  cc : ∀ g, g < n → (clk cl g).length = n
  pos : ∀ g, g < n → ∀ i, i < n → 0 ≤ cellZ (clk cl g) i
  un : UN n L
  low : ∀ d ∈ L, cellZ d.ns d.h ≤ cellZ (clk cl d.h) d.h
theorem Gen.start (n : Nat) : Gen n (List.replicate n (List.replicate n (0 : Int))) [] := by
  refine ⟨List.length_replicate .., fun g hg => by rw [clk_rep hg, List.length_replicate], fun g hg i hi => ?_, ⟨fun d hd => absurd hd (by simp), fun d hd => absurd hd (by simp), .nil⟩, fun d hd => absurd hd (by simp)⟩
  rw [clk_rep hg, cell_rep]
  omega
theorem Gen.met {n : Nat} {cl : List (List Int)} {L : List Dd} (g : Gen n cl L) {h o : Nat} (hh : h < n) (ho : o < n) : Gen n (cl.set h (mx (clk cl h) (clk cl o) n)) L := by
  have hc : h < cl.length := by rw [g.cn]; exact hh
  refine ⟨by rw [List.length_set]; exact g.cn, fun q hq => ?_, fun q hq i hi => ?_, g.un, fun d hd => ?_⟩
  · rw [clk_set hc]
    split
    · exact mx_len
    · exact g.cc q hq
  · rw [clk_set hc]
    split
    · rw [mx_cell hi]
      have := g.pos h hh i hi
      split <;> omega
    · exact g.pos q hq i hi
  · have lo := g.low d hd
    rw [clk_set hc]
    split
    · rename_i e
      rw [e] at lo ⊢
      rw [mx_cell hh]
      split <;> omega
    · exact lo
theorem Gen.up {n : Nat} {cl : List (List Int)} {L : List Dd} (g : Gen n cl L) {h : Nat} (hh : h < n) : Gen n (cl.set h ((clk cl h).set h (cellZ (clk cl h) h + 1))) L ∧ ∀ (ns : List Int) (w : Option Int), ns.length = n → cellZ ns h = cellZ (clk cl h) h + 1 → Gen n (cl.set h ((clk cl h).set h (cellZ (clk cl h) h + 1))) (L ++ [⟨h, ns, w⟩]) := by
  have hc : h < cl.length := by rw [g.cn]; exact hh
  have hl : h < (clk cl h).length := by rw [g.cc h hh]; exact hh
  have h0 := g.pos h hh h hh
  have cs : ∀ i, cellZ ((clk cl h).set h (cellZ (clk cl h) h + 1)) i = if i = h then cellZ (clk cl h) h + 1 else cellZ (clk cl h) i := fun i => cell_set hl
  have base : Gen n (cl.set h ((clk cl h).set h (cellZ (clk cl h) h + 1))) L := by
    refine ⟨by rw [List.length_set]; exact g.cn, fun q hq => ?_, fun q hq i hi => ?_, g.un, fun d hd => ?_⟩
    · rw [clk_set hc]
      split
      · rw [List.length_set, g.cc h hh]
      · exact g.cc q hq
    · rw [clk_set hc]
      split
      · rw [cs]
        split
        · omega
        · exact g.pos h hh i hi
      · exact g.pos q hq i hi
    · have lo := g.low d hd
      rw [clk_set hc]
      split
      · rename_i e
        rw [e] at lo ⊢
        rw [cs, if_pos rfl]
        omega
      · exact lo
  refine ⟨base, fun ns w ln ow => ⟨base.cn, base.cc, base.pos, ⟨fun d hd => ?_, fun d hd => ?_, ?_⟩, fun d hd => ?_⟩⟩
  · rcases List.mem_append.mp hd with hd | hd
    · exact g.un.len d hd
    · rw [List.mem_singleton.mp hd]
      exact ⟨ln, hh⟩
  · rcases List.mem_append.mp hd with hd | hd
    · exact g.un.own d hd
    · rw [List.mem_singleton.mp hd]
      show 0 < cellZ ns h
      omega
  · refine List.pairwise_append.mpr ⟨g.un.uni, List.pairwise_singleton _ _, fun d hd e he z => ?_⟩
    rw [List.mem_singleton.mp he] at z
    obtain ⟨z1, z2⟩ := nmK_inj z
    have z1' : d.h = h := z1
    have z2' : cellZ d.ns d.h = cellZ ns h := z2
    have := g.low d hd
    rw [z2', z1'] at this
    omega
  · rcases List.mem_append.mp hd with hd | hd
    · exact base.low d hd
    · rw [List.mem_singleton.mp hd]
      show cellZ ns h ≤ cellZ (clk _ h) h
      rw [clk_set hc, if_pos rfl, cs, if_pos rfl]
      omega
/-! ### how deeds lie in the heap -/
def WR (H : Hp) (v : V) : Option Int → Prop
  | none => ∃ p, v = .ref p ∧ H p = some (.tup [.str "none"])
  | some m => ∃ p q, v = .ref p ∧ H p = some (.tup [.str "put", .non, .ref q, .str ""]) ∧ H q = some (.tup ([m].map V.int))
def DR (H : Hp) (a : Addr) (d : Dd) : Prop := ∃ (c : Addr) (v : V), H a = some (.tup [.int (d.h : Int), .ref c, v]) ∧ H c = some (.tup (d.ns.map V.int)) ∧ WR H v d.w ∧ d.h < d.ns.length ∧ d.ns.length ≤ 8
def refs (L : LT) : List V := L.map fun x => V.ref x.1
theorem refs_len (L : LT) : (refs L).length = L.length := List.length_map ..
theorem vals_len (L : LT) : (vals L).length = L.length := List.length_map ..
def LR (H : Hp) (l : Addr) (L : LT) : Prop := H l = some (.lst (refs L)) ∧ ∀ x ∈ L, DR H x.1 x.2
/-- all tuples stay -/
def TS (H H' : Hp) : Prop := ∀ a zs, H a = some (.tup zs) → H' a = some (.tup zs)
theorem Same.ts {H H' : Hp} (e : Same H H') : TS H H' := fun a zs h => e a _ h
theorem TS.trans {H H' H2 : Hp} (e : TS H H') (f : TS H' H2) : TS H H2 := fun a zs h => f a zs (e a zs h)
theorem sameT_ts {T : Addr} {H H' : Hp} (hT : ∀ zs, H T ≠ some (.tup zs)) (s : SameT T H H') : TS H H' := fun a zs h => s a _ h fun z => hT zs (by rw [← z]; exact h)
theorem ts_upd {H : Hp} {p : Addr} {o : HO} (hp : ∀ zs, H p ≠ some (.tup zs)) : TS H (upd H p o) := fun a zs h => by
  rw [upd_ne (fun z => hp zs (by rw [← z]; exact h))]
  exact h
theorem WR.ts {H H' : Hp} {v : V} {w : Option Int} (x : WR H v w) (e : TS H H') : WR H' v w := by
  cases w with
  | none =>
    obtain ⟨p, h1, h2⟩ := x
    exact ⟨p, h1, e _ _ h2⟩
  | some w =>
    obtain ⟨p, q, h1, h2, h3⟩ := x
    exact ⟨p, q, h1, e _ _ h2, e _ _ h3⟩
theorem DR.ts {H H' : Hp} {a : Addr} {d : Dd} (x : DR H a d) (e : TS H H') : DR H' a d := by
  obtain ⟨c, v, h1, h2, h3, h4⟩ := x
  exact ⟨c, v, e _ _ h1, e _ _ h2, h3.ts e, h4⟩
theorem DR.same {H H' : Hp} {a : Addr} {d : Dd} (x : DR H a d) (e : Same H H') : DR H' a d := x.ts (Same.ts e)
theorem LR.same {H H' : Hp} {l : Addr} {L : LT} (x : LR H l L) (e : Same H H') : LR H' l L := ⟨e _ _ x.1, fun y hy => (x.2 y hy).same e⟩
theorem at0 {x : V} {r : List V} : atI (x :: r) 0 = some x := atI_nat (xs := x :: r) (j := 0) rfl
theorem at1 {x y : V} {r : List V} : atI (x :: y :: r) 1 = some y := atI_nat (xs := x :: y :: r) (j := 1) rfl
theorem nat_cell {ns : List Int} {k : Nat} (h : k < ns.length) : atI (ns.map V.int) (k : Int) = some (.int (cellZ ns k)) := by
  have := atI_cell (ns := ns) (k := (k : Int)) (by omega) (by omega)
  rw [show ((k : Int)).toNat = k by omega] at this
  exact this
theorem refs_get {L : LT} {k : Nat} {x : V} (h : (refs L)[k]? = some x) : ∃ hk : k < L.length, x = .ref L[k].1 := by
  have hk : k < L.length := by
    have := (List.getElem?_eq_some_iff.mp h).1
    rw [refs_len] at this
    exact this
  refine ⟨hk, ?_⟩
  unfold refs at h
  rw [List.getElem?_map, List.getElem?_eq_getElem hk] at h
  exact (Option.some.inj h).symm
def wD : Option Int → PyData
  | none => .tuple [.str "none"]
  | some m => .tuple [.str "put", .none, .tuple [.int m], .str ""]
def dD (d : Dd) : PyData := .tuple [.int (d.h : Int), .tuple (d.ns.map .int), wD d.w]
theorem dt_ints {H : Hp} : ∀ ns : List Int, DtAll H (ns.map .int) (ns.map V.int)
  | [] => by simp [DtAll]
  | n :: ns => by
    show DtAll H (PyData.int n :: ns.map .int) (V.int n :: ns.map V.int)
    simp only [DtAll]
    exact ⟨_, _, rfl, by simp only [Dt], dt_ints ns⟩
theorem WR.dt {H : Hp} {v : V} {w : Option Int} (x : WR H v w) : Dt H (wD w) v := by
  cases w with
  | none =>
    obtain ⟨p, rfl, h2⟩ := x
    unfold wD
    simp only [Dt, DtAll]
    exact ⟨p, _, rfl, .inl h2, _, _, rfl, rfl, rfl⟩
  | some w =>
    obtain ⟨p, q, rfl, h2, h3⟩ := x
    unfold wD
    simp only [Dt, DtAll]
    exact ⟨p, _, rfl, .inl h2, _, _, rfl, rfl, _, _, rfl, rfl, _, _, rfl, ⟨q, _, rfl, .inl h3, _, _, rfl, rfl, rfl⟩, _, _, rfl, rfl, rfl⟩
theorem DR.dt {H : Hp} {a : Addr} {d : Dd} (x : DR H a d) : Dt H (dD d) (.ref a) := by
  obtain ⟨c, v, h1, h2, h3, _⟩ := x
  have dw := h3.dt
  have dn := dt_ints (H := H) d.ns
  unfold dD
  simp only [Dt, DtAll]
  exact ⟨a, _, rfl, .inl h1, _, _, rfl, rfl, _, _, rfl, ⟨c, _, rfl, .inl h2, dn⟩, _, _, rfl, dw, rfl⟩
theorem dt_all {H : Hp} : ∀ {L : LT}, (∀ x ∈ L, DR H x.1 x.2) → DtAll H ((vals L).map dD) (refs L)
  | [], _ => by simp [DtAll, vals, refs]
  | x :: L, h => by
    show DtAll H (dD x.2 :: (vals L).map dD) (V.ref x.1 :: refs L)
    simp only [DtAll]
    exact ⟨_, _, rfl, (h x (by simp)).dt, dt_all fun y hy => h y (by simp [hy])⟩
theorem LR.dt {H : Hp} {l : Addr} {L : LT} (x : LR H l L) : Dt H (.list ((vals L).map dD)) (.ref l) := by
  simp only [Dt]
  exact ⟨l, _, rfl, .inl x.1, dt_all x.2⟩
def WOk (_ : Option Int) : Prop := True
theorem WR.ok {H : Hp} {v : V} {w : Option Int} (_ : WR H v w) : WOk w := trivial
theorem lay_ints : ∀ ns : List Int, PyData.canLayAll0 (ns.map .int) = true ∧ PyData.depthAll (ns.map .int) ≤ 1
  | [] => ⟨rfl, by simp [PyData.depthAll]⟩
  | n :: ns => by
    obtain ⟨h1, h2⟩ := lay_ints ns
    simp only [List.map_cons, PyData.canLayAll0, PyData.depthAll, PyData.canLay0, PyData.depth, h1]
    exact ⟨rfl, by omega⟩
theorem lay_w {w : Option Int} (h : WOk w) : (wD w).canLay0 = true ∧ (wD w).depth ≤ 3 := by
  cases w with
  | none => exact ⟨by simp [wD, PyData.canLay0, PyData.canLayAll0]; decide +kernel, by simp [wD, PyData.depth, PyData.depthAll]⟩
  | some w =>
    refine ⟨?_, by simp [wD, PyData.depth, PyData.depthAll]⟩
    simp [wD, PyData.canLay0, PyData.canLayAll0]
    decide +kernel
theorem lay_d {d : Dd} (h : WOk d.w) : (dD d).canLay0 = true ∧ (dD d).depth ≤ 4 := by
  obtain ⟨a1, a2⟩ := lay_ints d.ns
  obtain ⟨b1, b2⟩ := lay_w h
  unfold dD
  simp only [PyData.canLay0, PyData.canLayAll0, PyData.depth, PyData.depthAll, a1, b1]
  exact ⟨rfl, by omega⟩
theorem lay_all : ∀ {L : List Dd}, (∀ d ∈ L, WOk d.w) → PyData.canLayAll0 (L.map dD) = true ∧ PyData.depthAll (L.map dD) ≤ 5
  | [], _ => ⟨rfl, by simp [PyData.depthAll]⟩
  | x :: L, h => by
    obtain ⟨h1, h2⟩ := lay_all (L := L) fun r hr => h r (by simp [hr])
    obtain ⟨h3, h4⟩ := lay_d (h x (by simp))
    simp only [List.map_cons, PyData.canLayAll0, PyData.depthAll, h1, h3]
    exact ⟨rfl, by omega⟩
theorem LR.ok {H : Hp} {l : Addr} {L : LT} (x : LR H l L) : ∀ d ∈ vals L, WOk d.w := fun r hr => by
  obtain ⟨y, hy, rfl⟩ := List.mem_map.mp hr
  obtain ⟨_, _, _, _, h3, _⟩ := x.2 y hy
  exact h3.ok
theorem shaped_all {L : List Dd} (h : ∀ d ∈ L, WOk d.w) : SeqAt.shaped (.list (L.map dD)) = true := by
  obtain ⟨h1, h2⟩ := lay_all h
  unfold SeqAt.shaped
  rw [Bool.and_eq_true]
  refine ⟨by simpa [PyData.canLay0] using h1, decide_eq_true ?_⟩
  simp only [PyData.depth]
  omega
theorem eqv_all {L : List Dd} (h : ∀ d ∈ L, WOk d.w) : PyData.eqv (.list (L.map dD)) (.list (L.map dD)) = true := SeqAt.eqv_refl _ (by simpa [PyData.canLay0] using (lay_all h).1)
/-! ### what the defs answer -/
def spWithin : Sp := fun vs H Q _ => ∃ (a b : Addr) (ns ms : List Int), vs = [.ref a, .ref b] ∧ H a = some (.tup (ns.map V.int)) ∧ H b = some (.tup (ms.map V.int)) ∧ ns.length = ms.length ∧ ns.length ≤ 8 ∧ ∀ H', Same H H' → Q (.bl (withinB ns ms)) H'
def spName : Sp := fun vs H Q _ => ∃ (a : Addr) (d : Dd), vs = [.ref a] ∧ DR H a d ∧ ∀ p H', Same H H' → H' p = some (.tup ((nmZ d).map V.int)) → Q (.ref p) H'
def NA (H : Hp) (d : Dd) (as : List Addr) (is : List Nat) : Prop := as.length = is.length ∧ ∀ (k : Nat) (b : Addr) (i : Nat), as[k]? = some b → is[k]? = some i → H b = some (.tup ([(i : Int), lastZ d i].map V.int))
def spAsked : Sp := fun vs H Q _ => ∃ (a : Addr) (d : Dd), vs = [.ref a] ∧ DR H a d ∧ ∀ p H' as, Same H H' → H' p = some (.lst (as.map V.ref)) → NA H' d as (asks d) → Q (.ref p) H'
def spAnsw : Sp := fun vs H Q _ => ∃ (a nm r : Addr) (d : Dd) (i : Nat) (R : LT) (n : Nat), vs = [.ref a, .ref nm, .ref r] ∧ DR H a d ∧ H nm = some (.tup ([(i : Int), lastZ d i].map V.int)) ∧ H r = some (.dT (kvsOf R)) ∧ (∀ x ∈ R, DR H x.1 x.2) ∧ (∀ x ∈ R, x.2.ns.length = n) ∧ d.ns.length = n ∧ ∀ H', Same H H' → Q (.bl (ansB (vals R) d i)) H'
theorem val_kvs (R : LT) (k : List Key) : valV (kvsOf R) k = (R.find? fun x => decide (nmK x.2 = k)).map fun x => V.ref x.1 := by
  unfold valV kvsOf
  rw [List.find?_map, Option.map_map]
  rfl
theorem find_vals (R : LT) (k : List Key) : (vals R).find? (fun e => decide (nmK e = k)) = (R.find? fun x => decide (nmK x.2 = k)).map Prod.snd := by
  unfold vals
  rw [List.find?_map]
  rfl
def spCell (K : PySem.W.Frag) : Sp := fun vs H Q _ => ∃ (a : Addr) (ns : List Int) (k : Int), vs = [.ref a, .int k] ∧ SqL K H a (ns.map V.int) ∧ 0 ≤ k ∧ Q (.int (cellZ ns k.toNat)) H
def spKey : Sp := fun vs H Q _ => ∃ (a : Addr) (d : Dd), vs = [.ref a] ∧ DR H a d ∧ ∀ p H', Same H H' → H' p = some (.tup ((kyZ d).map V.int)) → Q (.ref p) H'
section
variable {P : Program} {w : World} {K : PySem.W.Frag} {mg : Str → Option Value} {base : Heap}
abbrev s_within : Stmt := top 1
abbrev N_within : List Str := ["one", "other"]
theorem sc_within : FnScope N_within ["one", "other"] (defScope s_within) := ⟨rfl, rfl, rfl, by decide +kernel, rfl, by decide +kernel, by decide +kernel⟩
theorem ok_within {f : Addr} {fd : FuncData} (F : Fun K "within" "within" s_within f fd) (z_all : mg "all" = none) (z_zip : mg "zip" = none) : FnOk P w K mg base CX0 1 f fd ["one", "other"] spWithin := by
  refine F.okQ sc_within (fun vs H Q E h => ?_) (fun cdv A outer s H vs Q E hr h => ?_)
  · obtain ⟨a, b, ns, ms, rfl, _⟩ := h
    rfl
  obtain ⟨a, b, ns, ms, rfl, hA, hB, hl, h8, q⟩ := h
  refine ⟨_, (b_1 (s_ret (q_B (c_all rfl) z_all boot_all' (q_a (q_comp (own := ["mine", "yours"]) (⟨rfl, by decide +kernel, by decide +kernel, rfl, trivial⟩ : CompOk _ _ [] []) rfl (i_zip z_zip (q_a (q_v 0) (q_a (q_v 1) q_a0))) (fun _ _ _ _ => gK_tup (K := K) (n := 2) rfl rfl (gs_1 (g_name (i := 0) (show (["mine", "yours"] : List Str).Nodup by decide +kernel)) (gs_1 (g_name (i := 1) (show (["mine", "yours"] : List Str).Nodup by decide +kernel)) gs_0))) (gk_tup (gks_cons (gk_name (by decide)) gm_name (gks_cons (gk_name (by decide)) gm_name gks_nil gms_nil) (gms_cons gm_name gms_nil))) (fun _ _ _ _ => if_0) (fun _ _ _ _ => (q_cmp o_le (q_v 0) (q_v 1)))) q_a0)))), ?_⟩
  refine ⟨_, rfl, _, rfl, a, b, _, _, rfl, SqT.of hA, SqT.of hB, by rw [List.length_map, List.length_map, hl], ?_⟩
  refine comp_zip (fun i => .bl (decide (cellZ ns i ≤ cellZ ms i))) (by rw [List.length_map]; omega) (SqT.of hA) (SqT.of hB) (by rw [List.length_map, List.length_map, hl]) (fun i x y H1 hx hy sm R k => ?_) (fun p H1 sm hp => ?_)
  · obtain ⟨rfl, _⟩ := int_item hx
    obtain ⟨rfl, _⟩ := int_item hy
    exact ⟨_, rfl, _, rfl, _, _, rfl, rfl, k H1 (Same.refl H1)⟩
  · rw [List.length_map]
    refine ⟨p, (List.range ns.length).map fun i => decide (cellZ ns i ≤ cellZ ms i), rfl, SqL.of ?_, q _ (sm.trans (same_new hp _))⟩
    rw [upd_same, List.map_map]
    rfl
abbrev s_name_of : Stmt := top 3
abbrev N_name_of : List Str := ["deed"]
theorem sc_name_of : FnScope N_name_of ["deed"] (defScope s_name_of) := ⟨rfl, rfl, rfl, by decide +kernel, rfl, by decide +kernel, by decide +kernel⟩
theorem ok_name_of {f : Addr} {fd : FuncData} (F : Fun K "name_of" "name_of" s_name_of f fd) : FnOk P w K mg base CX0 1 f fd ["deed"] spName := by
  refine F.okQ sc_name_of (fun vs H Q E h => ?_) (fun cdv A outer s H vs Q E hr h => ?_)
  · obtain ⟨a, d, rfl, _⟩ := h
    rfl
  obtain ⟨a, d, rfl, ⟨c, v, e1, e2, e3, e4, _⟩, q⟩ := h
  refine ⟨_, (b_1 (s_ret (q_tup (q_a (q_ix x_tup (q_v 0) q_int) (q_a (q_ix x_tup (q_ix x_tup (q_v 0) q_int) (q_ix x_tup (q_v 0) q_int)) q_a0))))), ?_⟩
  refine ⟨_, rfl, a, _, _, _, rfl, rfl, SqT.of e1, rfl, _, rfl, a, _, _, _, rfl, rfl, SqT.of e1, rfl, _, rfl, a, _, _, _, rfl, rfl, SqT.of e1, rfl, c, _, _, _, rfl, rfl, SqT.of e2, nat_cell e4, size63 (Nat.le_of_ble_eq_true rfl), fun p g => ?_⟩
  exact q p _ (same_new g _) upd_same
abbrev s_is_answered : Stmt := top 7
abbrev N_is_answered : List Str := ["deed", "name", "ready"]
theorem sc_is_answered : FnScope N_is_answered ["deed", "name", "ready"] (defScope s_is_answered) := ⟨rfl, rfl, rfl, by decide +kernel, rfl, by decide +kernel, by decide +kernel⟩
theorem ok_is_answered {f : Addr} {fd : FuncData} (F : Fun K "is_answered" "is_answered" s_is_answered f fd) (F_within : Fn P w K mg base 1 "within" ["one", "other"] spWithin) : FnOk P w K mg base CX0 2 f fd ["deed", "name", "ready"] spAnsw := by
  refine F.okQ sc_is_answered (fun vs H Q E h => ?_) (fun cdv A outer s H vs Q E hr h => ?_)
  · obtain ⟨a, nm, r, d, i, R, n, rfl, _⟩ := h
    rfl
  obtain ⟨a, nm, r, d, i, R, n, rfl, hd, hn, hr', hR, hRn, hdn, q⟩ := h
  have key : DGet H r (.ref nm) (valV (kvsOf R) [.inl (i : Int), .inl (lastZ d i)]) := .inr ⟨kvsOf R, [.inl (i : Int), .inl (lastZ d i)], nm, .inl hr', rfl, hn, rfl⟩
  obtain ⟨c, v, d1, d2, d3, d4, d5⟩ := id hd
  refine ⟨_, (b_1 (s_ret (q_and (q_din hr.units (q_v 1) (q_v 2)) (q_one (q_fn F_within (hr.mono (by decide)) (q_a (q_ix x_tup (q_dget hr.units (q_v 2) (q_v 1)) q_int) (q_a (q_ix x_tup (q_v 0) q_int) q_a0))))))), ?_⟩
  rw [val_kvs] at key
  unfold ansB at q
  rw [find_vals] at q
  cases hf : R.find? (fun x => decide (nmK x.2 = [.inl (i : Int), .inl (lastZ d i)])) with
  | none =>
    rw [hf] at key q
    refine ⟨_, rfl, _, rfl, r, _, rfl, key, false, rfl, iteF ?_⟩
    exact q H (Same.refl H)
  | some x =>
    rw [hf] at key q
    have hm := List.mem_of_find?_eq_some hf
    obtain ⟨c', v', f1, f2, f3, f4, f5⟩ := hR x hm
    refine ⟨_, rfl, _, rfl, r, _, rfl, key, true, rfl, iteT ?_⟩
    refine ⟨_, rfl, _, rfl, r, _, rfl, key, x.1, _, _, _, rfl, rfl, SqT.of f1, at1, _, rfl, a, _, _, _, rfl, rfl, SqT.of d1, at1, c', c, x.2.ns, d.ns, rfl, f2, d2, by rw [hRn x hm, hdn], f5, fun H' s' => ?_⟩
    exact q H' s'
abbrev s_asked_by : Stmt := top 6
abbrev N_asked_by : List Str := ["deed", "names", "hand", "number", "last"]
theorem sc_asked_by : FnScope N_asked_by ["deed"] (defScope s_asked_by) := ⟨rfl, rfl, rfl, by decide +kernel, rfl, by decide +kernel, by decide +kernel⟩
theorem filt_snoc (d : Dd) (k : Nat) : (List.range (k + 1)).filter (fun i => decide (lastZ d i > 0)) = (List.range k).filter (fun i => decide (lastZ d i > 0)) ++ if lastZ d k > 0 then [k] else [] := by
  rw [List.range_succ, List.filter_append]
  congr 1
  by_cases c : lastZ d k > 0
  · rw [if_pos c, List.filter_cons, if_pos (by simpa using c), List.filter_nil]
  · rw [if_neg c, List.filter_cons, if_neg (by simpa using c), List.filter_nil]
theorem NA.snoc {H H' : Hp} {d : Dd} {as : List Addr} {is : List Nat} {b : Addr} {i : Nat} (h : NA H d as is) (t : TS H H') (hb : H' b = some (.tup ([(i : Int), lastZ d i].map V.int))) : NA H' d (as ++ [b]) (is ++ [i]) := by
  refine ⟨by simp [h.1], fun k c j h1 h2 => ?_⟩
  rcases Nat.lt_or_ge k as.length with c1 | c1
  · rw [List.getElem?_append_left c1] at h1
    rw [List.getElem?_append_left (by rw [← h.1]; exact c1)] at h2
    exact t _ _ (h.2 k c j h1 h2)
  · rw [List.getElem?_append_right c1] at h1
    rw [List.getElem?_append_right (by rw [← h.1]; exact c1), ← h.1] at h2
    have e : k - as.length = 0 := by
      have := (List.getElem?_eq_some_iff.mp h1).1
      simp at this
      omega
    rw [e] at h1 h2
    cases h1
    cases h2
    exact hb
theorem NA.ts {H H' : Hp} {d : Dd} {as : List Addr} {is : List Nat} (h : NA H d as is) (t : TS H H') : NA H' d as is := ⟨h.1, fun k c j h1 h2 => t _ _ (h.2 k c j h1 h2)⟩
theorem ok_asked_by {f : Addr} {fd : FuncData} (F : Fun K "asked_by" "asked_by" s_asked_by f fd) (z_enumerate : mg "enumerate" = none) : FnOk P w K mg base CX0 1 f fd ["deed"] spAsked := by
  refine F.okQ sc_asked_by (fun vs H Q E h => ?_) (fun cdv A outer s H vs Q E hr h => ?_)
  · obtain ⟨a, d, rfl, _⟩ := h
    rfl
  obtain ⟨a, d, rfl, hd, q⟩ := h
  obtain ⟨c, v, e1, e2, e3, e4, e5⟩ := id hd
  refine ⟨_, (b_c (s_set (i := 1) sc_asked_by.nd (q_lst q_a0))
      (b_c (s_for PassesOwn.never rfl (i_enumT z_enumerate (q_a (q_ix x_tup (q_v 0) q_int) q_a0)) (g_tup rfl (gs_1 (g_name (i := 2) sc_asked_by.nd) (gs_1 (g_name (i := 3) sc_asked_by.nd) gs_0))) (b_c (s_set (i := 4) sc_asked_by.nd (q_if (t_cmp o_eq (q_v 2) (q_ix x_tup (q_v 0) q_int)) (q_op o_sub (q_v 3) q_int) (q_v 3)))
      (b_1 (s_if (t_cmp o_gt (q_v 4) q_int) (b_1 (s_expr (q_app (q_v 1) (q_tup (q_a (q_v 2) (q_a (q_v 4) q_a0)))))) b_0))))
      (b_1 (s_ret (q_v 1))))), ?_⟩
  refine ⟨size63 (Nat.le_of_ble_eq_true rfl), fun p g => ?_⟩
  have s0 := same_new g (.lst [])
  refine ⟨_, rfl, a, _, _, _, rfl, rfl, SqT.of (s0 _ _ e1), at1, c, _, rfl, s0 _ _ e2, ?_⟩
  refine for_enumT (i := 2) (j := 3) (fun k σ H' => Same H H' ∧ (∃ o2 o3 o4, σ = [some (.ref a), some (.ref p), o2, o3, o4]) ∧ ∃ as, H' p = some (.lst (as.map V.ref)) ∧ NA H' d as ((List.range k).filter fun i => decide (lastZ d i > 0))) ⟨s0, ⟨none, none, none, rfl⟩, [], upd_same, rfl, fun k b i h1 => by simp at h1⟩ (fun i σ H' _ ⟨sm, _⟩ => SqT.of (sm _ _ e2)) (fun k x σ H1 hx ⟨sm, ⟨o2, o3, o4, eσ⟩, as, hp, na⟩ T hT => ?_) (fun σ H1 ⟨sm, ⟨o2, o3, o4, eσ⟩, as, hp, na⟩ => ?_)
  · subst eσ
    obtain ⟨rfl, hk⟩ := int_item hx
    have sT := same_new hT (.tup [.int (k : Int), .int (cellZ d.ns k)])
    have m1 := sT _ _ (sm _ _ e1)
    have pT := sT _ _ hp
    have go : ∀ (z : Int) (D : Ends), z = lastZ d k → (∀ σ' H', (Same H H' ∧ (∃ o2 o3 o4, σ' = [some (.ref a), some (.ref p), o2, o3, o4]) ∧ ∃ as, H' p = some (.lst (as.map V.ref)) ∧ NA H' d as ((List.range (k + 1)).filter fun i => decide (lastZ d i > 0))) → D.nx σ' H') →
        tIfS (tTest (tOp (rI0 fun i j => V.bl (decide (j < i))) (tVar 4) (tC (V.int 0)))) (tDrop (tBM K "list" rAppend (tVar 1) (tCons (tTup (tCons (tVar 2) (tCons (tVar 4) tNil))) tNil))) tNext D [some (.ref a), some (.ref p), some (.int (k : Int)), some (.int (cellZ d.ns k)), some (.int z)] (upd H1 T (.tup [.int (k : Int), .int (cellZ d.ns k)])) := fun z D hz hD => by
      refine ⟨_, rfl, _, _, rfl, rfl, _, rfl, iteD (fun hc => ?_) fun hc => ?_⟩
      · refine ⟨_, rfl, .inl ⟨rfl, _, SqL.of pT⟩, _, rfl, _, rfl, size63 (Nat.le_of_ble_eq_true rfl), fun b gb => ?_⟩
        have sB := same_new gb (.tup [.int (k : Int), .int z])
        have pB := sB _ _ pT
        refine ⟨p, _, _, rfl, rfl, pB, ?_, ?_⟩
        · have := na.1
          have l1 : ((List.range k).filter fun i => decide (lastZ d i > 0)).length ≤ k := by
            have := List.length_filter_le (fun i => decide (lastZ d i > 0)) (List.range k)
            rw [List.length_range] at this
            exact this
          rw [List.length_map]
          exact size63 (by omega)
        · refine hD _ _ ⟨?_, ⟨_, _, _, rfl⟩, as ++ [b], ?_, ?_⟩
          · exact fun b' o hb => by
              rw [upd_ne (ne_of_none hb g)]
              exact sB _ _ (sT _ _ (sm _ _ hb))
          · rw [upd_same, List.map_append]
            rfl
          · rw [filt_snoc, if_pos (by omega)]
            refine na.snoc ?_ ?_
            · exact (Same.ts sT).trans ((Same.ts sB).trans (ts_upd fun zs e => by rw [pB] at e; cases e))
            · rw [upd_ne (fun e => by rw [← e, upd_same] at pB; cases pB), upd_same, hz]
              rfl
      · refine hD _ _ ⟨sm.trans sT, ⟨_, _, _, rfl⟩, as, pT, ?_⟩
        rw [filt_snoc, if_neg (by omega), List.append_nil]
        exact na.ts (Same.ts sT)
    refine ⟨_, rfl, _, rfl, a, _, _, _, rfl, rfl, SqT.of m1, at0, rfl, _, rfl, iteI (fun ek => ?_) fun ek => ?_⟩
    · refine ⟨_, rfl, _, _, rfl, rfl, go _ _ ?_ fun σ' H' z => z⟩
      unfold lastZ
      rw [if_pos (by omega)]
    · refine ⟨_, rfl, go _ _ ?_ fun σ' H' z => z⟩
      unfold lastZ
      rw [if_neg (by omega)]
  · subst eσ
    exact ⟨_, rfl, q p H1 as sm hp (by unfold asks; rw [List.length_map] at na; exact na)⟩

/-! ### the lambda of ready_of, and ready_of -/
abbrev s_ready_of : Stmt := top 5
abbrev N_ready_of : List Str := ["deeds", "ready", "deed"]
theorem sc_ready_of : FnScope N_ready_of ["deeds"] (defScope s_ready_of) := ⟨rfl, rfl, rfl, by decide +kernel, rfl, by decide +kernel, by decide +kernel⟩
abbrev qLam : Str := (("ready_of" : Str) ++ ".<locals>.") ++ "<lambda>"
def iterE : Stmt → Expr
  | .For _ it _ _ _ => it
  | .Assign _ e _ => e
  | _ => .Name "" ⟨0, 0, 0, 0⟩
def lamE : Expr → Expr
  | .Call _ _ (k :: _) _ => k.value
  | e => e
def lamB : Expr → Expr
  | .Lambda _ b _ _ => b
  | e => e
def lamS : Expr → Scope
  | .Lambda _ _ s _ => s
  | _ => default
def lamP : Expr → Pos
  | .Lambda _ _ _ p => p
  | _ => ⟨0, 0, 0, 0⟩
abbrev lamX : Expr := lamE (iterE ((defBody s_ready_of).getD 1 (.Pass ⟨0, 0, 0, 0⟩)))
theorem lam1_ready_of (z_sum : mg "sum" = none) : LamOk P w K mg base 1 qLam (lamB lamX) (lamS lamX) "each" spKey := by
  refine ⟨["each"], ⟨rfl, rfl, rfl, by decide +kernel, rfl, by decide +kernel, by decide +kernel⟩, fun vs H Q E h => ?_, fun f c' A outer s H vs Q E hr h => ?_⟩
  · obtain ⟨a, d, rfl, _⟩ := h
    rfl
  obtain ⟨a, d, rfl, ⟨c, v, e1, e2, e3, e4, e5⟩, q⟩ := h
  refine ⟨_, (q_tup (q_a (q_B (c_sumT (K := K) rfl rfl) z_sum PyProof.Rows.boot_sum (q_a (q_ix x_tup (q_v 0) q_int) q_a0)) (q_a (q_ix x_tup (q_v 0) q_int) q_a0))), ?_⟩
  refine ⟨_, rfl, a, _, _, _, rfl, rfl, SqT.of e1, at1, c, d.ns, rfl, SqT.of e2, _, rfl, a, _, _, _, rfl, rfl, SqT.of e1, at0, size63 (Nat.le_of_ble_eq_true rfl), fun p g => ?_⟩
  exact q p _ (same_new g _) upd_same
def spReady (T : Addr) : Sp := fun vs H Q _ => ∃ (l : Addr) (L : LT) (n : Nat), vs = [.ref l] ∧ LR H l L ∧ L.length ≤ 63 ∧ n ≤ 8 ∧ UN n (vals L) ∧ LamTab qLam T (lamP lamX) H ∧
  ∀ D H' (S : LT), S.Perm L → ((vals S).Pairwise fun d e => ¬ kLt e d) → SameT T H H' → LamTab qLam T (lamP lamX) H' → H' D = some (.lst (refs (accK S S.length))) → H D = none → Q (.ref D) H'
theorem lamTab_same {q : Str} {T : Addr} {pos : Pos} {H H' : Hp} (h : LamTab q T pos H) (s : Same H H') : LamTab q T pos H' := by
  obtain ⟨ps, e1, e2, e3⟩ := h
  exact ⟨ps, s _ _ e1, e2, e3.imp id fun ⟨c, z1, z2⟩ => ⟨c, z1, s _ _ z2⟩⟩
theorem lamTab_but {q : Str} {T r : Addr} {pos : Pos} {H H' : Hp} (h : LamTab q T pos H) (s : SameT r H H') (hr : ∀ f, H r = some f → (∀ ps, f ≠ .tbl ps) ∧ ∀ c, f ≠ isCd c q) : LamTab q T pos H' := by
  obtain ⟨ps, e1, e2, e3⟩ := h
  exact ⟨ps, s _ _ e1 fun z => (hr _ (by rw [← z]; exact e1)).1 ps rfl, e2, e3.imp id fun ⟨c, z1, z2⟩ => ⟨c, z1, s _ _ z2 fun z => (hr _ (by rw [← z]; exact z2)).2 c rfl⟩⟩
theorem tab_nt {q : Str} {T : Addr} {pos : Pos} {H : Hp} (h : LamTab q T pos H) : ∀ zs, H T ≠ some (.tup zs) := fun zs e => by
  obtain ⟨ps, e1, _⟩ := h
  rw [e1] at e
  cases e
theorem refs_pick {L : LT} {is : List Nat} (h : ∀ i ∈ is, i < L.length) : (is.map fun i => (refs L).getD i .non) = refs (is.map fun i => L.getD i (0, D0)) := by
  unfold refs
  rw [List.map_map]
  apply List.map_congr_left
  intro i hi
  have hl := h i hi
  simp [hl]
theorem ok_ready_of {f c0 T : Addr} {fd : FuncData} (F : Fun K "ready_of" "ready_of" s_ready_of f fd) (hcode : fd.code = .ref c0) (C : CodeHd base c0 T) (B : Blt base mg) (F_asked_by : Fn P w K mg base 1 "asked_by" ["deed"] spAsked) (F_is_answered : Fn P w K mg base 2 "is_answered" ["deed", "name", "ready"] spAnsw) (F_name_of : Fn P w K mg base 1 "name_of" ["deed"] spName)
    (z_sum : mg "sum" = none) (z_sorted : mg "sorted" = none) (z_all : mg "all" = none) (z_list : mg "list" = none) : FnOk P w K mg base CX0 5 f fd ["deeds"] (spReady T) := by
  refine F.okC hcode sc_ready_of (fun vs H Q E h => ?_) (fun A outer s H vs Q E hr h => ?_)
  · obtain ⟨l, L, n, rfl, _⟩ := h
    rfl
  obtain ⟨l, L, n, rfl, hL, hz, hn, hg, tab, q⟩ := h
  refine ⟨_, (b_c (s_set (i := 1) sc_ready_of.nd q_d0T)
      (b_c (s_for PassesOwn.never rfl (i_list (q_sortZL rfl z_sorted rfl C B (lam1_ready_of z_sum) (hr.mono (by decide)) (q_a (q_v 0) q_a0))) (g_name (i := 2) sc_ready_of.nd) (b_1 (s_if (t_val (q_B (c_all rfl) z_all boot_all' (q_a (q_comp (own := ["name"]) (⟨rfl, by decide +kernel, by decide +kernel, rfl, ⟨rfl, rfl, ⟨rfl, rfl, trivial⟩⟩⟩ : CompOk _ _ [2, 1] ["deed", "ready"]) rfl (i_list (q_fn F_asked_by (hr.mono (by decide)) (q_a (q_v 2) q_a0))) (fun _ _ _ _ => g_name (i := 0) (show (["name", "deed", "ready"] : List Str).Nodup by decide +kernel)) (gk_name (by decide)) (fun _ _ _ _ => if_0) (fun _ _ _ _ => (q_fn F_is_answered (hr.mono (by decide)) (q_a (q_v 1) (q_a (q_v 0) (q_a (q_v 2) q_a0)))))) q_a0))) (b_1 (s_dput hr.units (q_v 1) (q_fn F_name_of (hr.mono (by decide)) (q_a (q_v 2) q_a0)) (q_v 2))) b_0)))
      (b_1 (s_ret (q_Ty (c_listV rfl) z_list boot_list (q_a (q_vals (q_v 1)) q_a0)))))), ?_⟩
  intro r gr
  have s0 := same_new gr (.dT [])
  have er0 : upd H r (.dT []) r = some (.dT []) := upd_same
  generalize upd H r (.dT []) = H0 at s0 er0 ⊢
  have L0 := hL.same s0
  have tab0 := lamTab_same tab s0
  have nt0 := tab_nt tab0
  have rT : r ≠ T := fun z => by
    obtain ⟨ps, e1, _⟩ := tab
    rw [z, e1] at gr
    cases gr
  refine ⟨_, rfl, l, refs L, L.map fun x => ZKey.t (kyZ x.2), rfl, .inl L0.1, tab0, by rw [refs_len]; omega, by rw [refs_len, List.length_map], .inr fun k hk => ?_, fun i v key H' hv hkey sT R kR => ?_, fun p H2 D hp hls sT tab2 gD => ?_⟩
  · obtain ⟨x, _, rfl⟩ := List.mem_map.mp hk
    exact ⟨_, rfl, by simp [kyZ]⟩
  · obtain ⟨hi, rfl⟩ := refs_get hv
    rw [List.getElem?_map, List.getElem?_eq_getElem hi] at hkey
    cases hkey
    exact ⟨_, _, rfl, (L0.2 _ (List.getElem_mem hi)).ts (sameT_ts nt0 sT), fun p' H'' s'' e'' => kR (.ref p') H'' s'' ⟨p', rfl, e''⟩⟩
  · rw [refs_len] at hp hls
    have pl : ∀ i ∈ p.toList, i < L.length := fun i hi => by
      have := (hp.mem_iff).mp (Array.mem_toList_iff.mp hi)
      simpa using this
    rw [refs_pick pl]
    have so := sorted_weak (f := Prod.snd) (z := ((0, D0) : Addr × Dd)) hp (by rw [List.map_map] at hls; exact hls)
    generalize (p.toList.map fun i => L.getD i (0, D0)) = M at so ⊢
    obtain ⟨sM, pM⟩ := so
    have gM : UN n (vals M) := hg.perm (pM.symm.map Prod.snd)
    have lM : M.length = L.length := pM.length_eq
    have er2 : H2 r = some (.dT []) := sT _ _ er0 rT
    have s3 := same_new gD (.lst (refs M))
    have eD : upd H2 D (.lst (refs M)) D = some (.lst (refs M)) := upd_same
    have er3 := s3 _ _ er2
    have nt2 := sameT_ts nt0 sT
    have M3 : ∀ x ∈ M, DR (upd H2 D (.lst (refs M))) x.1 x.2 := fun x hx => (L0.2 x (pM.mem_iff.mp hx)).ts (nt2.trans (Same.ts s3))
    have tab3 := lamTab_same tab2 s3
    have all3 : SameT T H (upd H2 D (.lst (refs M))) := fun b o e hb => s3 _ _ (sT _ _ (s0 _ _ e) hb)
    have hD0 : H D = none := by
      cases e : H D with
      | none => rfl
      | some o =>
        by_cases z : D = T
        · obtain ⟨ps, e1, _⟩ := tab2
          rw [← z, gD] at e1
          cases e1
        · have := sT _ _ (s0 _ _ e) z
          rw [gD] at this
          cases this
    have nDr : D ≠ r := fun z => by
      rw [z, er2] at gD
      cases gD
    generalize upd H2 D (.lst (refs M)) = H3 at *
    refine ⟨D, rfl, ⟨_, SqL.of eD⟩, for_list (fun k σ H' => (∃ o2, σ = [some (.ref l), some (.ref r), o2]) ∧ SameT r H3 H' ∧ H' r = some (.dT (kvsOf (accK M k)))) ⟨⟨none, rfl⟩, fun b o e _ => e, er3⟩ (fun i σ H' _ ⟨_, sr, _⟩ => SqL.of (sr _ _ eD nDr)) (fun k x σ H4 hx ⟨⟨o2, eσ⟩, sr, hr4⟩ => ?_) (fun σ H4 ⟨⟨o2, eσ⟩, sr, hr4⟩ => ?_)⟩
    · subst eσ
      obtain ⟨hk, rfl⟩ := refs_get hx
      have t4 : TS H3 H4 := sameT_ts (fun zs e => by rw [er3] at e; cases e) sr
      have M4 : ∀ x ∈ M, DR H4 x.1 x.2 := fun x hx => (M3 x hx).ts t4
      have dk := M4 _ (List.getElem_mem hk)
      have mk : M[k].2 ∈ vals M := List.mem_map.mpr ⟨M[k], List.getElem_mem hk, rfl⟩
      refine ⟨_, rfl, M[k].1, M[k].2, rfl, dk, fun p1 H5 as s5 e5 na => ?_⟩
      have la : as.length ≤ 8 := by
        rw [na.1]
        unfold asks
        have := List.length_filter_le (fun i => decide (lastZ M[k].2 i > 0)) (List.range M[k].2.ns.length)
        rw [List.length_range] at this
        have l8 := (gM.len _ mk).1
        omega
      have sub := (accK_sub M k (by omega)).trans (List.take_sublist k M)
      refine ⟨p1, rfl, ⟨_, SqL.of e5⟩, comp_list (fun j => .bl (ansB (vals (accK M k)) M[k].2 ((asks M[k].2).getD j 0))) (by rw [List.length_map]; omega) (SqL.of e5) (fun j x H6 hx s6 R kR => ?_) (fun p2 H6 s6 g6 => ?_)⟩
      · rw [List.getElem?_map] at hx
        obtain ⟨b, hb, rfl⟩ := Option.map_eq_some_iff.mp hx
        have hj : j < (asks M[k].2).length := by rw [← na.1]; exact (List.getElem?_eq_some_iff.mp hb).1
        have ej : (asks M[k].2).getD j 0 = (asks M[k].2)[j] := by simp [hj]
        have hbn := s6 _ _ (na.2 j b _ hb (List.getElem?_eq_getElem hj))
        rw [← ej] at hbn
        have hr6 := s6 _ _ (s5 _ _ hr4)
        have t6 : TS H4 H6 := (Same.ts s5).trans (Same.ts s6)
        exact ⟨_, rfl, _, rfl, _, rfl, M[k].1, b, r, M[k].2, (asks M[k].2).getD j 0, accK M k, n, rfl, dk.ts t6, hbn, hr6, fun x hx => (M4 x (sub.subset hx)).ts t6, fun x hx => (gM.len _ (List.mem_map.mpr ⟨x, sub.subset hx, rfl⟩)).1, (gM.len _ mk).1, fun H' s' => kR H' s'⟩
      · have S6 := s6.trans (same_new g6 (.lst ((List.range (as.map V.ref).length).map fun j => V.bl (ansB (vals (accK M k)) M[k].2 ((asks M[k].2).getD j 0)))))
        refine ⟨p2, (List.range (as.map V.ref).length).map fun j => ansB (vals (accK M k)) M[k].2 ((asks M[k].2).getD j 0), rfl, SqL.of (by rw [upd_same, List.map_map]; rfl), ?_⟩
        have ea : ((List.range (as.map V.ref).length).map fun j => ansB (vals (accK M k)) M[k].2 ((asks M[k].2).getD j 0)).all id = accB (vals (accK M k)) M[k].2 := by
          unfold accB
          rw [List.length_map, na.1, ← getD_range (asks M[k].2) 0, List.all_map, List.all_map, getD_range]
          rfl
        rw [ea]
        generalize upd H6 p2 (.lst ((List.range (as.map V.ref).length).map fun j => V.bl (ansB (vals (accK M k)) M[k].2 ((asks M[k].2).getD j 0)))) = H7 at S6 ⊢
        have S7 := s5.trans S6
        have hr7 := S7 _ _ hr4
        refine ⟨_, rfl, ?_⟩
        have e1 : accK M (k + 1) = stepA (accK M k) M[k] := accK_succ hk
        unfold stepA at e1
        by_cases ac : accB (vals (accK M k)) M[k].2 = true
        · rw [if_pos ac] at e1
          rw [ac]
          refine iteT ⟨_, rfl, _, rfl, _, rfl, M[k].1, M[k].2, rfl, dk.ts (Same.ts S7), fun p3 H8 s8 e8 => ?_⟩
          have hr8 := s8 _ _ hr7
          have vn : valV (kvsOf (accK M k)) (nmK M[k].2) = none := by
            rw [val_kvs]
            have : (accK M k).find? (fun x => decide (nmK x.2 = nmK M[k].2)) = none := by
              rw [List.find?_eq_none]
              intro y hy
              obtain ⟨j, hj, rfl⟩ := List.mem_iff_getElem.mp ((accK_sub M k (by omega)).subset hy)
              rw [List.length_take] at hj
              rw [List.getElem_take]
              have u := gM.uni
              rw [List.pairwise_iff_getElem] at u
              have := u j k (by rw [vals_len]; omega) (by rw [vals_len]; exact hk) (by omega)
              simp only [vals, List.getElem_map] at this
              simpa using this
            rw [this]
            rfl
          have lk : (kvsOf (accK M k)).length ≤ 63 := by
            unfold kvsOf
            rw [List.length_map]
            have := sub.length_le
            omega
          refine ⟨r, _, rfl, .inr ⟨_, nmK M[k].2, p3, hr8, rfl, e8, Nat.lt_of_le_of_lt lk (by rw [PySem.sizeLine_eq]; decide), rfl⟩, ⟨_, rfl⟩, fun b o e hb => ?_, ?_⟩
          · rw [upd_ne hb]
            exact s8 _ _ (S7 _ _ (sr _ _ e hb))
          · rw [upd_same, putK_new _ vn, e1]
            congr 2
            unfold kvsOf
            rw [List.map_append]
            rfl
        · rw [if_neg ac] at e1
          rw [Bool.eq_false_iff.mpr ac]
          refine iteF ⟨⟨_, rfl⟩, fun b o e hb => S7 _ _ (sr _ _ e hb), ?_⟩
          rw [e1]
          exact hr7
    · subst eσ
      rw [refs_len] at hr4
      refine ⟨_, rfl, r, _, rfl, hr4, fun v gv => ?_⟩
      have sv := same_new gv (isTh v (viewO r))
      refine ⟨v, r, _, rfl, upd_same, sv _ _ hr4, fun l2 g2 => ?_⟩
      have s2 := same_new g2 (.lst ((kvsOf (accK M M.length)).map (·.2)))
      have rb : SameT r H3 (upd (upd H4 v (isTh v (viewO r))) l2 (.lst ((kvsOf (accK M M.length)).map (·.2)))) := fun b o e hb => s2 _ _ (sv _ _ (sr _ _ e hb))
      have hl2 : H l2 = none := by
        cases e : H l2 with
        | none => rfl
        | some o =>
          have hb : l2 ≠ r := fun z => by
            rw [z, gr] at e
            cases e
          by_cases z : l2 = T
          · obtain ⟨ps, e1, _⟩ := tab3
            rw [← z] at e1
            have := sv _ _ (sr _ _ e1 hb)
            rw [g2] at this
            cases this
          · have := sv _ _ (sr _ _ (all3 _ _ e z) hb)
            rw [g2] at this
            cases this
      refine q l2 _ M pM sM (fun b o e hb => ?_) (lamTab_but tab3 rb fun f' hf' => ?_) ?_ hl2
      · refine rb _ _ (all3 _ _ e hb) fun z => ?_
        rw [z, gr] at e
        cases e
      · rw [er3] at hf'
        cases hf'
        exact ⟨fun ps e => (by cases e), fun c e => (by cases e)⟩
      · rw [upd_same]
        congr 2
        unfold kvsOf refs
        rw [List.map_map]
        rfl
abbrev s_cell_at : Stmt := top 9
abbrev N_cell_at : List Str := ["_law_script", "_law_k"]
theorem sc_cell_at : FnScope N_cell_at ["_law_script", "_law_k"] (defScope s_cell_at) := ⟨rfl, rfl, rfl, by decide +kernel, rfl, by decide +kernel, by decide +kernel⟩
theorem ok_cell_at {f : Addr} {fd : FuncData} (F : Fun K "_law_cell_at" "_law_cell_at" s_cell_at f fd) (z_len : mg "len" = none) : FnOk P w K mg base CX0 1 f fd ["_law_script", "_law_k"] (spCell K) := by
  refine F.okQ sc_cell_at (fun vs H Q E h => ?_) (fun cdv A outer s H vs Q E hr h => ?_)
  · obtain ⟨a, ns, k, rfl, _⟩ := h
    rfl
  obtain ⟨a, ns, k, rfl, hS, h0, q⟩ := h
  refine ⟨_, (b_c (s_if (t_cmp o_lt (q_v 1) (q_B c_len z_len PySem.boot_len (q_a (q_v 0) q_a0))) (b_1 (s_ret (q_ix x_list (q_v 0) (q_v 1)))) b_0)
      (b_1 (s_ret q_int))), ?_⟩
  refine ⟨_, rfl, _, rfl, a, _, rfl, .inl hS, _, _, rfl, rfl, _, rfl, ?_⟩
  refine ite2 (fun c => ?_) (fun c => ?_)
  · have c' : k < ((ns.map V.int).length : Int) := of_decide_eq_true c
    rw [List.length_map] at c'
    exact ⟨_, rfl, _, rfl, a, _, _, _, rfl, rfl, hS, atI_cell h0 c', q⟩
  · have c' : ¬ k < ((ns.map V.int).length : Int) := of_decide_eq_false (Bool.eq_false_iff.mpr c)
    rw [List.length_map] at c'
    rw [cell_out h0 c'] at q
    exact q
abbrev s_order : Stmt := top 13
abbrev N_order : List Str := ["_law_deed"]
theorem sc_order : FnScope N_order ["_law_deed"] (defScope s_order) := ⟨rfl, rfl, rfl, by decide +kernel, rfl, by decide +kernel, by decide +kernel⟩
theorem ok_order {f : Addr} {fd : FuncData} (F : Fun K "_law_order" "_law_order" s_order f fd) (z_sum : mg "sum" = none) : FnOk P w K mg base CX0 1 f fd ["_law_deed"] spKey := by
  refine F.okQ sc_order (fun vs H Q E h => ?_) (fun cdv A outer s H vs Q E hr h => ?_)
  · obtain ⟨a, d, rfl, _⟩ := h
    rfl
  obtain ⟨a, d, rfl, ⟨c, v, e1, e2, e3, e4, e5⟩, q⟩ := h
  refine ⟨_, (b_1 (s_ret (q_tup (q_a (q_B (c_sumT (K := K) rfl rfl) z_sum PyProof.Rows.boot_sum (q_a (q_ix x_tup (q_v 0) q_int) q_a0)) (q_a (q_ix x_tup (q_v 0) q_int) q_a0))))), ?_⟩
  refine ⟨_, rfl, a, _, _, _, rfl, rfl, SqT.of e1, at1, c, d.ns, rfl, SqT.of e2, _, rfl, a, _, _, _, rfl, rfl, SqT.of e1, at0, size63 (Nat.le_of_ble_eq_true rfl), fun p g => ?_⟩
  exact q p _ (same_new g _) upd_same
theorem comp_listIf {K : PySem.W.Frag} {a : Addr} {xs : List V} {n : Nat} {cap : List Nat} {tc : TT} {te : TE} {σ : St} {H0 : Hp} {Q : VK} (keep : Nat → Bool) (f : Nat → V) (hz : xs.length ≤ 1000) (hl : SqL K H0 a xs)
    (hc : ∀ i x H, xs[i]? = some x → Same H0 H → ∀ R : Bool → Hp → Prop, (∀ H', Same H H' → R (keep i) H') → tc ((compSt n cap σ).set 0 (some x)) H R)
    (he : ∀ i x H, xs[i]? = some x → Same H0 H → keep i = true → ∀ R : VK, (∀ H', Same H H' → R (f i) H') → te ((compSt n cap σ).set 0 (some x)) H R)
    (hq : ∀ p H, Same H0 H → H p = none → Q (.ref p) (upd H p (.lst (((List.range xs.length).filter keep).map f)))) : tCompR n cap (gName 0) tc te σ (Itl K a) H0 Q := by
  refine comp_any (N := xs.length) keep f hz (fun i H hi sm => ⟨xs, xs[i], sm.seq hl, by simp [hi]⟩) (fun H sm => ⟨xs, sm.seq hl, Nat.le_refl _⟩) (fun i H x H' hi sm y A B kA kB => ?_) hq
  obtain ⟨rfl, y⟩ := y
  have hx : xs[i]? = some x := y xs (sm.seq hl)
  refine hc i x H' hx sm _ fun H2 s2 => ?_
  cases k : keep i with
  | true => exact iteT (he i x H2 hx (sm.trans s2) k _ fun H4 s4 => kA k H4 (s2.trans s4))
  | false => exact iteF (kB k H2 s2)
/-! ### the law's own going over -/
def KC (H : Hp) : List (List Key × V) → List Dd → Prop
  | [], [] => True
  | kv :: kvs, d :: R => kv.1 = nmK d ∧ (∃ c, kv.2 = .ref c ∧ H c = some (.tup (d.ns.map V.int))) ∧ KC H kvs R
  | _, _ => False
theorem KC.ts {H H' : Hp} (t : TS H H') : ∀ {kvs : List (List Key × V)} {R : List Dd}, KC H kvs R → KC H' kvs R
  | [], [], _ => trivial
  | _ :: _, _ :: _, ⟨h1, ⟨c, h2, h3⟩, h4⟩ => ⟨h1, ⟨c, h2, t _ _ h3⟩, KC.ts t h4⟩
theorem KC.len {H : Hp} : ∀ {kvs : List (List Key × V)} {R : List Dd}, KC H kvs R → kvs.length = R.length
  | [], [], _ => rfl
  | _ :: _, _ :: _, ⟨_, _, h4⟩ => by rw [List.length_cons, List.length_cons, KC.len h4]
theorem KC.snoc {H : Hp} {d : Dd} {c : Addr} (hc : H c = some (.tup (d.ns.map V.int))) : ∀ {kvs : List (List Key × V)} {R : List Dd}, KC H kvs R → KC H (kvs ++ [(nmK d, .ref c)]) (R ++ [d])
  | [], [], _ => ⟨rfl, ⟨c, rfl, hc⟩, trivial⟩
  | _ :: _, _ :: _, ⟨h1, h2, h4⟩ => ⟨h1, h2, KC.snoc hc h4⟩
theorem KC.get {H : Hp} (k : List Key) : ∀ {kvs : List (List Key × V)} {R : List Dd}, KC H kvs R → (R.find? (fun e => decide (nmK e = k)) = none ∧ valV kvs k = none) ∨ ∃ e c, R.find? (fun e => decide (nmK e = k)) = some e ∧ valV kvs k = some (.ref c) ∧ H c = some (.tup (e.ns.map V.int))
  | [], [], _ => .inl ⟨rfl, rfl⟩
  | kv :: kvs, d :: R, ⟨h1, ⟨c, h2, h3⟩, h4⟩ => by
    by_cases e : nmK d = k
    · refine .inr ⟨d, c, by rw [List.find?_cons, decide_eq_true e], ?_, h3⟩
      rw [valV_pos (by rw [h1]; exact e), h2]
    · have ef : (d :: R).find? (fun e => decide (nmK e = k)) = R.find? (fun e => decide (nmK e = k)) := by rw [List.find?_cons, decide_eq_false e]
      rw [ef, valV_neg (by rw [h1]; exact e)]
      exact KC.get k h4
theorem over_eq {ns ms : List Int} : decide ((0 : Int) < ((((List.range ns.length).filter fun i => decide (cellZ ms i < cellZ ns i)).map fun (i : Nat) => V.int (0 + (i : Int))).length : Int)) = !withinB ns ms := by
  rw [List.length_map]
  cases hw : withinB ns ms with
  | true =>
    have hl := within_iff.mp hw
    have e : ((List.range ns.length).filter fun i => decide (cellZ ms i < cellZ ns i)) = [] := by
      rw [List.filter_eq_nil_iff]
      intro i hi
      have := hl i (List.mem_range.mp hi)
      simp only [decide_eq_true_eq]
      omega
    rw [e]
    rfl
  | false =>
    refine decide_eq_true ?_
    have : ((List.range ns.length).filter fun i => decide (cellZ ms i < cellZ ns i)) ≠ [] := fun e => by
      rw [List.filter_eq_nil_iff] at e
      have : withinB ns ms = true := within_iff.mpr fun i hi => by
        have := e i (List.mem_range.mpr hi)
        simp only [decide_eq_true_eq] at this
        omega
      rw [hw] at this
      cases this
    have := List.length_pos_iff.mpr this
    omega
def spFits : Sp := fun vs H Q _ => ∃ (a t : Addr) (d : Dd) (kvs : List (List Key × V)) (T : List Dd), vs = [.ref a, .ref t] ∧ DR H a d ∧ H t = some (.dT kvs) ∧ KC H kvs T ∧ (∀ e ∈ T, e.ns.length = d.ns.length) ∧ ∀ H', Same H H' → Q (.bl (accB T d)) H'
theorem acc_all {T : List Dd} {d : Dd} : accB T d = true ↔ ∀ i, i < d.ns.length → lastZ d i > 0 → ansB T d i = true := by
  unfold accB asks
  rw [List.all_eq_true]
  constructor
  · intro h i hi hl
    exact h i (List.mem_filter.mpr ⟨List.mem_range.mpr hi, decide_eq_true hl⟩)
  · intro h i hi
    obtain ⟨h1, h2⟩ := List.mem_filter.mp hi
    exact h i (List.mem_range.mp h1) (of_decide_eq_true h2)
abbrev s_fits : Stmt := top 11
abbrev N_fits : List Str := ["_law_deed", "_law_taken_here", "_law_hand", "_law_last", "_law_ahead"]
theorem sc_fits : FnScope N_fits ["_law_deed", "_law_taken_here"] (defScope s_fits) := ⟨rfl, rfl, rfl, by decide +kernel, rfl, by decide +kernel, by decide +kernel⟩
theorem ok_fits {f : Addr} {fd : FuncData} (F : Fun K "_law_fits" "_law_fits" s_fits f fd) (z_len : mg "len" = none) (z_range : mg "range" = none) (z_int : mg "int" = none) : FnOk P w K mg base CX0 1 f fd ["_law_deed", "_law_taken_here"] spFits := by
  refine F.okQ sc_fits (fun vs H Q E h => ?_) (fun cdv A outer s H vs Q E hr h => ?_)
  · obtain ⟨a, t, d, kvs, T, rfl, _⟩ := h
    rfl
  obtain ⟨a, t, d, kvs, T, rfl, hd, ht, kc, hl, q⟩ := h
  obtain ⟨c, v, d1, d2, d3, d4, d5⟩ := id hd
  refine ⟨_, (b_c (s_for PassesOwn.never rfl (i_rng1 z_range (q_a (q_B c_len z_len PySem.boot_len (q_a (q_ix x_tup (q_v 0) q_int) q_a0)) q_a0)) (g_name (i := 2) sc_fits.nd) (b_c (s_set (i := 3) sc_fits.nd (q_op o_sub (q_ix x_tup (q_ix x_tup (q_v 0) q_int) (q_v 2)) (q_Ty c_int z_int boot_int (q_a (q_cmp o_eq (q_v 2) (q_ix x_tup (q_v 0) q_int)) q_a0))))
      (b_1 (s_if (t_cmp o_gt (q_v 3) q_int) (b_c (s_if (t_dnotin hr.units (q_tup (q_a (q_v 2) (q_a (q_v 3) q_a0))) (q_v 1)) (b_1 (s_ret q_bl)) b_0)
      (b_c (s_set (i := 4) sc_fits.nd (q_dget hr.units (q_v 1) (q_tup (q_a (q_v 2) (q_a (q_v 3) q_a0)))))
      (b_1 (s_if (t_cmp o_gt (q_B c_len z_len PySem.boot_len (q_a (q_comp (own := ["_law_k"]) (⟨rfl, by decide +kernel, by decide +kernel, rfl, ⟨rfl, rfl, ⟨rfl, rfl, trivial⟩⟩⟩ : CompOk _ _ [4, 0] ["_law_ahead", "_law_deed"]) rfl (i_rng1 z_range (q_a (q_B c_len z_len PySem.boot_len (q_a (q_v 4) q_a0)) q_a0)) (fun _ _ _ _ => g_name (i := 0) (show (["_law_k", "_law_ahead", "_law_deed"] : List Str).Nodup by decide +kernel)) (gk_name (by decide)) (fun _ _ _ _ => (if_1 (t_cmp o_gt (q_ix (xK_tup (K := K) rfl) (q_v 1) (q_v 0)) (q_ix (xK_tup (K := K) rfl) (q_ix (xK_tup (K := K) rfl) (q_v 2) q_int) (q_v 0))))) (fun _ _ _ _ => (q_v 0))) q_a0)) q_int) (b_1 (s_ret q_bl)) b_0)))) b_0))))
      (b_1 (s_ret q_bl))), ?_⟩
  refine ⟨_, rfl, a, _, _, _, rfl, rfl, SqT.of d1, at1, c, _, rfl, .inr (SqT.of d2), _, rfl, by omega, by rw [List.length_map]; omega, ?_⟩
  rw [List.length_map]
  refine for_range (lo := 0) (fun k σ H' => Same H H' ∧ (∃ o2 o3 o4, σ = [some (.ref a), some (.ref t), o2, o3, o4]) ∧ ∀ i, i < k → lastZ d i > 0 → ansB T d i = true) ⟨Same.refl H, ⟨none, none, none, rfl⟩, fun i hi => absurd hi (by omega)⟩ ?_ ?_
  · rintro k σ H1 hk ⟨sm, ⟨o2, o3, o4, rfl⟩, hall⟩
    have hk' : k < d.ns.length := by omega
    have m1 := sm _ _ d1
    have m2 := sm _ _ d2
    have ec : atI (d.ns.map V.int) (0 + (k : Int)) = some (.int (cellZ d.ns k)) := by rw [Int.zero_add]; exact nat_cell hk'
    refine ⟨_, rfl, a, _, _, _, rfl, rfl, SqT.of m1, at1, _, rfl, c, _, _, _, rfl, rfl, SqT.of m2, ec, _, rfl, _, rfl, a, _, _, _, rfl, rfl, SqT.of m1, at0, rfl, .inr ⟨_, rfl, _, _, rfl, rfl, ?_⟩⟩
    have el : cellZ d.ns k - (if decide (V.int (0 + (k : Int)) = V.int (d.h : Int)) = true then 1 else 0) = lastZ d k := by
      unfold lastZ
      by_cases z : k = d.h
      · rw [if_pos z, if_pos (by rw [Int.zero_add, z]; exact decide_eq_true rfl)]
      · rw [if_neg z, if_neg (by
          rw [decide_eq_true_iff]
          intro y
          injection y with y
          omega), Int.sub_zero]
    dsimp only
    rw [el]
    refine ⟨_, rfl, _, _, rfl, rfl, _, rfl, iteD (fun hc => ?_) fun hc => ?_⟩
    · have no : ansB T d k = false → accB T d = false := fun hb => by
        cases ha : accB T d with
        | false => rfl
        | true =>
          rw [acc_all.mp ha k hk' hc] at hb
          cases hb
      refine ⟨_, rfl, _, rfl, size63 (Nat.le_of_ble_eq_true rfl), fun p1 g1 => ?_⟩
      have w1 := same_new g1 (.tup [.int (0 + (k : Int)), .int (lastZ d k)])
      have t1 := w1 _ _ (sm _ _ ht)
      have dg1 : DGet (upd H1 p1 (.tup [.int (0 + (k : Int)), .int (lastZ d k)])) t (.ref p1) (valV kvs [.inl (k : Int), .inl (lastZ d k)]) := .inr ⟨kvs, [.inl (k : Int), .inl (lastZ d k)], p1, .inl t1, rfl, by rw [upd_same, Int.zero_add]; rfl, rfl⟩
      have S1 := sm.trans w1
      have kc1 := kc.ts (Same.ts S1)
      have hcell := S1 _ _ d2
      have hda := S1 _ _ d1
      generalize upd H1 p1 (.tup [.int (0 + (k : Int)), .int (lastZ d k)]) = H2 at dg1 t1 S1 kc1 hcell hda ⊢
      refine ⟨_, rfl, t, _, rfl, dg1, ?_⟩
      rcases kc1.get [.inl (k : Int), .inl (lastZ d k)] with ⟨hf, hv⟩ | ⟨e, c', hf, hv, hc'⟩
      · rw [hv]
        refine ⟨_, rfl, iteT ?_⟩
        have hb : ansB T d k = false := by unfold ansB; rw [hf]
        rw [no hb] at q
        exact q H2 S1
      · rw [hv]
        refine ⟨_, rfl, iteF ?_⟩
        have he := hl e (List.mem_of_find?_eq_some hf)
        refine ⟨_, rfl, _, rfl, _, rfl, size63 (Nat.le_of_ble_eq_true rfl), fun p2 g2 => ?_⟩
        have w2 := same_new g2 (.tup [.int (0 + (k : Int)), .int (lastZ d k)])
        have dg2 : DGet (upd H2 p2 (.tup [.int (0 + (k : Int)), .int (lastZ d k)])) t (.ref p2) (some (.ref c')) := .inr ⟨kvs, [.inl (k : Int), .inl (lastZ d k)], p2, .inl (w2 _ _ t1), rfl, by rw [upd_same, Int.zero_add]; rfl, hv.symm⟩
        have S2 := S1.trans w2
        have hc2 := w2 _ _ hc'
        have hcell2 := w2 _ _ hcell
        have hda2 := w2 _ _ hda
        generalize upd H2 p2 (.tup [.int (0 + (k : Int)), .int (lastZ d k)]) = H3 at dg2 S2 hc2 hcell2 hda2 ⊢
        refine ⟨t, _, rfl, dg2, ?_⟩
        refine ⟨_, rfl, c', _, rfl, .inr (SqT.of hc2), _, rfl, by omega, by rw [List.length_map]; omega, ?_⟩
        rw [List.length_map]
        refine comp_rangeIf (N := e.ns.length) (lo := 0) (fun i => decide (cellZ d.ns i < cellZ e.ns i)) (fun i => .int (0 + (i : Int))) (by omega) (fun i H4 hi s4 R kR => ?_) (fun i H4 hi s4 _ R kR => ⟨_, rfl, kR H4 (Same.refl H4)⟩) (fun p3 H4 s4 g4 => ?_)
        · have a1 : atI (e.ns.map V.int) (0 + (i : Int)) = some (.int (cellZ e.ns i)) := by rw [Int.zero_add]; exact nat_cell hi
          have a2 : atI (d.ns.map V.int) (0 + (i : Int)) = some (.int (cellZ d.ns i)) := by rw [Int.zero_add]; exact nat_cell (by omega)
          exact ⟨_, rfl, _, rfl, c', _, _, _, rfl, rfl, SqT.of (s4 _ _ hc2), a1, _, rfl, a, _, _, _, rfl, rfl, SqT.of (s4 _ _ hda2), at1, _, rfl, c, _, _, _, rfl, rfl, SqT.of (s4 _ _ hcell2), a2, _, _, rfl, rfl, _, rfl, kR H4 (Same.refl H4)⟩
        · have S4 := S2.trans (s4.trans (same_new g4 (.lst (((List.range e.ns.length).filter fun i => decide (cellZ d.ns i < cellZ e.ns i)).map fun (i : Nat) => V.int (0 + (i : Int))))))
          refine ⟨p3, _, rfl, .inl (SqL.of upd_same), _, _, rfl, rfl, _, rfl, ?_⟩
          rw [over_eq]
          have hb : ansB T d k = withinB e.ns d.ns := by unfold ansB; rw [hf]
          cases hw : withinB e.ns d.ns with
          | false =>
            rw [no (hb.trans hw)] at q
            exact iteT (q _ S4)
          | true =>
            refine iteF ⟨S4, ⟨_, _, _, rfl⟩, fun i hi hli => ?_⟩
            by_cases z : i = k
            · rw [z, hb, hw]
            · exact hall i (by omega) hli
    · refine ⟨sm, ⟨_, _, _, rfl⟩, fun i hi hli => ?_⟩
      by_cases z : i = k
      · rw [z] at hli
        omega
      · exact hall i (by omega) hli
  · rintro σ H1 ⟨sm, ⟨o2, o3, o4, rfl⟩, hall⟩
    have ac : accB T d = true := acc_all.mpr fun i hi hl => hall i (by omega) hl
    rw [ac] at q
    exact q H1 sm
def inT (T : List Dd) (d : Dd) : Bool := (T.find? fun e => decide (nmK e = nmK d)).isSome
theorem inT_add {T : List Dd} {d x : Dd} : inT (T ++ [d]) x = (inT T x || decide (nmK d = nmK x)) := by
  unfold inT
  rw [List.find?_append]
  cases h : T.find? (fun e => decide (nmK e = nmK x)) with
  | some y => rfl
  | none =>
    by_cases c : nmK d = nmK x
    · simp [c]
    · simp [c]
def spTaken : Sp := fun vs H Q _ => ∃ (l : Addr) (L : LT) (n : Nat), vs = [.ref l] ∧ LR H l L ∧ L.length ≤ 63 ∧ n ≤ 8 ∧ UN n (vals L) ∧
  ∀ p H' T, Same H H' → Ch n T → (∀ d ∈ T, d ∈ vals L) → Sat n (vals L) T → H' p = some (.lst (refs (L.filter fun x => inT T x.2))) → Q (.ref p) H'
def remT (L : LT) (T : List Dd) : Nat := ((vals L).filter fun d => !inT T d).length
theorem filt_lt {p q : Dd → Bool} : ∀ {L : List Dd}, (∀ x ∈ L, q x = true → p x = true) → (∃ x ∈ L, p x = true ∧ q x = false) → (L.filter q).length < (L.filter p).length
  | [], _, ⟨x, hx, _⟩ => absurd hx (by simp)
  | y :: L, h, ⟨x, hx, h1, h2⟩ => by
    have le : (L.filter q).length ≤ (L.filter p).length := by
      clear hx
      have h' : ∀ x ∈ L, q x = true → p x = true := fun x hx => h x (List.mem_cons_of_mem _ hx)
      clear h
      induction L with
      | nil => exact Nat.le_refl _
      | cons z L ih =>
        have ih' := ih fun x hx => h' x (List.mem_cons_of_mem _ hx)
        have hz := h' z List.mem_cons_self
        rw [List.filter_cons, List.filter_cons]
        by_cases c : q z = true
        · rw [if_pos c, if_pos (hz c), List.length_cons, List.length_cons]
          omega
        · rw [if_neg c]
          split
          · rw [List.length_cons]
            omega
          · exact ih'
    rw [List.filter_cons, List.filter_cons]
    rcases List.mem_cons.mp hx with rfl | hx
    · rw [h1, h2, if_pos rfl, if_neg (by simp), List.length_cons]
      omega
    · have ih := filt_lt (L := L) (fun x hx => h x (List.mem_cons_of_mem _ hx)) ⟨x, hx, h1, h2⟩
      have hy := h y List.mem_cons_self
      by_cases c : q y = true
      · rw [if_pos c, if_pos (hy c), List.length_cons, List.length_cons]
        omega
      · rw [if_neg c]
        split
        · rw [List.length_cons]
          omega
        · exact ih
theorem rem_add {L : LT} {T : List Dd} {d : Dd} (hd : d ∈ vals L) (hn : inT T d = false) : remT L (T ++ [d]) < remT L T := by
  refine filt_lt (fun x hx h => ?_) ⟨d, hd, by rw [hn]; rfl, ?_⟩
  · rw [inT_add] at h
    cases e : inT T x with
    | false => rfl
    | true =>
      rw [e] at h
      cases h
  · rw [inT_add, decide_eq_true rfl, Bool.or_true]
    rfl
theorem nd_le {α : Type} : ∀ {A B : List α}, A.Nodup → (∀ x ∈ A, x ∈ B) → A.length ≤ B.length
  | [], _, _, _ => Nat.zero_le _
  | a :: A, B, h, s => by
    obtain ⟨B1, B2, rfl⟩ := List.append_of_mem (s a List.mem_cons_self)
    rw [List.nodup_cons] at h
    have := nd_le (A := A) (B := B1 ++ B2) h.2 fun x hx => by
      have := s x (List.mem_cons_of_mem _ hx)
      rcases List.mem_append.mp this with y | y
      · exact List.mem_append_left _ y
      · rcases List.mem_cons.mp y with rfl | y
        · exact absurd hx h.1
        · exact List.mem_append_right _ y
    rw [List.length_append] at this
    rw [List.length_cons, List.length_append, List.length_cons]
    omega
/-- what stands in the taken, and what holds of it -/
def TI (n : Nat) (L : LT) (t : Addr) (T : List Dd) (H : Hp) : Prop := ∃ kvs, H t = some (.dT kvs) ∧ KC H kvs T ∧ Ch n T ∧ (∀ d ∈ T, d ∈ vals L) ∧ (T.Pairwise fun d e => nmK d ≠ nmK e) ∧ T.length ≤ L.length
theorem pick_refs (L : LT) (g : Dd → Bool) : (((List.range (refs L).length).filter fun i => ((L[i]?).map fun x => g x.2).getD false).map fun i => (refs L).getD i .non) = refs (L.filter fun x => g x.2) := by
  rw [refs_len]
  have e : ∀ (k : Nat), k ≤ L.length → (((List.range k).filter fun i => ((L[i]?).map fun x => g x.2).getD false).map fun i => (refs L).getD i .non) = refs ((L.take k).filter fun x => g x.2) := by
    intro k
    induction k with
    | zero => intro _; rfl
    | succ k ih =>
      intro hk
      rw [List.range_succ, List.filter_append, List.map_append, ih (by omega), List.take_add_one, List.getElem?_eq_getElem (by omega), Option.toList_some, List.filter_append]
      unfold refs
      rw [List.map_append]
      congr 1
      rw [List.filter_cons, List.filter_cons, List.getElem?_eq_getElem (show k < L.length by omega)]
      by_cases c : g L[k].2 = true
      · have : (Option.map (fun x : Addr × Dd => g x.2) (some L[k])).getD false = true := c
        rw [if_pos this, if_pos c]
        simp [show k < L.length by omega]
      · have : ¬ (Option.map (fun x : Addr × Dd => g x.2) (some L[k])).getD false = true := c
        rw [if_neg this, if_neg c]
        rfl
  rw [e L.length (Nat.le_refl _), List.take_length]
abbrev s_taken : Stmt := top 12
abbrev N_taken : List Str := ["_law_deeds_here", "_law_taken_here", "_law_more", "_law_deed", "_law_name"]
theorem sc_taken : FnScope N_taken ["_law_deeds_here"] (defScope s_taken) := ⟨rfl, rfl, rfl, by decide +kernel, rfl, by decide +kernel, by decide +kernel⟩
theorem ok_taken {f : Addr} {fd : FuncData} (F : Fun K "_law_taken" "_law_taken" s_taken f fd) (F_fits : Fn P w K mg base 1 "_law_fits" ["_law_deed", "_law_taken_here"] spFits) : FnOk P w K mg base CX0 2 f fd ["_law_deeds_here"] spTaken := by
  refine F.okQ sc_taken (fun vs H Q E h => ?_) (fun cdv A outer s H vs Q E hr h => ?_)
  · obtain ⟨l, L, n, rfl, _⟩ := h
    rfl
  obtain ⟨l, L, n, rfl, hL, hz, hn, un, q⟩ := h
  refine ⟨_, (b_c (s_set (i := 1) sc_taken.nd q_d0T)
      (b_c (s_set (i := 2) sc_taken.nd q_bl)
      (b_c (s_while PassesOwn.never (t_val (q_v 2)) (b_c (s_set (i := 2) sc_taken.nd q_bl)
      (b_1 (s_for PassesOwn.never rfl (i_list (q_v 0)) (g_name (i := 3) sc_taken.nd) (b_c (s_set (i := 4) sc_taken.nd (q_tup (q_a (q_ix x_tup (q_v 3) q_int) (q_a (q_ix x_tup (q_ix x_tup (q_v 3) q_int) (q_ix x_tup (q_v 3) q_int)) q_a0))))
      (b_1 (s_join (s_if (t_w (w_and (t_dnotin hr.units (q_v 4) (q_v 1)) (w_and1 (t_val (q_fn F_fits (hr.mono (by decide)) (q_a (q_v 3) (q_a (q_v 1) q_a0))))))) (b_c (s_dput hr.units (q_v 1) (q_v 4) (q_ix x_tup (q_v 3) q_int))
      (b_1 (s_set (i := 2) sc_taken.nd q_bl))) b_0))))))))
      (b_1 (s_ret (q_comp (own := ["_law_deed"]) (⟨rfl, by decide +kernel, by decide +kernel, rfl, ⟨rfl, rfl, trivial⟩⟩ : CompOk _ _ [1] ["_law_taken_here"]) rfl (i_list (q_v 0)) (fun _ _ _ _ => g_name (i := 0) (show (["_law_deed", "_law_taken_here"] : List Str).Nodup by decide +kernel)) (gk_name (by decide)) (fun _ _ _ _ => (if_1 (t_din hr.units (q_tup (q_a (q_ix (xK_tup (K := K) rfl) (q_v 0) q_int) (q_a (q_ix (xK_tup (K := K) rfl) (q_ix (xK_tup (K := K) rfl) (q_v 0) q_int) (q_ix (xK_tup (K := K) rfl) (q_v 0) q_int)) q_a0))) (q_v 1)))) (fun _ _ _ _ => (q_v 0)))))))), ?_⟩
  intro t gt
  have s0 := same_new gt (.dT [])
  refine ⟨fun m σ H' => ∃ (T : List Dd) (b : Bool) (o3 o4 : Option V), σ = [some (.ref l), some (.ref t), some (.bl b), o3, o4] ∧ Same H H' ∧ TI n L t T H' ∧ m = 2 * remT L T + (if b = true then 1 else 0) ∧ (b = false → Sat n (vals L) T), ⟨_, [], true, none, none, rfl, s0, ⟨[], upd_same, trivial, fun k hk => absurd hk (by simp), fun d hd => absurd hd (by simp), .nil, by simp⟩, rfl, fun h => nomatch h⟩, ?_⟩
  rintro m σ H1 ⟨T, b, o3, o4, rfl, sm, ti, hm, hb⟩
  refine ⟨_, rfl, _, rfl, ?_⟩
  cases b with
  | true =>
    refine iteT ⟨_, fun σ' H' z => z, ?_⟩
    refine ⟨_, rfl, l, rfl, ⟨_, SqL.of (sm _ _ hL.1)⟩, ?_⟩
    refine for_list (fun k σ' H' => ∃ (T' : List Dd) (b' : Bool) (o3 o4 : Option V), σ' = [some (.ref l), some (.ref t), some (.bl b'), o3, o4] ∧ Same H H' ∧ TI n L t T' H' ∧ (b' = true → remT L T' < remT L T) ∧ (b' = false → T' = T ∧ ∀ j (hj : j < L.length), j < k → accB T L[j].2 = true → L[j].2 ∈ T)) ⟨T, false, o3, o4, rfl, sm, ti, (fun h => nomatch h), fun _ => ⟨rfl, fun j _ hj => absurd hj (by omega)⟩⟩ (fun i σ H' _ ⟨_, _, _, _, _, sm', _⟩ => SqL.of (sm' _ _ hL.1)) (fun k x σ H2 hx ⟨T', b', o3, o4, eσ, sm2, ti2, h1, h2⟩ => ?_) (fun σ H2 ⟨T', b', o3, o4, eσ, sm2, ti2, h1, h2⟩ => ?_)
    · subst eσ
      obtain ⟨hk, rfl⟩ := refs_get hx
      have dk := (hL.2 _ (List.getElem_mem hk)).same sm2
      have mk : L[k].2 ∈ vals L := List.mem_map.mpr ⟨L[k], List.getElem_mem hk, rfl⟩
      obtain ⟨c, v, d1, d2, d3, d4, d5⟩ := id dk
      obtain ⟨kvs, ht, kc, ch, sub, uni, lT⟩ := id ti2
      refine ⟨_, rfl, L[k].1, _, _, _, rfl, rfl, SqT.of d1, at0, _, rfl, L[k].1, _, _, _, rfl, rfl, SqT.of d1, at1, _, rfl, L[k].1, _, _, _, rfl, rfl, SqT.of d1, at0, c, _, _, _, rfl, rfl, SqT.of d2, nat_cell d4, size63 (Nat.le_of_ble_eq_true rfl), fun p1 g1 => ?_⟩
      have w1 := same_new g1 (.tup [.int (L[k].2.h : Int), .int (cellZ L[k].2.ns L[k].2.h)])
      have e1 : upd H2 p1 (.tup [.int (L[k].2.h : Int), .int (cellZ L[k].2.ns L[k].2.h)]) p1 = some (.tup ((nmK L[k].2).map kV)) := upd_same
      have S3 := sm2.trans w1
      have dk3 := dk.same w1
      have t3 := w1 _ _ ht
      have kc3 := kc.ts (Same.ts w1)
      have d13 := w1 _ _ d1
      have d23 := w1 _ _ d2
      generalize upd H2 p1 (.tup [.int (L[k].2.h : Int), .int (cellZ L[k].2.ns L[k].2.h)]) = H3 at e1 S3 dk3 t3 kc3 d13 d23 ⊢
      refine ⟨_, ?_, fun _ _ z => z⟩
      have dg : DGet H3 t (.ref p1) (valV kvs (nmK L[k].2)) := .inr ⟨kvs, nmK L[k].2, p1, .inl t3, rfl, e1, rfl⟩
      refine ⟨_, rfl, _, rfl, t, _, rfl, dg, ?_⟩
      have ext : ∀ {H4 : Hp} (b2 : Bool), b2 = b' → Same H3 H4 → (b' = false → accB T L[k].2 = true → L[k].2 ∈ T) → ∃ (T'' : List Dd) (b'' : Bool) (o3 o4 : Option V), [some (V.ref l), some (.ref t), some (.bl b2), some (.ref L[k].1), some (.ref p1)] = [some (V.ref l), some (.ref t), some (.bl b''), o3, o4] ∧ Same H H4 ∧ TI n L t T'' H4 ∧ (b'' = true → remT L T'' < remT L T) ∧ (b'' = false → T'' = T ∧ ∀ j (hj : j < L.length), j < k + 1 → accB T L[j].2 = true → L[j].2 ∈ T) := fun {H4} b2 eb s4 hx => by
        subst eb
        refine ⟨T', b2, _, _, rfl, S3.trans s4, ⟨kvs, s4 _ _ t3, kc3.ts (Same.ts s4), ch, sub, uni, lT⟩, h1, fun hb => ⟨(h2 hb).1, fun j hj hjk ha => ?_⟩⟩
        by_cases z : j = k
        · subst z
          exact hx hb ha
        · exact (h2 hb).2 j hj (by omega) ha
      rcases kc3.get (nmK L[k].2) with ⟨hf, hv⟩ | ⟨e, c', hf, hv, hc'⟩
      · refine ⟨true, by rw [hv]; rfl, iteT ?_⟩
        refine ⟨_, rfl, _, rfl, L[k].1, t, L[k].2, kvs, T', rfl, dk3, t3, kc3, fun e he => by rw [(un.len e (sub e he)).1, (un.len _ mk).1], fun H4 s4 => ⟨_, rfl, ?_⟩⟩
        cases ha : accB T' L[k].2 with
        | true =>
          have t4 := s4 _ _ t3
          have lk : kvs.length ≤ 63 := by rw [kc.len]; omega
          refine iteT ⟨_, rfl, L[k].1, _, _, _, rfl, rfl, SqT.of (s4 _ _ d13), at1, _, rfl, _, rfl, t, _, rfl, .inr ⟨kvs, nmK L[k].2, p1, t4, rfl, s4 _ _ e1, Nat.lt_of_le_of_lt lk (by rw [PySem.sizeLine_eq]; decide), rfl⟩, ?_⟩
          have hin : inT T' L[k].2 = false := by unfold inT; rw [hf]; rfl
          have lt := rem_add mk hin
          have tt : TS H4 (upd H4 t (.dT (putK kvs (nmK L[k].2) (.ref c)))) := ts_upd fun zs e' => by rw [t4] at e'; cases e'
          refine ⟨T' ++ [L[k].2], true, _, _, rfl, same_write (S3.trans s4) gt, ⟨kvs ++ [(nmK L[k].2, .ref c)], by rw [upd_same, putK_new _ hv], (KC.snoc (s4 _ _ d23) (kc3.ts (Same.ts s4))).ts tt, ch.snoc ((acc_iff uni (un.len _ mk).1).mp ha), fun d hd => ?_, ?_, ?_⟩, fun _ => ?_, (fun h => nomatch h)⟩
          · rcases List.mem_append.mp hd with hd | hd
            · exact sub d hd
            · rw [List.mem_singleton.mp hd]
              exact mk
          · refine List.pairwise_append.mpr ⟨uni, List.pairwise_singleton _ _, fun d hd e he z => ?_⟩
            rw [List.mem_singleton.mp he] at z
            have := List.find?_eq_none.mp hf d hd
            simp [z] at this
          · have nd : (T' ++ [L[k].2]).length ≤ L.length := by
              have hs : ∀ (A B : List Dd), A.Nodup → (∀ x ∈ A, x ∈ B) → A.length ≤ B.length := fun A B hA hAB => nd_le hA hAB
              rw [← vals_len L]
              refine hs _ _ ?_ fun d hd => ?_
              · refine List.nodup_append.mpr ⟨uni.imp fun {a b} h z => h (by rw [z]), by simp, fun a ha b hb z => ?_⟩
                rw [List.mem_singleton.mp hb] at z
                have := List.find?_eq_none.mp hf a ha
                simp [z] at this
              · rcases List.mem_append.mp hd with hd | hd
                · exact sub d hd
                · rw [List.mem_singleton.mp hd]
                  exact mk
            exact nd
          · cases hb' : b' with
            | true => exact Nat.lt_trans lt (h1 hb')
            | false =>
              rw [(h2 hb').1] at lt ⊢
              exact lt
        | false =>
          refine iteF (ext b' rfl s4 fun hb ht' => ?_)
          rw [(h2 hb).1] at ha
          rw [ha] at ht'
          cases ht'
      · refine ⟨false, by rw [hv]; rfl, iteF (ext b' rfl (Same.refl H3) fun hb _ => ?_)⟩
        have hm := List.mem_of_find?_eq_some hf
        have hq := List.find?_some hf
        have : e = L[k].2 := nm_inj un.uni (sub e hm) mk (of_decide_eq_true hq)
        rw [this, (h2 hb).1] at hm
        exact hm
    · subst eσ
      rw [refs_len] at h2
      cases hb' : b' with
      | true =>
        have := h1 hb'
        exact ⟨_, by rw [hm]; show 2 * remT L T' + 1 < _; simp; omega, T', true, o3, o4, rfl, sm2, ti2, rfl, (fun h => nomatch h)⟩
      | false =>
        obtain ⟨rfl, hall⟩ := h2 hb'
        refine ⟨2 * remT L T' + 0, by rw [hm]; simp, T', false, o3, o4, rfl, sm2, ti2, rfl, fun _ d hd h => ?_⟩
        obtain ⟨x, hx, rfl⟩ := List.mem_map.mp hd
        obtain ⟨j, hj, rfl⟩ := List.mem_iff_getElem.mp hx
        obtain ⟨kvs, ht, kc, ch, sub, uni, lT⟩ := id ti2
        exact hall j hj hj ((acc_iff uni (un.len _ hd).1).mpr h)
  | false =>
    refine iteF ?_
    obtain ⟨kvs, ht, kc, ch, sub, uni, _⟩ := ti
    have sat := hb rfl
    refine ⟨_, rfl, l, rfl, ⟨_, SqL.of (sm _ _ hL.1)⟩, comp_listIf (xs := refs L) (fun i => ((L[i]?).map fun x => inT T x.2).getD false) (fun i => (refs L).getD i .non) (by rw [refs_len]; omega) (SqL.of (sm _ _ hL.1)) (fun i x H2 hx s2 R kR => ?_) (fun i x H2 hx s2 _ R kR => ?_) (fun p H2 s2 g2 => ?_)⟩
    · obtain ⟨hk, rfl⟩ := refs_get hx
      obtain ⟨c, v, d1, d2, d3, d4, d5⟩ := (hL.2 _ (List.getElem_mem hk)).same (sm.trans s2)
      refine ⟨_, rfl, L[i].1, _, _, _, rfl, rfl, SqT.of d1, at0, _, rfl, L[i].1, _, _, _, rfl, rfl, SqT.of d1, at1, _, rfl, L[i].1, _, _, _, rfl, rfl, SqT.of d1, at0, c, _, _, _, rfl, rfl, SqT.of d2, nat_cell d4, size63 (Nat.le_of_ble_eq_true rfl), fun p1 g1 => ?_⟩
      have w1 := same_new g1 (.tup [.int (L[i].2.h : Int), .int (cellZ L[i].2.ns L[i].2.h)])
      have dg : DGet (upd H2 p1 (.tup [.int (L[i].2.h : Int), .int (cellZ L[i].2.ns L[i].2.h)])) t (.ref p1) (valV kvs (nmK L[i].2)) := .inr ⟨kvs, nmK L[i].2, p1, .inl (w1 _ _ (s2 _ _ ht)), rfl, upd_same, rfl⟩
      have ei : (valV kvs (nmK L[i].2)).isSome = ((L[i]?).map fun x => inT T x.2).getD false := by
        rw [List.getElem?_eq_getElem hk]
        show _ = inT T L[i].2
        unfold inT
        rcases kc.get (nmK L[i].2) with ⟨hf, hv⟩ | ⟨e, c', hf, hv, _⟩
        · rw [hf, hv]
          rfl
        · rw [hf, hv]
          rfl
      refine ⟨_, rfl, t, _, rfl, dg, _, rfl, ?_⟩
      rw [ei]
      exact kR _ w1
    · obtain ⟨hk, rfl⟩ := refs_get hx
      refine ⟨_, rfl, ?_⟩
      have e : (refs L).getD i .non = .ref L[i].1 := by unfold refs; simp [hk]
      rw [← e]
      exact kR H2 (Same.refl H2)
    · rw [pick_refs L (fun d => inT T d)]
      exact q p _ T ((sm.trans s2).trans (same_new g2 _)) ch sub sat upd_same
/-! ### the deeds of a script -/
def CK (H : Hp) (cA : Addr) (n : Nat) (as : List Addr) (cl : List (List Int)) : Prop := H cA = some (.lst (as.map V.ref)) ∧ as.length = n ∧ as.Nodup ∧ ∀ (g : Nat) (hg : g < as.length), H as[g] = some (.lst ((clk cl g).map V.int))
theorem CK.same {H H' : Hp} {cA : Addr} {n : Nat} {as : List Addr} {cl : List (List Int)} (x : CK H cA n as cl) (s : Same H H') : CK H' cA n as cl := ⟨s _ _ x.1, x.2.1, x.2.2.1, fun g hg => s _ _ (x.2.2.2 g hg)⟩
theorem at_as {as : List Addr} {k : Nat} (hk : k < as.length) : atI (as.map V.ref) (k : Int) = some (.ref as[k]) := atI_nat (by rw [List.getElem?_map, List.getElem?_eq_getElem hk]; rfl)
theorem lst_ne {H : Hp} {a b : Addr} {xs ys : List V} (h1 : H a = some (.lst xs)) (h2 : H b = some (.lst ys)) (h : xs ≠ ys) : a ≠ b := fun z => by
  rw [z, h2] at h1
  injection h1 with h1
  injection h1 with h1
  exact h h1.symm
theorem ints_refs {ns : List Int} {as : List Addr} (h : 0 < ns.length) : as.map V.ref ≠ ns.map V.int := fun e => by
  cases ns with
  | nil => exact absurd h (by simp)
  | cons n ns =>
    cases as with
    | nil => cases e
    | cons a as => cases e
theorem rep_flat : ∀ n : Nat, (List.replicate n [V.int 0]).flatten = (List.replicate n (0 : Int)).map V.int
  | 0 => rfl
  | n + 1 => by rw [List.replicate_succ, List.flatten_cons, rep_flat n]; rfl
theorem nd_set {as : List Addr} {k : Nat} {p : Addr} (h : as.Nodup) (hp : p ∉ as) : (as.set k p).Nodup := by
  rw [List.nodup_iff_pairwise_ne, List.pairwise_iff_getElem] at h ⊢
  intro i j hi hj hij
  rw [List.length_set] at hi hj
  rw [List.getElem_set, List.getElem_set]
  by_cases c1 : k = i
  · rw [if_pos c1, if_neg (by omega)]
    exact fun z => hp (z ▸ List.getElem_mem hj)
  · rw [if_neg c1]
    by_cases c2 : k = j
    · rw [if_pos c2]
      exact fun z => hp (z ▸ List.getElem_mem hi)
    · rw [if_neg c2]
      exact h i j hi hj hij
def spDeeds : Sp := fun vs H Q _ => ∃ (l : Addr) (cs : List Int) (h : Int), vs = [.ref l, .int h] ∧ H l = some (.lst (cs.map V.int)) ∧ cs.length ≤ 61 ∧ 1 ≤ h ∧ h ≤ 8 ∧ ∀ p H' L, Same H H' → LR H' p L → UN h.toNat (vals L) → L.length ≤ cs.length → Q (.ref p) H'
abbrev s_deeds : Stmt := top 10
abbrev N_deeds : List Str := ["_law_cells", "_law_hands", "_law_clocks", "_law_deeds_here", "_law_k", "_law_cell", "_law_mixed", "_law_hand", "_law_other", "_law_n", "_law_clock"]
theorem sc_deeds : FnScope N_deeds ["_law_cells", "_law_hands"] (defScope s_deeds) := ⟨rfl, rfl, rfl, by decide +kernel, rfl, by decide +kernel, by decide +kernel⟩
theorem ok_deeds {f : Addr} {fd : FuncData} (F : Fun K "_law_deeds" "_law_deeds" s_deeds f fd) (z_list : mg "list" = none) (z_enumerate : mg "enumerate" = none) (z_range : mg "range" = none) (z_max : mg "max" = none) (z_tuple : mg "tuple" = none) : FnOk P w K mg base CX0 1 f fd ["_law_cells", "_law_hands"] spDeeds := by
  refine F.okQ sc_deeds (fun vs H Q E h => ?_) (fun cdv A outer s H vs Q E hr h => ?_)
  · obtain ⟨l, cs, h, rfl, _⟩ := h
    rfl
  obtain ⟨l, cs, h, rfl, hl, hlen, h1, h8, q⟩ := h
  refine ⟨_, (b_c (s_set (i := 2) sc_deeds.nd (q_comp (own := ["_law_k"]) (⟨rfl, by decide +kernel, by decide +kernel, rfl, ⟨rfl, rfl, trivial⟩⟩ : CompOk _ _ [1] ["_law_hands"]) rfl (i_rng1 z_range (q_a (q_v 1) q_a0)) (fun _ _ _ _ => g_name (i := 0) (show (["_law_k", "_law_hands"] : List Str).Nodup by decide +kernel)) (gk_name (by decide)) (fun _ _ _ _ => if_0) (fun _ _ _ _ => (q_op o_rep (q_lst (q_a q_int q_a0)) (q_v 1)))))
      (b_c (s_set (i := 3) sc_deeds.nd (q_lst q_a0))
      (b_c (s_for PassesOwn.never rfl (i_enum z_enumerate (q_a (q_v 0) q_a0)) (g_tup rfl (gs_1 (g_name (i := 4) sc_deeds.nd) (gs_1 (g_name (i := 5) sc_deeds.nd) gs_0))) (b_c (s_set (i := 6) sc_deeds.nd (q_op o_mod (q_op o_add (q_op o_mul (q_v 5) q_int) (q_op o_mul (q_op o_mul (q_v 4) (q_v 4)) q_int)) q_int))
      (b_c (s_set (i := 7) sc_deeds.nd (q_op o_mod (q_v 6) (q_v 1)))
      (b_c (s_set (i := 8) sc_deeds.nd (q_op o_mod (q_op o_fdiv (q_v 6) (q_v 1)) (q_op o_mul q_int (q_v 1))))
      (b_c (s_set (i := 9) sc_deeds.nd (q_op o_fdiv (q_v 6) q_int))
      (b_c (s_join (s_if (t_cmp o_lt (q_v 8) (q_v 1)) (b_1 (s_asg (q_comp (own := ["_law_j"]) (⟨rfl, by decide +kernel, by decide +kernel, rfl, ⟨rfl, rfl, ⟨rfl, rfl, ⟨rfl, rfl, trivial⟩⟩⟩⟩ : CompOk _ _ [2, 7, 8] ["_law_clocks", "_law_hand", "_law_other"]) rfl (i_rng1 z_range (q_a (q_v 1) q_a0)) (fun _ _ _ _ => g_name (i := 0) (show (["_law_j", "_law_clocks", "_law_hand", "_law_other"] : List Str).Nodup by decide +kernel)) (gk_name (by decide)) (fun _ _ _ _ => if_0) (fun _ _ _ _ => (q_B (c_max rfl) z_max boot_max (q_a (q_ix (xK_list (K := K) rfl) (q_ix (xK_list (K := K) rfl) (q_v 1) (q_v 2)) (q_v 0)) (q_a (q_ix (xK_list (K := K) rfl) (q_ix (xK_list (K := K) rfl) (q_v 1) (q_v 3)) (q_v 0)) q_a0))))) (g_sub (q_v 2) (q_v 7) set_l))) b_0))
      (b_c (s_asg (q_op o_add (q_ix x_list (q_ix x_list (q_v 2) (q_v 7)) (q_v 7)) q_int) (g_sub (q_ix x_list (q_v 2) (q_v 7)) (q_v 7) set_l))
      (b_c (s_set (i := 10) sc_deeds.nd (q_Ty c_list z_list boot_list (q_a (q_ix x_list (q_v 2) (q_v 7)) q_a0)))
      (b_c (s_join (s_if (t_cmp o_eq (q_op o_mod (q_v 9) q_int) q_int) (b_c (s_setC (j := 10) sc_deeds.nd (own := ["_law_j"]) (⟨rfl, by decide +kernel, by decide +kernel, rfl, ⟨rfl, rfl, trivial⟩⟩ : CompOk _ _ [9] ["_law_n"]) rfl (i_rng1 z_range (q_a (q_v 1) q_a0)) (fun _ _ _ _ => g_name (i := 0) (show (["_law_j", "_law_n"] : List Str).Nodup by decide +kernel)) (gk_name (by decide)) (fun _ _ _ _ => if_0) (fun _ _ _ _ => (q_op o_mod (q_op o_fdiv (q_v 1) (q_op o_add q_int (q_op o_mul q_int (q_v 0)))) q_int)))
      (b_1 (s_asg (q_ix x_list (q_ix x_list (q_v 2) (q_v 7)) (q_v 7)) (g_sub (q_v 10) (q_v 7) set_l)))) b_0))
      (b_1 (s_if (t_cmp o_ne (q_op o_mod (q_v 9) q_int) q_int) (b_1 (s_expr (q_app (q_v 3) (q_tup (q_a (q_v 7) (q_a (q_Ty c_tup z_tuple boot_tuple (q_a (q_v 10) q_a0)) (q_a (q_ix x_list (q_lst (q_a (q_tup (q_a q_str q_a0)) (q_a (q_tup (q_a q_str (q_a q_non (q_a (q_tup (q_a (q_op o_mod (q_v 9) q_int) q_a0)) (q_a q_str q_a0))))) q_a0))) (q_op o_mod (q_op o_fdiv (q_v 9) q_int) q_int)) q_a0))))))) b_0)))))))))))
      (b_1 (s_ret (q_v 3)))))), ?_⟩
  obtain ⟨n, hn⟩ : ∃ n : Nat, n = h.toNat := ⟨_, rfl⟩
  have hn' : (n : Int) = h := by omega
  rw [← hn] at q
  have n1 : 1 ≤ n := by omega
  have n8 : n ≤ 8 := by omega
  refine ⟨_, rfl, _, rfl, by omega, by omega, ?_⟩
  refine comp_inv (N := n) (fun i ys H' => Same H H' ∧ ∃ as : List Addr, ys = as.map V.ref ∧ as.length = i ∧ as.Nodup ∧ ∀ b ∈ as, H b = none ∧ H' b = some (.lst ((List.replicate n (0 : Int)).map V.int))) (by omega) (fun i ys H' ⟨_, as, e, la, _⟩ => by rw [e, List.length_map, la]) ⟨Same.refl H, [], rfl, rfl, .nil, fun b hb => absurd hb (by simp)⟩ (fun i ys H' hi _ => ?_) (fun ys H' _ => ?_) (fun i ys H1 x H2 hi ⟨sm, as, e, la, nd, ha⟩ y A kA => ?_) (fun ys cA H1 ⟨sm, as, e, la, nd, ha⟩ gA => ?_)
  · show i < h.toNat
    omega
  · show h.toNat ≤ n
    omega
  · obtain ⟨rfl, rfl⟩ := y
    refine ⟨size63 (Nat.le_of_ble_eq_true rfl), fun pz gz => ⟨_, rfl, pz, h, _, rfl, rfl, upd_same, by omega, by omega, ?_, fun pr gr => kA _ _ ?_⟩⟩
    · exact size63 (by rw [List.length_singleton]; omega)
    · have w1 := same_new gz (.lst [V.int 0])
      have w2 := w1.trans (same_new gr (.lst (List.replicate h.toNat [V.int 0]).flatten))
      have fr : H pr = none := by
        cases e' : H pr with
        | none => rfl
        | some o =>
          have := w1 _ _ (sm _ _ e')
          rw [gr] at this
          cases this
      refine ⟨sm.trans w2, as ++ [pr], by rw [e, List.map_append]; rfl, by rw [List.length_append, la]; rfl, ?_, fun b hb => ?_⟩
      · refine List.nodup_append.mpr ⟨nd, by simp, fun b hb c hc => ?_⟩
        rw [List.mem_singleton.mp hc]
        intro z
        have := w1 _ _ (ha b hb).2
        rw [z, gr] at this
        cases this
      · rcases List.mem_append.mp hb with hb | hb
        · exact ⟨(ha b hb).1, w2 _ _ (ha b hb).2⟩
        · rw [List.mem_singleton.mp hb]
          refine ⟨fr, ?_⟩
          rw [upd_same, ← hn, rep_flat]
  · subst e
    have w1 := same_new gA (.lst (as.map V.ref))
    have fA : H cA = none := by
      cases e' : H cA with
      | none => rfl
      | some o =>
        have := sm _ _ e'
        rw [gA] at this
        cases this
    have ck : CK (upd H1 cA (.lst (as.map V.ref))) cA n as (List.replicate n (List.replicate n (0 : Int))) := ⟨upd_same, la, nd, fun g hg => by rw [clk_rep (by omega)]; exact w1 _ _ (ha _ (List.getElem_mem hg)).2⟩
    have S1 := sm.trans w1
    have fas : ∀ b ∈ as, H b = none := fun b hb => (ha b hb).1
    generalize upd H1 cA (.lst (as.map V.ref)) = H2 at ck S1 ⊢
    refine ⟨size63 (Nat.le_of_ble_eq_true rfl), fun p gp => ?_⟩
    have w2 := same_new gp (.lst [])
    have fp : H p = none := by
      cases e' : H p with
      | none => rfl
      | some o =>
        have := S1 _ _ e'
        rw [gp] at this
        cases this
    have ncp : cA ≠ p := fun z => by
      have := ck.1
      rw [z, gp] at this
      cases this
    refine ⟨_, rfl, l, _, rfl, w2 _ _ (S1 _ _ hl), ?_⟩
    refine for_enum (i := 4) (j := 5) (fun k σ H' => Same H H' ∧ (∃ o4 o5 o6 o7 o8 o9 o10, σ = [some (.ref l), some (.int h), some (.ref cA), some (.ref p), o4, o5, o6, o7, o8, o9, o10]) ∧ ∃ as cl L, CK H' cA n as cl ∧ LR H' p L ∧ Gen n cl (vals L) ∧ L.length ≤ k ∧ ∀ b ∈ as, H b = none)
      ⟨S1.trans w2, ⟨none, none, none, none, none, none, none, rfl⟩, as, _, [], ck.same w2, ⟨upd_same, fun x hx => absurd hx (by simp)⟩, Gen.start n, Nat.le_refl _, fas⟩ (fun i σ H' _ ⟨sm, _⟩ => SqL.of (sm _ _ hl)) (fun k x σ H3 hx ⟨S3, ⟨o4, o5, o6, o7, o8, o9, o10, eσ⟩, as, cl, L, ck, lr, gen, lL, fas⟩ T hT => ?_) (fun σ H3 ⟨S3, ⟨o4, o5, o6, o7, o8, o9, o10, eσ⟩, as, cl, L, ck, lr, gen, lL, fas⟩ => ?_)
    · subst eσ
      obtain ⟨rfl, hk⟩ := int_item hx
      have sT := same_new hT (.tup [.int (k : Int), .int (cellZ cs k)])
      refine ⟨_, rfl, _, _, rfl, rfl, .inr ⟨by decide, by decide⟩, _, rfl, _, rfl, _, _, rfl, rfl, .inl ⟨by omega, by omega⟩, _, _, rfl, rfl, .inr ⟨by decide, by decide⟩, _, _, rfl, rfl, _, _, rfl, rfl, (by show (0 : Int) < 2147483647; decide), ?_⟩
      have z0 := Int.emod_nonneg (cellZ cs k * 48271 + (k : Int) * (k : Int) * 69621) (show (2147483647 : Int) ≠ 0 by decide)
      dsimp only
      generalize (cellZ cs k * 48271 + (k : Int) * (k : Int) * 69621) % 2147483647 = mz at z0 ⊢
      refine ⟨_, rfl, _, rfl, _, _, rfl, rfl, (by show (0 : Int) < h; omega), ?_⟩
      have d0 := Int.emod_nonneg mz (show h ≠ 0 by omega)
      have d1 := Int.emod_lt_of_pos mz (show (0 : Int) < h by omega)
      dsimp only
      generalize mz % h = hd at d0 d1 ⊢
      obtain ⟨hN, rfl⟩ : ∃ hN : Nat, hd = (hN : Int) := ⟨hd.toNat, by omega⟩
      have hNn : hN < n := by omega
      refine ⟨_, rfl, _, rfl, _, _, rfl, rfl, ⟨by omega, by omega⟩, _, rfl, _, _, rfl, rfl, .inl ⟨by decide, by decide⟩, _, _, rfl, rfl, (by show (0 : Int) < 2 * h; omega), ?_⟩
      have b0 := Int.emod_nonneg (mz / h) (show 2 * h ≠ 0 by omega)
      dsimp only
      generalize mz / h % (2 * h) = ot at b0 ⊢
      refine ⟨_, rfl, _, _, rfl, rfl, ⟨by decide, by decide⟩, ?_⟩
      have y0 : 0 ≤ mz / 50 := Int.ediv_nonneg z0 (by decide)
      dsimp only
      generalize mz / 50 = nz at y0 ⊢
      have S4 := S3.trans sT
      have ck4 := ck.same sT
      have lr4 := lr.same sT
      generalize upd H3 T (.tup [.int (k : Int), .int (cellZ cs k)]) = H4 at S4 ck4 lr4 ⊢
      clear ck lr sT hT S3
      refine ⟨fun σ' H5 => Same H H5 ∧ σ' = [some (.ref l), some (.int h), some (.ref cA), some (.ref p), some (.int (k : Int)), some (.int (cellZ cs k)), some (.int mz), some (.int (hN : Int)), some (.int ot), some (.int nz), o10] ∧ ∃ as cl, CK H5 cA n as cl ∧ LR H5 p L ∧ Gen n cl (vals L) ∧ ∀ b ∈ as, H b = none, ?_, ?_⟩
      · refine ⟨_, rfl, _, rfl, _, _, rfl, rfl, _, rfl, iteD (fun hc => ?_) fun hc => ?_⟩
        · obtain ⟨oN, rfl⟩ : ∃ oN : Nat, ot = (oN : Int) := ⟨ot.toNat, by omega⟩
          have oNn : oN < n := by omega
          have ha : hN < as.length := by rw [ck4.2.1]; exact hNn
          have oa : oN < as.length := by rw [ck4.2.1]; exact oNn
          refine ⟨_, rfl, _, rfl, by omega, by omega, comp_range (N := h.toNat) (lo := 0) (fun j => .int (if cellZ (clk cl oN) (0 + (j : Int)).toNat > cellZ (clk cl hN) (0 + (j : Int)).toNat then cellZ (clk cl oN) (0 + (j : Int)).toNat else cellZ (clk cl hN) (0 + (j : Int)).toNat)) (by omega) (fun j H6 hj s6 R kR => ?_) (fun p1 H6 s6 g6 => ?_)⟩
          · have ck6 := ck4.same s6
            have l1 : ((0 + (j : Int)) : Int) < ((clk cl hN).length : Int) := by rw [gen.cc hN hNn]; omega
            have l2 : ((0 + (j : Int)) : Int) < ((clk cl oN).length : Int) := by rw [gen.cc oN oNn]; omega
            exact ⟨_, rfl, _, rfl, cA, _, _, _, rfl, rfl, SqL.of ck6.1, at_as ha, _, rfl, as[hN], _, _, _, rfl, rfl, SqL.of (ck6.2.2.2 hN ha), atI_cell (by omega) l1, _, rfl, _, rfl, cA, _, _, _, rfl, rfl, SqL.of ck6.1, at_as oa, _, rfl, as[oN], _, _, _, rfl, rfl, SqL.of (ck6.2.2.2 oN oa), atI_cell (by omega) l2, _, _, rfl, kR H6 (Same.refl H6)⟩
          · have em : ((List.range h.toNat).map fun (j : Nat) => V.int (if cellZ (clk cl oN) (0 + (j : Int)).toNat > cellZ (clk cl hN) (0 + (j : Int)).toNat then cellZ (clk cl oN) (0 + (j : Int)).toNat else cellZ (clk cl hN) (0 + (j : Int)).toNat)) = (mx (clk cl hN) (clk cl oN) n).map V.int := by
              unfold mx
              rw [List.map_map, ← hn]
              apply List.map_congr_left
              intro j _
              show V.int _ = V.int _
              rw [show (0 + (j : Int)).toNat = j by omega]
            rw [em]
            have gm := gen.met hNn oNn
            have lm : (mx (clk cl hN) (clk cl oN) n).length = n := mx_len
            generalize mx (clk cl hN) (clk cl oN) n = cm at gm lm ⊢
            have w6 := s6.trans (same_new g6 (.lst (cm.map V.int)))
            have ck7 := ck4.same w6
            have lr7 := lr4.same w6
            have S7 := S4.trans w6
            have e7 : upd H6 p1 (.lst (cm.map V.int)) p1 = some (.lst (cm.map V.int)) := upd_same
            have fp1 : H p1 = none := by
              cases e' : H p1 with
              | none => rfl
              | some o =>
                have := s6 _ _ (S4 _ _ e')
                rw [g6] at this
                cases this
            have np1 : p1 ∉ as := fun hm => by
              obtain ⟨i, hi, rfl⟩ := List.mem_iff_getElem.mp hm
              have := s6 _ _ (ck4.2.2.2 i hi)
              rw [g6] at this
              cases this
            generalize upd H6 p1 (.lst (cm.map V.int)) = H7 at ck7 lr7 S7 e7 ⊢
            have las : as.length = n := ck4.2.1
            refine ⟨_, rfl, _, rfl, cA, _, _, hN, rfl, rfl, ck7.1, ?_, same_write S7 fA, rfl, as.set hN p1, cl.set hN cm, ⟨?_, ?_, nd_set ck7.2.2.1 np1, fun g hg => ?_⟩, ⟨?_, fun x hx => ?_⟩, gm, fun b hb => ?_⟩
            · unfold ixN
              rw [List.length_map, if_pos (by omega), if_pos (by omega)]
              rfl
            · rw [upd_same, List.map_set]
            · rw [List.length_set]
              exact las
            · rw [List.length_set] at hg
              rw [List.getElem_set, clk_set (by rw [gen.cn]; exact hNn)]
              by_cases c : hN = g
              · rw [if_pos c, if_pos c.symm, upd_ne (lst_ne e7 ck7.1 (fun z => ints_refs (by omega) z.symm))]
                exact e7
              · rw [if_neg c, if_neg (fun z => c z.symm), upd_ne (lst_ne (ck7.2.2.2 g hg) ck7.1 (fun z => ints_refs (by rw [gen.cc g (by omega)]; omega) z.symm))]
                exact ck7.2.2.2 g hg
            · rw [upd_ne ncp.symm]
              exact lr7.1
            · exact (lr7.2 x hx).ts (ts_upd fun zs e' => by rw [ck7.1] at e'; cases e')
            · rcases List.mem_or_eq_of_mem_set hb with hb | rfl
              · exact fas b hb
              · exact fp1
        · exact ⟨S4, rfl, as, cl, ck4, lr4, gen, fas⟩
      · rintro σ' H5 ⟨S5, rfl, as5, cl5, ck5, lr5, gen5, fas5⟩
        have ha : hN < as5.length := by rw [ck5.2.1]; exact hNn
        have cN := ck5.2.2.2 hN ha
        have lc := gen5.cc hN hNn
        have fa := fas5 _ (List.getElem_mem ha)
        refine ⟨_, rfl, _, rfl, cA, _, _, _, rfl, rfl, SqL.of ck5.1, at_as ha, _, rfl, as5[hN], _, _, _, rfl, rfl, SqL.of cN, nat_cell (by rw [lc]; exact hNn), _, _, rfl, rfl, _, rfl, _, rfl, cA, _, _, _, rfl, rfl, SqL.of ck5.1, at_as ha, _, rfl, as5[hN], _, _, hN, rfl, rfl, cN, ?_, ?_⟩
        · unfold ixN
          rw [List.length_map, lc, if_pos (by omega), if_pos (by omega)]
          rfl
        have ec : ((clk cl5 hN).map V.int).set hN (.int (cellZ (clk cl5 hN) hN + 1)) = ((clk cl5 hN).set hN (cellZ (clk cl5 hN) hN + 1)).map V.int := by rw [List.map_set]
        rw [ec]
        have npa : p ≠ as5[hN] := lst_ne lr5.1 cN (by unfold refs; exact fun z => ints_refs (as := L.map Prod.fst) (by rw [lc]; omega) (by rw [← z, List.map_map]; rfl))
        have nca : cA ≠ as5[hN] := lst_ne ck5.1 cN (ints_refs (by rw [lc]; omega))
        have S6 := same_write (o := .lst (((clk cl5 hN).set hN (cellZ (clk cl5 hN) hN + 1)).map V.int)) S5 fa
        have t6 : TS H5 (upd H5 as5[hN] (.lst (((clk cl5 hN).set hN (cellZ (clk cl5 hN) hN + 1)).map V.int))) := ts_upd fun zs e' => by rw [cN] at e'; cases e'
        have lr6 : LR (upd H5 as5[hN] (.lst (((clk cl5 hN).set hN (cellZ (clk cl5 hN) hN + 1)).map V.int))) p L := ⟨by rw [upd_ne npa]; exact lr5.1, fun x hx => (lr5.2 x hx).ts t6⟩
        have ck6 : CK (upd H5 as5[hN] (.lst (((clk cl5 hN).set hN (cellZ (clk cl5 hN) hN + 1)).map V.int))) cA n as5 (cl5.set hN ((clk cl5 hN).set hN (cellZ (clk cl5 hN) hN + 1))) := by
          refine ⟨by rw [upd_ne nca]; exact ck5.1, ck5.2.1, ck5.2.2.1, fun g hg => ?_⟩
          rw [clk_set (by rw [gen5.cn]; exact hNn)]
          by_cases c : g = hN
          · subst c
            rw [if_pos rfl, upd_same]
          · rw [if_neg c, upd_ne]
            · exact ck5.2.2.2 g hg
            · have nd := ck5.2.2.1
              rw [List.nodup_iff_pairwise_ne, List.pairwise_iff_getElem] at nd
              rcases Nat.lt_or_ge g hN with c1 | c1
              · exact nd g hN hg ha c1
              · exact (nd hN g ha hg (by omega)).symm
        obtain ⟨g6, ga⟩ := gen5.up hNn
        have lc' : ((clk cl5 hN).set hN (cellZ (clk cl5 hN) hN + 1)).length = n := by rw [List.length_set, lc]
        have cH : cellZ ((clk cl5 hN).set hN (cellZ (clk cl5 hN) hN + 1)) hN = cellZ (clk cl5 hN) hN + 1 := by rw [cell_set (by rw [lc]; exact hNn), if_pos rfl]
        have c6 : upd H5 as5[hN] (.lst (((clk cl5 hN).set hN (cellZ (clk cl5 hN) hN + 1)).map V.int)) as5[hN] = some (.lst (((clk cl5 hN).set hN (cellZ (clk cl5 hN) hN + 1)).map V.int)) := upd_same
        generalize upd H5 as5[hN] (.lst (((clk cl5 hN).set hN (cellZ (clk cl5 hN) hN + 1)).map V.int)) = H6 at S6 lr6 ck6 c6 ⊢
        generalize (clk cl5 hN).set hN (cellZ (clk cl5 hN) hN + 1) = nc at ck6 ga g6 lc' c6 cH
        generalize cellZ (clk cl5 hN) hN + 1 = ow at ga cH
        generalize cl5.set hN nc = cl6 at ck6 ga g6
        clear ck5 lr5 gen5 t6 S5 cN ec npa nca
        refine ⟨_, rfl, _, rfl, cA, _, _, _, rfl, rfl, SqL.of ck6.1, at_as ha, as5[hN], _, rfl, .inl (SqL.of c6), fun q0 g0 => ?_⟩
        have w0 := same_new g0 (.lst (nc.map V.int))
        have e0 : upd H6 q0 (.lst (nc.map V.int)) q0 = some (.lst (nc.map V.int)) := upd_same
        have S7 := S6.trans w0
        have lr7 := lr6.same w0
        have ck7 := ck6.same w0
        have c7 := w0 _ _ c6
        generalize upd H6 q0 (.lst (nc.map V.int)) = H7 at e0 S7 lr7 ck7 c7 ⊢
        clear w0 S6 lr6 ck6 c6 g0
        refine ⟨fun σ' H8 => Same H H8 ∧ ∃ (cq : Addr) (ns : List Int), σ' = [some (.ref l), some (.int h), some (.ref cA), some (.ref p), some (.int (k : Int)), some (.int (cellZ cs k)), some (.int mz), some (.int (hN : Int)), some (.int ot), some (.int nz), some (.ref cq)] ∧ H8 cq = some (.lst (ns.map V.int)) ∧ ns.length = n ∧ cellZ ns hN = ow ∧ CK H8 cA n as5 cl6 ∧ LR H8 p L, ?_, ?_⟩
        · refine ⟨_, rfl, _, _, rfl, rfl, (by show (0 : Int) < 7; decide), rfl, _, rfl, iteI (fun h1' => ?_) fun h1' => ?_⟩
          · refine ⟨_, rfl, _, rfl, by omega, by omega, comp_range (N := h.toNat) (lo := 0) (fun j => .int (nz / (7 + 5 * (0 + (j : Int))) % 4)) (by omega) (fun j H8 hj s8 R kR => ?_) (fun q1 H8 s8 g8 => ?_)⟩
            · exact ⟨_, rfl, _, rfl, _, _, rfl, rfl, .inl ⟨by decide, by decide⟩, _, _, rfl, rfl, _, _, rfl, rfl, ⟨by omega, by omega⟩, _, _, rfl, rfl, (by show (0 : Int) < 4; decide), kR H8 (Same.refl H8)⟩
            · rw [← map_ints]
              have lx : ((List.range h.toNat).map fun (j : Nat) => nz / (7 + 5 * (0 + (j : Int))) % 4).length = n := by rw [List.length_map, List.length_range]; exact hn.symm
              generalize ((List.range h.toNat).map fun (j : Nat) => nz / (7 + 5 * (0 + (j : Int))) % 4) = xs at lx ⊢
              have w8 := s8.trans (same_new g8 (.lst (xs.map V.int)))
              have e8 : upd H8 q1 (.lst (xs.map V.int)) q1 = some (.lst (xs.map V.int)) := upd_same
              have S8 := S7.trans w8
              have lr8 := lr7.same w8
              have ck8 := ck7.same w8
              have c8 := w8 _ _ c7
              have f7 : H7 q1 = none := by
                cases e' : H7 q1 with
                | none => rfl
                | some o =>
                  have := s8 _ _ e'
                  rw [g8] at this
                  cases this
              have s78 : Same H7 (upd H8 q1 (.lst (xs.map V.int))) := w8
              generalize upd H8 q1 (.lst (xs.map V.int)) = H9 at e8 S8 lr8 ck8 c8 s78 ⊢
              refine ⟨_, rfl, _, rfl, cA, _, _, _, rfl, rfl, SqL.of ck8.1, at_as ha, _, rfl, as5[hN], _, _, _, rfl, rfl, SqL.of c8, nat_cell (by rw [lc']; exact hNn), _, rfl, _, rfl, q1, _, _, hN, rfl, rfl, e8, ?_, ?_⟩
              · unfold ixN
                rw [List.length_map, lx, if_pos (by omega), if_pos (by omega)]
                rfl
              have ex : (xs.map V.int).set hN (.int (cellZ nc hN)) = (xs.set hN (cellZ nc hN)).map V.int := by rw [List.map_set]
              rw [ex]
              have sw := same_write (o := .lst ((xs.set hN (cellZ nc hN)).map V.int)) s78 f7
              refine ⟨S7.trans sw, q1, xs.set hN (cellZ nc hN), rfl, upd_same, by rw [List.length_set]; exact lx, ?_, ck7.same sw, lr7.same sw⟩
              rw [cell_set (by rw [lx]; exact hNn), if_pos rfl, cH]
          · exact ⟨S7, q0, nc, rfl, e0, lc', cH, ck7, lr7⟩
        · rintro σ' H8 ⟨S8, cq, ns, rfl, ecq, lns, ons, ck8, lr8⟩
          refine ⟨_, rfl, _, _, rfl, rfl, (by show (0 : Int) < 7; decide), rfl, _, rfl, ?_⟩
          by_cases hc2 : V.int (nz % 7) = V.int 2
          · refine iteNS hc2 ?_
            exact ⟨S8, ⟨_, _, _, _, _, _, _, rfl⟩, as5, cl6, L, ck8, lr8, g6, by omega, fas5⟩
          · have hne : (!decide (V.int (nz % 7) = V.int 2)) = true := by rw [decide_eq_false hc2]; rfl
            rw [hne]
            refine iteT ?_
            refine ⟨_, rfl, .inl ⟨rfl, _, SqL.of lr8.1⟩, _, rfl, _, rfl, cq, _, rfl, .inl ⟨SqL.of ecq, fun q5 f5 => ?_⟩⟩
            have w5 := same_new f5 (.tup (ns.map V.int))
            have e5 : upd H8 q5 (.tup (ns.map V.int)) q5 = some (.tup (ns.map V.int)) := upd_same
            have S9 := S8.trans w5
            have lr9 := lr8.same w5
            have ck9 := ck8.same w5
            generalize upd H8 q5 (.tup (ns.map V.int)) = H9 at e5 S9 lr9 ck9 ⊢
            refine ⟨size63 (Nat.le_of_ble_eq_true rfl), fun q1 f1 => ?_⟩
            have w1 := same_new f1 (.tup [.str "none"])
            refine ⟨_, rfl, _, _, rfl, rfl, (by show (0 : Int) < 31; decide), size63 (Nat.le_of_ble_eq_true rfl), fun q2 f2 => ?_⟩
            have w2 := w1.trans (same_new f2 (.tup [.int (nz % 31)]))
            refine ⟨size63 (Nat.le_of_ble_eq_true rfl), fun q3 f3 => ?_⟩
            have w3 := w2.trans (same_new f3 (.tup [.str "put", .non, .ref q2, .str ""]))
            refine ⟨size63 (Nat.le_of_ble_eq_true rfl), fun q4 f4 => ?_⟩
            have w4 := w3.trans (same_new f4 (.lst [.ref q1, .ref q3]))
            have k0 := Int.emod_nonneg (nz / 7) (show (2 : Int) ≠ 0 by decide)
            have k1 := Int.emod_lt_of_pos (nz / 7) (show (0 : Int) < 2 by decide)
            have e1 : upd H9 q1 (.tup [.str "none"]) q1 = some (.tup [.str "none"]) := upd_same
            have e2 : upd (upd H9 q1 (.tup [.str "none"])) q2 (.tup [.int (nz % 31)]) q2 = some (.tup [.int (nz % 31)]) := upd_same
            have x1 := same_new f4 (.lst [.ref q1, .ref q3]) _ _ (same_new f3 (.tup [.str "put", .non, .ref q2, .str ""]) _ _ (same_new f2 (.tup [.int (nz % 31)]) _ _ e1))
            have x2 := same_new f4 (.lst [.ref q1, .ref q3]) _ _ (same_new f3 (.tup [.str "put", .non, .ref q2, .str ""]) _ _ e2)
            have x3 := same_new f4 (.lst [.ref q1, .ref q3]) q3 (.tup [.str "put", .non, .ref q2, .str ""]) upd_same
            have x4 : upd (upd (upd (upd H9 q1 (.tup [.str "none"])) q2 (.tup [.int (nz % 31)])) q3 (.tup [.str "put", .non, .ref q2, .str ""])) q4 (.lst [.ref q1, .ref q3]) q4 = some (.lst [.ref q1, .ref q3]) := upd_same
            generalize upd (upd (upd (upd H9 q1 (.tup [.str "none"])) q2 (.tup [.int (nz % 31)])) q3 (.tup [.str "put", .non, .ref q2, .str ""])) q4 (.lst [.ref q1, .ref q3]) = H10 at w4 x1 x2 x3 x4 ⊢
            obtain ⟨wv, ww, hw, hWR⟩ : ∃ (wv : V) (ww : Option Int), atI [.ref q1, .ref q3] (nz / 7 % 2) = some wv ∧ WR H10 wv ww := by
              rcases (show nz / 7 % 2 = 0 ∨ nz / 7 % 2 = 1 by omega) with z | z
              · rw [z]
                exact ⟨_, none, at0, q1, rfl, x1⟩
              · rw [z]
                exact ⟨_, some (nz % 31), at1, q3, q2, rfl, x3, x2⟩
            refine ⟨_, rfl, _, _, rfl, rfl, ⟨by decide, by decide⟩, _, _, rfl, rfl, (by show (0 : Int) < 2; decide), q4, _, _, _, rfl, rfl, SqL.of x4, hw, size63 (Nat.le_of_ble_eq_true rfl), fun q6 f6 => ?_⟩
            have w6 := w4.trans (same_new f6 (.tup [.int (hN : Int), .ref q5, wv]))
            have lrA := lr9.same w6
            have ckA := ck9.same w6
            have SA := S9.trans w6
            have dd : DR (upd H10 q6 (.tup [.int (hN : Int), .ref q5, wv])) q6 ⟨hN, ns, ww⟩ := ⟨q5, wv, upd_same, w6 _ _ e5, hWR.ts (Same.ts (same_new f6 _)), by show hN < ns.length; omega, by show ns.length ≤ 8; omega⟩
            generalize upd H10 q6 (.tup [.int (hN : Int), .ref q5, wv]) = HA at lrA ckA SA dd ⊢
            refine ⟨p, _, _, rfl, rfl, lrA.1, small1000 (by rw [refs_len]; omega), ?_⟩
            have t8 : TS HA (upd HA p (.lst (refs L ++ [.ref q6]))) := ts_upd fun zs e' => by rw [lrA.1] at e'; cases e'
            refine ⟨same_write SA fp, ⟨_, _, _, _, _, _, _, rfl⟩, as5, cl6, L ++ [(q6, ⟨hN, ns, ww⟩)], ⟨?_, ckA.2.1, ckA.2.2.1, fun g hg => ?_⟩, ⟨?_, fun x hx => ?_⟩, ?_, by rw [List.length_append, List.length_singleton]; omega, fas5⟩
            · rw [upd_ne ncp]
              exact ckA.1
            · have hgn : g < n := by rw [← ckA.2.1]; exact hg
              have lg : (clk cl6 g).length = n := g6.cc g hgn
              rw [upd_ne (fun z => lst_ne lrA.1 (ckA.2.2.2 g hg) (by unfold refs; exact fun z => ints_refs (as := L.map Prod.fst) (by rw [lg]; omega) (by rw [← z, List.map_map]; rfl)) z.symm)]
              exact ckA.2.2.2 g hg
            · rw [upd_same]
              unfold refs
              rw [List.map_append]
              rfl
            · rcases List.mem_append.mp hx with hx | hx
              · exact (lrA.2 x hx).ts t8
              · rw [List.mem_singleton.mp hx]
                exact dd.ts t8
            · unfold vals
              rw [List.map_append]
              exact ga ns ww lns ons
    · subst eσ
      exact ⟨_, rfl, q p H3 L S3 lr gen.un (by rw [List.length_map] at lL; exact lL)⟩
theorem kit_lst {K : PySem.W.Frag} : PySem.W.kitOne K (.type "list") (.type "list") = some true := by with_unfolding_all rfl
theorem cut_cs {ns : List Int} (h : ns.length ≤ 63) : ∃ cs : List Int, cutV (ns.map V.int) (some 2) (some 92) = cs.map V.int ∧ cs.length ≤ 61 := by
  refine ⟨(ns.drop (HT.sIx (ns.map V.int).length 0 (some 2))).take (HT.sIx (ns.map V.int).length (ns.map V.int).length (some 92) - HT.sIx (ns.map V.int).length 0 (some 2)), ?_, ?_⟩
  · unfold cutV
    rw [List.map_take, List.map_drop]
  · rw [List.length_take, List.length_drop, List.length_map, sIx_at (by decide), sIx_at (by decide)]
    have : (2 : Int).toNat = 2 := rfl
    omega
def spLaw (K : PySem.W.Frag) (T1 T2 : Addr) : Sp := fun vs H Q _ => ∃ (a : Addr) (ns : List Int), vs = [.ref a] ∧ SqL K H a (ns.map V.int) ∧ ns.length ≤ 63 ∧ H T1 = some (.tbl #[]) ∧ H T2 = some (.tbl #[]) ∧ T1 ≠ T2 ∧ ∀ H', Q (.bl true) H'
theorem LR.perm {H : Hp} {l : Addr} {L M : LT} (x : LR H l L) {D : Addr} (h : H D = some (.lst (refs M))) (p : M.Perm L) : LR H D M := ⟨h, fun y hy => x.2 y (p.mem_iff.mp hy)⟩
theorem LR.sameT {T l : Addr} {H H' : Hp} {L : LT} {ps : Array Value} (x : LR H l L) (hT : H T = some (.tbl ps)) (s : SameT T H H') : LR H' l L := by
  have nl : l ≠ T := fun z => by
    have := x.1
    rw [z, hT] at this
    cases this
  exact ⟨s _ _ x.1 nl, fun y hy => (x.2 y hy).ts (sameT_ts (fun zs e => by rw [hT] at e; cases e) s)⟩
theorem LR.updL {l D : Addr} {H : Hp} {L : LT} {xs : List V} {o : HO} (x : LR H l L) (hD : H D = some (.lst xs)) (hn : l ≠ D) : LR (upd H D o) l L := ⟨by rw [upd_ne hn]; exact x.1, fun y hy => (x.2 y hy).ts (ts_upd fun zs e => by rw [hD] at e; cases e)⟩
theorem LR.drs {l D : Addr} {H : Hp} {L : LT} {xs : List V} {o : HO} (x : LR H l L) (hD : H D = some (.lst xs)) : ∀ y ∈ L, DR (upd H D o) y.1 y.2 := fun y hy => (x.2 y hy).ts (ts_upd fun zs e => by rw [hD] at e; cases e)
theorem lamTab_upd {q : Str} {T D : Addr} {pos : Pos} {H : Hp} {xs ys : List V} (h : LamTab q T pos H) (hD : H D = some (.lst xs)) : LamTab q T pos (upd H D (.lst ys)) := lamTab_but (r := D) h (fun b o e hb => by rw [upd_ne hb]; exact e) fun f hf => by
  rw [hD] at hf
  cases hf
  exact ⟨fun ps e => (by cases e), fun c e => (by cases e)⟩
abbrev s_law : Stmt := top 14
abbrev N_law : List Str := ["_law_script", "_law_hands", "_law_deeds_here", "_law_step", "_law_places", "_law_some", "_law_handed", "_law_found"]
theorem sc_law : FnScope N_law ["_law_script"] (defScope s_law) := ⟨rfl, rfl, rfl, by decide +kernel, rfl, by decide +kernel, by decide +kernel⟩
abbrev qLam2 : Str := (("law" : Str) ++ ".<locals>.") ++ "<lambda>"
abbrev lamY : Expr := lamE (iterE ((defBody s_law).getD 3 (.Pass ⟨0, 0, 0, 0⟩)))
def spLam2 (kv : V) : Sp := fun vs H Q _ => ∃ (k st : Int), kv = .int st ∧ vs = [.int k] ∧ (0 ≤ st ∧ st ≤ 256) ∧ Q (.int ((k + 1) * st % 257)) H
theorem lam1_law : LamOkX P w K mg base 1 qLam2 (lamB lamY) (lamS lamY) "_law_k" "_law_step" spLam2 := by
  refine ⟨⟨rfl, rfl, rfl, rfl, rfl, by decide +kernel, by decide +kernel, by decide⟩, fun f c' c kv A outer s H v Q hr h => ?_⟩
  obtain ⟨k, st, rfl, e, hst, q⟩ := h
  cases e
  refine ⟨_, (q_op o_mod (q_op o_mul (q_op o_add (q_v 0) q_int) (q_v 1)) q_int), ?_⟩
  exact ⟨_, rfl, _, _, rfl, rfl, _, rfl, _, _, rfl, rfl, .inr ⟨by omega, by omega⟩, _, _, rfl, rfl, (by show (0 : Int) < 257; decide), q⟩
theorem in_iff {n : Nat} {L : LT} {T : List Dd} (u : UN n (vals L)) (sub : ∀ d ∈ T, d ∈ vals L) {x : Addr × Dd} (hx : x ∈ L) : inT T x.2 = true ↔ x.2 ∈ T := by
  unfold inT
  constructor
  · intro h
    obtain ⟨e, he⟩ := Option.isSome_iff_exists.mp h
    have hm := List.mem_of_find?_eq_some he
    have hq := List.find?_some he
    have : e = x.2 := nm_inj u.uni (sub e hm) (List.mem_map.mpr ⟨x, hx, rfl⟩) (of_decide_eq_true hq)
    rw [← this]
    exact hm
  · intro h
    rw [List.find?_isSome]
    exact ⟨x.2, h, decide_eq_true rfl⟩
theorem ok_law {f c0 : Addr} {fd : FuncData} {T1 T2 : Addr} (F : Fun K "law" "law" s_law f fd) (hcode : fd.code = .ref c0) (C : CodeHd base c0 T2) (B : Blt base mg) (F_cell_at : Fn P w K mg base 1 "_law_cell_at" ["_law_script", "_law_k"] (spCell K)) (F_deeds : Fn P w K mg base 1 "_law_deeds" ["_law_cells", "_law_hands"] spDeeds) (F_order : Fn P w K mg base 1 "_law_order" ["_law_deed"] spKey)
    (F_taken : Fn P w K mg base 2 "_law_taken" ["_law_deeds_here"] spTaken) (F_ready_of : Fn P w K mg base 5 "ready_of" ["deeds"] (spReady T1)) (z_sorted : mg "sorted" = none) (z_list : mg "list" = none) (z_isinstance : mg "isinstance" = none) (z_range : mg "range" = none) (z_len : mg "len" = none) : FnOk P w K mg base CX0 6 f fd ["_law_script"] (spLaw K T1 T2) := by
  refine F.okC hcode sc_law (fun vs H Q E h => ?_) (fun A outer s H vs Q E hr h => ?_)
  · obtain ⟨a, ns, rfl, _⟩ := h
    rfl
  obtain ⟨a, sc, rfl, hS, hlen, hT1, hT2, nT, hq⟩ := h
  refine ⟨_, (b_c (s_set (i := 1) sc_law.nd (q_op o_add q_int (q_op o_mod (q_fn F_cell_at (hr.mono (by decide)) (q_a (q_v 0) (q_a q_int q_a0))) q_int)))
      (b_c (s_set (i := 2) sc_law.nd (q_fn F_deeds (hr.mono (by decide)) (q_a (q_sl l_list (q_v 0) (q_o1 q_int) (q_o1 q_int)) (q_a (q_v 1) q_a0))))
      (b_c (s_set (i := 3) sc_law.nd (q_op o_add q_int (q_op o_mod (q_fn F_cell_at (hr.mono (by decide)) (q_a (q_v 0) (q_a q_int q_a0))) q_int)))
      (b_c (s_set (i := 4) sc_law.nd (q_sortZC (j := 3) rfl z_sorted rfl C B (lam1_law) (hr.mono (by decide)) (q_a (q_rng z_range (q_a (q_B c_len z_len PySem.boot_len (q_a (q_v 2) q_a0)) q_a0)) q_a0) rfl rfl rfl rfl))
      (b_c (s_setC (j := 5) sc_law.nd (own := ["_law_k"]) (⟨rfl, by decide +kernel, by decide +kernel, rfl, ⟨rfl, rfl, trivial⟩⟩ : CompOk _ _ [2] ["_law_deeds_here"]) rfl (i_list (q_v 4)) (fun _ _ _ _ => g_name (i := 0) (show (["_law_k", "_law_deeds_here"] : List Str).Nodup by decide +kernel)) (gk_name (by decide)) (fun _ _ _ _ => if_0) (fun _ _ _ _ => (q_ix (xK_list (K := K) rfl) (q_v 1) (q_v 0))))
      (b_c (s_set (i := 6) sc_law.nd (q_Ty c_list z_list boot_list (q_a (q_v 5) q_a0)))
      (b_c (s_set (i := 7) sc_law.nd (q_fn F_ready_of (hr.mono (by decide)) (q_a (q_v 6) q_a0)))
      (b_1 (s_ret (q_and (q_B c_isi z_isinstance boot_isinstance (q_a (q_v 7) (q_a (q_bt z_list boot_list) q_a0))) (q_and (q_cmp (o_eqD hr.units) (q_v 7) (q_sortZA rfl z_sorted F_order (hr.mono (by decide)) (q_a (q_fn F_taken (hr.mono (by decide)) (q_a (q_v 2) q_a0)) q_a0))) (q_one (q_cmp (o_eqD hr.units) (q_v 6) (q_v 5)))))))))))))), ?_⟩
  refine ⟨_, rfl, a, sc, 0, rfl, hS, by decide, _, _, rfl, rfl, (by show (0 : Int) < 4; decide), _, _, rfl, rfl, ?_⟩
  have m0 := Int.emod_nonneg (cellZ sc (0 : Int).toNat) (show (4 : Int) ≠ 0 by decide)
  have m1 := Int.emod_lt_of_pos (cellZ sc (0 : Int).toNat) (show (0 : Int) < 4 by decide)
  dsimp only
  generalize hh : 2 + cellZ sc (0 : Int).toNat % 4 = h at *
  obtain ⟨cs, ecs, lcs⟩ := cut_cs hlen
  refine ⟨_, rfl, _, rfl, _, rfl, a, _, rfl, hS, fun p0 g0 => ?_⟩
  rw [ecs]
  have w0 := same_new g0 (.lst (cs.map V.int))
  refine ⟨_, rfl, p0, cs, h, rfl, upd_same, lcs, by omega, by omega, fun l H2 L w2 hL un lL => ?_⟩
  have W2 := w0.trans w2
  have t12 := W2 _ _ hT1
  have t22 := W2 _ _ hT2
  have S2 := W2.seq hS
  refine ⟨_, rfl, a, sc, 1, rfl, S2, by decide, _, _, rfl, rfl, (by show (0 : Int) < 256; decide), _, _, rfl, rfl, ?_⟩
  have k0 := Int.emod_nonneg (cellZ sc (1 : Int).toNat) (show (256 : Int) ≠ 0 by decide)
  have k1 := Int.emod_lt_of_pos (cellZ sc (1 : Int).toNat) (show (0 : Int) < 256 by decide)
  dsimp only
  generalize hst' : 1 + cellZ sc (1 : Int).toNat % 256 = st at *
  have hst : 0 ≤ st ∧ st ≤ 256 := ⟨by omega, by omega⟩
  have hz : L.length ≤ 63 := by omega
  refine ⟨_, rfl, l, _, rfl, .inl (SqL.of hL.1), L.length, by rw [refs_len], by omega, fun r t u v gr => ?_⟩
  have sr := same_new gr (isTh r (rngO (L.length : Int) t u v))
  have er : upd H2 r (isTh r (rngO (L.length : Int) t u v)) r = _ := upd_same
  have hLr := hL.same sr
  have t1r := sr _ _ t12
  have t2r := sr _ _ t22
  generalize upd H2 r (isTh r (rngO (L.length : Int) t u v)) = H3 at sr er hLr t1r t2r ⊢
  have tab0 : LamTab qLam2 T2 (lamP lamY) H3 := ⟨#[], t2r, trivial, .inl rfl⟩
  refine ⟨r, (List.range L.length).map fun i : Nat => V.int (i : Int), (List.range L.length).map fun i : Nat => ZKey.i (((i : Int) + 1) * st % 257), .int st, rfl, rfl, .inr ⟨L.length, t, u, v, by omega, er, rfl⟩, tab0, by rw [List.length_map, List.length_range]; omega, by rw [List.length_map, List.length_map], .inl fun k hk => ?_, fun i v key H' hv hkey sT R kR => ?_, fun p H4 D hp hls sT tab2 gD => ?_⟩
  · obtain ⟨x, _, rfl⟩ := List.mem_map.mp hk
    exact ⟨_, rfl⟩
  · rw [List.getElem?_map] at hv hkey
    obtain ⟨j, hj, rfl⟩ := Option.map_eq_some_iff.mp hv
    rw [hj] at hkey
    cases hkey
    exact ⟨(j : Int), st, rfl, rfl, hst, kR _ _ (Same.refl _) rfl⟩
  rw [List.length_map, List.length_range] at hp hls
  have pl : ∀ i ∈ p.toList, i < L.length := fun i hi => by
    have := (hp.mem_iff).mp (Array.mem_toList_iff.mp hi)
    simpa using this
  have ev : (p.toList.map fun i => ((List.range L.length).map fun i : Nat => V.int (i : Int)).getD i .non) = p.toList.map fun i : Nat => V.int (i : Int) := by
    apply List.map_congr_left
    intro i hi
    have hl := pl i hi
    simp [hl]
  rw [ev]
  have ep : p.toList.Perm (List.range L.length) := by
    have := Array.perm_iff_toList_perm.mp hp
    simpa using this
  have lp : p.toList.length = L.length := by rw [ep.length_eq, List.length_range]
  have s4 := same_new gD (.lst (p.toList.map fun i : Nat => V.int (i : Int)))
  have hL4 := (hLr.sameT t2r sT).same s4
  have t14 := s4 _ _ (sT _ _ t1r nT)
  have eD : upd H4 D (.lst (p.toList.map fun i : Nat => V.int (i : Int))) D = some (.lst (p.toList.map fun i : Nat => V.int (i : Int))) := upd_same
  generalize upd H4 D (.lst (p.toList.map fun i : Nat => V.int (i : Int))) = H5 at eD hL4 t14 ⊢
  refine ⟨_, rfl, D, rfl, ⟨_, SqL.of eD⟩, comp_list (fun k => (refs L).getD (p.toList.getD k 0) .non) (by rw [List.length_map, lp]; omega) (SqL.of eD) (fun k x H6 hx s6 R kR => ?_) (fun ps H6 s6 g6 => ?_)⟩
  · rw [List.getElem?_map] at hx
    obtain ⟨i, hi, rfl⟩ := Option.map_eq_some_iff.mp hx
    have hil := pl i (List.mem_of_getElem? hi)
    have ei : p.toList.getD k 0 = i := by rw [List.getD_eq_getElem?_getD, hi]; rfl
    have ex : atI (refs L) (i : Int) = some ((refs L).getD (p.toList.getD k 0) .non) := by
      rw [ei]
      refine atI_nat ?_
      rw [List.getD_eq_getElem?_getD, List.getElem?_eq_getElem (by rw [refs_len]; exact hil)]
      rfl
    exact ⟨_, rfl, _, rfl, l, _, _, _, rfl, rfl, SqL.of (s6 _ _ hL4.1), ex, kR H6 (Same.refl H6)⟩
  have eM : ((List.range (p.toList.map fun i : Nat => V.int (i : Int)).length).map fun k => (refs L).getD (p.toList.getD k 0) .non) = refs (p.toList.map fun i => L.getD i (0, D0)) := by
    rw [List.length_map, ← refs_pick pl]
    apply List.ext_getElem
    · simp
    · intro i h1 h2
      simp at h1 h2
      simp [h2]
  rw [eM]
  have pMs : (p.toList.map fun i => L.getD i ((0, D0) : Addr × Dd)).Perm L := by
    have := ep.map fun i => L.getD i ((0, D0) : Addr × Dd)
    rw [getD_range] at this
    exact this
  generalize (p.toList.map fun i => L.getD i ((0, D0) : Addr × Dd)) = Ms at pMs ⊢
  have w6 := s6.trans (same_new g6 (.lst (refs Ms)))
  have hL6 := hL4.same w6
  have some6 : LR (upd H6 ps (.lst (refs Ms))) ps Ms := hL6.perm upd_same pMs
  have t16 := w6 _ _ t14
  generalize upd H6 ps (.lst (refs Ms)) = H7 at hL6 some6 t16 ⊢
  have lMs : Ms.length = L.length := pMs.length_eq
  refine ⟨_, rfl, ps, _, rfl, .inl (SqL.of some6.1), fun hd g7 => ?_⟩
  have w7 := same_new g7 (.lst (refs Ms))
  have hL8 := hL6.same w7
  have some8 := some6.same w7
  have t18 := w7 _ _ t16
  have hand8 : LR (upd H7 hd (.lst (refs Ms))) hd Ms := some8.perm upd_same (List.Perm.refl _)
  generalize upd H7 hd (.lst (refs Ms)) = H8 at hL8 some8 t18 hand8 ⊢
  refine ⟨_, rfl, hd, Ms, h.toNat, rfl, hand8, by omega, by omega, un.perm (pMs.symm.map Prod.snd), ⟨#[], t18, trivial, .inl rfl⟩, fun Df H9 S pS sS sT9 tab9 eDf nDf => ?_⟩
  have hL9 := hL8.sameT t18 sT9
  have some9 := some8.sameT t18 sT9
  have hand9 := hand8.sameT t18 sT9
  have found9 : LR H9 Df (accK S S.length) := ⟨eDf, fun x hx => hL9.2 x (pMs.mem_iff.mp (pS.mem_iff.mp (((accK_sub S S.length (Nat.le_refl _)).trans (List.take_sublist _ _)).subset hx)))⟩
  refine ⟨_, rfl, _, "list", _, true, rfl, .lst eDf, kit_lst, true, rfl, iteT ?_⟩
  refine ⟨_, rfl, _, rfl, l, L, h.toNat, rfl, hL9, hz, by omega, un, fun pt H10 T s10 ch sub sat ept => ?_⟩
  have hF : ∀ x, x ∈ (L.filter fun x => inT T x.2) ↔ x ∈ L ∧ x.2 ∈ T := fun x => by
    rw [List.mem_filter]
    exact ⟨fun ⟨h1, h2⟩ => ⟨h1, (in_iff un sub h1).mp h2⟩, fun ⟨h1, h2⟩ => ⟨h1, (in_iff un sub h1).mpr h2⟩⟩
  obtain ⟨pw, pm, uF⟩ := ready_eq un (pS.trans pMs) sS ch sub sat hF ((nodup_of un).sublist List.filter_sublist)
  have lF : (L.filter fun x => inT T x.2).length ≤ L.length := List.length_filter_le _ _
  have dF : ∀ x ∈ (L.filter fun x => inT T x.2), DR H10 x.1 x.2 := fun x hx => ((hL9.2 x (List.mem_filter.mp hx).1).same s10)
  generalize (L.filter fun x => inT T x.2) = FL at *
  refine ⟨pt, refs FL, FL.map fun x => ZKey.t (kyZ x.2), rfl, .inl ept, by rw [refs_len]; omega, by rw [refs_len, List.length_map], .inr fun k hk => ?_, fun i v key H' hv hkey sm R kR => ?_, fun p' H11 D3 hp' hls' s11 _ g11 => ?_⟩
  · obtain ⟨x, _, rfl⟩ := List.mem_map.mp hk
    exact ⟨_, rfl, by simp [kyZ]⟩
  · obtain ⟨hi, rfl⟩ := refs_get hv
    rw [List.getElem?_map, List.getElem?_eq_getElem hi] at hkey
    cases hkey
    exact ⟨_, _, rfl, (dF _ (List.getElem_mem hi)).same sm, fun p' H'' s'' e'' => kR (.ref p') H'' s'' ⟨p', rfl, e''⟩⟩
  rw [refs_len] at hp' hls'
  have pl' : ∀ i ∈ p'.toList, i < FL.length := fun i hi => by
    have := (hp'.mem_iff).mp (Array.mem_toList_iff.mp hi)
    simpa using this
  rw [refs_pick pl']
  have so := sorted_uni (f := Prod.snd) (z := ((0, D0) : Addr × Dd)) uF hp' (by rw [List.map_map] at hls'; exact hls')
  generalize (p'.toList.map fun i => FL.getD i (0, D0)) = Md at so ⊢
  obtain ⟨sMd, pMd⟩ := so
  have w11 := s11.trans (same_new g11 (.lst (refs Md)))
  have W11 := s10.trans w11
  have due11 : LR (upd H11 D3 (.lst (refs Md))) D3 Md := ⟨upd_same, fun x hx => (dF x (pMd.mem_iff.mp hx)).same w11⟩
  have found11 := found9.same W11
  have some11 := some9.same W11
  have hand11 := hand9.same W11
  have ev2 : vals (accK S S.length) = vals Md := sorted_eq pw sMd ((pm.trans pMd.symm).map Prod.snd)
  refine ⟨_, _, found11.dt, due11.dt, shaped_all found11.ok, shaped_all due11.ok, ?_⟩
  rw [ev2, eqv_all due11.ok]
  refine ⟨true, rfl, iteT ?_⟩
  refine ⟨_, rfl, _, rfl, _, _, hand11.dt, some11.dt, shaped_all hand11.ok, shaped_all some11.ok, ?_⟩
  rw [eqv_all hand11.ok]
  exact hq _
end
theorem all_mk {l : PySem.W.OpenLaw} {w : World} {K : PySem.W.Frag} {h : Heap} {mg : Str → Option Value} {fa f1 f2 f3 f4 f5 f6 f7 f8 f9 f10 f11 : Addr} (X : K.In h) (G : h.Ns mainGlobals mg) (hfa : mg "law" = some (.ref fa))
    {od1 an1 od2 an2 od3 an3 od4 an4 od5 an5 od6 an6 od7 an7 od8 an8 od9 an9 od10 an10 od11 an11 : Option Addr} {sl1 sl2 sl3 sl4 sl5 sl6 sl7 sl8 sl9 sl10 sl11 : Array (Option Value)} {oc1 kV1 dc1 pm1 cd1 ct1 oc2 kV2 dc2 pm2 cd2 ct2 oc3 kV3 dc3 pm3 cd3 ct3 oc4 kV4 dc4 pm4 cd4 ct4 oc5 kV5 dc5 pm5 cd5 ct5 oc6 kV6 dc6 pm6 cd6 ct6 oc7 kV7 dc7 pm7 cd7 ct7 oc8 kV8 dc8 pm8 cd8 ct8 oc9 kV9 dc9 pm9 cd9 ct9 oc10 kV10 dc10 pm10 cd10 ct10 oc11 kV11 dc11 pm11 cd11 ct11 : Value} {cT1 T1 cT2 T2 : Addr}
    (a1 : PySem.W.nsIn K mainGlobals "within" = some (some (.ref f1))) (l1 : K.lookup f1 = some ⟨oc1, od1, .func (PySem.W.fnOf "within" "within" (defArgs s_within) (defBody s_within) (defScope s_within) .none kV1 dc1 pm1 an1 cd1 ct1), sl1⟩) (c1 : PySem.W.codeIn K cd1 "within" = true) (k1 : PySem.W.keepIn K (.ref f1) = true)
    (a2 : PySem.W.nsIn K mainGlobals "name_of" = some (some (.ref f2))) (l2 : K.lookup f2 = some ⟨oc2, od2, .func (PySem.W.fnOf "name_of" "name_of" (defArgs s_name_of) (defBody s_name_of) (defScope s_name_of) .none kV2 dc2 pm2 an2 cd2 ct2), sl2⟩) (c2 : PySem.W.codeIn K cd2 "name_of" = true) (k2 : PySem.W.keepIn K (.ref f2) = true)
    (a3 : PySem.W.nsIn K mainGlobals "asked_by" = some (some (.ref f3))) (l3 : K.lookup f3 = some ⟨oc3, od3, .func (PySem.W.fnOf "asked_by" "asked_by" (defArgs s_asked_by) (defBody s_asked_by) (defScope s_asked_by) .none kV3 dc3 pm3 an3 cd3 ct3), sl3⟩) (c3 : PySem.W.codeIn K cd3 "asked_by" = true) (k3 : PySem.W.keepIn K (.ref f3) = true)
    (a4 : PySem.W.nsIn K mainGlobals "is_answered" = some (some (.ref f4))) (l4 : K.lookup f4 = some ⟨oc4, od4, .func (PySem.W.fnOf "is_answered" "is_answered" (defArgs s_is_answered) (defBody s_is_answered) (defScope s_is_answered) .none kV4 dc4 pm4 an4 cd4 ct4), sl4⟩) (c4 : PySem.W.codeIn K cd4 "is_answered" = true) (k4 : PySem.W.keepIn K (.ref f4) = true)
    (a5 : PySem.W.nsIn K mainGlobals "ready_of" = some (some (.ref f5))) (l5 : K.lookup f5 = some ⟨oc5, od5, .func (PySem.W.fnOf "ready_of" "ready_of" (defArgs s_ready_of) (defBody s_ready_of) (defScope s_ready_of) .none kV5 dc5 pm5 an5 cd5 ct5), sl5⟩) (c5 : PySem.W.codeIn K cd5 "ready_of" = true) (k5 : PySem.W.keepIn K (.ref f5) = true)
    (a6 : PySem.W.nsIn K mainGlobals "_law_cell_at" = some (some (.ref f6))) (l6 : K.lookup f6 = some ⟨oc6, od6, .func (PySem.W.fnOf "_law_cell_at" "_law_cell_at" (defArgs s_cell_at) (defBody s_cell_at) (defScope s_cell_at) .none kV6 dc6 pm6 an6 cd6 ct6), sl6⟩) (c6 : PySem.W.codeIn K cd6 "_law_cell_at" = true) (k6 : PySem.W.keepIn K (.ref f6) = true)
    (a7 : PySem.W.nsIn K mainGlobals "_law_deeds" = some (some (.ref f7))) (l7 : K.lookup f7 = some ⟨oc7, od7, .func (PySem.W.fnOf "_law_deeds" "_law_deeds" (defArgs s_deeds) (defBody s_deeds) (defScope s_deeds) .none kV7 dc7 pm7 an7 cd7 ct7), sl7⟩) (c7 : PySem.W.codeIn K cd7 "_law_deeds" = true) (k7 : PySem.W.keepIn K (.ref f7) = true)
    (a8 : PySem.W.nsIn K mainGlobals "_law_fits" = some (some (.ref f8))) (l8 : K.lookup f8 = some ⟨oc8, od8, .func (PySem.W.fnOf "_law_fits" "_law_fits" (defArgs s_fits) (defBody s_fits) (defScope s_fits) .none kV8 dc8 pm8 an8 cd8 ct8), sl8⟩) (c8 : PySem.W.codeIn K cd8 "_law_fits" = true) (k8 : PySem.W.keepIn K (.ref f8) = true)
    (a9 : PySem.W.nsIn K mainGlobals "_law_taken" = some (some (.ref f9))) (l9 : K.lookup f9 = some ⟨oc9, od9, .func (PySem.W.fnOf "_law_taken" "_law_taken" (defArgs s_taken) (defBody s_taken) (defScope s_taken) .none kV9 dc9 pm9 an9 cd9 ct9), sl9⟩) (c9 : PySem.W.codeIn K cd9 "_law_taken" = true) (k9 : PySem.W.keepIn K (.ref f9) = true)
    (a10 : PySem.W.nsIn K mainGlobals "_law_order" = some (some (.ref f10))) (l10 : K.lookup f10 = some ⟨oc10, od10, .func (PySem.W.fnOf "_law_order" "_law_order" (defArgs s_order) (defBody s_order) (defScope s_order) .none kV10 dc10 pm10 an10 cd10 ct10), sl10⟩) (c10 : PySem.W.codeIn K cd10 "_law_order" = true) (k10 : PySem.W.keepIn K (.ref f10) = true)
    (a11 : PySem.W.nsIn K mainGlobals "law" = some (some (.ref f11))) (l11 : K.lookup f11 = some ⟨oc11, od11, .func (PySem.W.fnOf "law" "law" (defArgs s_law) (defBody s_law) (defScope s_law) .none kV11 dc11 pm11 an11 cd11 ct11), sl11⟩) (c11 : PySem.W.codeIn K cd11 "law" = true) (k11 : PySem.W.keepIn K (.ref f11) = true)
    (tb1 : PySem.W.tabIn K "ready_of" = some (cT1, T1))
    (tb2 : PySem.W.tabIn K "law" = some (cT2, T2))
    (y_len : PySem.W.nsIn K mainGlobals "len" = some none)
    (y_max : PySem.W.nsIn K mainGlobals "max" = some none)
    (y_range : PySem.W.nsIn K mainGlobals "range" = some none)
    (y_list : PySem.W.nsIn K mainGlobals "list" = some none)
    (y_isinstance : PySem.W.nsIn K mainGlobals "isinstance" = some none)
    (y_zip : PySem.W.nsIn K mainGlobals "zip" = some none)
    (y_enumerate : PySem.W.nsIn K mainGlobals "enumerate" = some none)
    (y_sorted : PySem.W.nsIn K mainGlobals "sorted" = some none)
    (y_all : PySem.W.nsIn K mainGlobals "all" = some none)
    (y_sum : PySem.W.nsIn K mainGlobals "sum" = some none)
    (y_int : PySem.W.nsIn K mainGlobals "int" = some none)
    (y_tuple : PySem.W.nsIn K mainGlobals "tuple" = some none)
    : ∃ fd : FuncData, (∀ (s : Shared) (v : Value), BindsTo s fd ⟨[v], []⟩ [("_law_script", v)]) ∧ ∀ base : Heap, K.In base → base.Ns mainGlobals mg → Blt base mg → PySem.W.CodeHd base cT1 T1 → PySem.W.CodeHd base cT2 T2 → FnOk l.prog w K mg base CX0 6 fa fd ["_law_script"] (spLaw K T1 T2) := by
  have e := hfa.symm.trans (PySem.W.mg_of X G a11)
  cases e
  have F1 := fun_mk (st := s_within) l1 c1 k1
  have b1 := F1.binds (ps := ["one", "other"]) fun _ _ _ _ _ _ us hl => match us, hl with | [_, _], _ => rfl
  have F2 := fun_mk (st := s_name_of) l2 c2 k2
  have b2 := F2.binds (ps := ["deed"]) fun _ _ _ _ _ _ us hl => match us, hl with | [_], _ => rfl
  have F3 := fun_mk (st := s_asked_by) l3 c3 k3
  have b3 := F3.binds (ps := ["deed"]) fun _ _ _ _ _ _ us hl => match us, hl with | [_], _ => rfl
  have F4 := fun_mk (st := s_is_answered) l4 c4 k4
  have b4 := F4.binds (ps := ["deed", "name", "ready"]) fun _ _ _ _ _ _ us hl => match us, hl with | [_, _, _], _ => rfl
  have F5 := fun_mk (st := s_ready_of) l5 c5 k5
  have b5 := F5.binds (ps := ["deeds"]) fun _ _ _ _ _ _ us hl => match us, hl with | [_], _ => rfl
  have F6 := fun_mk (st := s_cell_at) l6 c6 k6
  have b6 := F6.binds (ps := ["_law_script", "_law_k"]) fun _ _ _ _ _ _ us hl => match us, hl with | [_, _], _ => rfl
  have F7 := fun_mk (st := s_deeds) l7 c7 k7
  have b7 := F7.binds (ps := ["_law_cells", "_law_hands"]) fun _ _ _ _ _ _ us hl => match us, hl with | [_, _], _ => rfl
  have F8 := fun_mk (st := s_fits) l8 c8 k8
  have b8 := F8.binds (ps := ["_law_deed", "_law_taken_here"]) fun _ _ _ _ _ _ us hl => match us, hl with | [_, _], _ => rfl
  have F9 := fun_mk (st := s_taken) l9 c9 k9
  have b9 := F9.binds (ps := ["_law_deeds_here"]) fun _ _ _ _ _ _ us hl => match us, hl with | [_], _ => rfl
  have F10 := fun_mk (st := s_order) l10 c10 k10
  have b10 := F10.binds (ps := ["_law_deed"]) fun _ _ _ _ _ _ us hl => match us, hl with | [_], _ => rfl
  have F11 := fun_mk (st := s_law) l11 c11 k11
  have z_len := PySem.W.mg_none_of X G y_len
  have z_max := PySem.W.mg_none_of X G y_max
  have z_range := PySem.W.mg_none_of X G y_range
  have z_list := PySem.W.mg_none_of X G y_list
  have z_isinstance := PySem.W.mg_none_of X G y_isinstance
  have z_zip := PySem.W.mg_none_of X G y_zip
  have z_enumerate := PySem.W.mg_none_of X G y_enumerate
  have z_sorted := PySem.W.mg_none_of X G y_sorted
  have z_all := PySem.W.mg_none_of X G y_all
  have z_sum := PySem.W.mg_none_of X G y_sum
  have z_int := PySem.W.mg_none_of X G y_int
  have z_tuple := PySem.W.mg_none_of X G y_tuple
  refine ⟨PySem.W.fnOf "law" "law" (defArgs s_law) (defBody s_law) (defScope s_law) .none kV11 dc11 pm11 an11 cd11 ct11, fun s v => .of_eq rfl, fun base _ _ B C1 C2 => ?_⟩
  have F_within := Fn.mk' (ok_within (P := l.prog) (w := w) (mg := mg) (base := base) F1 z_all z_zip) (PySem.W.mg_of X G a1) k1 b1
  have F_name_of := Fn.mk' (ok_name_of (P := l.prog) (w := w) (mg := mg) (base := base) F2 ) (PySem.W.mg_of X G a2) k2 b2
  have F_asked_by := Fn.mk' (ok_asked_by (P := l.prog) (w := w) (mg := mg) (base := base) F3 z_enumerate) (PySem.W.mg_of X G a3) k3 b3
  have F_is_answered := Fn.mk' (ok_is_answered (P := l.prog) (w := w) (mg := mg) (base := base) F4 F_within) (PySem.W.mg_of X G a4) k4 b4
  have F_ready_of := Fn.mk' (ok_ready_of (P := l.prog) (w := w) (mg := mg) (base := base) F5 (tab_code a5 l5 tb1) C1 B F_asked_by F_is_answered F_name_of z_sum z_sorted z_all z_list) (PySem.W.mg_of X G a5) k5 b5
  have F_cell_at := Fn.mk' (ok_cell_at (P := l.prog) (w := w) (mg := mg) (base := base) F6 z_len) (PySem.W.mg_of X G a6) k6 b6
  have F_deeds := Fn.mk' (ok_deeds (P := l.prog) (w := w) (mg := mg) (base := base) F7 z_list z_enumerate z_range z_max z_tuple) (PySem.W.mg_of X G a7) k7 b7
  have F_fits := Fn.mk' (ok_fits (P := l.prog) (w := w) (mg := mg) (base := base) F8 z_len z_range z_int) (PySem.W.mg_of X G a8) k8 b8
  have F_taken := Fn.mk' (ok_taken (P := l.prog) (w := w) (mg := mg) (base := base) F9 F_fits) (PySem.W.mg_of X G a9) k9 b9
  have F_order := Fn.mk' (ok_order (P := l.prog) (w := w) (mg := mg) (base := base) F10 z_sum) (PySem.W.mg_of X G a10) k10 b10
  exact ok_law F11 (tab_code a11 l11 tb2) C2 B F_cell_at F_deeds F_order F_taken F_ready_of z_sorted z_list z_isinstance z_range z_len
theorem walk {l : PySem.W.OpenLaw} {q : Program} {loose : List Str} {XP : (Str → Option Value) → Heap → Prop} {YP : World → Heap → Prop} {d : DefRec} {K : Params → PySem.W.Frag} {cT1 T1 cT2 T2 : Addr} (hn : l.most = some 63) (hdf : d.params.defaults = [])
    (hY : ∀ (w : World) (h : Heap), YP w h → (K w.params).In h) (ht0 : ∀ w : World, PySem.W.tabIn (K w.params) "ready_of" = some (cT1, T1)) (hd0 : ∃ d', (PyProof.Rows.recsOf q).find? (fun e => e.name == ("ready_of" : Str)) = some d') (ht1 : ∀ w : World, PySem.W.tabIn (K w.params) "law" = some (cT2, T2)) (hd1 : ∃ d', (PyProof.Rows.recsOf q).find? (fun e => e.name == ("law" : Str)) = some d') (nT : T1 ≠ T2) (nt : ∀ w : World, PySem.W.noTabs (K w.params) = true)
    (F : ∀ (w : World) (mg : Str → Option Value) (fa : Addr) (h : Heap), (K w.params).In h → h.Ns mainGlobals mg → mg d.name = some (.ref fa) →
      ∃ fd : FuncData, (∀ (s : Shared) (u : Value), BindsTo s fd ⟨[u], []⟩ [("_law_script", u)]) ∧ ∀ base : Heap, (K w.params).In base → base.Ns mainGlobals mg → Blt base mg → PySem.W.CodeHd base cT1 T1 → PySem.W.CodeHd base cT2 T2 → FnOk l.prog w (K w.params) mg base CX0 6 fa fd ["_law_script"] (spLaw (K w.params) T1 T2)) :
    PySem.W.WalkO q loose XP YP l.row.toRowW d [] (fun f vs => PySem.call f vs) :=
  L2.walk_tabs (n := 63) (k := 6) (x := "_law_script") (tabs := fun _ => [("ready_of", cT1, T1), ("law", cT2, T2)]) (sp := fun w => spLaw (K w.params) T1 T2) hn (by decide) hdf ⟨rfl, by decide, by decide⟩ hY (fun w t htm => by
      rcases List.mem_cons.mp htm with rfl | htm
      · exact ⟨ht0 w, hd0⟩
      · rw [List.mem_singleton.mp htm]
        exact ⟨ht1 w, hd1⟩) nt
    (fun w mg fa h k g e => let ⟨fd, b, r⟩ := F w mg fa h k g e; ⟨fd, b, fun base k2 g2 bl cs => r base k2 g2 bl (cs _ (.head _)) (cs _ (.tail _ (.head _)))⟩) (fun w H a ns hl hT hS => ⟨a, ns, rfl, hS, hl, hT _ (.head _), hT _ (.tail _ (.head _)), nT, fun _ => rfl⟩)
end K17
open PySem PySem.W PyProof.Rows
set_option maxRecDepth 100000 in
set_option maxHeartbeats 0 in
theorem PySem.Challenge.cw_limb_k17_whole_the_least_ready_holds : PySem.Challenge.rw_limb_k17_whole_the_least_ready.Holds := by
  w_on; o_law; k_head; (case hw => w_witness2)
  k_fill
  refine' K17.walk (l := PySem.Challenge.rw_limb_k17_whole_the_least_ready) rfl rfl (fun w h Y => PySem.W.km_in_of Y) ?ht0 ?hd0 ?ht1 ?hd1 ?nT ?nt ?F
  case ht0 => intro w; with_unfolding_all rfl
  case hd0 => exact ⟨_, rfl⟩
  case ht1 => intro w; with_unfolding_all rfl
  case hd1 => exact ⟨_, rfl⟩
  case nT => decide
  case nt => intro w; kernel_rfl
  case F =>
    intro w mg fa h KX G hmg
    refine' K17.all_mk KX G hmg ?a1 ?l1 ?c1 ?k1 ?a2 ?l2 ?c2 ?k2 ?a3 ?l3 ?c3 ?k3 ?a4 ?l4 ?c4 ?k4 ?a5 ?l5 ?c5 ?k5 ?a6 ?l6 ?c6 ?k6 ?a7 ?l7 ?c7 ?k7 ?a8 ?l8 ?c8 ?k8 ?a9 ?l9 ?c9 ?k9 ?a10 ?l10 ?c10 ?k10 ?a11 ?l11 ?c11 ?k11 ?tb1 ?tb2 ?y_len ?y_max ?y_range ?y_list ?y_isinstance ?y_zip ?y_enumerate ?y_sorted ?y_all ?y_sum ?y_int ?y_tuple
    (case a1 => k_is)
    (case l1 => k_is)
    (case c1 => k_is)
    (case k1 => k_is)
    (case a2 => k_is)
    (case l2 => k_is)
    (case c2 => k_is)
    (case k2 => k_is)
    (case a3 => k_is)
    (case l3 => k_is)
    (case c3 => k_is)
    (case k3 => k_is)
    (case a4 => k_is)
    (case l4 => k_is)
    (case c4 => k_is)
    (case k4 => k_is)
    (case a5 => k_is)
    (case l5 => k_is)
    (case c5 => k_is)
    (case k5 => k_is)
    (case a6 => k_is)
    (case l6 => k_is)
    (case c6 => k_is)
    (case k6 => k_is)
    (case a7 => k_is)
    (case l7 => k_is)
    (case c7 => k_is)
    (case k7 => k_is)
    (case a8 => k_is)
    (case l8 => k_is)
    (case c8 => k_is)
    (case k8 => k_is)
    (case a9 => k_is)
    (case l9 => k_is)
    (case c9 => k_is)
    (case k9 => k_is)
    (case a10 => k_is)
    (case l10 => k_is)
    (case c10 => k_is)
    (case k10 => k_is)
    (case a11 => k_is)
    (case l11 => k_is)
    (case c11 => k_is)
    (case k11 => k_is)
    (case tb1 => with_unfolding_all rfl)
    (case tb2 => with_unfolding_all rfl)
    (case y_len => k_is)
    (case y_max => k_is)
    (case y_range => k_is)
    (case y_list => k_is)
    (case y_isinstance => k_is)
    (case y_zip => k_is)
    (case y_enumerate => k_is)
    (case y_sorted => k_is)
    (case y_all => k_is)
    (case y_sum => k_is)
    (case y_int => k_is)
    (case y_tuple => k_is)

