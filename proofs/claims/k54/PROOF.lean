import PyProof.Rows.All
import Wide.All
import OpenK.AllK
import Wide.FinOn
import PyProof.EqAt
import PyProof.EqKinds
import PyProof.TupleCall
import Lean
import PySem.Challenge.RW_limb_k54_rows_by_a_key
set_option Elab.async false
set_option linter.all false
set_option maxRecDepth 100000
/-! THE HAND LAYER, for ints, bools, texts, own classes, LISTS and tuples (index, slices, in, append, pop ..), calls, loops. Paste it whole ahead of your own text; what your proof does not reach may be deleted. -/
namespace L2
open PySem PySem.Spec PyProof.Rows

/-- a key: an int or a str -/
abbrev Key := Sum Int Str
def keyIs : Key → Value → Bool
  | .inl k, v => Value.isInt k v
  | .inr x, v => Value.isStrOf x v
def keyH (w : World) : Key → Int
  | .inl k => hashInt k
  | .inr x => hashStr w x
theorem keyIs_shape : ∀ {k : Key} {v : Value}, keyIs k v = true → (∃ i t, k = Sum.inl i ∧ v = Value.int i t) ∨ (∃ x t, k = Sum.inr x ∧ v = Value.str x t)
  | .inl i, v, h => by
    obtain ⟨t, e⟩ := Value.isInt_shape (k := i) (v := v) h
    exact .inl ⟨i, t, rfl, e⟩
  | .inr x, v, h => by
    obtain ⟨t, e⟩ := Value.isStrOf_shape (x := x) (v := v) h
    exact .inr ⟨x, t, rfl, e⟩
theorem key_ll (a b : Int) : decide ((Sum.inl a : Key) = Sum.inl b) = (a == b) := by
  by_cases e : a = b
  · subst e; simp
  · have h : ¬ (Sum.inl a : Key) = Sum.inl b := fun q => e (Sum.inl.inj q)
    rw [decide_eq_false h]
    exact (beq_eq_false_iff_ne.mpr e).symm
theorem key_rr (a b : Str) : decide ((Sum.inr a : Key) = Sum.inr b) = decide (a = b) := by
  by_cases e : a = b
  · subst e; simp
  · have h : ¬ (Sum.inr a : Key) = Sum.inr b := fun q => e (Sum.inr.inj q)
    rw [decide_eq_false h, decide_eq_false e]
theorem key_lr (a : Int) (b : Str) : decide ((Sum.inl a : Key) = Sum.inr b) = false := decide_eq_false (fun q => nomatch q)
theorem key_rl (a : Str) (b : Int) : decide ((Sum.inr a : Key) = Sum.inl b) = false := decide_eq_false (fun q => nomatch q)

def mixKind (prog : Program) (w : World) : PySem.KeyKind prog w Key where
  is := keyIs
  hash := keyH w
  inj := fun v a b ha hb => by
    rcases keyIs_shape ha with ⟨i, t, rfl, rfl⟩ | ⟨x, t, rfl, rfl⟩
    · rcases keyIs_shape hb with ⟨j, u, rfl, e⟩ | ⟨y, u, rfl, e⟩
      · injection e with e1 _; rw [e1]
      · exact nomatch e
    · rcases keyIs_shape hb with ⟨j, u, rfl, e⟩ | ⟨y, u, rfl, e⟩
      · exact nomatch e
      · injection e with e1 _; rw [e1]
  byValue := fun k v h => by
    rcases keyIs_shape h with ⟨i, t, rfl, rfl⟩ | ⟨x, t, rfl, rfl⟩ <;> rfl
  pyHash := fun hv h => by
    rcases keyIs_shape hv with ⟨i, t, rfl, rfl⟩ | ⟨x, t, rfl, rfl⟩
    · exact wpAny_pyHash_int h
    · exact wpAny_pyHash_str h
  eqBool := fun hu hv h => by
    rcases keyIs_shape hu with ⟨i, t, rfl, rfl⟩ | ⟨x, t, rfl, rfl⟩
    · rcases keyIs_shape hv with ⟨j, u, rfl, rfl⟩ | ⟨y, u, rfl, rfl⟩
      · rw [key_ll] at h; exact wpAny_eqBool_int h
      · rw [key_lr] at h; exact SeqAt.EqAt.int_str i t y u _ _ _ _ h
    · rcases keyIs_shape hv with ⟨j, u, rfl, rfl⟩ | ⟨y, u, rfl, rfl⟩
      · rw [key_rl] at h; exact SeqAt.EqAt.str_int x t j u _ _ _ _ h
      · rw [key_rr] at h; exact wpAny_eqBool_str h
  «strs» := fun k x t v h => by
    rcases keyIs_shape h with ⟨i, u, rfl, e⟩ | ⟨y, u, rfl, e⟩
    · exact nomatch e
    · injection e with e1 _
      subst e1
      cases v <;> rfl

end L2

namespace L2
open PySem PySem.Spec PyProof.Rows

/-- a value, without the heap -/
inductive V where
  | non | bl (b : Bool) | int (i : Int) | str (x : Str) | byt (b : Array UInt8) | flt (b : UInt64) | ref (a : Addr) | ty (n : String)
  deriving DecidableEq

def RelV : V → Value → Prop
  | .non, u => u = Value.none
  | .bl b, u => u = Value.bool b
  | .int i, u => ∃ t, u = Value.int i t
  | .str x, u => ∃ t, u = Value.str x t
  | .byt b, u => ∃ t, u = Value.bytes b t
  | .flt b, u => ∃ t, u = Value.float b t
  | .ref a, u => u = Value.ref a
  | .ty n, u => u = Value.type n

abbrev Vals : List V → List Value → Prop := Paired RelV
theorem Vals.length {xs : List V} {us : List Value} (r : Vals xs us) : xs.length = us.length := Paired.length r
theorem Vals.get : ∀ {xs : List V} {us : List Value} {i : Nat} {x : V}, Vals xs us → xs[i]? = some x → ∃ u, us[i]? = some u ∧ RelV x u
  | _, _, _, _, .nil, e => by simp at e
  | _, _, 0, _, .cons r _, e => by simp at e; subst e; exact ⟨_, rfl, r⟩
  | _, _, i + 1, x, .cons _ t, e => by
    obtain ⟨u, h1, h2⟩ := Vals.get (i := i) (x := x) t (by simpa using e)
    exact ⟨u, by simpa using h1, h2⟩
theorem Vals.set {x : V} {u : Value} (r : RelV x u) : ∀ {xs : List V} {us : List Value} (i : Nat), Vals xs us → Vals (xs.set i x) (us.set i u)
  | _, _, _, .nil => .nil
  | _, _, 0, .cons _ t => .cons r t
  | _, _, i + 1, .cons q t => .cons q (Vals.set r i t)
theorem Vals.append : ∀ {xs ys : List V} {us ws : List Value}, Vals xs us → Vals ys ws → Vals (xs ++ ys) (us ++ ws)
  | _, _, _, _, .nil, s => s
  | _, _, _, _, .cons r t, s => .cons r (Vals.append t s)
theorem Vals.take : ∀ {xs : List V} {us : List Value} (n : Nat), Vals xs us → Vals (xs.take n) (us.take n)
  | _, _, 0, _ => .nil
  | _, _, _ + 1, .nil => .nil
  | _, _, n + 1, .cons r t => .cons r (Vals.take n t)
theorem Vals.drop : ∀ {xs : List V} {us : List Value} (n : Nat), Vals xs us → Vals (xs.drop n) (us.drop n)
  | _, _, 0, r => r
  | _, _, _ + 1, .nil => .nil
  | _, _, n + 1, .cons _ t => Vals.drop n t
theorem Vals.none_of : ∀ {xs : List V} {us : List Value} {i : Nat}, Vals xs us → xs[i]? = none → us[i]? = none := fun {xs us i} r e => by
  have h1 := r.length
  have h2 : xs.length ≤ i := List.getElem?_eq_none_iff.mp e
  exact List.getElem?_eq_none_iff.mpr (by omega)

def RelO : Option V → Option Value → Prop
  | some v, some u => RelV v u
  | none, none => True
  | _, _ => False
def KV {κ : Type} : List (κ × V) → List (κ × Value) → Prop := Paired fun (p : κ × V) (q : κ × Value) => p.1 = q.1 ∧ RelV p.2 q.2

/-- a key of a dict (00_mix): an int or a text -/
def kV : Key → V
  | .inl i => .int i
  | .inr x => .str x

/-- what stands at a tracked address -/
inductive HO where
  /-- a list -/
  | lst (xs : List V)
  /-- a tuple (never changes) -/
  | tup (xs : List V)
  /-- a dict whose keys are ints and texts; one whose keys are tuples of ints and texts (the empty one is both) -/
  | dK (kvs : List (Key × V)) | dT (kvs : List (List Key × V))
  /-- a set of ints: its members, its size -/
  | set (S : Int → Bool) (n : Nat)
  /-- an instance of the class at C, its dict at dx, its attributes -/
  | ins (C dx : Addr) (fs : List (Str × V))
  /-- the dict of the instance at x -/
  | own (x : Addr)
  /-- the dict of an exception -/
  | xd (fs : List (Str × V))
  /-- a bound method, f of x -/
  | met (f x : Addr)
  /-- a range object lo, lo + 1, .. below hi -/
  | rng (lo hi : Int)
  /-- a thing that is known to the object (the script; a dict while a loop walks it): read, never written while it is so -/
  | frz (o : Obj) (u : HO)
  /-- a code object's table -/
  | tbl (ps : Array Value)
  /-- any other thing, by what is true of its one object (a def of one's own: SetO a S n := HO.ext fun h => ..) -/
  | ext (φ : Heap → Prop)

abbrev Hp := Addr → Option HO
def upd (H : Hp) (a : Addr) (o : HO) : Hp := fun b => if b = a then some o else H b
theorem upd_same {H : Hp} {a : Addr} {o : HO} : upd H a o a = some o := by unfold upd; rw [if_pos rfl]
theorem upd_ne {H : Hp} {a b : Addr} {o : HO} (h : b ≠ a) : upd H a o b = H b := by unfold upd; rw [if_neg h]
theorem ne_of_none {H : Hp} {a b : Addr} {o : HO} (h : H a = some o) (h' : H b = none) : a ≠ b := by
  intro e; subst e; rw [h] at h'; cases h'

section
variable (P : Program) (w : World)
def ObjOk (H : Hp) (h : Heap) (a : Addr) : HO → Prop
  | .lst xs => xs.length ≤ sizeLine ∧ ∃ (its : List Value) (n : Nat), Vals xs its ∧ h.get? a = some { cls := .type "list", data := .seq its.toArray n }
  | .tup xs => xs.length ≤ sizeLine ∧ ∃ its : List Value, Vals xs its ∧ IsTup h a its.toArray
  | .dK kvs => kvs.length ≤ sizeLine ∧ (a == sysModules) = false ∧ ∃ vs, KV kvs vs ∧ h.DictOf (mixKind P w) a vs
  | .dT kvs => kvs.length ≤ sizeLine ∧ (a == sysModules) = false ∧ ∃ xs : List (List Key × Addr × Value),
      Paired (fun (p : List Key × V) (q : List Key × Addr × Value) => p.1 = q.1 ∧ H q.2.1 = some (.tup (p.1.map kV)) ∧ RelV p.2 q.2.2) kvs xs ∧
      ∃ o es ep, h.get? a = some o ∧ o.ExactDict ∧ o.data = .dict es ep ∧ es.toList = xs.map (entryOfKey (tupleKind (mixKind P w))) ∧ (xs.map (·.1)).Nodup
  | .set S n => h.SetOf (intKind P w) a S n
  | .ins C dx fs => H dx = some (.own a) ∧ fs.length ≤ 1000 ∧ dx ≠ a ∧ h.get? a = some (PySem.W.instObj C dx) ∧
      ∃ mA, h.Ns1 dx mA ∧ (∀ f, RelO (fs.lookup f) (mA f)) ∧ PySem.Within mA (fs.map (·.1))
  | .own _ => ∃ o, h.get? a = some o
  | .xd fs => ∃ mA, h.Ns1 a mA ∧ ∀ f, RelO (fs.lookup f) (mA f)
  | .rng lo hi => ∃ t u v, h.get? a = some { cls := .type "range", data := .fields #[.int lo t, .int hi u, .int 1 v] }
  | .frz o u => h.get? a = some o ∧ ObjOk H h a u
  | .tbl ps => h.get? a = some { cls := .none, data := .fields ps }
  | .met f x => h.get? a = some (PySem.W.methodObj (.ref f) (.ref x))
  | .ext φ => φ h ∧ (∃ o, h.get? a = some o) ∧ ∀ h1 h2 : Heap, φ h1 → (∀ o, h1.get? a = some o → h2.get? a = some o) → φ h2
/-- the abstract heap is held -/
def HOk (H : Hp) (h : Heap) : Prop := ∀ a o, H a = some o → ObjOk P w H h a o
end

section
variable {P : Program} {w : World} {H H' : Hp} {h h' : Heap} {a : Addr} {o : HO}
theorem ObjOk.lt (x : ObjOk P w H h a o) : a < h.objs.size := by
  cases o with
  | lst xs => obtain ⟨_, _, _, _, e⟩ := x; exact Heap.lt_size e
  | tup xs => obtain ⟨_, _, _, p⟩ := x; exact p.lt
  | dK kvs => obtain ⟨_, _, _, _, o, _, _, e, _⟩ := x; exact Heap.lt_size e
  | dT kvs => obtain ⟨_, _, _, _, o, _, _, e, _⟩ := x; exact Heap.lt_size e
  | set S n => obtain ⟨o, _, _, _, e, _⟩ := x; exact Heap.lt_size e
  | ins C dx fs => obtain ⟨_, _, _, e, _⟩ := x; exact Heap.lt_size e
  | own y => obtain ⟨_, e⟩ := x; exact Heap.lt_size e
  | xd fs => obtain ⟨_, ⟨_, _, _, e, _⟩, _⟩ := x; exact Heap.lt_size e
  | rng lo hi => obtain ⟨_, _, _, e⟩ := x; exact Heap.lt_size e
  | frz ob u => obtain ⟨e, _⟩ := x; exact Heap.lt_size e
  | tbl ps => exact Heap.lt_size (show h.get? a = some _ from x)
  | met f y => exact Heap.lt_size (show h.get? a = some _ from x)
  | ext φ => obtain ⟨_, ⟨_, e⟩, _⟩ := x; exact Heap.lt_size e
theorem Paired.mapP {α β : Type} {F G : α → β → Prop} : ∀ {l₁ : List α} {l₂ : List β}, Paired F l₁ l₂ → (∀ a b, F a b → G a b) → Paired G l₁ l₂
  | _, _, .nil, _ => .nil
  | _, _, .cons r t, f => .cons (f _ _ r) (Paired.mapP t f)
/-- what an object's description leans on: its own object, its own dict, the tuples -/
theorem ObjOk.stay (x : ObjOk P w H h a o) (k : ∀ b u, (b = a ∨ H b = some (.own a)) → h.get? b = some u → h'.get? b = some u)
    (ho : ∀ b, H b = some (.own a) → H' b = some (.own a)) (ht : ∀ b xs, H b = some (.tup xs) → H' b = some (.tup xs)) : ObjOk P w H' h' a o := by
  induction o with
  | lst xs => obtain ⟨z, its, n, r, e⟩ := x; exact ⟨z, its, n, r, k _ _ (.inl rfl) e⟩
  | tup xs => obtain ⟨z, its, r, ob, e, c⟩ := x; exact ⟨z, its, r, ob, k _ _ (.inl rfl) e, c⟩
  | dK kvs => obtain ⟨z, y, vs, r, ob, es, ep, e, c⟩ := x; exact ⟨z, y, vs, r, ob, es, ep, k _ _ (.inl rfl) e, c⟩
  | dT kvs =>
    obtain ⟨z, y, xs, r, ob, es, ep, e, c⟩ := x
    exact ⟨z, y, xs, Paired.mapP r fun p q z => ⟨z.1, ht _ _ z.2.1, z.2.2⟩, ob, es, ep, k _ _ (.inl rfl) e, c⟩
  | set S n => obtain ⟨ob, es, ep, t, e, c⟩ := x; exact ⟨ob, es, ep, t, k _ _ (.inl rfl) e, c⟩
  | ins C dx fs =>
    obtain ⟨d, z, ne, e, mA, ⟨od, es, ep, e2, c⟩, r⟩ := x
    exact ⟨ho _ d, z, ne, k _ _ (.inl rfl) e, mA, ⟨od, es, ep, k _ _ (.inr d) e2, c⟩, r⟩
  | own y => obtain ⟨ob, e⟩ := x; exact ⟨ob, k _ _ (.inl rfl) e⟩
  | xd fs => obtain ⟨mA, ⟨od, es, ep, e, c⟩, r⟩ := x; exact ⟨mA, ⟨od, es, ep, k _ _ (.inl rfl) e, c⟩, r⟩
  | rng lo hi => obtain ⟨t, u, v, e⟩ := x; exact ⟨t, u, v, k _ _ (.inl rfl) e⟩
  | frz ob u ih => obtain ⟨e, q⟩ := x; exact ⟨k _ _ (.inl rfl) e, ih q⟩
  | tbl ps =>
    have e : h.get? a = some { cls := .none, data := .fields ps } := x
    show h'.get? a = some { cls := .none, data := .fields ps }
    exact k a _ (.inl rfl) e
  | met f y =>
    have e : h.get? a = some (PySem.W.methodObj (.ref f) (.ref y)) := x
    show h'.get? a = some (PySem.W.methodObj (.ref f) (.ref y))
    exact k a _ (.inl rfl) e
  | ext φ => obtain ⟨p, ⟨o, e⟩, st⟩ := x; exact ⟨st _ _ p fun o q => k _ _ (.inl rfl) q, ⟨o, k _ _ (.inl rfl) e⟩, st⟩
theorem HOk.lt (x : HOk P w H h) (e : H a = some o) : a < h.objs.size := (x a o e).lt
theorem HOk.fresh (x : HOk P w H h) (e : h.objs.size ≤ a) : H a = none := by
  cases q : H a with
  | none => rfl
  | some u => exact absurd (Nat.lt_of_lt_of_le (x.lt q) e) (Nat.lt_irrefl _)
/-- every object of the heap is kept -/
theorem HOk.kept (x : HOk P w H h) (k : ∀ b u, h.get? b = some u → h'.get? b = some u) : HOk P w H h' := fun a o e =>
  (x a o e).stay (fun b u _ q => k b u q) (fun _ q => q) fun _ _ q => q
/-- a new object is laid and tracked -/
theorem HOk.laid (x : HOk P w H h) (k : ∀ b u, h.get? b = some u → h'.get? b = some u) (hp : h.objs.size ≤ a) (new : ObjOk P w (upd H a o) h' a o) : HOk P w (upd H a o) h' := fun b u e => by
  have hn := x.fresh hp
  by_cases hb : b = a
  · subst hb; rw [upd_same] at e; cases e; exact new
  · rw [upd_ne hb] at e
    exact (x b u e).stay (fun c v _ q => k c v q) (fun c q => by rw [upd_ne (ne_of_none q hn)]; exact q) fun c xs q => by rw [upd_ne (ne_of_none q hn)]; exact q
end

/-- what may be read as u: it is u, or a known u -/
def Rd (H : Hp) (a : Addr) (u : HO) : Prop := H a = some u ∨ ∃ o, H a = some (.frz o u)
theorem Rd.of {H : Hp} {a : Addr} {u : HO} (h : H a = some u) : Rd H a u := .inl h
theorem Rd.ok {P : Program} {w : World} {H : Hp} {h : Heap} {a : Addr} {u : HO} (r : Rd H a u) (x : HOk P w H h) : ObjOk P w H h a u := by
  rcases r with r | ⟨o, r⟩
  · exact x a u r
  · obtain ⟨_, q⟩ := x a _ r
    exact q
/-- what may be written -/
def Mut : Option HO → Prop
  | some (.lst _) => True
  | some (.dK _) => True
  | some (.dT _) => True
  | some (.set _ _) => True
  | some (.ins _ _ _) => True
  | some (.ext _) => True
  | _ => False
section
variable {P : Program} {w : World} {H : Hp} {h h' : Heap} {x e : Addr} {o' : HO}
/-- the object at e is changed: x itself, or the dict of the instance x -/
theorem HOk.write (ok : HOk P w H h) (mu : Mut (H x)) (he : e = x ∨ H e = some (.own x)) (k : ∀ b u, b ≠ e → h.get? b = some u → h'.get? b = some u) (heo : ∃ u, h'.get? e = some u)
    (new : ObjOk P w (upd H x o') h' x o') : HOk P w (upd H x o') h' := fun b u q => by
  have nown : ∀ c y, H c = some (.own y) → c ≠ x := fun c y r z => by subst z; rw [r] at mu; exact mu
  have ntup : ∀ c xs, H c = some (.tup xs) → c ≠ x := fun c xs r z => by subst z; rw [r] at mu; exact mu
  by_cases hb : b = x
  · subst hb; rw [upd_same] at q; cases q; exact new
  · rw [upd_ne hb] at q
    by_cases hbe : b = e
    · have q' : H b = some (.own x) := by
        rcases he with z | z
        · exact absurd (hbe.trans z) hb
        · rw [hbe]; exact z
      rw [q] at q'; cases q'
      obtain ⟨v, hv⟩ := heo
      exact ⟨v, by rw [hbe]; exact hv⟩
    · refine (ok b u q).stay (fun c v hc r => k c v ?_ r) (fun c r => by rw [upd_ne (nown c b r)]; exact r) fun c xs r => by rw [upd_ne (ntup c xs r)]; exact r
      rcases hc with rfl | hc
      · exact hbe
      · rintro rfl
        rcases he with z | z
        · exact nown c b hc z
        · rw [hc] at z; cases z; exact hb rfl
end

/-! ### kept unless tracked; of the frames at fs (the callers') the slots may change (an exception that passes writes there); of the records at ex (iterators) nothing is said -/
structure Un (fs ex : List Addr) (H H' : Hp) (h h' : Heap) : Prop where
  keep : ∀ b o, h.get? b = some o → H b = none → b ∉ fs → b ∉ ex → h'.get? b = some o
  slot : ∀ b o, h.get? b = some o → H b = none → b ∈ fs → b ∉ ex → ∃ sl, h'.get? b = some { o with slots := sl }
  free : ∀ b o, h.get? b = some o → H b = none → b ∉ ex → H' b = none
  there : ∀ b o, h.get? b = some o → b ∉ ex → ∃ o', h'.get? b = some o'
  tups : ∀ b xs, H b = some (.tup xs) → H' b = some (.tup xs)
  frzs : ∀ b o u, H b = some (.frz o u) → H' b = some (.frz o u)
  tbls : ∀ b ps, H b = some (.tbl ps) → ∃ more, H' b = some (.tbl (ps ++ more))
section
variable {fs fs' ex ex' : List Addr} {H H1 H2 : Hp} {h h1 h2 h' : Heap} {a x e : Addr} {o : HO}
theorem Un.any (u : Un fs ex H H1 h h1) {b : Addr} {ob : Obj} (q : h.get? b = some ob) (n : H b = none) (hx : b ∉ ex) : ∃ sl, h1.get? b = some { ob with slots := sl } := by
  by_cases hb : b ∈ fs
  · exact u.slot b ob q n hb hx
  · exact ⟨ob.slots, u.keep b ob q n hb hx⟩
theorem Un.trans (a : Un fs ex H H1 h h1) (b : Un fs ex H1 H2 h1 h2) : Un fs ex H H2 h h2 where
  keep := fun c ob q n hc hx => b.keep c ob (a.keep c ob q n hc hx) (a.free c ob q n hx) hc hx
  slot := fun c ob q n hc hx => by
    obtain ⟨sl, e1⟩ := a.slot c ob q n hc hx
    obtain ⟨sl', e2⟩ := b.slot c _ e1 (a.free c ob q n hx) hc hx
    exact ⟨sl', e2⟩
  free := fun c ob q n hx => by
    obtain ⟨o', e1⟩ := a.there c ob q hx
    exact b.free c o' e1 (a.free c ob q n hx) hx
  there := fun c ob q hx => by
    obtain ⟨o', e1⟩ := a.there c ob q hx
    exact b.there c o' e1 hx
  tups := fun c xs q => b.tups c xs (a.tups c xs q)
  frzs := fun c ob xs q => b.frzs c ob xs (a.frzs c ob xs q)
  tbls := fun c ps q => by
    obtain ⟨m1, e1⟩ := a.tbls c ps q
    obtain ⟨m2, e2⟩ := b.tbls c _ e1
    exact ⟨m1 ++ m2, by rw [e2, Array.append_assoc]⟩
theorem Un.kept (k : ∀ b u, h.get? b = some u → h'.get? b = some u) : Un fs ex H H h h' :=
  ⟨fun b ob q _ _ _ => k b ob q, fun b ob q _ _ _ => ⟨ob.slots, k b ob q⟩, fun _ _ _ n _ => n, fun b ob q _ => ⟨ob, k b ob q⟩, fun _ _ q => q, fun _ _ _ q => q, fun _ ps q => ⟨#[], by rw [q]; simp⟩⟩
theorem Un.refl : Un fs ex H H h h := Un.kept fun _ _ q => q
theorem Un.laid (k : ∀ b u, h.get? b = some u → h'.get? b = some u) (hp : h.objs.size ≤ a) (hn : H a = none) : Un fs ex H (upd H a o) h h' where
  keep := fun b u q _ _ _ => k b u q
  slot := fun b u q _ _ _ => ⟨u.slots, k b u q⟩
  free := fun b u q n _ => by rw [upd_ne (Nat.ne_of_lt (Nat.lt_of_lt_of_le (Heap.lt_size q) hp))]; exact n
  there := fun b u q _ => ⟨u, k b u q⟩
  tups := fun b xs q => by rw [upd_ne (ne_of_none q hn)]; exact q
  frzs := fun b u xs q => by rw [upd_ne (ne_of_none q hn)]; exact q
  tbls := fun b ps q => ⟨#[], by rw [upd_ne (ne_of_none q hn), q]; simp⟩
theorem Un.write (mu : Mut (H x)) (he : e = x ∨ H e = some (.own x)) (k : ∀ b u, b ≠ e → h.get? b = some u → h'.get? b = some u) (heo : ∃ u, h'.get? e = some u) : Un fs ex H (upd H x o) h h' := by
  have hx : ∀ b, H b = none → b ≠ x := fun b n z => by subst z; rw [n] at mu; exact mu
  have hb : ∀ b, H b = none → b ≠ e := fun b n z => by
    subst z
    rcases he with r | r
    · exact hx b n r
    · rw [n] at r; cases r
  have hm : ∀ b u, H b = some u → ¬ Mut (some u) → b ≠ x := fun b u q nm z => by subst z; rw [q] at mu; exact nm mu
  refine ⟨fun b u q n _ _ => k b u (hb b n) q, fun b u q n _ _ => ⟨u.slots, k b u (hb b n) q⟩, fun b u q n _ => by rw [upd_ne (hx b n)]; exact n, fun b u q _ => ?_,
    fun b xs q => by rw [upd_ne (hm b _ q fun z => z)]; exact q, fun b u xs q => by rw [upd_ne (hm b _ q fun z => z)]; exact q, fun b ps q => ⟨#[], by rw [upd_ne (hm b _ q fun z => z), q]; simp⟩⟩
  by_cases hbe : b = e
  · subst hbe; exact heo
  · exact ⟨u, k b u hbe q⟩
theorem Un.mono (u : Un fs ex H H1 h h1) (hs : ∀ b ∈ fs, b ∈ fs') (hx : ∀ b ∈ ex, b ∈ ex') : Un fs' ex' H H1 h h1 :=
  ⟨fun b ob q n hb he => u.keep b ob q n (fun z => hb (hs b z)) fun z => he (hx b z), fun _ _ q n _ he => u.any q n fun z => he (hx _ z), fun b ob q n he => u.free b ob q n fun z => he (hx b z), fun b ob q he => u.there b ob q fun z => he (hx b z), u.tups, u.frzs, u.tbls⟩
end

/-! ### the heap without what is tracked -/
def trk (h : Heap) (H : Hp) : List Addr := (List.range h.objs.size).filter fun a => (H a).isSome
def hidT (h : Heap) (H : Hp) : Heap := PySem.W.hideAll h (trk h H)
theorem hidT_size (h : Heap) (H : Hp) : (hidT h H).objs.size = h.objs.size := PySem.W.hideAll_size _ _
theorem hidT_get {h : Heap} {H : Hp} {b : Addr} {o : Obj} (e : h.get? b = some o) (n : H b = none) : (hidT h H).get? b = some o :=
  PySem.W.hideAll_get _ e fun hm => by
    have q : (H b).isSome = true := (List.mem_filter.mp hm).2
    rw [n] at q; simp at q
theorem of_hidT {h : Heap} {H : Hp} {b : Addr} {o : Obj} (e : (hidT h H).get? b = some o) : h.get? b = some o ∧ H b = none := by
  have e' : h.get? b = some o := PySem.W.of_hideAll (trk h H) e
  refine ⟨e', ?_⟩
  cases q : H b with
  | none => rfl
  | some x =>
    have hm : b ∈ trk h H := List.mem_filter.mpr ⟨List.mem_range.mpr (Heap.lt_size e'), by simp [q]⟩
    have z : (hidT h H).get? b = none := PySem.W.hideAll_none (trk h H) hm
    rw [z] at e; cases e

/-! ### OpenK's ledger, filled with every new object but one -/
def allNews (g h : Heap) (L : Addr) : List (Addr × Obj) := (List.range h.objs.size).filterMap fun a => if a = L ∨ (g.get? a).isSome = true then none else (h.get? a).map fun o => (a, o)
def rest (g h : Heap) (L d : Addr) : List (Addr × Obj) := (allNews g h L).filter fun p => decide (p.1 ≠ d)
end L2

namespace L2
open PySem PySem.Spec PyProof.Rows

/-- the module's facts, over the base: the heap at the law's entry without what is tracked there -/
structure Mod (K : PySem.W.Frag) (mg : Str → Option Value) (base : Heap) : Prop where
  kin : K.In base
  glob : base.Ns mainGlobals mg
  blt : ∃ mb, base.Ns builtinsNs mb ∧ ∀ x : Str, x ≠ "__name__" → mb x = bootBuiltins x
  nolimit : base.NoLimit

/-- the context: a def's body (or a comprehension's block) running. base: fixed through the whole law; s₀, H₀: the entry; outer: the frames whose slots others may change (a def's callers); stack: all frames that run;
   ex: iterators that were made ahead of the entry and are walked here (a comprehension's); fn: the names whose cells were made at the entry (a def: all; a comprehension's block: its own); calm: not within an except suite; pn: pins that every state bears; xe: what is wanted of an exception that leaves the code -/
structure Cx where
  prog : Program
  w : World
  K : PySem.W.Frag
  mg : Str → Option Value
  base : Heap
  A : Around
  N : List Str
  s₀ : Shared
  H₀ : Hp
  env : Env
  outer : List Env
  stack : List Env
  ex : List Addr
  fn : Str → Bool
  calm : Bool
  pn : List (Addr × Obj)
  xe : Value → Shared → Prop
/-- the callers' frames -/
def frs (l : List Env) : List Addr := l.filterMap (·.frame)
abbrev Cx.fs (X : Cx) : List Addr := frs X.outer

def Vis (sc : Scope) (x : Str) : Prop := sc.names.lookup x = some .local ∨ sc.names.lookup x = some .cell ∨ sc.names.lookup x = some .free
def Loc (sc : Scope) (x : Str) : Prop := sc.names.lookup x = some .local ∨ sc.names.lookup x = some .cell
def Look (env : Env) (h : Heap) (m : Str → Option Value) (x : Str) (u : Value) : Prop :=
  (env.kindOf x = some .local ∧ m x = some u) ∨ ((env.kindOf x = some .cell ∨ env.kindOf x = some .free) ∧ ∃ c, env.cells.lookup x = some c ∧ h.IsCell c (some u))

structure Cx.Ok (X : Cx) : Prop where
  mod : Mod X.K X.mg X.base
  kind : X.env.scope.kind = .function
  glob : X.env.globals = mainGlobals
  blt : X.env.builtins = builtinsNs
  above : X.s₀.heap.objs.size ≤ X.env.locals
  inj : ∀ x y c, X.env.cells.lookup x = some c → X.env.cells.lookup y = some c → x = y
  has : ∀ x, (X.env.kindOf x = some .cell ∨ X.env.kindOf x = some .free) → ∃ c, X.env.cells.lookup x = some c
  cab : ∀ x c, X.fn x = true → X.env.cells.lookup x = some c → X.s₀.heap.objs.size ≤ c
  hd : X.calm = true → X.A.handled = none
  frames : X.A.frames = some X.stack
  stk : X.stack = X.outer ∨ (X.stack = X.env :: X.outer ∧ X.env.frame = some X.env.locals)
  exf : ∀ b ∈ X.ex, b ≠ X.env.locals ∧ ∀ x c, X.env.cells.lookup x = some c → c ≠ b
  bs : ∀ b o, X.base.get? b = some o → X.s₀.heap.get? b = some o ∧ X.H₀ b = none
  bsz : X.base.objs.size ≤ X.s₀.heap.objs.size
  noex : ∀ b o, X.base.get? b = some o → b ∉ X.ex
  exfs : ∀ b ∈ X.ex, b ∉ X.fs
  funs : X.s₀.heap.FunFrames X.base X.outer
  frf : ∀ b ∈ X.fs, X.H₀ b = none

structure Inv (X : Cx) (pins : List (Addr × Obj)) (σ : List (Option V)) (H : Hp) (s : Shared) : Prop where
  ok : X.Ok
  os : s.os = X.s₀.os
  bare : AllBare s.gens
  base : Un X.fs X.ex X.H₀ H X.s₀.heap s.heap
  loc : ∃ m, s.heap.Ns X.env.locals m ∧ ∀ (i : Nat) (x : Str) (v : V), X.N[i]? = some x → σ[i]? = some (some v) → Vis X.env.scope x → ∃ u, RelV v u ∧ Look X.env s.heap m x u
  cell : ∀ x c, X.env.cells.lookup x = some c → ∃ v, s.heap.IsCell c v
  free : H X.env.locals = none
  freeC : ∀ x c, X.env.cells.lookup x = some c → H c = none
  pin : ∀ p ∈ X.pn ++ pins, s.heap.get? p.1 = some p.2 ∧ H p.1 = none ∧ p.1 ≠ X.env.locals ∧ p.1 ∉ X.fs ∧ ∀ v, p.2.data ≠ .cell v
  hok : HOk X.prog X.w H s.heap
  len : σ.length = X.N.length

section
variable {X : Cx} {pins : List (Addr × Obj)} {σ : List (Option V)} {H H' : Hp} {s : Shared} {h' : Heap}

theorem Cx.Ok.nofr (ok : X.Ok) {b : Addr} {o : Obj} (e : X.base.get? b = some o) : b ∉ X.fs := fun hb => by
  have := (ok.funs.mem hb).1
  rw [e] at this; cases this
theorem Inv.bs (I : Inv X pins σ H s) : ∀ b o, X.base.get? b = some o → s.heap.get? b = some o ∧ H b = none := fun b o e =>
  ⟨I.base.keep b o (I.ok.bs b o e).1 (I.ok.bs b o e).2 (I.ok.nofr e) (I.ok.noex b o e), I.base.free b o (I.ok.bs b o e).1 (I.ok.bs b o e).2 (I.ok.noex b o e)⟩
theorem Inv.bk (I : Inv X pins σ H s) : ∀ b o, X.base.get? b = some o → s.heap.get? b = some o := fun b o e => (I.bs b o e).1
theorem Inv.mod (I : Inv X pins σ H s) : Mod X.K X.mg X.base := I.ok.mod
theorem Inv.kIn (I : Inv X pins σ H s) : X.K.In s.heap := I.ok.mod.kin.keeps I.bk
theorem Inv.nolimit (I : Inv X pins σ H s) : s.heap.NoLimit := I.ok.mod.nolimit.keeps I.bk
/-- the frame over the base: for OpenK's rules (K.In X.base is I.mod.kin) -/
theorem Inv.fr (I : Inv X pins σ H s) : ∃ m, Fr X.base X.env.locals s.heap m :=
  let ⟨m, hn, _⟩ := I.loc
  ⟨m, hn, I.bk, Nat.le_trans I.ok.bsz I.ok.above⟩
theorem Inv.lt (I : Inv X pins σ H s) : X.env.locals < s.heap.objs.size := let ⟨_, hn, _⟩ := I.loc; hn.lt
theorem Inv.sz (I : Inv X pins σ H s) : X.s₀.heap.objs.size ≤ s.heap.objs.size := Nat.le_trans I.ok.above (Nat.le_of_lt I.lt)
theorem Inv.nofs (I : Inv X pins σ H s) {a : Addr} (h : s.heap.objs.size ≤ a) : a ∉ X.fs := fun hb => by
  obtain ⟨_, o, ho, _⟩ := I.ok.funs.mem hb
  exact absurd (Nat.lt_of_lt_of_le (Heap.lt_size ho) (Nat.le_trans I.sz h)) (Nat.lt_irrefl _)
theorem Inv.cne (I : Inv X pins σ H s) : ∀ x c, X.env.cells.lookup x = some c → c ≠ X.env.locals := fun x c e z => by
  obtain ⟨v, o, ho, hd⟩ := I.cell x c e
  obtain ⟨m, ⟨o', es, ep, ho', hd', _⟩, _⟩ := I.loc
  rw [z, ho'] at ho; cases ho; rw [hd'] at hd; cases hd
theorem Inv.funs (I : Inv X pins σ H s) : s.heap.FunFrames X.base X.outer := by
  have all : ∀ (l : List Env), (∀ b ∈ frs l, b ∈ X.fs) → X.s₀.heap.FunFrames X.base l → s.heap.FunFrames X.base l := by
    intro l
    induction l with
    | nil => intro _ _; trivial
    | cons env r ih =>
      intro hs hl
      obtain ⟨hk, ⟨L, o, hf, hn, ho, hd⟩, hr⟩ := hl
      have hL : L ∈ X.fs := hs L (by unfold frs; rw [List.filterMap_cons, hf]; exact List.mem_cons_self)
      obtain ⟨sl, e⟩ := I.base.slot L o ho (I.ok.frf L hL) hL fun z => I.ok.exfs L z hL
      exact ⟨hk, ⟨L, _, hf, hn, e, hd⟩, ih (fun b hb => hs b (by unfold frs; rw [List.filterMap_cons, hf]; exact List.mem_cons_of_mem _ hb)) hr⟩
  exact all X.outer (fun _ hb => hb) I.ok.funs

/-- the frames that run, for a call -/
theorem Inv.stack (I : Inv X pins σ H s) : s.heap.FunFrames X.base X.stack := by
  rcases I.ok.stk with e | ⟨e, hf⟩
  · rw [e]; exact I.funs
  · rw [e]
    obtain ⟨m, hn, _⟩ := I.loc
    refine .cons (by rw [I.ok.kind]; decide) hf hn ?_ I.funs
    exact Heap.get?_none_of_le (Nat.le_trans I.ok.bsz I.ok.above)
theorem Inv.stkSub (I : Inv X pins σ H s) : ∀ b ∈ frs X.stack, b ∈ X.env.locals :: X.fs := fun b hb => by
  rcases I.ok.stk with e | ⟨e, hf⟩
  · rw [e] at hb; exact List.mem_cons_of_mem _ hb
  · rw [e] at hb
    unfold frs at hb
    rw [List.filterMap_cons, hf] at hb
    exact hb
theorem Inv.stkFree (I : Inv X pins σ H s) : ∀ b ∈ frs X.stack, H b = none := fun b hb => by
  rcases List.mem_cons.mp (I.stkSub b hb) with e | hb
  · rw [e]; exact I.free
  · obtain ⟨_, o, ho, _⟩ := I.ok.funs.mem hb
    exact I.base.free b o ho (I.ok.frf b hb) fun z => I.ok.exfs b z hb

/-- THE STEP: the untracked objects but the frame and the records at ch are kept (the callers' frames up to slots), the frame's map is kept, the new abstract heap is held -/
theorem Inv.step {g' : Array GenState} {t' : Nat} {d' : Drawn} {ch : List Addr} (I : Inv X pins σ H s)
    (hch : ∀ b ∈ ch, (b ∈ X.ex ∨ X.s₀.heap.objs.size ≤ b) ∧ b ≠ X.env.locals ∧ (∀ x c, X.env.cells.lookup x = some c → c ≠ b) ∧ ∀ p ∈ X.pn ++ pins, p.1 ≠ b)
    (keep : ∀ b o, b ≠ X.env.locals → b ∉ X.fs → b ∉ ch → s.heap.get? b = some o → H b = none → h'.get? b = some o)
    (slot : ∀ b o, b ≠ X.env.locals → b ∈ X.fs → b ∉ ch → s.heap.get? b = some o → H b = none → ∃ sl, h'.get? b = some { o with slots := sl }) (free : ∀ b o, b ∉ ch → s.heap.get? b = some o → H b = none → H' b = none)
    (there : ∀ b o, b ∉ ch → s.heap.get? b = some o → ∃ o', h'.get? b = some o')
    (tups : ∀ b xs, H b = some (.tup xs) → H' b = some (.tup xs)) (frzs : ∀ b o u, H b = some (.frz o u) → H' b = some (.frz o u)) (tbls : ∀ b ps, H b = some (.tbl ps) → ∃ more, H' b = some (.tbl (ps ++ more)))
    (ns : ∀ m, s.heap.Ns X.env.locals m → h'.Ns X.env.locals m) (hok : HOk X.prog X.w H' h') (hg : AllBare g') :
    Inv X pins σ H' { s with heap := h', gens := g', drawn := d', toks := t' } := by
  have neL : ∀ b o, X.s₀.heap.get? b = some o → b ≠ X.env.locals := fun b o e => Nat.ne_of_lt (Nat.lt_of_lt_of_le (Heap.lt_size e) I.ok.above)
  have neC : ∀ b o, X.s₀.heap.get? b = some o → b ∉ X.ex → b ∉ ch := fun b o e hx hb => by
    rcases (hch b hb).1 with z | z
    · exact hx z
    · exact absurd (Nat.lt_of_lt_of_le (Heap.lt_size e) z) (Nat.lt_irrefl _)
  have cellK : ∀ x c, X.env.cells.lookup x = some c → ∀ v, s.heap.IsCell c v → h'.IsCell c v := fun x c e v ⟨o, ho, hd⟩ => by
    have nch : c ∉ ch := fun z => (hch c z).2.2.1 x c e rfl
    by_cases hc : c ∈ X.fs
    · obtain ⟨sl, q⟩ := slot c o (I.cne x c e) hc nch ho (I.freeC x c e)
      exact ⟨_, q, hd⟩
    · exact ⟨o, keep c o (I.cne x c e) hc nch ho (I.freeC x c e), hd⟩
  refine ⟨I.ok, I.os, hg, ⟨fun b o e n hb hx => ?_, fun b o e n hb hx => ?_, fun b o e n hx => ?_, fun b o e hx => ?_, fun b xs e => tups b xs (I.base.tups b xs e), fun b o xs e => frzs b o xs (I.base.frzs b o xs e), fun b ps e => ?_⟩, ?_, fun x c e => ?_, ?_, fun x c e => ?_, fun p hp => ?_, hok, I.len⟩
  · exact keep b o (neL b o e) hb (neC b o e hx) (I.base.keep b o e n hb hx) (I.base.free b o e n hx)
  · obtain ⟨sl, e1⟩ := I.base.slot b o e n hb hx
    obtain ⟨sl', e2⟩ := slot b _ (neL b o e) hb (neC b o e hx) e1 (I.base.free b o e n hx)
    exact ⟨sl', e2⟩
  · obtain ⟨o', e1⟩ := I.base.there b o e hx
    exact free b o' (neC b o e hx) e1 (I.base.free b o e n hx)
  · obtain ⟨o', e1⟩ := I.base.there b o e hx
    exact there b o' (neC b o e hx) e1
  · obtain ⟨m1, e1⟩ := I.base.tbls b ps e
    obtain ⟨m2, e2⟩ := tbls b _ e1
    exact ⟨m1 ++ m2, by rw [e2, Array.append_assoc]⟩
  · obtain ⟨m, hn, hl⟩ := I.loc
    refine ⟨m, ns m hn, fun i x v e1 e2 e3 => ?_⟩
    obtain ⟨u, r, l⟩ := hl i x v e1 e2 e3
    refine ⟨u, r, ?_⟩
    rcases l with l | ⟨k, c, e, z⟩
    · exact .inl l
    · exact .inr ⟨k, c, e, cellK x c e _ z⟩
  · obtain ⟨v, z⟩ := I.cell x c e
    exact ⟨v, cellK x c e v z⟩
  · obtain ⟨m, ⟨o, _, _, ho, _⟩, _⟩ := I.loc
    exact free _ o (fun z => (hch _ z).2.1 rfl) ho I.free
  · obtain ⟨v, o, ho, hd⟩ := I.cell x c e
    exact free c o (fun z => (hch c z).2.2.1 x c e rfl) ho (I.freeC x c e)
  · obtain ⟨e, n, ne, nf, d⟩ := I.pin p hp
    have nch : p.1 ∉ ch := fun z => (hch p.1 z).2.2.2 p hp rfl
    exact ⟨keep p.1 p.2 ne nf nch e n, free p.1 p.2 nch e n, ne, nf, d⟩
/-- .. where the frame's own object is kept too -/
theorem Inv.un {t' : Nat} (I : Inv X pins σ H s) (u : Un X.fs [] H H' s.heap h') (hok : HOk X.prog X.w H' h') : Inv X pins σ H' { s with heap := h', toks := t' } := by
  obtain ⟨m, ⟨o, es, ep, ho, r⟩, _⟩ := id I.loc
  obtain ⟨sl, hL⟩ := u.any ho I.free (by simp)
  exact I.step (g' := s.gens) (d' := s.drawn) (ch := []) (fun _ z => nomatch z) (fun b o _ hb _ e n => u.keep b o e n hb (by simp)) (fun b o _ hb _ e n => u.slot b o e n hb (by simp)) (fun b o _ e n => u.free b o e n (by simp)) (fun b o _ e => u.there b o e (by simp)) u.tups u.frzs u.tbls (fun m' hm => by
    obtain ⟨o', es', ep', ho', r'⟩ := hm
    rw [ho] at ho'; cases ho'
    exact ⟨_, es', ep', hL, r'⟩) hok I.bare
/-- behind a call (or a comprehension's block): the slots of this frame may have changed too, the records at ch may have turned -/
theorem Inv.call {g' : Array GenState} {t' : Nat} {d' : Drawn} {ch : List Addr} (I : Inv X pins σ H s) (u : Un (frs X.stack) ch H H' s.heap h') (hok : HOk X.prog X.w H' h') (hg : AllBare g')
    (hch : ∀ b ∈ ch, (b ∈ X.ex ∨ X.s₀.heap.objs.size ≤ b) ∧ b ≠ X.env.locals ∧ (∀ x c, X.env.cells.lookup x = some c → c ≠ b) ∧ ∀ p ∈ X.pn ++ pins, p.1 ≠ b) :
    Inv X pins σ H' { s with heap := h', gens := g', drawn := d', toks := t' } := by
  obtain ⟨m, ⟨o, es, ep, ho, r⟩, _⟩ := id I.loc
  obtain ⟨sl, hL⟩ := u.any ho I.free fun z => (hch _ z).2.1 rfl
  exact I.step (ch := ch) hch (fun b o hL hb hc e n => u.keep b o e n (fun z => (List.mem_cons.mp (I.stkSub b z)).elim hL hb) hc) (fun b o _ _ hc e n => u.any e n hc) (fun b o hc e n => u.free b o e n hc) (fun b o hc e => u.there b o e hc) u.tups u.frzs u.tbls (fun m' hm => by
    obtain ⟨o', es', ep', ho', r'⟩ := hm
    rw [ho] at ho'; cases ho'
    exact ⟨_, es', ep', hL, r'⟩) hok hg
/-- an untracked record of ours (an iterator) has turned -/
theorem Inv.turned {t' : Nat} {it : Addr} (I : Inv X pins σ H s) (k : ∀ b o, b ≠ it → s.heap.get? b = some o → h'.get? b = some o) (hn : H it = none) (hL : it ≠ X.env.locals)
    (h1 : it ∈ X.ex ∨ X.s₀.heap.objs.size ≤ it) (h2 : ∀ x c, X.env.cells.lookup x = some c → c ≠ it) (h3 : ∀ p ∈ X.pn ++ pins, p.1 ≠ it) : Inv X pins σ H { s with heap := h', toks := t' } := by
  have nit : ∀ b u, H b = some u → b ≠ it := fun b u e z => by rw [z, hn] at e; cases e
  refine I.step (g' := s.gens) (d' := s.drawn) (ch := [it]) (fun b hb => ?_) (fun b o _ _ hc e _ => k b o (fun z => hc (by simp [z])) e) (fun b o _ _ hc e _ => ⟨o.slots, k b o (fun z => hc (by simp [z])) e⟩) (fun _ _ _ _ n => n)
    (fun b o hc e => ⟨o, k b o (fun z => hc (by simp [z])) e⟩) (fun _ _ e => e) (fun _ _ _ e => e) (fun b ps e => ⟨#[], by rw [e]; simp⟩) (fun m hm => ?_) (fun b u e => ?_) I.bare
  · have e : b = it := by simpa using hb
    subst e
    exact ⟨h1, hL, h2, h3⟩
  · obtain ⟨o, es, ep, ho, r⟩ := hm
    exact ⟨o, es, ep, k _ o (Ne.symm hL) ho, r⟩
  · refine (I.hok b u e).stay (fun c v hc q => k c v ?_ q) (fun _ q => q) fun _ _ q => q
    rcases hc with z | z
    · rw [z]; exact nit b u e
    · exact nit c _ z
theorem Inv.tok (I : Inv X pins σ H s) (t : Nat) : Inv X pins σ H { s with toks := t } := I.un (h' := s.heap) (t' := t) Un.refl I.hok
/-- all objects kept -/
theorem Inv.kept {t' : Nat} (I : Inv X pins σ H s) (k : ∀ b u, s.heap.get? b = some u → h'.get? b = some u) : Inv X pins σ H { s with heap := h', toks := t' } := I.un (Un.kept k) (I.hok.kept k)
/-- a new object laid and tracked -/
theorem Inv.laid {a : Addr} {o : HO} {t' : Nat} (I : Inv X pins σ H s) (k : ∀ b u, s.heap.get? b = some u → h'.get? b = some u) (hp : s.heap.objs.size ≤ a) (new : ObjOk X.prog X.w (upd H a o) h' a o) :
    Inv X pins σ (upd H a o) { s with heap := h', toks := t' } := I.un (Un.laid k hp (I.hok.fresh hp)) (I.hok.laid k hp new)
/-- an object written -/
theorem Inv.write {x e : Addr} {o : HO} {t' : Nat} (I : Inv X pins σ H s) (mu : Mut (H x)) (he : e = x ∨ H e = some (.own x)) (k : ∀ b u, b ≠ e → s.heap.get? b = some u → h'.get? b = some u) (heo : ∃ u, h'.get? e = some u)
    (new : ObjOk X.prog X.w (upd H x o) h' x o) : Inv X pins σ (upd H x o) { s with heap := h', toks := t' } := I.un (Un.write mu he k heo) (I.hok.write mu he k heo new)
/-- forgetting slots, pins -/
theorem Inv.weak {σ' : List (Option V)} (I : Inv X pins σ H s) (hl : σ'.length = σ.length) (w : ∀ (i : Nat) v, σ'[i]? = some (some v) → σ[i]? = some (some v)) : Inv X pins σ' H s :=
  ⟨I.ok, I.os, I.bare, I.base, let ⟨m, hn, hl'⟩ := I.loc; ⟨m, hn, fun i x v e1 e2 e3 => hl' i x v e1 (w i v e2) e3⟩, I.cell, I.free, I.freeC, I.pin, I.hok, hl.trans I.len⟩
theorem Inv.pins_of {pins' : List (Addr × Obj)} (I : Inv X pins σ H s) (h : ∀ p ∈ pins', s.heap.get? p.1 = some p.2 ∧ H p.1 = none ∧ p.1 ≠ X.env.locals ∧ p.1 ∉ X.fs ∧ ∀ v, p.2.data ≠ .cell v) : Inv X pins' σ H s :=
  ⟨I.ok, I.os, I.bare, I.base, I.loc, I.cell, I.free, I.freeC, fun p hp => (List.mem_append.mp hp).elim (fun z => I.pin p (List.mem_append_left _ z)) (h p), I.hok, I.len⟩

theorem nodup_ix {N : List Str} (hN : N.Nodup) {i j : Nat} {x : Str} (a : N[i]? = some x) (b : N[j]? = some x) : i = j := by
  obtain ⟨h1, e1⟩ := List.getElem?_eq_some_iff.mp a
  obtain ⟨h2, e2⟩ := List.getElem?_eq_some_iff.mp b
  exact (List.getElem_inj hN).mp (e1.trans e2.symm)

/-- a name is stored; what changed -/
theorem store_ok2 {M : Model} {A : Around} {E : Value → Shared → Prop} {i : Nat} {x : Str} {v : V} {u : Value} {Q : Unit → Shared → Prop} (I : Inv X pins σ H s) (hN : X.N.Nodup) (hi : X.N[i]? = some x) (hx : Loc X.env.scope x) (r : RelV v u)
    (h : ∀ s', Inv X pins (σ.set i (some v)) H s' → (∃ a, Heap.SameBut a s.heap s'.heap ∧ (a = X.env.locals ∨ X.env.cells.lookup x = some a)) → Q () s') (hf : X.fn x = true ∨ X.env.scope.names.lookup x = some .local := by first | exact .inl rfl | exact .inr rfl | assumption) : wpAny M A (storeName X.env x u) Q E s := by
  obtain ⟨m, hn, hl⟩ := id I.loc
  have hcls : (X.env.scope.kind == .class || (X.env.scope.kind == .module && X.env.locals != X.env.globals)) = false := by rw [I.ok.kind]; rfl
  have hiσ : i < σ.length := by rw [I.len]; exact (List.getElem?_eq_some_iff.mp hi).1
  have cne := I.cne
  have tracked : ∀ {a : Addr} {h' : Heap}, (∃ o, s.heap.get? a = some o ∧ H a = none) → Heap.SameBut a s.heap h' → HOk X.prog X.w H h' := fun {a h'} ha hs b ob e => by
    obtain ⟨_, _, hfree⟩ := ha
    refine (I.hok b ob e).stay (fun c w' hc q => (hs.2 c ?_).trans q) (fun _ q => q) fun _ _ q => q
    rintro rfl
    rcases hc with rfl | hc
    · rw [hfree] at e; cases e
    · rw [hfree] at hc; cases hc
  rcases hx with hk | hk
  · refine wpAny_storeName_local hk hn (fun h' hn' hs => ?_) hcls
    obtain ⟨oL, _, _, hoL, _⟩ := id hn
    refine h _ ⟨I.ok, I.os, I.bare, ⟨fun b o e n hb hx => ?_, fun b o e n hb hx => ?_, I.base.free, fun b o e hx => ?_, I.base.tups, I.base.frzs, I.base.tbls⟩, ⟨_, hn', fun j y v' e1 e2 e3 => ?_⟩, fun y c e => ?_, I.free, I.freeC, fun p hp => ?_, tracked ⟨oL, hoL, I.free⟩ hs, by simpa using I.len⟩ ⟨_, hs, .inl rfl⟩
    · exact (hs.2 b (Nat.ne_of_lt (Nat.lt_of_lt_of_le (Heap.lt_size e) I.ok.above))).trans (I.base.keep b o e n hb hx)
    · obtain ⟨sl, e1⟩ := I.base.slot b o e n hb hx
      exact ⟨sl, (hs.2 b (Nat.ne_of_lt (Nat.lt_of_lt_of_le (Heap.lt_size e) I.ok.above))).trans e1⟩
    · obtain ⟨o', e1⟩ := I.base.there b o e hx
      exact ⟨o', (hs.2 b (Nat.ne_of_lt (Nat.lt_of_lt_of_le (Heap.lt_size e) I.ok.above))).trans e1⟩
    · by_cases hj : j = i
      · subst hj
        rw [hi] at e1; cases e1
        rw [List.getElem?_set_self hiσ] at e2
        cases e2
        exact ⟨u, r, .inl ⟨hk, by simp⟩⟩
      · rw [List.getElem?_set_ne (Ne.symm hj)] at e2
        obtain ⟨u', r', q⟩ := hl j y v' e1 e2 e3
        refine ⟨u', r', ?_⟩
        rcases q with ⟨k, e⟩ | ⟨k, c, e, z⟩
        · refine .inl ⟨k, ?_⟩
          have : y ≠ x := fun e => hj (nodup_ix hN e1 (e ▸ hi))
          simp [this, e]
        · exact .inr ⟨k, c, e, z.sameBut hs (cne y c e)⟩
    · obtain ⟨w', z⟩ := I.cell y c e
      exact ⟨w', z.sameBut hs (cne y c e)⟩
    · obtain ⟨e, n, ne, nf, d⟩ := I.pin p hp
      exact ⟨(hs.2 p.1 ne).trans e, n, ne, nf, d⟩
  · have hfn : X.fn x = true := by
      rcases hf with z | z
      · exact z
      · rw [z] at hk; cases hk
    obtain ⟨c, hc⟩ := I.ok.has x (.inl hk)
    obtain ⟨w', z⟩ := I.cell x c hc
    refine wpAny_storeName_cell I.ok.kind hk hc z (fun h' hc' hs => ?_)
    obtain ⟨oc, hoc, hocd⟩ := id z
    refine h { s with heap := h' } ⟨I.ok, I.os, I.bare, ⟨fun b o e n hb hx => ?_, fun b o e n hb hx => ?_, I.base.free, fun b o e hx => ?_, I.base.tups, I.base.frzs, I.base.tbls⟩, ⟨m, hn.sameBut hs (Ne.symm (cne x c hc)), fun j y v' e1 e2 e3 => ?_⟩, fun y c' e => ?_, I.free, I.freeC, fun p hp => ?_, tracked ⟨oc, hoc, I.freeC x c hc⟩ hs, by simpa using I.len⟩ ⟨c, hs, .inr hc⟩
    · exact (hs.2 b (Nat.ne_of_lt (Nat.lt_of_lt_of_le (Heap.lt_size e) (I.ok.cab x c hfn hc)))).trans (I.base.keep b o e n hb hx)
    · obtain ⟨sl, e1⟩ := I.base.slot b o e n hb hx
      exact ⟨sl, (hs.2 b (Nat.ne_of_lt (Nat.lt_of_lt_of_le (Heap.lt_size e) (I.ok.cab x c hfn hc)))).trans e1⟩
    · obtain ⟨o', e1⟩ := I.base.there b o e hx
      exact ⟨o', (hs.2 b (Nat.ne_of_lt (Nat.lt_of_lt_of_le (Heap.lt_size e) (I.ok.cab x c hfn hc)))).trans e1⟩
    · by_cases hj : j = i
      · subst hj
        rw [hi] at e1; cases e1
        rw [List.getElem?_set_self hiσ] at e2
        cases e2
        exact ⟨u, r, .inr ⟨.inl hk, c, hc, hc'⟩⟩
      · rw [List.getElem?_set_ne (Ne.symm hj)] at e2
        obtain ⟨u', r', q⟩ := hl j y v' e1 e2 e3
        refine ⟨u', r', ?_⟩
        rcases q with q | ⟨k, c', e, z'⟩
        · exact .inl q
        · refine .inr ⟨k, c', e, z'.sameBut hs ?_⟩
          rintro rfl
          exact hj (nodup_ix hN e1 (I.ok.inj _ _ _ e hc ▸ hi))
    · by_cases hcc : c' = c
      · subst hcc; exact ⟨_, hc'⟩
      · obtain ⟨w2, z2⟩ := I.cell y c' e
        exact ⟨w2, z2.sameBut hs hcc⟩
    · obtain ⟨e, n, ne, nf, d⟩ := I.pin p hp
      refine ⟨(hs.2 p.1 ?_).trans e, n, ne, nf, d⟩
      intro q
      rw [q, hoc] at e
      have q' : oc = p.2 := Option.some.inj e
      exact d w' (by rw [← q']; exact hocd)
theorem store_ok {M : Model} {A : Around} {E : Value → Shared → Prop} {i : Nat} {x : Str} {v : V} {u : Value} {Q : Unit → Shared → Prop} (I : Inv X pins σ H s) (hN : X.N.Nodup) (hi : X.N[i]? = some x) (hx : Loc X.env.scope x) (r : RelV v u)
    (h : ∀ s', Inv X pins (σ.set i (some v)) H s' → Q () s') (hf : X.fn x = true ∨ X.env.scope.names.lookup x = some .local := by first | exact .inl rfl | exact .inr rfl | assumption) : wpAny M A (storeName X.env x u) Q E s :=
  store_ok2 I hN hi hx r (fun s' I' _ => h s' I') hf
/-- behind a call or a block, the state as it is -/
theorem Inv.call' {s' : Shared} {ch : List Addr} (I : Inv X pins σ H s) (ho : s'.os = s.os) (u : Un (frs X.stack) ch H H' s.heap s'.heap) (hok : HOk X.prog X.w H' s'.heap) (hg : AllBare s'.gens)
    (hch : ∀ b ∈ ch, (b ∈ X.ex ∨ X.s₀.heap.objs.size ≤ b) ∧ b ≠ X.env.locals ∧ (∀ x c, X.env.cells.lookup x = some c → c ≠ b) ∧ ∀ p ∈ X.pn ++ pins, p.1 ≠ b) : Inv X pins σ H' s' := by
  obtain ⟨h', g', d', t', o'⟩ := s'
  have e : o' = s.os := ho
  subst e
  exact I.call (g' := g') (t' := t') (d' := d') u hok hg hch
end

/-! ### the judgements -/
/-- an exception: its class, its own dict's address (where it has one), the abstract heap behind it -/
abbrev XK := Value → Option Addr → Hp → Prop
abbrev St := List (Option V)
abbrev VK := V → Hp → Prop
/-- an expression's reading; a test's; an argument list's -/
abbrev TE := St → Hp → VK → Prop
abbrev TT := St → Hp → (Bool → Hp → Prop) → Prop
abbrev TA := St → Hp → (List V → Hp → Prop) → Prop
/-- what is wanted behind a statement -/
structure Ends where
  nx : St → Hp → Prop
  rt : VK
  bk : St → Hp → Prop := fun _ _ => False
  ct : St → Hp → Prop := fun _ _ => False
abbrev TS := Ends → St → Hp → Prop

def EP (X : Cx) (pins : List (Addr × Obj)) (σ : St) (Q : VK) (u : Value) (s' : Shared) : Prop := ∃ v H', Inv X pins σ H' s' ∧ RelV v u ∧ Q v H'
def TP (X : Cx) (pins : List (Addr × Obj)) (σ : St) (Q : Bool → Hp → Prop) (b : Bool) (s' : Shared) : Prop := ∃ H', Inv X pins σ H' s' ∧ Q b H'
def AP (X : Cx) (pins : List (Addr × Obj)) (σ : St) (Q : List V → Hp → Prop) (us : List Value) (s' : Shared) : Prop := ∃ vs H', Inv X pins σ H' s' ∧ Vals vs us ∧ Q vs H'
def SP (X : Cx) (pins : List (Addr × Obj)) (D : Ends) (f : Flow) (s' : Shared) : Prop :=
  match f with
  | .next => ∃ σ' H', Inv X pins σ' H' s' ∧ D.nx σ' H'
  | .brk => ∃ σ' H', Inv X pins σ' H' s' ∧ D.bk σ' H'
  | .cont => ∃ σ' H', Inv X pins σ' H' s' ∧ D.ct σ' H'
  | .ret u => ∃ v σ' H', Inv X pins σ' H' s' ∧ RelV v u ∧ D.rt v H'

def PE (X : Cx) (e : Expr) (t : TE) : Prop :=
  ∀ (pins : List (Addr × Obj)) (s : Shared) (σ : St) (H : Hp) (Q : VK), Inv X pins σ H s → t σ H Q → wpAny (model X.prog X.w) X.A (eval e X.env) (EP X pins σ Q) X.xe s
def PT (X : Cx) (e : Expr) (t : TT) : Prop :=
  ∀ (pins : List (Addr × Obj)) (s : Shared) (σ : St) (H : Hp) (Q : Bool → Hp → Prop), Inv X pins σ H s → t σ H Q → wpAny (model X.prog X.w) X.A (isTrue e X.env (eval e X.env)) (TP X pins σ Q) X.xe s
/-- a test whatever its 'whole' is (and, or) -/
def PW (X : Cx) (e : Expr) (t : TT) : Prop :=
  ∀ (whole : Sem Value) (pins : List (Addr × Obj)) (s : Shared) (σ : St) (H : Hp) (Q : Bool → Hp → Prop), Inv X pins σ H s → t σ H Q → wpAny (model X.prog X.w) X.A (isTrue e X.env whole) (TP X pins σ Q) X.xe s
theorem PW.pt {X : Cx} {e : Expr} {t : TT} (h : PW X e t) : PT X e t := h _
/-- an argument list (no star), from the left -/
def PA (X : Cx) (es : List Expr) (t : TA) : Prop :=
  ∀ (pos : Pos) (pins : List (Addr × Obj)) (s : Shared) (σ : St) (H : Hp) (Q : List V → Hp → Prop), Inv X pins σ H s → t σ H Q → wpAny (model X.prog X.w) X.A (spliced (backTo pos (starEach es X.env))) (AP X pins σ Q) X.xe s
def PS (X : Cx) (st : Stmt) (t : TS) : Prop :=
  ∀ (pins : List (Addr × Obj)) (s : Shared) (σ : St) (H : Hp) (D : Ends), Inv X pins σ H s → t D σ H → wpAny (model X.prog X.w) X.A (exec st X.env) (SP X pins D) X.xe s
def PSs (X : Cx) (st : List Stmt) (t : TS) : Prop :=
  ∀ (pins : List (Addr × Obj)) (s : Shared) (σ : St) (H : Hp) (D : Ends), Inv X pins σ H s → t D σ H → wpAny (model X.prog X.w) X.A (execs st X.env) (SP X pins D) X.xe s
/-- weaken the end -/
theorem thn {α : Type} {t : Sem α} {Q Q' : α → Shared → Prop} {M : Model} {A : Around} {E : Value → Shared → Prop} {s : Shared} (h : wpAny M A t Q E s) (hQ : ∀ a s, Q a s → Q' a s) : wpAny M A t Q' E s := wpAny_mono h hQ fun _ _ x => x
end L2

namespace L2
open PySem PySem.Spec PyProof.Rows
section
variable {X : Cx}

/-! ### names and constants -/
def tVar (i : Nat) : TE := fun σ H Q => ∃ v, σ[i]? = some (some v) ∧ Q v H
def tC (v : V) : TE := fun _ H Q => Q v H
theorem pe_var {i : Nat} {x : Str} {pos : Pos} (hN : X.N[i]? = some x) (hv : Vis X.env.scope x) (hd : (x == ("__debug__" : Str)) = false := by decide) (hcd : (x == ("__classdict__" : Str)) = false := by decide) : PE X (.Name x pos) (tVar i) := by
  intro pins s σ H Q I h
  obtain ⟨v, e, h⟩ := h
  obtain ⟨m, hn, hl⟩ := I.loc
  obtain ⟨u, r, l⟩ := hl i x v hN e hv
  have fin : EP X pins σ Q u s := ⟨v, H, I, r, h⟩
  rcases l with ⟨hk, hm⟩ | ⟨hk, c, hc, hcell⟩
  · exact wpAny_Name (wpAny_loadName_local I.ok.kind hk hn hm fin) hd
  · rcases hk with hk | hk
    · exact wpAny_Name (wpAny_loadName_cell I.ok.kind hk hc hcell fin) hd
    · exact wpAny_Name (wpAny_loadName_free I.ok.kind hk hc hcell fin hcd) hd
theorem pe_int {i j pos} : PE X (.Constant (.int i) j pos) (tC (.int i)) := fun _ _ _ H _ I h => wpAny_Constant_int ⟨.int i, H, I.tok _, ⟨_, rfl⟩, h⟩
theorem pe_bl {b j pos} : PE X (.Constant (.bool b) j pos) (tC (.bl b)) := fun _ _ _ H _ I h => Constant_bool ⟨.bl b, H, I, rfl, h⟩
theorem pe_non {j pos} : PE X (.Constant .none j pos) (tC .non) := fun _ _ _ H _ I h => Constant_none ⟨.non, H, I, rfl, h⟩
theorem pe_str {x j pos} : PE X (.Constant (.str x) j pos) (tC (.str x)) := fun _ _ _ H _ I h => Calls.Constant_str ⟨.str x, H, I.tok _, ⟨_, rfl⟩, h⟩

/-- a global name of the def -/
def Gl (X : Cx) (x : Str) : Prop := X.env.kindOf x = some .globalImplicit
theorem ld_glob {E : Value → Shared → Prop} {pins : List (Addr × Obj)} {s : Shared} {σ : St} {H : Hp} {x : Str} {u : Value} {pos : Pos} {Q : Value → Shared → Prop} (I : Inv X pins σ H s) (hg : Gl X x) (hm : X.mg x = some u) (h : Q u s)
    (hd : (x == ("__debug__" : Str)) = false := by decide) : wpAny (model X.prog X.w) X.A (eval (.Name x pos) X.env) Q E s :=
  Calls.Name_function_global I.ok.kind hg (Calls.loadGlobal_global (by rw [I.ok.glob]; exact I.mod.glob.keeps I.bk) hm h) hd
theorem ld_blt {E : Value → Shared → Prop} {pins : List (Addr × Obj)} {s : Shared} {σ : St} {H : Hp} {x : Str} {u : Value} {pos : Pos} {Q : Value → Shared → Prop} (I : Inv X pins σ H s) (hg : Gl X x) (hm : X.mg x = none) (hv : bootBuiltins x = some u) (h : Q u s)
    (hn : x ≠ "__name__" := by decide) (hd : (x == ("__debug__" : Str)) = false := by decide) : wpAny (model X.prog X.w) X.A (eval (.Name x pos) X.env) Q E s := by
  obtain ⟨mb, h1, h2⟩ := I.mod.blt
  exact Calls.Name_function_global I.ok.kind hg (Calls.loadGlobal_builtin (by rw [I.ok.glob]; exact I.mod.glob.keeps I.bk) hm (by rw [I.ok.blt]; exact h1.keeps I.bk) ((h2 x hn).trans hv) h) hd
/-- a module's constant, a class, a function, as a value -/
theorem pe_glob {x : Str} {v : V} {u : Value} {pos : Pos} (hg : Gl X x) (hm : X.mg x = some u) (r : RelV v u) (hd : (x == ("__debug__" : Str)) = false := by decide) : PE X (.Name x pos) (tC v) :=
  fun _ _ _ H _ I h => ld_glob I hg hm ⟨v, H, I, r, h⟩ hd
theorem pe_bltn {x : Str} {v : V} {u : Value} {pos : Pos} (hg : Gl X x) (hm : X.mg x = none) (hv : bootBuiltins x = some u) (r : RelV v u) (hn : x ≠ "__name__" := by decide) (hd : (x == ("__debug__" : Str)) = false := by decide) : PE X (.Name x pos) (tC v) :=
  fun _ _ _ H _ I h => ld_blt I hg hm hv ⟨v, H, I, r, h⟩ hn hd

/-! ### arithmetic -/
variable {a b : Expr} {ta tb : TE} {pos : Pos}
/-! ### comparisons -/
/-- a comparison as a value, as a test -/
def tB (t : TE) : TT := fun σ H Q => t σ H fun x H1 => ∃ c, x = .bl c ∧ Q c H1
/-- an expression whose value is a bool, as a test -/
theorem pt_val {e : Expr} {t : TE} (h : PE X e t) (he : ∀ whole, isTrue e X.env whole = (do let v ← whole; standAt e.pos; holding [v] (truthy v)) := by intro _; rfl) : PT X e (tB t) := by
  intro pins s σ H Q I hw
  refine isTrue_plain (thn (h pins s σ H _ I hw) fun v s1 ⟨x, H1, I1, r1, q1⟩ => ?_) (he _)
  obtain ⟨d, rfl, q⟩ := q1
  cases r1
  exact wpAny_truthy_bool ⟨H1, I1, q⟩

/-! ### and, or, not -/
variable {tA tB' : TT} {rest : List Expr}
def tOr (t u : TT) : TT := fun σ H Q => t σ H fun c H1 => if c = true then Q true H1 else u σ H1 Q
def tNot (t : TT) : TT := fun σ H Q => t σ H fun c H1 => Q (!c) H1
theorem pw_or1 (ha : PT X a tA) : PW X (.BoolOp .Or [a] pos) tA := by
  intro wh pins s σ H Q I h
  refine isTrue_or (thn (ha pins s σ H Q I h) fun c s1 e => ?_)
  cases c with
  | false => exact isTrue_or_nil e
  | true => exact e
theorem pw_or (ha : PT X a tA) (hb : PW X (.BoolOp .Or (b :: rest) pos) tB') : PW X (.BoolOp .Or (a :: b :: rest) pos) (tOr tA tB') := by
  intro wh pins s σ H Q I h
  refine isTrue_or (thn (ha pins s σ H _ I h) fun c s1 ⟨H1, I1, q1⟩ => ?_)
  cases c with
  | true => exact ⟨H1, I1, q1⟩
  | false => exact hb wh pins s1 σ H1 Q I1 q1
theorem pt_not (ha : PT X a tA) : PT X (.UnaryOp .Not a pos) (tNot tA) := by
  intro pins s σ H Q I h
  exact isTrue_not (ha pins s σ H (fun c H1 => Q (!c) H1) I h)
/-- .. as values (bools) -/
def tAndV (ta tb : TE) : TE := fun σ H Q => ta σ H fun x H1 => ∃ c, x = .bl c ∧ if c = true then tb σ H1 Q else Q (.bl false) H1
def tOrV (ta tb : TE) : TE := fun σ H Q => ta σ H fun x H1 => ∃ c, x = .bl c ∧ if c = true then Q (.bl true) H1 else tb σ H1 Q
def tNotV (ta : TE) : TE := fun σ H Q => ta σ H fun x H1 => ∃ c, x = .bl c ∧ Q (.bl (!c)) H1
theorem pe_one {op} {t : TE} (h : PE X a t) : PE X (.BoolOp op [a] pos) t := fun pins s σ H Q I hw => BoolOp_one (h pins s σ H Q I hw)
theorem pe_and (ha : PE X a ta) (hb : PE X (.BoolOp .And (b :: rest) pos) tb) : PE X (.BoolOp .And (a :: b :: rest) pos) (tAndV ta tb) := by
  intro pins s σ H Q I h
  refine BoolOp_and (thn (ha pins s σ H _ I h) fun v s1 ⟨x, H1, I1, r1, q1⟩ => ?_)
  obtain ⟨c, rfl, q1⟩ := q1
  cases r1
  refine wpAny_truthy_bool ?_
  cases c with
  | true => exact hb pins s1 σ H1 Q I1 q1
  | false => exact ⟨.bl false, H1, I1, rfl, q1⟩
theorem pe_or (ha : PE X a ta) (hb : PE X (.BoolOp .Or (b :: rest) pos) tb) : PE X (.BoolOp .Or (a :: b :: rest) pos) (tOrV ta tb) := by
  intro pins s σ H Q I h
  refine BoolOp_or (thn (ha pins s σ H _ I h) fun v s1 ⟨x, H1, I1, r1, q1⟩ => ?_)
  obtain ⟨c, rfl, q1⟩ := q1
  cases r1
  refine wpAny_truthy_bool ?_
  cases c with
  | false => exact hb pins s1 σ H1 Q I1 q1
  | true => exact ⟨.bl true, H1, I1, rfl, q1⟩
theorem pe_not (ha : PE X a ta) : PE X (.UnaryOp .Not a pos) (tNotV ta) := by
  intro pins s σ H Q I h
  refine UnaryOp_ (thn (ha pins s σ H _ I h) fun v s1 ⟨x, H1, I1, r1, q1⟩ => ?_)
  obtain ⟨c, rfl, q1⟩ := q1
  cases r1
  exact not_of (wpAny_truthy_bool ⟨.bl (!c), H1, I1, rfl, q1⟩)
/-- a if t else b -/
def tIf (t : TT) (ta tb : TE) : TE := fun σ H Q => t σ H fun c H1 => if c = true then ta σ H1 Q else tb σ H1 Q
theorem pe_ifExp {c : Expr} (hc : PT X c tA) (ha : PE X a ta) (hb : PE X b tb) : PE X (.IfExp c a b pos) (tIf tA ta tb) := by
  intro pins s σ H Q I h
  refine wpAny_IfExp (thn (hc pins s σ H _ I h) fun d s1 ⟨H1, I1, q1⟩ => ?_)
  cases d with
  | true => exact ha pins s1 σ H1 Q I1 q1
  | false => exact hb pins s1 σ H1 Q I1 q1
end
end L2

namespace L2
open PySem PySem.Spec PyProof.Rows

/-! ### a list, a tuple that is read: tracked, frozen, or an object of the module -/
def SqL (K : PySem.W.Frag) (H : Hp) (a : Addr) (xs : List V) : Prop :=
  Rd H a (.lst xs) ∨
    ∃ (o : Obj) (its : Array Value) (n : Nat), K.lookup a = some o ∧ o.cls = .type "list" ∧ o.dict = none ∧ o.data = .seq its n ∧ its.size ≤ sizeLine ∧ Vals xs its.toList
def SqT (K : PySem.W.Frag) (H : Hp) (a : Addr) (xs : List V) : Prop :=
  Rd H a (.tup xs) ∨
    ∃ (o : Obj) (its : Array Value) (n : Nat), K.lookup a = some o ∧ o.cls = .type "tuple" ∧ o.data = .seq its n ∧ its.size ≤ sizeLine ∧ Vals xs its.toList
def absV : Value → Option V
  | .none => some .non
  | .bool b => some (.bl b)
  | .int i _ => some (.int i)
  | .str x _ => some (.str x)
  | .bytes b _ => some (.byt b)
  | .float b _ => some (.flt b)
  | .ref a => some (.ref a)
  | .type n => some (.ty n)
  | _ => none
theorem RelV.abs {x : V} {u : Value} (r : RelV x u) : absV u = some x := by
  cases x with
  | non => cases r; rfl
  | bl _ => cases r; rfl
  | int _ => obtain ⟨t, rfl⟩ := r; rfl
  | str _ => obtain ⟨t, rfl⟩ := r; rfl
  | byt _ => obtain ⟨t, rfl⟩ := r; rfl
  | flt _ => obtain ⟨t, rfl⟩ := r; rfl
  | ref _ => cases r; rfl
  | ty _ => cases r; rfl
theorem RelV.inj {x y : V} {u : Value} (r : RelV x u) (q : RelV y u) : x = y := Option.some.inj (r.abs.symm.trans q.abs)
theorem Vals.inj : ∀ {xs ys : List V} {us : List Value}, Vals xs us → Vals ys us → xs = ys
  | _, _, _, .nil, .nil => rfl
  | _, _, _, .cons r t, .cons r' t' => by rw [r.inj r', Vals.inj t t']
section
variable {X : Cx} {pins : List (Addr × Obj)} {σ : St} {H : Hp} {s : Shared} {a : Addr} {xs ys : List V}
theorem SqL.of {K : PySem.W.Frag} (h : H a = some (.lst xs)) : SqL K H a xs := .inl (.inl h)
theorem SqT.of {K : PySem.W.Frag} (h : H a = some (.tup xs)) : SqT K H a xs := .inl (.inl h)
theorem Inv.list (I : Inv X pins σ H s) (h : SqL X.K H a xs) : ∃ its : List Value, Vals xs its ∧ PlainL s.heap a its.toArray ∧ xs.length ≤ sizeLine := by
  rcases h with h | ⟨o, its, n, hk, hc, hd, hs, hz, r⟩
  · obtain ⟨z, its, n, r, e⟩ := h.ok I.hok
    exact ⟨its, r, ⟨_, n, e, rfl, rfl, rfl⟩, z⟩
  · refine ⟨its.toList, r, ⟨o, n, I.kIn a o hk, hc, hd, by simpa using hs⟩, ?_⟩
    have e := r.length
    simp only [Array.length_toList] at e
    omega
theorem Inv.tuple (I : Inv X pins σ H s) (h : SqT X.K H a xs) : ∃ its : List Value, Vals xs its ∧ IsTup s.heap a its.toArray ∧ xs.length ≤ sizeLine := by
  rcases h with h | ⟨o, its, n, hk, hc, hs, hz, r⟩
  · obtain ⟨z, its, r, p⟩ := h.ok I.hok
    exact ⟨its, r, p, z⟩
  · refine ⟨its.toList, r, ⟨o, I.kIn a o hk, hc, n, by simpa using hs⟩, ?_⟩
    have e := r.length
    simp only [Array.length_toList] at e
    omega
theorem Inv.list_inj (I : Inv X pins σ H s) (h : SqL X.K H a xs) (h' : SqL X.K H a ys) : xs = ys := by
  obtain ⟨its, r, ⟨o, n, e, _, _, d⟩, _⟩ := I.list h
  obtain ⟨its', r', ⟨o', n', e', _, _, d'⟩, _⟩ := I.list h'
  rw [e] at e'; cases e'
  rw [d] at d'
  injection d' with d1 _
  have : its = its' := by simpa using congrArg Array.toList d1
  subst this
  exact r.inj r'
end

/-! ### another wish about exceptions -/
abbrev Cx.wish (X : Cx) (E : Value → Shared → Prop) : Cx := { X with xe := E }
/-- no exception leaves -/
abbrev Cx.nox (X : Cx) : Cx := X.wish fun _ _ => False
theorem Cx.Ok.wish {X : Cx} (ok : X.Ok) (E : Value → Shared → Prop) : (X.wish E).Ok :=
  ⟨ok.mod, ok.kind, ok.glob, ok.blt, ok.above, ok.inj, ok.has, ok.cab, ok.hd, ok.frames, ok.stk, ok.exf, ok.bs, ok.bsz, ok.noex, ok.exfs, ok.funs, ok.frf⟩
theorem Cx.Ok.unwish {X : Cx} {E : Value → Shared → Prop} (ok : (X.wish E).Ok) : X.Ok :=
  ⟨ok.mod, ok.kind, ok.glob, ok.blt, ok.above, ok.inj, ok.has, ok.cab, ok.hd, ok.frames, ok.stk, ok.exf, ok.bs, ok.bsz, ok.noex, ok.exfs, ok.funs, ok.frf⟩
section
variable {X : Cx} {pins : List (Addr × Obj)} {σ : St} {H : Hp} {s : Shared} {E : Value → Shared → Prop}
theorem Inv.wish (I : Inv X pins σ H s) (E : Value → Shared → Prop) : Inv (X.wish E) pins σ H s := ⟨I.ok.wish E, I.os, I.bare, I.base, I.loc, I.cell, I.free, I.freeC, I.pin, I.hok, I.len⟩
theorem Inv.unwish (I : Inv (X.wish E) pins σ H s) : Inv X pins σ H s := ⟨I.ok.unwish, I.os, I.bare, I.base, I.loc, I.cell, I.free, I.freeC, I.pin, I.hok, I.len⟩
theorem SP.unwish {D : Ends} {f : Flow} {s' : Shared} (h : SP (X.wish E) pins D f s') : SP X pins D f s' := by
  cases f with
  | next => obtain ⟨σ', H', I, q⟩ := h; exact ⟨σ', H', I.unwish, q⟩
  | brk => obtain ⟨σ', H', I, q⟩ := h; exact ⟨σ', H', I.unwish, q⟩
  | cont => obtain ⟨σ', H', I, q⟩ := h; exact ⟨σ', H', I.unwish, q⟩
  | ret u => obtain ⟨v, σ', H', I, r, q⟩ := h; exact ⟨v, σ', H', I.unwish, r, q⟩
theorem PE.nox {e : Expr} {t : TE} (h : PE X.nox e t) : PE X e t := fun pins s σ H Q I hw =>
  wpAny_mono (h pins s σ H Q (I.wish _) hw) (fun _ _ ⟨v, H', I', r, q⟩ => ⟨v, H', I'.unwish, r, q⟩) fun _ _ z => False.elim z
theorem PT.nox {e : Expr} {t : TT} (h : PT X.nox e t) : PT X e t := fun pins s σ H Q I hw =>
  wpAny_mono (h pins s σ H Q (I.wish _) hw) (fun _ _ ⟨H', I', q⟩ => ⟨H', I'.unwish, q⟩) fun _ _ z => False.elim z
theorem PSs.nox {st : List Stmt} {t : TS} (h : PSs X.nox st t) : PSs X st t := fun pins s σ H D I hw =>
  wpAny_mono (h pins s σ H D (I.wish _) hw) (fun _ _ q => q.unwish) fun _ _ z => False.elim z
end

/-! ### blocks and small statements -/
section
variable {X : Cx} {st : Stmt} {rest : List Stmt} {t u : TS} {e : Expr} {te : TE} {pos : Pos}
def tNext : TS := fun D σ H => D.nx σ H
def tSeq (t u : TS) : TS := fun D σ H => t { D with nx := u D } σ H
theorem pss_nil : PSs X [] tNext := fun _ _ σ H _ I h => wpAny_execs_nil ⟨σ, H, I, h⟩
theorem pss_cons (h1 : PS X st t) (h2 : PSs X rest u) : PSs X (st :: rest) (tSeq t u) := by
  intro pins s σ H D I h
  refine wpAny_execs_cons (thn (h1 pins s σ H { D with nx := u D } I h) fun f s1 q => ?_)
  cases f with
  | next =>
    obtain ⟨σ', H', I', q⟩ := q
    exact h2 pins s1 σ' H' D I' q
  | ret v => exact q
  | brk => exact q
  | cont => exact q
theorem pss_one (h1 : PS X st t) : PSs X [st] t := by
  intro pins s σ H D I h
  refine wpAny_execs_cons (thn (h1 pins s σ H D I h) fun f s1 q => ?_)
  cases f with
  | next => exact wpAny_execs_nil q
  | ret v => exact q
  | brk => exact q
  | cont => exact q
/-- in a def's body nothing is shown -/
theorem Inv.quiet {pins : List (Addr × Obj)} {σ : St} {H : Hp} {s : Shared} (I : Inv X pins σ H s) : interactive X.env = false := by simp [interactive, I.ok.kind]
/-- an expression whose value is dropped -/
def tDrop (te : TE) : TS := fun D σ H => te σ H fun _ H1 => D.nx σ H1
theorem ps_expr (he : PE X e te) (hs : swapsWith e none pos.line X.env = pure false := by rfl) : PS X (.Expr e pos) (tDrop te) := by
  intro pins s σ H D I h
  exact wpAny_Expr_any (thn (he pins s σ H _ I h) fun v s1 ⟨x, H1, I1, r1, q1⟩ => ⟨σ, H1, I1, q1⟩) I.quiet hs
def tRet (te : TE) : TS := fun D σ H => te σ H D.rt
theorem ps_ret (he : PE X e te) : PS X (.Return (some e) pos) (tRet te) := by
  intro pins s σ H D I h
  exact wpAny_Return_some (thn (he pins s σ H _ I h) fun v s1 ⟨x, H1, I1, r1, q1⟩ => ⟨x, σ, H1, I1, r1, q1⟩)
def tIfS (c : TT) (t u : TS) : TS := fun D σ H => c σ H fun b H1 => if b = true then t D σ H1 else u D σ H1
theorem ps_if {c : Expr} {a b : List Stmt} {tc : TT} (hc : PT X c tc) (ha : PSs X a t) (hb : PSs X b u) : PS X (.If c a b pos) (tIfS tc t u) := by
  intro pins s σ H D I h
  refine wpAny_If (thn (hc pins s σ H _ I h) fun d s1 ⟨H1, I1, q1⟩ => ?_)
  cases d with
  | true => exact ha pins s1 σ H1 D I1 q1
  | false => exact hb pins s1 σ H1 D I1 q1
end

/-! ### targets -/
abbrev TG := V → St → Hp → (St → Hp → Prop) → Prop
abbrev TGs := List V → St → Hp → (St → Hp → Prop) → Prop
def PG (X : Cx) (target : Expr) (t : TG) : Prop :=
  ∀ (pins : List (Addr × Obj)) (s : Shared) (σ : St) (H : Hp) (v : V) (u : Value) (Q : St → Hp → Prop), Inv X pins σ H s → RelV v u → t v σ H Q →
    wpAny (model X.prog X.w) X.A (assign target X.env u) (fun _ s' => ∃ σ' H', Inv X pins σ' H' s' ∧ Q σ' H') X.xe s
/-- several targets, one after another -/
def PGs (X : Cx) (ts : List Expr) (t : TGs) : Prop :=
  ∀ (pins : List (Addr × Obj)) (s : Shared) (σ : St) (H : Hp) (vs : List V) (us : List Value) (Q : St → Hp → Prop), Inv X pins σ H s → Vals vs us → t vs σ H Q →
    wpAny (model X.prog X.w) X.A (assignInOrder ((assignEach ts X.env).map (·.2)) us) (fun _ s' => ∃ σ' H', Inv X pins σ' H' s' ∧ Q σ' H') X.xe s
/-- o[i] = v, by values -/
abbrev TSet := V → V → V → Hp → (Hp → Prop) → Prop
def PSet (X : Cx) (t : TSet) : Prop :=
  ∀ (pins : List (Addr × Obj)) (s : Shared) (σ : St) (H : Hp) (o i v : V) (ov iv u : Value) (Q : Hp → Prop), Inv X pins σ H s → RelV o ov → RelV i iv → RelV v u → t o i v H Q →
    wpAny (model X.prog X.w) X.A (setItem ov iv u) (fun _ s' => ∃ H', Inv X pins σ H' s' ∧ Q H') X.xe s
/-- a op= b, by values -/
abbrev TIp := V → V → Hp → VK → Prop
def PIp (X : Cx) (op : Operator) (t : TIp) : Prop :=
  ∀ (pins : List (Addr × Obj)) (s : Shared) (σ : St) (H : Hp) (x y : V) (v u : Value) (Q : VK), Inv X pins σ H s → RelV x v → RelV y u → t x y H Q →
    wpAny (model X.prog X.w) X.A (inplaceOp op v u) (EP X pins σ Q) X.xe s
section
variable {X : Cx} {pos : Pos}
def gName (i : Nat) : TG := fun v σ H Q => Q (σ.set i (some v)) H
theorem pg_name {i : Nat} {x : Str} (hN : X.N.Nodup) (hi : X.N[i]? = some x) (hx : Loc X.env.scope x) (hf : X.fn x = true ∨ X.env.scope.names.lookup x = some .local := by first | exact .inl rfl | exact .inr rfl | assumption) : PG X (.Name x pos) (gName i) := by
  intro pins s σ H v u Q I r h
  exact wpAny_assign_Name (store_ok I hN hi hx r (fun s' I' => ⟨_, H, I', h⟩) hf)
def gNil : TGs := fun vs σ H Q => vs = [] ∧ Q σ H
def gCons (t : TG) (u : TGs) : TGs := fun vs σ H Q => ∃ v r, vs = v :: r ∧ t v σ H fun σ' H' => u r σ' H' Q
theorem pgs_nil : PGs X [] gNil := by
  intro pins s σ H vs us Q I r h
  obtain ⟨e, h⟩ := h
  subst e
  cases r
  exact assignInOrder_nil ⟨σ, H, I, h⟩
theorem pgs_cons {e : Expr} {es : List Expr} {t : TG} {u : TGs} (h1 : PG X e t) (h2 : PGs X es u)
    (hs : (assignEach (e :: es) X.env).map (·.2) = assign e X.env :: (assignEach es X.env).map (·.2) := by rfl) : PGs X (e :: es) (gCons t u) := by
  intro pins s σ H vs us Q I r h
  obtain ⟨v, vr, e1, h⟩ := h
  subst e1
  cases r with
  | cons r rr =>
    rw [hs]
    refine assignInOrder_cons (thn (h1 pins s σ H _ _ _ I r h) fun _ s1 ⟨σ1, H1, I1, q1⟩ => ?_)
    exact h2 pins s1 σ1 H1 _ _ Q I1 rr q1
/-- (a, b, ..) = a tuple of that length -/
def gTup (K : PySem.W.Frag) (n : Nat) (t : TGs) : TG := fun v σ H Q => ∃ a xs, v = .ref a ∧ SqT K H a xs ∧ xs.length = n ∧ t xs σ H Q
theorem pg_tup {es : List Expr} {k : Nat} {t : TGs} {n : Nat} (hc : X.calm = true) (h : PGs X es t)
    (hn : (assignEach es X.env).length = n := by rfl) (hst : (assignEach es X.env).findIdx? (·.1) = none := by rfl) : PG X (.Tuple es k pos) (gTup X.K n t) := by
  intro pins s σ H v u Q I r hw
  obtain ⟨a, xs, e1, hq, hl, hw⟩ := hw
  subst e1
  cases r
  obtain ⟨its, rv, ht, hz⟩ := I.tuple hq
  refine assign_Tuple_tuple (I.ok.hd hc) ht (by simp [hn, ← hl, rv.length]) hst fun h' hx => ?_
  have I1 : Inv X pins σ H { s with heap := h' } := I.kept (t' := s.toks) fun b o e => hx b o (Nat.ne_of_lt (Heap.lt_size e)) e
  exact h pins _ σ H xs _ Q I1 (by simpa using rv) hw
/-- target = value -/
def tAsg (te : TE) (g : TG) : TS := fun D σ H => te σ H fun x H1 => g x σ H1 D.nx
/-- name = value -/
theorem ps_set {i : Nat} {x : Str} {e : Expr} {te : TE} {pos' : Pos} (hN : X.N.Nodup) (hi : X.N[i]? = some x) (hx : Loc X.env.scope x) (he : PE X e te) (hs : swapsWith e (some (.Name x pos')) pos.line X.env = pure false := by rfl) (hf : X.fn x = true ∨ X.env.scope.names.lookup x = some .local := by first | exact .inl rfl | exact .inr rfl | assumption) :
    PS X (.Assign [.Name x pos'] e pos) (tAsg te (gName i)) := by
  intro pins s σ H D I h
  refine wpAny_Assign_Name (thn (he pins s σ H _ I h) fun v s1 ⟨y, H1, I1, r1, q1⟩ => ?_) hs
  exact store_ok I1 hN hi hx r1 (fun s2 I2 => ⟨_, H1, I2, q1⟩) hf
end

/-! ### while -/
section
variable {X : Cx} {pos : Pos}
end

/-! ### what a loop or a comprehension walks -/
/-- at turn i: it yields x (the heap may grow), or it stops -/
structure It where
  go : Nat → Hp → Prop
  yld : Nat → Hp → V → Hp → Prop
  stop : Nat → Hp → Prop
/-- the iterator's own objects may turn: they are not the frame's, not pinned, younger than the entry (or a comprehension's own) -/
def FpOk (X : Cx) (pins : List (Addr × Obj)) (H : Hp) (b : Addr) : Prop :=
  H b = none ∧ b ≠ X.env.locals ∧ b ∉ X.fs ∧ (b ∈ X.ex ∨ X.s₀.heap.objs.size ≤ b) ∧ (∀ x c, X.env.cells.lookup x = some c → c ≠ b) ∧ ∀ p ∈ X.pn ++ pins, p.1 ≠ b
theorem Inv.fpOk {X : Cx} {pins : List (Addr × Obj)} {σ : St} {H H' : Hp} {s : Shared} {b : Addr} (I : Inv X pins σ H s) (hb : s.heap.objs.size ≤ b) (hn : H' b = none) : FpOk X pins H' b := by
  refine ⟨hn, Nat.ne_of_gt (Nat.lt_of_lt_of_le I.lt hb), I.nofs hb, .inr (Nat.le_trans I.sz hb), fun x c e z => ?_, fun p hp z => ?_⟩
  · obtain ⟨v, q⟩ := I.cell x c e
    exact absurd (Nat.lt_of_lt_of_le q.lt (by rw [z]; exact hb)) (Nat.lt_irrefl _)
  · exact absurd (Nat.lt_of_lt_of_le (Heap.lt_size (I.pin p hp).1) (by rw [z]; exact hb)) (Nat.lt_irrefl _)
structure Turn (P : Program) (w : World) (K : PySem.W.Frag) (tg : Expr) (J : It) (fp : List Addr) (it : Addr) (tn : Nat → Heap → Prop) : Prop where
  mem : it ∈ fp
  obj : ∀ i h, tn i h → ∀ b ∈ fp, ∃ o, h.get? b = some o ∧ ∀ v, o.data ≠ .cell v
  keep : ∀ i h h', tn i h → (∀ b ∈ fp, ∀ o, h.get? b = some o → h'.get? b = some o) → tn i h'
  item : ∀ (X : Cx), X.prog = P → X.w = w → X.K = K → X.calm = true → ∀ (i : Nat) (pins : List (Addr × Obj)) (s : Shared) (σ : St) (H : Hp) (E : Value → Shared → Prop), Inv X pins σ H s → (∀ b ∈ fp, FpOk X pins H b) → tn i s.heap → J.go i H →
    wpAny (model P w) X.A (pyNext (.ref it)) (fun r s1 => ∃ u, r = some u ∧
      wpAny (model P w) X.A (letOwnedTupleGo tg (.ref it) u) (fun _ s2 => ∃ x H', Inv X pins σ H' s2 ∧ RelV x u ∧ J.yld i H x H' ∧ tn (i + 1) s2.heap ∧ ∀ b ∈ fp, H' b = none) E s1) E s
  done : ∀ (X : Cx), X.prog = P → X.w = w → X.K = K → X.calm = true → ∀ (i : Nat) (pins : List (Addr × Obj)) (s : Shared) (σ : St) (H : Hp) (E : Value → Shared → Prop), Inv X pins σ H s → (∀ b ∈ fp, FpOk X pins H b) → tn i s.heap → J.stop i H →
    wpAny (model P w) X.A (pyNext (.ref it)) (fun r s1 => r = none ∧ Inv X pins σ H s1) E s
  self : ∀ (A : Around) (i : Nat) (s : Shared) (Q : Value → Shared → Prop) (E : Value → Shared → Prop), tn i s.heap → Q (.ref it) s → wpAny (model P w) A (pyIter (.ref it)) Q E s
abbrev TI := St → Hp → (It → Hp → Prop) → Prop
/-- an iterator has come -/
def PIE (X : Cx) (pins : List (Addr × Obj)) (σ : St) (tg : Expr) (R : It → Hp → Prop) (itv : Value) (s2 : Shared) : Prop :=
  ∃ (it : Addr) (fp : List Addr) (tn : Nat → Heap → Prop) (J : It) (H' : Hp), itv = .ref it ∧ Inv X pins σ H' s2 ∧ Turn X.prog X.w X.K tg J fp it tn ∧ tn 0 s2.heap ∧ (∀ b ∈ fp, FpOk X pins H' b) ∧ R J H'
def PI (X : Cx) (tg iter : Expr) (wi : TI) : Prop :=
  ∀ (pins : List (Addr × Obj)) (s : Shared) (σ : St) (H : Hp) (R : It → Hp → Prop), Inv X pins σ H s → wi σ H R →
    wpAny (model X.prog X.w) X.A (eval iter X.env) (fun v s1 => wpAny (model X.prog X.w) X.A (pyIter v) (PIE X pins σ tg R) X.xe s1) X.xe s

/-- the step ahead of the store is nothing for an iterator that keeps no tuple -/
theorem go_of {M : Model} {A : Around} {E : Value → Shared → Prop} {s : Shared} {tg : Expr} {it : Addr} {u : Value} {o : Obj} {n : String} {vs : Array Value} {Q : Unit → Shared → Prop} (ho : s.heap.get? it = some o) (hc : o.cls = .type n) (hd : o.data = .fields vs)
    (hn : ["enumerate", "zip", "dict_itemiterator", "dict_reverseitemiterator", "odict_iterator", "itertools.zip_longest", "itertools.pairwise"].contains n = false) (hQ : Q () s) : wpAny M A (letOwnedTupleGo tg (.ref it) u) Q E s := by
  unfold letOwnedTupleGo
  cases tg <;> first
    | exact wpAny_pure hQ
    | (cases u <;> first
        | exact wpAny_pure hQ
        | (refine wpAny_bind (wpAny_load ho ?_)
           rw [hc, hd]
           show wpAny M A (if (["enumerate", "zip", "dict_itemiterator", "dict_reverseitemiterator", "odict_iterator", "itertools.zip_longest", "itertools.pairwise"].contains n && vs[0]? == some (rawInt _)) = true then _ else _) Q E s
           rw [if_neg (by intro h; rw [hn, Bool.false_and] at h; cases h)]
           exact wpAny_pure hQ))

/-- the list at a, as it stands at each turn (a loop may append to it) -/
def Itl (K : PySem.W.Frag) (a : Addr) : It :=
  ⟨fun i H => ∃ xs x, SqL K H a xs ∧ xs[i]? = some x, fun i H x H' => H' = H ∧ ∀ xs, SqL K H a xs → xs[i]? = some x, fun i H => ∃ xs, SqL K H a xs ∧ xs.length ≤ i⟩
/-- lo, lo + 1, .. (n of them) -/
def Itr (lo : Int) (n : Nat) : It := ⟨fun i _ => i < n, fun i H x H' => H' = H ∧ x = .int (lo + i), fun i _ => n ≤ i⟩
theorem turn_list {P : Program} {w : World} {K : PySem.W.Frag} {tg : Expr} (a it : Addr) : Turn P w K tg (Itl K a) [it] it (fun i h => h.IsListIter it a i) where
  mem := by simp
  obj := fun i h st b hb => by
    have e : b = it := by simpa using hb
    subst e
    obtain ⟨o, e, c, d⟩ := st
    exact ⟨o, e, fun v z => by rw [d] at z; cases z⟩
  keep := fun i h h' st k => st.at fun o e => k it (by simp) o e
  item := by
    intro X hP hw hK hc i pins s σ H E I hf st hg
    subst hP hw hK
    obtain ⟨xs, x, hq, hx⟩ := hg
    obtain ⟨its, rv, p, hz⟩ := I.list hq
    obtain ⟨u, hu, ru⟩ := rv.get hx
    obtain ⟨f0, f1, f2, f3, f4, f5⟩ := hf it (by simp)
    refine wpAny_pyNext_list_item st p.isList (x := u) (by simpa using hu) fun h' st' sb => ?_
    have I1 : Inv X pins σ H { s with heap := h' } := I.turned (t' := s.toks) (fun b o hb e => (sb.2 b hb).trans e) f0 f1 f3 f4 f5
    obtain ⟨o, e, c, d⟩ := id st'
    exact ⟨u, rfl, go_of (s := { s with heap := h' }) e c d (by decide) ⟨x, H, I1, ru, ⟨rfl, fun ys hy => by rw [I.list_inj hy hq]; exact hx⟩, st', fun b hb => (hf b hb).1⟩⟩
  done := by
    intro X hP hw hK hc i pins s σ H E I hf st hg
    subst hP hw hK
    obtain ⟨xs, hq, hx⟩ := hg
    obtain ⟨its, rv, p, hz⟩ := I.list hq
    obtain ⟨f0, f1, f2, f3, f4, f5⟩ := hf it (by simp)
    have hl := rv.length
    exact wpAny_pyNext_list_end (I.ok.hd hc) st p.isList (by simp; omega) fun h' eb => ⟨rfl, I.turned (t' := s.toks) (fun b o hb e => eb b o hb e) f0 f1 f3 f4 f5⟩
  self := fun _ _ _ _ _ st h => wpAny_pyIter_listiter st h
theorem turn_range {P : Program} {w : World} {K : PySem.W.Frag} {tg : Expr} (it : Addr) (lo : Int) (n : Nat) : Turn P w K tg (Itr lo n) [it] it (fun i h => IsRangeIter h it (lo + (i : Nat) * 1) ((n : Int) - (i : Nat)) 1) where
  mem := by simp
  obj := fun i h st b hb => by
    have e : b = it := by simpa using hb
    subst e
    exact ⟨_, st, fun v z => by
      have z' : Data.fields _ = Data.cell v := z
      cases z'⟩
  keep := fun i h h' st k => k it (by simp) _ st
  item := by
    intro X hP hw hK hc i pins s σ H E I hf st hg
    subst hP hw hK
    obtain ⟨f0, f1, f2, f3, f4, f5⟩ := hf it (by simp)
    have W := Walks.range (prog := X.prog) (w := X.w) (I.ok.hd hc) it lo 1 n
    refine W.item i s _ _ hg st fun v h' tk hv st' kk => ?_
    obtain ⟨t, rfl⟩ := hv
    have I1 : Inv X pins σ H { s with heap := h', toks := tk } := I.turned (fun b o hb e => kk b o (by simpa using hb) e) f0 f1 f3 f4 f5
    refine ⟨_, rfl, go_of (s := { s with heap := h', toks := tk }) (n := "range_iterator") st' rfl rfl (by decide) ⟨.int (lo + i), H, I1, ⟨t, ?_⟩, ⟨rfl, rfl⟩, st', fun b hb => (hf b hb).1⟩⟩
    rw [Int.mul_one]
  done := by
    intro X hP hw hK hc i pins s σ H E I hf st hg
    subst hP hw hK
    obtain ⟨f0, f1, f2, f3, f4, f5⟩ := hf it (by simp)
    exact wpAny_pyNext_range_end (I.ok.hd hc) st (by have : n ≤ i := hg; omega) fun h' eb => ⟨rfl, I.turned (t' := s.toks) (fun b o hb e => eb b o hb e) f0 f1 f3 f4 f5⟩
  self := fun _ _ _ _ _ st h => wpAny_pyIter_rangeiter st h
end L2

namespace L2
open PySem PySem.Spec PyProof.Rows
section
variable {X : Cx} {tg : Expr}
def iList (K : PySem.W.Frag) (tl : TE) : TI := fun σ H R => tl σ H fun x H1 => ∃ a, x = .ref a ∧ (∃ xs, SqL K H1 a xs) ∧ R (Itl K a) H1
theorem pi_list {l : Expr} {tl : TE} (hl : PE X l tl) : PI X tg l (iList X.K tl) := by
  intro pins s σ H R I h
  refine thn (hl pins s σ H _ I h) fun v s1 ⟨x, H1, I1, r1, q1⟩ => ?_
  obtain ⟨a, e, ⟨xs, hq⟩, q⟩ := q1
  subst e
  cases r1
  obtain ⟨its, rv, p, hz⟩ := I1.list hq
  refine wpAny_pyIter_list p.isList ?_
  refine ⟨s1.heap.objs.size, [s1.heap.objs.size], _, _, H1, rfl, I1.kept (t' := s1.toks) fun b o e => Heap.get?_push_of_some _ e, turn_list a _, ⟨_, Heap.get?_push_size _ rfl, rfl, rfl⟩, fun b hb => ?_, q⟩
  have e : b = s1.heap.objs.size := by simpa using hb
  subst e
  exact I1.fpOk (Nat.le_refl _) (I1.hok.fresh (Nat.le_refl _))
/-- a range object just made, walked -/
theorem range_it {pins : List (Addr × Obj)} {σ : St} {H : Hp} {s : Shared} {R : It → Hp → Prop} {E : Value → Shared → Prop} {lo hi : Int} {t u v : Tok} {tk : Nat} (I : Inv X pins σ H s) (h1 : -(2 ^ 62) ≤ lo) (h2 : lo < 2 ^ 62) (h3 : -(2 ^ 62) ≤ hi) (h4 : hi < 2 ^ 62)
    (q : R (Itr lo (hi - lo).toNat) H) : wpAny (model X.prog X.w) X.A (pyIter (.ref s.heap.objs.size)) (PIE X pins σ tg R) E { s with heap := s.heap.push { cls := .type "range", data := .fields #[.int lo t, .int hi u, .int 1 v] }, toks := tk } := by
  refine wpAny_pyIter_range (IsRange.new ..) (small_one h1 h2 h3 h4) ?_
  have I1 : Inv X pins σ H { s with heap := s.heap.push { cls := .type "range", data := .fields #[.int lo t, .int hi u, .int 1 v] }, toks := tk } := I.kept fun b o e => Heap.get?_push_of_some _ e
  refine ⟨(s.heap.push { cls := .type "range", data := .fields #[.int lo t, .int hi u, .int 1 v] }).objs.size, [(s.heap.push { cls := .type "range", data := .fields #[.int lo t, .int hi u, .int 1 v] }).objs.size], _, _, H, rfl,
    I1.kept (t' := tk) fun b o e => Heap.get?_push_of_some _ e, turn_range _ lo (hi - lo).toNat, ?_, fun b hb => ?_, q⟩
  · have e1 : lo + ((0 : Nat) : Int) * 1 = lo := by simp
    have e2 : (((hi - lo).toNat : Nat) : Int) - ((0 : Nat) : Int) = Builtin.Range.rangeSize lo hi 1 := by rw [rangeSize_one]; split <;> omega
    show IsRangeIter _ _ (lo + ((0 : Nat) : Int) * 1) ((((hi - lo).toNat : Nat) : Int) - ((0 : Nat) : Int)) 1
    rw [e1, e2]
    exact Heap.get?_push_size _ rfl
  · have e : b = (s.heap.push { cls := .type "range", data := .fields #[.int lo t, .int hi u, .int 1 v] }).objs.size := by simpa using hb
    subst e
    exact I1.fpOk (Nat.le_refl _) (I1.hok.fresh (Nat.le_refl _))
def iRng2 (ta : TA) : TI := fun σ H R => ta σ H fun vs H1 => ∃ i j : Int, vs = [.int i, .int j] ∧ (-(2 ^ 62) ≤ i ∧ i < 2 ^ 62 ∧ -(2 ^ 62) ≤ j ∧ j < 2 ^ 62) ∧ R (Itr i (j - i).toNat) H1
theorem pi_range2 {a b : Expr} {ta : TA} {p pos : Pos} (hg : Gl X "range") (hm : X.mg "range" = none) (ha : PA X [a, b] ta) (hs : starEach [a, b] X.env = [(false, eval a X.env), (false, eval b X.env)] := by rfl) (hs2 : starEach [b] X.env = [(false, eval b X.env)] := by rfl) :
    PI X tg (.Call (.Name "range" p) [a, b] [] pos) (iRng2 ta) := by
  intro pins s σ H R I h
  refine Call_ (ld_blt I hg hm boot_range (PyProof.Rows.callWith_type1 (thn (ha pos pins s σ H _ I h) fun us s1 ⟨vs, H1, I1, r1, q1⟩ => ?_) (by rw [hs, hs2]) (by rw [hs2]; rfl)))
  obtain ⟨i, j, e, ⟨q1, q2, q3, q4⟩, q⟩ := q1
  subst e
  cases r1 with
  | cons r rr =>
    cases rr with
    | cons r' rr =>
      cases rr
      obtain ⟨t, rfl⟩ := r
      obtain ⟨t', rfl⟩ := r'
      exact call_range_2 (range_it I1 q1 q2 q3 q4 q)

/-! ### for -/
/-- W: the invariant by the turn and a measure; N: what the body is to reach -/
def tFor (wi : TI) (g : TG) (tb : TS) : TS := fun D σ H => wi σ H fun J H1 => ∃ W : Nat → Nat → St → Hp → Prop, (∃ m, W 0 m σ H1) ∧ ∀ i m σ H, W i m σ H →
  (J.stop i H ∧ D.nx σ H) ∨ (J.go i H ∧ ∃ N : St → Hp → Prop, (∀ σ' H', N σ' H' → ∃ m', m' < m ∧ W (i + 1) m' σ' H') ∧ ∀ x H', J.yld i H x H' → g x σ H' fun σ2 H2 => tb { D with nx := N, ct := N, bk := D.nx } σ2 H2)
/-- the records at fp as they stand -/
def pinsAt (fp : List Addr) (h : Heap) : List (Addr × Obj) := fp.filterMap fun b => (h.get? b).map fun o => (b, o)
theorem mem_pinsAt {fp : List Addr} {h : Heap} {b : Addr} {o : Obj} (hb : b ∈ fp) (e : h.get? b = some o) : (b, o) ∈ pinsAt fp h := List.mem_filterMap.mpr ⟨b, hb, by rw [e]; rfl⟩
theorem of_pinsAt {fp : List Addr} {h : Heap} {p : Addr × Obj} (hp : p ∈ pinsAt fp h) : p.1 ∈ fp ∧ h.get? p.1 = some p.2 := by
  obtain ⟨b, hb, e⟩ := List.mem_filterMap.mp hp
  cases q : h.get? b with
  | none => rw [q] at e; cases e
  | some o =>
    rw [q] at e
    have e' : (b, o) = p := Option.some.inj e
    subst e'
    exact ⟨hb, q⟩
theorem Inv.pinned {pins : List (Addr × Obj)} {σ : St} {H : Hp} {s : Shared} {fp : List Addr} (I : Inv X pins σ H s) (hf : ∀ b ∈ fp, FpOk X pins H b) (ho : ∀ b ∈ fp, ∃ o, s.heap.get? b = some o ∧ ∀ v, o.data ≠ .cell v) : Inv X (pins ++ pinsAt fp s.heap) σ H s :=
  I.pins_of fun p hp => (List.mem_append.mp hp).elim (fun z => I.pin p (List.mem_append_right _ z)) fun z => by
    obtain ⟨hb, e⟩ := of_pinsAt z
    obtain ⟨f0, f1, f2, _⟩ := hf p.1 hb
    obtain ⟨o, e', d⟩ := ho p.1 hb
    rw [e] at e'; cases e'
    exact ⟨e, f0, f1, f2, d⟩
theorem Inv.unpinned {pins pl : List (Addr × Obj)} {σ : St} {H : Hp} {s : Shared} (I : Inv X (pins ++ pl) σ H s) : Inv X pins σ H s := I.pins_of fun p hp => I.pin p (List.mem_append_right _ (List.mem_append_left _ hp))
theorem ps_for {iter : Expr} {body : List Stmt} {wi : TI} {g : TG} {tb : TS} {pos : Pos} (hp : PassesOwn (model X.prog X.w) X.A X.env X.xe) (hc : X.calm = true) (hi : PI X tg iter wi) (hg : PG X tg g) (hb : PSs X body tb)
    (hs : ∀ x, foldedSetIterable iter X.env x = pure x := by intro _; rfl) : PS X (.For tg iter body [] pos) (tFor wi g tb) := by
  intro pins s σ H D I h
  refine wpAny_For (thn (hi pins s σ H _ I h) fun v s1 h1 => thn h1 fun itv s2 h2 => ?_) hs
  obtain ⟨it, fp, tn, J, H2, e, I2, T, st2, f2, W, ⟨m0, w0⟩, turn⟩ := h2
  subst e
  -- what stays true of the iterator's objects through the loop
  have stat : ∀ {H' : Hp}, (∀ b ∈ fp, H' b = none) → ∀ b ∈ fp, FpOk X pins H' b := fun hn b hb => ⟨hn b hb, (f2 b hb).2⟩
  refine codeAny_forLoop_any (fun n s' => ∃ i σ' H', Inv X pins σ' H' s' ∧ tn i s'.heap ∧ (∀ b ∈ fp, H' b = none) ∧ W i n σ' H') ?_ m0 ⟨0, σ, H2, I2, st2, fun b hb => (f2 b hb).1, w0⟩
  rintro n s3 ⟨i, σ3, H3, I3, st3, fr3, w3⟩
  rcases turn i n σ3 H3 w3 with ⟨stop, qn⟩ | ⟨go, N, hN, step⟩
  · refine wpAny_passesOwn hp (thn (T.done X rfl rfl rfl hc i pins s3 σ3 H3 X.xe I3 (stat fr3) st3 stop) fun r s4 ⟨hr, I4⟩ => ?_)
    subst hr
    exact wpAny_execs_nil ⟨σ3, H3, I4, qn⟩
  · refine wpAny_passesOwn hp (thn (T.item X rfl rfl rfl hc i pins s3 σ3 H3 X.xe I3 (stat fr3) st3 go) fun r s4 ⟨u, hr, h4⟩ => ?_)
    subst hr
    refine wpAny_passesOwn hp (thn h4 fun _ s5 ⟨x, H5, I5, r5, y5, st5, fr5⟩ => ?_)
    have I5' := I5.pinned (stat fr5) (T.obj _ _ st5)
    refine wpAny_passesOwn hp (thn (hg _ s5 σ3 H5 x u _ I5' r5 (step x H5 y5)) fun _ s6 ⟨σ6, H6, I6, q6⟩ => ?_)
    refine wpAny_passesOwn hp (thn (hb _ s6 σ6 H6 _ I6 q6) fun f s7 q7 => ?_)
    have again : ∀ {σ7 : St} {H7 : Hp}, Inv X (pins ++ pinsAt fp s5.heap) σ7 H7 s7 → N σ7 H7 → ∃ m, m < n ∧ ∃ i σ' H', Inv X pins σ' H' s7 ∧ tn i s7.heap ∧ (∀ b ∈ fp, H' b = none) ∧ W i m σ' H' := fun {σ7 H7} I7 n7 => by
      obtain ⟨m', hm, w7⟩ := hN σ7 H7 n7
      refine ⟨m', hm, i + 1, σ7, H7, I7.unpinned, T.keep _ _ _ st5 fun b hb o e => (I7.pin (b, o) (List.mem_append_right _ (List.mem_append_right _ (mem_pinsAt hb e)))).1, fun b hb => ?_, w7⟩
      obtain ⟨o, e, d⟩ := T.obj _ _ st5 b hb
      exact (I7.pin (b, o) (List.mem_append_right _ (List.mem_append_right _ (mem_pinsAt hb e)))).2.1
    cases f with
    | next => obtain ⟨σ7, H7, I7, n7⟩ := q7; exact again I7 n7
    | cont => obtain ⟨σ7, H7, I7, n7⟩ := q7; exact again I7 n7
    | brk => obtain ⟨σ7, H7, I7, q7⟩ := q7; exact ⟨σ7, H7, I7.unpinned, q7⟩
    | ret v => obtain ⟨x7, σ7, H7, I7, r7, q7⟩ := q7; exact ⟨x7, σ7, H7, I7.unpinned, r7, q7⟩
end

/-! ### the forms one uses -/
theorem for_range {lo : Int} {n : Nat} {g : TG} {tb : TS} {D : Ends} {σ : St} {H : Hp} (Pv : Nat → St → Hp → Prop) (h0 : Pv 0 σ H)
    (hs : ∀ i σ H, i < n → Pv i σ H → g (.int (lo + i)) σ H fun σ2 H2 => tb { D with nx := Pv (i + 1), ct := Pv (i + 1), bk := D.nx } σ2 H2) (hd : ∀ σ H, Pv n σ H → D.nx σ H) :
    ∃ W : Nat → Nat → St → Hp → Prop, (∃ m, W 0 m σ H) ∧ ∀ i m σ H, W i m σ H →
      ((Itr lo n).stop i H ∧ D.nx σ H) ∨ ((Itr lo n).go i H ∧ ∃ N : St → Hp → Prop, (∀ σ' H', N σ' H' → ∃ m', m' < m ∧ W (i + 1) m' σ' H') ∧ ∀ x H', (Itr lo n).yld i H x H' → g x σ H' fun σ2 H2 => tb { D with nx := N, ct := N, bk := D.nx } σ2 H2) := by
  refine ⟨fun i m σ H => m = n - i ∧ i ≤ n ∧ Pv i σ H, ⟨n, by simp, Nat.zero_le _, h0⟩, ?_⟩
  rintro i m σ H ⟨rfl, hi, p⟩
  by_cases hlt : i < n
  · refine .inr ⟨hlt, Pv (i + 1), fun σ' H' p' => ⟨n - (i + 1), by omega, rfl, hlt, p'⟩, fun x H' y => ?_⟩
    obtain ⟨e, y⟩ := y
    subst e y
    exact hs i σ _ hlt p
  · have e : i = n := by omega
    subst e
    exact .inl ⟨Nat.le_refl _, hd σ H p⟩
end L2

namespace L2
open PySem PySem.Spec PyProof.Rows

abbrev R2 := V → V → Hp → VK → Prop
/-- a two-place operation on values: f is binaryOp op, inplaceOp op or compareOp op -/
def OpR (X : Cx) (f : Value → Value → Sem Value) (r : R2) : Prop :=
  ∀ (pins : List (Addr × Obj)) (s : Shared) (σ : St) (H : Hp) (x y : V) (v u : Value) (Q : VK), Inv X pins σ H s → RelV x v → RelV y u → r x y H Q →
    wpAny (model X.prog X.w) X.A (f v u) (EP X pins σ Q) X.xe s
/-- a one-place operation -/
def UnR (X : Cx) (f : Value → Sem Value) (r : V → Hp → VK → Prop) : Prop :=
  ∀ (pins : List (Addr × Obj)) (s : Shared) (σ : St) (H : Hp) (x : V) (v : Value) (Q : VK), Inv X pins σ H s → RelV x v → r x H Q →
    wpAny (model X.prog X.w) X.A (f v) (EP X pins σ Q) X.xe s
/-- a call of a value that is known (a builtin, a type) with values -/
def CallR (X : Cx) (f : Value) (r : List V → Hp → VK → Prop) : Prop :=
  ∀ (pins : List (Addr × Obj)) (s : Shared) (σ : St) (H : Hp) (xs : List V) (us : List Value) (Q : VK), Inv X pins σ H s → Vals xs us → r xs H Q →
    wpAny (model X.prog X.w) X.A (call f us) (EP X pins σ Q) X.xe s
def tOp (r : R2) (ta tb : TE) : TE := fun σ H Q => ta σ H fun x H1 => tb σ H1 fun y H2 => r x y H2 Q
/-- ints in, under C, and a value out -/
def rI (C : Int → Int → Prop) (g : Int → Int → V) : R2 := fun x y H Q => ∃ i j, x = .int i ∧ y = .int j ∧ C i j ∧ Q (g i j) H
def rI0 (g : Int → Int → V) : R2 := fun x y H Q => ∃ i j, x = .int i ∧ y = .int j ∧ Q (g i j) H
section
variable {X : Cx} {a b c : Expr} {ta tb tc : TE} {pos : Pos}

theorem binT (ha : PE X a ta) (hb : PE X b tb) {pins : List (Addr × Obj)} {s : Shared} {σ : St} {H : Hp} {R : V → V → Hp → Prop} (I : Inv X pins σ H s)
    (h : ta σ H fun x H1 => tb σ H1 fun y H2 => R x y H2) {Q : Value → Shared → Prop} {f : Value → Value → Sem Value}
    (hf : ∀ v u s2 x y H2, Inv X pins σ H2 s2 → RelV x v → RelV y u → R x y H2 → wpAny (model X.prog X.w) X.A (f v u) Q X.xe s2) :
    wpAny (model X.prog X.w) X.A (eval a X.env) (fun v s₁ => wpAny (model X.prog X.w) X.A (eval b X.env) (fun u s₂ => wpAny (model X.prog X.w) X.A (f v u) Q X.xe s₂) X.xe s₁) X.xe s := by
  refine thn (ha pins s σ H _ I h) fun v s1 ⟨x, H1, I1, r1, q1⟩ => ?_
  refine thn (hb pins s1 σ H1 _ I1 q1) fun u s2 ⟨y, H2, I2, r2, q2⟩ => ?_
  exact hf v u s2 x y H2 I2 r1 r2 q2

theorem pe_op {op : Operator} {r : R2} (ho : OpR X (binaryOp op) r) (ha : PE X a ta) (hb : PE X b tb) : PE X (.BinOp a op b pos) (tOp r ta tb) := by
  intro pins s σ H Q I h
  exact wpAny_BinOp (binT ha hb I h fun v u s2 x y H2 I2 rx ry q => ho pins s2 σ H2 x y v u Q I2 rx ry q)
/-! ### ints -/
theorem opI {f : Value → Value → Sem Value} {C : Int → Int → Prop} {g : Int → Int → Int}
    (rule : ∀ (i j : Int) (t u : Tok) (s : Shared) (Q : Value → Shared → Prop) (E : Value → Shared → Prop), C i j → Q (.int (g i j) s.toks) { s with toks := s.toks + 1 } → wpAny (model X.prog X.w) X.A (f (.int i t) (.int j u)) Q E s) :
    OpR X f (rI C fun i j => .int (g i j)) := by
  intro pins s σ H x y v u Q I rx ry h
  obtain ⟨i, j, rfl, rfl, hc, q⟩ := h
  obtain ⟨t, rfl⟩ := rx
  obtain ⟨t', rfl⟩ := ry
  exact rule i j t t' s _ _ hc ⟨.int (g i j), H, I.tok _, ⟨_, rfl⟩, q⟩
theorem opI0 {f : Value → Value → Sem Value} {g : Int → Int → Int}
    (rule : ∀ (i j : Int) (t u : Tok) (s : Shared) (Q : Value → Shared → Prop) (E : Value → Shared → Prop), Q (.int (g i j) s.toks) { s with toks := s.toks + 1 } → wpAny (model X.prog X.w) X.A (f (.int i t) (.int j u)) Q E s) :
    OpR X f (rI0 fun i j => .int (g i j)) := by
  intro pins s σ H x y v u Q I rx ry h
  obtain ⟨i, j, rfl, rfl, q⟩ := h
  obtain ⟨t, rfl⟩ := rx
  obtain ⟨t', rfl⟩ := ry
  exact rule i j t t' s _ _ ⟨.int (g i j), H, I.tok _, ⟨_, rfl⟩, q⟩
theorem opB0 {f : Value → Value → Sem Value} {g : Int → Int → Bool}
    (rule : ∀ (i j : Int) (t u : Tok) (s : Shared) (Q : Value → Shared → Prop) (E : Value → Shared → Prop), Q (.bool (g i j)) s → wpAny (model X.prog X.w) X.A (f (.int i t) (.int j u)) Q E s) :
    OpR X f (rI0 fun i j => .bl (g i j)) := by
  intro pins s σ H x y v u Q I rx ry h
  obtain ⟨i, j, rfl, rfl, q⟩ := h
  obtain ⟨t, rfl⟩ := rx
  obtain ⟨t', rfl⟩ := ry
  exact rule i j t t' s _ _ ⟨.bl (g i j), H, I, rfl, q⟩

def CDiv (i j : Int) : Prop := 0 < j ∧ j < 1073741824
def CMul (i j : Int) : Prop := (-(2 ^ 64) < i ∧ i < 2 ^ 64) ∨ (-(2 ^ 64) < j ∧ j < 2 ^ 64)
theorem CMul.ok {i j : Int} (h : CMul i j) : IntMulOk i j := by
  rcases h with ⟨h1, h2⟩ | ⟨h1, h2⟩
  · exact .of_left (intBits_le_64 h1 h2)
  · exact .of_right (intBits_le_64 h1 h2)
theorem op_add : OpR X (binaryOp .Add) (rI0 fun i j => .int (i + j)) := opI0 fun _ _ _ _ _ _ _ q => add_int q
theorem op_sub : OpR X (binaryOp .Sub) (rI0 fun i j => .int (i - j)) := opI0 fun _ _ _ _ _ _ _ q => sub_int q
theorem op_mul : OpR X (binaryOp .Mult) (rI CMul fun i j => .int (i * j)) := opI fun _ _ _ _ _ _ _ hc q => mul_int q hc.ok
/-- // by a positive divisor -/
theorem op_fdiv : OpR X (binaryOp .FloorDiv) (rI CDiv fun i j => .int (i / j)) := opI fun i j _ _ _ _ _ hc q => by
  have h1 : (0 : Int) < j := hc.1
  have h2 : j < 1073741824 := hc.2
  exact floordiv_int (by omega) (by rw [Int.fdiv_eq_ediv_of_nonneg i (by omega)]; exact q) (.inl (PyProof.noPylong_small (by omega)))
/-- % by a positive divisor of any size -/
theorem op_mod : OpR X (binaryOp .Mod) (rI (fun _ j => 0 < j) fun i j => .int (i % j)) := opI fun i j _ _ _ _ _ hc q => by
  have h1 : (0 : Int) < j := hc
  exact mod_int' (by omega) (by rw [Int.fmod_eq_emod_of_nonneg i (by omega)]; exact q)
/-! ### bools among ints: n += (a < b) -/
end

/-! ### comparisons -/
/-- the scalars that == tells apart as data does -/
def scal : V → V → Bool
  | .non, .non => true | .non, .int _ => true | .int _, .non => true | .non, .bl _ => true | .bl _, .non => true | .non, .str _ => true | .str _, .non => true
  | .int _, .int _ => true | .bl _, .bl _ => true | .str _, .str _ => true | .byt _, .byt _ => true
  | .int _, .str _ => true | .str _, .int _ => true | .bl _, .str _ => true | .str _, .bl _ => true
  | _, _ => false
def rEq : R2 := fun x y H Q => scal x y = true ∧ Q (.bl (decide (x = y))) H
def rNe : R2 := fun x y H Q => scal x y = true ∧ Q (.bl (!decide (x = y))) H

theorem dec_int {i j : Int} : decide (V.int i = V.int j) = (i == j) := by
  rw [Bool.eq_iff_iff]
  simp
theorem dec_bl {i j : Bool} : decide (V.bl i = V.bl j) = (i == j) := by
  rw [Bool.eq_iff_iff]
  simp
theorem dec_str {i j : Str} : decide (V.str i = V.str j) = (i == j) := by
  rw [Bool.eq_iff_iff]
  simp
theorem dec_byt {i j : Array UInt8} : decide (V.byt i = V.byt j) = (i.toList == j.toList) := by
  rw [Bool.eq_iff_iff]
  cases i
  cases j
  simp

section
variable {X : Cx} {a b c : Expr} {ta tb tc : TE} {pos : Pos}
theorem fin_bl {pins : List (Addr × Obj)} {σ : St} {H : Hp} {s : Shared} {Q : VK} {k k' : Bool} (I : Inv X pins σ H s) (q : Q (.bl k) H) (e : k = k') : EP X pins σ Q (.bool k') s := by
  subst e
  exact ⟨.bl k, H, I, rfl, q⟩
theorem op_eq : OpR X (compareOp .Eq) rEq := by
  intro pins s σ H x y v u Q I rx ry h
  obtain ⟨hs, q⟩ := h
  cases x with
  | non =>
    cases rx
    cases y with
    | non => cases ry; exact PySem.EqNone.eq_none_none (fin_bl I q (by simp))
    | bl j => cases ry; exact PySem.EqNone.eq_none_bool (fin_bl I q (by simp))
    | int j => obtain ⟨t', rfl⟩ := ry; exact PySem.EqNone.eq_none_int (fin_bl I q (by simp))
    | str j => obtain ⟨t', rfl⟩ := ry; exact PySem.EqNone.eq_none_str (fin_bl I q (by simp))
    | _ => exact absurd (show false = true from hs) Bool.false_ne_true
  | bl i =>
    cases rx
    cases y with
    | non => cases ry; exact PySem.EqNone.eq_bool_none (fin_bl I q (by simp))
    | bl j => cases ry; exact eq_bool (fin_bl I q dec_bl)
    | str j => obtain ⟨t', rfl⟩ := ry; exact PySem.EqMixed.eq_bool_str (fin_bl I q (by simp))
    | _ => exact absurd (show false = true from hs) Bool.false_ne_true
  | int i =>
    obtain ⟨t, rfl⟩ := rx
    cases y with
    | non => cases ry; exact PySem.EqNone.eq_int_none (fin_bl I q (by simp))
    | int j => obtain ⟨t', rfl⟩ := ry; exact eq_int (fin_bl I q dec_int)
    | str j => obtain ⟨t', rfl⟩ := ry; exact PySem.EqMixed.eq_int_str (fin_bl I q (by simp))
    | _ => exact absurd (show false = true from hs) Bool.false_ne_true
  | str i =>
    obtain ⟨t, rfl⟩ := rx
    cases y with
    | non => cases ry; exact PySem.EqNone.eq_str_none (fin_bl I q (by simp))
    | bl j => cases ry; exact PySem.EqMixed.eq_str_bool (fin_bl I q (by simp))
    | int j => obtain ⟨t', rfl⟩ := ry; exact PySem.EqMixed.eq_str_int (fin_bl I q (by simp))
    | str j => obtain ⟨t', rfl⟩ := ry; exact eq_str (fin_bl I q dec_str)
    | _ => exact absurd (show false = true from hs) Bool.false_ne_true
  | byt i =>
    obtain ⟨t, rfl⟩ := rx
    cases y with
    | byt j => obtain ⟨t', rfl⟩ := ry; exact PySem.W.eq_bytes (fin_bl I q dec_byt)
    | _ => exact absurd (show false = true from hs) Bool.false_ne_true
  | _ => cases y <;> exact absurd (show false = true from hs) Bool.false_ne_true
theorem op_ne : OpR X (compareOp .NotEq) rNe := by
  intro pins s σ H x y v u Q I rx ry h
  obtain ⟨hs, q⟩ := h
  cases x with
  | non =>
    cases rx
    cases y with
    | non => cases ry; exact PySem.EqNone.ne_none_none (fin_bl I q (by simp))
    | bl j => cases ry; exact PySem.EqNone.ne_none_bool (fin_bl I q (by simp))
    | int j => obtain ⟨t', rfl⟩ := ry; exact PySem.EqNone.ne_none_int (fin_bl I q (by simp))
    | str j => obtain ⟨t', rfl⟩ := ry; exact PySem.EqNone.ne_none_str (fin_bl I q (by simp))
    | _ => exact absurd (show false = true from hs) Bool.false_ne_true
  | bl i =>
    cases rx
    cases y with
    | non => cases ry; exact PySem.EqNone.ne_bool_none (fin_bl I q (by simp))
    | bl j => cases ry; exact ne_bool (fin_bl I q (congrArg not dec_bl))
    | str j => obtain ⟨t', rfl⟩ := ry; exact PySem.EqMixed.ne_bool_str (fin_bl I q (by simp))
    | _ => exact absurd (show false = true from hs) Bool.false_ne_true
  | int i =>
    obtain ⟨t, rfl⟩ := rx
    cases y with
    | non => cases ry; exact PySem.EqNone.ne_int_none (fin_bl I q (by simp))
    | int j => obtain ⟨t', rfl⟩ := ry; exact ne_int (fin_bl I q (congrArg not dec_int))
    | str j => obtain ⟨t', rfl⟩ := ry; exact PySem.EqMixed.ne_int_str (fin_bl I q (by simp))
    | _ => exact absurd (show false = true from hs) Bool.false_ne_true
  | str i =>
    obtain ⟨t, rfl⟩ := rx
    cases y with
    | non => cases ry; exact PySem.EqNone.ne_str_none (fin_bl I q (by simp))
    | bl j => cases ry; exact PySem.EqMixed.ne_str_bool (fin_bl I q (by simp))
    | int j => obtain ⟨t', rfl⟩ := ry; exact PySem.EqMixed.ne_str_int (fin_bl I q (by simp))
    | str j => obtain ⟨t', rfl⟩ := ry; exact ne_str (fin_bl I q (congrArg not dec_str))
    | _ => exact absurd (show false = true from hs) Bool.false_ne_true
  | byt i =>
    obtain ⟨t, rfl⟩ := rx
    cases y with
    | byt j => obtain ⟨t', rfl⟩ := ry; exact PySem.W.ne_bytes (fin_bl I q (congrArg not dec_byt))
    | _ => exact absurd (show false = true from hs) Bool.false_ne_true
  | _ => cases y <;> exact absurd (show false = true from hs) Bool.false_ne_true

theorem op_lt : OpR X (compareOp .Lt) (rI0 fun i j => .bl (decide (i < j))) := opB0 fun _ _ _ _ _ _ _ q => lt_int q
theorem op_gt : OpR X (compareOp .Gt) (rI0 fun i j => .bl (decide (j < i))) := opB0 fun _ _ _ _ _ _ _ q => gt_int q
theorem op_lt_str : OpR X (compareOp .Lt) (fun x y H Q => ∃ i j, x = .str i ∧ y = .str j ∧ Q (.bl (decide (i.cps.toList < j.cps.toList))) H) := by
  intro pins s σ H x y v u Q I rx ry h
  obtain ⟨i, j, rfl, rfl, q⟩ := h
  obtain ⟨t, rfl⟩ := rx
  obtain ⟨t', rfl⟩ := ry
  exact lt_str (fin_bl I q rfl)
/-- is None, is not None: the right side a value none -/
theorem op_isN : OpR X (compareOp .Is) (fun x y H Q => y = .non ∧ Q (.bl (decide (x = .non))) H) := by
  intro pins s σ H x y v u Q I rx ry h
  obtain ⟨rfl, q⟩ := h
  cases ry
  refine is_none_gen (fin_bl I q ?_)
  cases x <;> first
    | (cases rx; rfl)
    | (obtain ⟨t, rfl⟩ := rx; rfl)
/-- two rules for one operation: by cases -/
theorem OpR.or {f : Value → Value → Sem Value} {r r' : R2} (h : OpR X f r) (h' : OpR X f r') : OpR X f (fun x y H Q => r x y H Q ∨ r' x y H Q) := by
  intro pins s σ H x y v u Q I rx ry q
  rcases q with q | q
  · exact h pins s σ H x y v u Q I rx ry q
  · exact h' pins s σ H x y v u Q I rx ry q

theorem nomark (b : Expr) {op : CmpOp} (h : op ≠ .In := by decide) (h2 : op ≠ .NotIn := by decide) : behindInMarks op b = false := by
  have e1 : (op == CmpOp.In) = false := by cases op <;> first | rfl | exact absurd rfl h
  have e2 : (op == CmpOp.NotIn) = false := by cases op <;> first | rfl | exact absurd rfl h2
  cases b <;> simp [behindInMarks, e1, e2]
/-- a comparison as a value; hm: nomark b, or (for in, not in) by with_unfolding_all rfl -/
theorem pe_cmpR {op : CmpOp} {r : R2} (ho : OpR X (compareOp op) r) (ha : PE X a ta) (hb : PE X b tb) (hm : behindInMarks op b = false) : PE X (.Compare a [op] [b] pos) (tOp r ta tb) := by
  intro pins s σ H Q I h
  exact wpAny_Compare1 (binT ha hb I h fun v u s2 x y H2 I2 rx ry q => ho pins s2 σ H2 x y v u Q I2 rx ry q) hm
/-- a reading of a value as a test -/
def tTest (t : TE) : TT := fun σ H Q => t σ H fun x H' => ∃ k, x = .bl k ∧ Q k H'
theorem pt_cmpR {op : CmpOp} {r : R2} (ho : OpR X (compareOp op) r) (ha : PE X a ta) (hb : PE X b tb) (hm : behindInMarks op b = false) : PT X (.Compare a [op] [b] pos) (tTest (tOp r ta tb)) := by
  intro pins s σ H Q I h
  refine wpAny_isTrue_Compare1 (thn (ha pins s σ H _ I h) fun v s1 ⟨x, H1, I1, r1, q1⟩ => thn (hb pins s1 σ H1 _ I1 q1) fun u s2 ⟨y, H2, I2, r2, q2⟩ =>
    thn (ho pins s2 σ H2 x y v u _ I2 r1 r2 q2) fun c s3 ⟨z, H3, I3, r3, k, e, q3⟩ => ?_) hm
  subst e
  cases r3
  exact wpAny_truthy_bool ⟨H3, I3, q3⟩
/-! ### truth -/
theorem line63 : (sizeLine : Nat) < 2 ^ 63 := by rw [sizeLine_eq]; decide
/-! ### strs and bytes -/
theorem op_add_str : OpR X (binaryOp .Add) (fun x y H Q => ∃ i j, x = .str i ∧ y = .str j ∧ i.length + j.length ≤ sizeLine ∧ Q (.str (i ++ j)) H) := by
  intro pins s σ H x y v u Q I rx ry h
  obtain ⟨i, j, rfl, rfl, hz, q⟩ := h
  obtain ⟨t, rfl⟩ := rx
  obtain ⟨t', rfl⟩ := ry
  exact add_str (fun t' tk => ⟨.str (i ++ j), H, I.tok _, ⟨_, rfl⟩, q⟩) hz
/-! ### scalar builtins, by CallR -/
theorem vals1 {x : V} {us : List Value} (r : Vals [x] us) : ∃ u, us = [u] ∧ RelV x u := by
  cases r with
  | cons r1 r2 => cases r2; exact ⟨_, rfl, r1⟩
theorem vals2 {x y : V} {us : List Value} (r : Vals [x, y] us) : ∃ u w', us = [u, w'] ∧ RelV x u ∧ RelV y w' := by
  cases r with
  | cons r1 r2 =>
    cases r2 with
    | cons r3 r4 => cases r4; exact ⟨_, _, rfl, r1, r3⟩
theorem call_min2 (hc : X.calm = true) : CallR X (.builtin "min") (fun xs H Q => ∃ i j, xs = [.int i, .int j] ∧ Q (.int (if j < i then j else i)) H) := by
  intro pins s σ H xs us Q I r h
  obtain ⟨i, j, rfl, q⟩ := h
  obtain ⟨u, w', rfl, ⟨t, rfl⟩, ⟨t', rfl⟩⟩ := vals2 r
  refine min_two_ints (I.ok.hd hc) fun h' tk k => ⟨_, H, I.kept k, ?_, q⟩
  by_cases hj : j < i
  · rw [if_pos hj, if_pos hj]; exact ⟨_, rfl⟩
  · rw [if_neg hj, if_neg hj]; exact ⟨_, rfl⟩
theorem call_int1 : CallR X (.type "int") (fun xs H Q => (∃ i, xs = [.int i] ∧ Q (.int i) H) ∨ ∃ k, xs = [.bl k] ∧ Q (.int (if k then 1 else 0)) H) := by
  intro pins s σ H xs us Q I r h
  rcases h with ⟨i, rfl, q⟩ | ⟨k, rfl, q⟩
  · obtain ⟨u, rfl, t, rfl⟩ := vals1 r
    exact call_int_int ⟨.int i, H, I, ⟨_, rfl⟩, q⟩
  · obtain ⟨u, rfl, r1⟩ := vals1 r
    cases r1
    exact call_int_bool ⟨.int (if k then 1 else 0), H, I.tok _, ⟨_, rfl⟩, q⟩
end
end L2

namespace L2
open PySem PySem.Spec PyProof.Rows

/-! ### an instance, its attributes a map -/
structure ObjM (h : Heap) (x dx C : Addr) (mA : Str → Option Value) : Prop where
  obj : h.get? x = some (PySem.W.instObj C dx)
  ns : h.Ns1 dx mA
  ne : dx ≠ x

theorem lookIn_ns {h : Heap} {dx : Addr} {mA : Str → Option Value} (n : h.Ns1 dx mA) : ∃ od, h.get? dx = some od ∧ ∀ name, PySem.W.lookIn name od = some (mA name) := by
  obtain ⟨o, es, ep, ho, hd, hk, _, hm⟩ := n
  refine ⟨o, ho, fun name => ?_⟩
  have e := hm name
  unfold nsFind findBy at e
  rw [← Array.find?_toList] at e
  unfold PySem.W.lookIn
  rw [hd]
  dsimp only
  split
  · rename_i y q
    rw [q] at e
    exact congrArg some e
  · rename_i q
    rw [q] at e
    have a : es.toList.any (·.refKey) = false := by
      rw [List.any_eq_false]
      intro y hy
      obtain ⟨z, t, hkey⟩ := hk y (Array.mem_toList_iff.mp hy)
      simp [DictEntry.refKey, hkey]
    have a' : ¬ es.toList.any (·.refKey) = true := by rw [a]; exact Bool.false_ne_true
    rw [if_neg a']
    exact congrArg some e

theorem ObjM.look {h : Heap} {x dx C : Addr} {mA : Str → Option Value} (I : ObjM h x dx C mA) : ∃ od, PySem.W.InstAt h x (PySem.W.instObj C dx) C (some od) ∧ ∀ name, PySem.W.lookIn name od = some (mA name) :=
  let ⟨od, ho, hl⟩ := lookIn_ns I.ns
  ⟨od, ⟨I.obj, rfl, rfl, ho⟩, hl⟩

section
variable {prog : Program} {w : World} {A : Around} {E : Value → Shared → Prop} {s : Shared} {K : PySem.W.Frag} {x dx C f : Addr} {mA : Str → Option Value} {name : Str} {v : Value}

end

/-! ### the attributes as a list of pairs -/
theorem RelO.none_of {o : Option Value} (r : RelO none o) : o = none := by
  cases o with
  | none => rfl
  | some u => exact (show False from r).elim
section
variable {P : Program} {w : World} {H H' : Hp} {h h' : Heap} {a C dx : Addr} {fs fs' : List (Str × V)}
theorem ins_get (hok : HOk P w H h) (e : H a = some (.ins C dx fs)) : ∃ mA, ObjM h a dx C mA ∧ (∀ f, RelO (fs.lookup f) (mA f)) ∧ PySem.Within mA (fs.map (·.1)) ∧ fs.length ≤ 1000 ∧ H dx = some (.own a) := by
  obtain ⟨d, z, ne, ob, mA, n, r, q⟩ := (show ObjOk P w H h a (.ins C dx fs) from hok a _ e)
  exact ⟨mA, ⟨ob, n, ne⟩, r, q, z, d⟩
end

/-! ### what of the text a class must have -/
structure Cls (K : PySem.W.Frag) (C : Addr) : Prop where
  pg : PySem.W.plainGet K C Str.empty = true
  hd : PySem.W.hasDictIn K C = true
  po : PySem.W.plainOver K C = true
  sa : PySem.W.findIn K (.ref C) "__setattr__" = some (some (.builtin "object.__setattr__"))
theorem Cls.get {K : PySem.W.Frag} {C : Addr} (c : Cls K C) (f : Str) : PySem.W.plainGet K C f = true := c.pg
/-- a constant of the class -/
structure Con (K : PySem.W.Frag) (C : Addr) (f : Str) (v : V) (u : Value) : Prop where
  at_ : PySem.W.findIn K (.ref C) f = some (some u)
  rel : RelV v u
  get : PySem.W.specialIn K u "__get__" = some none
  cp : PySem.W.copiedNames.contains f = false
/-- a method: a plain def of the class or of one above it -/
structure Meth (K : PySem.W.Frag) (C : Addr) (m : Str) (f : Addr) : Prop where
  at_ : PySem.W.findIn K (.ref C) m = some (some (.ref f))
  fn : PySem.W.isFn K (.ref f) = true
  kp : PySem.W.keepIn K (.ref f) = true

section
variable {X : Cx} {pins : List (Addr × Obj)} {σ : St} {H : Hp} {s : Shared} {a C dx : Addr} {fs : List (Str × V)} {f : Str} {v : V} {A : Around} {E : Value → Shared → Prop}

/-- a new instance, tracked, without attributes -/
theorem Inv.made (I : Inv X pins σ H s) : Inv X pins σ (upd (upd H s.heap.objs.size (.own (s.heap.objs.size + 1))) (s.heap.objs.size + 1) (.ins C s.heap.objs.size []))
    { s with heap := (s.heap.push PySem.W.emptyDict).push (PySem.W.instObj C s.heap.objs.size) } := by
  have e1 : (s.heap.push PySem.W.emptyDict).get? s.heap.objs.size = some PySem.W.emptyDict := Heap.get?_push_size s.heap rfl
  have e2 : ((s.heap.push PySem.W.emptyDict).push (PySem.W.instObj C s.heap.objs.size)).get? (s.heap.objs.size + 1) = some (PySem.W.instObj C s.heap.objs.size) := by
    have := Heap.get?_push_size (s.heap.push PySem.W.emptyDict) (o := PySem.W.instObj C s.heap.objs.size) rfl
    rwa [Heap.size_push] at this
  have e3 : (s.heap.push PySem.W.emptyDict).Ns s.heap.objs.size (fun _ => none) := ⟨PySem.W.emptyDict, #[], _, e1, rfl, (fun e he => absurd he (by simp)), fun _ => rfl⟩
  have I1 := I.laid (a := s.heap.objs.size) (o := .own (s.heap.objs.size + 1)) (h' := s.heap.push PySem.W.emptyDict) (t' := s.toks) (fun b u q => Heap.get?_push_of_some _ q) (Nat.le_refl _) ⟨_, e1⟩
  refine I1.laid (a := s.heap.objs.size + 1) (o := .ins C s.heap.objs.size []) (t' := s.toks) (fun b u q => Heap.get?_push_of_some _ q) (Nat.le_of_eq (Heap.size_push _ _)) ?_
  have ne : s.heap.objs.size ≠ s.heap.objs.size + 1 := Nat.ne_of_lt (Nat.lt_succ_self _)
  refine ⟨by rw [upd_ne ne, upd_same], Nat.zero_le _, ne, e2, fun _ => none, (Heap.Ns1.of_empty e3).at fun o q => Heap.get?_push_of_some _ q, fun _ => True.intro, fun y hy => absurd rfl hy⟩

end

/-! ### readings and rules -/
section
variable {X : Cx} {o e value : Expr} {f : Str} {pos pos' tpos : Pos} {ta tv : TE}
end

/-! ### isinstance -/
section
variable {X : Cx} {pins : List (Addr × Obj)} {σ : St} {H : Hp} {s : Shared} {A : Around} {E : Value → Shared → Prop} {Q : Value → Shared → Prop} {c : Value} {b : Bool}
/-- the type of a value, as the fragment's deciders take it; for an instance its class -/
inductive TyOf (K : PySem.W.Frag) (H : Hp) : V → Value → Prop where
  | non : TyOf K H .non (.type "NoneType")
  | bl (x : Bool) : TyOf K H (.bl x) (.type "bool")
  | int (i : Int) : TyOf K H (.int i) (.type "int")
  | str (x : Str) : TyOf K H (.str x) (.type "str")
  | flt (x : UInt64) : TyOf K H (.flt x) (.type "float")
  | lst {a : Addr} {xs : List V} (e : H a = some (.lst xs)) : TyOf K H (.ref a) (.type "list")
  | frz {a : Addr} {o : Obj} {xs : List V} (e : H a = some (.frz o (.lst xs))) : TyOf K H (.ref a) (.type "list")
  | tup {a : Addr} {xs : List V} (e : H a = some (.tup xs)) : TyOf K H (.ref a) (.type "tuple")
  | dK {a : Addr} {kvs : List (Key × V)} (e : H a = some (.dK kvs)) : TyOf K H (.ref a) (.type "dict")
  | dT {a : Addr} {kvs : List (List Key × V)} (e : H a = some (.dT kvs)) : TyOf K H (.ref a) (.type "dict")
  | ins {a C dx : Addr} {fs : List (Str × V)} (e : H a = some (.ins C dx fs)) (cl : Cls K C) (ha : PySem.W.findIn K (.ref C) "__class__" = some (some (.builtin "object.__class__")))
      (hn : PySem.W.specialIn K (.builtin "object.__class__") "__get__" = some (some (.builtin "getset_descriptor.__get__"))) (htk : PySem.W.takesIn K (.builtin "object.__class__") = some true)
      (hm : PySem.W.mroIn K C (.type "object") = some true) : TyOf K H (.ref a) (.ref C)
/-- isinstance(x, c) for one class c, a built-in or an own one: kitOne's answer -/
theorem isinst_ok {x : V} {u t : Value} (I : Inv X pins σ H s) (rx : RelV x u) (ty : TyOf X.K H x t) (e : PySem.W.kitOne X.K t c = some b) (h : ∀ tk, Q (.bool b) { s with toks := tk }) :
    wpAny (model X.prog X.w) A (call (.builtin "isinstance") [u, c]) Q E s := by
  cases ty with
  | non => cases (show u = Value.none from rx); exact PySem.W.kia_one PySem.W.kitx_none I.kIn True.intro e (fun z => nomatch z) h
  | bl y => cases (show u = Value.bool y from rx); exact PySem.W.kia_one PySem.W.kitx_bool I.kIn True.intro e (fun z => nomatch z) h
  | int i => obtain ⟨t, q⟩ := (show ∃ t, u = Value.int i t from rx); cases q; exact PySem.W.kia_one PySem.W.kitx_int I.kIn True.intro e (fun z => nomatch z) h
  | str y => obtain ⟨t, q⟩ := (show ∃ t, u = Value.str y t from rx); cases q; exact PySem.W.kia_one PySem.W.kitx_str I.kIn True.intro e (fun z => nomatch z) h
  | flt y => obtain ⟨t, q⟩ := (show ∃ t, u = Value.float y t from rx); cases q; exact PySem.W.kia_one PySem.W.kitx_float I.kIn True.intro e (fun z => nomatch z) h
  | @lst a xs ea =>
    cases (show u = Value.ref a from rx)
    obtain ⟨_, _, n, _, h1⟩ := (show ObjOk X.prog X.w H s.heap a (.lst xs) from I.hok a _ ea)
    exact PySem.W.kia_one PySem.W.kitx_list I.kIn ⟨_, h1, rfl⟩ e (fun z => nomatch z) h
  | @frz a ob xs ea =>
    cases (show u = Value.ref a from rx)
    obtain ⟨_, _, _, n, _, h1⟩ := (show ObjOk X.prog X.w H s.heap a (.frz ob (.lst xs)) from I.hok a _ ea)
    exact PySem.W.kia_one PySem.W.kitx_list I.kIn ⟨_, h1, rfl⟩ e (fun z => nomatch z) h
  | @tup a xs ea =>
    cases (show u = Value.ref a from rx)
    obtain ⟨_, _, _, p⟩ := (show ObjOk X.prog X.w H s.heap a (.tup xs) from I.hok a _ ea)
    obtain ⟨o, h1, h2, _⟩ := p
    exact PySem.W.kia_one PySem.W.kitx_tuple I.kIn ⟨o, h1, h2⟩ e (fun z => nomatch z) h
  | @dK a kvs ea =>
    cases (show u = Value.ref a from rx)
    obtain ⟨_, _, vs, _, p⟩ := (show ObjOk X.prog X.w H s.heap a (.dK kvs) from I.hok a _ ea)
    obtain ⟨o, es, ep, h1, h2, _⟩ := p
    exact PySem.W.kia_one PySem.W.kitx_dict I.kIn ⟨o, h1, h2.1⟩ e (fun z => nomatch z) h
  | @dT a kvs ea =>
    cases (show u = Value.ref a from rx)
    obtain ⟨_, _, xs, _, o, es, ep, h1, h2, _⟩ := (show ObjOk X.prog X.w H s.heap a (.dT kvs) from I.hok a _ ea)
    exact PySem.W.kia_one PySem.W.kitx_dict I.kIn ⟨o, h1, h2.1⟩ e (fun z => nomatch z) h
  | @ins a C dx fs ea cl ha hn htk hm =>
    cases (show u = Value.ref a from rx)
    obtain ⟨mA, O, _⟩ := ins_get I.hok ea
    obtain ⟨od, J, _⟩ := O.look
    exact PySem.W.kia_one (PySem.W.kitx_own (cl.get _) cl.hd ha hn htk hm) I.kIn J e (fun z => nomatch z) h
end
end L2

namespace L2
open PySem PySem.Spec PyProof.Rows

/-! ### room -/
structure Room (k : Nat) (A : Around) : Prop where
  hd : A.handled = none
  dp : A.depth + 3 * k + 5 < recursionLimit
  un : A.units + 16 * k + 200 < cLine
theorem Room.mono {j k : Nat} {A : Around} (r : Room k A) (h : j ≤ k) : Room j A := ⟨r.hd, by have := r.dp; omega, by have := r.un; omega⟩
theorem Room.deeper {k : Nat} {A : Around} (r : Room (k + 1) A) (env : Env) : Room k (A.deeper env) :=
  ⟨r.hd, by have := r.dp; show A.depth + 1 + 3 * k + 5 < _; omega, by have := r.un; show A.units + 3 + 16 * k + 200 < _; omega⟩
theorem Room.in1 {k : Nat} {A : Around} (r : Room (k + 1) A) : Room k A.in1 :=
  ⟨r.hd, by have := r.dp; show A.depth + 3 * k + 5 < _; omega, by have := r.un; show A.units + 1 + 16 * k + 200 < _; omega⟩
theorem Room.depth {k : Nat} {A : Around} (r : Room k A) : A.depth < recursionLimit := by have := r.dp; omega
theorem Room.units {k : Nat} {A : Around} (r : Room k A) : A.units + 64 < cLine := by have := r.un; omega
/-! ### argument lists and displays -/
def tNil : TA := fun _ H Q => Q [] H
def tCons (ta : TE) (tr : TA) : TA := fun σ H Q => ta σ H fun x H1 => tr σ H1 fun xs H2 => Q (x :: xs) H2
section
variable {X : Cx} {e : Expr} {es : List Expr} {te : TE} {t : TA} {pos : Pos}
theorem pa_nil : PA X [] tNil := fun _ _ _ _ H Q I h => Calls.spliced_nil ⟨[], H, I, .nil, h⟩
theorem pa_cons (ha : PE X e te) (hr : PA X es t) (hs : starEach (e :: es) X.env = (false, eval e X.env) :: starEach es X.env := by rfl) : PA X (e :: es) (tCons te t) := by
  intro pos pins s σ H Q I h
  rw [hs]
  show wpAny _ _ (spliced ((false, eval e X.env) :: backTo pos (starEach es X.env))) _ _ s
  refine Calls.spliced_cons (thn (ha pins s σ H _ I h) fun u s1 ⟨x, H1, I1, r1, q1⟩ => ?_)
  exact thn (hr pos pins s1 σ H1 _ I1 q1) fun us s2 ⟨xs, H2, I2, r2, q2⟩ => ⟨x :: xs, H2, I2, .cons r1 r2, q2⟩

/-- a tuple, a list of written items -/
def tTup (t : TA) : TE := fun σ H Q => t σ H fun xs H1 => xs.length ≤ sizeLine ∧ ∀ p, H1 p = none → Q (.ref p) (upd H1 p (.tup xs))
def tLst (t : TA) : TE := fun σ H Q => t σ H fun xs H1 => xs.length ≤ sizeLine ∧ ∀ p, H1 p = none → Q (.ref p) (upd H1 p (.lst xs))
theorem pe_tup {x1} (h : PA X es t) : PE X (.Tuple es x1 pos) (tTup t) := by
  intro pins s σ H Q I hq
  refine wpAny_Tuple_spliced (thn (h pos pins s σ H _ I hq) fun us s1 ⟨xs, H1, I1, r, z, q⟩ => ⟨by rw [← r.length]; exact z, ?_⟩)
  have hf : H1 s1.heap.objs.size = none := I1.hok.fresh (Nat.le_refl _)
  refine ⟨.ref s1.heap.objs.size, upd H1 s1.heap.objs.size (.tup xs), I1.laid (t' := s1.toks) (fun b u e => Heap.get?_push_of_some _ e) (Nat.le_refl _) ?_, rfl, q _ hf⟩
  exact ⟨z, us, r, ⟨_, Heap.get?_push_size _ rfl, rfl, _, rfl⟩⟩
theorem pe_lst (h : PA X es t) : PE X (.List es pos) (tLst t) := by
  intro pins s σ H Q I hq
  refine wpAny_List_spliced (thn (h pos pins s σ H _ I hq) fun us s1 ⟨xs, H1, I1, r, z, q⟩ => ⟨by rw [← r.length]; exact z, ?_⟩)
  have hf : H1 s1.heap.objs.size = none := I1.hok.fresh (Nat.le_refl _)
  refine ⟨.ref s1.heap.objs.size, upd H1 s1.heap.objs.size (.lst xs), I1.laid (t' := s1.toks) (fun b u e => Heap.get?_push_of_some _ e) (Nat.le_refl _) ?_, rfl, q _ hf⟩
  exact ⟨z, us, 0, r, Heap.get?_push_size _ rfl⟩
end

/-! ### what a def promises -/
/-- a def's promise: the bound arguments in the parameters' order, the heap, the wanted end, the wanted exception -/
abbrev Sp := List V → Hp → VK → XK → Prop
/-- how an exception lies behind a call (file 08 gives it): the callers' frames, abstract heap and state ahead of the call, the wish, the exception, the state -/
abbrev CXT := List Env → Hp → Shared → XK → Value → Shared → Prop

/-- the state at a call -/
structure Env0 (P : Program) (w : World) (K : PySem.W.Frag) (mg : Str → Option Value) (base : Heap) (A : Around) (outer : List Env) (s : Shared) (H : Hp) : Prop where
  frames : A.frames = some outer
  mod : Mod K mg base
  bs : ∀ b o, base.get? b = some o → s.heap.get? b = some o ∧ H b = none
  bsz : base.objs.size ≤ s.heap.objs.size
  funs : s.heap.FunFrames base outer
  frf : ∀ b ∈ frs outer, H b = none
  hok : HOk P w H s.heap
  bare : AllBare s.gens
/-- a call's end -/
def CE (outer : List Env) (P : Program) (w : World) (H : Hp) (s : Shared) (Q : VK) (u : Value) (s' : Shared) : Prop :=
  ∃ v H', s'.os = s.os ∧ AllBare s'.gens ∧ Un (frs outer) [] H H' s.heap s'.heap ∧ HOk P w H' s'.heap ∧ RelV v u ∧ Q v H'
def CR (CX : CXT) (outer : List Env) (P : Program) (w : World) (H : Hp) (s : Shared) (Q : VK) (E : XK) (r : Result) (s' : Shared) : Prop :=
  match r with
  | .ok (.ret u) => CE outer P w H s Q u s'
  | .ok _ => False
  | .error e => CX outer H s E e s'
structure FnOk (P : Program) (w : World) (K : PySem.W.Frag) (mg : Str → Option Value) (base : Heap) (CX : CXT) (k : Nat) (f : Addr) (fd : FuncData) (ps : List Str) (sp : Sp) : Prop where
  len : ∀ vs H Q E, sp vs H Q E → vs.length = ps.length
  run : ∀ (A : Around) (outer : List Env) (s : Shared) (H : Hp) (args : Args) (us : List Value) (vs : List V) (Q : VK) (E : XK), Room k A → Env0 P w K mg base A outer s H → BindsTo s fd args (ps.zip us) → Vals vs us → sp vs H Q E →
    codeAny (model P w) A (.call (.ref f) args) (CR CX outer P w H s Q E) s
theorem FnOk.mono {P : Program} {w : World} {K : PySem.W.Frag} {mg : Str → Option Value} {base : Heap} {CX : CXT} {j k : Nat} {f : Addr} {fd : FuncData} {ps : List Str} {sp : Sp} (F : FnOk P w K mg base CX j f fd ps sp) (h : j ≤ k) :
    FnOk P w K mg base CX k f fd ps sp := ⟨F.len, fun A outer s H args us vs Q E hr => F.run A outer s H args us vs Q E (hr.mono h)⟩
/-- a weaker promise -/
theorem FnOk.imp {P : Program} {w : World} {K : PySem.W.Frag} {mg : Str → Option Value} {base : Heap} {CX : CXT} {k : Nat} {f : Addr} {fd : FuncData} {ps : List Str} {sp sp' : Sp} (F : FnOk P w K mg base CX k f fd ps sp)
    (h : ∀ vs H Q E, sp' vs H Q E → sp vs H Q E) : FnOk P w K mg base CX k f fd ps sp' :=
  ⟨fun vs H Q E q => F.len vs H Q E (h _ _ _ _ q), fun A outer s H args us vs Q E hr he hb hv hs => F.run A outer s H args us vs Q E hr he hb hv (h _ _ _ _ hs)⟩

theorem Env0.in1 {P : Program} {w : World} {K : PySem.W.Frag} {mg : Str → Option Value} {base : Heap} {A : Around} {outer : List Env} {s : Shared} {H : Hp} (e : Env0 P w K mg base A outer s H) :
    Env0 P w K mg base A.in1 outer s H := ⟨e.frames, e.mod, e.bs, e.bsz, e.funs, e.frf, e.hok, e.bare⟩

section
variable {X : Cx} {pins : List (Addr × Obj)} {σ : St} {H : Hp} {s s' : Shared}
/-- from a body: what a callee wants -/
theorem Inv.env0 (I : Inv X pins σ H s) : Env0 X.prog X.w X.K X.mg X.base X.A X.stack s H :=
  ⟨I.ok.frames, I.ok.mod, I.bs, Nat.le_trans I.ok.bsz I.sz, I.stack, I.stkFree, I.hok, I.bare⟩
/-- behind a call -/
theorem Inv.after {Q : VK} {u : Value} (I : Inv X pins σ H s) (h : CE X.stack X.prog X.w H s Q u s') : EP X pins σ Q u s' := by
  obtain ⟨v, H', os, bare, un, hok, r, q⟩ := h
  obtain ⟨hh, g, d, t, os'⟩ := s'
  obtain rfl : os' = s.os := os
  exact ⟨v, H', I.call (h' := hh) (g' := g) (d' := d) (t' := t) (ch := []) un hok bare (fun b z => absurd z (by simp)), r, q⟩
end

/-! ### calls -/
/-- f(..): the written arguments, then the defaults dvs; E: what is wanted of an exception -/
def tCall (sp : Sp) (dvs : List V) (E : XK) (t : TA) : TE := fun σ H Q => t σ H fun vs H1 => sp (vs ++ dvs) H1 Q E
/-- how the parameters are bound: us the positional arguments, kw the keywords' values by name, ds the defaults that fill up -/
def Binds (K : PySem.W.Frag) (fd : FuncData) (ps : List Str) (ds : List Value) : Prop :=
  ∀ (s : Shared) (us : List Value), K.In s.heap → (us ++ ds).length = ps.length → BindsTo s fd ⟨us, []⟩ (ps.zip (us ++ ds))
/-- every parameter is given -/
theorem Binds.all {K : PySem.W.Frag} {fd : FuncData} {ps : List Str} (h : ∀ us : List Value, us.length = ps.length → bindArgs fd ⟨us, []⟩ = pure (ps.zip us)) : Binds K fd ps [] := fun s us _ hl => by
  rw [List.append_nil] at hl ⊢
  exact .of_eq (h us hl)

/-- an exception of a callee reaches what this body wants of exceptions -/
def Passes (CX : CXT) (X : Cx) (E : XK) : Prop := ∀ (pins : List (Addr × Obj)) (σ : St) (H : Hp) (s : Shared) (e : Value) (s' : Shared), Inv X pins σ H s → CX X.stack H s E e s' → X.xe e s'

section
variable {X : Cx} {CX : CXT} {k : Nat} {f C : Addr} {fd : FuncData} {ps : List Str} {sp : Sp} {dvs : List V} {ds : List Value} {E : XK} {x m : Str} {p pos apos : Pos} {e o : Expr} {es : List Expr} {ta : TE} {t : TA}

/-- the callee runs -/
theorem run_fn {pins : List (Addr × Obj)} {σ : St} {H : Hp} {s : Shared} {Q : VK} {us : List Value} {vs : List V} (F : FnOk X.prog X.w X.K X.mg X.base CX k f fd ps sp) (hr : Room k X.A) (hb : Binds X.K fd ps ds) (hd : Vals dvs ds) (hx : Passes CX X E)
    (I : Inv X pins σ H s) (r : Vals vs us) (h : sp (vs ++ dvs) H Q E) : wpAny (model X.prog X.w) X.A (call (.ref f) us) (EP X pins σ Q) X.xe s := by
  have r2 : Vals (vs ++ dvs) (us ++ ds) := r.append hd
  have hl : (us ++ ds).length = ps.length := by rw [← r2.length]; exact F.len _ _ _ _ h
  refine wpAny_call (codeAny_mono (F.run X.A X.stack s H ⟨us, []⟩ (us ++ ds) (vs ++ dvs) Q E hr I.env0 (hb s us I.kIn hl) r2 h) fun r s' hq => ?_)
  cases r with
  | error e => exact hx pins σ H s e s' I hq
  | ok fl =>
    cases fl with
    | ret u => exact I.after hq
    | next => exact False.elim hq
    | brk => exact False.elim hq
    | cont => exact False.elim hq

theorem pe_call (F : FnOk X.prog X.w X.K X.mg X.base CX k f fd ps sp) (hr : Room k X.A) (hg : Gl X x) (hm : X.mg x = some (.ref f)) (hk : PySem.W.keepIn X.K (.ref f) = true) (hb : Binds X.K fd ps ds) (hd : Vals dvs ds) (hx : Passes CX X E)
    (ha : PA X (e :: es) t) (hdb : (x == ("__debug__" : Str)) = false := by decide) (he : starEach (e :: es) X.env = (false, eval e X.env) :: starEach es X.env := by rfl) (hpl : (backTo pos (starEach es X.env)).any (·.1) = false := by rfl) :
    PE X (.Call (.Name x p) (e :: es) [] pos) (tCall sp dvs E t) := by
  intro pins s σ H Q I h
  refine wpAny_Call_Name_kw (ld_glob I hg hm ?_ hdb)
  refine PySem.W.callWith_K (h₀ := X.base) I.ok.mod.kin hk (thn (ha pos pins s σ H _ I h) fun us s1 ⟨vs, H1, I1, r, q⟩ => ⟨I1.kIn, ?_⟩) he hpl
  exact run_fn F hr hb hd hx I1 r q
/-- what a class must have to be made -/
structure Mk (K : PySem.W.Frag) (C f : Addr) : Prop where
  makes : PySem.W.makesIn K C = true
  init : PySem.W.findIn K (.ref C) "__init__" = some (some (.ref f))
  fn : PySem.W.isFn K (.ref f) = true
  kp : PySem.W.keepIn K (.ref C) = true

end

/-! ### keywords -/
/-- the values of the keywords, from the left -/
def PK (X : Cx) (kws : List Keyword) (t : TA) : Prop :=
  ∀ (pos : Pos) (pins : List (Addr × Obj)) (s : Shared) (σ : St) (H : Hp) (Q : List V → Hp → Prop), Inv X pins σ H s → t σ H Q → wpAny (model X.prog X.w) X.A (evalAll ((backToKw pos (keywordEach kws X.env)).map (·.2))) (AP X pins σ Q) X.xe s
section
variable {X : Cx} {CX : CXT} {k : Nat} {f C : Addr} {fd : FuncData} {ps ks : List Str} {sp : Sp} {E : XK} {x m : Str} {p pos apos kpos : Pos} {e o : Expr} {es : List Expr} {kws : List Keyword} {te ta : TE} {t tk : TA} {nm : Option Str}
theorem pk_nil : PK X [] tNil := fun _ _ _ _ H Q I h => wpAny_evalAll_nil ⟨[], H, I, .nil, h⟩
theorem pk_cons (ha : PE X e te) (hr : PK X kws t) : PK X (⟨nm, e, kpos⟩ :: kws) (tCons te t) := by
  intro pos pins s σ H Q I h
  show wpAny _ _ (evalAll ((do let v ← eval e X.env; standAt pos; pure v) :: (backToKw pos (keywordEach kws X.env)).map (·.2))) _ _ s
  refine wpAny_evalAll_cons (wpAny_bind (thn (ha pins s σ H _ I h) fun u s1 ⟨x, H1, I1, r1, q1⟩ => wpAny_bind (wpAny_standAt (wpAny_pure ?_))))
  exact thn (hr pos pins s1 σ H1 _ I1 q1) fun us s2 ⟨xs, H2, I2, r2, q2⟩ => ⟨x :: xs, H2, I2, .cons r1 r2, q2⟩

/-- how a call with keywords binds: g puts the positional values us and the keywords' values ws (names ks) in the parameters' order, defaults among them -/
structure KBinds (K : PySem.W.Frag) (fd : FuncData) (ps ks : List Str) (g : List Value → List Value → List Value) (gV : List V → List V → List V) : Prop where
  to : ∀ (s : Shared) (us ws : List Value), K.In s.heap → (g us ws).length = ps.length → BindsTo s fd ⟨us, ks.zip ws⟩ (ps.zip (g us ws))
  rel : ∀ {vs : List V} {us : List Value} {zs : List V} {ws : List Value}, Vals vs us → Vals zs ws → Vals (gV vs zs) (g us ws)
variable {g : List Value → List Value → List Value} {gV : List V → List V → List V}
end

/-! ### a def's body keeps its promise -/
/-- names: the parameters first -/
structure FnScope (N P : List Str) (sc : Scope) : Prop where
  kind : sc.kind = .function
  co : sc.isCoroutine = false
  gen : sc.isGenerator = false
  nd : N.Nodup
  pre : N.take P.length = P
  par : ∀ x ∈ P, sc.names.lookup x = some .local ∨ sc.names.lookup x = some .cell
  nofree : ∀ y ∈ sc.names, y.2 ≠ .free

theorem bindL_out {kindOf : Str → Option NameKind} {x : Str} : ∀ {binds : List (Str × Value)} {m : Str → Option Value}, (∀ v, (x, v) ∉ binds) → bindL kindOf binds m x = m x
  | [], _, _ => rfl
  | (n, v) :: r, m, h => by
    unfold bindL
    rw [bindL_out fun w hw => h w (List.mem_cons_of_mem _ hw)]
    split
    · have : x ≠ n := by rintro rfl; exact h v List.mem_cons_self
      simp [this]
    · rfl
theorem bindC_out {kindOf : Str → Option NameKind} {x : Str} : ∀ {binds : List (Str × Value)} {m : Str → Option Value}, (∀ v, (x, v) ∉ binds) → bindC kindOf binds m x = m x
  | [], _, _ => rfl
  | (n, v) :: r, m, h => by
    unfold bindC
    rw [bindC_out fun w hw => h w (List.mem_cons_of_mem _ hw)]
    split
    · rfl
    · have : x ≠ n := by rintro rfl; exact h v List.mem_cons_self
      simp [this]
theorem bindL_get {kindOf : Str → Option NameKind} {x : Str} {v : Value} : ∀ {P : List Str} {vs : List Value} {i : Nat} {m : Str → Option Value}, P.Nodup → P[i]? = some x → vs[i]? = some v → kindOf x = some .local →
    bindL kindOf (P.zip vs) m x = some v
  | [], _, _, _, _, h, _, _ => by simp at h
  | _ :: _, [], _, _, _, _, h, _ => by simp at h
  | p :: P, w :: vs, 0, m, nd, h1, h2, hk => by
    simp at h1 h2; subst h1; subst h2
    show bindL kindOf ((p, w) :: P.zip vs) m p = _
    unfold bindL
    rw [bindL_out fun v hv => (List.nodup_cons.mp nd).1 (List.of_mem_zip hv).1, if_pos hk]
    simp
  | p :: P, w :: vs, i + 1, m, nd, h1, h2, hk => by
    show bindL kindOf ((p, w) :: P.zip vs) m x = _
    unfold bindL
    exact bindL_get (i := i) (List.nodup_cons.mp nd).2 (by simpa using h1) (by simpa using h2) hk
theorem bindC_get {kindOf : Str → Option NameKind} {x : Str} {v : Value} : ∀ {P : List Str} {vs : List Value} {i : Nat} {m : Str → Option Value}, P.Nodup → P[i]? = some x → vs[i]? = some v → kindOf x ≠ some .local →
    bindC kindOf (P.zip vs) m x = some v
  | [], _, _, _, _, h, _, _ => by simp at h
  | _ :: _, [], _, _, _, _, h, _ => by simp at h
  | p :: P, w :: vs, 0, m, nd, h1, h2, hk => by
    simp at h1 h2; subst h1; subst h2
    show bindC kindOf ((p, w) :: P.zip vs) m p = _
    unfold bindC
    rw [bindC_out fun v hv => (List.nodup_cons.mp nd).1 (List.of_mem_zip hv).1, if_neg hk]
    simp
  | p :: P, w :: vs, i + 1, m, nd, h1, h2, hk => by
    show bindC kindOf ((p, w) :: P.zip vs) m x = _
    unfold bindC
    exact bindC_get (i := i) (List.nodup_cons.mp nd).2 (by simpa using h1) (by simpa using h2) hk

/-- the names' values at the entry -/
def start (N : List Str) (vs : List V) : St := vs.map some ++ List.replicate (N.length - vs.length) none

/-- the context of a def's body, at its entry; an exception leaves the frame, then lies as CX says -/
def cxOf (CX : CXT) (P : Program) (w : World) (K : PySem.W.Frag) (mg : Str → Option Value) (base : Heap) (N : List Str) (qual : Str) (scope : Scope) (f : Addr) (cd : Value) (A : Around) (outer : List Env) (s : Shared) (H : Hp) (E : XK) : Cx where
  prog := P
  w := w
  K := K
  mg := mg
  base := base
  A := A.deeper (envOfC qual scope s.heap.objs.size f cd)
  N := N
  s₀ := s
  H₀ := H
  env := envOfC qual scope s.heap.objs.size f cd
  outer := outer
  stack := envOfC qual scope s.heap.objs.size f cd :: outer
  ex := []
  calm := true
  fn := fun _ => true
  pn := []
  xe := fun e s' => wpAny (model P w) (A.deeper (envOfC qual scope s.heap.objs.size f cd)) (leaving (envOfC qual scope s.heap.objs.size f cd) e) (fun _ s'' => CX outer H s E e s'') (fun e' s'' => CX outer H s E e' s'') s'

theorem cell_has {sc : Scope} {n : Nat} {x : Str} (h : sc.names.lookup x = some .cell) : ∃ c, (cellsFrom n sc.names []).lookup x = some c := by
  have q := PySem.W.cellsFrom_some sc.names n [] (.inl h)
  exact Option.isSome_iff_exists.mp q

theorem inv_start {CX : CXT} {P : Program} {w : World} {K : PySem.W.Frag} {mg : Str → Option Value} {base : Heap} {N ps : List Str} {qual : Str} {scope : Scope} {f : Addr} {cd : Value} {A : Around} {outer : List Env} {s s1 : Shared} {H : Hp} {E : XK} {us : List Value} {vs : List V}
    (S : FnScope N ps scope) (hd : A.handled = none) (e0 : Env0 P w K mg base A outer s H) (hl : vs.length = ps.length) (r : Vals vs us)
    (x : InCallC s s.heap.objs.size (bindL (envOfC qual scope s.heap.objs.size f cd).kindOf (ps.zip us) fun _ => none) (cellsFrom (s.heap.objs.size + 1) scope.names []) (bindC (envOfC qual scope s.heap.objs.size f cd).kindOf (ps.zip us) fun _ => none) s1) :
    Inv (cxOf CX P w K mg base N qual scope f cd A outer s H E) [] (start N vs) H s1 := by
  have hpl : ps.length ≤ N.length := by have := congrArg List.length S.pre; rw [List.length_take] at this; omega
  obtain ⟨h1, tk, rfl, hk⟩ := x.done
  have noA : ∀ b : Addr, b ∉ (cxOf CX P w K mg base N qual scope f cd A outer s H E).ex := fun b z => absurd (show b ∈ ([] : List Addr) from z) (by simp)
  refine ⟨⟨e0.mod, S.kind, rfl, rfl, Nat.le_refl _, fun y z c h1 h2 => ?_, fun y hy => ?_, fun y c _ h => ?_, fun _ => hd, Around.frames_deeper e0.frames, .inr ⟨rfl, rfl⟩, fun b z => absurd z (noA b), e0.bs, e0.bsz, fun b _ _ => noA b, fun b z => absurd z (noA b), e0.funs, e0.frf⟩,
    rfl, e0.bare, Un.kept hk, ⟨_, x.toInCall.ns, fun i y v h1 h2 h3 => ?_⟩, fun y c h => ⟨_, x.cell y c h⟩, e0.hok.fresh (Nat.le_refl _), fun y c h => ?_, fun p hp => absurd (show p ∈ ([] : List (Addr × Obj)) from hp) (by simp), e0.hok.kept hk, ?_⟩
  · exact name_of_addr x.apart (PySem.mem_of_lookup h1) (PySem.mem_of_lookup h2)
  · have hy : scope.names.lookup y = some .cell ∨ scope.names.lookup y = some .free := hy
    rcases hy with hy | hy
    · exact cell_has hy
    · exact absurd rfl (S.nofree _ (PySem.mem_of_lookup hy))
  · exact Nat.le_of_lt (x.above y c (PySem.mem_of_lookup h))
  · have hi : i < vs.length := by
      unfold start at h2
      by_cases hi : i < vs.length
      · exact hi
      · rw [List.getElem?_append_right (by simpa using hi)] at h2
        rw [List.getElem?_replicate] at h2
        split at h2 <;> cases h2
    have ha : vs[i]? = some v := by
      unfold start at h2
      rw [List.getElem?_append_left (by simpa using hi), List.getElem?_map] at h2
      cases e : vs[i]? with
      | none => rw [e] at h2; cases h2
      | some a => rw [e] at h2; cases h2; rfl
    obtain ⟨u, hu, rv⟩ := r.get ha
    have hp : ps[i]? = some y := by
      rw [← S.pre, List.getElem?_take_of_lt (by omega)]; exact h1
    have ndP : ps.Nodup := by rw [← S.pre]; exact S.nd.sublist (List.take_sublist _ _)
    refine ⟨u, rv, ?_⟩
    rcases S.par y (List.mem_of_getElem? hp) with k | k
    · exact .inl ⟨k, bindL_get ndP hp hu k⟩
    · obtain ⟨c, e⟩ := cell_has (n := s.heap.objs.size + 1) k
      refine .inr ⟨.inl k, c, e, ?_⟩
      have q := x.cell y c e
      rw [bindC_get ndP hp hu (by show scope.names.lookup y ≠ _; rw [k]; decide)] at q
      exact q
  · exact e0.hok.fresh (Nat.le_of_lt (x.above y c (PySem.mem_of_lookup h)))
  · unfold start
    show _ = N.length
    rw [List.length_append, List.length_map, List.length_replicate]
    omega

/-- THE RULE: a def (or a method) of the text, by its body. The body's reading t is chosen for each entry; it is run at the parameters' values -/
theorem fn_of {CX : CXT} {P : Program} {w : World} {K : PySem.W.Frag} {mg : Str → Option Value} {base : Heap} {k : Nat} {f : Addr} {name qual : Str} {params : Arguments} {body : List Stmt} {scope : Scope} {dV kV doc pm cdv ct oc : Value} {an od : Option Addr}
    {osl : Array (Option Value)} {N ps : List Str} {sp : Sp} (lk : K.lookup f = some ⟨oc, od, .func (PySem.W.fnOf name qual params body scope dV kV doc pm an cdv ct), osl⟩) (hcd : PySem.W.codeIn K cdv qual = true) (S : FnScope N ps scope)
    (len : ∀ vs H Q E, sp vs H Q E → vs.length = ps.length)
    (hbody : ∀ (A : Around) (outer : List Env) (s : Shared) (H : Hp) (vs : List V) (Q : VK) (E : XK), Room k (A.deeper (envOfC qual scope s.heap.objs.size f cdv)) → sp vs H Q E →
      ∃ t, PSs (cxOf CX P w K mg base N qual scope f cdv A outer s H E) body t ∧ t { nx := fun _ H' => Q .non H', rt := Q } (start N vs) H) :
    FnOk P w K mg base CX (k + 1) f (PySem.W.fnOf name qual params body scope dV kV doc pm an cdv ct) ps sp := by
  refine ⟨len, fun A outer s H args us vs Q E hr e0 hb r hsp => ?_⟩
  have hl := len _ _ _ _ hsp
  have KX : K.In s.heap := e0.mod.kin.keeps fun b o e => (e0.bs b o e).1
  have lim : s.heap.NoLimit := e0.mod.nolimit.keeps fun b o e => (e0.bs b o e).1
  have hkind : ∀ y ∈ ps.zip us, scope.names.lookup y.1 = some .local ∨ (scope.names.lookup y.1 = some .cell ∧ ((cellsFrom (s.heap.objs.size + 1) scope.names []).lookup y.1).isSome = true) := fun ⟨n, v⟩ hy => by
    rcases S.par n (List.of_mem_zip hy).1 with q | q
    · exact .inl q
    · exact .inr ⟨q, PySem.W.cellsFrom_some _ _ _ (.inl q)⟩
  refine codeAny_call_function hr.depth (KX _ _ lk) rfl S.co S.gen rfl (PySem.W.codeRec_of KX hcd) (hb _ _ _ _ ?_)
  refine wpAny_newFunctionEnv_cells S.kind hkind fun env he s1 x => ?_
  subst he
  refine ⟨lim.keeps x.toInCall.keep, codeAny_func ?_⟩
  obtain ⟨t, ht, hq⟩ := hbody A outer s H vs Q E (hr.deeper _) hsp
  have I : Inv (cxOf CX P w K mg base N qual scope f cdv A outer s H E) [] (start N vs) H s1 := inv_start S hr.hd e0 hl r x
  refine wpAny_mono (ht [] s1 (start N vs) H _ I hq) (fun fl s' hs => ?_) fun e s' hs => hs
  have fin : ∀ {σ' : St} {H' : Hp} {v : V} {u : Value}, Inv (cxOf CX P w K mg base N qual scope f cdv A outer s H E) [] σ' H' s' → RelV v u → Q v H' → CE outer P w H s Q u s' :=
    fun {σ' H' v u} J rv q => ⟨v, H', J.os, J.bare, J.base, J.hok, rv, q⟩
  cases fl with
  | ret u =>
    obtain ⟨v, σ', H', J, rv, q⟩ := hs
    exact fin J rv q
  | next =>
    obtain ⟨σ', H', J, q⟩ := hs
    exact fin (v := V.non) (u := Value.none) J rfl q
  | brk =>
    obtain ⟨_, _, _, q⟩ := hs
    exact False.elim q
  | cont =>
    obtain ⟨_, _, _, q⟩ := hs
    exact False.elim q
end L2

namespace L2
open PySem PySem.Spec PyProof.Rows
section
variable {X : Cx} {x : Str} {p pos : Pos} {e : Expr} {es : List Expr} {t : TA} {id T : String} {r : List V → Hp → VK → Prop}

def tCB (r : List V → Hp → VK → Prop) (t : TA) : TE := fun σ H Q => t σ H fun vs H1 => r vs H1 Q
/-- f(e, ..), f a built-in function -/
theorem pe_callB (hc : CallR X (.builtin id) r) (hg : Gl X x) (hm : X.mg x = none) (hv : bootBuiltins x = some (.builtin id)) (ha : PA X (e :: es) t) (hn : x ≠ "__name__" := by decide) (hdb : (x == ("__debug__" : Str)) = false := by decide)
    (he : starEach (e :: es) X.env = (false, eval e X.env) :: starEach es X.env := by rfl) (hpl : (backTo pos (starEach es X.env)).any (·.1) = false := by rfl) : PE X (.Call (.Name x p) (e :: es) [] pos) (tCB r t) := by
  intro pins s σ H Q I h
  refine wpAny_Call_Name_kw (ld_blt I hg hm hv ?_ hn hdb)
  exact PyProof.Rows.callWith_builtin1 (thn (ha pos pins s σ H _ I h) fun us s1 ⟨vs, H1, I1, r1, q1⟩ => hc pins s1 σ H1 vs us Q I1 r1 q1) he hpl
/-- T(e, ..), T a built-in type -/
theorem pe_callTy (hc : CallR X (.type T) r) (hg : Gl X x) (hm : X.mg x = none) (hv : bootBuiltins x = some (.type T)) (ha : PA X (e :: es) t) (hn : x ≠ "__name__" := by decide) (hdb : (x == ("__debug__" : Str)) = false := by decide)
    (he : starEach (e :: es) X.env = (false, eval e X.env) :: starEach es X.env := by rfl) (hpl : (backTo pos (starEach es X.env)).any (·.1) = false := by rfl) : PE X (.Call (.Name x p) (e :: es) [] pos) (tCB r t) := by
  intro pins s σ H Q I h
  refine wpAny_Call_Name_kw (ld_blt I hg hm hv ?_ hn hdb)
  exact PyProof.Rows.callWith_type1 (thn (ha pos pins s σ H _ I h) fun us s1 ⟨vs, H1, I1, r1, q1⟩ => hc pins s1 σ H1 vs us Q I1 r1 q1) he hpl
end
end L2

namespace HT
open PySem PyProof.Rows

/-- t < u of tuples of ints -/
def lexLt : List Int → List Int → Bool
  | [], [] => false
  | [], _ :: _ => true
  | _ :: _, [] => false
  | x :: xs, y :: ys => if x = y then lexLt xs ys else decide (x < y)
theorem lexLt_cons (x y : Int) (xs ys : List Int) : lexLt (x :: xs) (y :: ys) = if x = y then lexLt xs ys else decide (x < y) := rfl
theorem lexLt_nil_nil : lexLt [] [] = false := rfl
theorem eqAt_int (A : Around) (s : Shared) (a : Int) (t : Tok) (c : Int) (u : Tok) : ∃ e, SeqAt.EqAt A s (.int a t) (.int c u) e ∧ (e = true ↔ a = c) :=
  ⟨(a == c), SeqAt.EqAt.int_int a t c u, by simp⟩
section
open PySem.SeqAt
open PySem.AutoSeq1 (wpAny_loadPart')
open PySem.MeetsSeq PySem.MeetsSeq2 PySem.MeetsSeq3

end

section
variable {prog : Program} {w : World} {A : Around} {E : Value → Shared → Prop} {s : Shared}

/-! ### t[a:b], not the whole -/
/-- a slice's bound as a place among n (d where it is left out) -/
def sIx (n d : Nat) : Option Int → Nat
  | none => d
  | some v => if v < 0 then (v + (n : Int)).toNat else min v.toNat n
end
end HT

namespace L2
open PySem PySem.Spec PyProof.Rows

/-! ### the parts of a slice -/
abbrev TO := St → Hp → (Option Int → Hp → Prop) → Prop
/-- a slice's part (left out, or an int) -/
def PO (X : Cx) (e : Option Expr) (t : TO) : Prop :=
  ∀ (pins : List (Addr × Obj)) (s : Shared) (σ : St) (H : Hp) (Q : Option Int → Hp → Prop), Inv X pins σ H s → t σ H Q →
    wpAny (model X.prog X.w) X.A (evalPart e X.env) (fun u s' => ∃ o H', Inv X pins σ H' s' ∧ IsPart u o ∧ Q o H') X.xe s
def tPart (t : TE) : TO := fun σ H Q => t σ H fun x H1 => ∃ i, x = .int i ∧ Q (some i) H1

section
variable {X : Cx} {e : Expr} {te : TE} {lo hi : Option Expr} {tl th : TO} {pos p2 : Pos}

theorem po_some (h : PE X e te) : PO X (some e) (tPart te) := by
  intro pins s σ H Q I hw
  rw [evalPart_some]
  refine thn (h pins s σ H _ I hw) fun u s1 ⟨x, H1, I1, r1, q1⟩ => ?_
  obtain ⟨i, rfl, q⟩ := q1
  obtain ⟨t, rfl⟩ := r1
  exact ⟨some i, H1, I1, .int i t, q⟩

/-- what a slice of a value is, by values: the slice object stands at sl -/
def SlR (X : Cx) (r : V → Option Int → Option Int → Hp → VK → Prop) : Prop :=
  ∀ (pins : List (Addr × Obj)) (s : Shared) (σ : St) (H : Hp) (x : V) (v vl vu : Value) (lo hi : Option Int) (sl : Addr) (Q : VK), Inv X pins σ H s → RelV x v → s.heap.IsSliceOf sl vl vu .none → IsPart vl lo → IsPart vu hi → r x lo hi H Q →
    ∃ T id, typeLookup (.type T) "__getitem__" = pure (some (.builtin id)) ∧ s.TypeIs v T ∧ wpAny (model X.prog X.w) X.A (getItem v (.ref sl)) (EP X pins σ Q) X.xe s
theorem SlR.or {r r' : V → Option Int → Option Int → Hp → VK → Prop} (h : SlR X r) (h' : SlR X r') : SlR X (fun x lo hi H Q => r x lo hi H Q ∨ r' x lo hi H Q) := by
  intro pins s σ H x v vl vu lo hi sl Q I rx hs pl pu q
  rcases q with q | q
  · exact h pins s σ H x v vl vu lo hi sl Q I rx hs pl pu q
  · exact h' pins s σ H x v vl vu lo hi sl Q I rx hs pl pu q
def tSl (r : V → Option Int → Option Int → Hp → VK → Prop) (te : TE) (tl th : TO) : TE := fun σ H Q => te σ H fun x H1 => tl σ H1 fun l H2 => th σ H2 fun u H3 => r x l u H3 Q
/-- a[lo:hi], any a -/
theorem pe_slice {r : V → Option Int → Option Int → Hp → VK → Prop} (hr : SlR X r) (he : PE X e te) (hl : PO X lo tl) (hu : PO X hi th) : PE X (.Subscript e (.Slice lo hi none p2) pos) (tSl r te tl th) := by
  intro pins s σ H Q I h
  refine Subscript_ (thn (he pins s σ H _ I h) fun v s1 ⟨x, H1, I1, r1, q1⟩ => ?_)
  refine wpAny_Slice (thn (hl pins s1 σ H1 _ I1 q1) fun vl s2 ⟨l, H2, I2, pl, q2⟩ => thn (hu pins s2 σ H2 _ I2 q2) fun vu s3 ⟨u, H3, I3, pu, q3⟩ => ?_)
  rw [evalPart_none]
  refine wpAny_pure ?_
  have I4 : Inv X pins σ H3 { s3 with heap := s3.heap.push { cls := .type "slice", data := .fields #[vl, vu, .none] } } := I3.kept (t' := s3.toks) fun b ob q => Heap.get?_push_of_some _ q
  obtain ⟨T, id, hT, ht, hg⟩ := hr pins { s3 with heap := s3.heap.push { cls := .type "slice", data := .fields #[vl, vu, .none] } } σ H3 x v vl vu l u s3.heap.objs.size Q I4 r1 (Heap.IsSliceOf.new ..) pl pu q3
  show wpAny (model X.prog X.w) X.A (subscriptTail e (.Slice lo hi none p2) v (.ref s3.heap.objs.size)) (EP X pins σ Q) X.xe { s3 with heap := s3.heap.push { cls := .type "slice", data := .fields #[vl, vu, .none] } }
  exact tail_any (ops := [.ref s3.heap.objs.size, v]) ht hT hg (by with_unfolding_all rfl)

/-- the items of xs[lo:hi] -/
def cutV (xs : List V) (lo hi : Option Int) : List V := (xs.drop (HT.sIx xs.length 0 lo)).take (HT.sIx xs.length xs.length hi - HT.sIx xs.length 0 lo)
theorem cutV_length (xs : List V) (lo hi : Option Int) : (cutV xs lo hi).length ≤ xs.length := by
  unfold cutV
  rw [List.length_take, List.length_drop]
  omega
/-! ### t < u, t + u -/
end
end L2

namespace L2
open PySem PySem.Spec PyProof.Rows

/-! ### places -/
/-- the place that an index of any sign means -/
def ixN (n : Nat) (i : Int) : Option Nat := if 0 ≤ i then (if i < n then some i.toNat else none) else if -(n : Int) ≤ i then some (i + n).toNat else none
def atI {α : Type} (xs : List α) (i : Int) : Option α := (ixN xs.length i).bind fun j => xs[j]?
theorem ixN_seq {n : Nat} {i : Int} {j : Nat} (h : ixN n i = some j) : seqIndex? i n = some j ∧ j < n ∧ -(n : Int) ≤ i ∧ i < n := by
  unfold ixN at h
  by_cases h0 : 0 ≤ i
  · rw [if_pos h0] at h
    by_cases h1 : i < n
    · rw [if_pos h1] at h
      have e : i.toNat = j := Option.some.inj h
      exact ⟨by rw [seqIndex_of h0 h1, e], by omega, by omega, h1⟩
    · rw [if_neg h1] at h; cases h
  · rw [if_neg h0] at h
    by_cases h1 : -(n : Int) ≤ i
    · rw [if_pos h1] at h
      have e : (i + n).toNat = j := Option.some.inj h
      exact ⟨by rw [seqIndex_neg (by omega) h1, e], by omega, h1, by omega⟩
    · rw [if_neg h1] at h; cases h
theorem atI_get {α : Type} {xs : List α} {i : Int} {v : α} (h : atI xs i = some v) : ∃ j, seqIndex? i xs.length = some j ∧ xs[j]? = some v ∧ j < xs.length ∧ -(xs.length : Int) ≤ i ∧ i < xs.length := by
  unfold atI at h
  cases e : ixN xs.length i with
  | none => rw [e] at h; cases h
  | some j =>
    rw [e] at h
    obtain ⟨h1, h2, h3, h4⟩ := ixN_seq e
    exact ⟨j, h1, h, h2, h3, h4⟩
theorem atI_nat {α : Type} {xs : List α} {j : Nat} {v : α} (h : xs[j]? = some v) : atI xs (j : Int) = some v := by
  have hj : j < xs.length := (List.getElem?_eq_some_iff.mp h).1
  have e : ixN xs.length (j : Int) = some j := by
    unfold ixN
    rw [if_pos (by omega), if_pos (by omega)]; simp
  unfold atI; rw [e]; exact h
/-! ### what may be subscripted -/
/-- what stands as an index of a plain subscript -/
def PlainIx (b : Expr) : Prop := ∀ o i, subscripted b false o i = operate [o, i] (getItem o i)
/-- a subscript by values -/
def IxR (X : Cx) (r : R2) : Prop :=
  ∀ (value slice : Expr) (pins : List (Addr × Obj)) (s : Shared) (σ : St) (H : Hp) (x y : V) (v u : Value) (Q : VK), Inv X pins σ H s → RelV x v → RelV y u → r x y H Q →
    subscripted slice false v u = operate [v, u] (getItem v u) → wpAny (model X.prog X.w) X.A (subscriptTail value slice v u) (EP X pins σ Q) X.xe s
/-- a call of a builtin's method by values: the receiver, the arguments -/
def MtR (X : Cx) (id : String) (r : V → List V → Hp → VK → Prop) : Prop :=
  ∀ (pins : List (Addr × Obj)) (s : Shared) (σ : St) (H : Hp) (x : V) (xs : List V) (v : Value) (us : List Value) (Q : VK), Inv X pins σ H s → RelV x v → Vals xs us → r x xs H Q →
    wpAny (model X.prog X.w) X.A (call (.builtin id) (v :: us)) (EP X pins σ Q) X.xe s
section
variable {X : Cx} {a b : Expr} {ta tb : TE} {pos : Pos}
theorem IxR.or {r r' : R2} (h : IxR X r) (h' : IxR X r') : IxR X (fun x y H Q => r x y H Q ∨ r' x y H Q) := by
  intro value slice pins s σ H x y v u Q I rx ry q hs
  rcases q with q | q
  · exact h value slice pins s σ H x y v u Q I rx ry q hs
  · exact h' value slice pins s σ H x y v u Q I rx ry q hs
theorem MtR.or {id : String} {r r' : V → List V → Hp → VK → Prop} (h : MtR X id r) (h' : MtR X id r') : MtR X id (fun x xs H Q => r x xs H Q ∨ r' x xs H Q) := by
  intro pins s σ H x xs v us Q I rx rs q
  rcases q with q | q
  · exact h pins s σ H x xs v us Q I rx rs q
  · exact h' pins s σ H x xs v us Q I rx rs q
/-- a[b] -/
theorem pe_ix {r : R2} (hr : IxR X r) (ha : PE X a ta) (hb : PE X b tb) (hs : PlainIx b) : PE X (.Subscript a b pos) (tOp r ta tb) := by
  intro pins s σ H Q I h
  exact Subscript_ (binT ha hb I h fun v u s2 x y H2 I2 rx ry q => hr a b pins s2 σ H2 x y v u Q I2 rx ry q (hs _ _))

def rIxL (K : PySem.W.Frag) : R2 := fun x y H Q => ∃ p xs i v, x = .ref p ∧ y = .int i ∧ SqL K H p xs ∧ atI xs i = some v ∧ Q v H
def rIxT (K : PySem.W.Frag) : R2 := fun x y H Q => ∃ p xs i v, x = .ref p ∧ y = .int i ∧ SqT K H p xs ∧ atI xs i = some v ∧ Q v H
theorem ix_list : IxR X (rIxL X.K) := by
  intro value slice pins s σ H x y v u Q I rx ry h hs
  obtain ⟨p, xs, i, z, rfl, rfl, hq, he, q⟩ := h
  cases rx
  obtain ⟨t, rfl⟩ := ry
  obtain ⟨its, r, pl, hz⟩ := I.list hq
  obtain ⟨j, h1, h2, h3, h4, h5⟩ := atI_get he
  obtain ⟨w, ew, rw'⟩ := r.get h2
  have hl := r.length
  have hn := line63
  have fin : EP X pins σ Q w s := ⟨z, H, I, rw', q⟩
  by_cases h0 : 0 ≤ i
  · have hj : i.toNat = j := by
      rw [seqIndex_of h0 h5] at h1
      exact Option.some.inj h1
    exact item_listR pl.isList h0 (by omega) (by rw [hj]; simpa using ew) fin hs
  · have hj : (i + (its.toArray.size : Int)).toNat = j := by
      rw [seqIndex_neg (by omega) h4] at h1
      rw [List.size_toArray, ← hl]
      exact Option.some.inj h1
    exact subscriptTail_builtinR (x := w) pl.isList.typeIs slot_list_getitem.lookup
      (wpAny_getItem_list_neg (Q := fun r s' => r = w ∧ EP X pins σ Q r s') pl.isList (by omega) (by rw [List.size_toArray] <;> omega) (by omega) (by rw [hj]; simpa using ew) ⟨rfl, fin⟩) hs
theorem ix_tup : IxR X (rIxT X.K) := by
  intro value slice pins s σ H x y v u Q I rx ry h hs
  obtain ⟨p, xs, i, z, rfl, rfl, hq, he, q⟩ := h
  cases rx
  obtain ⟨t, rfl⟩ := ry
  obtain ⟨its, r, pl, hz⟩ := I.tuple hq
  obtain ⟨j, h1, h2, h3, h4, h5⟩ := atI_get he
  obtain ⟨w, ew, rw'⟩ := r.get h2
  have hl := r.length
  have hn := line63
  have fin : EP X pins σ Q w s := ⟨z, H, I, rw', q⟩
  exact subscriptTail_builtinR (x := w) pl.typeIs slot_tuple_getitem.lookup
    (getItem_tuple (j := j) (Q := fun r s' => r = w ∧ EP X pins σ Q r s') pl (by omega) (by omega) (by rw [List.size_toArray, ← hl]; exact h1) (by simpa using ew) ⟨rfl, fin⟩) hs
/-! ### xs[i] = v, any sign -/
theorem Inv.lst {pins : List (Addr × Obj)} {σ : St} {H : Hp} {s : Shared} {p : Addr} {xs : List V} (I : Inv X pins σ H s) (h : H p = some (.lst xs)) :
    ∃ (its : List Value) (n : Nat), Vals xs its ∧ s.heap.get? p = some { cls := .type "list", data := .seq its.toArray n } ∧ xs.length ≤ sizeLine := by
  obtain ⟨z, its, n, r, e⟩ := I.hok p _ h
  exact ⟨its, n, r, e, z⟩
/-! ### slices -/
theorem slice_bounds (lo hi : Option Int) (n : Nat) : (sliceBounds lo hi none n).1 = ((HT.sIx n 0 lo : Nat) : Int) ∧ (sliceBounds lo hi none n).2.1 = ((HT.sIx n n hi : Nat) : Int) ∧ (sliceBounds lo hi none n).2.2 = 1 := by
  refine ⟨?_, ?_, rfl⟩
  · cases lo with
    | none => simp [sliceBounds, HT.sIx]
    | some i =>
      simp only [sliceBounds, HT.sIx, Option.getD_none, show (1 : Int) > 0 by decide, if_true]
      by_cases h : i < 0
      · simp only [h, if_true] <;> omega
      · simp only [h, if_false] <;> omega
  · cases hi with
    | none => simp [sliceBounds, HT.sIx]
    | some i =>
      simp only [sliceBounds, HT.sIx, Option.getD_none, show (1 : Int) > 0 by decide, if_true]
      by_cases h : i < 0
      · simp only [h, if_true] <;> omega
      · simp only [h, if_false] <;> omega
theorem slicePick_cut (its : List Value) (lo hi : Option Int) : slicePick its.toArray lo hi none = ((its.drop (HT.sIx its.length 0 lo)).take (HT.sIx its.length its.length hi - HT.sIx its.length 0 lo)).toArray := by
  obtain ⟨h1, h2, h3⟩ := slice_bounds lo hi its.toArray.size
  unfold slicePick
  rw [h1, h2, h3]
  simp only [sliceRange_one, pick_run, List.size_toArray] <;> rfl
/-- xs[lo:hi] of a list: a new list -/
def rSlL (K : PySem.W.Frag) : V → Option Int → Option Int → Hp → VK → Prop := fun x lo hi H Q => ∃ a xs, x = .ref a ∧ SqL K H a xs ∧ ∀ p, H p = none → Q (.ref p) (upd H p (.lst (cutV xs lo hi)))
theorem sl_list : SlR X (rSlL X.K) := by
  intro pins s σ H x v vl vu lo hi sl Q I rx hs pl pu h
  obtain ⟨a, xs, rfl, hx, q⟩ := h
  cases rx
  obtain ⟨its, r, ht, hz⟩ := I.list hx
  have hlen := r.length
  refine ⟨"list", _, slot_list_getitem.lookup, ht.isList.typeIs, ?_⟩
  refine wpAny_getItem_list_slice ht.isList hs pl pu .none (by simp) ?_ (by rw [List.size_toArray] <;> omega)
  rw [slicePick_cut, ← hlen]
  refine ⟨.ref s.heap.objs.size, _, I.laid (t' := s.toks) (o := .lst (cutV xs lo hi)) (fun b ob q => Heap.get?_push_of_some _ q) (Nat.le_refl _) ?_, rfl, q _ (I.hok.fresh (Nat.le_refl _))⟩
  exact ⟨Nat.le_trans (cutV_length xs lo hi) hz, _, 0, (r.drop (HT.sIx xs.length 0 lo)).take (HT.sIx xs.length xs.length hi - HT.sIx xs.length 0 lo), Heap.get?_push_size _ rfl⟩

/-! ### in, not in: flat items -/
/-! ### len, list(x), tuple(x) of any list or tuple that is read -/
theorem call_len_seq : CallR X (.builtin "len") (fun xs H Q => ∃ p ys, xs = [.ref p] ∧ (SqL X.K H p ys ∨ SqT X.K H p ys) ∧ Q (.int ys.length) H) := by
  intro pins s σ H xs us Q I r h
  obtain ⟨p, ys, rfl, hq, q⟩ := h
  obtain ⟨u, rfl, rx⟩ := vals1 r
  cases rx
  have hn := line63
  rcases hq with hq | hq
  · obtain ⟨its, r', pl, hz⟩ := I.list hq
    have hlen := r'.length
    exact Calls.call_len_list pl.isList (by simp only [List.size_toArray] <;> omega) ⟨.int ys.length, H, I.tok _, ⟨s.toks + 1, by rw [List.size_toArray, hlen]⟩, q⟩
  · obtain ⟨its, r', pl, hz⟩ := I.tuple hq
    have hlen := r'.length
    exact len_tuple pl (by simp only [List.size_toArray] <;> omega) ⟨.int ys.length, H, I.tok _, ⟨s.toks + 1, by rw [List.size_toArray, hlen]⟩, q⟩
theorem CallR.or {f : Value} {r r' : List V → Hp → VK → Prop} (h : CallR X f r) (h' : CallR X f r') : CallR X f (fun xs H Q => r xs H Q ∨ r' xs H Q) := by
  intro pins s σ H xs us Q I rs q
  rcases q with q | q
  · exact h pins s σ H xs us Q I rs q
  · exact h' pins s σ H xs us Q I rs q
theorem call_list_of : CallR X (.type "list") (fun xs H Q => ∃ p ys, xs = [.ref p] ∧ (SqL X.K H p ys ∨ SqT X.K H p ys) ∧ ∀ l, H l = none → Q (.ref l) (upd H l (.lst ys))) := by
  intro pins s σ H xs us Q I r h
  obtain ⟨p, ys, rfl, hq, q⟩ := h
  obtain ⟨u, rfl, rx⟩ := vals1 r
  cases rx
  have fin : ∀ (its : List Value), Vals ys its → ys.length ≤ sizeLine → ∀ (h' : Heap) (c' : Nat), (∀ b o', s.heap.get? b = some o' → h'.get? b = some o') →
      h'.get? s.heap.objs.size = some { cls := .type "list", dict := none, data := .seq its.toArray c', slots := #[] } → EP X pins σ Q (.ref s.heap.objs.size) { s with heap := h' } := fun its r' hz h' c' kp e =>
    ⟨.ref s.heap.objs.size, _, I.laid (t' := s.toks) kp (Nat.le_refl _) (show ObjOk X.prog X.w _ h' _ (.lst ys) from ⟨hz, its, c', r', e⟩), rfl, q _ (I.hok.fresh (Nat.le_refl _))⟩
  rcases hq with hq | hq
  · obtain ⟨its, r', pl, hz⟩ := I.list hq
    have hlen := r'.length
    obtain ⟨o, ho, hc, n, hd⟩ := pl.isList
    exact call_list_seq p (.inl rfl) ho hc hd (fun h' c' kp e => fin its r' hz h' c' kp e) (by simp only [List.size_toArray] <;> omega)
  · obtain ⟨its, r', pl, hz⟩ := I.tuple hq
    have hlen := r'.length
    obtain ⟨o, ho, hc, n, hd⟩ := pl
    exact call_list_seq p (.inr rfl) ho hc hd (fun h' c' kp e => fin its r' hz h' c' kp e) (by simp only [List.size_toArray] <;> omega)
/-! ### the call of a builtin's method: o.m(..) -/
/-- the value is of that builtin type -/
def tyV (K : PySem.W.Frag) (T : String) (x : V) (H : Hp) : Prop := match x with
  | .str _ => T = "str"
  | .int _ => T = "int"
  | .ref p => (T = "list" ∧ ∃ xs, SqL K H p xs) ∨ (T = "tuple" ∧ ∃ o, K.lookup p = some o ∧ o.cls = .type "tuple" ∧ o.dict = none) ∨
      (T = "dict" ∧ ((∃ kvs, H p = some (.dK kvs)) ∨ ∃ kvs, H p = some (.dT kvs))) ∨ (T = "set" ∧ ∃ S n, H p = some (.set S n))
  | _ => False
theorem tyV_is {pins : List (Addr × Obj)} {σ : St} {H : Hp} {s : Shared} {T : String} {x : V} {v : Value} (I : Inv X pins σ H s) (r : RelV x v) (ty : tyV X.K T x H) :
    s.TypeIs v T ∧ ∀ a, v = .ref a → ∃ ob, s.heap.get? a = some ob ∧ ob.dict = none := by
  cases x with
  | str z =>
    obtain ⟨t, rfl⟩ := r
    cases (show T = "str" from ty)
    exact ⟨typeIs_str s z t, fun _ e => nomatch e⟩
  | int i =>
    obtain ⟨t, rfl⟩ := r
    cases (show T = "int" from ty)
    exact ⟨typeIs_int s i t, fun _ e => nomatch e⟩
  | ref p =>
    cases r
    rcases ty with ⟨rfl, xs, hq⟩ | ⟨rfl, o, hk, hc, hd⟩ | ⟨rfl, hk⟩ | ⟨rfl, S, n, hk⟩
    · obtain ⟨its, _, pl, _⟩ := I.list hq
      refine ⟨pl.isList.typeIs, fun a e => ?_⟩
      cases e
      obtain ⟨o, n, e, c, hd, _⟩ := pl
      exact ⟨o, e, hd⟩
    · refine ⟨⟨o, I.kIn p o hk, hc⟩, fun a e => ?_⟩
      cases e
      exact ⟨o, I.kIn _ o hk, hd⟩
    · have z : ∃ o, s.heap.get? p = some o ∧ o.ExactDict := by
        rcases hk with ⟨kvs, hk⟩ | ⟨kvs, hk⟩
        · obtain ⟨_, _, _, _, o, _, _, e, ex, _⟩ := I.hok p _ hk
          exact ⟨o, e, ex⟩
        · obtain ⟨_, _, _, _, o, _, _, e, ex, _⟩ := I.hok p _ hk
          exact ⟨o, e, ex⟩
      obtain ⟨o, e, ex⟩ := z
      refine ⟨⟨o, e, ex.1⟩, fun a e2 => ?_⟩
      cases e2
      exact ⟨o, e, ex.2.1⟩
    · obtain ⟨o, _, _, _, e, ex, _⟩ := I.hok p _ hk
      refine ⟨⟨o, e, ex.1⟩, fun a e2 => ?_⟩
      cases e2
      exact ⟨o, e, ex.2.1⟩
  | _ => exact False.elim ty
def tBM (K : PySem.W.Frag) (T : String) (r : V → List V → Hp → VK → Prop) (to : TE) (t : TA) : TE := fun σ H Q => to σ H fun x H1 => tyV K T x H1 ∧ t σ H1 fun xs H2 => r x xs H2 Q
variable {o e : Expr} {es : List Expr} {to : TE} {t : TA} {name : Str} {apos cpos : Pos} {T id : String} {r : V → List V → Hp → VK → Prop}
theorem pe_bm (pa : PlainAttrs T) (slot : Slot T name id) (hty : typeOf (.builtin id) = pure (.type "method_descriptor")) (hm : MtR X id r) (ho : PE X o to) (ha : PA X (e :: es) t)
    (hbase : attributeBase o name X.env (eval o X.env) = eval o X.env := by rfl)
    (hfew : ((backTo cpos (starEach (e :: es) X.env)).all (fun x => !x.1) && (backToKw cpos (keywordEach [] X.env)).all (fun x => x.1.isSome)
      && decide ((e :: es).length + ([] : List Keyword).length + (if ([] : List Keyword).isEmpty then 0 else 1) < 30)) = true := by rfl)
    (hline : (apos.endLine == cpos.line) = true := by rfl) (hs : starEach (e :: es) X.env = (false, eval e X.env) :: starEach es X.env := by rfl) (hplain : (backTo cpos (starEach es X.env)).any (·.1) = false := by rfl) :
    PE X (.Call (.Attribute o name apos) (e :: es) [] cpos) (tBM X.K T r to t) := by
  intro pins s σ H Q I h
  refine wpAny_Call_method_late hbase hfew hline rfl (thn (ho pins s σ H _ I h) fun v s1 ⟨x, H1, I1, r1, ty, q1⟩ => ?_)
  obtain ⟨h1, h2⟩ := tyV_is I1 r1 ty
  refine ⟨T, id, pa, slot, hty, h1, h2, ?_⟩
  have hA := ha cpos pins s1 σ H1 _ I1 q1
  rw [hs] at hA ⊢
  refine Calls.callWith_builtin (by show (false || (backTo cpos (starEach es X.env)).any (·.1)) = false; rw [hplain] <;> rfl) (Calls.evalArgs_plain ?_)
  exact thn hA fun us s2 ⟨vs, H2, I2, r2, q2⟩ => hm pins s2 σ H2 x vs v us Q I2 r1 r2 q2
/- xs.append(e), list.index on a module's tuple .. are MtR facts of 06m -/
end
end L2

namespace L2
open PySem PySem.Spec PyProof.Rows

def MtM (X : Cx) (id : String) (r : V → List V → Hp → VK → Prop) : Prop :=
  ∀ (pins : List (Addr × Obj)) (s : Shared) (σ : St) (H : Hp) (x : V) (xs : List V) (v : Value) (us : List Value) (Q : VK), Inv X pins σ H s → RelV x v → Vals xs us → r x xs H Q →
    wpAny (model X.prog X.w) X.A (call (.builtin id) (v :: us)) (EP X pins σ Q) X.xe s

/-! ### lists of values -/
theorem Vals.one : ∀ {x : V} {us : List Value}, Vals [x] us → ∃ u, us = [u] ∧ RelV x u
  | _, _, .cons r .nil => ⟨_, rfl, r⟩
theorem Vals.two : ∀ {x y : V} {us : List Value}, Vals [x, y] us → ∃ u v, us = [u, v] ∧ RelV x u ∧ RelV y v
  | _, _, _, .cons r (.cons q .nil) => ⟨_, _, rfl, r, q⟩
theorem Vals.zero : ∀ {us : List Value}, Vals [] us → us = []
  | _, .nil => rfl
theorem Vals.reverse {xs : List V} {us : List Value} (h : Vals xs us) : Vals xs.reverse us.reverse := by
  induction h with
  | nil => exact .nil
  | cons r t ih => rw [List.reverse_cons, List.reverse_cons]; exact Vals.append ih (.cons r .nil)
section
variable {X : Cx} {pins : List (Addr × Obj)} {σ : St} {H : Hp} {s : Shared} {l b : Addr} {xs ys zs : List V}

/-! ### the two steps: a tracked list is rewritten, a new list is laid -/
theorem Inv.lset {its its' : List Value} {n : Nat} {f : Array Value → Array Value} {t' : Nat} (I : Inv X pins σ H s) (hH : H l = some (.lst xs))
    (e : s.heap.get? l = some { cls := .type "list", data := .seq its.toArray n }) (hf : f its.toArray = its'.toArray) (hv : Vals ys its') (hz : ys.length ≤ sizeLine) :
    Inv X pins σ (upd H l (.lst ys)) { s with heap := s.heap.update l (Obj.mapSeq f), toks := t' } := by
  have q := PySem.IsL.update e f
  rw [hf] at q
  refine I.write (x := l) (e := l) (by rw [hH]; exact trivial) (.inl rfl) (fun b' u hb hu => (Heap.get?_update_other s.heap (Obj.mapSeq f) (Ne.symm hb)).trans hu) ⟨_, q⟩ ?_
  exact ⟨hz, its', _, hv, q⟩
theorem Inv.fresh (I : Inv X pins σ H s) : H s.heap.objs.size = none := I.hok.fresh (Nat.le_refl _)
theorem Inv.lstM (I : Inv X pins σ H s) (hH : H l = some (.lst xs)) : xs.length ≤ sizeLine ∧ ∃ (its : List Value) (n : Nat), Vals xs its ∧ xs.length = its.length ∧ s.heap.get? l = some { cls := .type "list", data := .seq its.toArray n } := by
  obtain ⟨z, its, n, r, e⟩ := I.hok l _ hH
  exact ⟨z, its, n, r, r.length, e⟩

theorem notLongL {n : Nat} (h : n ≤ sizeLine) : Builtin.List.listTooLong n = false := by
  unfold Builtin.List.listTooLong
  exact decide_eq_false (by omega)
end

section
variable {X : Cx}

/-! ### methods -/
def rAppend : V → List V → Hp → VK → Prop := fun x vs H Q => ∃ l xs y, x = .ref l ∧ vs = [y] ∧ H l = some (.lst xs) ∧ xs.length < sizeLine ∧ Q .non (upd H l (.lst (xs ++ [y])))
theorem mt_append : MtM X "list.append" rAppend := by
  intro pins s σ H x vs v us Q I rx rv h
  obtain ⟨l, xs, y, rfl, rfl, hH, hz, q⟩ := h
  cases rx
  obtain ⟨u, rfl, ru⟩ := rv.one
  obtain ⟨z, its, n, r, hl, e⟩ := I.lstM hH
  refine call_meets F.slot_list_append ⟨_, e, rfl⟩ F.entry_list_append (F.args_list_append_2 _ _) (PySem.list_append l its.toArray n u (by rw [List.size_toArray]; omega)) ⟨e, ?_⟩
  refine ⟨.non, _, I.lset (its' := its ++ [u]) hH e (by simp) (r.append (.cons ru .nil)) ?_, rfl, q⟩
  rw [List.length_append, List.length_singleton]
  omega

/-! ### list + list, list += list, list * int -/
/-! ### del xs[i] -/
end

/-! ### xs[a:b] = ys -/
section
variable {prog : Program} {w : World} {A : Around} {E : Value → Shared → Prop} {s : Shared}
theorem bounds_run {a c n : Nat} (hac : a ≤ c) (hc : c ≤ n) : sliceBounds (some (a : Int)) (some (c : Int)) none n = ((a : Int), (c : Int), 1) := by
  simp only [sliceBounds, Option.getD_none]
  have h1 : ¬ ((a : Int) < 0) := by omega
  have h2 : ¬ ((c : Int) < 0) := by omega
  simp only [h1, h2, if_false, show (1 : Int) > 0 by decide, if_true]
  congr 1
  · omega
  · congr 1; omega
set_option maxRecDepth 100000 in
/-- list.__setitem__ with a slice of step one and another list -/
theorem setItem_slice {l b sl : Addr} {items new : Array Value} {n n2 : Nat} {vl vu : Value} {a c : Nat} {Q : Unit → Shared → Prop}
    (e : s.heap.get? l = some { cls := .type "list", data := .seq items n }) (e2 : s.heap.get? b = some { cls := .type "list", data := .seq new n2 }) (hne : l ≠ b)
    (hs : s.heap.IsSliceOf sl vl vu .none) (pl : IsPart vl (some (a : Int))) (pu : IsPart vu (some (c : Int))) (hac : a ≤ c) (hc : c ≤ items.size)
    (hsz : items.size + new.size ≤ sizeLine) (h : Q () { s with heap := s.heap.update l (Obj.mapSeq fun xs => xs.extract 0 a ++ new ++ xs.extract c xs.size) }) :
    wpAny (model prog w) A (setItem (.ref l) (.ref sl) (.ref b)) Q E s := by
  have hl : s.heap.IsList l items := PySem.IsL.isList e
  have hb : s.heap.IsList b new := PySem.IsL.isList e2
  obtain ⟨os, hos, hcs, hds⟩ := id hs
  have hTs : s.TypeIs (.ref sl) "slice" := ⟨os, hos, hcs⟩
  have hstep : ¬ ((rawPart none == rawInt 0) = true) := Bool.false_ne_true
  have hsame : Builtin.List.listSameRef (.ref l) (.ref b) = false := by
    unfold Builtin.List.listSameRef
    exact beq_eq_false_iff_ne.mpr hne
  have hmax : (max (a : Int) (c : Int)).toNat = c := by omega
  have hz' : ((fun xs : Array Value => xs.extract 0 a ++ new ++ xs.extract c xs.size) items).size ≤ sizeLine + 1 := by
    simp only [Array.size_append, Array.size_extract]
    omega
  unfold setItem
  try with_reducible refine wpAny_holding ?_
  first | refine wpAny_bind (wpAny_pure ?_) | skip
  refine wpAny_bind (wpAny_sequenceKey hl.typeIs (by decide) ?_)
  refine wpAny_bind (wpAny_callSpecial?_slot (name := Str.ofString "__setitem__") hl.typeIs slot_list_setitem
    (wpAny_call_entry slot_list_setitem hl.typeIs entry_list_setitem ?_ (args_list_setitem _ _ _)))
  show wpAny _ _ (Builtin.List.listSubscript? (.ref sl) >>= _) _ _ s
  refine wpAny_bind ?_
  unfold Builtin.List.listSubscript?
  refine wpAny_bind (wpAny_specialOf hTs slice_no_index ?_)
  simp only [Option.isNone_none, if_true]
  refine wpAny_pure ?_
  show wpAny _ _ (typeOf (.ref sl) >>= _) _ _ s
  refine wpAny_bind (wpAny_typeOf hTs ?_)
  first
    | rw [if_neg (by decide)]
    | refine PySem.W.KFB.if_not (by decide) ?_
  rw [listSliceParts_eq]
  refine wpAny_bind (wpAny_bind (wpAny_field hos hds (x := .none) rfl (wpAny_bind (wpAny_listPart .none ?_))))
  rw [if_neg hstep]
  refine wpAny_bind (wpAny_field hos hds (x := vl) rfl (wpAny_bind (wpAny_listPart pl ?_)))
  refine wpAny_bind (wpAny_field hos hds (x := vu) rfl (wpAny_bind (wpAny_listPart pu (wpAny_pure ?_))))
  first
    | simp only [hsame, Bool.false_eq_true, if_false]
    | refine PySem.W.KFB.if_not hsame ?_
    | (dsimp only
       rw [if_neg (by rw [hsame]; exact Bool.false_ne_true)])
  refine wpAny_bind (m := Builtin.List.listAllItems (.ref b) "must assign iterable to extended slice") ?_
  unfold Builtin.List.listAllItems
  refine wpAny_bind (wpAny_typeOf hb.typeIs ?_)
  first
    | refine PySem.W.KFB.if_so (by decide) ?_
    | rw [if_pos (by decide)]
    | simp only [beq_self_eq_true, Bool.true_or, if_true]
  unfold Builtin.List.listItems
  refine wpAny_bind (wpAny_seqItems e2 rfl (wpAny_pure ?_))
  refine wpAny_bind (wpAny_bind (wpAny_seqItems e rfl (wpAny_pure ?_)))
  refine wpAny_bind (wpAny_of_eq ((sliceIndices_raw (some (a : Int)) (some (c : Int)) none items.size (by simp)).trans (congrArg (pure : Int × Int × Int → Sem (Int × Int × Int)) (bounds_run hac hc))) ?_)
  show wpAny _ _ (if ((1 : Int) == 1) = true then _ else _) _ _ s
  rw [if_pos (by decide)]
  refine wpAny_bind (wpAny_rule ?_)
  first
    | simp only [notLongL hsz, Bool.false_eq_true, if_false]
    | refine PySem.W.KFB.if_not (notLongL hsz) ?_
  first | refine wpAny_bind (wpAny_pure ?_) | skip
  show wpAny _ _ (updateSeq l (fun xs => xs.extract 0 ((a : Int)).toNat ++ new ++ xs.extract (max (a : Int) (c : Int)).toNat xs.size) >>= _) _ _ s
  rw [hmax, Int.toNat_natCast]
  refine wpAny_bind (wpAny_updateSeq (hz := Nat.le_trans (Nat.le_add_right _ _) hsz) (_hz' := hz') e rfl ?_)
  refine wpAny_bind (wpAny_letGo ?_)
  first
    | exact wpAny_bind (wpAny_pure (wpAny_pure ⟨.none, rfl, wpAny_pure h⟩))
    | exact wpAny_pure ⟨.none, rfl, wpAny_pure h⟩
end

section
variable {X : Cx}
end
end L2

namespace L2
open PySem PySem.Spec PyProof.Rows

/-! ### lists of pairs as tables -/
section
variable {κ : Type} [DecidableEq κ]
def valV (kvs : List (κ × V)) (k : κ) : Option V := (kvs.find? fun kv => decide (kv.1 = k)).map (·.2)
/-- in its place, or at the end -/
def putK (kvs : List (κ × V)) (k : κ) (v : V) : List (κ × V) :=
  if (kvs.any fun kv => decide (kv.1 = k)) = true then kvs.map (fun kv => if kv.1 = k then (kv.1, v) else kv) else kvs ++ [(k, v)]
def dropK (kvs : List (κ × V)) (k : κ) : List (κ × V) := kvs.filter fun kv => decide (kv.1 ≠ k)

theorem valV_pos {p : κ × V} {r : List (κ × V)} {k : κ} (e : p.1 = k) : valV (p :: r) k = some p.2 := by simp [valV, List.find?_cons, e]
theorem valV_neg {p : κ × V} {r : List (κ × V)} {k : κ} (e : ¬ p.1 = k) : valV (p :: r) k = valV r k := by simp [valV, List.find?_cons, e]
theorem valV_any (k : κ) : ∀ kvs : List (κ × V), (kvs.any fun kv => decide (kv.1 = k)) = (valV kvs k).isSome
  | [] => rfl
  | p :: r => by
    rw [List.any_cons]
    by_cases e : p.1 = k
    · simp only [valV_pos e, decide_eq_true e, Bool.true_or, Option.isSome_some]
    · rw [valV_neg e, decide_eq_false e, Bool.false_or]; exact valV_any k r
theorem RelO.isSome_eq {o : Option V} {u : Option Value} (r : RelO o u) : o.isSome = u.isSome := by
  cases o with
  | none => cases u with
    | none => rfl
    | some _ => exact (show False from r).elim
  | some _ => cases u with
    | none => exact (show False from r).elim
    | some _ => rfl
theorem RelO.getD {o : Option V} {u : Option Value} {d : V} {d' : Value} (r : RelO o u) (rd : RelV d d') : RelV (o.getD d) (u.getD d') := by
  cases o with
  | none => cases u with
    | none => exact rd
    | some _ => exact (show False from r).elim
  | some _ => cases u with
    | none => exact (show False from r).elim
    | some _ => exact r

/-- raw tables of the same keys -/
theorem KV.val {kvs : List (κ × V)} {vs : List (κ × Value)} (r : KV kvs vs) (k : κ) : RelO (valV kvs k) (valueAt vs k) := by
  unfold KV at r
  induction r with
  | nil => exact True.intro
  | @cons p q ps qs h t ih =>
    obtain ⟨h1, h2⟩ := h
    by_cases e : p.1 = k
    · have e' : q.1 = k := h1.symm.trans e
      have b : valueAt (q :: qs) k = some q.2 := by simp [valueAt, List.find?_cons, e']
      rw [valV_pos e, b]; exact h2
    · have e' : ¬ q.1 = k := fun z => e (h1.trans z)
      have b : valueAt (q :: qs) k = valueAt qs k := by simp [valueAt, List.find?_cons, e']
      rw [valV_neg e, b]; exact ih
theorem KV.any {kvs : List (κ × V)} {vs : List (κ × Value)} (r : KV kvs vs) (k : κ) : (kvs.any fun kv => decide (kv.1 = k)) = vs.any fun kv => decide (kv.1 = k) := by
  unfold KV at r
  induction r with
  | nil => rfl
  | cons h t ih => rw [List.any_cons, List.any_cons, ih, h.1]
theorem KV.repl {kvs : List (κ × V)} {vs : List (κ × Value)} (r : KV kvs vs) (k : κ) {y : V} {u : Value} (ry : RelV y u) :
    KV (kvs.map fun kv => if kv.1 = k then (kv.1, y) else kv) (vs.map fun kv => if kv.1 = k then (kv.1, u) else kv) := by
  unfold KV at r ⊢
  induction r with
  | nil => exact .nil
  | @cons p q ps qs h t ih =>
    rw [List.map_cons, List.map_cons]
    refine .cons ?_ ih
    obtain ⟨h1, h2⟩ := h
    by_cases e : p.1 = k
    · rw [if_pos e, if_pos (h1.symm.trans e)]; exact ⟨h1, ry⟩
    · rw [if_neg e, if_neg (fun z => e (h1.trans z))]; exact ⟨h1, h2⟩
theorem KV.put {kvs : List (κ × V)} {vs : List (κ × Value)} (r : KV kvs vs) (k : κ) {y : V} {u : Value} (ry : RelV y u) : KV (putK kvs k y) (stored vs k u) := by
  unfold putK stored
  rw [r.any k]
  by_cases e : (vs.any fun kv => decide (kv.1 = k)) = true
  · rw [if_pos e, if_pos e]; exact r.repl k ry
  · rw [if_neg e, if_neg e]; exact Paired.snoc r ⟨rfl, ry⟩
theorem KV.drop {kvs : List (κ × V)} {vs : List (κ × Value)} (r : KV kvs vs) (k : κ) : KV (dropK kvs k) (without vs k) := by
  unfold KV at r ⊢
  unfold dropK without
  induction r with
  | nil => exact .nil
  | @cons p q ps qs h t ih =>
    obtain ⟨h1, h2⟩ := h
    rw [List.filter_cons, List.filter_cons]
    by_cases e : p.1 = k
    · have a : ¬ decide (p.1 ≠ k) = true := by simp [e]
      have b : ¬ decide (q.1 ≠ k) = true := by simp [h1.symm.trans e]
      rw [if_neg a, if_neg b]; exact ih
    · have e' : ¬ q.1 = k := fun z => e (h1.trans z)
      have a : decide (p.1 ≠ k) = true := by simp [e]
      have b : decide (q.1 ≠ k) = true := by simp [e']
      rw [if_pos a, if_pos b]; exact .cons ⟨h1, h2⟩ ih
theorem KV.keys {kvs : List (κ × V)} {vs : List (κ × Value)} (r : KV kvs vs) : kvs.map (·.1) = vs.map (·.1) := by
  unfold KV at r
  induction r with
  | nil => rfl
  | cons h t ih => rw [List.map_cons, List.map_cons, ih, h.1]
theorem KV.length {kvs : List (κ × V)} {vs : List (κ × Value)} (r : KV kvs vs) : kvs.length = vs.length := Paired.length r
end


/-! ### a tracked dict, its keys ints and texts or tuples of these -/
/-- raw entries of a dict with tuple keys -/
abbrev KT (H : Hp) : List (List Key × V) → List (List Key × Addr × Value) → Prop := Paired fun p q => p.1 = q.1 ∧ H q.2.1 = some (.tup (p.1.map kV)) ∧ RelV p.2 q.2.2
theorem KT.val {H : Hp} {kvs : List (List Key × V)} {xs : List (List Key × Addr × Value)} (r : KT H kvs xs) (k : List Key) : RelO (valV kvs k) ((atKey xs k).map (·.2)) := by
  induction r with
  | nil => exact True.intro
  | @cons p q ps qs h t ih =>
    obtain ⟨h1, _, h2⟩ := h
    by_cases e : p.1 = k
    · have e' : q.1 = k := h1.symm.trans e
      have b : atKey (q :: qs) k = some q.2 := by simp [atKey, List.find?_cons, e']
      rw [valV_pos e, b]; exact h2
    · have e' : ¬ q.1 = k := fun z => e (h1.trans z)
      have b : atKey (q :: qs) k = atKey qs k := by simp [atKey, List.find?_cons, e']
      rw [valV_neg e, b]; exact ih
theorem KT.repl {H : Hp} {kvs : List (List Key × V)} {xs : List (List Key × Addr × Value)} (r : KT H kvs xs) (k : List Key) {y : V} {u : Value} (ry : RelV y u) :
    KT H (kvs.map fun kv => if kv.1 = k then (kv.1, y) else kv) (xs.map (putAt k u)) := by
  induction r with
  | nil => exact .nil
  | @cons p q ps qs h t ih =>
    rw [List.map_cons, List.map_cons]
    refine .cons ?_ ih
    obtain ⟨h1, h2, h3⟩ := h
    unfold putAt
    by_cases e : p.1 = k
    · rw [if_pos e, if_pos (h1.symm.trans e)]; exact ⟨h1, h2, ry⟩
    · rw [if_neg e, if_neg (fun z => e (h1.trans z))]; exact ⟨h1, h2, h3⟩
theorem KT.put {H : Hp} {kvs : List (List Key × V)} {xs : List (List Key × Addr × Value)} (r : KT H kvs xs) (k : List Key) {b : Addr} {y : V} {u : Value} (hb : H b = some (.tup (k.map kV))) (ry : RelV y u) :
    KT H (putK kvs k y) (storedH xs k b u) := by
  have e : (kvs.any fun kv => decide (kv.1 = k)) = (atKey xs k).isSome := by
    rw [valV_any, (r.val k).isSome_eq, Option.isSome_map]
  unfold putK storedH
  rw [e]
  by_cases q : (atKey xs k).isSome = true
  · rw [if_pos q, if_pos q]; exact r.repl k ry
  · rw [if_neg q, if_neg q]; exact Paired.snoc r ⟨rfl, hb, ry⟩
theorem KT.keeps {H H' : Hp} {kvs : List (List Key × V)} {xs : List (List Key × Addr × Value)} (r : KT H kvs xs) (ht : ∀ b ys, H b = some (.tup ys) → H' b = some (.tup ys)) : KT H' kvs xs :=
  Paired.mapP r fun _ _ z => ⟨z.1, ht _ _ z.2.1, z.2.2⟩

section
variable {P : Program} {w : World} {H : Hp} {h : Heap} {a : Addr}
end

/-- what the dict at a holds at the key y -/
def DGet (H : Hp) (a : Addr) (y : V) (r : Option V) : Prop :=
  (∃ kvs k, Rd H a (.dK kvs) ∧ y = kV k ∧ r = valV kvs k) ∨ ∃ kvs k b, Rd H a (.dT kvs) ∧ y = .ref b ∧ H b = some (.tup (k.map kV)) ∧ r = valV kvs k
/-- the heap behind a[y] = v -/
def DPut (H : Hp) (a : Addr) (y v : V) (H' : Hp) : Prop :=
  (∃ kvs k, H a = some (.dK kvs) ∧ y = kV k ∧ kvs.length < sizeLine ∧ H' = upd H a (.dK (putK kvs k v))) ∨
  ∃ kvs k b, H a = some (.dT kvs) ∧ y = .ref b ∧ H b = some (.tup (k.map kV)) ∧ kvs.length < sizeLine ∧ H' = upd H a (.dT (putK kvs k v))
theorem DGet.k {H : Hp} {a : Addr} {kvs : List (Key × V)} {k : Key} (e : H a = some (.dK kvs)) : DGet H a (kV k) (valV kvs k) := .inl ⟨kvs, k, .inl e, rfl, rfl⟩
theorem DGet.t {H : Hp} {a b : Addr} {kvs : List (List Key × V)} {k : List Key} (e : H a = some (.dT kvs)) (eb : H b = some (.tup (k.map kV))) : DGet H a (.ref b) (valV kvs k) := .inr ⟨kvs, k, b, .inl e, rfl, eb, rfl⟩
theorem DPut.k {H : Hp} {a : Addr} {kvs : List (Key × V)} {k : Key} {v : V} (e : H a = some (.dK kvs)) (hl : kvs.length < sizeLine) : DPut H a (kV k) v (upd H a (.dK (putK kvs k v))) := .inl ⟨kvs, k, e, rfl, hl, rfl⟩
theorem DPut.t {H : Hp} {a b : Addr} {kvs : List (List Key × V)} {k : List Key} {v : V} (e : H a = some (.dT kvs)) (eb : H b = some (.tup (k.map kV))) (hl : kvs.length < sizeLine) :
    DPut H a (.ref b) v (upd H a (.dT (putK kvs k v))) := .inr ⟨kvs, k, b, e, rfl, eb, hl, rfl⟩


section
variable {X : Cx} {pins : List (Addr × Obj)} {σ : St} {H : Hp} {s : Shared} {a : Addr} {y v : V} {u r : Value} {o : Option V} {A : Around} {E : Value → Shared → Prop}

end

section
variable {X : Cx} {pins : List (Addr × Obj)} {σ : St} {H : Hp} {s : Shared} {a : Addr} {kvs : List (Key × V)} {k : Key} {u : Value} {A : Around} {E : Value → Shared → Prop}
end


/-! ### readings and rules -/
section
variable {X : Cx} {o i e value : Expr} {pos pos' tpos : Pos} {td ty tv : TE}
end


/-! ### displays -/
section
variable {X : Cx} {pos : Pos}
end

/-- the pairs of a display, from the left -/
def tPairs : List (TE × TE) → St → Hp → (List (V × V) → Hp → Prop) → Prop
  | [], _, H, Q => Q [] H
  | (tk, tv) :: r, σ, H, Q => tk σ H fun x H1 => tv σ H1 fun y H2 => tPairs r σ H2 fun ps H3 => Q ((x, y) :: ps) H3
abbrev VV : List (V × V) → List (Value × Value) → Prop := Paired fun p q => RelV p.1 q.1 ∧ RelV p.2 q.2
def PPs (X : Cx) (pos : Pos) (keys : List (Option Expr)) (values : List Expr) (trs : List (TE × TE)) : Prop :=
  ∀ (pins : List (Addr × Obj)) (s : Shared) (σ : St) (H : Hp) (Q : List (V × V) → Hp → Prop), Inv X pins σ H s → tPairs trs σ H Q →
    wpAny (model X.prog X.w) X.A (evalPairs (pairTrees keys values X.env pos)) (fun vs s' => ∃ ps H', Inv X pins σ H' s' ∧ VV ps vs ∧ Q ps H') X.xe s
/-! ### methods -/
/-- a method call o.m(e) of a built-in, with one argument: what must be seen of the text -/
structure M1 (X : Cx) (o : Expr) (m : Str) (apos : Pos) (e : Expr) (cpos : Pos) : Prop where
  base : attributeBase o m X.env (eval o X.env) = eval o X.env
  few : ((backTo cpos (starEach [e] X.env)).all (fun x => !x.1) && (backToKw cpos (keywordEach [] X.env)).all (fun x => x.1.isSome)
    && decide (([e] : List Expr).length + ([] : List Keyword).length + (if ([] : List Keyword).isEmpty then 0 else 1) < 30)) = true
  line : (apos.endLine == cpos.line) = true
  trees : backTo cpos (starEach [e] X.env) = [(false, eval e X.env)]
structure M2 (X : Cx) (o : Expr) (m : Str) (apos : Pos) (e f : Expr) (cpos : Pos) : Prop where
  base : attributeBase o m X.env (eval o X.env) = eval o X.env
  few : ((backTo cpos (starEach [e, f] X.env)).all (fun x => !x.1) && (backToKw cpos (keywordEach [] X.env)).all (fun x => x.1.isSome)
    && decide (([e, f] : List Expr).length + ([] : List Keyword).length + (if ([] : List Keyword).isEmpty then 0 else 1) < 30)) = true
  line : (apos.endLine == cpos.line) = true
  trees : backTo cpos (starEach [e, f] X.env) = [(false, eval e X.env), (false, eval f X.env)]

section
variable {X : Cx} {pins : List (Addr × Obj)} {σ : St} {H : Hp} {s : Shared} {a : Addr} {y d : V} {u r : Value} {o : Option V} {A : Around} {E : Value → Shared → Prop}
end

section
variable {X : Cx} {o e f : Expr} {apos cpos : Pos} {td ty tx : TE}
end

/-! ### dict(d): a copy -/
section
variable {X : Cx} {pins : List (Addr × Obj)} {σ : St} {H : Hp} {s : Shared} {a : Addr} {kvs : List (Key × V)} {A : Around} {E : Value → Shared → Prop}
end


section
variable {X : Cx} {pins : List (Addr × Obj)} {σ : St} {H : Hp} {s : Shared} {a : Addr} {y : V} {u : Value} {A : Around} {E : Value → Shared → Prop}
end
end L2

namespace Att
open PySem PySem.W PySem.Calls PyProof.Rows

/-! ### the script -/
theorem ints_of_wellAll {P : Params} {h : Heap} : ∀ (ns : List Int) (vs : List Value), WellAll P h vs (ns.map WData.int) → IntsAre vs ns := by
  intro ns
  induction ns with
  | nil =>
    intro vs w
    rw [List.map_nil] at w
    cases w
    exact .nil
  | cons n ns ih =>
    intro vs w
    rw [List.map_cons] at w
    cases w with
    | cons a b =>
      cases a
      exact .cons _ _ (ih _ b)

theorem script_of {l : OpenLaw} {n : Nat} (hn : l.most = some n) {P : Params} {h : Heap} {args : List WData} {vals : List Value}
    (hpre : l.row.toRowW.claim.pre args = true) (hwl : WellAll P h vals args) :
    ∃ a vs ns, vals = [Value.ref a] ∧ args = [WData.list (ns.map WData.int)] ∧ h.get? a = some { cls := .type "list", data := .seq vs.toArray } ∧ IntsAre vs ns ∧ ns.length ≤ n := by
  have hsh : WShape.hasAll [] args [.list .int] = true := (pre_splitW hpre).1
  have hc : l.pre.holds [] { args := args } = true := (pre_splitW hpre).2
  obtain ⟨d, r, rfl, h1, h2⟩ := hasAllW_cons hsh
  obtain rfl := hasAllW_nil h2
  obtain ⟨xs, rfl, h3⟩ := hasW_list h1
  obtain ⟨ns, rfl⟩ := items_int h3
  have hlen : ns.length ≤ n := by
    unfold OpenLaw.pre at hc
    have h4 : (WTm.not (.lt (.lit (.int (n : Int))) (.len (.arg 0)))).holds [] { args := [.list (ns.map .int)] } = true := by
      have h4 := (holds_andW hc).1
      rw [hn] at h4
      exact h4
    have h5 := condW_of h4 (w_not (w_lt w_lit (w_len_list (w_arg rfl))))
    rw [List.length_map] at h5
    refine Nat.le_of_not_lt fun q => ?_
    have q' : (n : Int) < ((ns.length : Nat) : Int) := by omega
    first
      | (rw [decide_eq_true q'] at h5; exact absurd h5 (by decide))
      | (simp at h5; omega)
  cases hwl with
  | cons w1 w2 =>
    cases w2
    cases w1 with
    | list ho hall => exact ⟨_, _, ns, rfl, rfl, ho, ints_of_wellAll ns _ hall, hlen⟩

theorem post_true (l : OpenLaw) (args : List WData) : l.row.toRowW.claim.post args (.bool true) args = true :=
  postW_of (r := l.row.toRowW) (X := (true == true))
    (show WShape.has [] (.bool true) .bool = true by first | rfl | decide | simp [WShape.has, WShape.arms, WShape.armsAll])
    (show (WTm.eq .res (.lit (.bool true))).value [] { args := args, res := some (.bool true), after := args } = some (.bool (true == true)) from w_eq_bool (w_res rfl) w_lit) rfl

/-! ### the attachment: holds_open's last premise (the goal 'hc' behind k_head) from a wpAny of the law's body -/
/-- the same from a codeAny of the CALL (for a layer whose function contracts speak of calls) -/
theorem attach_call {l : OpenLaw} {n : Nat} {q : Program} {loose : List Str} {XP : (Str → Option Value) → Heap → Prop} {YP : World → Heap → Prop} {d : DefRec}
    (hn : l.most = some n) (hdf : d.params.defaults = [])
    (call : ∀ (w : World) (s₀ s₁ : Shared) (mg mb : Str → Option Value) (fa : Addr) (o : Obj) (pm cd doc : Value) (a : Addr) (vs : List Value) (ns : List Int),
      Ground q loose [] XP w s₀ mg mb s₁.heap → YP w s₁.heap →
      s₁.heap.get? fa = some o → o.data = .func (docDef d.name d.params d.body d.scope pm cd doc) → s₁.heap.CodeRec cd d.name → mg d.name = some (.ref fa) →
      s₁.heap.get? a = some { cls := .type "list", data := .seq vs.toArray } → IntsAre vs ns → ns.length ≤ n → s₁.gens = #[] →
      codeAny (model l.prog w) callerA (.call (.ref fa) ⟨[.ref a], []⟩) (fun r s' => r = .ok (.ret (.bool true)) ∧ OldK s₁.heap s'.heap ∧ s'.os = s₁.os ∧ AllBare s'.gens) s₁) :
    WalkO q loose XP YP l.row.toRowW d [] (fun f vs => PySem.call f vs) := by
  intro w s₀ s₁ mg mb G Y fa o pm cd doc dV kV ho hd hcd hD hmg hg args vals as hpre hlay hrd hwl hlo
  obtain rfl : dV = .none := Dflts.none hD hdf
  obtain rfl : kV = .none := Dflts.noKw hD
  obtain ⟨a, vs, ns, rfl, rfl, hobj, hints, hlen⟩ := script_of hn hpre hwl
  refine enter_call (codeAny_mono (call w s₀ s₁ mg mb fa o pm cd doc a vs ns G Y ho (fd_plain hd) hcd hmg hobj hints hlen hg) fun r s' hq => ?_)
  obtain ⟨rfl, h2, h3, h4⟩ := hq
  exact ⟨.inl ⟨.bool true, .bool true, [], rfl, fun _ => rfl, .bool true, post_true l _, fun _ => ⟨List.Pairwise.nil, fun _ hm => (nomatch hm)⟩⟩, h2, h3, h4⟩

/-! ### rules over ANY heap (no ledger) from facts about the written part K: the library's own take a ledger (News) for what they write -/
section
variable {prog : Program} {w : World} {A : Around} {E : Value → Shared → Prop} {s : Shared} {K : Frag}

/-! the whole heap as the ledger: makes every rule that writes through a ledger a rule over any heap -/
def ledger (h : Heap) (L d : Addr) : List (Addr × Obj) := (List.range h.objs.size).filterMap fun a => if a = L ∨ a = d then none else (h.get? a).map fun o => (a, o)
end
end Att

namespace L2
open PySem PySem.Spec PyProof.Rows

theorem vals_ints : ∀ {vs : List Value} {ns : List Int}, IntsAre vs ns → Vals (ns.map V.int) vs
  | _, _, .nil => .nil
  | _, _, .cons n t h => .cons ⟨t, rfl⟩ (vals_ints h)

/-- nothing is tracked but the script, known to the object (or it is an object of the module) -/
def Only (H : Hp) : Prop := ∀ b, H b = none ∨ ∃ o xs, H b = some (.frz o (.lst xs))

/-- THE HEAD: the law's promise, at the heap behind the top. F, the promise of the law's def, may use that base is part of the heap (so K.In base, base.Ns mainGlobals mg stand in Mod) -/
theorem law_call {P : Program} {w : World} {K : PySem.W.Frag} {mg mb : Str → Option Value} {CX : CXT} {k : Nat} {fa a : Addr} {fd : FuncData} {x : Str} {sp : Sp} {s₁ : Shared} {vs : List Value} {ns : List Int}
    (KX : K.In s₁.heap) (hns : s₁.heap.Ns mainGlobals mg) (hb : s₁.heap.Ns builtinsNs mb) (hbb : ∀ x : Str, x ≠ "__name__" → mb x = bootBuiltins x) (hlim : s₁.heap.NoLimit) (hg : s₁.gens = #[])
    (ha : s₁.heap.get? a = some { cls := .type "list", data := .seq vs.toArray }) (hi : IntsAre vs ns) (hl : ns.length ≤ sizeLine) (hr : Room k callerA)
    (F : ∀ base : Heap, K.In base → base.Ns mainGlobals mg → FnOk P w K mg base CX k fa fd [x] sp) (hbind : ∀ (s : Shared) (u : Value), BindsTo s fd ⟨[u], []⟩ [(x, u)])
    (hsp : ∀ H : Hp, Only H → SqL K H a (ns.map V.int) → sp [.ref a] H (fun v _ => v = .bl true) fun _ _ _ => False)
    (hCX : ∀ H e s', CX [] H s₁ (fun _ _ _ => False) e s' → False) :
    codeAny (model P w) callerA (.call (.ref fa) ⟨[.ref a], []⟩) (fun r s' => r = .ok (.ret (.bool true)) ∧ OldK s₁.heap s'.heap ∧ s'.os = s₁.os ∧ AllBare s'.gens) s₁ := by
  have rv := vals_ints hi
  have lenV := hi.length
  -- from an abstract heap in which nothing but the script may be tracked
  have core : ∀ H : Hp, Only H → SqL K H a (ns.map V.int) → HOk P w H s₁.heap → (∀ b, H b ≠ none → b = a) → (H a ≠ none → K.lookup a = none) →
      codeAny (model P w) callerA (.call (.ref fa) ⟨[.ref a], []⟩) (fun r s' => r = .ok (.ret (.bool true)) ∧ OldK s₁.heap s'.heap ∧ s'.os = s₁.os ∧ AllBare s'.gens) s₁ := by
    intro H hO hS hok hA hK
    have base_of : ∀ {b : Addr} {o : Obj}, s₁.heap.get? b = some o → H b = none → (hidT s₁.heap H).get? b = some o := fun e n => hidT_get e n
    have noA : ∀ {b : Addr} {o : Obj} {es : Array DictEntry} {ep : Nat}, s₁.heap.get? b = some o → o.data = .dict es ep → H b = none := fun {b o es ep} e d => by
      cases q : H b with
      | none => rfl
      | some u =>
        have e' : b = a := hA b (by rw [q]; simp)
        subst e'
        rw [ha] at e; cases e
        have d' : Data.seq vs.toArray _ = Data.dict es ep := d
        cases d'
    have nsK : ∀ {b : Addr} {m : Str → Option Value}, s₁.heap.Ns b m → (hidT s₁.heap H).Ns b m := fun {b m} ⟨o, es, ep, e, d, r⟩ => ⟨o, es, ep, base_of e (noA e d), d, r⟩
    have hKb : K.In (hidT s₁.heap H) := fun b o e => base_of (KX b o e) (by
      cases q : H b with
      | none => rfl
      | some u =>
        have e' : b = a := hA b (by rw [q]; simp)
        subst e'
        rw [hK (by rw [q]; simp)] at e; cases e)
    have hM : Mod K mg (hidT s₁.heap H) := ⟨hKb, nsK hns, ⟨mb, nsK hb, hbb⟩, let ⟨mc, h1, h2⟩ := hlim; ⟨mc, nsK h1, h2⟩⟩
    have e0 : Env0 P w K mg (hidT s₁.heap H) callerA [] s₁ H := ⟨rfl, hM, fun b o e => of_hidT e, Nat.le_of_eq (hidT_size _ _), trivial, fun b hb => absurd (show b ∈ ([] : List Addr) from hb) (by simp), hok, .of_eq hg⟩
    refine codeAny_mono ((F _ hKb (nsK hns)).run callerA [] s₁ H ⟨[.ref a], []⟩ [.ref a] [.ref a] _ _ hr e0 (hbind s₁ (.ref a)) (.cons rfl .nil) (hsp H hO hS)) fun r s' h => ?_
    cases r with
    | error e => exact (hCX H e s' h).elim
    | ok fl =>
      cases fl with
      | next => exact False.elim h
      | brk => exact False.elim h
      | cont => exact False.elim h
      | ret u =>
        obtain ⟨v, H', os, bare, un, hok', r', q⟩ := h
        have q' : v = .bl true := q
        subst q'
        obtain rfl : u = Value.bool true := r'
        refine ⟨rfl, OldK.of_keep fun b o e => ?_, os, bare⟩
        cases q : H b with
        | none => exact un.keep b o e q (by intro z; exact absurd (show b ∈ ([] : List Addr) from z) (by simp)) (by simp)
        | some u =>
          rcases hO b with z | ⟨ob, xs, z⟩
          · rw [q] at z; cases z
          · have z2 := un.frzs b ob _ z
            obtain ⟨e1, _⟩ := hok b _ z
            obtain ⟨e2, _⟩ := hok' b _ z2
            rw [e] at e1; cases e1
            exact e2
  cases hk : K.lookup a with
  | some o =>
    -- the script is one of the module's own objects
    have e := KX a o hk
    rw [ha] at e
    cases e
    refine core (fun _ => none) (fun _ => .inl rfl) (.inr ⟨_, vs.toArray, _, hk, rfl, rfl, rfl, by rw [List.size_toArray, lenV]; exact hl, by simpa using rv⟩) (fun b u z => by have z' : (none : Option HO) = some u := z; cases z') (fun b z => absurd rfl z) fun z => absurd rfl z
  | none =>
    refine core (fun b => if b = a then some (.frz { cls := .type "list", data := .seq vs.toArray } (.lst (ns.map V.int))) else none) (fun b => ?_) (.inl (.inr ⟨{ cls := .type "list", data := .seq vs.toArray }, if_pos rfl⟩)) (fun b u z => ?_) (fun b z => ?_) fun _ => hk
    · by_cases hb : b = a
      · exact .inr ⟨_, _, if_pos hb⟩
      · exact .inl (if_neg hb)
    · by_cases hb : b = a
      · have z' := (if_pos hb).symm.trans z
        cases z'
        subst hb
        exact ⟨ha, by rw [List.length_map]; exact hl, vs, _, rv, ha⟩
      · have z' := (if_neg hb).symm.trans z
        cases z'
    · by_cases hb : b = a
      · exact hb
      · exact absurd (if_neg hb) z
end L2

namespace L2
open PySem PySem.Spec PyProof.Rows

abbrev KOf {K : PySem.W.Frag} {h : Heap} (_ : K.In h) : PySem.W.Frag := K

/-- the goal that k_head leaves (case hc), from the law's promise. F gives the function object fd (K's own) once, then the promise over every base -/
theorem walk_of {l : PySem.W.OpenLaw} {n k : Nat} {q : Program} {loose : List Str} {XP : (Str → Option Value) → Heap → Prop} {YP : World → Heap → Prop} {d : DefRec} {K : Params → PySem.W.Frag} {CX : World → CXT} {sp : World → Sp} {x : Str}
    (hn : l.most = some n) (hn2 : n ≤ sizeLine) (hdf : d.params.defaults = []) (hr : Room k callerA)
    (hY : ∀ (w : World) (h : Heap), YP w h → (K w.params).In h)
    (F : ∀ (w : World) (mg : Str → Option Value) (fa : Addr) (h : Heap), (K w.params).In h → h.Ns mainGlobals mg → mg d.name = some (.ref fa) →
      ∃ fd : FuncData, (∀ (s : Shared) (u : Value), BindsTo s fd ⟨[u], []⟩ [(x, u)]) ∧
        ∀ base : Heap, (K w.params).In base → base.Ns mainGlobals mg → FnOk l.prog w (K w.params) mg base (CX w) k fa fd [x] (sp w))
    (hsp : ∀ (w : World) (H : Hp) (a : Addr) (ns : List Int), ns.length ≤ n → Only H → SqL (K w.params) H a (ns.map V.int) → sp w [.ref a] H (fun v _ => v = .bl true) fun _ _ _ => False)
    (hCX : ∀ (w : World) (H : Hp) (s : Shared) (e : Value) (s' : Shared), CX w [] H s (fun _ _ _ => False) e s' → False) :
    PySem.W.WalkO q loose XP YP l.row.toRowW d [] (fun f vs => PySem.call f vs) := by
  refine Att.attach_call hn hdf fun w s₀ s₁ mg mb fa o pm cd doc a vs ns G Y ho hd hcd hmg hobj hints hlen hg => ?_
  have KX := hY w _ Y
  obtain ⟨fd, hb, hF⟩ := F w mg fa _ KX G.T.g hmg
  exact law_call KX G.T.g G.T.b G.T.builtins G.T.nolimit hg hobj hints (Nat.le_trans hlen hn2) hr hF hb (fun H hO hS => hsp w H a ns hlen hO hS) fun H e s' => hCX w H s₁ e s'
end L2

/- THE LAST THEOREM (shape; LID, My.* are yours):
   My.Adr: a structure of the addresses that your layer names (classes, functions); My.Txt K t: a structure (Prop) of the equations over K;
   My.txt_mk : {K} {implicit addresses ..} (e1 : nsIn K mainGlobals "law" = some (some (.ref f))) (e2 : K.lookup f = some ⟨oc, od, .func (fnOf "law" "law" params body scope dV kV doc pm an cdv ct), sl⟩) (e3 : codeIn K cdv "law" = true) .. : ∃ t, My.Txt K t

set_option maxRecDepth 100000 in
set_option maxHeartbeats 0 in
theorem PySem.Challenge.cw_LID_holds : PySem.Challenge.rw_LID.Holds := by
  w_on; o_law; k_head; (case hw => w_witness2)
  k_fill
  refine L2.walk_of (l := PySem.Challenge.rw_LID) (n := 63) (k := 40) (x := "script") (CX := fun w => ..) (sp := fun _ => My.sp_law) rfl (by decide) rfl ⟨rfl, by decide, by decide⟩ (fun w h Y => PySem.W.kIn_of Y) ?F ?S ?C
  case F =>
    intro w mg fa h KX G hmg
    have T : ∃ t, My.Txt (L2.KOf KX) t := by
      dsimp only [L2.KOf]                          -- K must stand as «<heap const> w.params» for k_is
      refine' My.txt_mk ?e1 ?e2 ?e3 ..
      (case e1 => PySem.W.k_is)                    -- in the order: a name -> its address -> its object -> its parts
      (case e2 => PySem.W.k_is)
      ..
    obtain ⟨t, T⟩ := T
    have e0 := hmg.symm.trans (PySem.W.mg_of KX G T.law)
    cases e0                                       -- fa is the law's own address
    exact ⟨_, fun s u => .of_eq rfl, fun base kb nb => My.law_fn T kb nb⟩     -- if «.of_eq rfl» comes too early: refine' ⟨_, ?b, fun base kb nb => My.law_fn T kb nb⟩; exact fun s u => .of_eq rfl
  case S => exact fun w H a ns hl hO hS => ..
  case C => exact ..
(the tactic k_is has no namespace: write k_is) -/

/-! SHORT WORDS over the layer: a def of the text, its body, what a loop and a test want. -/
namespace L2
open PySem PySem.Spec PyProof.Rows

/-! ### the text by places -/
def defArgs (s : Stmt) : Arguments := match s with
  | .FunctionDef _ a _ _ _ _ _ _ _ _ => a
  | _ => { posonlyargs := [], args := [], vararg := none, kwonlyargs := [], kw_defaults := [], kwarg := none, defaults := [] }
def defBody (s : Stmt) : List Stmt := match s with
  | .FunctionDef _ _ b _ _ _ _ _ _ _ => b
  | _ => []
def defScope (s : Stmt) : Scope := match s with
  | .FunctionDef _ _ _ _ _ _ sc _ _ _ => sc
  | _ => { kind := .function, names := [], isGenerator := false, isCoroutine := false }

/-! ### no exception leaves a def -/
abbrev CX0 : CXT := fun _ _ _ _ _ _ => False
abbrev E0 : XK := fun _ _ _ => False
theorem pass0 {X : Cx} : Passes CX0 X E0 := fun _ _ _ _ _ _ _ h => h.elim

/-! ### a def (or method) of the text as it stands behind the top -/
structure Fun (K : PySem.W.Frag) (x qual : Str) (st : Stmt) (f : Addr) (fd : FuncData) : Prop where
  ex : ∃ (oc : Value) (od : Option Addr) (kV doc pm : Value) (an : Option Addr) (cdv ct : Value) (osl : Array (Option Value)),
    fd = PySem.W.fnOf x qual (defArgs st) (defBody st) (defScope st) .none kV doc pm an cdv ct ∧ K.lookup f = some ⟨oc, od, .func fd, osl⟩ ∧ PySem.W.codeIn K cdv qual = true
  kp : PySem.W.keepIn K (.ref f) = true
section
variable {P : Program} {w : World} {K : PySem.W.Frag} {mg : Str → Option Value} {base : Heap}
/-- THE RULE for a def: its body as a term of rules, and the reading of that term -/
theorem Fun.ok {x qual : Str} {st : Stmt} {f : Addr} {fd : FuncData} {N ps : List Str} {k : Nat} {sp : Sp} (F : Fun K x qual st f fd) (S : FnScope N ps (defScope st)) (len : ∀ vs H Q E, sp vs H Q E → vs.length = ps.length)
    (hbody : ∀ (cdv : Value) (A : Around) (outer : List Env) (s : Shared) (H : Hp) (vs : List V) (Q : VK) (E : XK), Room k (A.deeper (envOfC qual (defScope st) s.heap.objs.size f cdv)) → sp vs H Q E →
      ∃ t, PSs (cxOf CX0 P w K mg base N qual (defScope st) f cdv A outer s H E).nox (defBody st) t ∧ t { nx := fun _ H' => Q .non H', rt := Q } (start N vs) H) : FnOk P w K mg base CX0 (k + 1) f fd ps sp := by
  obtain ⟨oc, od, kV, doc, pm, an, cdv, ct, osl, rfl, lk, hcd⟩ := F.ex
  refine fn_of lk hcd S len fun A outer s H vs Q E hr hsp => ?_
  obtain ⟨t, h, q⟩ := hbody cdv A outer s H vs Q E hr hsp
  exact ⟨t, h.nox, q⟩
/-- how its arguments bind (no defaults): h is «fun _ _ _ _ _ _ us hl => match us, hl with | [_, _], _ => rfl», one _ a parameter -/
theorem Fun.binds {x qual : Str} {st : Stmt} {f : Addr} {fd : FuncData} {ps : List Str} (F : Fun K x qual st f fd)
    (h : ∀ (kV doc pm : Value) (an : Option Addr) (cdv ct : Value) (us : List Value), us.length = ps.length → bindArgs (PySem.W.fnOf x qual (defArgs st) (defBody st) (defScope st) .none kV doc pm an cdv ct) ⟨us, []⟩ = pure (ps.zip us)) : Binds K fd ps [] := by
  obtain ⟨oc, od, kV, doc, pm, an, cdv, ct, osl, rfl, lk, hcd⟩ := F.ex
  exact .all (h kV doc pm an cdv ct)
theorem fun_mk {x qual : Str} {st : Stmt} {f : Addr} {oc : Value} {od an : Option Addr} {osl : Array (Option Value)} {kV doc pm cdv ct : Value} (l : K.lookup f = some ⟨oc, od, .func (PySem.W.fnOf x qual (defArgs st) (defBody st) (defScope st) .none kV doc pm an cdv ct), osl⟩)
    (c : PySem.W.codeIn K cdv qual = true) (k : PySem.W.keepIn K (.ref f) = true) : Fun K x qual st f (PySem.W.fnOf x qual (defArgs st) (defBody st) (defScope st) .none kV doc pm an cdv ct) := ⟨⟨oc, od, kV, doc, pm, an, cdv, ct, osl, rfl, l, c⟩, k⟩
end
theorem small1000 {n : Nat} (h : n ≤ 1000) : n < sizeLine := Nat.lt_of_le_of_lt h (by decide)

/-! ### expressions in short: the name that stands in the i-th slot -/
section
variable {X : Cx}
theorem pv (i : Nat) {x : Str} {pos : Pos} (hN : X.N[i]? = some x := by rfl) (hv : Vis X.env.scope x := by first | exact Or.inl rfl | exact Or.inr (Or.inl rfl) | exact Or.inr (Or.inr rfl)) (hd : (x == ("__debug__" : Str)) = false := by decide)
    (hcd : (x == ("__classdict__" : Str)) = false := by decide) : PE X (.Name x pos) (tVar i) := pe_var hN hv hd hcd
end

/-! ### tests -/
theorem iteF {A B : Prop} (h : B) : if false = true then A else B := by
  rw [if_neg Bool.false_ne_true]
  exact h
theorem iteT {A B : Prop} (h : A) : if true = true then A else B := by
  rw [if_pos rfl]
  exact h
theorem ite2 {c A B : Prop} [Decidable c] (h1 : c → A) (h2 : ¬ c → B) : if c then A else B := by
  by_cases h : c
  · rw [if_pos h]
    exact h1 h
  · rw [if_neg h]
    exact h2 h
theorem iteNS {c A B : Prop} [Decidable c] (hc : c) (h : B) : if (!decide c) = true then A else B := by
  rw [decide_eq_true hc]
  exact iteF h

/-! ### heaps -/
/-- all that was tracked is as it was -/
def Same (H H' : Hp) : Prop := ∀ b o, H b = some o → H' b = some o
theorem Same.refl (H : Hp) : Same H H := fun _ _ h => h
theorem Same.trans {H H1 H2 : Hp} (a : Same H H1) (b : Same H1 H2) : Same H H2 := fun c o h => b c o (a c o h)
theorem Same.free {H H' : Hp} (e : Same H H') {l : Addr} (h : H' l = Option.none) : H l = Option.none := by
  cases q : H l with
  | none => rfl
  | some o =>
    rw [e l o q] at h
    cases h
theorem Same.seq {K : PySem.W.Frag} {H H' : Hp} {a : Addr} {xs : List V} (e : Same H H') (h : SqL K H a xs) : SqL K H' a xs := by
  rcases h with (h | ⟨o, h⟩) | h
  · exact .inl (.inl (e _ _ h))
  · exact .inl (.inr ⟨o, e _ _ h⟩)
  · exact .inr h

end L2


namespace L2
open PySem PySem.Spec PyProof.Rows
section
variable {X : Cx}
end
/-! ### a dict's pairs: keys that differ -/
section
variable {κ : Type} [DecidableEq κ]
end
end L2


namespace L2
open PySem PySem.Spec PyProof.Rows

/-! ### comprehensions -/
theorem relabel_lookup {env : Env} : ∀ {names : List (Str × NameKind)} {x : Str} {k : NameKind},
    (names.map fun (n, k) => if (k == NameKind.free && env.scope.kind == .function && env.kindOf n == some .cell) then (n, NameKind.cell) else (n, k)).lookup x = some k →
    ∃ k', names.lookup x = some k' ∧ (k = k' ∨ (k' = .free ∧ k = .cell))
  | [], _, _, h => by simp at h
  | (n, k0) :: r, x, k, h => by
    have ih := @relabel_lookup env r x k
    rw [List.map_cons] at h
    by_cases hc : (k0 == NameKind.free && env.scope.kind == .function && env.kindOf n == some .cell) = true
    · have e : (if (k0 == NameKind.free && env.scope.kind == .function && env.kindOf n == some .cell) = true then (n, NameKind.cell) else (n, k0)) = (n, NameKind.cell) := if_pos hc
      simp only [e] at h
      cases hx : x == n with
      | true =>
        simp only [List.lookup_cons, hx] at h ⊢
        have hf : k0 = .free := by
          have := hc
          simp only [Bool.and_eq_true, beq_iff_eq] at this
          exact this.1.1
        exact ⟨k0, rfl, .inr ⟨hf, (Option.some.inj h).symm⟩⟩
      | false =>
        simp only [List.lookup_cons, hx] at h ⊢
        exact ih h
    · have e : (if (k0 == NameKind.free && env.scope.kind == .function && env.kindOf n == some .cell) = true then (n, NameKind.cell) else (n, k0)) = (n, k0) := if_neg hc
      simp only [e] at h
      cases hx : x == n with
      | true =>
        simp only [List.lookup_cons, hx] at h ⊢
        exact ⟨k0, rfl, .inl (Option.some.inj h).symm⟩
      | false =>
        simp only [List.lookup_cons, hx] at h ⊢
        exact ih h

theorem relabel_free {env : Env} : ∀ {names : List (Str × NameKind)} {x : Str}, names.lookup x = some .free →
    (names.map fun (n, k) => if (k == NameKind.free && env.scope.kind == .function && env.kindOf n == some .cell) then (n, NameKind.cell) else (n, k)).lookup x = some .cell ∨
    (names.map fun (n, k) => if (k == NameKind.free && env.scope.kind == .function && env.kindOf n == some .cell) then (n, NameKind.cell) else (n, k)).lookup x = some .free
  | [], _, h => by simp at h
  | (n, k0) :: r, x, h => by
    have ih := @relabel_free env r x
    rw [List.map_cons]
    by_cases hc : (k0 == NameKind.free && env.scope.kind == .function && env.kindOf n == some .cell) = true
    · have e : (if (k0 == NameKind.free && env.scope.kind == .function && env.kindOf n == some .cell) = true then (n, NameKind.cell) else (n, k0)) = (n, NameKind.cell) := if_pos hc
      simp only [e]
      cases hx : x == n with
      | true =>
        simp only [List.lookup_cons, hx] at h ⊢
        first | exact .inl rfl | exact .inl trivial
      | false =>
        simp only [List.lookup_cons, hx] at h ⊢
        exact ih h
    · have e : (if (k0 == NameKind.free && env.scope.kind == .function && env.kindOf n == some .cell) = true then (n, NameKind.cell) else (n, k0)) = (n, k0) := if_neg hc
      simp only [e]
      cases hx : x == n with
      | true =>
        simp only [List.lookup_cons, hx] at h ⊢
        exact .inr h
      | false =>
        simp only [List.lookup_cons, hx] at h ⊢
        exact ih h

/-! ### the cells that a block closes over -/
def cloOf (env : Env) : List (Str × NameKind) → List (Str × Addr) → List (Str × Addr)
  | [], acc => acc
  | y :: r, acc => if (y.2 == NameKind.free) = true then cloOf env r ((y.1, (env.cells.lookup y.1).getD 0) :: acc) else cloOf env r acc
theorem clo_run {env : Env} : ∀ {names : List (Str × NameKind)} {acc : List (Str × Addr)}, (∀ y ∈ names, y.2 = .free → ∃ c, env.cells.lookup y.1 = some c) →
    (forIn names acc fun (x : Str × NameKind) (cs : List (Str × Addr)) => if (x.2 == NameKind.free) = true then do let c ← cellOf env x.1; pure (ForInStep.yield ((x.1, c) :: cs)) else pure (ForInStep.yield cs) : Sem (List (Str × Addr))) = pure (cloOf env names acc)
  | [], _, _ => rfl
  | y :: r, acc, h => by
    rw [List.forIn_cons]
    by_cases hy : (y.2 == NameKind.free) = true
    · obtain ⟨c, hc⟩ := h y List.mem_cons_self (by simpa using hy)
      have e : cellOf env y.1 = pure c := by unfold cellOf; rw [hc]
      rw [if_pos hy, e, pure_bind, pure_bind]
      show (forIn r ((y.1, c) :: acc) _ : Sem (List (Str × Addr))) = _
      rw [clo_run fun z hz => h z (List.mem_cons_of_mem _ hz)]
      show _ = pure (if (y.2 == NameKind.free) = true then cloOf env r ((y.1, (env.cells.lookup y.1).getD 0) :: acc) else cloOf env r acc)
      rw [if_pos hy, hc]
      rfl
    · rw [if_neg hy, pure_bind]
      show (forIn r acc _ : Sem (List (Str × Addr))) = _
      rw [clo_run fun z hz => h z (List.mem_cons_of_mem _ hz)]
      show _ = pure (if (y.2 == NameKind.free) = true then cloOf env r ((y.1, (env.cells.lookup y.1).getD 0) :: acc) else cloOf env r acc)
      rw [if_neg hy]
theorem clo_for {scope : Scope} {env : Env} (h : ∀ y ∈ scope.names, y.2 = .free → ∃ c, env.cells.lookup y.1 = some c) : closureFor scope env = pure (cloOf env scope.names []) := by
  have q := clo_run (env := env) (names := scope.names) (acc := []) h
  unfold closureFor
  exact (by first | (simp only [bind_pure]; exact q) | (rw [bind_pure]; exact q) | exact q)
theorem clo_sub {env : Env} : ∀ {names : List (Str × NameKind)} {acc : List (Str × Addr)}, (∀ y ∈ names, y.2 = .free → ∃ c, env.cells.lookup y.1 = some c) → (∀ x c, acc.lookup x = some c → env.cells.lookup x = some c) →
    ∀ x c, (cloOf env names acc).lookup x = some c → env.cells.lookup x = some c
  | [], _, _, ha => ha
  | y :: r, acc, h, ha => by
    have hr : ∀ z ∈ r, z.2 = .free → ∃ c, env.cells.lookup z.1 = some c := fun z hz => h z (List.mem_cons_of_mem _ hz)
    intro x c e
    unfold cloOf at e
    by_cases hy : (y.2 == NameKind.free) = true
    · rw [if_pos hy] at e
      refine clo_sub hr (fun x' c' e' => ?_) x c e
      obtain ⟨d, hd⟩ := h y List.mem_cons_self (by simpa using hy)
      rw [hd, Option.getD_some] at e'
      cases hx : x' == y.1 with
      | true =>
        simp only [List.lookup_cons, hx] at e'
        have e1 : x' = y.1 := eq_of_beq hx
        rw [e1, hd]
        exact e'
      | false =>
        simp only [List.lookup_cons, hx] at e'
        exact ha x' c' e'
    · rw [if_neg hy] at e
      exact clo_sub hr ha x c e
theorem clo_keep {env : Env} : ∀ {names : List (Str × NameKind)} {acc : List (Str × Addr)} {x : Str}, (∃ c, acc.lookup x = some c) → ∃ c, (cloOf env names acc).lookup x = some c
  | [], _, _, h => h
  | y :: r, acc, x, h => by
    unfold cloOf
    by_cases hy : (y.2 == NameKind.free) = true
    · rw [if_pos hy]
      refine clo_keep ?_
      cases hx : x == y.1 with
      | true => exact ⟨(env.cells.lookup y.1).getD 0, by simp only [List.lookup_cons, hx]⟩
      | false =>
        obtain ⟨c, e⟩ := h
        exact ⟨c, by simp only [List.lookup_cons, hx]; exact e⟩
    · rw [if_neg hy]
      exact clo_keep h
theorem clo_has {env : Env} : ∀ {names : List (Str × NameKind)} {acc : List (Str × Addr)} {x : Str}, names.lookup x = some .free → ∃ c, (cloOf env names acc).lookup x = some c
  | [], _, _, h => by simp at h
  | (n, k) :: r, acc, x, h => by
    unfold cloOf
    cases hx : x == n with
    | true =>
      simp only [List.lookup_cons, hx] at h
      have hy : (k == NameKind.free) = true := by rw [Option.some.inj h]; rfl
      rw [if_pos hy]
      exact clo_keep ⟨(env.cells.lookup n).getD 0, by simp only [List.lookup_cons, hx]⟩
    | false =>
      simp only [List.lookup_cons, hx] at h
      by_cases hy : (k == NameKind.free) = true
      · rw [if_pos hy]; exact clo_has h
      · rw [if_neg hy]; exact clo_has h

abbrev compCx (X : Cx) (scope : Scope) (N' : List Str) (C : Addr) (s0 : Shared) (H0 : Hp) (ex : List Addr) : Cx where
  prog := X.prog
  w := X.w
  K := X.K
  mg := X.mg
  base := X.base
  A := X.A
  N := N'
  s₀ := s0
  H₀ := H0
  env := compEnvC scope (cloOf X.env scope.names []) C X.env
  outer := X.stack
  stack := X.stack
  ex := ex
  fn := fun _ => false
  calm := X.calm
  pn := []
  xe := fun _ _ => False

/-- what the block reads of the names around it -/
def CapOk (X : Cx) (sc : Scope) : List Nat → List Str → Prop
  | [], [] => True
  | j :: js, x :: xs => X.N[j]? = some x ∧ sc.names.lookup x = some .free ∧ CapOk X sc js xs
  | _, _ => False
theorem CapOk.get {X : Cx} {sc : Scope} : ∀ {js : List Nat} {xs : List Str} {i : Nat} {x : Str}, CapOk X sc js xs → xs[i]? = some x →
    ∃ j, js[i]? = some j ∧ X.N[j]? = some x ∧ sc.names.lookup x = some .free
  | [], [], _, _, _, e => by simp at e
  | j :: js, y :: xs, 0, x, h, e => by
    obtain ⟨h1, h2, _⟩ := h
    have e' : y = x := by simpa using e
    subst e'
    exact ⟨j, rfl, h1, h2⟩
  | j :: js, y :: xs, i + 1, x, h, e => by
    obtain ⟨_, _, h6⟩ := h
    obtain ⟨j', q⟩ := CapOk.get (i := i) (x := x) h6 (by simpa using e)
    exact ⟨j', by simpa using q.1, q.2⟩
  | [], _ :: _, _, _, h, _ => h.elim
  | _ :: _, [], _, _, h, _ => h.elim
theorem CapOk.len {X : Cx} {sc : Scope} : ∀ {js : List Nat} {xs : List Str}, CapOk X sc js xs → js.length = xs.length
  | [], [], _ => rfl
  | j :: js, y :: xs, h => by
    obtain ⟨_, _, h6⟩ := h
    simp [CapOk.len h6]
  | [], _ :: _, h => h.elim
  | _ :: _, [], h => h.elim

/-- the block's names: checks that compute; names that are free in it are cells (or free) around it -/
structure CompOk (X : Cx) (scope : Scope) (cap : List Nat) (capN : List Str) : Prop where
  kind : scope.kind = .function
  names : ∀ x ∈ scope.names, x.2 = .local → scope.names.lookup x.1 = some .local
  nocell : ∀ y ∈ scope.names, y.2 ≠ .cell
  frees : (scope.names.all fun y => !(y.2 == NameKind.free) || (X.env.kindOf y.1 == some .cell || X.env.kindOf y.1 == some .free)) = true
  cap : CapOk X scope cap capN
section
variable {X : Cx} {scope : Scope} {cap : List Nat} {capN : List Str}
theorem CompOk.around (O : CompOk X scope cap capN) {y : Str × NameKind} (hy : y ∈ scope.names) (hf : y.2 = .free) : X.env.kindOf y.1 = some .cell ∨ X.env.kindOf y.1 = some .free := by
  have q := List.all_eq_true.mp O.frees y hy
  rw [hf] at q
  simpa using q
theorem CompOk.cells (O : CompOk X scope cap capN) (ok : X.Ok) : ∀ y ∈ scope.names, y.2 = .free → ∃ c, X.env.cells.lookup y.1 = some c := fun y hy hf => ok.has _ (O.around hy hf)
theorem CompOk.clos (O : CompOk X scope cap capN) (ok : X.Ok) : closureFor scope X.env = pure (cloOf X.env scope.names []) := clo_for (O.cells ok)
theorem CompOk.sub (O : CompOk X scope cap capN) (ok : X.Ok) : ∀ x c, (cloOf X.env scope.names []).lookup x = some c → X.env.cells.lookup x = some c := clo_sub (O.cells ok) fun x c e => by simp at e
theorem CompOk.has (_O : CompOk X scope cap capN) {x : Str} (h : scope.names.lookup x = some .free) : ∃ c, (cloOf X.env scope.names []).lookup x = some c := clo_has h
end

def compSt (n : Nat) (cap : List Nat) (σ : St) : St := List.replicate n none ++ cap.map (fun j => (σ[j]?).join)
theorem compSt_len {n : Nat} {cap : List Nat} {σ : St} : (compSt n cap σ).length = n + cap.length := by
  unfold compSt
  rw [List.length_append, List.length_replicate, List.length_map]
theorem compSt_get {n : Nat} {cap : List Nat} {σ : St} {i : Nat} {v : V} (h : (compSt n cap σ)[i]? = some (some v)) : n ≤ i ∧ ∃ j, cap[i - n]? = some j ∧ σ[j]? = some (some v) := by
  unfold compSt at h
  by_cases hi : i < n
  · rw [List.getElem?_append_left (by simpa using hi), List.getElem?_replicate] at h
    rw [if_pos hi] at h
    cases h
  · have hi' : n ≤ i := Nat.le_of_not_lt hi
    rw [List.getElem?_append_right (by simpa using hi'), List.length_replicate, List.getElem?_map] at h
    refine ⟨hi', ?_⟩
    cases e : cap[i - n]? with
    | none => rw [e] at h; cases h
    | some j =>
      rw [e] at h
      refine ⟨j, rfl, ?_⟩
      have h' : (σ[j]?).join = some v := by simpa using h
      cases q : σ[j]? with
      | none => rw [q] at h'; cases h'
      | some o =>
        rw [q] at h'
        have : o = some v := h'
        rw [this]

section
variable {X : Cx} {pins : List (Addr × Obj)} {σ : St} {H : Hp} {s : Shared} {scope : Scope} {cap : List Nat} {capN N' : List Str} {C : Addr} {ex : List Addr}
theorem compCx_ok (I : Inv X pins σ H s) (O : CompOk X scope cap capN) (hC : s.heap.objs.size ≤ C) (hex : ∀ b ∈ ex, FpOk X pins H b ∧ b < s.heap.objs.size) : (compCx X scope N' C s H ex).Ok where
  mod := I.ok.mod
  kind := O.kind
  glob := I.ok.glob
  blt := I.ok.blt
  above := hC
  inj := fun x y c h1 h2 => I.ok.inj x y c (O.sub I.ok x c h1) (O.sub I.ok y c h2)
  has := fun x hx => by
    have hx' : (relabel scope X.env).names.lookup x = some .cell ∨ (relabel scope X.env).names.lookup x = some .free := hx
    have key : ∀ k, (relabel scope X.env).names.lookup x = some k → (k = .cell ∨ k = .free) → scope.names.lookup x = some .free := fun k e hk => by
      obtain ⟨k', e', q⟩ := relabel_lookup (env := X.env) e
      rcases q with q | ⟨q, _⟩
      · subst q
        rcases hk with z | z
        · subst z; exact absurd rfl (O.nocell _ (PySem.mem_of_lookup e'))
        · subst z; exact e'
      · subst q; exact e'
    rcases hx' with e | e
    · exact O.has (key _ e (.inl rfl))
    · exact O.has (key _ e (.inr rfl))
  cab := fun x c h _ => by cases h
  hd := I.ok.hd
  frames := I.ok.frames
  stk := .inl rfl
  exf := fun b hb => by
    obtain ⟨⟨f0, f1, f2, f3, f4, f5⟩, lt⟩ := hex b hb
    exact ⟨Nat.ne_of_lt (Nat.lt_of_lt_of_le lt hC), fun x c e => f4 x c (O.sub I.ok x c e)⟩
  bs := I.bs
  bsz := Nat.le_trans I.ok.bsz I.sz
  noex := fun b o e hb => by
    obtain ⟨⟨f0, f1, f2, f3, f4, f5⟩, lt⟩ := hex b hb
    rcases f3 with z | z
    · exact I.ok.noex b o e z
    · exact absurd (Nat.lt_of_lt_of_le (Heap.lt_size e) (Nat.le_trans I.ok.bsz z)) (Nat.lt_irrefl _)
  exfs := fun b hb z => by
    obtain ⟨⟨f0, f1, f2, f3, f4, f5⟩, lt⟩ := hex b hb
    rcases List.mem_cons.mp (I.stkSub b z) with e | e
    · exact f1 e
    · exact f2 e
  funs := I.stack
  frf := I.stkFree

theorem not_stack (I : Inv X pins σ H s) {b : Addr} (hb : s.heap.objs.size ≤ b) : b ∉ frs X.stack := fun z => by
  rcases List.mem_cons.mp (I.stkSub b z) with e | e
  · exact absurd (Nat.lt_of_lt_of_le I.lt hb) (by rw [e]; exact Nat.lt_irrefl _)
  · exact I.nofs hb e
theorem not_cell (I : Inv X pins σ H s) {b : Addr} (hb : s.heap.objs.size ≤ b) : ∀ x c, X.env.cells.lookup x = some c → c ≠ b := fun x c e z => by
  obtain ⟨v, q⟩ := I.cell x c e
  exact absurd (Nat.lt_of_lt_of_le q.lt (by rw [z]; exact hb)) (Nat.lt_irrefl _)

/-- the block's first state -/
theorem comp_start {n : Nat} {h1 : Heap} {m1 : Str → Option Value} {tk : Nat} (I : Inv X pins σ H s) (O : CompOk X scope cap capN) (hN : N'.length = n + capN.length) (hN2 : ∀ i x, n ≤ i → N'[i]? = some x → capN[i - n]? = some x) (hC : s.heap.objs.size ≤ C) (hex : ∀ b ∈ ex, FpOk X pins H b ∧ b < s.heap.objs.size)
    (hk : ∀ b o, s.heap.get? b = some o → h1.get? b = some o) (hn : h1.Ns C m1) : Inv (compCx X scope N' C s H ex) [] (compSt n cap σ) H { s with heap := h1, toks := tk } := by
  refine ⟨compCx_ok I O hC hex, rfl, I.bare, Un.kept hk, ⟨m1, hn, fun i x v e1 e2 e3 => ?_⟩, fun x c e => ?_, I.hok.fresh hC, fun x c e => I.freeC x c (O.sub I.ok x c e), fun p hp => absurd (show p ∈ ([] : List (Addr × Obj)) from hp) (by simp), I.hok.kept hk, ?_⟩
  · obtain ⟨hi, j, ej, es⟩ := compSt_get e2
    obtain ⟨j', q1, q2, qf⟩ := O.cap.get (hN2 i x hi e1)
    have q3 := O.around (PySem.mem_of_lookup qf) rfl
    have q4 := relabel_free (env := X.env) qf
    obtain ⟨c, q5⟩ := O.has qf
    have q6 := O.sub I.ok x c q5
    rw [q1] at ej
    cases ej
    obtain ⟨m0, hn0, hl0⟩ := I.loc
    obtain ⟨u, r, l⟩ := hl0 _ x v q2 es (by
      rcases q3 with z | z
      · exact .inr (.inl z)
      · exact .inr (.inr z))
    refine ⟨u, r, .inr ⟨q4, c, q5, ?_⟩⟩
    rcases l with ⟨k, _⟩ | ⟨_, c', e', z⟩
    · rcases q3 with z | z
      · have z' : X.env.kindOf x = some .cell := z
        rw [z'] at k; cases k
      · have z' : X.env.kindOf x = some .free := z
        rw [z'] at k; cases k
    · rw [q6] at e'
      cases e'
      obtain ⟨o, ho, hd⟩ := z
      exact ⟨o, hk _ _ ho, hd⟩
  · obtain ⟨v, o, ho, hd⟩ := I.cell x c (O.sub I.ok x c e)
    exact ⟨v, o, hk _ _ ho, hd⟩
  · rw [compSt_len, O.cap.len]
    exact hN.symm
end

/-! ### the tests of a comprehension -/
def PIfs (X : Cx) (ifs : List Expr) (t : TT) : Prop :=
  ∀ (pins : List (Addr × Obj)) (s : Shared) (σ : St) (H : Hp) (Q : Bool → Hp → Prop), Inv X pins σ H s → t σ H Q →
    wpAny (model X.prog X.w) X.A (forIn ifs true fun c r => if r = true then do let ok ← isTrue c X.env (eval c X.env); pure (ForInStep.yield ok) else pure (ForInStep.yield r)) (TP X pins σ Q) X.xe s
def tNoIf : TT := fun _ H Q => Q true H
theorem pifs_nil {X : Cx} : PIfs X [] tNoIf := fun _ _ _ H _ I h => wpAny_tests_nil ⟨H, I, h⟩
theorem pifs_one {X : Cx} {c : Expr} {t : TT} (h : PT X c t) : PIfs X [c] t := fun pins s σ H Q I hw => wpAny_tests_one (h pins s σ H Q I hw)

/-- a target that leaves the later names as they are -/
def GK (n : Nat) (g : TG) : Prop := ∀ x σ H Q, g x σ H Q → g x σ H (fun σ2 H2 => (σ2.length = σ.length ∧ ∀ i, n ≤ i → σ2[i]? = σ[i]?) ∧ Q σ2 H2)
theorem gk_name {n i : Nat} (hi : i < n) : GK n (gName i) := fun x σ H Q h => ⟨⟨List.length_set, fun j hj => List.getElem?_set_ne (by omega)⟩, h⟩
def GKs (n : Nat) (g : TGs) : Prop := ∀ xs σ H Q, g xs σ H Q → g xs σ H (fun σ2 H2 => (σ2.length = σ.length ∧ ∀ i, n ≤ i → σ2[i]? = σ[i]?) ∧ Q σ2 H2)
theorem gks_nil {n : Nat} : GKs n gNil := fun xs σ H Q h => ⟨h.1, ⟨rfl, fun _ _ => rfl⟩, h.2⟩
/-- targets are monotone -/
def GM (g : TG) : Prop := ∀ x σ H Q Q', (∀ σ2 H2, Q σ2 H2 → Q' σ2 H2) → g x σ H Q → g x σ H Q'
def GMs (g : TGs) : Prop := ∀ xs σ H Q Q', (∀ σ2 H2, Q σ2 H2 → Q' σ2 H2) → g xs σ H Q → g xs σ H Q'
theorem gm_name {i : Nat} : GM (gName i) := fun _ _ _ _ _ f h => f _ _ h
theorem gms_nil : GMs gNil := fun _ _ _ _ _ f h => ⟨h.1, f _ _ h.2⟩
theorem gms_cons {t : TG} {u : TGs} (a : GM t) (b : GMs u) : GMs (gCons t u) := fun xs σ H Q Q' f h => by
  obtain ⟨v, r, e, h⟩ := h
  exact ⟨v, r, e, a _ _ _ _ _ (fun σ2 H2 z => b _ _ _ _ _ f z) h⟩
theorem gks_cons {n : Nat} {t : TG} {u : TGs} (a : GK n t) (m : GM t) (b : GKs n u) (mb : GMs u) : GKs n (gCons t u) := fun xs σ H Q h => by
  obtain ⟨v, r, e, h⟩ := h
  refine ⟨v, r, e, m _ _ _ _ _ (fun σ2 H2 z => ?_) (a _ _ _ _ h)⟩
  obtain ⟨⟨l1, k1⟩, z⟩ := z
  refine mb _ _ _ _ _ (fun σ3 H3 w => ?_) (b _ _ _ _ z)
  obtain ⟨⟨l2, k2⟩, w⟩ := w
  exact ⟨⟨l2.trans l1, fun i hi => (k2 i hi).trans (k1 i hi)⟩, w⟩
theorem gk_tup {n m : Nat} {K : PySem.W.Frag} {t : TGs} (a : GKs n t) : GK n (gTup K m t) := fun x σ H Q h => by
  obtain ⟨b, xs, e, h1, h2, h3⟩ := h
  exact ⟨b, xs, e, h1, h2, a _ _ _ _ h3⟩
/-- the reading of a comprehension over what J yields -/
def tCompR (n : Nat) (cap : List Nat) (g : TG) (tc : TT) (te : TE) (σ : St) (J : It) (H1 : Hp) (Q : VK) : Prop :=
  ∃ W : Nat → Nat → List V → Hp → Prop, (∃ m, W 0 m [] H1) ∧ ∀ i m ys H, W i m ys H →
    (J.stop i H ∧ ∀ p, H p = none → Q (.ref p) (upd H p (.lst ys))) ∨
    (J.go i H ∧ ys.length < sizeLine ∧ ∀ x H', J.yld i H x H' → g x (compSt n cap σ) H' fun σ2 H2 => tc σ2 H2 fun b H3 =>
      if b = true then te σ2 H3 fun y H4 => ∃ m', m' < m ∧ W (i + 1) m' (ys ++ [y]) H4 else ∃ m', m' < m ∧ W (i + 1) m' ys H3)
def tComp (n : Nat) (cap : List Nat) (wi : TI) (g : TG) (tc : TT) (te : TE) : TE := fun σ H Q => wi σ H fun J H1 => tCompR n cap g tc te σ J H1 Q

/-- one turn of a comprehension, nothing raised -/
theorem codeAny_compLoop_gen {prog : Program} {w : World} {A : Around} {R : Result → Shared → Prop} {s : Shared} {elt target iter : Expr} {ifs : List Expr} {scope : Scope} {pos : Pos} {it acc : Value} {env : Env} (I : Nat → Shared → Prop)
    (turn : ∀ n s, I n s → wpAny (model prog w) A (pyNext it) (fun r s₁ => match r with
      | none => R (.ok .next) s₁
      | some v => wpAny (model prog w) A (letOwnedTupleGo target it v) (fun _ s₁' => wpAny (model prog w) A (assign target env v) (fun _ s₂ =>
          wpAny (model prog w) A (forIn ifs true fun c r => if r = true then do let ok ← isTrue c env (eval c env); pure (ForInStep.yield ok) else pure (ForInStep.yield r)) (fun ok s₃ =>
            if ok = true then wpAny (model prog w) A (eval elt env) (fun x s₄ =>
              wpAny (model prog w) A (call (.builtin "list.append") [acc, x]) (fun _ s₅ => ∃ m, m < n ∧ I m s₅) (fun _ _ => False) s₄) (fun _ _ => False) s₃
            else ∃ m, m < n ∧ I m s₃) (fun _ _ => False) s₂) (fun _ _ => False) s₁') (fun _ _ => False) s₁) (fun _ _ => False) s)
    (n : Nat) (h : I n s) :
    codeAny (model prog w) A (.compLoop (.ListComp elt [⟨target, iter, ifs, 0⟩] scope pos) 0 it acc env) R s := by
  refine codeAny_loop rfl I (fun n s hI => ?_) n h
  show wpAny _ A ((compTurn (.ListComp elt [⟨target, iter, ifs, 0⟩] scope pos) 0 it acc env).onRaise (fun x => do noteFrame x env; theTreesLotGoes x)) _ _ s
  refine wpAny_noted (wpAny_noRaise ?_)
  rw [compTurn_list]
  refine wpAny_bind (wpAny_standAt (wpAny_bind (wpAny_mono (turn n s hI) (fun r s₁ h₁ => ?_) fun _ _ h' => h')))
  cases r with
  | none => exact wpAny_pure h₁
  | some v =>
    refine wpAny_bind (wpAny_mono h₁ (fun _ s₁' h₁' => ?_) fun _ _ h' => h')
    refine wpAny_bind (wpAny_mono h₁' (fun _ s₂ h₂ => wpAny_bind (wpAny_mono h₂ (fun ok s₃ h₃ => ?_) fun _ _ h' => h')) fun _ _ h' => h')
    cases ok with
    | false => exact wpAny_pure ⟨rfl, h₃⟩
    | true =>
      exact wpAny_bind (wpAny_bind (wpAny_mono h₃ (fun x s₄ h₄ => wpAny_bind (wpAny_mono h₄ (fun _ s₅ h₅ => wpAny_pure (wpAny_pure ⟨rfl, h₅⟩)) fun _ _ h' => h')) fun _ _ h' => h'))

theorem own_get {own capN : List Str} : ∀ (i : Nat) (x : Str), own.length ≤ i → (own ++ capN)[i]? = some x → capN[i - own.length]? = some x := fun i x hi e => by
  rw [List.getElem?_append_right hi] at e
  exact e

section
variable {X : Cx} {pins : List (Addr × Obj)} {σ : St} {H2 : Hp} {s2 : Shared} {scope : Scope} {cap : List Nat} {capN own : List Str}
variable {elt tg iter : Expr} {ifs : List Expr} {pos : Pos} {g : TG} {tc : TT} {te : TE} {Q : VK}
abbrev lobj (its : List Value) (nn : Nat) : Obj := { cls := .type "list", data := .seq its.toArray nn }

theorem comp_core {J : It} {fp : List Addr} {it : Addr} {tn : Nat → Heap → Prop} {E : Value → Shared → Prop} {RR : Value → Addr → Result → Shared → Prop}
    (O : CompOk X scope cap capN) (hc : X.calm = true)
    (hg : ∀ C s0 H0 ex, PG (compCx X scope (own ++ capN) C s0 H0 ex) tg g) (gk : GK own.length g) (ht : ∀ C s0 H0 ex, PIfs (compCx X scope (own ++ capN) C s0 H0 ex) ifs tc) (he : ∀ C s0 H0 ex, PE (compCx X scope (own ++ capN) C s0 H0 ex) elt te)
    (I2 : Inv X pins σ H2 s2) (T : Turn X.prog X.w X.K tg J fp it tn) (st2 : tn 0 s2.heap) (f2 : ∀ b ∈ fp, FpOk X pins H2 b) (hq : tCompR own.length cap g tc te σ J H2 Q)
    (fin : ∀ (D C : Addr) (s4 : Shared) (H4 : Hp) (ys : List V), Inv X pins σ (upd H4 D (.lst ys)) s4 → (∃ m, s4.heap.Ns C m) → FpOk X pins (upd H4 D (.lst ys)) C → Q (.ref D) (upd H4 D (.lst ys)) → RR (.ref D) C (.ok .next) s4) :
    wpAny (model X.prog X.w) X.A (newList []) (fun acc s₃ => wpAny (model X.prog X.w) X.A (newFunctionEnv scope X.env.globals (cloOf X.env scope.names []) [] X.env.qual none .none (some X.env)) (fun cenv s₄ =>
      codeAny (model X.prog X.w) X.A (.compStart (.ListComp elt [⟨tg, iter, ifs, 0⟩] scope pos) 0 (.ref it) acc { cenv with scope := relabel scope X.env }) (RR acc cenv.locals) s₄) E s₃) E s2 := by
  obtain ⟨W, ⟨m0, w0⟩, turn⟩ := hq
  refine wpAny_newObj_type (wpAny_newFunctionEnv O.nocell (by intro y hy; simp at hy) (fun h₁ hns₁ hsb₁ => ?_) O.kind)
  dsimp only at hns₁ hsb₁ ⊢
  generalize hHp : s2.heap.push { cls := .type "list", dict := none, data := .seq ([] : List Value).toArray } = Hp2 at hns₁ hsb₁ ⊢
  have hC : Hp2.objs.size = s2.heap.objs.size + 1 := by rw [← hHp, Heap.size_push]
  have hDC : s2.heap.objs.size ≠ Hp2.objs.size := by rw [hC]; exact Nat.ne_of_lt (Nat.lt_succ_self _)
  have hCle : s2.heap.objs.size ≤ Hp2.objs.size := by rw [hC]; exact Nat.le_succ _
  have below : ∀ b, b < s2.heap.objs.size → b ≠ Hp2.objs.size ∧ b ≠ s2.heap.objs.size := fun b hb => ⟨by rw [hC]; exact Nat.ne_of_lt (Nat.lt_succ_of_lt hb), Nat.ne_of_lt hb⟩
  have old : ∀ b o, s2.heap.get? b = some o → h₁.get? b = some o := fun b o e => hsb₁.extBut b o (below b (Heap.lt_size e)).1 (Heap.get?_push_of_some _ (hHp ▸ Heap.get?_push_of_some _ e))
  have hacc : h₁.get? s2.heap.objs.size = some (lobj [] 0) := hsb₁.extBut _ _ hDC (Heap.get?_push_of_some _ (hHp ▸ Heap.get?_push_size _ rfl))
  generalize hDe : s2.heap.objs.size = D at *
  generalize hCe : Hp2.objs.size = C at *
  have hfpl : ∀ b ∈ fp, b < s2.heap.objs.size := fun b hb => by
    obtain ⟨o, e, _⟩ := T.obj _ _ st2 b hb
    exact Heap.lt_size e
  have hex : ∀ b ∈ fp, FpOk X pins H2 b ∧ b < s2.heap.objs.size := fun b hb => ⟨f2 b hb, hfpl b hb⟩
  have hCle' : s2.heap.objs.size ≤ C := by rw [hDe]; exact hCle
  have hDle : s2.heap.objs.size ≤ D := by rw [hDe]; exact Nat.le_refl _
  have hDfp : ∀ b ∈ fp, D ≠ b := fun b hb z => by have := hfpl b hb; rw [← z] at this; exact absurd this (Nat.not_lt.mpr hDle)
  have I0 : ∀ tk, Inv (compCx X scope (own ++ capN) C s2 H2 fp) [] (compSt own.length cap σ) H2 { s2 with heap := h₁, toks := tk } := fun tk => comp_start I2 O (by simp) own_get hCle' hex old hns₁
  have Dst : D ∉ frs X.stack := not_stack I2 hDle
  have Dcell : ∀ x c, (compCx X scope (own ++ capN) C s2 H2 fp).env.cells.lookup x = some c → c ≠ D := fun x c e => not_cell I2 hDle x c (O.sub I2.ok x c e)
  have pinD : ∀ {σ' : St} {H' : Hp} {s' : Shared} {its : List Value} {nn : Nat}, Inv (compCx X scope (own ++ capN) C s2 H2 fp) [] σ' H' s' → s'.heap.get? D = some (lobj its nn) → H' D = none → Inv (compCx X scope (own ++ capN) C s2 H2 fp) [(D, lobj its nn)] σ' H' s' := fun {σ' H' s' its nn} I e hn =>
    I.pins_of fun p hp => by
      have z : p = (D, lobj its nn) := by simpa using hp
      subst z
      exact ⟨e, hn, hDC, Dst, fun v q => by cases q⟩
  have loop : ∀ s₃ : Shared, s₃ = { s2 with heap := h₁, toks := s2.toks + ([] : List (Str × Value)).length } →
      codeAny (model X.prog X.w) X.A (.compLoop (.ListComp elt [⟨tg, iter, ifs, 0⟩] scope pos) 0 (.ref it) (.ref D) (compEnvC scope (cloOf X.env scope.names []) C X.env)) (RR (.ref D) C) s₃ := by
    rintro s₃ rfl
    refine codeAny_compLoop_gen (fun k s' => ∃ (i : Nat) (ys : List V) (its : List Value) (nn : Nat) (H' : Hp), Inv (compCx X scope (own ++ capN) C s2 H2 fp) [(D, lobj its nn)] (compSt own.length cap σ) H' s' ∧ tn i s'.heap ∧ (∀ b ∈ fp, H' b = none) ∧ Vals ys its ∧ ys.length ≤ sizeLine ∧ W i k ys H') ?_ m0
      ⟨0, [], [], 0, H2, pinD (I0 _) hacc (I2.hok.fresh hDle), T.keep _ _ _ st2 (fun b hb o e => old b o e), fun b hb => (f2 b hb).1, .nil, Nat.zero_le _, w0⟩
    rintro k s3 ⟨i, ys, its, nn, H3, I3, st3, fr3, rv, hz, w3⟩
    have oD3 : s3.heap.get? D = some (lobj its nn) := (I3.pin (D, lobj its nn) (by simp)).1
    have fpY : ∀ {H' : Hp}, (∀ b ∈ fp, H' b = none) → ∀ b ∈ fp, FpOk (compCx X scope (own ++ capN) C s2 H2 fp) [(D, lobj its nn)] H' b := fun {H'} hn b hb => by
      obtain ⟨f0, f1, g2, f3, f4, f5⟩ := f2 b hb
      refine ⟨hn b hb, Nat.ne_of_lt (Nat.lt_of_lt_of_le (hfpl b hb) hCle'), fun z => ?_, .inl hb, fun x c e => f4 x c (O.sub I2.ok x c e), fun p hp => ?_⟩
      · rcases List.mem_cons.mp (I2.stkSub b z) with e | e
        · exact f1 e
        · exact g2 e
      · have z : p = (D, lobj its nn) := by simpa [compCx] using hp
        subst z
        exact hDfp b hb
    rcases turn i k ys H3 w3 with ⟨stop, qn⟩ | ⟨go, hlt, step⟩
    · refine thn (T.done (compCx X scope (own ++ capN) C s2 H2 fp) rfl rfl rfl hc i _ s3 _ H3 _ I3 (fpY fr3) st3 stop) fun r s4 ⟨hr, I4⟩ => ?_
      subst hr
      obtain ⟨oD, nD, _⟩ := I4.pin (D, lobj its nn) (by simp)
      have neD : ∀ {b : Addr} {u : HO}, H3 b = some u → b ≠ D := fun {b u} e => ne_of_none e nD
      have JX : Inv X pins σ (upd H3 D (.lst ys)) s4 := by
        refine I2.call' (ch := fp) I4.os ⟨I4.base.keep, I4.base.slot, fun b o e nb hx => ?_, I4.base.there, fun b xs e => ?_, fun b o u e => ?_, fun b ps e => ?_⟩ (fun b u e => ?_) I4.bare (fun b hb => ?_)
        · rw [upd_ne (by rw [← hDe]; exact Nat.ne_of_lt (Heap.lt_size e))]
          exact I4.base.free b o e nb hx
        · have q := I4.base.tups b xs e
          rw [upd_ne (neD q)]
          exact q
        · have q := I4.base.frzs b o u e
          rw [upd_ne (neD q)]
          exact q
        · obtain ⟨more, q⟩ := I4.base.tbls b ps e
          exact ⟨more, by rw [upd_ne (neD q)]; exact q⟩
        · by_cases hb : b = D
          · subst hb
            rw [upd_same] at e
            cases e
            exact ⟨hz, its, nn, rv, oD⟩
          · rw [upd_ne hb] at e
            exact (I4.hok b u e).stay (fun _ _ _ q => q) (fun c q => by rw [upd_ne (neD q)]; exact q) fun c xs q => by rw [upd_ne (neD q)]; exact q
        · obtain ⟨f0, f1, g2, f3, f4, f5⟩ := f2 b hb
          exact ⟨f3, f1, f4, f5⟩
      obtain ⟨m4, hn4, _⟩ := I4.loc
      refine fin D C s4 H3 ys JX ⟨m4, hn4⟩ ?_ (qn D nD)
      refine I2.fpOk (b := C) hCle' ?_
      rw [upd_ne (Ne.symm hDC)]
      exact I4.free
    · refine thn (T.item (compCx X scope (own ++ capN) C s2 H2 fp) rfl rfl rfl hc i _ s3 _ H3 _ I3 (fpY fr3) st3 go) fun r s4 ⟨u, hr, h4⟩ => ?_
      subst hr
      refine thn h4 fun _ s5 ⟨x, H5, I5, r5, y5, st5, fr5⟩ => ?_
      have I5' := I5.pinned (fpY fr5) (T.obj _ _ st5)
      refine thn (hg C s2 H2 fp _ s5 _ H5 x u _ I5' r5 (gk _ _ _ _ (step x H5 y5))) fun _ s6 ⟨σ6, H6, I6, ⟨l6, k6⟩, q6⟩ => ?_
      refine thn (ht C s2 H2 fp _ s6 σ6 H6 _ I6 q6) fun ok s7 ⟨H7, I7, q7⟩ => ?_
      -- what stands at a turn's end
      have wk : ∀ {H8 : Hp} {s8 : Shared} {pl : List (Addr × Obj)}, Inv (compCx X scope (own ++ capN) C s2 H2 fp) pl σ6 H8 s8 → Inv (compCx X scope (own ++ capN) C s2 H2 fp) pl (compSt own.length cap σ) H8 s8 := fun I => I.weak l6.symm fun j v e => by
        obtain ⟨hj, _⟩ := compSt_get e
        rw [k6 j hj]
        exact e
      have tn8 : ∀ {σ8 : St} {H8 : Hp} {s8 : Shared}, Inv (compCx X scope (own ++ capN) C s2 H2 fp) ([(D, lobj its nn)] ++ pinsAt fp s5.heap) σ8 H8 s8 → (∀ b ∈ fp, ∀ o, s5.heap.get? b = some o → s8.heap.get? b = some o) ∧ ∀ b ∈ fp, H8 b = none := fun {σ8 H8 s8} I => by
        refine ⟨fun b hb o e => (I.pin (b, o) (List.mem_append_right _ (List.mem_append_right _ (mem_pinsAt hb e)))).1, fun b hb => ?_⟩
        obtain ⟨o, e, d⟩ := T.obj _ _ st5 b hb
        exact (I.pin (b, o) (List.mem_append_right _ (List.mem_append_right _ (mem_pinsAt hb e)))).2.1
      cases ok with
      | false =>
        rw [if_neg Bool.false_ne_true] at q7 ⊢
        obtain ⟨m', hm, w7⟩ := q7
        obtain ⟨t1, t2⟩ := tn8 I7
        exact ⟨m', hm, i + 1, ys, its, nn, H7, wk I7.unpinned, T.keep _ _ _ st5 t1, t2, rv, hz, w7⟩
      | true =>
        rw [if_pos rfl] at q7 ⊢
        refine thn (he C s2 H2 fp _ s7 σ6 H7 _ I7 q7) fun y s8 ⟨yv, H8, I8, r8, m', hm, w8⟩ => ?_
        obtain ⟨t1, t2⟩ := tn8 I8
        obtain ⟨oD, nD, _⟩ := I8.pin (D, lobj its nn) (by simp)
        have hil := rv.length
        refine call_meets F.slot_list_append ⟨_, oD, rfl⟩ F.entry_list_append (F.args_list_append_2 _ _) (PySem.list_append D its.toArray nn y (by rw [List.size_toArray]; omega)) ⟨oD, ?_⟩
        have q := PySem.IsL.update oD (fun x_1 => x_1.push y)
        have hf : its.toArray.push y = (its ++ [y]).toArray := by simp
        rw [hf] at q
        have keepO : ∀ b o, b ≠ D → s8.heap.get? b = some o → (s8.heap.update D (Obj.mapSeq fun x_1 => x_1.push y)).get? b = some o := fun b o hb e => (Heap.get?_update_other s8.heap (Obj.mapSeq fun x_1 => x_1.push y) (Ne.symm hb)).trans e
        have I9 : Inv (compCx X scope (own ++ capN) C s2 H2 fp) [] σ6 H8 { s8 with heap := s8.heap.update D (Obj.mapSeq fun x_1 => x_1.push y), toks := s8.toks } :=
          (I8.pins_of (pins' := []) fun p hp => absurd hp (by simp)).turned (it := D) keepO nD hDC (.inr hDle) Dcell (fun p hp => absurd (show p ∈ ([] : List (Addr × Obj)) from hp) (by simp))
        refine ⟨m', hm, i + 1, ys ++ [yv], its ++ [y], _, H8, wk (pinD I9 q nD), T.keep _ _ _ st5 (fun b hb o e => keepO b o (Ne.symm (hDfp b hb)) (t1 b hb o e)), t2, rv.append (.cons r8 .nil), ?_, w8⟩
        rw [List.length_append, List.length_singleton]
        omega
  exact codeAny_compStart_list (loop _ rfl) (T.self _ 0 _ _ _ (T.keep _ _ _ st2 (fun b hb o e => old b o e)) (loop _ rfl))

/-- [elt for tg in iter if ..] -/
theorem pe_comp {wi : TI} (O : CompOk X scope cap capN) (hc : X.calm = true) (hi : PI X tg iter wi)
    (hg : ∀ C s0 H0 ex, PG (compCx X scope (own ++ capN) C s0 H0 ex) tg g) (gk : GK own.length g) (ht : ∀ C s0 H0 ex, PIfs (compCx X scope (own ++ capN) C s0 H0 ex) ifs tc) (he : ∀ C s0 H0 ex, PE (compCx X scope (own ++ capN) C s0 H0 ex) elt te)
    (hs : ∀ x, foldedSetIterable iter X.env x = pure x := by intro _; rfl) : PE X (.ListComp elt [⟨tg, iter, ifs, 0⟩] scope pos) (tComp own.length cap wi g tc te) := by
  intro pins s σ H Q I h
  rw [eval_ListComp]
  refine wpAny_comprehension_free (use := none) rfl hs (O.clos I.ok) O.kind O.names (thn (hi pins s σ H _ I h) fun v s1 h1 => thn h1 fun itv s2 h2 => ?_)
  obtain ⟨it, fp, tn, J, H2, e, I2, T, st2, f2, hq⟩ := h2
  subst e
  refine comp_core (RR := fun acc C => compPost (model X.prog X.w) X.A X.xe none (EP X pins σ Q) acc C) O hc hg gk ht he I2 T st2 f2 hq fun D C s4 H4 ys J4 hn4 fC q4 => ?_
  obtain ⟨m, hn⟩ := hn4
  obtain ⟨f0, f1, g2, f3, f4, f5⟩ := fC
  exact ⟨m, hn, fun h' sb => ⟨.ref D, _, J4.turned (t' := s4.toks) (fun b o hb e => (sb.2 b hb).trans e) f0 f1 f3 f4 f5, rfl, q4⟩⟩

/-- y = [elt for tg in iter if ..], the store ahead of the block's end -/
theorem ps_setC {wi : TI} {j : Nat} {y : Str} {py spos : Pos} (hN0 : X.N.Nodup) (hj : X.N[j]? = some y) (hy : Loc X.env.scope y) (O : CompOk X scope cap capN) (hc : X.calm = true) (hi : PI X tg iter wi)
    (hg : ∀ C s0 H0 ex, PG (compCx X scope (own ++ capN) C s0 H0 ex) tg g) (gk : GK own.length g) (ht : ∀ C s0 H0 ex, PIfs (compCx X scope (own ++ capN) C s0 H0 ex) ifs tc) (he : ∀ C s0 H0 ex, PE (compCx X scope (own ++ capN) C s0 H0 ex) elt te)
    (hsw : swapsWith (.ListComp elt [⟨tg, iter, ifs, 0⟩] scope pos) (some (.Name y py)) spos.line X.env = pure true := by rfl)
    (hs : ∀ x, foldedSetIterable iter X.env x = pure x := by intro _; rfl) (hf : X.fn y = true ∨ X.env.scope.names.lookup y = some .local := by first | exact .inl rfl | exact .inr rfl | assumption) :
    PS X (.Assign [.Name y py] (.ListComp elt [⟨tg, iter, ifs, 0⟩] scope pos) spos) (tAsg (tComp own.length cap wi g tc te) (gName j)) := by
  intro pins s σ H D0 I h
  rw [exec_Assign_Name_used _ _ _ _ hsw]
  refine wpAny_bind (wpAny_standAt (wpAny_bind ?_))
  show wpAny _ X.A (do let _ ← comprehension (.ListComp elt [⟨tg, iter, ifs, 0⟩] scope pos) scope X.env _ (newList []) false (eval iter X.env) (some (assign (.Name y py) X.env))) _ _ s
  refine wpAny_bind (wpAny_mono (wpAny_comprehension_free (use := some (assign (.Name y py) X.env)) (Q := fun _ s' => SP X pins D0 .next s') rfl hs (O.clos I.ok) O.kind O.names (thn (hi pins s σ H _ I h) fun v s1 h1 => thn h1 fun itv s2 h2 => ?_)) (fun _ s' hq => wpAny_pure (wpAny_pure hq)) fun _ _ e => e)
  obtain ⟨it, fp, tn, J, H2, e, I2, T, st2, f2, hq⟩ := h2
  subst e
  refine comp_core (RR := fun acc C => compPost (model X.prog X.w) X.A X.xe (some (assign (.Name y py) X.env)) (fun _ s' => SP X pins D0 .next s') acc C) O hc hg gk ht he I2 T st2 f2 hq fun D C s4 H4 ys J4 hn4 fC q4 => ?_
  obtain ⟨m, hn⟩ := hn4
  obtain ⟨f0, f1, g2, f3, f4, f5⟩ := fC
  show wpAny _ X.A (assign (.Name y py) X.env (.ref D)) _ _ _
  refine wpAny_assign_Name (store_ok2 J4 hN0 hj hy (v := .ref D) rfl (fun s5 I5 ⟨a, sba, ha⟩ => ?_) hf)
  have hCa : C ≠ a := by
    rcases ha with z | z
    · rw [z]; exact f1
    · exact Ne.symm (f4 _ _ z)
  refine ⟨m, hn.sameBut sba hCa, fun h' sb => ?_⟩
  exact ⟨_, _, I5.turned (t' := s5.toks) (fun b o hb e => (sb.2 b hb).trans e) f0 f1 f3 f4 f5, q4⟩
end
end L2
namespace L2
open PySem PySem.Spec PyProof.Rows

/-! ### a def of the text, all in one -/
structure Fn (P : Program) (w : World) (K : PySem.W.Frag) (mg : Str → Option Value) (base : Heap) (k : Nat) (x : Str) (ps : List Str) (sp : Sp) : Prop where
  ex : ∃ f fd, FnOk P w K mg base CX0 k f fd ps sp ∧ mg x = some (.ref f) ∧ PySem.W.keepIn K (.ref f) = true ∧ Binds K fd ps []
theorem Fn.mk' {P : Program} {w : World} {K : PySem.W.Frag} {mg : Str → Option Value} {base : Heap} {k : Nat} {x : Str} {ps : List Str} {sp : Sp} {f : Addr} {fd : FuncData}
    (G : FnOk P w K mg base CX0 k f fd ps sp) (m : mg x = some (.ref f)) (kp : PySem.W.keepIn K (.ref f) = true) (b : Binds K fd ps []) : Fn P w K mg base k x ps sp := ⟨f, fd, G, m, kp, b⟩
section
variable {X : Cx} {k : Nat} {x : Str} {p pos : Pos} {e : Expr} {es : List Expr} {ps : List Str} {sp : Sp} {t : TA}
theorem pe_fn (F : Fn X.prog X.w X.K X.mg X.base k x ps sp) (hr : Room k X.A) (ha : PA X (e :: es) t) (hg : Gl X x := by rfl) (hdb : (x == ("__debug__" : Str)) = false := by decide)
    (he : starEach (e :: es) X.env = (false, eval e X.env) :: starEach es X.env := by rfl) (hpl : (backTo pos (starEach es X.env)).any (·.1) = false := by rfl) :
    PE X (.Call (.Name x p) (e :: es) [] pos) (tCall sp [] E0 t) := by
  obtain ⟨f, fd, G, m, kp, b⟩ := F.ex
  exact pe_call G hr hg m kp b .nil pass0 ha hdb he hpl
end

/-! ### built-ins -/
section
variable {X : Cx} {x : Str} {p pos : Pos} {e : Expr} {es : List Expr} {t : TA} {id T : String} {r : List V → Hp → VK → Prop}
end
theorem boot_isinstance : bootBuiltins "isinstance" = some (.builtin "isinstance") := by decide +kernel
theorem boot_min : bootBuiltins "min" = some (.builtin "min") := by decide +kernel
theorem boot_int : bootBuiltins "int" = some (.type "int") := by decide +kernel
theorem boot_list : bootBuiltins "list" = some (.type "list") := by decide +kernel
section
variable {X : Cx}
theorem call_isi : CallR X (.builtin "isinstance") (fun xs H Q => ∃ x T t b, xs = [x, .ty T] ∧ TyOf X.K H x t ∧ PySem.W.kitOne X.K t (.type T) = some b ∧ Q (.bl b) H) := by
  intro pins s σ H xs us Q I r h
  obtain ⟨x, T, t, b, rfl, ty, e, q⟩ := h
  obtain ⟨u, w', rfl, rx, ry⟩ := vals2 r
  cases (show w' = Value.type T from ry)
  exact isinst_ok I rx ty e fun tk => ⟨.bl b, H, I.tok tk, rfl, q⟩
end

/-! ### kinds -/
theorem kit_step {K : PySem.W.Frag} {t T : String} {b : Bool} (h1 : (Value.type t == Value.type T) = b) (h2 : b = false → PySem.W.kitMeta T = true ∧ (PySem.fastBuiltinMro t).map (·.contains (Value.type T)) = some false) : PySem.W.kitOne K (.type t) (.type T) = some b := by
  unfold PySem.W.kitOne
  rw [h1]
  cases b with
  | true => exact if_pos rfl
  | false =>
    rw [if_neg Bool.false_ne_true]
    obtain ⟨m, q⟩ := h2 rfl
    show (if PySem.W.kitMeta T = true then PySem.W.subIn K (.type t) (.type T) else none) = _
    rw [if_pos m]
    exact q
/-! ### heaps -/
theorem same_new {H : Hp} {p : Addr} (h : H p = none) (o : HO) : Same H (upd H p o) := fun b u q => by rw [upd_ne (ne_of_none q h)]; exact q
theorem same_ty {K : PySem.W.Frag} {H H' : Hp} {v : V} {n : Value} (e : Same H H') (h : TyOf K H v n) : TyOf K H' v n := by
  cases h with
  | non => exact .non
  | bl x => exact .bl x
  | int i => exact .int i
  | str x => exact .str x
  | flt x => exact .flt x
  | lst q => exact .lst (e _ _ q)
  | frz q => exact .frz (e _ _ q)
  | tup q => exact .tup (e _ _ q)
  | dK q => exact .dK (e _ _ q)
  | dT q => exact .dT (e _ _ q)
  | ins q cl ha hn htk hm => exact .ins (e _ _ q) cl ha hn htk hm
theorem size63 {n : Nat} (h : n ≤ 1000) : n ≤ sizeLine := Nat.le_of_lt (small1000 h)

/-! ### a comprehension without tests, its elements leave what was there -/
theorem comp_pure {J : It} {N n : Nat} {cap : List Nat} {te : TE} {σ : St} {H0 : Hp} {Q : VK} (x0 f : Nat → V) (hz : N ≤ 1000)
    (hgo : ∀ i H, i < N → Same H0 H → J.go i H) (hst : ∀ H, Same H0 H → J.stop N H) (hy : ∀ i H x H', i < N → Same H0 H → J.yld i H x H' → H' = H ∧ x = x0 i)
    (he : ∀ i H, i < N → Same H0 H → ∀ R : VK, (∀ H', Same H H' → R (f i) H') → te ((compSt n cap σ).set 0 (some (x0 i))) H R)
    (hq : ∀ p H, Same H0 H → H p = none → Q (.ref p) (upd H p (.lst ((List.range N).map f)))) : tCompR n cap (gName 0) tNoIf te σ J H0 Q := by
  refine ⟨fun i m ys H => m = N - i ∧ i ≤ N ∧ Same H0 H ∧ ys = (List.range i).map f, ⟨N, by simp, Nat.zero_le _, Same.refl _, rfl⟩, ?_⟩
  rintro i m ys H ⟨rfl, hi, sm, rfl⟩
  by_cases hlt : i < N
  · refine .inr ⟨hgo i H hlt sm, ?_, fun x H' y => ?_⟩
    · rw [List.length_map, List.length_range]
      exact small1000 (by omega)
    · obtain ⟨e1, e2⟩ := hy i H x H' hlt sm y
      subst e1 e2
      refine he i H' hlt sm _ fun H4 sm4 => ⟨N - (i + 1), by omega, rfl, hlt, sm.trans sm4, ?_⟩
      rw [List.range_succ, List.map_append]
      rfl
  · have e : i = N := by omega
    subst e
    exact .inl ⟨hst H sm, fun p hp => hq p H sm hp⟩
theorem comp_list {K : PySem.W.Frag} {a : Addr} {xs : List V} {n : Nat} {cap : List Nat} {te : TE} {σ : St} {H0 : Hp} {Q : VK} (f : Nat → V) (hz : xs.length ≤ 1000) (hl : SqL K H0 a xs)
    (he : ∀ i x H, xs[i]? = some x → Same H0 H → ∀ R : VK, (∀ H', Same H H' → R (f i) H') → te ((compSt n cap σ).set 0 (some x)) H R)
    (hq : ∀ p H, Same H0 H → H p = none → Q (.ref p) (upd H p (.lst ((List.range xs.length).map f)))) : tCompR n cap (gName 0) tNoIf te σ (Itl K a) H0 Q := by
  refine comp_pure (N := xs.length) (fun i => (xs[i]?).getD .non) f hz (fun i H hi sm => ⟨xs, xs[i], sm.seq hl, by simp [hi]⟩) (fun H sm => ⟨xs, sm.seq hl, Nat.le_refl _⟩) (fun i H x H' hi sm y => ⟨y.1, ?_⟩) (fun i H hi sm R k => ?_) hq
  · rw [y.2 xs (sm.seq hl)]
    rfl
  · have e : xs[i]? = some xs[i] := by simp [hi]
    rw [e]
    exact he i xs[i] H e sm R k
end L2
namespace L2
open PySem PySem.Spec PyProof.Rows
/-! ### argument lists: no star, told once -/
def noStar : Expr → Bool
  | .Starred _ _ => false
  | _ => true
theorem star_cons {e : Expr} {es : List Expr} {env : Env} (h : noStar e = true) : starEach (e :: es) env = (false, eval e env) :: starEach es env := by
  cases e <;> first | rfl | cases h
theorem plain_back {env : Env} {pos : Pos} : ∀ {es : List Expr}, es.all noStar = true → (backTo pos (starEach es env)).any (·.1) = false
  | [], _ => rfl
  | e :: es, h => by
    rw [List.all_cons, Bool.and_eq_true] at h
    rw [star_cons h.1]
    show (false || (backTo pos (starEach es env)).any (·.1)) = false
    rw [Bool.false_or]
    exact plain_back h.2
section
variable {X : Cx} {x : Str} {p pos : Pos} {e : Expr} {es : List Expr} {te : TE} {t : TA} {id T : String} {r : List V → Hp → VK → Prop} {k : Nat} {ps : List Str} {sp : Sp}
theorem pa (ha : PE X e te) (hr : PA X es t) (hs : noStar e = true := by rfl) : PA X (e :: es) (tCons te t) := pa_cons ha hr (star_cons hs)
theorem pB (hc : CallR X (.builtin id) r) (hm : X.mg x = none) (hv : bootBuiltins x = some (.builtin id)) (ha : PA X (e :: es) t) (hg : Gl X x := by rfl) (hs : (e :: es).all noStar = true := by rfl) (hn : x ≠ "__name__" := by decide) (hdb : (x == ("__debug__" : Str)) = false := by decide) :
    PE X (.Call (.Name x p) (e :: es) [] pos) (tCB r t) := by
  rw [List.all_cons, Bool.and_eq_true] at hs
  exact pe_callB hc hg hm hv ha hn hdb (star_cons hs.1) (plain_back hs.2)
theorem pTy (hc : CallR X (.type T) r) (hm : X.mg x = none) (hv : bootBuiltins x = some (.type T)) (ha : PA X (e :: es) t) (hg : Gl X x := by rfl) (hs : (e :: es).all noStar = true := by rfl) (hn : x ≠ "__name__" := by decide) (hdb : (x == ("__debug__" : Str)) = false := by decide) :
    PE X (.Call (.Name x p) (e :: es) [] pos) (tCB r t) := by
  rw [List.all_cons, Bool.and_eq_true] at hs
  exact pe_callTy hc hg hm hv ha hn hdb (star_cons hs.1) (plain_back hs.2)
theorem pfn (F : Fn X.prog X.w X.K X.mg X.base k x ps sp) (hr : Room k X.A) (ha : PA X (e :: es) t) (hg : Gl X x := by rfl) (hs : (e :: es).all noStar = true := by rfl) (hdb : (x == ("__debug__" : Str)) = false := by decide) :
    PE X (.Call (.Name x p) (e :: es) [] pos) (tCall sp [] E0 t) := by
  rw [List.all_cons, Bool.and_eq_true] at hs
  exact pe_fn F hr ha hg hdb (star_cons hs.1) (plain_back hs.2)
end
end L2
namespace L2
open PySem PySem.Spec PyProof.Rows
/-! ### the judgements, closed up: nothing looks into them while a term of rules is read -/
structure QE (X : Cx) (e : Expr) (t : TE) : Prop where
  h : PE X e t
structure QT (X : Cx) (e : Expr) (t : TT) : Prop where
  h : PT X e t
structure QW (X : Cx) (e : Expr) (t : TT) : Prop where
  h : PW X e t
structure QA (X : Cx) (es : List Expr) (t : TA) : Prop where
  h : PA X es t
structure QS (X : Cx) (st : Stmt) (t : TS) : Prop where
  h : PS X st t
structure QB (X : Cx) (st : List Stmt) (t : TS) : Prop where
  h : PSs X st t
structure QG (X : Cx) (tg : Expr) (g : TG) : Prop where
  h : PG X tg g
structure QGs (X : Cx) (ts : List Expr) (g : TGs) : Prop where
  h : PGs X ts g
structure QI (X : Cx) (tg iter : Expr) (wi : TI) : Prop where
  h : PI X tg iter wi
structure QIf (X : Cx) (ifs : List Expr) (t : TT) : Prop where
  h : PIfs X ifs t
structure QO (X : Cx) (e : Option Expr) (t : TO) : Prop where
  h : PO X e t
structure QOp (X : Cx) (f : Value → Value → Sem Value) (r : R2) : Prop where
  h : OpR X f r
structure QCall (X : Cx) (f : Value) (r : List V → Hp → VK → Prop) : Prop where
  h : CallR X f r
structure QIx (X : Cx) (r : R2) : Prop where
  h : IxR X r
structure QSl (X : Cx) (r : V → Option Int → Option Int → Hp → VK → Prop) : Prop where
  h : SlR X r
structure QSet (X : Cx) (t : TSet) : Prop where
  h : PSet X t
structure QUn (X : Cx) (f : Value → Sem Value) (r : V → Hp → VK → Prop) : Prop where
  h : UnR X f r
structure QIp (X : Cx) (op : Operator) (t : TIp) : Prop where
  h : PIp X op t
section
variable {X : Cx} {pos p : Pos} {e a b c o : Expr} {es rest : List Expr} {te ta tb tc : TE} {t : TA} {tA tB' : TT} {x : Str}
theorem q_v (i : Nat) {x : Str} {pos : Pos} (hN : X.N[i]? = some x := by rfl) (hv : Vis X.env.scope x := by first | exact Or.inl rfl | exact Or.inr (Or.inl rfl) | exact Or.inr (Or.inr rfl)) (hd : (x == ("__debug__" : Str)) = false := by decide)
    (hcd : (x == ("__classdict__" : Str)) = false := by decide) : QE X (.Name x pos) (tVar i) := ⟨pe_var hN hv hd hcd⟩
theorem q_int {i : Int} {j : Nat} : QE X (.Constant (.int i) j pos) (tC (.int i)) := ⟨pe_int⟩
theorem q_bl {i : Bool} {j : Nat} : QE X (.Constant (.bool i) j pos) (tC (.bl i)) := ⟨pe_bl⟩
theorem q_non {j : Nat} : QE X (.Constant .none j pos) (tC .non) := ⟨pe_non⟩
theorem q_str {i : Str} {j : Nat} : QE X (.Constant (.str i) j pos) (tC (.str i)) := ⟨pe_str⟩
theorem q_bt {T : String} (hm : X.mg x = none) (hv : bootBuiltins x = some (.type T)) (hg : Gl X x := by rfl) (hn : x ≠ "__name__" := by decide) (hd : (x == ("__debug__" : Str)) = false := by decide) : QE X (.Name x pos) (tC (.ty T)) := ⟨pe_bltn hg hm hv rfl hn hd⟩
theorem q_gI {i : Int} {tk : Tok} (hm : X.mg x = some (.int i tk)) (hg : Gl X x := by rfl) (hd : (x == ("__debug__" : Str)) = false := by decide) : QE X (.Name x pos) (tC (.int i)) := ⟨pe_glob hg hm ⟨_, rfl⟩ hd⟩
theorem q_op {op : Operator} {r : R2} (ho : QOp X (binaryOp op) r) (ha : QE X a ta) (hb : QE X b tb) : QE X (.BinOp a op b pos) (tOp r ta tb) := ⟨pe_op ho.h ha.h hb.h⟩
theorem q_one {op} (h : QE X a ta) : QE X (.BoolOp op [a] pos) ta := ⟨pe_one h.h⟩
theorem q_and (ha : QE X a ta) (hb : QE X (.BoolOp .And (b :: rest) pos) tb) : QE X (.BoolOp .And (a :: b :: rest) pos) (tAndV ta tb) := ⟨pe_and ha.h hb.h⟩
theorem q_or (ha : QE X a ta) (hb : QE X (.BoolOp .Or (b :: rest) pos) tb) : QE X (.BoolOp .Or (a :: b :: rest) pos) (tOrV ta tb) := ⟨pe_or ha.h hb.h⟩
theorem q_not (ha : QE X a ta) : QE X (.UnaryOp .Not a pos) (tNotV ta) := ⟨pe_not ha.h⟩
theorem q_cmp {op : CmpOp} {r : R2} (ho : QOp X (compareOp op) r) (ha : QE X a ta) (hb : QE X b tb) (hm : behindInMarks op b = false := by first | exact nomark _ | with_unfolding_all rfl) : QE X (.Compare a [op] [b] pos) (tOp r ta tb) := ⟨pe_cmpR ho.h ha.h hb.h hm⟩
theorem q_if (hc : QT X c tA) (ha : QE X a ta) (hb : QE X b tb) : QE X (.IfExp c a b pos) (tIf tA ta tb) := ⟨pe_ifExp hc.h ha.h hb.h⟩
theorem q_lst (h : QA X es t) : QE X (.List es pos) (tLst t) := ⟨pe_lst h.h⟩
theorem q_tup {x1} (h : QA X es t) : QE X (.Tuple es x1 pos) (tTup t) := ⟨pe_tup h.h⟩
theorem q_ix {r : R2} (hr : QIx X r) (ha : QE X a ta) (hb : QE X b tb) (hs : PlainIx b := by intro _ _; rfl) : QE X (.Subscript a b pos) (tOp r ta tb) := ⟨pe_ix hr.h ha.h hb.h hs⟩
theorem q_sl {r : V → Option Int → Option Int → Hp → VK → Prop} {lo hi : Option Expr} {tl th : TO} {p2 : Pos} (hr : QSl X r) (he : QE X e te) (hl : QO X lo tl) (hu : QO X hi th) : QE X (.Subscript e (.Slice lo hi none p2) pos) (tSl r te tl th) := ⟨pe_slice hr.h he.h hl.h hu.h⟩
theorem q_o1 (h : QE X e te) : QO X (some e) (tPart te) := ⟨po_some h.h⟩
theorem q_a0 : QA X [] tNil := ⟨pa_nil⟩
theorem q_a (ha : QE X e te) (hr : QA X es t) (hs : noStar e = true := by rfl) : QA X (e :: es) (tCons te t) := ⟨pa ha.h hr.h hs⟩
theorem q_B {id : String} {r : List V → Hp → VK → Prop} (hc : QCall X (.builtin id) r) (hm : X.mg x = none) (hv : bootBuiltins x = some (.builtin id)) (ha : QA X (e :: es) t) (hg : Gl X x := by rfl) (hs : (e :: es).all noStar = true := by rfl) (hn : x ≠ "__name__" := by decide) (hdb : (x == ("__debug__" : Str)) = false := by decide) :
    QE X (.Call (.Name x p) (e :: es) [] pos) (tCB r t) := ⟨pB hc.h hm hv ha.h hg hs hn hdb⟩
theorem q_Ty {T : String} {r : List V → Hp → VK → Prop} (hc : QCall X (.type T) r) (hm : X.mg x = none) (hv : bootBuiltins x = some (.type T)) (ha : QA X (e :: es) t) (hg : Gl X x := by rfl) (hs : (e :: es).all noStar = true := by rfl) (hn : x ≠ "__name__" := by decide) (hdb : (x == ("__debug__" : Str)) = false := by decide) :
    QE X (.Call (.Name x p) (e :: es) [] pos) (tCB r t) := ⟨pTy hc.h hm hv ha.h hg hs hn hdb⟩
theorem q_fn {k : Nat} {ps : List Str} {sp : Sp} (F : Fn X.prog X.w X.K X.mg X.base k x ps sp) (hr : Room k X.A) (ha : QA X (e :: es) t) (hg : Gl X x := by rfl) (hs : (e :: es).all noStar = true := by rfl) (hdb : (x == ("__debug__" : Str)) = false := by decide) :
    QE X (.Call (.Name x p) (e :: es) [] pos) (tCall sp [] E0 t) := ⟨pfn F hr ha.h hg hs hdb⟩
/-! tests -/
theorem t_cmp {op : CmpOp} {r : R2} (ho : QOp X (compareOp op) r) (ha : QE X a ta) (hb : QE X b tb) (hm : behindInMarks op b = false := by first | exact nomark _ | with_unfolding_all rfl) : QT X (.Compare a [op] [b] pos) (tTest (tOp r ta tb)) := ⟨pt_cmpR ho.h ha.h hb.h hm⟩
theorem t_not (ha : QT X a tA) : QT X (.UnaryOp .Not a pos) (tNot tA) := ⟨pt_not ha.h⟩
theorem t_val (h : QE X e te) (he : ∀ whole, isTrue e X.env whole = (do let v ← whole; standAt e.pos; holding [v] (truthy v)) := by intro _; rfl) : QT X e (tB te) := ⟨pt_val h.h he⟩
theorem w_or1 (ha : QT X a tA) : QW X (.BoolOp .Or [a] pos) tA := ⟨pw_or1 ha.h⟩
theorem w_or (ha : QT X a tA) (hb : QW X (.BoolOp .Or (b :: rest) pos) tB') : QW X (.BoolOp .Or (a :: b :: rest) pos) (tOr tA tB') := ⟨pw_or ha.h hb.h⟩
theorem t_w (h : QW X e tA) : QT X e tA := ⟨h.h.pt⟩
end
section
variable {X : Cx} {pos : Pos} {tg iter elt : Expr} {ifs : List Expr} {g : TG} {gs : TGs} {tc : TT} {te : TE} {scope : Scope} {cap : List Nat} {capN own : List Str} {wi : TI}
/-! targets, what is walked -/
theorem g_name {i : Nat} {x : Str} (hN : X.N.Nodup) (hi : X.N[i]? = some x := by rfl) (hx : Loc X.env.scope x := by first | exact Or.inl rfl | exact Or.inr rfl) (hf : X.fn x = true ∨ X.env.scope.names.lookup x = some .local := by first | exact .inl rfl | exact .inr rfl) : QG X (.Name x pos) (gName i) := ⟨pg_name hN hi hx hf⟩
theorem gs_0 : QGs X [] gNil := ⟨pgs_nil⟩
theorem gs_1 {e : Expr} {es : List Expr} (h1 : QG X e g) (h2 : QGs X es gs) (hs : (assignEach (e :: es) X.env).map (·.2) = assign e X.env :: (assignEach es X.env).map (·.2) := by rfl) : QGs X (e :: es) (gCons g gs) := ⟨pgs_cons h1.h h2.h hs⟩
theorem g_tup {es : List Expr} {k n : Nat} (hc : X.calm = true) (h : QGs X es gs) (hn : (assignEach es X.env).length = n := by rfl) (hst : (assignEach es X.env).findIdx? (·.1) = none := by rfl) : QG X (.Tuple es k pos) (gTup X.K n gs) := ⟨pg_tup hc h.h hn hst⟩
theorem i_list {l : Expr} (hl : QE X l te) : QI X tg l (iList X.K te) := ⟨pi_list hl.h⟩
theorem i_rng2 {a b : Expr} {ta : TA} {p : Pos} (hm : X.mg "range" = none) (ha : QA X [a, b] ta) (hg : Gl X "range" := by rfl) (hs : noStar a = true := by rfl) (hs2 : noStar b = true := by rfl) : QI X tg (.Call (.Name "range" p) [a, b] [] pos) (iRng2 ta) :=
  ⟨pi_range2 hg hm ha.h (by rw [star_cons hs, star_cons hs2]; rfl) (star_cons hs2)⟩
theorem if_0 : QIf X [] tNoIf := ⟨pifs_nil⟩
theorem if_1 {c : Expr} {t : TT} (h : QT X c t) : QIf X [c] t := ⟨pifs_one h.h⟩
theorem q_comp (O : CompOk X scope cap capN) (hc : X.calm = true) (hi : QI X tg iter wi) (hg : ∀ C s0 H0 ex, QG (compCx X scope (own ++ capN) C s0 H0 ex) tg g) (gk : GK own.length g) (ht : ∀ C s0 H0 ex, QIf (compCx X scope (own ++ capN) C s0 H0 ex) ifs tc)
    (he : ∀ C s0 H0 ex, QE (compCx X scope (own ++ capN) C s0 H0 ex) elt te) (hs : ∀ x, foldedSetIterable iter X.env x = pure x := by intro _; rfl) : QE X (.ListComp elt [⟨tg, iter, ifs, 0⟩] scope pos) (tComp own.length cap wi g tc te) :=
  ⟨pe_comp O hc hi.h (fun C s0 H0 ex => (hg C s0 H0 ex).h) gk (fun C s0 H0 ex => (ht C s0 H0 ex).h) (fun C s0 H0 ex => (he C s0 H0 ex).h) hs⟩
/-! statements -/
variable {st : Stmt} {rest : List Stmt} {t u : TS} {e c : Expr}
theorem b_0 : QB X [] tNext := ⟨pss_nil⟩
theorem b_1 (h : QS X st t) : QB X [st] t := ⟨pss_one h.h⟩
theorem b_c (h1 : QS X st t) (h2 : QB X rest u) : QB X (st :: rest) (tSeq t u) := ⟨pss_cons h1.h h2.h⟩
theorem s_ret (h : QE X e te) : QS X (.Return (some e) pos) (tRet te) := ⟨ps_ret h.h⟩
theorem s_expr (h : QE X e te) (hs : swapsWith e none pos.line X.env = pure false := by rfl) : QS X (.Expr e pos) (tDrop te) := ⟨ps_expr h.h hs⟩
theorem s_if {body els : List Stmt} (hc : QT X c tc) (ht : QB X body t) (hu : QB X els u) : QS X (.If c body els pos) (tIfS tc t u) := ⟨ps_if hc.h ht.h hu.h⟩
theorem s_set {i : Nat} {x : Str} {pos' : Pos} (hN : X.N.Nodup) (he : QE X e te) (hi : X.N[i]? = some x := by rfl) (hx : Loc X.env.scope x := by first | exact Or.inl rfl | exact Or.inr rfl) (hs : swapsWith e (some (.Name x pos')) pos.line X.env = pure false := by rfl)
    (hf : X.fn x = true ∨ X.env.scope.names.lookup x = some .local := by first | exact .inl rfl | exact .inr rfl) : QS X (.Assign [.Name x pos'] e pos) (tAsg te (gName i)) := ⟨ps_set hN hi hx he.h hs hf⟩
theorem s_setC {j : Nat} {y : Str} {py spos : Pos} (hN0 : X.N.Nodup) (O : CompOk X scope cap capN) (hc : X.calm = true) (hi : QI X tg iter wi)
    (hg : ∀ C s0 H0 ex, QG (compCx X scope (own ++ capN) C s0 H0 ex) tg g) (gk : GK own.length g) (ht : ∀ C s0 H0 ex, QIf (compCx X scope (own ++ capN) C s0 H0 ex) ifs tc) (he : ∀ C s0 H0 ex, QE (compCx X scope (own ++ capN) C s0 H0 ex) elt te)
    (hj : X.N[j]? = some y := by rfl) (hy : Loc X.env.scope y := by first | exact Or.inl rfl | exact Or.inr rfl) (hsw : swapsWith (.ListComp elt [⟨tg, iter, ifs, 0⟩] scope pos) (some (.Name y py)) spos.line X.env = pure true := by rfl)
    (hs : ∀ x, foldedSetIterable iter X.env x = pure x := by intro _; rfl) (hf : X.fn y = true ∨ X.env.scope.names.lookup y = some .local := by first | exact .inl rfl | exact .inr rfl) :
    QS X (.Assign [.Name y py] (.ListComp elt [⟨tg, iter, ifs, 0⟩] scope pos) spos) (tAsg (tComp own.length cap wi g tc te) (gName j)) :=
  ⟨ps_setC hN0 hj hy O hc hi.h (fun C s0 H0 ex => (hg C s0 H0 ex).h) gk (fun C s0 H0 ex => (ht C s0 H0 ex).h) (fun C s0 H0 ex => (he C s0 H0 ex).h) hsw hs hf⟩
theorem s_for {body : List Stmt} (hp : PassesOwn (model X.prog X.w) X.A X.env X.xe) (hc : X.calm = true) (hi : QI X tg iter wi) (hg : QG X tg g) (hb : QB X body t) (hs : ∀ x, foldedSetIterable iter X.env x = pure x := by intro _; rfl) : QS X (.For tg iter body [] pos) (tFor wi g t) := ⟨ps_for hp hc hi.h hg.h hb.h hs⟩
end
theorem Fun.okQ {P : Program} {w : World} {K : PySem.W.Frag} {mg : Str → Option Value} {base : Heap} {x qual : Str} {st : Stmt} {f : Addr} {fd : FuncData} {N ps : List Str} {k : Nat} {sp : Sp} (F : Fun K x qual st f fd) (S : FnScope N ps (defScope st)) (len : ∀ vs H Q E, sp vs H Q E → vs.length = ps.length)
    (hbody : ∀ (cdv : Value) (A : Around) (outer : List Env) (s : Shared) (H : Hp) (vs : List V) (Q : VK) (E : XK), Room k (A.deeper (envOfC qual (defScope st) s.heap.objs.size f cdv)) → sp vs H Q E →
      ∃ t, QB (cxOf CX0 P w K mg base N qual (defScope st) f cdv A outer s H E).nox (defBody st) t ∧ t { nx := fun _ H' => Q .non H', rt := Q } (start N vs) H) : FnOk P w K mg base CX0 (k + 1) f fd ps sp :=
  F.ok S len fun cdv A outer s H vs Q E hr hsp => let ⟨t, h, q⟩ := hbody cdv A outer s H vs Q E hr hsp; ⟨t, h.h, q⟩
/-! the operations -/
section
variable {X : Cx}
theorem o_add : QOp X (binaryOp .Add) (rI0 fun i j => .int (i + j)) := ⟨op_add⟩
theorem o_sub : QOp X (binaryOp .Sub) (rI0 fun i j => .int (i - j)) := ⟨op_sub⟩
theorem o_mul : QOp X (binaryOp .Mult) (rI CMul fun i j => .int (i * j)) := ⟨op_mul⟩
theorem o_fdiv : QOp X (binaryOp .FloorDiv) (rI CDiv fun i j => .int (i / j)) := ⟨op_fdiv⟩
theorem o_mod : QOp X (binaryOp .Mod) (rI (fun _ j => 0 < j) fun i j => .int (i % j)) := ⟨op_mod⟩
theorem o_eq : QOp X (compareOp .Eq) rEq := ⟨op_eq⟩
theorem o_ne : QOp X (compareOp .NotEq) rNe := ⟨op_ne⟩
theorem o_lt : QOp X (compareOp .Lt) (rI0 fun i j => .bl (decide (i < j))) := ⟨op_lt⟩
theorem o_gt : QOp X (compareOp .Gt) (rI0 fun i j => .bl (decide (j < i))) := ⟨op_gt⟩
theorem o_isN : QOp X (compareOp .Is) (fun x y H Q => y = .non ∧ Q (.bl (decide (x = .non))) H) := ⟨op_isN⟩
theorem x_list : QIx X (rIxL X.K) := ⟨ix_list⟩
theorem x_tup : QIx X (rIxT X.K) := ⟨ix_tup⟩
theorem l_list : QSl X (rSlL X.K) := ⟨sl_list⟩
theorem c_len : QCall X (.builtin "len") (fun xs H Q => ∃ p ys, xs = [.ref p] ∧ (SqL X.K H p ys ∨ SqT X.K H p ys) ∧ Q (.int ys.length) H) := ⟨call_len_seq⟩
theorem c_isi : QCall X (.builtin "isinstance") (fun xs H Q => ∃ x T t b, xs = [x, .ty T] ∧ TyOf X.K H x t ∧ PySem.W.kitOne X.K t (.type T) = some b ∧ Q (.bl b) H) := ⟨call_isi⟩
theorem c_min (hc : X.calm = true) : QCall X (.builtin "min") (fun xs H Q => ∃ i j, xs = [.int i, .int j] ∧ Q (.int (if j < i then j else i)) H) := ⟨call_min2 hc⟩
theorem c_list : QCall X (.type "list") (fun xs H Q => ∃ p ys, xs = [.ref p] ∧ (SqL X.K H p ys ∨ SqT X.K H p ys) ∧ ∀ l, H l = none → Q (.ref l) (upd H l (.lst ys))) := ⟨call_list_of⟩
theorem c_int : QCall X (.type "int") (fun xs H Q => (∃ i, xs = [.int i] ∧ Q (.int i) H) ∨ ∃ k, xs = [.bl k] ∧ Q (.int (if k then 1 else 0)) H) := ⟨call_int1⟩
end
end L2
namespace L2
open PySem PySem.Spec PyProof.Rows
/-! ### data: what a value is, lists and tuples within one another -/
mutual
def Dt (H : Hp) : PyData → V → Prop
  | .none, v => v = .non
  | .bool b, v => v = .bl b
  | .int i, v => v = .int i
  | .str x, v => v = .str x
  | .list ds, v => ∃ a xs, v = .ref a ∧ Rd H a (.lst xs) ∧ DtAll H ds xs
  | .tuple ds, v => ∃ a xs, v = .ref a ∧ Rd H a (.tup xs) ∧ DtAll H ds xs
  | .dict _, _ => False
def DtAll (H : Hp) : List PyData → List V → Prop
  | [], xs => xs = []
  | d :: ds, xs => ∃ y ys, xs = y :: ys ∧ Dt H d y ∧ DtAll H ds ys
end
section
variable {P : Program} {w : World} {H : Hp} {h : Heap}
mutual
theorem Dt.reads (ok : HOk P w H h) : ∀ (d : PyData) (x : V) (v : Value), Dt H d x → RelV x v → ∃ as, Reads h v d as
  | .none, x, v, e, r => by
    have e' : x = .non := by simpa only [Dt] using e
    subst e'
    cases r
    exact ⟨_, .none⟩
  | .bool b, x, v, e, r => by
    have e' : x = .bl b := by simpa only [Dt] using e
    subst e'
    cases r
    exact ⟨_, .bool b⟩
  | .int i, x, v, e, r => by
    have e' : x = .int i := by simpa only [Dt] using e
    subst e'
    obtain ⟨t, rfl⟩ := r
    exact ⟨_, .int i t⟩
  | .str z, x, v, e, r => by
    have e' : x = .str z := by simpa only [Dt] using e
    subst e'
    obtain ⟨t, rfl⟩ := r
    exact ⟨_, .str z t⟩
  | .list ds, x, v, e, r => by
    have e' : ∃ a xs, x = .ref a ∧ Rd H a (.lst xs) ∧ DtAll H ds xs := by simpa only [Dt] using e
    obtain ⟨a, xs, rfl, hr, hd⟩ := e'
    cases r
    obtain ⟨_, its, n, rv, eo⟩ := hr.ok ok
    obtain ⟨as, q⟩ := DtAll.reads ok ds xs its hd rv
    exact ⟨_, .list eo rfl rfl (by simpa using q)⟩
  | .tuple ds, x, v, e, r => by
    have e' : ∃ a xs, x = .ref a ∧ Rd H a (.tup xs) ∧ DtAll H ds xs := by simpa only [Dt] using e
    obtain ⟨a, xs, rfl, hr, hd⟩ := e'
    cases r
    obtain ⟨_, its, rv, o, eo, hc, n, hs⟩ := hr.ok ok
    obtain ⟨as, q⟩ := DtAll.reads ok ds xs its hd rv
    exact ⟨_, .tuple eo hc hs (by simpa using q)⟩
  | .dict kvs, x, v, e, r => by
    have e' : False := by simpa only [Dt] using e
    exact e'.elim
theorem DtAll.reads (ok : HOk P w H h) : ∀ (ds : List PyData) (xs : List V) (vs : List Value), DtAll H ds xs → Vals xs vs → ∃ as, ReadsAll h vs ds as
  | [], xs, vs, e, r => by
    have e' : xs = [] := by simpa only [DtAll] using e
    subst e'
    cases r
    exact ⟨_, .nil⟩
  | d :: ds, xs, vs, e, r => by
    have e' : ∃ y ys, xs = y :: ys ∧ Dt H d y ∧ DtAll H ds ys := by simpa only [DtAll] using e
    obtain ⟨y, ys, rfl, h1, h2⟩ := e'
    cases r with
    | cons r1 r2 =>
      obtain ⟨as, q1⟩ := Dt.reads ok d y _ h1 r1
      obtain ⟨bs, q2⟩ := DtAll.reads ok ds ys _ h2 r2
      exact ⟨_, .cons q1 q2⟩
end
end
section
variable {X : Cx}
def rEqD : R2 := fun x y H Q => ∃ dx dy, Dt H dx x ∧ Dt H dy y ∧ SeqAt.shaped dx = true ∧ SeqAt.shaped dy = true ∧ Q (.bl (PyData.eqv dx dy)) H
def rNeD : R2 := fun x y H Q => ∃ dx dy, Dt H dx x ∧ Dt H dy y ∧ SeqAt.shaped dx = true ∧ SeqAt.shaped dy = true ∧ Q (.bl (!PyData.eqv dx dy)) H
theorem op_eqD (hu : X.A.units + 64 < cLine) : OpR X (compareOp .Eq) rEqD := by
  intro pins s σ H x y v u Q I rx ry h
  obtain ⟨dx, dy, h1, h2, s1, s2, q⟩ := h
  obtain ⟨as, r1⟩ := Dt.reads I.hok dx x v h1 rx
  obtain ⟨bs, r2⟩ := Dt.reads I.hok dy y u h2 ry
  exact eq_dataH r1 r2 s1 s2 hu ⟨.bl _, H, I, rfl, q⟩
theorem op_neD (hu : X.A.units + 64 < cLine) : OpR X (compareOp .NotEq) rNeD := by
  intro pins s σ H x y v u Q I rx ry h
  obtain ⟨dx, dy, h1, h2, s1, s2, q⟩ := h
  obtain ⟨as, r1⟩ := Dt.reads I.hok dx x v h1 rx
  obtain ⟨bs, r2⟩ := Dt.reads I.hok dy y u h2 ry
  exact ne_dataH r1 r2 s1 s2 hu ⟨.bl _, H, I, rfl, q⟩
theorem o_eqD (hu : X.A.units + 64 < cLine) : QOp X (compareOp .Eq) rEqD := ⟨op_eqD hu⟩
theorem o_neD (hu : X.A.units + 64 < cLine) : QOp X (compareOp .NotEq) rNeD := ⟨op_neD hu⟩
end

/-! ### a dict and a tuple are not equal -/
section
variable {X : Cx}
/-! ### xs.append(e) -/
variable {o e : Expr} {to te : TE} {apos cpos : Pos}
theorem q_app (ho : QE X o to) (he : QE X e te) (hs : noStar e = true := by rfl) (hbase : attributeBase o "append" X.env (eval o X.env) = eval o X.env := by rfl) (hline : (apos.endLine == cpos.line) = true := by rfl) :
    QE X (.Call (.Attribute o "append" apos) [e] [] cpos) (tBM X.K "list" rAppend to (tCons te tNil)) := by
  have h1 := star_cons (es := []) (env := X.env) hs
  have h2 : starEach ([] : List Expr) X.env = [] := rfl
  refine ⟨pe_bm PySem.F.plainAttrs_list PySem.F.slot_list_append PySem.F.type_list_append mt_append ho.h (pa he.h pa_nil hs) hbase ?_ hline h1 (by rw [h2]; rfl)⟩
  rw [h1, h2]
  rfl
end
end L2
namespace L2
open PySem PySem.Spec PyProof.Rows
/-! ### tests of ints, told by their ints -/
theorem iteI {i j : Int} {A B : Prop} (h1 : i = j → A) (h2 : i ≠ j → B) : if decide (V.int i = V.int j) = true then A else B := by
  by_cases h : i = j
  · rw [if_pos (decide_eq_true (by rw [h]))]
    exact h1 h
  · rw [if_neg (by rw [decide_eq_false (fun z => h (by injection z))]; exact Bool.false_ne_true)]
    exact h2 h
theorem same_write {H H' : Hp} {p : Addr} {o : HO} (e : Same H H') (h : H p = none) : Same H (upd H' p o) := fun b u q => by
  rw [upd_ne (ne_of_none q h)]
  exact e _ _ q
/-- a cell of the script -/
def cellZ (ns : List Int) (k : Nat) : Int := (ns[k]?).getD 0
theorem atI_cell {ns : List Int} {k : Int} (h0 : 0 ≤ k) (h1 : k < ns.length) : atI (ns.map V.int) k = some (.int (cellZ ns k.toNat)) := by
  have hk : k.toNat < ns.length := by omega
  have ek : k = ((k.toNat : Nat) : Int) := by omega
  have q : atI (ns.map V.int) ((k.toNat : Nat) : Int) = some (.int ns[k.toNat]) := atI_nat (by rw [List.getElem?_map, List.getElem?_eq_getElem hk] <;> rfl)
  rw [← ek] at q
  rw [q]
  unfold cellZ
  rw [List.getElem?_eq_getElem hk]
  rfl
theorem cell_out {ns : List Int} {k : Int} (h0 : 0 ≤ k) (h1 : ¬ k < ns.length) : cellZ ns k.toNat = 0 := by
  unfold cellZ
  rw [List.getElem?_eq_none (by omega)]
  rfl
/-- any thing as it may be asked: its kind is known, and those of a tuple's items -/
def Asked (K : PySem.W.Frag) (H : Hp) (v : V) : Prop :=
  (∃ n, TyOf K H v (.type n)) ∧ ∀ a xs, v = .ref a → H a = some (.tup xs) → xs.length ≤ 1000 ∧ ∀ x ∈ xs, ∃ m, TyOf K H x (.type m)
theorem Asked.same {K : PySem.W.Frag} {H H' : Hp} {v : V} (h : Asked K H v) (e : Same H H') : Asked K H' v := by
  obtain ⟨⟨n, ty⟩, h2⟩ := h
  refine ⟨⟨n, same_ty e ty⟩, fun a xs hv hx => ?_⟩
  subst hv
  have q : H a = some (.tup xs) := by
    cases ty with
    | lst q => rw [e _ _ q] at hx; cases hx
    | frz q => rw [e _ _ q] at hx; cases hx
    | tup q => rw [e _ _ q] at hx; cases hx; exact q
    | dK q => rw [e _ _ q] at hx; cases hx
    | dT q => rw [e _ _ q] at hx; cases hx
  obtain ⟨l, k⟩ := h2 a xs rfl q
  exact ⟨l, fun x hm => let ⟨m, t⟩ := k x hm; ⟨m, same_ty e t⟩⟩
end L2
namespace L2
open PySem PySem.Spec PyProof.Rows
/-! ### a tuple drawn from, for zip -/
section
variable {prog : Program} {w : World} {A : Around}
end

/-! ### zip of two that are drawn from -/
structure ZAp (z u v i j : Addr) (f g : List Addr) : Prop where
  uz : u ≠ z
  vz : v ≠ z
  uv : u ≠ v
  ui : u ≠ i
  uj : u ≠ j
  vi : v ≠ i
  vj : v ≠ j
  iz : i ≠ z
  jz : j ≠ z
  ij : i ≠ j
  zf : z ∉ f
  zg : z ∉ g
  vf : v ∉ f
  vg : v ∉ g
  jf : j ∉ f
  ig : i ∉ g
section
variable {prog : Program} {w : World} {A : Around} {E : Value → Shared → Prop} {s : Shared} {z u v i j : Addr} {f g : List Addr} {n m k : Nat} {P1 P2 : Nat → Value → Prop} {S1 S2 : Nat → Heap → Prop} {a b : Value}
/-- kept but the four that turn -/
def ZKeep (z v i j : Addr) (h h' : Heap) : Prop := ∀ c o, c ≠ z → c ≠ v → c ≠ i → c ≠ j → h.get? c = some o → h'.get? c = some o
theorem ne_mem {c : Addr} {f : List Addr} {d : Addr} (hc : c ∈ f) (hd : d ∉ f) : c ≠ d := fun e => hd (e ▸ hc)
theorem zip_item (d1 : Draws prog w A i f n P1 S1) (d2 : Draws prog w A j g m P2 S2) (ap : ZAp z u v i j f g) (hz : IsZip s.heap z u v .none) (hu : IsPair s.heap u (.ref i) (.ref j)) (hv : IsPair s.heap v a b) (h1 : S1 k s.heap) (h2 : S2 k s.heap) (l1 : k < n) (l2 : k < m) {Q : Value → Shared → Prop}
    (cont : ∀ h' tk x y, P1 k x → P2 k y → IsZip h' z u v (rawInt s.heap.objs.size) → IsPair h' v x y → S1 (k + 1) h' → S2 (k + 1) h' → IsPair h' s.heap.objs.size x y → ZKeep z v i j s.heap h' → Q (.ref s.heap.objs.size) { s with heap := h', toks := tk }) :
    wpAny (model prog w) A (Builtin.«zip.__next__» ⟨[.ref z], []⟩) (fun fin s' => ∃ r, fin = .done (.ret r) ∧ Q r s') E s := by
  show wpAny _ _ (field (.ref z) 2 >>= _) _ _ _; refine wpAny_bind (wpAny_field hz rfl (x := .bool false) rfl ?_)
  show wpAny _ _ (field (.ref z) 3 >>= _) _ _ _; refine wpAny_bind (wpAny_field hz rfl (x := .ref u) rfl (wpAny_bind (wpAny_seqItems hu rfl ?_)))
  show wpAny _ _ (Builtin.SmallTypes.ownedTupleIsFree (.ref z) >>= _) _ _ _; refine wpAny_bind ?_
  unfold Builtin.SmallTypes.ownedTupleIsFree; refine wpAny_bind (wpAny_field hz rfl (x := .none) rfl (wpAny_pure ?_))
  simp only [if_true]; refine wpAny_bind (wpAny_rule (wpAny_bind (wpAny_field hz rfl (x := .ref v) rfl ?_)))
  refine wpAny_bind (wpAny_setField_rec hz (by simp) fun q1 z1 b1 => ?_)
  replace z1 : IsZip q1 z u v .ellipsis := z1
  refine wpAny_bind ?_; simp only [List.zipIdx_cons, List.zipIdx_nil, List.forIn_cons, List.forIn_nil]
  refine wpAny_bind (wpAny_bind (wpAny_onRaise ?_)); show wpAny _ _ (Builtin.SmallTypes.nextOf (.ref i) >>= _) _ _ _
  refine wpAny_bind (d1.item k { s with heap := q1 } _ _ l1 (d1.frame _ _ _ h1 fun c hc o e => b1.extBut c o (ne_mem hc ap.zf) e) fun x q2 t2 px s2 b2 => wpAny_pure ?_)
  have v2 : IsPair q2 v a b := b2.extBut _ _ ap.vi (b1.extBut _ _ ap.vz hv)
  refine wpAny_bind (wpAny_seqItems v2 rfl (wpAny_bind (wpAny_updateSeq_pair v2 fun q3 w3 b3 => ?_)))
  replace w3 : IsPair q3 v x b := w3
  refine wpAny_bind (wpAny_letGo (wpAny_pure ?_)); refine wpAny_bind (wpAny_bind (wpAny_onRaise ?_)); show wpAny _ _ (Builtin.SmallTypes.nextOf (.ref j) >>= _) _ _ _
  refine wpAny_bind (d2.item k { s with heap := q3, toks := t2 } _ _ l2 (d2.frame _ _ _ h2 fun c hc o e => b3.extBut c o (ne_mem hc ap.vg) (b2.extBut c o (ne_mem hc ap.ig) (b1.extBut c o (ne_mem hc ap.zg) e))) fun y q4 t4 py s4 b4 => wpAny_pure ?_)
  have v4 : IsPair q4 v x b := b4.extBut _ _ ap.vj w3
  refine wpAny_bind (wpAny_seqItems v4 rfl (wpAny_bind (wpAny_updateSeq_pair v4 fun q5 w5 b5 => ?_)))
  replace w5 : IsPair q5 v x y := w5
  refine wpAny_bind (wpAny_letGo (wpAny_pure (wpAny_pure (wpAny_bind (wpAny_seqItems w5 rfl (wpAny_bind (wpAny_newTuple ?_)))))))
  have sz : q5.objs.size = s.heap.objs.size := by rw [b5.1, b4.1, b3.1, b2.1, b1.1]
  have z5 : IsZip q5 z u v .ellipsis := b5.extBut _ _ ap.vz.symm (b4.extBut _ _ ap.jz.symm (b3.extBut _ _ ap.vz.symm (b2.extBut _ _ ap.iz.symm z1)))
  have k5 : ZKeep z v i j s.heap q5 := fun c o c1 c2 c3 c4 e => b5.extBut _ _ c2 (b4.extBut _ _ c4 (b3.extBut _ _ c2 (b2.extBut _ _ c3 (b1.extBut _ _ c1 e))))
  have s5 : S1 (k + 1) q5 := d1.frame _ _ _ s2 fun c hc o e => b5.extBut c o (ne_mem hc ap.vf) (b4.extBut c o (ne_mem hc ap.jf) (b3.extBut c o (ne_mem hc ap.vf) e))
  have r5 : S2 (k + 1) q5 := d2.frame _ _ _ s4 fun c hc o e => b5.extBut c o (ne_mem hc ap.vg) e
  have zlt : z < q5.objs.size := Heap.lt_size z5
  show wpAny _ _ (Builtin.SmallTypes.ownedTupleHandOut (.ref z) (.ref q5.objs.size) >>= _) _ _ _; refine wpAny_bind ?_
  unfold Builtin.SmallTypes.ownedTupleHandOut
  refine wpAny_bind (wpAny_setField_rec (show IsZip (q5.push { cls := .type "tuple", data := .seq #[x, y] }) z u v .ellipsis from Heap.get?_push_of_some _ z5) (by simp) fun q7 z7 b7 => ?_)
  replace z7 : IsZip q7 z u v (rawInt q5.objs.size) := z7
  refine wpAny_setField_rec z7 (by simp) fun q8 z8 b8 => ?_
  replace z8 : IsZip q8 z u v (rawInt q5.objs.size) := z8
  have up : ∀ c o, c ≠ z → q5.get? c = some o → q8.get? c = some o := fun c o c1 e => b8.extBut _ _ c1 (b7.extBut _ _ c1 (Heap.get?_push_of_some _ e))
  have p8 : IsPair q8 q5.objs.size x y := b8.extBut _ _ (Nat.ne_of_gt zlt) (b7.extBut _ _ (Nat.ne_of_gt zlt) (Heap.get?_push_size _ rfl))
  rw [sz] at z8 p8
  refine wpAny_pure ⟨_, rfl, ?_⟩
  show Q (.ref q5.objs.size) _
  rw [sz]
  exact cont q8 _ x y px py z8 (up _ _ ap.vz w5) (d1.frame _ _ _ s5 fun c hc o e => up c o (ne_mem hc ap.zf) e) (d2.frame _ _ _ r5 fun c hc o e => up c o (ne_mem hc ap.zg) e) p8 fun c o c1 c2 c3 c4 e => up c o c1 (k5 c o c1 c2 c3 c4 e)
theorem zip_end (d1 : Draws prog w A i f n P1 S1) (d2 : Draws prog w A j g m P2 S2) (ap : ZAp z u v i j f g) (hz : IsZip s.heap z u v .none) (hu : IsPair s.heap u (.ref i) (.ref j)) (hv : IsPair s.heap v a b) (h1 : S1 n s.heap) {Q : Fin → Shared → Prop}
    (cont : ∀ h' e, ZKeep z v i j s.heap h' → (∃ o, h'.get? e = some o ∧ o.cls = .type "StopIteration") → E (.ref e) { s with heap := h' }) : wpAny (model prog w) A (Builtin.«zip.__next__» ⟨[.ref z], []⟩) Q E s := by
  show wpAny _ _ (field (.ref z) 2 >>= _) _ _ _; refine wpAny_bind (wpAny_field hz rfl (x := .bool false) rfl ?_)
  show wpAny _ _ (field (.ref z) 3 >>= _) _ _ _; refine wpAny_bind (wpAny_field hz rfl (x := .ref u) rfl (wpAny_bind (wpAny_seqItems hu rfl ?_)))
  show wpAny _ _ (Builtin.SmallTypes.ownedTupleIsFree (.ref z) >>= _) _ _ _; refine wpAny_bind ?_
  unfold Builtin.SmallTypes.ownedTupleIsFree; refine wpAny_bind (wpAny_field hz rfl (x := .none) rfl (wpAny_pure ?_))
  simp only [if_true]; refine wpAny_bind (wpAny_rule (wpAny_bind (wpAny_field hz rfl (x := .ref v) rfl ?_)))
  refine wpAny_bind (wpAny_setField_rec hz (by simp) fun q1 z1 b1 => ?_)
  replace z1 : IsZip q1 z u v .ellipsis := z1
  refine wpAny_bind ?_; simp only [List.zipIdx_cons, List.zipIdx_nil, List.forIn_cons, List.forIn_nil]
  refine wpAny_bind (wpAny_bind (wpAny_onRaise ?_)); show wpAny _ _ (Builtin.SmallTypes.nextOf (.ref i) >>= _) _ _ _
  refine wpAny_bind (d1.done { s with heap := q1 } _ _ (d1.frame _ _ _ h1 fun c hc o e => b1.extBut c o (ne_mem hc ap.zf) e) fun q2 e b2 he => ?_)
  obtain ⟨oe, hoe, hce⟩ := he
  have z2 : IsZip q2 z u v .ellipsis := b2 _ _ ap.iz.symm z1
  have ez : e ≠ z := fun x => by subst x; rw [z2] at hoe; cases hoe; simp at hce
  exact wpAny_setField_rec z2 (by simp) fun q3 _ b3 => cont q3 e (fun c o c1 _ c3 _ x => b3.extBut _ _ c1 (b2 _ _ c3 (b1.extBut _ _ c1 x))) ⟨oe, b3.extBut _ _ ez hoe, hce⟩
end

/-! ### objects of ours have turned -/
section
variable {X : Cx} {pins : List (Addr × Obj)} {σ : St} {H : Hp} {s : Shared} {h' : Heap} {ch : List Addr} {t' : Nat}
theorem Inv.turnH {H' : Hp} (I : Inv X pins σ H s) (hch : ∀ b ∈ ch, FpOk X pins H b) (kp : ∀ b o, b ∉ ch → s.heap.get? b = some o → h'.get? b = some o) (up : ∀ b u, H b = some u → H' b = some u) (dn : ∀ b o, s.heap.get? b = some o → H b = none → H' b = none) (hok : HOk X.prog X.w H' h') :
    Inv X pins σ H' { s with heap := h', toks := t' } := by
  refine I.step (g' := s.gens) (d' := s.drawn) (ch := ch) (fun b hb => ?_) (fun b o _ _ hc e _ => kp b o hc e) (fun b o _ _ hc e _ => ⟨o.slots, kp b o hc e⟩) (fun b o _ e n => dn b o e n) (fun b o hc e => ⟨o, kp b o hc e⟩) (fun b xs e => up _ _ e) (fun b o u e => up _ _ e) (fun b ps e => ⟨#[], by rw [up _ _ e]; simp⟩) (fun m hm => ?_) hok I.bare
  · obtain ⟨f0, f1, f2, f3, f4, f5⟩ := hch b hb
    exact ⟨f3, f1, f4, f5⟩
  · obtain ⟨o, es, ep, ho, r⟩ := hm
    exact ⟨o, es, ep, kp _ o (fun z => (hch _ z).2.1 rfl) ho, r⟩
theorem hok_turn (I : Inv X pins σ H s) (hch : ∀ b ∈ ch, FpOk X pins H b) (kp : ∀ b o, b ∉ ch → s.heap.get? b = some o → h'.get? b = some o) : HOk X.prog X.w H h' := fun b u e => by
  have nin : ∀ {c : Addr} {q : HO}, H c = some q → c ∉ ch := fun {c q} e z => by rw [(hch c z).1] at e; cases e
  refine (I.hok b u e).stay (fun c v hc q => kp c v ?_ q) (fun _ q => q) fun _ _ q => q
  rcases hc with z | z
  · rw [z]; exact nin e
  · exact nin z
theorem Inv.turnM (I : Inv X pins σ H s) (hch : ∀ b ∈ ch, FpOk X pins H b) (kp : ∀ b o, b ∉ ch → s.heap.get? b = some o → h'.get? b = some o) : Inv X pins σ H { s with heap := h', toks := t' } :=
  I.turnH hch kp (fun _ _ e => e) (fun _ _ _ n => n) (hok_turn I hch kp)
theorem Inv.turnT {xs : List V} {its : List Value} (I : Inv X pins σ H s) (hch : ∀ b ∈ ch, FpOk X pins H b) (kp : ∀ b o, b ∉ ch → s.heap.get? b = some o → h'.get? b = some o) (hp : IsTup h' s.heap.objs.size its.toArray) (rv : Vals xs its) (hz : xs.length ≤ sizeLine) :
    Inv X pins σ (upd H s.heap.objs.size (.tup xs)) { s with heap := h', toks := t' } := by
  have fr := I.hok.fresh (Nat.le_refl s.heap.objs.size)
  have ne : ∀ {b : Addr} {u : HO}, H b = some u → b ≠ s.heap.objs.size := fun {b u} e => ne_of_none e fr
  have hk := hok_turn I hch kp
  refine I.turnH hch kp (fun b u e => by rw [upd_ne (ne e)]; exact e) (fun b o e n => by rw [upd_ne (Nat.ne_of_lt (Heap.lt_size e))]; exact n) fun b u e => ?_
  by_cases hb : b = s.heap.objs.size
  · subst hb
    rw [upd_same] at e
    cases e
    exact ⟨hz, its, rv, hp⟩
  · rw [upd_ne hb] at e
    exact (hk b u e).stay (fun _ _ _ q => q) (fun c q => by rw [upd_ne (ne q)]; exact q) fun c ys q => by rw [upd_ne (ne q)]; exact q
end

/-! ### zip(t, u) of two tuples of one length, walked to a pair of names -/
theorem nodup5 (n : Nat) : [n + 4, n + 2, n + 3, n, n + 1].Nodup := by
  simp
section
variable {X : Cx}
end
end L2
namespace L2
open PySem PySem.Spec PyProof.Rows
/-! ### a comprehension with tests, its elements leave what was there -/
theorem comp_any {J : It} {N n : Nat} {cap : List Nat} {g : TG} {tc : TT} {te : TE} {σ : St} {H0 : Hp} {Q : VK} (keep : Nat → Bool) (f : Nat → V) (hz : N ≤ 1000)
    (hgo : ∀ i H, i < N → Same H0 H → J.go i H) (hst : ∀ H, Same H0 H → J.stop N H)
    (ht : ∀ i H x H', i < N → Same H0 H → J.yld i H x H' → ∀ (A : VK) (B : Hp → Prop), (keep i = true → ∀ H4, Same H H4 → A (f i) H4) → (keep i = false → ∀ H4, Same H H4 → B H4) →
      g x (compSt n cap σ) H' fun σ2 H2 => tc σ2 H2 fun b H3 => if b = true then te σ2 H3 A else B H3)
    (hq : ∀ p H, Same H0 H → H p = none → Q (.ref p) (upd H p (.lst (((List.range N).filter keep).map f)))) : tCompR n cap g tc te σ J H0 Q := by
  refine ⟨fun i m ys H => m = N - i ∧ i ≤ N ∧ Same H0 H ∧ ys = ((List.range i).filter keep).map f, ⟨N, by simp, Nat.zero_le _, Same.refl _, rfl⟩, ?_⟩
  rintro i m ys H ⟨rfl, hi, sm, rfl⟩
  by_cases hlt : i < N
  · refine .inr ⟨hgo i H hlt sm, ?_, fun x H' y => ?_⟩
    · rw [List.length_map]
      have := List.length_filter_le keep (List.range i)
      rw [List.length_range] at this
      exact small1000 (by omega)
    · refine ht i H x H' hlt sm y _ _ (fun k H4 s4 => ⟨N - (i + 1), by omega, rfl, hlt, sm.trans s4, ?_⟩) (fun k H4 s4 => ⟨N - (i + 1), by omega, rfl, hlt, sm.trans s4, ?_⟩)
      · rw [List.range_succ, List.filter_append, List.map_append]
        simp [k]
      · rw [List.range_succ, List.filter_append, List.map_append]
        simp [k]
  · have e : i = N := by omega
    subst e
    exact .inl ⟨hst H sm, fun p hp => hq p H sm hp⟩
/-! ### t + u, either one empty or not; t * k, 1 ≤ k -/
section
variable {X : Cx}
/-! the rules that name the kept records, with a name of their own for them: within a comprehension -/
variable {K : PySem.W.Frag} (hK : X.K = K)
include hK
theorem gK_tup {es : List Expr} {k n : Nat} {gs : TGs} {pos : Pos} (hc : X.calm = true) (h : QGs X es gs) (hn : (assignEach es X.env).length = n := by rfl) (hst : (assignEach es X.env).findIdx? (·.1) = none := by rfl) : QG X (.Tuple es k pos) (gTup K n gs) := by subst hK; exact g_tup hc h hn hst
omit hK
end
end L2
namespace L2
open PySem PySem.Spec PyProof.Rows PySem.W
section
variable {X : Cx}
/-- a statement that is not come to -/
theorem s_never {st : Stmt} : QS X st (fun _ _ _ => False) := ⟨fun _ _ _ _ _ _ h => h.elim⟩
/-! ### xs.insert(i, e) -/
variable {o e d : Expr} {to te td : TE} {apos cpos : Pos}
/-! ### t[lo:hi], the whole of it too -/
end
/-! ### sorted([t, u]) of two tuples of ints -/
section
variable {prog : Program} {w : World} {A : Around} {s : Shared} {fin : Bool} {Q : Bool → Shared → Prop}
end
section
variable {X : Cx} {pins : List (Addr × Obj)} {σ : St} {H : Hp} {s : Shared} {h' : Heap}
theorem obj_some {P : Program} {w : World} {H : Hp} {h : Heap} {a : Addr} {o : HO} (x : ObjOk P w H h a o) : ∃ ob, h.get? a = some ob := by
  cases o with
  | lst xs =>
    have ⟨_, _, _, _, e⟩ := x
    exact ⟨_, e⟩
  | tup xs =>
    have ⟨_, _, _, ob, e, _⟩ := x
    exact ⟨ob, e⟩
  | dK kvs =>
    have ⟨_, _, _, _, ob, _, _, e, _⟩ := x
    exact ⟨ob, e⟩
  | dT kvs =>
    have ⟨_, _, _, _, ob, _, _, e, _⟩ := x
    exact ⟨ob, e⟩
  | set S n =>
    have ⟨ob, _, _, _, e, _⟩ := x
    exact ⟨ob, e⟩
  | ins C dx fs =>
    have ⟨_, _, _, e, _⟩ := x
    exact ⟨_, e⟩
  | own y => exact x
  | xd fs =>
    have ⟨_, ⟨ob, _, _, e, _⟩, _⟩ := x
    exact ⟨ob, e⟩
  | rng lo hi =>
    have ⟨_, _, _, e⟩ := x
    exact ⟨_, e⟩
  | frz ob u => exact ⟨ob, x.1⟩
  | tbl ps => exact ⟨_, x⟩
  | met f y => exact ⟨_, x⟩
  | ext φ => exact x.2.1
theorem none_of (I : Inv X pins σ H s) {a : Addr} (hg : s.heap.get? a = none) : H a = none := by
  cases q : H a with
  | none => rfl
  | some u =>
    obtain ⟨ob, e⟩ := obj_some (I.hok a u q)
    rw [hg] at e
    cases e
def restOf (base h : Heap) (L : Addr) : List (Addr × Obj) := (List.range h.objs.size).filterMap fun b => if b = L ∨ (base.get? b).isSome = true then none else (h.get? b).map fun o => (b, o)
theorem restOf_news (base h : Heap) (L : Addr) : News base L h (restOf base h L) := fun p hp => by
  obtain ⟨b, _, e⟩ := List.mem_filterMap.mp hp
  by_cases c : b = L ∨ (base.get? b).isSome = true
  · rw [if_pos c] at e; cases e
  · rw [if_neg c] at e
    cases q : h.get? b with
    | none => rw [q] at e; cases e
    | some o =>
      rw [q] at e
      cases e
      refine ⟨q, fun z => c (.inl z), ?_⟩
      cases z : base.get? b with
      | none => rfl
      | some u => exact absurd (.inr (by rw [z]; rfl)) c
theorem restOf_mem {base h : Heap} {L b : Addr} {o : Obj} (e : h.get? b = some o) (hL : b ≠ L) (hb : base.get? b = none) : (b, o) ∈ restOf base h L := by
  refine List.mem_filterMap.mpr ⟨b, List.mem_range.mpr (Heap.lt_size e), ?_⟩
  rw [if_neg (by rintro (z | z); exact hL z; rw [hb] at z; cases z), e]
  rfl
end
section
variable {X : Cx}
end

/-! ### tuples of ints, == and != -/
section
variable {X : Cx}
end
theorem iteIT {c A B : Prop} [Decidable c] (h : c) (hA : A) : if decide c = true then A else B := by
  rw [decide_eq_true h]
  exact iteT hA
theorem iteD {c A B : Prop} [Decidable c] (h1 : c → A) (h2 : ¬ c → B) : if decide c = true then A else B := by
  by_cases h : c
  · exact iteIT h (h1 h)
  · rw [decide_eq_false h]
    exact iteF (h2 h)
end L2
namespace L2
open PySem PySem.Spec PyProof.Rows
/-! ### a comprehension whose own name is a cell (a block within it reads it) -/
structure CompOk1 (X : Cx) (scope : Scope) (cx : Str) (cap : List Nat) (capN : List Str) : Prop where
  kind : scope.kind = .function
  names : ∀ x ∈ scope.names, x.2 = .local → scope.names.lookup x.1 = some .local
  onecell : ∀ y ∈ scope.names, y.2 = .cell → y.1 = cx
  own : scope.names.lookup cx = some .cell
  cf : ∀ (n : Nat) (acc : List (Str × Addr)), cellsFrom n scope.names acc = (cx, n) :: acc
  pc : ∀ h : Heap, pushCells h scope.names = h.push { cls := .type "cell", data := .cell none }
  frees : (scope.names.all fun y => !(y.2 == NameKind.free) || (X.env.kindOf y.1 == some .cell || X.env.kindOf y.1 == some .free)) = true
  cap : CapOk X scope cap capN
section
variable {X : Cx} {scope : Scope} {cx : Str} {cap : List Nat} {capN : List Str}
theorem CompOk1.around (O : CompOk1 X scope cx cap capN) {y : Str × NameKind} (hy : y ∈ scope.names) (hf : y.2 = .free) : X.env.kindOf y.1 = some .cell ∨ X.env.kindOf y.1 = some .free := by
  have q := List.all_eq_true.mp O.frees y hy
  rw [hf] at q
  simpa using q
theorem CompOk1.cells (O : CompOk1 X scope cx cap capN) (ok : X.Ok) : ∀ y ∈ scope.names, y.2 = .free → ∃ c, X.env.cells.lookup y.1 = some c := fun y hy hf => ok.has _ (O.around hy hf)
theorem CompOk1.clos (O : CompOk1 X scope cx cap capN) (ok : X.Ok) : closureFor scope X.env = pure (cloOf X.env scope.names []) := clo_for (O.cells ok)
theorem CompOk1.sub (O : CompOk1 X scope cx cap capN) (ok : X.Ok) : ∀ x c, (cloOf X.env scope.names []).lookup x = some c → X.env.cells.lookup x = some c := clo_sub (O.cells ok) fun x c e => by simp at e
theorem CompOk1.has (_O : CompOk1 X scope cx cap capN) {x : Str} (h : scope.names.lookup x = some .free) : ∃ c, (cloOf X.env scope.names []).lookup x = some c := clo_has h
theorem CompOk1.ne (O : CompOk1 X scope cx cap capN) {x : Str} (h : scope.names.lookup x = some .free) : x ≠ cx := fun z => by
  rw [z, O.own] at h
  cases h
end
section
variable {M : Model} {A : Around} {E : Value → Shared → Prop} {s : Shared}
end
section
variable {X : Cx} {pins : List (Addr × Obj)} {σ : St} {H : Hp} {s : Shared} {scope : Scope} {cx : Str} {cap : List Nat} {capN N' : List Str} {C : Addr} {ex : List Addr}
end

section
variable {X : Cx} {pins : List (Addr × Obj)} {σ : St} {H2 : Hp} {s2 : Shared} {scope : Scope} {cx : Str} {cap : List Nat} {capN own : List Str}
variable {elt tg iter : Expr} {ifs : List Expr} {pos : Pos} {g : TG} {tc : TT} {te : TE} {Q : VK}

end
/-! ### max of a list of ints -/
section
variable {X : Cx}
/-! ### xs[::-1] of a list -/
theorem Vals.rev {xs : List V} {us : List Value} (h : Vals xs us) : Vals xs.reverse us.reverse := by
  induction h with
  | nil => exact .nil
  | cons r _ ih =>
    rw [List.reverse_cons, List.reverse_cons]
    exact ih.append (.cons r .nil)
end
end L2
namespace L2
open PySem PySem.Spec PyProof.Rows PySem.W
/-! ### the stations of an exception, its dict known -/
def DictIs (h : Heap) (e : Addr) (dc : Option Addr) : Prop := ∃ o, h.get? e = some o ∧ o.dict = dc
section
variable {M : Model} {A : Around} {E : Value → Shared → Prop} {s : Shared} {base : Heap} {env : Env} {outer l : List Env} {L e : Addr}
end
end L2
namespace L2
open PySem PySem.Spec PyProof.Rows PySem.W
/-! ### a text walked sign by sign -/
section
variable {X : Cx} {tg l : Expr} {tl : TE}
end
/-! ### ord of one sign -/
section
variable {X : Cx}
end
section
variable {X : Cx}
theorem c_lenS : QCall X (.builtin "len") (fun xs H Q => ∃ x : Str, xs = [.str x] ∧ x.length ≤ 1000 ∧ Q (.int (x.length : Int)) H) := by
  refine ⟨?_⟩
  intro pins s σ H xs us Q I r h
  obtain ⟨x, rfl, hz, q⟩ := h
  obtain ⟨u, rfl, rx⟩ := vals1 r
  obtain ⟨t, rfl⟩ := rx
  exact PyProof.Rows.len_str (by omega) ⟨.int x.length, H, I.tok _, ⟨_, rfl⟩, q⟩
end
/-! ### a table of the text: a dict with texts as keys that stands at the top and is only read -/
inductive TV where
  | flat (v : V)
  | tup (xs : List V)
def vLook : V → Value → Bool
  | .non, .none => true
  | .bl b, .bool c => b == c
  | .int i, .int j _ => i == j
  | .str x, .str y _ => x == y
  | _, _ => false
theorem vLook_rel : ∀ {v : V} {u : Value}, vLook v u = true → RelV v u := by
  intro v u h
  unfold vLook at h
  split at h
  · exact rfl
  · obtain rfl := beq_iff_eq.mp h
    exact rfl
  · obtain rfl := beq_iff_eq.mp h
    exact ⟨_, rfl⟩
  · obtain rfl := beq_iff_eq.mp h
    exact ⟨_, rfl⟩
  · cases h
def vsLook : List V → List Value → Bool
  | [], [] => true
  | v :: vs, u :: us => vLook v u && vsLook vs us
  | _, _ => false
theorem vsLook_vals : ∀ {vs : List V} {us : List Value}, vsLook vs us = true → Vals vs us
  | [], [], _ => .nil
  | _ :: _, _ :: _, h => by
    have h := (Bool.and_eq_true _ _).mp h
    exact .cons (vLook_rel h.1) (vsLook_vals h.2)
  | [], _ :: _, h => nomatch h
  | _ :: _, [], h => nomatch h
def tvLook (K : PySem.W.Frag) : TV → Value → Bool
  | .flat v, u => vLook v u
  | .tup xs, .ref a => (match K.lookup a with
    | some o => o.cls == .type "tuple" && (match o.data with | .seq its _ => decide (its.size ≤ 1000) && vsLook xs its.toList | _ => false)
    | none => false)
  | _, _ => false
def TVOk (K : PySem.W.Frag) : TV → Value → Prop
  | .flat v, u => RelV v u
  | .tup xs, u => ∃ a, u = .ref a ∧ ∀ H, SqT K H a xs
theorem tv_ok {K : PySem.W.Frag} (d : TV) (u : Value) (h : tvLook K d u = true) : TVOk K d u := by
  unfold tvLook at h
  split at h
  · exact vLook_rel h
  · rename_i xs a
    split at h
    · rename_i o ho
      obtain ⟨e1, e2⟩ := (Bool.and_eq_true _ _).mp h
      split at e2
      · rename_i its n hd
        obtain ⟨e3, e4⟩ := (Bool.and_eq_true _ _).mp e2
        exact ⟨a, rfl, fun H => .inr ⟨o, its, n, ho, beq_iff_eq.mp e1, hd, size63 (of_decide_eq_true e3), vsLook_vals e4⟩⟩
      · cases e2
    · cases h
  · cases h
structure Tab (K : PySem.W.Frag) (a : Addr) (D : List (Str × TV)) : Prop where
  look : KTD.tabLook (tvLook K) (fun b => K.lookup b) a D = true
theorem Tab.at {K : PySem.W.Frag} {a : Addr} {D : List (Str × TV)} (T : Tab K a D) {h : Heap} (X : K.In h) : KTD.TabOf (TVOk K) h a D := KTD.tab_of_look tv_ok (fun b o e => X b o e) T.look
section
variable {prog : Program} {w : World} {A : Around} {E : Value → Shared → Prop} {s : Shared} {d : Addr} {o : Obj} {es : Array DictEntry} {ep : Nat} {x : Str} {tx : Tok}
end
section
variable {X : Cx}
end
end L2
namespace L2
open PySem PySem.Spec PyProof.Rows PySem.W
/-! ### an exception that leaves a def: how it lies behind the call -/
def CXr (P : Program) (w : World) : CXT := fun outer H s E e s' =>
  ∃ (ea t : Addr) (C : Value) (vs : List Value) (B : Heap) (H' : Hp) (dc : Option Addr), e = .ref ea ∧ s'.os = s.os ∧ AllBare s'.gens ∧ Un (frs outer) [] H H' s.heap s'.heap ∧ HOk P w H' s'.heap ∧
    Heap.FlyingW B outer ea C (.ref t) s'.heap ∧ s'.heap.TupAt t vs ∧ B.get? t = none ∧ (∀ b o, b ∉ frs outer → ((∃ u, H' b = some u) ∨ ∃ o0, s.heap.get? b = some o0) → s'.heap.get? b = some o → B.get? b = some o) ∧ DictIs s'.heap ea dc ∧ E C dc H'
section
variable {P : Program} {w : World} {K : PySem.W.Frag} {mg : Str → Option Value} {base : Heap} {N : List Str} {qual : Str} {scope : Scope} {f : Addr} {cd : Value} {A : Around} {outer : List Env} {s : Shared} {H : Hp} {E : XK}
end
/-! ### raise C(e, ..) of an own class under ValueError that has no __init__ of its own -/
structure ExCls (K : PySem.W.Frag) (C : Addr) : Prop where
  cls : ∀ h, K.In h → ∃ nm q N bs bm hdct sn sub ab col dd k0 k1 k2 k3 k5 mN, h.get? C = some (excClassObj nm q C N bs bm hdct sn sub ab col dd k0 k1 k2 k3 k5 "ValueError.__new__") ∧ h.Ns N mN ∧ mN "__init__" = none ∧ bm.contains (.type "BaseException") = true ∧
    OwnTail h [.type "ValueError", .type "Exception", .type "BaseException", .type "object"] bm
section
variable {X : Cx} {EC : Value → Hp → Prop} {C : Addr} {x : Str} {np cpos pos : Pos} {e : Expr} {es : List Expr} {ta : TA}
end
end L2
namespace L2
open PySem PySem.Spec PyProof.Rows PySem.W
/-! ### a def whose body may raise -/
structure FnX (P : Program) (w : World) (K : PySem.W.Frag) (mg : Str → Option Value) (base : Heap) (k : Nat) (x : Str) (ps : List Str) (sp : Sp) : Prop where
  ex : ∃ f fd, FnOk P w K mg base (CXr P w) k f fd ps sp ∧ mg x = some (.ref f) ∧ PySem.W.keepIn K (.ref f) = true ∧ Binds K fd ps []
/-! ### code that may raise, with the names as they were: XP is how the exception lies -/
def XP (X : Cx) (pins : List (Addr × Obj)) (σ : St) (E : XK) (e : Value) (s' : Shared) : Prop := ∃ s0 H0, Inv X pins σ H0 s0 ∧ CXr X.prog X.w X.stack H0 s0 E e s'
abbrev TX := St → Hp → VK → XK → Prop
structure QX (X : Cx) (e : Expr) (t : TX) : Prop where
  h : ∀ (pins : List (Addr × Obj)) (s : Shared) (σ : St) (H : Hp) (Q : VK) (E : XK), Inv X pins σ H s → t σ H Q E → wpAny (model X.prog X.w) X.A (eval e X.env) (EP X pins σ Q) (XP X pins σ E) s
section
variable {X : Cx} {k : Nat} {x : Str} {p pos : Pos} {e : Expr} {es : List Expr} {ps : List Str} {sp : Sp} {t : TA}
end
abbrev TSX := Ends → St → Hp → XK → Prop
structure QSX (X : Cx) (st : Stmt) (t : TSX) : Prop where
  h : ∀ (pins : List (Addr × Obj)) (s : Shared) (σ : St) (H : Hp) (D : Ends) (E : XK), Inv X pins σ H s → t D σ H E → wpAny (model X.prog X.w) X.A (exec st X.env) (SP X pins D) (XP X pins σ E) s
section
variable {X : Cx} {e : Expr} {tx : TX} {pos pos' : Pos} {x : Str}
end
/-! ### an exception on its way: the state behind it, but for the records that it bears -/
structure Fl (X : Cx) (H0 H' : Hp) (s0 s' : Shared) (B : Heap) : Prop where
  os : s'.os = s0.os
  bare : AllBare s'.gens
  un : Un (frs X.stack) [] H0 H' s0.heap s'.heap
  hok : HOk X.prog X.w H' s'.heap
  kb : ∀ b o, b ∉ frs X.stack → ((∃ u, H' b = some u) ∨ ∃ o0, s0.heap.get? b = some o0) → s'.heap.get? b = some o → B.get? b = some o
section
variable {X : Cx} {pins : List (Addr × Obj)} {σ : St} {H0 H' : Hp} {s0 s' : Shared} {B h' : Heap}
theorem Fl.inv (F : Fl X H0 H' s0 s' B) (I : Inv X pins σ H0 s0) : Inv X pins σ H' s' := I.call' F.os F.un F.hok F.bare fun _ z => nomatch z
theorem Fl.nf (F : Fl X H0 H' s0 s' B) (I : Inv X pins σ H0 s0) {b : Addr} {u : HO} (h : H' b = some u) : b ∉ frs X.stack := fun hm => by
  have := (F.inv I).stkFree b hm
  rw [h] at this
  cases this
end
/-! ### own exception classes: the class' object in K, with its mro -/
structure ExC (K : PySem.W.Frag) (C : Addr) (bm : List Value) : Prop where
  cls : ∀ h, K.In h → ∃ nm q N bs hdct sn sub ab col dd k0 k1 k2 k3 k5 ni, h.get? C = some (excClassObj nm q C N bs bm hdct sn sub ab col dd k0 k1 k2 k3 k5 ni)
  exc : bm.contains (.type "BaseException") = true
/-! ### the caught exception as a thing of the abstract heap -/
/-! ### the name goes -/
/-! ### a handler's suite: its own context -/
def Cx.exc (X : Cx) (e : Value) : Cx := { X with A := X.A.mark (some e), calm := false, xe := fun _ _ => False }
section
variable {X : Cx} {pins : List (Addr × Obj)} {σ : St} {H : Hp} {s : Shared} {e : Value}
theorem Inv.exc (I : Inv X pins σ H s) (e : Value) : Inv (X.exc e) pins σ H s :=
  ⟨⟨I.ok.mod, I.ok.kind, I.ok.glob, I.ok.blt, I.ok.above, I.ok.inj, I.ok.has, I.ok.cab, fun z => (nomatch z), I.ok.frames, I.ok.stk, I.ok.exf, I.ok.bs, I.ok.bsz, I.ok.noex, I.ok.exfs, I.ok.funs, I.ok.frf⟩, I.os, I.bare, I.base, I.loc, I.cell, I.free, I.freeC, I.pin, I.hok, I.len⟩
end
abbrev TH := Ends → St → Value → Option Addr → Hp → Prop
structure QH (X : Cx) (hs : List ExceptHandler) (th : TH) : Prop where
  h : ∀ (pins : List (Addr × Obj)) (s0 : Shared) (H0 : Hp) (σ : St) (D : Ends) (ea t : Addr) (C : Value) (B : Heap) (H' : Hp) (dc : Option Addr) (s' : Shared), Inv X pins σ H0 s0 → Fl X H0 H' s0 s' B → Heap.FlyingW B X.stack ea C (.ref t) s'.heap → DictIs s'.heap ea dc → th D σ C dc H' →
    wpAny (model X.prog X.w) X.A (handleBy (.ref ea) X.env hs) (SP X pins D) X.xe s'
section
variable {X : Cx}
end
end L2
namespace L2
open PySem PySem.Spec PyProof.Rows PySem.W
/-! ### what is looked up of an own exception class in K -/
abbrev VE : List Value := [.type "ValueError", .type "Exception", .type "BaseException", .type "object"]
structure ExcAt (K : PySem.W.Frag) (C : Addr) (bm : List Value) : Prop where
  isIn : excIn K C VE "ValueError.__new__" = true
  mro : ∃ c d cd sl, K.lookup C = some ⟨c, d, .cls cd, sl⟩ ∧ cd.mro = Value.ref C :: bm
  exc : bm.contains (.type "BaseException") = true
/-! ### isinstance of a caught exception -/
section
variable {K : PySem.W.Frag} {prog : Program} {w : World} {A : Around} {E : Value → Shared → Prop} {h : Heap} {g : Array GenState} {d : Drawn} {t : Nat} {os : OsState} {x D : Addr} {ox : Obj}
end
structure ExK (K : PySem.W.Frag) (c : Addr) : Prop where
  hc : (clsIn K c).isSome = true
  hga : findIn K (.ref c) "__getattribute__" = some (some (.builtin "BaseException.__getattribute__"))
  hgh : findIn K (.ref c) "__getattr__" = some none
  ha : findIn K (.ref c) "__class__" = some (some (.builtin "object.__class__"))
  hb : mroIn K c (.type "BaseException") = some true
  hm : mroIn K c (.type "object") = some true
section
variable {X : Cx}
end
end L2
namespace L2
open PySem PySem.Spec PyProof.Rows PySem.W
/-! ### numbers as texts -/
section
variable {X : Cx} {K : PySem.W.Frag}
/-! ### sep.join(list of texts) -/
theorem o_addS : QOp X (binaryOp .Add) (fun x y H Q => ∃ i j, x = .str i ∧ y = .str j ∧ i.length + j.length ≤ sizeLine ∧ Q (.str (i ++ j)) H) := ⟨op_add_str⟩
end
/-! ### for a, b in zip(t, u) -/
end L2
namespace L2
open PySem PySem.Spec PyProof.Rows PySem.W
/-! ### texts: exact cuts, upper, times -/
section
variable {X : Cx} {K : PySem.W.Frag}
/-- text times number: its signs and how long it is -/
theorem o_mulS : QOp X (binaryOp .Mult) (fun x y H Q => ∃ (z : Str) (n : Int), x = .str z ∧ y = .int n ∧ z.length = 1 ∧ 1 ≤ n ∧ n ≤ 1000 ∧ ∀ y : Str, y.length = n.toNat → (∀ c ∈ y.cps.toList, c ∈ z.cps.toList) → Q (.str y) H) := by
  refine ⟨?_⟩
  intro pins s σ H x y v u Q I rx ry h
  obtain ⟨z, n, rfl, rfl, hz, n1, n2, q⟩ := h
  obtain ⟨t, rfl⟩ := rx
  obtain ⟨t', rfl⟩ := ry
  have fl : ∀ (k : Nat) (acc : Array Nat), ((List.replicate k z.cps).foldl (· ++ ·) acc) = acc ++ (List.replicate k z.cps.toList).flatten.toArray := fun k => by
    induction k with
    | zero => intro acc; simp
    | succ k ih =>
      intro acc
      rw [List.replicate_succ, List.foldl_cons, ih, List.replicate_succ, List.flatten_cons, Array.append_assoc]
      congr 1
      apply Array.toList_inj.mp
      rw [Array.toList_append]
  have ln : ∀ k : Nat, ((List.replicate k z.cps.toList).flatten).length = k := fun k => by
    have e : z.cps.toList.length = 1 := hz
    induction k with
    | zero => rfl
    | succ k ih =>
      rw [List.replicate_succ, List.flatten_cons, List.length_append, ih, e]
      omega
  refine PySem.P.mul_str ?_ (fun _ _ => ?_) (fun _ _ => ?_) ?_
  · have h1 : ¬ n < -(2 ^ 63 : Int) := by omega
    have h2 : ¬ n ≥ 2 ^ 63 := by omega
    rw [decide_eq_false h1, decide_eq_false h2]
    rfl
  · rw [hz]
    have : (1 : Int) ≤ (2 ^ 63 - 1) / n := by
      rw [Int.le_ediv_iff_mul_le (by omega)]
      omega
    omega
  · rw [hz]
    unfold Builtin.Str.tooLong
    have := size63 (show 1 * n.toNat ≤ 1000 by omega)
    simp only [decide_eq_false_iff_not]
    omega
  · rw [if_neg (by omega)]
    split
    · rename_i hc
      rw [hz] at hc
      have : n = 1 := by simpa using hc
      subst this
      exact ⟨.str z, H, I, ⟨_, rfl⟩, q z hz (fun c hc => hc)⟩
    · rw [fl]
      have e : ((#[] : Array Nat) ++ (List.replicate n.toNat z.cps.toList).flatten.toArray) = (List.replicate n.toNat z.cps.toList).flatten.toArray := by simp
      rw [e]
      refine ⟨size63 (by show (List.flatten _).toArray.size ≤ 1000; rw [List.size_toArray, ln]; omega), .str _, H, I.tok _, ⟨_, rfl⟩, q _ (by show (List.flatten _).toArray.size = _; rw [List.size_toArray, ln]) (fun c hc => ?_)⟩
      have hc' : c ∈ (List.replicate n.toNat z.cps.toList).flatten := hc
      obtain ⟨l, hl, hm⟩ := List.mem_flatten.mp hc'
      rw [(List.mem_replicate.mp hl).2] at hm
      exact hm
end
end L2
namespace L2
open PySem PySem.Spec PyProof.Rows PySem.W
end L2
namespace L2
open PySem PySem.Spec PyProof.Rows PySem.W
/-! ### the tree of a sort: every end is a permutation, every question is about items -/
def KIn {α : Type} (n : Nat) (P : α → Prop) : KasT α → Prop
  | .ret a => P a
  | .ask i j k => i < n ∧ j < n ∧ ∀ b, KIn n P (k b)
theorem KIn.bind {α β : Type} {n : Nat} {P : α → Prop} {R : β → Prop} {f : α → KasT β} : ∀ {t : KasT α}, KIn n P t → (∀ a, P a → KIn n R (f a)) → KIn n R (t.bind f)
  | .ret _, h, k => k _ h
  | .ask _ _ _, ⟨h1, h2, h3⟩, k => ⟨h1, h2, fun b => KIn.bind (h3 b) k⟩
def POk (n : Nat) (p : Array Nat) : Prop := p.Perm (List.range n).toArray
theorem POk.lt {n : Nat} {p : Array Nat} (h : POk n p) (hn : 0 < n) (k : Nat) : p.getD k 0 < n := by
  rw [Array.getD_eq_getD_getElem?]
  cases e : p[k]? with
  | none => exact hn
  | some x =>
    have hm : x ∈ p := Array.mem_of_getElem? e
    have := (h.mem_iff).mp hm
    simpa using this
theorem POk.rev {n : Nat} {p : Array Nat} (h : POk n p) (i j : Nat) : POk n (kas_rev p i j) := (mirror_perm p i j _).trans h
theorem POk.bub {n : Nat} {p : Array Nat} (h : POk n p) (i j : Nat) : POk n (bubble p i j) := (bubble_perm p i j).trans h
theorem kin_asc {n : Nat} (hn : 0 < n) {p : Array Nat} (h : POk n p) : ∀ f k, KIn n (fun _ => True) (kas_asc p f k)
  | 0, _ => trivial
  | f + 1, k => ⟨h.lt hn _, h.lt hn _, fun c => by
    cases c with
    | true => exact trivial
    | false => exact kin_asc hn h f (k + 1)⟩
theorem kin_desc {n : Nat} (hn : 0 < n) : ∀ (f : Nat) {p : Array Nat}, POk n p → ∀ k q, KIn n (fun r => POk n r.1) (kas_desc f p k q)
  | 0, _, h, _, _ => h
  | f + 1, p, h, k, q => by
    refine ⟨h.lt hn _, h.lt hn _, fun c => ?_⟩
    cases c with
    | true =>
      show KIn n _ (if q > 0 then _ else _)
      split
      · exact kin_desc hn f (h.rev _ _) _ _
      · exact kin_desc hn f h _ _
    | false =>
      refine ⟨h.lt hn _, h.lt hn _, fun d => ?_⟩
      cases d with
      | true => exact h
      | false => exact kin_desc hn f h _ _
theorem kin_tail {n : Nat} (hn : 0 < n) {p : Array Nat} (h : POk n p) (k r : Nat) : KIn n (fun r => POk n r.2) (kas_tail3 k r p) := KIn.bind (kin_asc hn (h.rev 0 k) _ _) fun _ _ => h.rev 0 k
theorem kin_descPart {n : Nat} (hn : 0 < n) {p : Array Nat} (h : POk n p) (k r : Nat) : KIn n (fun r => POk n r.2) (kas_descPart k r p) := KIn.bind (kin_desc hn _ h _ _) fun x hx => by
  show KIn n _ (if x.2.2 > 0 then _ else _)
  split
  · exact kin_tail hn (hx.rev _ _) _ _
  · exact kin_tail hn hx _ _
theorem kin_count {n : Nat} (hn : 0 < n) {p : Array Nat} (h : POk n p) (r : Nat) : KIn n (fun r => POk n r.2) (kas_count r p) := KIn.bind (kin_asc hn h _ _) fun k _ => by
  show KIn n _ (if (k == r) = true then _ else if k > 1 then _ else _)
  split
  · exact h
  · split
    · refine ⟨h.lt hn _, h.lt hn _, fun c => ?_⟩
      cases c with
      | true => exact h
      | false => exact kin_descPart hn (h.rev _ _) _ _
    · exact kin_descPart hn h _ _
theorem kin_place {n : Nat} (hn : 0 < n) {p : Array Nat} (h : POk n p) (k : Nat) : ∀ f l r, KIn n (fun _ => True) (kas_place p k f l r)
  | 0, _, _ => trivial
  | f + 1, l, r => by
    show KIn n _ (if l ≥ r then _ else _)
    split
    · exact trivial
    · refine ⟨h.lt hn _, h.lt hn _, fun c => ?_⟩
      cases c with
      | true => exact kin_place hn h k f _ _
      | false => exact kin_place hn h k f _ _
theorem kin_bin {n : Nat} (hn : 0 < n) : ∀ (f : Nat) {p : Array Nat}, POk n p → ∀ k, KIn n (POk n) (kas_bin f p k)
  | 0, _, h, _ => h
  | f + 1, _, h, k => KIn.bind (kin_place hn h k _ _ _) fun _ _ => kin_bin hn f (h.bub _ _) (k + 1)
theorem kin_sort {n : Nat} (hn : 0 < n) : KIn n (POk n) (kas_sort n) := KIn.bind (kin_count hn (Array.Perm.refl _) _) fun r hr => by
  show KIn n _ (if r.1 < n then _ else _)
  split
  · exact kin_bin hn _ hr _
  · exact hr
section
variable {X : Cx}
end
end L2
namespace L2
open PySem PySem.Spec PyProof.Rows PySem.W
/-! ### a sort is sorted, and stable: by key, then by place -/
def KW {α : Type} (lt : Nat → Nat → Bool) (Q : α → Prop) : KasT α → Prop
  | .ret a => Q a
  | .ask i j k => KW lt Q (k (lt i j))
theorem KW.bind {α β : Type} {lt : Nat → Nat → Bool} {Q : β → Prop} {f : α → KasT β} : ∀ {t : KasT α}, KW lt (fun a => KW lt Q (f a)) t → KW lt Q (t.bind f)
  | .ret _, h => h
  | .ask i j k, h => KW.bind (t := k (lt i j)) h
theorem KW.mono {α : Type} {lt : Nat → Nat → Bool} {Q R : α → Prop} (k : ∀ a, Q a → R a) : ∀ {t : KasT α}, KW lt Q t → KW lt R t
  | .ret _, h => k _ h
  | .ask i j c, h => KW.mono k (t := c (lt i j)) h
structure LtOk (lt : Nat → Nat → Bool) : Prop where
  as : ∀ {a b}, lt a b = true → lt b a = false
  tr : ∀ {a b c}, lt b a = false → lt c b = false → lt c a = false
def gA (p : Array Nat) (k : Nat) : Nat := p.getD k 0
def Lx (lt : Nat → Nat → Bool) (a b : Nat) : Prop := lt b a = false ∧ (lt a b = true ∨ a < b)
section
variable {lt : Nat → Nat → Bool} (O : LtOk lt)
include O
theorem LtOk.lt_le {a b c : Nat} (h : lt a b = true) (h2 : lt c b = false) : lt a c = true := by
  cases e : lt a c with
  | true => rfl
  | false => rw [O.tr h2 e] at h; cases h
theorem LtOk.le_lt {a b c : Nat} (h : lt b a = false) (h2 : lt b c = true) : lt a c = true := by
  cases e : lt a c with
  | true => rfl
  | false => rw [O.tr e h] at h2; cases h2
theorem Lx.trans {a b c : Nat} (h : Lx lt a b) (k : Lx lt b c) : Lx lt a c := by
  refine ⟨O.tr h.1 k.1, ?_⟩
  rcases h.2 with x | x
  · exact .inl (O.lt_le x k.1)
  · rcases k.2 with y | y
    · exact .inl (O.le_lt h.1 y)
    · exact .inr (Nat.lt_trans x y)
theorem Lx.of_lt {a b : Nat} (h : lt a b = true) : Lx lt a b := ⟨O.as h, .inl h⟩
end
structure Fx (N : Nat) (p : Array Nat) (m : Nat) : Prop where
  sz : p.size = N
  hi : ∀ k, m ≤ k → k < N → gA p k = k
  lo : ∀ i, i < m → gA p i < m
def LS (lt : Nat → Nat → Bool) (p : Array Nat) (m : Nat) : Prop := ∀ i j, i < j → j < m → Lx lt (gA p i) (gA p j)
def AS (lt : Nat → Nat → Bool) (p : Array Nat) (m : Nat) : Prop := ∀ i j, i < j → j < m → Lx lt (gA p j) (gA p i)
theorem Fx.succ {N : Nat} {p : Array Nat} {m : Nat} (h : Fx N p m) (hm : m < N) : Fx N p (m + 1) := ⟨h.sz, fun k h1 h2 => h.hi k (by omega) h2, fun i hi => by
  rcases Nat.lt_or_ge i m with h1 | h1
  · have := h.lo i h1; omega
  · have e : i = m := by omega
    subst e
    rw [h.hi i (Nat.le_refl _) hm]
    omega⟩
theorem gA_rev {p : Array Nat} {i j k : Nat} (hj : j ≤ p.size) : gA (kas_rev p i j) k = if i ≤ k ∧ k < j then gA p (i + j - 1 - k) else gA p k := by
  unfold gA kas_rev
  rw [Array.getD_eq_getD_getElem?, getElem?_mirror_all hj]
  split
  · rw [Array.getD_eq_getD_getElem?]
  · rw [Array.getD_eq_getD_getElem?]
theorem gA_eq (p : Array Nat) (k : Nat) : gA p k = (p[k]?).getD 0 := by
  unfold gA
  rw [Array.getD_eq_getD_getElem?]
theorem gA_bub {p : Array Nat} {k d i : Nat} (hk : k < p.size) (hd : d ≤ k) : gA (bubble p k d) i = if i = k - d then gA p k else if k - d < i ∧ i ≤ k then gA p (i - 1) else gA p i := by
  rw [gA_eq, getElem?_bubble hk d hd]
  split
  · rw [gA_eq]
  · split
    · rw [gA_eq]
    · rw [gA_eq]
theorem Fx.rev {N : Nat} {p : Array Nat} {m i j : Nat} (h : Fx N p m) (hj : j ≤ m) (hm : m ≤ N) : Fx N (kas_rev p i j) m := by
  have hs : j ≤ p.size := by rw [h.sz]; omega
  refine ⟨by rw [kas_rev_size]; exact h.sz, fun k h1 h2 => ?_, fun k hk => ?_⟩
  · rw [gA_rev hs, if_neg (by omega)]
    exact h.hi k h1 h2
  · rw [gA_rev hs]
    split
    · exact h.lo _ (by omega)
    · exact h.lo _ hk
section
variable {lt : Nat → Nat → Bool} (O : LtOk lt) {N : Nat}
include O
theorem LS.step {p : Array Nat} {n : Nat} (h : LS lt p n) (hx : Lx lt (gA p (n - 1)) (gA p n)) (h1 : 1 ≤ n) : LS lt p (n + 1) := fun i j hij hj => by
  rcases Nat.lt_or_ge j n with h2 | h2
  · exact h i j hij h2
  · have e : j = n := by omega
    subst e
    rcases Nat.lt_or_ge i (j - 1) with h3 | h3
    · exact (h i (j - 1) h3 (by omega)).trans O hx
    · have e : i = j - 1 := by omega
      subst e
      exact hx
theorem kw_asc {p : Array Nat} : ∀ (f n : Nat), 1 ≤ n → n + f ≤ N → Fx N p n → LS lt p n → KW lt (fun m => n ≤ m ∧ m ≤ n + f ∧ Fx N p m ∧ LS lt p m ∧ (m < n + f → lt (gA p m) (gA p (m - 1)) = true)) (kas_asc p f n)
  | 0, n, _, _, hf, hs => ⟨Nat.le_refl _, Nat.le_refl _, hf, hs, fun h => absurd h (by omega)⟩
  | f + 1, n, h1, hN, hf, hs => by
    show KW lt _ (if lt (gA p n) (gA p (n - 1)) = true then .ret n else kas_asc p f (n + 1))
    by_cases c : lt (gA p n) (gA p (n - 1)) = true
    · rw [if_pos c]
      exact ⟨Nat.le_refl _, by omega, hf, hs, fun _ => c⟩
    · rw [if_neg c]
      have c' := Bool.eq_false_iff.mpr c
      have hx : Lx lt (gA p (n - 1)) (gA p n) := ⟨c', .inr (by rw [hf.hi n (Nat.le_refl _) (by omega)]; exact hf.lo _ (by omega))⟩
      refine KW.mono (fun m hm => ?_) (kw_asc f (n + 1) (by omega) (by omega) (hf.succ (by omega)) (hs.step O hx h1))
      exact ⟨by omega, by omega, hm.2.2.1, hm.2.2.2.1, fun z => hm.2.2.2.2 (by omega)⟩
theorem AS.rev {p : Array Nat} {n : Nat} (h : AS lt p n) (hn : n ≤ p.size) : LS lt (kas_rev p 0 n) n := fun i j hij hj => by
  rw [gA_rev hn, gA_rev hn, if_pos (by omega), if_pos (by omega)]
  exact h _ _ (by omega) (by omega)
theorem kw_tail {p : Array Nat} {n : Nat} (h1 : 1 ≤ n) (hN : n ≤ N) (hf : Fx N p n) (ha : AS lt p n) : KW lt (fun r => r.1 ≤ N ∧ 1 ≤ r.1 ∧ Fx N r.2 r.1 ∧ LS lt r.2 r.1) (kas_tail3 n N p) := by
  refine KW.bind (KW.mono (fun m hm => ?_) (kw_asc O (N := N) (N - n) n h1 (by omega) (hf.rev (Nat.le_refl _) hN) (ha.rev O (by rw [hf.sz]; exact hN))))
  exact ⟨by omega, by omega, hm.2.2.1, hm.2.2.2.1⟩
/-- a falling stretch whose last q + 1 items are alike -/
structure Dn (lt : Nat → Nat → Bool) (p : Array Nat) (n q : Nat) : Prop where
  hq : q + 1 ≤ n
  up : ∀ i j, i < j → j < n - (q + 1) → Lx lt (gA p j) (gA p i)
  cr : ∀ i j, i < n - (q + 1) → n - (q + 1) ≤ j → j < n → lt (gA p j) (gA p i) = true
  eq : ∀ i j, n - (q + 1) ≤ i → i < j → j < n → lt (gA p i) (gA p j) = false ∧ lt (gA p j) (gA p i) = false ∧ gA p i < gA p j
theorem Dn.rev {p : Array Nat} {n q : Nat} (h : Dn lt p n q) (hn : n ≤ p.size) : AS lt (kas_rev p (n - (q + 1)) n) n := fun i j hij hj => by
  have hq := h.hq
  rw [gA_rev hn, gA_rev hn]
  by_cases c1 : n - (q + 1) ≤ i
  · rw [if_pos (by omega), if_pos (by omega)]
    obtain ⟨e1, e2, e3⟩ := h.eq (n - (q + 1) + n - 1 - j) (n - (q + 1) + n - 1 - i) (by omega) (by omega) (by omega)
    exact ⟨e2, .inr e3⟩
  · rw [if_neg (show ¬ (n - (q + 1) ≤ i ∧ i < n) by omega)]
    by_cases c2 : n - (q + 1) ≤ j
    · rw [if_pos (by omega)]
      exact Lx.of_lt O (h.cr _ _ (by omega) (by omega) (by omega))
    · rw [if_neg (by omega)]
      exact h.up _ _ hij (by omega)
theorem Dn.zero {p : Array Nat} {n : Nat} (h : Dn lt p n 0) : AS lt p n := fun i j hij hj => by
  rcases Nat.lt_or_ge j (n - 1) with c | c
  · exact h.up i j hij c
  · exact Lx.of_lt O (h.cr i j (by omega) (by omega) hj)
theorem Dn.start {p : Array Nat} {n : Nat} (h : AS lt p n) (h1 : 1 ≤ n) (hl : lt (gA p n) (gA p (n - 1)) = true) : Dn lt p (n + 1) 0 := by
  refine ⟨by omega, fun i j hij hj => h i j hij (by omega), fun i j hi h2 h3 => ?_, fun i j h2 h3 h4 => absurd h3 (by omega)⟩
  have e : j = n := by omega
  subst e
  rcases Nat.lt_or_ge i (j - 1) with h3 | h3
  · exact O.lt_le hl (h i (j - 1) h3 (by omega)).1
  · have e : i = j - 1 := by omega
    subst e
    exact hl
theorem kw_desc : ∀ (f : Nat) {p : Array Nat} {n q : Nat}, n + f ≤ N → Fx N p n → Dn lt p n q → KW lt (fun r => n ≤ r.2.1 ∧ r.2.1 ≤ n + f ∧ Fx N r.1 r.2.1 ∧ Dn lt r.1 r.2.1 r.2.2) (kas_desc f p n q)
  | 0, _, n, _, _, hf, hd => ⟨Nat.le_refl _, Nat.le_refl _, hf, hd⟩
  | f + 1, p, n, q, hN, hf, hd => by
    have hs : n ≤ p.size := by rw [hf.sz]; omega
    have hq := hd.hq
    show KW lt _ (if lt (gA p n) (gA p (n - 1)) = true then (if q > 0 then kas_desc f (kas_rev p (n - (q + 1)) n) (n + 1) 0 else kas_desc f p (n + 1) 0) else KasT.ask (gA p (n - 1)) (gA p n) fun d => if d = true then .ret (p, n, q) else kas_desc f p (n + 1) (q + 1))
    by_cases c : lt (gA p n) (gA p (n - 1)) = true
    · rw [if_pos c]
      have wk : ∀ {r : Array Nat × Nat × Nat}, (n + 1 ≤ r.2.1 ∧ r.2.1 ≤ n + 1 + f ∧ Fx N r.1 r.2.1 ∧ Dn lt r.1 r.2.1 r.2.2) → n ≤ r.2.1 ∧ r.2.1 ≤ n + (f + 1) ∧ Fx N r.1 r.2.1 ∧ Dn lt r.1 r.2.1 r.2.2 := fun h => ⟨by omega, by omega, h.2.2.1, h.2.2.2⟩
      by_cases cq : q > 0
      · rw [if_pos cq]
        have fr := hf.rev (i := n - (q + 1)) (Nat.le_refl n) (by omega)
        have e1 : gA (kas_rev p (n - (q + 1)) n) n = gA p n := by rw [gA_rev hs, if_neg (by omega)]
        have e2 : gA (kas_rev p (n - (q + 1)) n) (n - 1) = gA p (n - (q + 1)) := by
          rw [gA_rev hs, if_pos (by omega)]
          congr 1
          omega
        have l2 : lt (gA p n) (gA p (n - (q + 1))) = true := O.lt_le c (hd.eq (n - (q + 1)) (n - 1) (Nat.le_refl _) (by omega) (by omega)).1
        refine KW.mono (fun r h => wk h) (kw_desc f (by omega) (fr.succ (by omega)) (Dn.start O (hd.rev O hs) (by omega) (by rw [e1, e2]; exact l2)))
      · rw [if_neg cq]
        have e : q = 0 := by omega
        subst e
        exact KW.mono (fun r h => wk h) (kw_desc f (by omega) (hf.succ (by omega)) (Dn.start O (hd.zero O) (by omega) c))
    · rw [if_neg c]
      have c' := Bool.eq_false_iff.mpr c
      show KW lt _ (if lt (gA p (n - 1)) (gA p n) = true then _ else _)
      by_cases d : lt (gA p (n - 1)) (gA p n) = true
      · rw [if_pos d]
        exact ⟨Nat.le_refl _, Nat.le_add_right _ _, hf, hd⟩
      · rw [if_neg d]
        have d' := Bool.eq_false_iff.mpr d
        have gn : gA p n = n := hf.hi n (Nat.le_refl _) (by omega)
        have same : ∀ i, n - (q + 1) ≤ i → i < n → lt (gA p i) (gA p n) = false ∧ lt (gA p n) (gA p i) = false := fun i h1 h2 => by
          rcases Nat.lt_or_ge i (n - 1) with h3 | h3
          · obtain ⟨a1, a2, _⟩ := hd.eq i (n - 1) h1 h3 (by omega)
            exact ⟨O.tr d' a1, O.tr a2 c'⟩
          · have e : i = n - 1 := by omega
            subst e
            exact ⟨d', c'⟩
        refine KW.mono (fun r h => ⟨by omega, by omega, h.2.2.1, h.2.2.2⟩) (kw_desc f (n := n + 1) (q := q + 1) (by omega) (hf.succ (by omega)) ⟨by omega, fun i j hij hj => hd.up i j hij (by omega), fun i j hi h2 h3 => ?_, fun i j h1 h2 h3 => ?_⟩)
        · rcases Nat.lt_or_ge j n with h4 | h4
          · exact hd.cr i j (by omega) (by omega) h4
          · have e : j = n := by omega
            subst e
            exact O.le_lt d' (hd.cr i (j - 1) (by omega) (by omega) (by omega))
        · rcases Nat.lt_or_ge j n with h4 | h4
          · exact hd.eq i j (by omega) h2 h4
          · have e : j = n := by omega
            subst e
            obtain ⟨a1, a2⟩ := same i (by omega) h2
            exact ⟨a1, a2, by rw [gn]; exact hf.lo _ h2⟩
theorem kw_descPart {p : Array Nat} {n : Nat} (h1 : 1 ≤ n) (hN : n < N) (hf : Fx N p n) (ha : AS lt p n) (hl : lt (gA p n) (gA p (n - 1)) = true) : KW lt (fun r => r.1 ≤ N ∧ 1 ≤ r.1 ∧ Fx N r.2 r.1 ∧ LS lt r.2 r.1) (kas_descPart n N p) := by
  refine KW.bind (KW.mono (fun r hr => ?_) (kw_desc O (N := N) (N - (n + 1)) (by omega) (hf.succ hN) (Dn.start O ha h1 hl)))
  obtain ⟨r1, r2, r3, r4⟩ := hr
  show KW lt _ (if r.2.2 > 0 then _ else _)
  by_cases c : r.2.2 > 0
  · rw [if_pos c]
    exact kw_tail O (by omega) (by omega) (r3.rev (Nat.le_refl _) (by omega)) (r4.rev O (by rw [r3.sz]; omega))
  · rw [if_neg c]
    have e : r.2.2 = 0 := by omega
    rw [e] at r4
    exact kw_tail O (by omega) (by omega) r3 (r4.zero O)
theorem kw_count {p : Array Nat} (hN : 1 ≤ N) (hf : Fx N p 1) : KW lt (fun r => r.1 ≤ N ∧ 1 ≤ r.1 ∧ Fx N r.2 r.1 ∧ LS lt r.2 r.1) (kas_count N p) := by
  refine KW.bind (KW.mono (fun n hn => ?_) (kw_asc O (N := N) (N - 1) 1 (Nat.le_refl _) (by omega) hf (fun i j h1 h2 => absurd h1 (by omega))))
  obtain ⟨n1, n2, nf, ns, nl⟩ := hn
  show KW lt _ (if (n == N) = true then KasT.ret (n, p) else if n > 1 then KasT.ask (gA p 0) (gA p (n - 1)) (fun c => if c = true then .ret (n, p) else kas_descPart n N (kas_rev p 0 n)) else kas_descPart n N p)
  by_cases c : (n == N) = true
  · rw [if_pos c]
    exact ⟨by omega, n1, nf, ns⟩
  · rw [if_neg c]
    have nN : n < N := by
      have : n ≠ N := fun z => c (beq_iff_eq.mpr z)
      omega
    have hl := nl (by omega)
    by_cases c2 : n > 1
    · rw [if_pos c2]
      show KW lt _ (if lt (gA p 0) (gA p (n - 1)) = true then _ else _)
      by_cases c3 : lt (gA p 0) (gA p (n - 1)) = true
      · rw [if_pos c3]
        exact ⟨by omega, n1, nf, ns⟩
      · rw [if_neg c3]
        have c3' := Bool.eq_false_iff.mpr c3
        have hs : n ≤ p.size := by rw [nf.sz]; omega
        have le0 : ∀ i, i < n → lt (gA p i) (gA p 0) = false := fun i hi => by
          rcases Nat.eq_zero_or_pos i with z | z
          · subst z
            cases e : lt (gA p 0) (gA p 0) with
            | false => rfl
            | true => rw [O.as e] at e; cases e
          · exact (ns 0 i z hi).1
        have leN : ∀ i, i < n → lt (gA p (n - 1)) (gA p i) = false := fun i hi => by
          rcases Nat.lt_or_ge i (n - 1) with z | z
          · exact (ns i (n - 1) z (by omega)).1
          · have e : i = n - 1 := by omega
            subst e
            cases e : lt (gA p (n - 1)) (gA p (n - 1)) with
            | false => rfl
            | true => rw [O.as e] at e; cases e
        have all : ∀ i j, i < n → j < n → lt (gA p i) (gA p j) = false := fun i j hi hj => O.tr (leN j hj) (O.tr c3' (le0 i hi))
        refine kw_descPart O n1 nN (nf.rev (Nat.le_refl _) (by omega)) (fun i j hij hj => ?_) ?_
        · rw [gA_rev hs, gA_rev hs, if_pos (by omega), if_pos (by omega)]
          have z := ns (0 + n - 1 - j) (0 + n - 1 - i) (by omega) (by omega)
          refine ⟨all _ _ (by omega) (by omega), ?_⟩
          rcases z.2 with y | y
          · rw [all _ _ (by omega) (by omega)] at y
            cases y
          · exact .inr y
        · rw [gA_rev hs, gA_rev hs, if_neg (by omega), if_pos (by omega)]
          exact O.lt_le hl (all _ _ (by omega) (by omega))
    · rw [if_neg c2]
      have e : n = 1 := by omega
      subst e
      exact kw_descPart O n1 nN nf (fun i j h1 h2 => absurd h1 (by omega)) hl
theorem kw_place {p : Array Nat} {k : Nat} (hs : LS lt p k) : ∀ (f l r : Nat), r - l ≤ f → r ≤ k → (∀ i, i < l → i < k → lt (gA p k) (gA p i) = false) → (∀ i, r ≤ i → i < k → lt (gA p k) (gA p i) = true) → l ≤ r →
    KW lt (fun m => m ≤ k ∧ (∀ i, i < m → lt (gA p k) (gA p i) = false) ∧ ∀ i, m ≤ i → i < k → lt (gA p k) (gA p i) = true) (kas_place p k f l r)
  | 0, l, r, h1, h2, h3, h4, h5 => ⟨by omega, fun i hi => h3 i hi (by omega), fun i hi => h4 i (by omega)⟩
  | f + 1, l, r, h1, h2, h3, h4, h5 => by
    show KW lt _ (if l ≥ r then KasT.ret l else KasT.ask (gA p k) (gA p ((l + r) / 2)) fun c => if c = true then kas_place p k f l ((l + r) / 2) else kas_place p k f ((l + r) / 2 + 1) r)
    by_cases c : l ≥ r
    · rw [if_pos c]
      exact ⟨by omega, fun i hi => h3 i hi (by omega), fun i hi => h4 i (by omega)⟩
    · rw [if_neg c]
      show KW lt _ (if lt (gA p k) (gA p ((l + r) / 2)) = true then _ else _)
      by_cases d : lt (gA p k) (gA p ((l + r) / 2)) = true
      · rw [if_pos d]
        refine kw_place hs f l ((l + r) / 2) (by omega) (by omega) h3 (fun i hi hk => ?_) (by omega)
        rcases Nat.eq_or_lt_of_le hi with e | e
        · rw [← e]; exact d
        · exact O.lt_le d (hs _ _ e hk).1
      · rw [if_neg d]
        have d' := Bool.eq_false_iff.mpr d
        refine kw_place hs f ((l + r) / 2 + 1) r (by omega) h2 (fun i hi hk => ?_) h4 (by omega)
        rcases Nat.lt_or_ge i ((l + r) / 2) with e | e
        · exact O.tr (hs _ _ e (by omega)).1 d'
        · have e : i = (l + r) / 2 := by omega
          rw [e]; exact d'
theorem kw_bin : ∀ (f : Nat) {p : Array Nat} {k : Nat}, k + f = N → 1 ≤ k → Fx N p k → LS lt p k → KW lt (fun p => p.size = N ∧ LS lt p N) (kas_bin f p k)
  | 0, p, k, e, _, hf, hs => by
    have : k = N := by omega
    subst this
    exact ⟨hf.sz, hs⟩
  | f + 1, p, k, e, h1, hf, hs => by
    refine KW.bind (KW.mono (fun m hm => ?_) (kw_place O hs k 0 k (by omega) (Nat.le_refl _) (fun i hi => absurd hi (by omega)) (fun i h2 h3 => absurd h2 (by omega)) (Nat.zero_le _)))
    obtain ⟨m1, m2, m3⟩ := hm
    have hk : k < p.size := by rw [hf.sz]; omega
    have gk : gA p k = k := hf.hi k (Nat.le_refl _) (by omega)
    have ekm : k - (k - m) = m := by omega
    have gb : ∀ i, gA (bubble p k (k - m)) i = if i = m then gA p k else if m < i ∧ i ≤ k then gA p (i - 1) else gA p i := fun i => by
      rw [gA_bub hk (by omega), ekm]
    refine kw_bin f (by omega) (by omega) ⟨by rw [bubble_size]; exact hf.sz, fun i h2 h3 => ?_, fun i hi => ?_⟩ (fun i j hij hj => ?_)
    · rw [gb, if_neg (by omega), if_neg (by omega)]
      exact hf.hi i (by omega) h3
    · rw [gb]
      split
      · rw [gk]; omega
      · split
        · have := hf.lo (i - 1) (by omega); omega
        · have := hf.lo i (by omega); omega
    · have lk : ∀ i, i < m → Lx lt (gA p i) (gA p k) := fun i hi => ⟨m2 i hi, .inr (by rw [gk]; exact hf.lo i (by omega))⟩
      have gt : ∀ i, m ≤ i → i < k → Lx lt (gA p k) (gA p i) := fun i h2 h3 => Lx.of_lt O (m3 i h2 h3)
      rw [gb, gb]
      by_cases a1 : i = m
      · rw [if_pos a1, if_neg (by omega), if_pos (by omega)]
        exact gt _ (by omega) (by omega)
      · rw [if_neg a1]
        by_cases a2 : m < i ∧ i ≤ k
        · rw [if_pos a2, if_neg (by omega), if_pos (by omega)]
          exact hs _ _ (by omega) (by omega)
        · rw [if_neg a2]
          by_cases b1 : j = m
          · rw [if_pos b1]
            exact lk i (by omega)
          · rw [if_neg b1]
            by_cases b2 : m < j ∧ j ≤ k
            · rw [if_pos b2]
              exact hs _ _ (by omega) (by omega)
            · rw [if_neg b2]
              exact hs _ _ hij (by omega)
theorem kw_sort (hN : 1 ≤ N) : KW lt (fun p => p.size = N ∧ LS lt p N) (kas_sort N) := by
  have f0 : Fx N (List.toArray (List.range N)) 1 := by
    have g : ∀ k, k < N → gA (List.toArray (List.range N)) k = k := fun k hk => by
      rw [gA_eq]
      simp [hk]
    refine ⟨by simp, fun k _ hk => g k hk, fun i hi => ?_⟩
    have e : i = 0 := by omega
    subst e
    rw [g 0 (by omega)]
    decide
  refine KW.bind (KW.mono (fun r hr => ?_) (kw_count O hN f0))
  obtain ⟨r1, r2, r3, r4⟩ := hr
  show KW lt _ (if r.1 < N then kas_bin (N - max r.1 1) r.2 (max r.1 1) else .ret r.2)
  have e : max r.1 1 = r.1 := by omega
  rw [e]
  by_cases c : r.1 < N
  · rw [if_pos c]
    exact kw_bin O _ (by omega) r2 r3 r4
  · rw [if_neg c]
    have e : r.1 = N := by omega
    rw [e] at r3 r4
    exact ⟨r3.sz, r4⟩
end
end L2
namespace L2
open PySem PySem.Spec PyProof.Rows PySem.W
/-! ### enumerate(xs) of a list, walked to a pair of names -/
def Ite (K : PySem.W.Frag) (a : Addr) (xs : List V) : It :=
  ⟨fun i H => i < xs.length ∧ SqL K H a xs, fun i H x H' => ∃ T p, H T = none ∧ xs[i]? = some p ∧ x = .ref T ∧ H' = upd H T (.tup [.int i, p]), fun i H => i = xs.length ∧ SqL K H a xs⟩
abbrev eTn (e it a : Addr) : Nat → Heap → Prop := fun i h => (∃ old, IsEnum h e it i old) ∧ h.IsListIter it a i
theorem turn_enum {P : Program} {w : World} {K : PySem.W.Frag} {elts : List Expr} {kt : Nat} {tp : Pos} {e it a : Addr} {xs : List V} (ne : e ≠ it) (ha : e ≠ a ∧ it ≠ a) :
    Turn P w K (.Tuple elts kt tp) (Ite K a xs) [e, it] e (eTn e it a) := by
  refine ⟨by simp, fun i h st c hc => ?_, fun i h h' st k => ?_, ?_, ?_, fun A i s Q E st h => ?_⟩
  · obtain ⟨⟨old, e1⟩, ⟨o4, e4, _, d4⟩⟩ := st
    simp only [List.mem_cons, List.not_mem_nil, or_false] at hc
    rcases hc with rfl | rfl
    · exact ⟨_, e1, fun v z => nomatch z⟩
    · exact ⟨_, e4, fun v z => by rw [d4] at z; cases z⟩
  · obtain ⟨⟨old, e1⟩, ⟨o4, e4, r4⟩⟩ := st
    exact ⟨⟨old, k e (by simp) _ e1⟩, ⟨o4, k it (by simp) _ e4, r4⟩⟩
  · intro X hP hw hK hc i pins s σ H E I hf st hg
    subst hP hw hK
    obtain ⟨⟨old, e1⟩, e4⟩ := st
    obtain ⟨hi, hx⟩ := hg
    obtain ⟨its, rx, px, zx⟩ := I.list hx
    have lx : i < its.toArray.size := by rw [List.size_toArray, ← rx.length]; exact hi
    have hh := I.ok.hd hc
    refine wpAny_pyNext_enum_itemD (Draws.list (A := X.A.in1) hh it a ha.2.symm its.toArray) e1 ⟨e4, px.isList⟩ lx ne (by simp [ne, ha.1]) fun x h' tk qx ho hs' hT hsz hk => ?_
    refine ⟨_, rfl, wpAny_letOwnedTupleGo_enum (s := { s with heap := h', toks := tk + 1 }) ho fun h2 he2 sb => ?_⟩
    obtain ⟨xv, ex⟩ : ∃ xv, xs[i]? = some xv := ⟨xs[i], by simp [hi]⟩
    obtain ⟨x', gx, rxv⟩ := rx.get ex
    have qx' : its[i]? = some x := by simpa using qx
    rw [gx] at qx'
    cases qx'
    have lte : e < s.heap.objs.size := Heap.lt_size e1
    have kp2 : ∀ c o, c ∉ [e, it] → s.heap.get? c = some o → h2.get? c = some o := fun c o hc q => by
      simp only [List.mem_cons, List.not_mem_nil, or_false, not_or] at hc
      exact sb.extBut c o hc.1 (hk c o hc.1 hc.2 q)
    have tT : IsTup h2 s.heap.objs.size [.int i tk, x].toArray := ⟨_, sb.extBut _ _ (Nat.ne_of_gt lte) hT, rfl, _, rfl⟩
    refine ⟨.ref s.heap.objs.size, upd H s.heap.objs.size (.tup [.int i, xv]), I.turnT (t' := tk + 1) hf kp2 tT (.cons ⟨tk, rfl⟩ (.cons rxv .nil)) (size63 (Nat.le_of_ble_eq_true rfl)), rfl, ⟨_, xv, I.hok.fresh (Nat.le_refl _), ex, rfl, rfl⟩, ?_, fun c hc => ?_⟩
    · exact ⟨⟨_, by simpa using he2⟩, hs'.1.extBut sb.extBut ne.symm⟩
    · rw [upd_ne]
      · exact (hf c hc).1
      · obtain ⟨o, eo⟩ : ∃ o, s.heap.get? c = some o := by
          simp only [List.mem_cons, List.not_mem_nil, or_false] at hc
          rcases hc with rfl | rfl
          · exact ⟨_, e1⟩
          · obtain ⟨o, eo, _⟩ := e4
            exact ⟨o, eo⟩
        exact Nat.ne_of_lt (Heap.lt_size eo)
  · intro X hP hw hK hc i pins s σ H E I hf st hg
    subst hP hw hK
    obtain ⟨⟨old, e1⟩, e4⟩ := st
    obtain ⟨rfl, hx⟩ := hg
    obtain ⟨its, rx, px, zx⟩ := I.list hx
    have lx : its.toArray.size = xs.length := by rw [List.size_toArray, ← rx.length]
    have hh := I.ok.hd hc
    refine wpAny_pyNext_enum_endD (Draws.list (A := X.A.in1) hh it a ha.2.symm its.toArray) e1 ⟨by rw [lx]; exact e4, px.isList⟩ fun h' kp => ⟨rfl, ?_⟩
    exact I.turnM (t' := s.toks) hf fun c ob hc q => by
      simp only [List.mem_cons, List.not_mem_nil, or_false, not_or] at hc
      exact kp c ob hc.2 q
  · obtain ⟨⟨old, e1⟩, _⟩ := st
    exact wpAny_pyIter_enum e1 h
def iEnum (K : PySem.W.Frag) (ta : TA) : TI := fun σ H R => ta σ H fun vs H1 => ∃ a xs, vs = [.ref a] ∧ H1 a = some (.lst xs) ∧ R (Ite K a xs) H1
section
variable {X : Cx}
theorem pi_enum {e1 : Expr} {ta : TA} {p pos tp : Pos} {elts : List Expr} {kt : Nat} (hg : Gl X "enumerate") (hm : X.mg "enumerate" = none) (ha : PA X [e1] ta) (n1 : noStar e1 = true) : PI X (.Tuple elts kt tp) (.Call (.Name "enumerate" p) [e1] [] pos) (iEnum X.K ta) := by
  intro pins s σ H R I h
  refine Call_ (ld_blt I hg hm boot_enumerate (PyProof.Rows.callWith_type1 (thn (ha pos pins s σ H _ I h) fun us s1 ⟨vs, H1, I1, r1, q1⟩ => ?_) (star_cons n1) (plain_back (by simp))))
  obtain ⟨a, xs, e, hx, q⟩ := q1
  subst e
  obtain ⟨ua, rfl, ra⟩ := vals1 r1
  cases ra
  obtain ⟨z, its, n, rx, hl', eo⟩ := I1.lstM hx
  have la : a < s1.heap.objs.size := Heap.lt_size eo
  refine call_enumerate_1 eo fun h' he hl hz hk => wpAny_pyIter_enum he ?_
  refine ⟨s1.heap.objs.size + 1, [s1.heap.objs.size + 1, s1.heap.objs.size], eTn (s1.heap.objs.size + 1) s1.heap.objs.size a, _, H1, rfl, I1.kept (t' := s1.toks) hk, turn_enum (Nat.succ_ne_self _) ⟨Nat.ne_of_gt (Nat.lt_succ_of_lt la), Nat.ne_of_gt la⟩, ⟨⟨_, he⟩, hl⟩, fun c hc => ?_, q⟩
  have hc' : s1.heap.objs.size ≤ c := by
    simp only [List.mem_cons, List.not_mem_nil, or_false] at hc
    rcases hc with rfl | rfl
    · exact Nat.le_succ _
    · exact Nat.le_refl _
  exact I1.fpOk hc' (I1.hok.fresh hc')
theorem i_enum {e1 : Expr} {ta : TA} {p pos tp : Pos} {elts : List Expr} {kt : Nat} (hm : X.mg "enumerate" = none) (ha : QA X [e1] ta) (hg : Gl X "enumerate" := by rfl) (n1 : noStar e1 = true := by rfl) : QI X (.Tuple elts kt tp) (.Call (.Name "enumerate" p) [e1] [] pos) (iEnum X.K ta) := ⟨pi_enum hg hm ha.h n1⟩
end
/-- for i, x in enumerate(xs) -/
theorem for_enum {K : PySem.W.Frag} {a : Addr} {xs : List V} {i j : Nat} {tb : TS} {D : Ends} {σ : St} {H : Hp} (Pv : Nat → St → Hp → Prop) (h0 : Pv 0 σ H) (ha : ∀ i σ H, i ≤ xs.length → Pv i σ H → SqL K H a xs)
    (hs : ∀ k x σ H, xs[k]? = some x → Pv k σ H → ∀ T, H T = none → tb { D with nx := Pv (k + 1), ct := Pv (k + 1), bk := D.nx } ((σ.set i (some (.int k))).set j (some x)) (upd H T (.tup [.int k, x]))) (hd : ∀ σ H, Pv xs.length σ H → D.nx σ H) :
    ∃ W : Nat → Nat → St → Hp → Prop, (∃ m, W 0 m σ H) ∧ ∀ k m σ H, W k m σ H →
      ((Ite K a xs).stop k H ∧ D.nx σ H) ∨ ((Ite K a xs).go k H ∧ ∃ N : St → Hp → Prop, (∀ σ' H', N σ' H' → ∃ m', m' < m ∧ W (k + 1) m' σ' H') ∧ ∀ x H', (Ite K a xs).yld k H x H' → gTup K 2 (gCons (gName i) (gCons (gName j) gNil)) x σ H' fun σ2 H2 => tb { D with nx := N, ct := N, bk := D.nx } σ2 H2) := by
  refine ⟨fun k m σ H => m = xs.length - k ∧ k ≤ xs.length ∧ Pv k σ H, ⟨xs.length, by simp, Nat.zero_le _, h0⟩, ?_⟩
  rintro k m σ H ⟨rfl, hk, pv⟩
  by_cases hlt : k < xs.length
  · refine .inr ⟨⟨hlt, ha k σ H hk pv⟩, Pv (k + 1), fun σ' H' z => ⟨xs.length - (k + 1), by omega, rfl, hlt, z⟩, fun x H' y => ?_⟩
    obtain ⟨T, p, hT, hx, rfl, rfl⟩ := y
    exact ⟨T, [.int k, p], rfl, SqT.of upd_same, rfl, .int k, [p], rfl, p, [], rfl, rfl, hs k p σ H hx pv T hT⟩
  · have e : k = xs.length := by omega
    subst e
    exact .inl ⟨⟨rfl, ha _ σ H hk pv⟩, hd σ H pv⟩
end L2
namespace L2
open PySem PySem.Spec PyProof.Rows PySem.W
/-! ### sorted(xs, key=f) -/
theorem kas_run {α : Type} {n : Nat} {lt : Nat → Nat → Bool} {P R : α → Prop} {cmp : Nat → Nat → (Bool → Shared → Prop) → Shared → Prop} {Q : α → Shared → Prop} {s : Shared} (hc : ∀ i j C, i < n → j < n → C (lt i j) s → cmp i j C s) (hq : ∀ a, P a → R a → Q a s) : ∀ {t : KasT α}, KIn n P t → KW lt R t → t.kasWp cmp Q s
  | .ret _, h, k => hq _ h k
  | .ask i j c, ⟨h1, h2, h3⟩, k => hc _ _ _ h1 h2 (kas_run hc hq (t := c (lt i j)) (h3 _) k)
section
variable {X : Cx} {pins : List (Addr × Obj)} {σ : St} {H : Hp} {s : Shared} {h' : Heap}
/-- untracked objects of ours have changed, the frame's own names are kept -/
theorem Inv.movedF {ch : List Addr} {t' : Nat} (I : Inv X pins σ H s) (hch : ∀ b ∈ ch, FpOk X pins H b) (k : ∀ b u, b ≠ X.env.locals → b ∉ ch → s.heap.get? b = some u → h'.get? b = some u) (hn : ∃ m, s.heap.Ns X.env.locals m ∧ h'.Ns X.env.locals m) : Inv X pins σ H { s with heap := h', toks := t' } := by
  have neL : ∀ {b : Addr} {u : HO}, H b = some u → b ≠ X.env.locals := fun {b u} e => ne_of_none e I.free
  have neC : ∀ {b : Addr} {u : HO}, H b = some u → b ∉ ch := fun {b u} e z => by
    have := (hch b z).1
    rw [e] at this
    cases this
  refine I.step (g' := s.gens) (d' := s.drawn) (ch := ch) (fun b hb => ⟨(hch b hb).2.2.2.1, (hch b hb).2.1, (hch b hb).2.2.2.2.1, (hch b hb).2.2.2.2.2⟩) (fun b o hL _ hc e _ => k b o hL hc e) (fun b o hL _ hc e _ => ⟨o.slots, k b o hL hc e⟩) (fun b o _ e n => n) (fun b o hc e => ?_)
    (fun b xs e => e) (fun b o u e => e) (fun b ps e => ⟨#[], by rw [e]; simp⟩) (fun m' hm' => ?_) (fun b u e => ?_) I.bare
  · by_cases hL : b = X.env.locals
    · obtain ⟨m, _, o', _, _, e', _⟩ := hn
      exact ⟨o', by rw [hL]; exact e'⟩
    · exact ⟨o, k b o hL hc e⟩
  · obtain ⟨m, h1, h2⟩ := hn
    rw [hm'.eq_nsMap, ← h1.eq_nsMap]
    exact h2
  · refine (I.hok b u e).stay (fun c v hc q => k c v ?_ ?_ q) (fun c q => q) fun c ys q => q
    · rcases hc with z | z
      · rw [z]; exact neL e
      · exact neL z
    · rcases hc with z | z
      · rw [z]; exact neC e
      · exact neC z
/-- one of them is known from here on -/
theorem Inv.tookF {ch : List Addr} {a : Addr} {o : HO} {t' : Nat} (I : Inv X pins σ H s) (ha : a ∈ ch) (hch : ∀ b ∈ ch, FpOk X pins H b) (k : ∀ b u, b ≠ X.env.locals → b ∉ ch → s.heap.get? b = some u → h'.get? b = some u) (hn : ∃ m, s.heap.Ns X.env.locals m ∧ h'.Ns X.env.locals m)
    (new : ObjOk X.prog X.w (upd H a o) h' a o) : Inv X pins σ (upd H a o) { s with heap := h', toks := t' } := by
  have fr := (hch a ha).1
  have ne : ∀ {b : Addr} {u : HO}, H b = some u → b ≠ a := fun {b u} e => ne_of_none e fr
  have neL : ∀ {b : Addr} {u : HO}, H b = some u → b ≠ X.env.locals := fun {b u} e => ne_of_none e I.free
  have neC : ∀ {b : Addr} {u : HO}, H b = some u → b ∉ ch := fun {b u} e z => by
    have := (hch b z).1
    rw [e] at this
    cases this
  refine I.step (g' := s.gens) (d' := s.drawn) (ch := ch) (fun b hb => ⟨(hch b hb).2.2.2.1, (hch b hb).2.1, (hch b hb).2.2.2.2.1, (hch b hb).2.2.2.2.2⟩) (fun b o hL _ hc e _ => k b o hL hc e) (fun b o hL _ hc e _ => ⟨o.slots, k b o hL hc e⟩) (fun b o hc e n => by rw [upd_ne (fun z : b = a => hc (by rw [z]; exact ha))]; exact n) (fun b o hc e => ?_)
    (fun b xs e => by rw [upd_ne (ne e)]; exact e) (fun b o u e => by rw [upd_ne (ne e)]; exact e) (fun b ps e => ⟨#[], by rw [upd_ne (ne e), e]; simp⟩) (fun m' hm' => ?_) (fun b u e => ?_) I.bare
  · by_cases hL : b = X.env.locals
    · obtain ⟨m, _, o', _, _, e', _⟩ := hn
      exact ⟨o', by rw [hL]; exact e'⟩
    · exact ⟨o, k b o hL hc e⟩
  · obtain ⟨m, h1, h2⟩ := hn
    rw [hm'.eq_nsMap, ← h1.eq_nsMap]
    exact h2
  · by_cases hb : b = a
    · subst hb
      rw [upd_same] at e
      cases e
      exact new
    · rw [upd_ne hb] at e
      refine (I.hok b u e).stay (fun c v hc q => k c v ?_ ?_ q) (fun c q => by rw [upd_ne (ne q)]; exact q) fun c ys q => by rw [upd_ne (ne q)]; exact q
      · rcases hc with z | z
        · rw [z]; exact neL e
        · exact neL z
      · rcases hc with z | z
        · rw [z]; exact neC e
        · exact neC z
/-- all objects but base's, the frame's own and one -/
def restBut (base h : Heap) (L kS : Addr) : List (Addr × Obj) := (restOf base h L).filter fun p => decide (p.1 ≠ kS)
theorem restBut_news {base h : Heap} {L kS : Addr} {o : Obj} (e : h.get? kS = some o) (hL : kS ≠ L) (hb : base.get? kS = none) : News base L h ((kS, o) :: restBut base h L kS) := fun p hp => by
  rcases List.mem_cons.mp hp with rfl | hp
  · exact ⟨e, hL, hb⟩
  · exact restOf_news base h L p (List.mem_filter.mp hp).1
theorem restBut_ne {base h : Heap} {L kS : Addr} : ∀ p ∈ restBut base h L kS, p.1 ≠ kS := fun p hp => of_decide_eq_true (List.mem_filter.mp hp).2
theorem restBut_keep {base h h2 : Heap} {L kS : Addr} {o' : Obj} {m : Str → Option Value} (hbk : ∀ b o, base.get? b = some o → h.get? b = some o) (F : Fr base L h2 m) (N : News base L h2 ((kS, o') :: restBut base h L kS)) : ∀ b u, b ≠ L → b ∉ [kS] → h.get? b = some u → h2.get? b = some u := fun b u hL hk e => by
  cases q : base.get? b with
  | none => exact (N (b, u) (.tail _ (List.mem_filter.mpr ⟨restOf_mem e hL q, decide_eq_true (fun z => hk (List.mem_singleton.mpr z))⟩))).1
  | some o =>
    have e' := hbk b o q
    rw [e] at e'
    cases e'
    exact F.keep b u q
/-- the state between two keys -/
structure SK (X : Cx) (pins : List (Addr × Obj)) (σ : St) (H1 : Hp) (m : Str → Option Value) (kS D : Addr) (e1 : Nat) (ks : List (List Int)) (as : List Addr) (e : Nat) (H : Hp) (s : Shared) : Prop where
  I : Inv X pins σ H s
  sm : Same H1 H
  fk : FpOk X pins H kS
  fd : FpOk X pins H D
  bk : X.base.get? kS = none
  bd : X.base.get? D = none
  hk : s.heap.get? kS = some (seqObj "list" (List.toArray (as.map Value.ref)) e)
  hd : s.heap.get? D = some (seqObj "list" #[] e1)
  ns : s.heap.Ns X.env.locals m
  keys : ∀ (i : Nat) (a : Addr) (k : List Int), as[i]? = some a → ks[i]? = some k → H a = some (.tup (k.map V.int))
theorem SK.fr {H1 : Hp} {m : Str → Option Value} {kS D : Addr} {e1 : Nat} {ks : List (List Int)} {as : List Addr} {e : Nat} (S : SK X pins σ H1 m kS D e1 ks as e H s) : Fr X.base X.env.locals s.heap m := ⟨S.ns, S.I.bk, Nat.le_trans S.I.ok.bsz S.I.ok.above⟩
end
end L2
namespace L2
open PySem PySem.Spec PyProof.Rows PySem.W
theorem lex_as : ∀ {a b : List Int}, HT.lexLt a b = true → HT.lexLt b a = false
  | [], [], h => by cases h
  | [], _ :: _, _ => rfl
  | _ :: _, [], h => by cases h
  | x :: a, y :: b, h => by
    rw [HT.lexLt_cons] at h ⊢
    by_cases e : x = y
    · subst e
      rw [if_pos rfl] at h ⊢
      exact lex_as h
    · rw [if_neg e] at h
      rw [if_neg (fun z => e z.symm)]
      have := of_decide_eq_true h
      exact decide_eq_false (by omega)
theorem lex_tr : ∀ {a b c : List Int}, HT.lexLt b a = false → HT.lexLt c b = false → HT.lexLt c a = false
  | [], [], [], _, _ => rfl
  | [], [], _ :: _, _, _ => rfl
  | [], _ :: _, [], _, h => by cases h
  | [], _ :: _, _ :: _, _, _ => rfl
  | _ :: _, [], _, h, _ => by cases h
  | _ :: _, _ :: _, [], _, h => by cases h
  | x :: a, y :: b, z :: c, h, k => by
    rw [HT.lexLt_cons] at h k ⊢
    by_cases e : y = x
    · subst e
      rw [if_pos rfl] at h
      by_cases e2 : z = y
      · rw [if_pos e2] at k ⊢
        exact lex_tr h k
      · rw [if_neg e2] at k ⊢
        exact k
    · rw [if_neg e] at h
      have h' := of_decide_eq_false h
      by_cases e2 : z = y
      · rw [if_neg (by omega)]
        exact decide_eq_false (by omega)
      · rw [if_neg e2] at k
        have k' := of_decide_eq_false k
        rw [if_neg (by omega)]
        exact decide_eq_false (by omega)
theorem lex_ok (ks : List (List Int)) : LtOk (fun i j => HT.lexLt (ks.getD i []) (ks.getD j [])) := ⟨lex_as, lex_tr⟩
section
variable {X : Cx} {pins : List (Addr × Obj)} {σ : St} {H : Hp} {s : Shared}
def wX (X : Cx) (l : List Addr) : Cx := { X with ex := l ++ X.ex }
structure ExOk (X : Cx) (b : Addr) : Prop where
  old : b ∈ X.ex ∨ X.s₀.heap.get? b = none
  loc : b ≠ X.env.locals
  cel : ∀ x c, X.env.cells.lookup x = some c → c ≠ b
  bas : X.base.get? b = none
  fs : b ∉ X.fs
theorem Inv.widen {l : List Addr} (I : Inv X pins σ H s) (hl : ∀ b ∈ l, ExOk X b) : Inv (wX X l) pins σ H s := by
  have ok : (wX X l).Ok := by
    have o := I.ok
    refine ⟨o.mod, o.kind, o.glob, o.blt, o.above, o.inj, o.has, o.cab, o.hd, o.frames, o.stk, fun b hb => ?_, o.bs, o.bsz, fun b ob hb z => ?_, fun b hb => ?_, o.funs, o.frf⟩
    · rcases List.mem_append.mp hb with h | h
      · exact ⟨(hl b h).loc, (hl b h).cel⟩
      · exact o.exf b h
    · rcases List.mem_append.mp z with h | h
      · have hb' : X.base.get? b = some ob := hb
        rw [(hl b h).bas] at hb'
        cases hb'
      · exact o.noex b ob hb h
    · rcases List.mem_append.mp hb with h | h
      · exact (hl b h).fs
      · exact o.exfs b h
  have ne : ∀ {b : Addr}, b ∉ l ++ X.ex → b ∉ X.ex := fun h z => h (List.mem_append_right _ z)
  have u := I.base
  exact ⟨ok, I.os, I.bare, ⟨fun b o e n hb hx => u.keep b o e n hb (ne hx), fun b o e n hb hx => u.slot b o e n hb (ne hx), fun b o e n hx => u.free b o e n (ne hx), fun b o e hx => u.there b o e (ne hx), u.tups, u.frzs, u.tbls⟩, I.loc, I.cell, I.free, I.freeC, I.pin, I.hok, I.len⟩
theorem Inv.narrow {l : List Addr} (I : Inv (wX X l) pins σ H s) (ok : X.Ok) (hl : ∀ b ∈ l, b ∈ X.ex ∨ X.s₀.heap.get? b = none) : Inv X pins σ H s := by
  have ne : ∀ {b : Addr} {o : Obj}, X.s₀.heap.get? b = some o → b ∉ X.ex → b ∉ l ++ X.ex := fun {b o} e h z => by
    rcases List.mem_append.mp z with z | z
    · rcases hl b z with y | y
      · exact h y
      · rw [y] at e
        cases e
    · exact h z
  have u := I.base
  exact ⟨ok, I.os, I.bare, ⟨fun b o e n hb hx => u.keep b o e n hb (ne e hx), fun b o e n hb hx => u.slot b o e n hb (ne e hx), fun b o e n hx => u.free b o e n (ne e hx), fun b o e hx => u.there b o e (ne e hx), u.tups, u.frzs, u.tbls⟩, I.loc, I.cell, I.free, I.freeC, I.pin, I.hok, I.len⟩
/-- an address that is not alive may be among those that change -/
theorem Inv.exOk (I : Inv X pins σ H s) {b : Addr} (hb : s.heap.get? b = none) (hL : b ≠ X.env.locals) (h0 : X.base.get? b = none) : ExOk X b := by
  have old : b ∈ X.ex ∨ X.s₀.heap.get? b = none := by
    by_cases hx : b ∈ X.ex
    · exact .inl hx
    · cases e : X.s₀.heap.get? b with
      | none => exact .inr rfl
      | some o =>
        obtain ⟨o', e'⟩ := I.base.there b o e hx
        rw [hb] at e'
        cases e'
  refine ⟨old, hL, fun x c e z => ?_, h0, fun z => ?_⟩
  · obtain ⟨v, o, ho, _⟩ := I.cell x c e
    rw [z, hb] at ho
    cases ho
  · obtain ⟨_, o, ho, _⟩ := I.ok.funs.mem z
    rcases old with y | y
    · exact I.ok.exfs b y z
    · rw [y] at ho
      cases ho
theorem Inv.fpW {l : List Addr} (I : Inv X pins σ H s) {b : Addr} (hm : b ∈ l) (x : ExOk X b) (hb : s.heap.get? b = none) : FpOk (wX X l) pins H b := by
  refine ⟨none_of I hb, x.loc, x.fs, .inl (List.mem_append_left _ hm), x.cel, fun p hp z => ?_⟩
  have := (I.pin p hp).1
  rw [z, hb] at this
  cases this
end
end L2
namespace L2
open PySem PySem.Spec PyProof.Rows PySem.W
/-! ### dicts with pairs as keys, as closed judgements -/
section
variable {X : Cx} {o i value : Expr} {pos pos' : Pos} {td ty tv : TE}
end
end L2
namespace L2
open PySem PySem.Spec PyProof.Rows PySem.W
/-! ### sorted([x], key=f) -/
section
variable {X : Cx} {pins : List (Addr × Obj)} {σ : St} {H : Hp} {s : Shared}
end
end L2
namespace L2
open PySem PySem.Spec PyProof.Rows PySem.W
/-! ### range(a, b, -1) -/
section
variable {X : Cx} {tg : Expr}
end
/-! ### reversed(xs) -/
section
variable {X : Cx}
theorem boot_rev : bootBuiltins "reversed" = some (.type "reversed") := by decide +kernel
end
/-! ### list(reversed(xs)) -/
section
variable {prog : Program} {w : World} {A : Around} {E : Value → Shared → Prop} {s : Shared} {r d : Addr}
theorem look_rev_len : typeLookup (.type "list_reverseiterator") "__len__" = pure none := by rw [typeLookup_type, builtinLookup_eq_fast]; kernel_rfl
theorem look_rev_hint : typeLookup (.type "list_reverseiterator") "__length_hint__" = pure (some (.builtin "list_reverseiterator.__length_hint__")) := by rw [typeLookup_type, builtinLookup_eq_fast]; kernel_rfl
theorem hint_rev {Q : Bool → Shared → Prop} (hT : s.TypeIs (.ref r) "list_reverseiterator") (h : Q false s) : wpAny (model prog w) A (Builtin.List.listLengthHint (.ref r)) Q E s := by
  unfold Builtin.List.listLengthHint
  refine wpAny_bind (wpAny_specialOf hT look_rev_len ?_)
  dsimp only
  refine wpAny_ite_split (fun hab => absurd hab (by decide +kernel)) (fun _ => ?_)
  refine wpAny_ite_split (fun hab => absurd hab (by decide +kernel)) (fun _ => ?_)
  refine wpAny_bind (wpAny_specialOf hT look_rev_hint ?_)
  generalize hid : ("list_reverseiterator.__length_hint__" : String) = id0
  wp_delta
  rw [show splitId id0 = some ("list_reverseiterator", "__length_hint__") from by subst hid; decide +kernel]
  subst hid
  refine wpAny_bind (wpAny_isInstance (T := "list_reverseiterator") (b := true) hT (by rw [isSubtype_type]; kernel_rfl) ?_)
  refine wpAny_ite_split (fun hab => absurd hab (by decide)) (fun _ => ?_)
  refine wpAny_ite_split (fun _ => ?_) (fun hab => absurd (by decide +kernel) hab)
  refine wpAny_ite_split (fun hab => absurd hab (by decide +kernel)) (fun _ => ?_)
  exact wpAny_pure h
/-- what a reverse iterator just made gives -/
abbrev RvP (items : Array Value) : Nat → Value → Prop := fun i v => items[items.size - 1 - i]? = some v
abbrev LsOf (xs : Array Value) (c : Nat) : Obj := { cls := .type "list", dict := none, data := .seq xs c, slots := #[] }
theorem ext_rev {R : Result → Shared → Prop} {items : Array Value} {S c0 : Nat} (hh : A.handled = none) (hl : s.heap.IsList d items) (hr : s.heap.IsRevIter r d ((items.size : Int) - 1)) (hne : d ≠ r) (hSr : S ≠ r) (hSd : S ≠ d) (hS : s.heap.get? S = some (LsOf #[] c0))
    (hR : ∀ h' tk acc c, (∀ b o, b ≠ S → b ≠ r → s.heap.get? b = some o → h'.get? b = some o) → h'.get? S = some (LsOf acc c) → ItemsOf (RvP items) acc items.size → R (.ok (.ret .none)) { s with heap := h', toks := tk }) (hn : items.size ≤ sizeLine) :
    wpAny (model prog w) A.in1 (Builtin.List.listExtendWith (.ref S) (.ref r) .none)
      (fun fin s' => match fin with | .done f => R (.ok f) s' | .again c' => c'.quiet = true ∧ codeAny (model prog w) A c' R s') (fun e s' => R (.error e) s') s := by
  have W := Walks.listRev (prog := prog) (w := w) (A := A.in1) hh r d hne items
  have hSf : S ∉ [r, d] := fun z => by
    rcases List.mem_cons.mp z with z | z
    · exact hSr z
    · exact hSd (List.mem_singleton.mp z)
  have st0 : ∀ h : Heap, h.IsRevIter r d ((items.size : Int) - 1) → h.IsList d items → 0 ≤ items.size ∧ h.IsRevIter r d ((items.size : Int) - 1 - ((0 : Nat) : Int)) ∧ h.IsList d items := fun h z1 z2 => ⟨Nat.zero_le _, by rw [show (items.size : Int) - 1 - ((0 : Nat) : Int) = (items.size : Int) - 1 by omega]; exact z1, z2⟩
  have key : ∀ (h : Heap) (c1 tk : Nat), h.IsRevIter r d ((items.size : Int) - 1) → h.IsList d items → (∀ b o, b ≠ S → s.heap.get? b = some o → h.get? b = some o) → h.get? S = some (LsOf #[] c1) →
      codeAny (model prog w) A (.builtin "list.extend.loop" ⟨[.ref S, .ref r, .none], []⟩) R { s with heap := h, toks := tk } := fun h c1 tk z1 z2 hk hS1 => by
    refine codeAny_extend_loopS W.toS hn S hSf .none items.size 0 _ #[] c1 rfl (Nat.zero_le _) (st0 h z1 z2) hS1 (ItemsOf.nil _) fun s' acc c hm hS' hacc => ?_
    rw [Moved.eq_with hm]
    refine hR s'.heap s'.toks acc c (fun b o hb hb2 e => hm.heap b o (fun z => ?_) (hk b o hb e)) hS' hacc
    rcases List.mem_cons.mp z with z | z
    · exact hb z
    · exact hb2 (List.mem_singleton.mp z)
  unfold Builtin.List.listExtendWith
  refine wpAny_bind (wpAny_typeOf (T := "list_reverseiterator") hr.typeIs ?_)
  have n1 : Builtin.List.listSameRef (.ref S) (.ref r) = false := by simp [Builtin.List.listSameRef, hSr]
  have n2 : (Value.type "list_reverseiterator" == Value.type "list") = false := by decide
  have n3 : (Value.type "list_reverseiterator" == Value.type "tuple") = false := by decide
  simp only [n1, n2, n3, Bool.or_false, Bool.false_eq_true, if_false]
  refine wpAny_bind (wpAny_pyIter_revIter hr (wpAny_bind (wpAny_holding (hint_rev hr.typeIs ?_))))
  refine wpAny_ite_split (fun _ => ?_) (fun _ => wpAny_pure ⟨plainId_quiet PySem.F.plain_extend_loop _, key _ c0 _ hr hl (fun b o _ e => e) hS⟩)
  refine wpAny_bind (wpAny_rule (wpAny_bind ?_))
  show wpAny _ _ (updateSeq S (·.push .none) >>= fun _ => updateSeq S (·.pop)) _ _ _
  have hS2 := Heap.get?_update_self (Obj.mapSeq (·.push Value.none)) hS rfl
  refine wpAny_bind (wpAny_updateSeq hS rfl (wpAny_updateSeq (hz := by seq_fits) hS2 rfl ?_))
  have hS3 := Heap.get?_update_self (Obj.mapSeq (·.pop)) hS2 rfl
  have oth : ∀ b o, b ≠ S → s.heap.get? b = some o → ((s.heap.update S (Obj.mapSeq (·.push Value.none))).update S (Obj.mapSeq (·.pop))).get? b = some o := fun b o hb e => (Heap.get?_update_other _ _ hb.symm).trans ((Heap.get?_update_other _ _ hb.symm).trans e)
  exact wpAny_pure ⟨plainId_quiet PySem.F.plain_extend_loop _, key _ _ _ (hr.at fun o e => oth _ o hSr.symm e) (hl.at fun o e => oth _ o hSd.symm e) oth hS3⟩
theorem call_list_rev {Q : Value → Shared → Prop} {items : Array Value} (hh : A.handled = none) (hl : s.heap.IsList d items) (hr : s.heap.IsRevIter r d ((items.size : Int) - 1)) (hne : d ≠ r) (hn : items.size ≤ sizeLine)
    (hQ : ∀ h' tk acc c, (∀ b o, b ≠ r → s.heap.get? b = some o → h'.get? b = some o) → h'.get? s.heap.objs.size = some (LsOf acc c) → ItemsOf (RvP items) acc items.size → Q (.ref s.heap.objs.size) { s with heap := h', toks := tk }) :
    wpAny (model prog w) A (call (.type "list") [.ref r]) Q E s := by
  refine callType_codes (Q₁ := fun obj s1 => obj = .ref s.heap.objs.size ∧ s1 = { s with heap := s.heap.push (LsOf #[] 0) }) PySem.F.called_list (PySem.F.typeCall_list_1 _) PySem.F.entry_list_init (code_list_new _ ⟨rfl, rfl⟩) fun obj s1 z => ?_
  obtain ⟨rfl, rfl⟩ := z
  have hS : (s.heap.push (LsOf #[] 0)).get? s.heap.objs.size = some (LsOf #[] 0) := Heap.get?_push_size _ rfl
  have lr : r < s.heap.objs.size := let ⟨_, ho, _⟩ := hr; Heap.lt_size ho
  have ld : d < s.heap.objs.size := let ⟨_, ho, _⟩ := hl; Heap.lt_size ho
  refine ⟨⟨_, hS, rfl⟩, PySem.F.args_list_init_2 _ _, ?_⟩
  show wpAny _ _ (do let old ← Builtin.List.listItems (.ref s.heap.objs.size); Builtin.List.listUpdate (.ref s.heap.objs.size) (fun _ => #[]); letGo old.toList.reverse; Builtin.List.listExtendWith (.ref s.heap.objs.size) (.ref r) .none) _ _ _
  refine wpAny_bind ?_
  unfold Builtin.List.listItems
  refine wpAny_bind (wpAny_seqItems hS rfl (wpAny_pure ?_))
  show wpAny _ _ (updateSeq s.heap.objs.size (fun _ => #[]) >>= fun _ => letGo (#[] : Array Value).toList.reverse >>= fun _ => Builtin.List.listExtendWith (.ref s.heap.objs.size) (.ref r) .none) _ _ _
  have hS2 := Heap.get?_update_self (Obj.mapSeq (fun _ => (#[] : Array Value))) hS rfl
  have oth : ∀ b o, s.heap.get? b = some o → ((s.heap.push (LsOf #[] 0)).update s.heap.objs.size (Obj.mapSeq (fun _ => (#[] : Array Value)))).get? b = some o := fun b o e => (Heap.get?_update_other _ _ (Nat.ne_of_gt (Heap.lt_size e))).trans (Heap.get?_push_of_some _ e)
  refine wpAny_bind (wpAny_updateSeq hS rfl (wpAny_bind (wpAny_letGo ?_)))
  refine ext_rev (A := A.in1) hh (hl.at fun o e => oth _ o e) (hr.at fun o e => oth _ o e) hne (Nat.ne_of_gt lr) (Nat.ne_of_gt ld) hS2 (fun h' tk acc c hk hS' hacc => ?_) hn
  exact ⟨rfl, hQ h' tk acc c (fun b o hb e => hk b o (Nat.ne_of_lt (Heap.lt_size e)) hb (oth b o e)) hS' hacc⟩
end
section
variable {X : Cx}
/-- list(reversed(e)) -/
def tListRev (K : PySem.W.Frag) (ta : TA) : TE := fun σ H0 Q => ta σ H0 fun vs H => ∃ (l : Addr) (xs : List V), vs = [.ref l] ∧ SqL K H l xs ∧ ∀ p, H p = none → Q (.ref p) (upd H p (.lst xs.reverse))
theorem q_listRev {e : Expr} {ta : TA} {p p2 pos pos2 : Pos} (hc : X.calm = true) (hm : X.mg "list" = none) (hm2 : X.mg "reversed" = none) (ha : QA X [e] ta) (hg : Gl X "list" := by rfl) (hg2 : Gl X "reversed" := by rfl) (hn : noStar e = true := by rfl) :
    QE X (.Call (.Name "list" p) [.Call (.Name "reversed" p2) [e] [] pos2] [] pos) (tListRev X.K ta) := by
  refine ⟨?_⟩
  intro pins s σ H0 Q I h
  refine wpAny_Call_Name_kw (ld_blt I hg hm boot_list (PyProof.Rows.callWith_type1 ?_ (star_cons rfl) (plain_back (by simp))))
  rw [star_cons rfl]
  show wpAny _ _ (spliced ((false, eval (.Call (.Name "reversed" p2) [e] [] pos2) X.env) :: backTo pos (starEach [] X.env))) _ _ s
  refine Calls.spliced_cons ?_
  refine wpAny_Call_Name_kw (ld_blt I hg2 hm2 boot_rev (PyProof.Rows.callWith_type1 (thn (ha.h pos2 pins s σ H0 _ I h) fun us s1 ⟨vs, H1, I1, r1, q1⟩ => ?_) (star_cons hn) (plain_back (by simp))))
  obtain ⟨l, xs, rfl, hx, q⟩ := q1
  obtain ⟨ua, rfl, ra⟩ := vals1 r1
  cases ra
  obtain ⟨its, rv, pl, hz⟩ := I1.list hx
  have hl := rv.length
  refine call_reversed_list pl.isList ?_
  refine Calls.spliced_nil ?_
  have lt : l < s1.heap.objs.size := let ⟨_, ho, _⟩ := pl.isList; Heap.lt_size ho
  have zS : (s1.heap.push (revObj l ((its.toArray.size : Int) - 1))).objs.size = s1.heap.objs.size + 1 := size_push' ..
  refine call_list_rev (s := { s1 with heap := s1.heap.push (revObj l ((its.toArray.size : Int) - 1)) }) (d := l) (r := s1.heap.objs.size) (I1.ok.hd hc) (pl.isList.at fun o e => Heap.get?_push_of_some _ e) ⟨_, Heap.get?_push_size _ rfl, rfl, rfl⟩ (Nat.ne_of_lt lt) (by rw [List.size_toArray, ← hl]; exact hz) fun h' tk acc c hk hS hacc => ?_
  have hS' : h'.get? (s1.heap.objs.size + 1) = some (LsOf acc c) := by rw [← zS]; exact hS
  show EP X pins σ Q (.ref (s1.heap.push (revObj l ((its.toArray.size : Int) - 1))).objs.size) _
  rw [zS]
  have fr : FpOk X pins H1 s1.heap.objs.size := I1.fpOk (Nat.le_refl _) (I1.hok.fresh (Nat.le_refl _))
  have fS : FpOk X pins H1 (s1.heap.objs.size + 1) := I1.fpOk (Nat.le_succ _) (I1.hok.fresh (Nat.le_succ _))
  have km : ∀ b u, b ≠ s1.heap.objs.size → s1.heap.get? b = some u → h'.get? b = some u := fun b u hb g => hk b u hb (Heap.get?_push_of_some _ g)
  have nsL : ∃ m, s1.heap.Ns X.env.locals m ∧ h'.Ns X.env.locals m := by
    obtain ⟨m, hn, _⟩ := I1.loc
    obtain ⟨o, es, ep, ho, rr⟩ := id hn
    exact ⟨m, hn, o, es, ep, km _ _ fr.2.1.symm ho, rr⟩
  have ea : acc.toList = its.reverse := by
    obtain ⟨z1, z2⟩ := hacc
    have z1' : acc.size = its.length := by rw [z1, List.size_toArray]
    refine List.ext_getElem (by rw [Array.length_toList, z1', List.length_reverse]) fun i h1 h2 => ?_
    have hi : i < its.length := by rw [← List.length_reverse]; exact h2
    have z3 : its.toArray[its.toArray.size - 1 - i]? = some acc[i] := z2 i acc[i] (Array.getElem?_eq_getElem (by rw [z1']; exact hi))
    rw [List.size_toArray, List.getElem?_toArray, List.getElem?_eq_getElem (by omega)] at z3
    rw [List.getElem_reverse, Array.getElem_toList]
    exact (Option.some.inj z3).symm
  have new : ObjOk X.prog X.w (upd H1 (s1.heap.objs.size + 1) (.lst xs.reverse)) h' (s1.heap.objs.size + 1) (.lst xs.reverse) := ⟨by rw [List.length_reverse]; exact hz, its.reverse, c, rv.reverse, by rw [← ea, Array.toArray_toList]; exact hS'⟩
  have I4 := Inv.tookF (ch := [s1.heap.objs.size + 1, s1.heap.objs.size]) (a := s1.heap.objs.size + 1) (o := .lst xs.reverse) (t' := tk) I1 (by simp) (fun b hb => by
    simp only [List.mem_cons, List.not_mem_nil, or_false] at hb
    rcases hb with rfl | rfl
    · exact fS
    · exact fr) (fun b u _ hx gg => km b u (fun zz => hx (by simp [zz])) gg) nsL new
  exact ⟨.ref _, _, I4, rfl, q _ fS.1⟩
end
section
variable {X : Cx} {o e : Expr} {to te : TE} {apos cpos : Pos}
end
end L2
namespace L2
open PySem PySem.Spec PyProof.Rows PySem.W
/-! ### x in xs, xs.count(x), of data -/
open Classical in
noncomputable def eqOf (h : Heap) (dx : PyData) (u : Value) : Bool := decide (∃ d as, Reads h u d as ∧ PyData.canLay0 d = true ∧ PyData.eqv d dx = true)
open Classical in
theorem eqOf_is {h : Heap} {dx d : PyData} {u : Value} {as : List Addr} (r : Reads h u d as) (hl : d.canLay0 = true) : eqOf h dx u = PyData.eqv d dx := by
  unfold eqOf
  cases e : PyData.eqv d dx with
  | true => exact decide_eq_true ⟨d, as, r, hl, e⟩
  | false =>
    refine decide_eq_false ?_
    rintro ⟨d', as', r', l', e'⟩
    rw [SeqAt.Reads.unique d d' u as as' hl r r', e'] at e
    cases e
section
variable {P : Program} {w : World} {H : Hp} {h : Heap}
theorem data_reads (ok : HOk P w H h) : ∀ {ds : List PyData} {xs : List V} {us : List Value}, DtAll H ds xs → Vals xs us → PyData.canLayAll0 ds = true → ∀ dx : PyData, us.any (eqOf h dx) = ds.any (fun d => PyData.eqv d dx) ∧ us.countP (eqOf h dx) = ds.countP (fun d => PyData.eqv d dx) ∧ ∀ u ∈ us, ∃ d as, d ∈ ds ∧ Reads h u d as ∧ d.canLay0 = true
  | [], xs, us, hd, r, _, dx => by
    have e : xs = [] := by simpa only [DtAll] using hd
    subst e
    cases r
    exact ⟨rfl, rfl, fun u hu => nomatch hu⟩
  | d :: ds, xs, us, hd, r, hl, dx => by
    have e : ∃ y ys, xs = y :: ys ∧ Dt H d y ∧ DtAll H ds ys := by simpa only [DtAll] using hd
    obtain ⟨y, ys, rfl, h1, h2⟩ := e
    cases r with
    | cons r1 r2 =>
      have hl' : d.canLay0 = true ∧ PyData.canLayAll0 ds = true := by simpa [PyData.canLayAll0] using hl
      obtain ⟨as, q1⟩ := Dt.reads ok d y _ h1 r1
      obtain ⟨i1, i2, i3⟩ := data_reads ok h2 r2 hl'.2 dx
      refine ⟨by rw [List.any_cons, List.any_cons, eqOf_is q1 hl'.1, i1], by rw [List.countP_cons, List.countP_cons, eqOf_is q1 hl'.1, i2], fun u hu => ?_⟩
      rcases List.mem_cons.mp hu with rfl | hu
      · exact ⟨d, as, by simp, q1, hl'.1⟩
      · obtain ⟨d', as', m, z⟩ := i3 u hu
        exact ⟨d', as', by simp [m], z⟩
end
section
variable {X : Cx}
def rInD (K : PySem.W.Frag) (neg : Bool) : R2 := fun x y H Q => ∃ (p : Addr) (xs : List V) (dx : PyData) (ds : List PyData), y = .ref p ∧ SqL K H p xs ∧ Dt H dx x ∧ DtAll H ds xs ∧ SeqAt.shaped dx = true ∧ PyData.canLayAll0 ds = true ∧ Q (.bl (if neg then !(ds.any fun d => PyData.eqv d dx) else ds.any fun d => PyData.eqv d dx)) H
theorem data_eqAt {pins : List (Addr × Obj)} {σ : St} {H : Hp} {s : Shared} {A : Around} {dx : PyData} {x : V} {v : Value} {ds : List PyData} {xs : List V} {us : List Value} (I : Inv X pins σ H s) (hu : A.units + 64 < cLine) (h1 : Dt H dx x) (rx : RelV x v) (h2 : DtAll H ds xs) (r : Vals xs us) (s1 : SeqAt.shaped dx = true) (s2 : PyData.canLayAll0 ds = true) : ∀ u ∈ us, SeqAt.EqAt A s u v (eqOf s.heap dx u) := fun u hu' => by
  obtain ⟨_, _, z⟩ := data_reads I.hok h2 r s2 dx
  obtain ⟨d, as, _, q1, q2⟩ := z u hu'
  obtain ⟨bs, q3⟩ := Dt.reads I.hok dx x v h1 rx
  rw [eqOf_is q1 q2]
  refine SeqAt.eqAt_reads d dx A s u v as bs q1 q3 q2 (SeqAt.canLay_of_shaped s1) ?_
  have d1 := SeqAt.depth_of_shaped s1
  have d2 : min d.depth dx.depth ≤ dx.depth := Nat.min_le_right _ _
  omega
theorem op_notInD (hu : X.A.in1.units + 64 < cLine) : OpR X (compareOp .NotIn) (rInD X.K true) := by
  intro pins s σ H x y v u Q I rx ry h
  obtain ⟨p, xs, dx, ds, rfl, hq, h1, h2, s1, s2, q⟩ := h
  cases ry
  obtain ⟨its, r, pl, hz⟩ := I.list hq
  refine SeqAt.notIn_listAt (eqOf s.heap dx) pl.isList (fun w hw => data_eqAt I hu h1 rx h2 r s1 s2 w (by simpa using hw)) ⟨.bl _, H, I, rfl, ?_⟩
  rw [show its.toArray.any (eqOf s.heap dx) = its.any (eqOf s.heap dx) by simp, (data_reads I.hok h2 r s2 dx).1]
  exact q
theorem o_notInD {k : Nat} (hr : Room k X.A) : QOp X (compareOp .NotIn) (rInD X.K true) := ⟨op_notInD (by have := hr.un; show X.A.units + _ + 64 < _; omega)⟩
end
section
variable {X : Cx} {o e : Expr} {to te : TE} {apos cpos : Pos}
end
end L2
namespace L2
open PySem PySem.Spec PyProof.Rows PySem.W
/-! ### zip(t, u) of two lists of one length, walked to a pair of names -/
def Itzl (K : PySem.W.Frag) (a b : Addr) (xs ys : List V) : It :=
  ⟨fun i H => i < xs.length ∧ SqL K H a xs ∧ SqL K H b ys, fun i H x H' => ∃ T p q, H T = none ∧ xs[i]? = some p ∧ ys[i]? = some q ∧ x = .ref T ∧ H' = upd H T (.tup [p, q]), fun i H => i = xs.length ∧ SqL K H a xs ∧ SqL K H b ys⟩
abbrev zTnL (z u v i1 i2 a b : Addr) : Nat → Heap → Prop := fun i h => IsZip h z u v .none ∧ IsPair h u (.ref i1) (.ref i2) ∧ (∃ p q, IsPair h v p q) ∧ h.IsListIter i1 a i ∧ h.IsListIter i2 b i
theorem turn_zipL {P : Program} {w : World} {K : PySem.W.Frag} {elts : List Expr} {kt : Nat} {tp : Pos} {z u v i1 i2 a b : Addr} {xs ys : List V} (hl : xs.length = ys.length) (D : [z, u, v, i1, i2].Nodup) (ha : ∀ c ∈ [z, u, v, i1, i2], c ≠ a ∧ c ≠ b) :
    Turn P w K (.Tuple elts kt tp) (Itzl K a b xs ys) [z, u, v, i1, i2] z (zTnL z u v i1 i2 a b) := by
  have nd : (z ≠ u ∧ z ≠ v ∧ z ≠ i1 ∧ z ≠ i2) ∧ (u ≠ v ∧ u ≠ i1 ∧ u ≠ i2) ∧ (v ≠ i1 ∧ v ≠ i2) ∧ i1 ≠ i2 := by simpa using D
  obtain ⟨⟨zu, zv, z1, z2⟩, ⟨uv, u1, u2⟩, ⟨v1, v2⟩, i12⟩ := nd
  have az := ha z (by simp)
  have av := ha v (by simp)
  have a1 := ha i1 (by simp)
  have a2 := ha i2 (by simp)
  have ap : ZAp z u v i1 i2 [i1, a] [i2, b] := ⟨zu.symm, zv.symm, uv, u1, u2, v1, v2, z1.symm, z2.symm, i12, by simp [z1, az.1], by simp [z2, az.2], by simp [v1, av.1], by simp [v2, av.2], by simp [i12.symm, a2.1], by simp [i12, a1.2]⟩
  refine ⟨by simp, fun i h st c hc => ?_, fun i h h' st k => ?_, ?_, ?_, fun A i s Q E st h => wpAny_pyIter_zip st.1 h⟩
  · obtain ⟨e1, e2, ⟨p, q, e3⟩, ⟨o4, e4, _, d4⟩, ⟨o5, e5, _, d5⟩⟩ := st
    simp only [List.mem_cons, List.not_mem_nil, or_false] at hc
    rcases hc with rfl | rfl | rfl | rfl | rfl
    · exact ⟨_, e1, fun v z => nomatch z⟩
    · exact ⟨_, e2, fun v z => nomatch z⟩
    · exact ⟨_, e3, fun v z => nomatch z⟩
    · exact ⟨_, e4, fun v z => by rw [d4] at z; cases z⟩
    · exact ⟨_, e5, fun v z => by rw [d5] at z; cases z⟩
  · obtain ⟨e1, e2, ⟨p, q, e3⟩, ⟨o4, e4, r4⟩, ⟨o5, e5, r5⟩⟩ := st
    exact ⟨k z (by simp) _ e1, k u (by simp) _ e2, ⟨p, q, k v (by simp) _ e3⟩, ⟨o4, k i1 (by simp) _ e4, r4⟩, ⟨o5, k i2 (by simp) _ e5, r5⟩⟩
  · intro X hP hw hK hc i pins s σ H E I hf st hg
    subst hP hw hK
    obtain ⟨e1, e2, ⟨p, q, e3⟩, e4, e5⟩ := st
    obtain ⟨hi, hx, hy⟩ := hg
    obtain ⟨its, rx, px, zx⟩ := I.list hx
    obtain ⟨jts, ry, py, zy⟩ := I.list hy
    have lx : i < its.toArray.size := by rw [List.size_toArray, ← rx.length]; exact hi
    have ly : i < jts.toArray.size := by rw [List.size_toArray, ← ry.length, ← hl]; exact hi
    have hh := I.ok.hd hc
    have hT : s.TypeIs (.ref z) "zip" := ⟨_, e1, rfl⟩
    unfold pyNext
    refine wpAny_bind (wpAny_attempt (wpAny_callSpecial?_slot (name := Str.ofString "__next__") hT F.slot_zip_next (wpAny_call_entry F.slot_zip_next hT F.entry_zip_next
      (zip_item (Draws.list (A := X.A.in1) hh i1 a a1.1.symm its.toArray) (Draws.list (A := X.A.in1) hh i2 b a2.2.symm jts.toArray) ap e1 e2 e3 ⟨e4, px.isList⟩ ⟨e5, py.isList⟩ lx ly fun h' tk x y qx qy zz vv s1 s2 pp kp => wpAny_pure ?_) (F.args_zip_next_1 _))))
    refine ⟨_, rfl, wpAny_letOwnedTupleGo_zip (s := { s with heap := h', toks := tk }) zz fun h2 z2' sb => ?_⟩
    obtain ⟨xv, ex⟩ : ∃ xv, xs[i]? = some xv := ⟨xs[i], by simp [hi]⟩
    obtain ⟨yv, ey⟩ : ∃ yv, ys[i]? = some yv := ⟨ys[i]'(by omega), by simp [show i < ys.length by omega]⟩
    obtain ⟨x', gx, rxv⟩ := rx.get ex
    obtain ⟨y', gy, ryv⟩ := ry.get ey
    have qx' : its[i]? = some x := by simpa using qx
    have qy' : jts[i]? = some y := by simpa using qy
    rw [gx] at qx'
    rw [gy] at qy'
    cases qx'
    cases qy'
    have ltz : z < s.heap.objs.size := Heap.lt_size e1
    have kp2 : ∀ c o, c ∉ [z, u, v, i1, i2] → s.heap.get? c = some o → h2.get? c = some o := fun c o hc e => by
      simp only [List.mem_cons, List.not_mem_nil, or_false, not_or] at hc
      exact sb.extBut c o hc.1 (kp c o hc.1 hc.2.2.1 hc.2.2.2.1 hc.2.2.2.2 e)
    have tT : IsTup h2 s.heap.objs.size [x, y].toArray := ⟨_, sb.extBut _ _ (Nat.ne_of_gt ltz) pp, rfl, _, rfl⟩
    refine ⟨.ref s.heap.objs.size, upd H s.heap.objs.size (.tup [xv, yv]), I.turnT (t' := tk) hf kp2 tT (.cons rxv (.cons ryv .nil)) (size63 (Nat.le_of_ble_eq_true rfl)), rfl, ⟨_, xv, yv, I.hok.fresh (Nat.le_refl _), ex, ey, rfl, rfl⟩, ?_, fun c hc => ?_⟩
    · exact ⟨z2', sb.extBut _ _ zu.symm (kp _ _ zu.symm uv u1 u2 e2), ⟨_, _, sb.extBut _ _ zv.symm vv⟩, s1.1.extBut sb.extBut z1.symm, s2.1.extBut sb.extBut z2.symm⟩
    · rw [upd_ne]
      · exact (hf c hc).1
      · obtain ⟨o, eo, _⟩ : ∃ o, s.heap.get? c = some o ∧ True := by
          simp only [List.mem_cons, List.not_mem_nil, or_false] at hc
          rcases hc with rfl | rfl | rfl | rfl | rfl
          · exact ⟨_, e1, trivial⟩
          · exact ⟨_, e2, trivial⟩
          · exact ⟨_, e3, trivial⟩
          · obtain ⟨o, eo, _⟩ := e4
            exact ⟨o, eo, trivial⟩
          · obtain ⟨o, eo, _⟩ := e5
            exact ⟨o, eo, trivial⟩
        exact Nat.ne_of_lt (Heap.lt_size eo)
  · intro X hP hw hK hc i pins s σ H E I hf st hg
    subst hP hw hK
    obtain ⟨e1, e2, ⟨p, q, e3⟩, e4, e5⟩ := st
    obtain ⟨rfl, hx, hy⟩ := hg
    obtain ⟨its, rx, px, zx⟩ := I.list hx
    obtain ⟨jts, ry, py, zy⟩ := I.list hy
    have lx : its.toArray.size = xs.length := by rw [List.size_toArray, ← rx.length]
    have hh := I.ok.hd hc
    have hT : s.TypeIs (.ref z) "zip" := ⟨_, e1, rfl⟩
    unfold pyNext
    refine wpAny_bind (wpAny_attempt (wpAny_callSpecial?_slot (name := Str.ofString "__next__") hT F.slot_zip_next (wpAny_call_entry F.slot_zip_next hT F.entry_zip_next
      (zip_end (Draws.list (A := X.A.in1) hh i1 a a1.1.symm its.toArray) (Draws.list (A := X.A.in1) hh i2 b a2.2.symm jts.toArray) ap e1 e2 e3 ⟨by rw [lx]; exact e4, px.isList⟩ fun h' e kp he => ?_) (F.args_zip_next_1 _))))
    obtain ⟨o, ho, hco⟩ := he
    refine wpAny_bind (wpAny_isInstance (T := "StopIteration") (b := true) ⟨o, ho, hco⟩ isSubtype_stop (wpAny_pure ⟨rfl, ?_⟩))
    exact I.turnM (t' := s.toks) hf fun c ob hc e => by
      simp only [List.mem_cons, List.not_mem_nil, or_false, not_or] at hc
      exact kp c ob hc.1 hc.2.2.1 hc.2.2.2.1 hc.2.2.2.2 e
theorem meets_zipL (l1 l2 : Addr) (xs ys : Array Value) :
    Meets (Builtin.«zip.__new__» ⟨[.type "zip", .ref l1, .ref l2], []⟩) (fun _ R s => s.heap.IsList l1 xs ∧ s.heap.IsList l2 ys ∧
      R (.ok (.ret (.ref ((((s.heap.push { cls := .type "list_iterator", data := .fields #[.ref l1, .int 0 0] }).push { cls := .type "list_iterator", data := .fields #[.ref l2, .int 0 0] }).push { cls := .type "tuple", data := .seq #[.ref s.heap.objs.size, .ref (s.heap.push { cls := .type "list_iterator", data := .fields #[.ref l1, .int 0 0] }).objs.size] }).push { cls := .type "tuple", data := .seq #[.none, .none] }).objs.size)))
        { s with heap := ((((s.heap.push { cls := .type "list_iterator", data := .fields #[.ref l1, .int 0 0] }).push { cls := .type "list_iterator", data := .fields #[.ref l2, .int 0 0] }).push { cls := .type "tuple", data := .seq #[.ref s.heap.objs.size, .ref (s.heap.push { cls := .type "list_iterator", data := .fields #[.ref l1, .int 0 0] }).objs.size] }).push { cls := .type "tuple", data := .seq #[.none, .none] }).push { cls := .type "zip", data := .fields #[.none, .bool false, .bool false, .ref ((s.heap.push { cls := .type "list_iterator", data := .fields #[.ref l1, .int 0 0] }).push { cls := .type "list_iterator", data := .fields #[.ref l2, .int 0 0] }).objs.size, .ref (((s.heap.push { cls := .type "list_iterator", data := .fields #[.ref l1, .int 0 0] }).push { cls := .type "list_iterator", data := .fields #[.ref l2, .int 0 0] }).push { cls := .type "tuple", data := .seq #[.ref s.heap.objs.size, .ref (s.heap.push { cls := .type "list_iterator", data := .fields #[.ref l1, .int 0 0] }).objs.size] }).objs.size] } }) :=
  .of_wp fun prog w A R s h => by
    obtain ⟨hp, g, d, tk, os⟩ := s; obtain ⟨t1, t2, h⟩ := h
    have hsub := sub_zip
    have T1 : Heap.IsList (Shared.heap ⟨hp, g, d, tk, os⟩) l1 xs := t1
    have T2 : Heap.IsList (Shared.heap ⟨hp.push { cls := .type "list_iterator", data := .fields #[.ref l1, .int 0 0] }, g, d, tk, os⟩) l2 ys := Heap.IsList.push t2 _
    wp_walk using wpAny_pyIter_list T1, wpAny_pyIter_list T2
    exact ⟨_, rfl, h⟩
def iZipL (K : PySem.W.Frag) (ta : TA) : TI := fun σ H R => ta σ H fun vs H1 => ∃ a b xs ys, vs = [.ref a, .ref b] ∧ SqL K H1 a xs ∧ SqL K H1 b ys ∧ xs.length = ys.length ∧ R (Itzl K a b xs ys) H1
section
variable {X : Cx}
theorem pi_zipL {e1 e2 : Expr} {ta : TA} {p pos tp : Pos} {elts : List Expr} {kt : Nat} (hg : Gl X "zip") (hm : X.mg "zip" = none) (ha : PA X [e1, e2] ta) (n1 : noStar e1 = true) (n2 : noStar e2 = true) : PI X (.Tuple elts kt tp) (.Call (.Name "zip" p) [e1, e2] [] pos) (iZipL X.K ta) := by
  intro pins s σ H R I h
  refine Call_ (ld_blt I hg hm boot_zip (PyProof.Rows.callWith_type1 (thn (ha pos pins s σ H _ I h) fun us s1 ⟨vs, H1, I1, r1, q1⟩ => ?_) (star_cons n1) (plain_back (by simp [n2]))))
  obtain ⟨a, b, xs, ys, e, hx, hy, hl, q⟩ := q1
  subst e
  obtain ⟨ua, ub, rfl, ra, rb⟩ := vals2 r1
  cases ra
  cases rb
  obtain ⟨its, rx, px, zx⟩ := I1.list hx
  obtain ⟨jts, ry, py, zy⟩ := I1.list hy
  refine callType_new F.called_zip (by decide) (F.typeCall_zip_2 _ _) (F.newCall_zip_2 _ _) (fun obj => F.args_object_init_3 obj _ _) F.entry_zip_new (meets_zipL a b its.toArray jts.toArray) ⟨px.isList, py.isList, ?_⟩
  generalize ea : ({ cls := .type "list_iterator", data := .fields #[.ref a, .int 0 0] } : Obj) = oa
  generalize eb : ({ cls := .type "list_iterator", data := .fields #[.ref b, .int 0 0] } : Obj) = ob
  have z1 : (s1.heap.push oa).objs.size = s1.heap.objs.size + 1 := Heap.size_push ..
  have z2 : ((s1.heap.push oa).push ob).objs.size = s1.heap.objs.size + 2 := by rw [Heap.size_push, z1]
  rw [z2, z1]
  generalize eu : ({ cls := .type "tuple", data := .seq #[.ref s1.heap.objs.size, .ref (s1.heap.objs.size + 1)] } : Obj) = ou
  have z3 : (((s1.heap.push oa).push ob).push ou).objs.size = s1.heap.objs.size + 3 := by rw [Heap.size_push, z2]
  generalize ev : ({ cls := .type "tuple", data := .seq #[.none, .none] } : Obj) = ov
  have z4 : ((((s1.heap.push oa).push ob).push ou).push ov).objs.size = s1.heap.objs.size + 4 := by rw [Heap.size_push, z3]
  rw [z4, z3]
  generalize ez : ({ cls := .type "zip", data := .fields #[.none, .bool false, .bool false, .ref (s1.heap.objs.size + 2), .ref (s1.heap.objs.size + 3)] } : Obj) = oz
  have g5 : (((((s1.heap.push oa).push ob).push ou).push ov).push oz).get? (s1.heap.objs.size + 4) = some oz := by rw [← z4]; exact Heap.get?_push_size _ (by rw [← ez]; rfl)
  have g4 : (((((s1.heap.push oa).push ob).push ou).push ov).push oz).get? (s1.heap.objs.size + 3) = some ov := by rw [← z3]; exact Heap.get?_push_of_some _ (Heap.get?_push_size _ (by rw [← ev]; rfl))
  have g3 : (((((s1.heap.push oa).push ob).push ou).push ov).push oz).get? (s1.heap.objs.size + 2) = some ou := by rw [← z2]; exact Heap.get?_push_of_some _ (Heap.get?_push_of_some _ (Heap.get?_push_size _ (by rw [← eu]; rfl)))
  have g2 : (((((s1.heap.push oa).push ob).push ou).push ov).push oz).get? (s1.heap.objs.size + 1) = some ob := by rw [← z1]; exact Heap.get?_push_of_some _ (Heap.get?_push_of_some _ (Heap.get?_push_of_some _ (Heap.get?_push_size _ (by rw [← eb]; rfl))))
  have g1 : (((((s1.heap.push oa).push ob).push ou).push ov).push oz).get? s1.heap.objs.size = some oa := Heap.get?_push_of_some _ (Heap.get?_push_of_some _ (Heap.get?_push_of_some _ (Heap.get?_push_of_some _ (Heap.get?_push_size _ (by rw [← ea]; rfl)))))
  have kp : ∀ c o, s1.heap.get? c = some o → (((((s1.heap.push oa).push ob).push ou).push ov).push oz).get? c = some o := fun c o e => Heap.get?_push_of_some _ (Heap.get?_push_of_some _ (Heap.get?_push_of_some _ (Heap.get?_push_of_some _ (Heap.get?_push_of_some _ e))))
  generalize ((((s1.heap.push oa).push ob).push ou).push ov).push oz = hN at g1 g2 g3 g4 g5 kp ⊢
  have I2 : Inv X pins σ H1 { s1 with heap := hN } := I1.kept (t' := s1.toks) kp
  have la : a < s1.heap.objs.size := (let ⟨_, ho, _⟩ := px.isList; Heap.lt_size ho)
  have lb : b < s1.heap.objs.size := (let ⟨_, ho, _⟩ := py.isList; Heap.lt_size ho)
  subst ea eb eu ev ez
  have base : ∀ c ∈ [s1.heap.objs.size + 4, s1.heap.objs.size + 2, s1.heap.objs.size + 3, s1.heap.objs.size, s1.heap.objs.size + 1], s1.heap.objs.size ≤ c := fun c hc => by
    simp only [List.mem_cons, List.not_mem_nil, or_false] at hc
    omega
  refine ⟨⟨_, g5, rfl⟩, ?_⟩
  show wpAny (model X.prog X.w) X.A (pyIter (.ref (s1.heap.objs.size + 4))) (PIE X pins σ (.Tuple elts kt tp) R) X.xe { s1 with heap := hN }
  refine wpAny_pyIter_zip g5 ?_
  refine ⟨s1.heap.objs.size + 4, [s1.heap.objs.size + 4, s1.heap.objs.size + 2, s1.heap.objs.size + 3, s1.heap.objs.size, s1.heap.objs.size + 1], zTnL (s1.heap.objs.size + 4) (s1.heap.objs.size + 2) (s1.heap.objs.size + 3) s1.heap.objs.size (s1.heap.objs.size + 1) a b, _, H1, rfl, I2,
    turn_zipL hl ?_ (fun c hc => ⟨Nat.ne_of_gt (Nat.lt_of_lt_of_le la (base c hc)), Nat.ne_of_gt (Nat.lt_of_lt_of_le lb (base c hc))⟩), ⟨g5, g3, ⟨_, _, g4⟩, ⟨_, g1, rfl, rfl⟩, ⟨_, g2, rfl, rfl⟩⟩, fun c hc => ?_, q⟩
  · exact nodup5 s1.heap.objs.size
  · exact I1.fpOk (base c hc) (I1.hok.fresh (base c hc))
theorem i_zipL {e1 e2 : Expr} {ta : TA} {p pos tp : Pos} {elts : List Expr} {kt : Nat} (hm : X.mg "zip" = none) (ha : QA X [e1, e2] ta) (hg : Gl X "zip" := by rfl) (n1 : noStar e1 = true := by rfl) (n2 : noStar e2 = true := by rfl) : QI X (.Tuple elts kt tp) (.Call (.Name "zip" p) [e1, e2] [] pos) (iZipL X.K ta) := ⟨pi_zipL hg hm ha.h n1 n2⟩
end
section
variable {X : Cx}
/-- {k: v, ..} -/
structure QPs (X : Cx) (pos : Pos) (keys : List (Option Expr)) (values : List Expr) (trs : List (TE × TE)) : Prop where
  h : PPs X pos keys values trs
/-- text times number, from nought on -/
theorem o_mulT : QOp X (binaryOp .Mult) (fun x y H Q => ∃ (z : Str) (n : Int), x = .str z ∧ y = .int n ∧ z.length = 1 ∧ 0 ≤ n ∧ n ≤ 1000 ∧ ∀ y : Str, y.length = n.toNat → (∀ c ∈ y.cps.toList, c ∈ z.cps.toList) → Q (.str y) H) := by
  refine ⟨?_⟩
  intro pins s σ H x y v u Q I rx ry h
  obtain ⟨z, n, rfl, rfl, hz, n1, n2, q⟩ := h
  by_cases c : n < 1
  · have e : n = 0 := by omega
    subst e
    obtain ⟨t, rfl⟩ := rx
    obtain ⟨t', rfl⟩ := ry
    exact PySem.P.mul_str_none (by decide) (by decide) ⟨.str Str.empty, H, I.tok _, ⟨_, rfl⟩, q Str.empty rfl fun c hc => nomatch hc⟩
  · exact o_mulS.h pins s σ H _ _ v u Q I rx ry ⟨z, n, rfl, rfl, hz, by omega, n2, q⟩
end
end L2
namespace L2
open PySem PySem.Spec PyProof.Rows PySem.W
/-! ### name = [..] whose own name is a cell; any(xs) of truths -/
section
variable {elt tg iter : Expr} {ifs : List Expr} {pos : Pos} {g : TG} {tc : TT} {te : TE} {Q : VK}
end
section
variable {X : Cx}
end
end L2
namespace L2
open PySem PySem.Spec PyProof.Rows PySem.W
/-! ### own classes: fields, methods, instances, as closed judgements -/
structure MFn (P : Program) (w : World) (K : PySem.W.Frag) (mg : Str → Option Value) (base : Heap) (k : Nat) (C : Addr) (m : Str) (ps : List Str) (sp : Sp) : Prop where
  cl : Cls K C
  ex : ∃ f fd, FnOk P w K mg base CX0 k f fd ps sp ∧ Meth K C m f ∧ Binds K fd ps []
structure MkFn (P : Program) (w : World) (K : PySem.W.Frag) (mg : Str → Option Value) (base : Heap) (k : Nat) (C : Addr) (x : Str) (ps : List Str) (sp : Sp) : Prop where
  cl : Cls K C
  mgC : mg x = some (.ref C)
  ex : ∃ f fd, FnOk P w K mg base CX0 k f fd ps sp ∧ Mk K C f ∧ Binds K fd ps []
section
variable {X : Cx} {k : Nat} {C : Addr} {m x f : Str} {p pos pos' apos : Pos} {o e value : Expr} {es : List Expr} {ps : List Str} {sp : Sp} {t : TA} {ta tv : TE}
end
/-! ### a dict whatever its keys are: its keys walked in their order -/
def DRaw (h : Heap) (d : Addr) (es : Array DictEntry) (ep : Nat) : Prop := ∃ o, h.get? d = some o ∧ o.ExactDict ∧ o.data = .dict es ep
theorem DRaw.type {s : Shared} {d : Addr} {es : Array DictEntry} {ep : Nat} (x : DRaw s.heap d es ep) : s.TypeIs (.ref d) "dict" := let ⟨o, ho, hc, _⟩ := x; ⟨o, ho, hc.1⟩
theorem DRaw.lt {h : Heap} {d : Addr} {es : Array DictEntry} {ep : Nat} (x : DRaw h d es ep) : d < h.objs.size := let ⟨_, ho, _⟩ := x; Heap.lt_size ho
section
variable {prog : Program} {w : World} {A : Around} {E : Value → Shared → Prop} {s : Shared} {d it : Addr} {es : Array DictEntry} {ep i : Nat}
end
section
variable {X : Cx}
end
/-! ### a statement whose ways meet again behind it: what holds there is said once -/
end L2
namespace L2
open PySem PySem.Spec PyProof.Rows PySem.W
/-! ### an exception on its way leaves one more frame -/
section
variable {M : Model} {A : Around} {E : Value → Shared → Prop} {s : Shared} {base : Heap} {env : Env} {outer : List Env} {L e : Addr}
end
section
variable {P : Program} {w : World} {K : PySem.W.Frag} {mg : Str → Option Value} {base : Heap} {N : List Str} {qual : Str} {scope : Scope} {f : Addr} {cd : Value} {A : Around} {outer : List Env} {s : Shared} {H : Hp} {E : XK}
end
end L2
namespace L2
open PySem PySem.Spec PyProof.Rows PySem.W
/-! ### an own exception class, any depth under a built-in one, with an __init__ of its own -/
section
variable {prog : Program} {w : World} {A : Around} {E : Value → Shared → Prop} {h : Heap} {g : Array GenState} {d : Drawn} {t : Nat} {os : OsState}
variable {nm q : Str} {C N : Addr} {bs bm bmB : List Value} {hdct : Bool} {sn : List Str} {sub : List Value} {ab : Bool} {col : Option Bool} {dd : Option Addr} {k0 k1 k2 k3 k5 : Option Value} {B newId initId : String}
end
section
variable {M : Model} {A : Around} {E : Value → Shared → Prop} {env : Env} {K : PySem.W.Frag}
end
end L2
namespace L2
open PySem PySem.Spec PyProof.Rows PySem.W PySem.Builtin PySem.Builtin.ObjectAttr
/-! ### an attribute is stored on an exception that has no dict yet -/
def overVE : List Value → Bool
  | .ref _ :: r => overVE r
  | l => l == VE
/-- what is asked of an own exception class whose __init__ stores something -/
structure ExS (K : PySem.W.Frag) (c : Addr) : Prop where
  sa : findIn K (.ref c) "__setattr__" = some (some (.builtin "object.__setattr__"))
  ov : ((clsIn K c).any fun cd => overVE cd.mro && cd.hasDict) = true
  ob : mroIn K c (.type "object") = some true
section
variable {prog : Program} {w : World} {K : PySem.W.Frag} {A : Around} {R : Result → Shared → Prop} {s : Shared} {x C : Addr}
end
/-! ### a new exception as a thing of the abstract heap: its args at t, its dict -/
section
variable {X : Cx} {pins : List (Addr × Obj)} {σ : St} {H : Hp} {s : Shared} {a c t : Addr} {f : Str} {y : V} {u : Value} {A : Around} {E : Value → Shared → Prop}
end
end L2
namespace L2
open PySem PySem.Spec PyProof.Rows PySem.W
def del (H : Hp) (a : Addr) : Hp := fun b => if b = a then none else H b
section
variable {M : Model} {A : Around} {E : Value → Shared → Prop} {s : Shared} {base : Heap} {env : Env} {outer : List Env} {L e : Addr}
end
section
variable {P : Program} {w : World} {K : PySem.W.Frag} {mg : Str → Option Value} {base : Heap} {N : List Str} {qual : Str} {scope : Scope} {f : Addr} {cd : Value} {A : Around} {outer : List Env} {s : Shared} {H : Hp} {E : XK}
end
end L2
namespace L2
open PySem PySem.Spec PyProof.Rows PySem.W
/-! ### an own exception class with an __init__ of its own, as K has it -/
def excInI (K : PySem.W.Frag) (C fI : Addr) : Bool := match K.lookup C with
  | some ⟨.type "type", _, .cls cd, sl⟩ => (match cd.mro, sl.toList with
    | .ref C' :: bm, [_, _, _, _, some (.builtin n), _] => C' == C && n == "ValueError.__new__" && !cd.hasDel && tailIn K VE bm && nsOkIn K cd.ns && nsIn K cd.ns "__init__" == some (some (.ref fI))
    | _, _ => false)
  | _ => false
structure ExcAtI (K : PySem.W.Frag) (C fI : Addr) (bm : List Value) : Prop where
  isIn : excInI K C fI = true
  mro : ∃ c d cd sl, K.lookup C = some ⟨c, d, .cls cd, sl⟩ ∧ cd.mro = Value.ref C :: bm
  exc : bm.contains (.type "BaseException") = true
  fn : ∃ oI, K.lookup fI = some oI ∧ oI.cls = .type "function"
/-! ### raise C(..), C with an __init__ of its own that never raises -/
structure ExI (P : Program) (w : World) (K : PySem.W.Frag) (mg : Str → Option Value) (base : Heap) (k : Nat) (C : Addr) (bm : List Value) (ps : List Str) (sp : Sp) : Prop where
  ex : ∃ fI fd, ExcAtI K C fI bm ∧ FnOk P w K mg base CX0 k fI fd ps sp ∧ Binds K fd ps []
section
variable {X : Cx} {pins : List (Addr × Obj)} {σ : St} {H : Hp} {s : Shared}
end
section
variable {X : Cx} {EC : Value → Option Addr → Hp → Prop} {C : Addr} {bm : List Value} {k : Nat} {ps : List Str} {sp : Sp} {x : Str} {np cpos pos : Pos} {e : Expr} {es : List Expr} {ta : TA}
end
end L2
namespace L2
open PySem PySem.Spec PyProof.Rows PySem.W
/-! ### methods and defs that raise: called in a def that lets it pass, or in a try -/
structure MFnX (P : Program) (w : World) (K : PySem.W.Frag) (mg : Str → Option Value) (base : Heap) (k : Nat) (C : Addr) (m : Str) (ps : List Str) (sp : Sp) : Prop where
  cl : Cls K C
  ex : ∃ f fd, FnOk P w K mg base (CXr P w) k f fd ps sp ∧ Meth K C m f ∧ Binds K fd ps []
section
variable {X : Cx} {k : Nat} {C : Addr} {m x : Str} {p pos apos : Pos} {o e : Expr} {es : List Expr} {ps : List Str} {sp : Sp} {t : TA} {ta : TE} {E : XK}
end
/-! ### handlers without a name, several of them -/
section
variable {X : Cx}
end
/-! ### a caught exception with what its dict holds -/
section
variable {X : Cx}
end
end L2
namespace L2
open PySem PySem.Spec PyProof.Rows PySem.W
/-! ### isinstance of a caught exception whatever its dict is; what it holds, read -/
section
variable {K : PySem.W.Frag} {prog : Program} {w : World} {A : Around} {E : Value → Shared → Prop} {h : Heap} {g : Array GenState} {d : Drawn} {t : Nat} {os : OsState} {x D : Addr} {ox : Obj} {od : Option Obj}
end
section
variable {X : Cx} {pins : List (Addr × Obj)} {σ : St} {H : Hp} {s : Shared}
end
end L2
namespace L2
open PySem PySem.Spec PyProof.Rows PySem.W
/-! ### an exception aloft in a frame: not flown yet, flying, or held there -/
section
variable {M : Model} {A : Around} {E : Value → Shared → Prop} {s : Shared} {base : Heap} {l : List Env} {L e : Addr}
end
section
variable {X : Cx} {E : XK} {ea : Addr} {s' : Shared} {EE : Value → Shared → Prop}
end
/-! ### out of the frame -/
section
variable {P : Program} {w : World} {K : PySem.W.Frag} {mg : Str → Option Value} {base : Heap} {N : List Str} {qual : Str} {scope : Scope} {f : Addr} {cd : Value} {A : Around} {outer : List Env} {s : Shared} {H : Hp} {E : XK}
end
section
variable {X : Cx} {E : XK}
end
/-! ### statements run under another wish: loops whose body raises -/
section
variable {X : Cx} {E : XK} {st : Stmt} {t : TS}
end
section
variable {X : Cx} {E : XK} {C : Addr} {bm : List Value} {k : Nat} {ps : List Str} {sp : Sp} {x : Str} {np cpos pos : Pos} {e : Expr} {es : List Expr} {ta : TA}
end
end L2
namespace L2
open PySem PySem.Spec PyProof.Rows PySem.W
/-! ### range(a, b, c), c above nought -/
section
variable {X : Cx} {tg : Expr}
end
/-! ### isinstance of any thing and any class -/
end L2
namespace L2
open PySem PySem.Spec PyProof.Rows PySem.W
/-! ### lambda: its object, its code, the table of codes of the def around it -/
def lamFd (qual : Str) (params : Arguments) (body : Expr) (scope : Scope) (cl : List (Str × Addr)) (pm : Value) (c : Addr) (ct : Value) : FuncData := kla_fn "<lambda>" qual params body scope cl pm (.ref c) ct
def lamObj (qual : Str) (params : Arguments) (body : Expr) (scope : Scope) (cl : List (Str × Addr)) (pm : Value) (c : Addr) (ct : Value) : Obj := { cls := .type "function", data := .func (lamFd qual params body scope cl pm c ct) }
def isTh (a : Addr) (o : Obj) : HO := .ext fun h => h.get? a = some o
def isCd (c : Addr) (qual : Str) : HO := .ext fun h => h.CodeRec (.ref c) qual
theorem isTh_ok {P : Program} {w : World} {H : Hp} {h : Heap} {a : Addr} {o : Obj} (e : h.get? a = some o) : ObjOk P w H h a (isTh a o) := ⟨e, ⟨o, e⟩, fun _ _ x k => k _ x⟩
theorem isCd_ok {P : Program} {w : World} {H : Hp} {h : Heap} {c : Addr} {q : Str} (e : h.CodeRec (.ref c) q) : ObjOk P w H h c (isCd c q) := by
  obtain ⟨c', oc, vs, t, e1, e2, e3, e4⟩ := id e
  cases e1
  refine ⟨e, ⟨oc, e2⟩, fun h1 h2 x k => ?_⟩
  obtain ⟨c', oc, vs, t, e1, e2, e3, e4⟩ := id x
  cases e1
  exact ⟨c, oc, vs, t, rfl, k _ e2, e3, e4⟩
/-- the module of the builtins, as base has it -/
def Blt (h : Heap) (mg : Str → Option Value) : Prop := ∃ bm ob, mg "__builtins__" = some (.ref bm) ∧ bm ≠ builtinsNs ∧ h.get? bm = some ob ∧ ob.cls = .type "module" ∧ ob.dict = some builtinsNs ∧ ob.data = .plain
section
variable {X : Cx} {pins : List (Addr × Obj)} {σ : St} {H : Hp} {s : Shared}
theorem Inv.bltAt (I : Inv X pins σ H s) (B : Blt X.base X.mg) {P : Addr} {ps : Array Value} (hP : H P = some (.tbl ps)) : s.heap.BuiltinsAt X.mg P := by
  obtain ⟨bm, ob, b1, b2, b3, b4, b5, b6⟩ := B
  refine ⟨bm, ob, b1, b2, fun z => ?_, fun z => ?_, I.bk _ _ b3, b4, b5, b6⟩
  · obtain ⟨o, es, ep, e, d, _⟩ := I.ok.mod.glob
    rw [← z, b3] at e
    cases e
    rw [d] at b6
    cases b6
  · have := (I.bs _ _ b3).2
    rw [z, hP] at this
    cases this
/-- the table grows, a code and a function are new -/
theorem Inv.grown {h' : Heap} {P c f : Addr} {ps more : Array Value} {oc of' : HO} {t' : Nat} (I : Inv X pins σ H s) (hP : H P = some (.tbl ps)) (k : ∀ b o, b ≠ P → s.heap.get? b = some o → h'.get? b = some o) (hc : s.heap.objs.size ≤ c) (hf : s.heap.objs.size ≤ f) (hcf : c ≠ f)
    (eP : h'.get? P = some { cls := .none, data := .fields (ps ++ more) }) (nc : ∀ H', ObjOk X.prog X.w H' h' c oc) (nf : ∀ H', ObjOk X.prog X.w H' h' f of') :
    H c = none ∧ H f = none ∧ Inv X pins σ (upd (upd (upd H P (.tbl (ps ++ more))) c oc) f of') { s with heap := h', toks := t' } := by
  have c0 := I.hok.fresh hc
  have f0 := I.hok.fresh hf
  have nP : ∀ {b : Addr} {u : HO}, H b = some u → (∀ qs, u ≠ .tbl qs) → b ≠ P := fun {b u} e n z => by
    rw [z, hP] at e
    cases e
    exact n _ rfl
  have up : ∀ {b : Addr}, b ≠ P → b ≠ c → b ≠ f → upd (upd (upd H P (.tbl (ps ++ more))) c oc) f of' b = H b := fun {b} n1 n2 n3 => by rw [upd_ne n3, upd_ne n2, upd_ne n1]
  have old : ∀ {b : Addr} {o : Obj}, s.heap.get? b = some o → b ≠ c ∧ b ≠ f := fun {b o} e => ⟨Nat.ne_of_lt (Nat.lt_of_lt_of_le (Heap.lt_size e) hc), Nat.ne_of_lt (Nat.lt_of_lt_of_le (Heap.lt_size e) hf)⟩
  have pcf : P ≠ c ∧ P ≠ f := by
    have := I.hok P _ hP
    exact old (show s.heap.get? P = some _ from this)
  refine ⟨c0, f0, I.un (t' := t') ⟨fun b o e n _ _ => k b o (fun z => by rw [z, hP] at n; cases n) e, fun b o e n _ _ => ⟨o.slots, k b o (fun z => by rw [z, hP] at n; cases n) e⟩, fun b o e n _ => ?_, fun b o e _ => ?_, fun b xs e => ?_, fun b o u e => ?_, fun b qs e => ?_⟩ fun b u e => ?_⟩
  · rw [up (fun z => by rw [z, hP] at n; cases n) (old e).1 (old e).2]
    exact n
  · by_cases z : b = P
    · exact ⟨_, z ▸ eP⟩
    · exact ⟨o, k b o z e⟩
  · rw [up (nP e fun _ z => nomatch z) (ne_of_none e c0) (ne_of_none e f0)]
    exact e
  · rw [up (nP e fun _ z => nomatch z) (ne_of_none e c0) (ne_of_none e f0)]
    exact e
  · by_cases z : b = P
    · subst z
      rw [hP] at e
      cases e
      exact ⟨more, by rw [upd_ne pcf.2, upd_ne pcf.1, upd_same]⟩
    · exact ⟨#[], by rw [up z (ne_of_none e c0) (ne_of_none e f0), e]; simp⟩
  · by_cases zf : b = f
    · subst zf
      rw [upd_same] at e
      cases e
      exact nf _
    · rw [upd_ne zf] at e
      by_cases zc : b = c
      · subst zc
        rw [upd_same] at e
        cases e
        exact nc _
      · rw [upd_ne zc] at e
        by_cases zP : b = P
        · subst zP
          rw [upd_same] at e
          cases e
          exact eP
        · rw [upd_ne zP] at e
          refine (I.hok b u e).stay (fun b' v hb' q => k b' v (fun z => ?_) q) (fun b' z => by rw [up (nP z fun _ z => nomatch z) (ne_of_none z c0) (ne_of_none z f0)]; exact z) fun b' xs z => by rw [up (nP z fun _ z => nomatch z) (ne_of_none z c0) (ne_of_none z f0)]; exact z
          rcases hb' with rfl | hb'
          · exact zP z
          · rw [z, hP] at hb'
            cases hb'
end
section
variable {X : Cx} {c P : Addr} {params : Arguments} {body : Expr} {scope : Scope} {pos : Pos} {cl : List (Str × Addr)}
end
/-! ### a lambda is called -/
/-! ### sorted(e, key=lambda x: ..) -/
/-- the table of codes at P is as a lambda at pos wants it -/
def LamTab (q : Str) (P : Addr) (pos : Pos) (H : Hp) : Prop := ∃ ps : Array Value, H P = some (.tbl ps) ∧ TriplesOk ps.toList ∧ (codeAmong pos ps.toList = none ∨ ∃ c', codeAmong pos ps.toList = some (.ref c') ∧ H c' = some (isCd c' q))
/-- all stays but the table -/
def SameT (P : Addr) (H H' : Hp) : Prop := ∀ b o, H b = some o → b ≠ P → H' b = some o
theorem SameT.of {P : Addr} {H H' : Hp} (s : Same H H') : SameT P H H' := fun b o e _ => s b o e
theorem SameT.trans {P : Addr} {H H' H2 : Hp} (s : SameT P H H') (t : SameT P H' H2) : SameT P H H2 := fun b o e n => t b o (s b o e n) n
theorem triples_snoc {x y : Int} {c : Value} {a b : Tok} : ∀ l : List Value, TriplesOk l → TriplesOk (l ++ [.int x a, .int y b, c])
  | [], _ => trivial
  | .int _ _ :: .int _ _ :: _ :: rest, h => triples_snoc rest h
/-- the lambda's body -/
structure LamOk (P : Program) (w : World) (K : PySem.W.Frag) (mg : Str → Option Value) (base : Heap) (k : Nat) (qual : Str) (body : Expr) (scope : Scope) (x : Str) (sp : Sp) : Prop where
  ex : ∃ N : List Str, FnScope N [x] scope ∧ (∀ vs H Q E, sp vs H Q E → vs.length = 1) ∧ ∀ (f c' : Addr) (A : Around) (outer : List Env) (s : Shared) (H : Hp) (vs : List V) (Q : VK) (E : XK), Room k (A.deeper (envOfC qual scope s.heap.objs.size f (.ref c'))) → sp vs H Q E →
    ∃ t, QE (cxOf CX0 P w K mg base N qual scope f (.ref c') A outer s H E) body t ∧ t (start N vs) H Q
section
variable {X : Cx} {c P : Addr}
end
end L2
namespace L2
open PySem PySem.Spec PyProof.Rows PySem.W
/-! ### the law's entry, the tables of codes of some defs laid aside -/
/-- at the entry: the script's list, and the tables, which are empty -/
def AtEntry (a : Addr) (tabs : List (Addr × Addr)) (H : Hp) : Prop := ∀ b, H b = none ∨ (b = a ∧ ∃ o xs, H b = some (.frz o (.lst xs))) ∨ ((∃ c, (c, b) ∈ tabs) ∧ H b = some (.tbl #[]))
theorem law_tabs {P : Program} {w : World} {K : PySem.W.Frag} {mg mb : Str → Option Value} {k : Nat} {fa a : Addr} {fd : FuncData} {x : Str} {sp : Sp} {s : Shared} {vs : List Value} {ns : List Int} {tabs : List (Addr × Addr)}
    (kx : K.In s.heap) (gx : s.heap.Ns mainGlobals mg) (bx : s.heap.Ns builtinsNs mb) (bb : ∀ y : Str, y ≠ "__name__" → mb y = bootBuiltins y) (nl : s.heap.NoLimit) (gn : s.gens = #[]) (bl : Blt s.heap mg)
    (tx : ∀ q ∈ tabs, CodeHd s.heap q.1 q.2 ∧ s.heap.get? q.2 = some (tabObj #[])) (nt : noTabs K = true)
    (sa : s.heap.get? a = some { cls := .type "list", data := .seq vs.toArray }) (si : IntsAre vs ns) (sl : ns.length ≤ sizeLine) (hr : Room k callerA)
    (F : ∀ base : Heap, K.In base → base.Ns mainGlobals mg → Blt base mg → (∀ q ∈ tabs, CodeHd base q.1 q.2) → FnOk P w K mg base CX0 k fa fd [x] sp) (bind : ∀ (s : Shared) (u : Value), BindsTo s fd ⟨[u], []⟩ [(x, u)])
    (go : ∀ H : Hp, (∀ q ∈ tabs, H q.2 = some (.tbl #[])) → SqL K H a (ns.map V.int) → sp [.ref a] H (fun v _ => v = .bl true) fun _ _ _ => False) :
    codeAny (model P w) callerA (.call (.ref fa) ⟨[.ref a], []⟩) (fun r s' => r = .ok (.ret (.bool true)) ∧ OldK s.heap s'.heap ∧ s'.os = s.os ∧ AllBare s'.gens) s := by
  have tabNot : ∀ {b : Addr} {c : Addr}, (c, b) ∈ tabs → K.lookup b = none := fun {b c} hm => by
    cases e : K.lookup b with
    | none => rfl
    | some o =>
      have e1 := (kx b o e).symm.trans (tx _ hm).2
      cases e1
      have := List.all_eq_true.mp nt _ (mem_of_lookupK e)
      cases this
  have aNot : ∀ {c : Addr}, ¬ (c, a) ∈ tabs := fun {c} hm => by
    have := (tx _ hm).2
    rw [sa] at this
    cases this
  have main : ∀ H : Hp, AtEntry a tabs H → (∀ q ∈ tabs, H q.2 = some (.tbl #[])) → SqL K H a (ns.map V.int) → HOk P w H s.heap → (H a ≠ none → K.lookup a = none) →
      codeAny (model P w) callerA (.call (.ref fa) ⟨[.ref a], []⟩) (fun r s' => r = .ok (.ret (.bool true)) ∧ OldK s.heap s'.heap ∧ s'.os = s.os ∧ AllBare s'.gens) s := by
    intro H ae ht hS ok ha
    have free : ∀ {b : Addr} {o : Obj}, s.heap.get? b = some o → (∀ n m, o.data ≠ .seq n m) → (∀ n, o.data ≠ .fields n) → H b = none := fun {b o} e n1 n2 => by
      rcases ae b with z | ⟨rfl, _⟩ | ⟨⟨c, hm⟩, _⟩
      · exact z
      · rw [sa] at e
        cases e
        exact absurd rfl (n1 _ _)
      · rw [(tx _ hm).2] at e
        cases e
        exact absurd rfl (n2 _)
    have nsB : ∀ {b : Addr} {m : Str → Option Value}, s.heap.Ns b m → (hidT s.heap H).Ns b m := fun {b m} ⟨o, es, ep, e, d, r⟩ => ⟨o, es, ep, hidT_get e (free e (fun _ _ z => by rw [d] at z; cases z) fun _ z => by rw [d] at z; cases z), d, r⟩
    have kB : K.In (hidT s.heap H) := fun b o e => hidT_get (kx b o e) (by
      rcases ae b with z | ⟨rfl, o', xs, z⟩ | ⟨⟨c, hm⟩, _⟩
      · exact z
      · rw [ha (by rw [z]; simp)] at e
        cases e
      · rw [tabNot hm] at e
        cases e)
    have bB : Blt (hidT s.heap H) mg := by
      obtain ⟨bm, ob, b1, b2, b3, b4, b5, b6⟩ := bl
      exact ⟨bm, ob, b1, b2, hidT_get b3 (free b3 (fun _ _ z => by rw [b6] at z; cases z) fun _ z => by rw [b6] at z; cases z), b4, b5, b6⟩
    have cB : ∀ q ∈ tabs, CodeHd (hidT s.heap H) q.1 q.2 := fun q hq => by
      obtain ⟨o, ws, file, tf, fl, tg, inF, text, tt, c1, c2, c3, c4⟩ := (tx q hq).1
      refine ⟨o, ws, file, tf, fl, tg, inF, text, tt, hidT_get c1 ?_, c2, c3, c4⟩
      rcases ae q.1 with z | ⟨z, _⟩ | ⟨⟨c, hm⟩, _⟩
      · exact z
      · rw [z, sa] at c1
        cases c1
        injection c2 with c2
        exact absurd c2 (by decide)
      · rw [(tx _ hm).2] at c1
        cases c1
        cases c2
    have mB : Mod K mg (hidT s.heap H) := ⟨kB, nsB gx, ⟨mb, nsB bx, bb⟩, let ⟨mc, n1, n2⟩ := nl; ⟨mc, nsB n1, n2⟩⟩
    have env : Env0 P w K mg (hidT s.heap H) callerA [] s H := ⟨rfl, mB, fun b o e => of_hidT e, Nat.le_of_eq (hidT_size _ _), trivial, fun b hb => absurd (show b ∈ ([] : List Addr) from hb) (by simp), ok, .of_eq gn⟩
    refine codeAny_mono ((F _ kB (nsB gx) bB cB).run callerA [] s H ⟨[.ref a], []⟩ [.ref a] [.ref a] _ _ hr env (bind s (.ref a)) (.cons rfl .nil) (go H ht hS)) fun r s' h => ?_
    cases r with
    | error e => exact False.elim h
    | ok fl =>
      cases fl with
      | next => exact False.elim h
      | brk => exact False.elim h
      | cont => exact False.elim h
      | ret u =>
        obtain ⟨v, H', os, bare, un, ok', rv, hv⟩ := h
        obtain rfl : v = .bl true := hv
        obtain rfl : u = Value.bool true := rv
        have each : ∀ b o, s.heap.get? b = some o → asItWas s.heap s'.heap b o ∧ ∃ o', s'.heap.get? b = some o' := fun b o e => by
          rcases ae b with z | ⟨rfl, o', xs, z⟩ | ⟨⟨c, hm⟩, z⟩
          · have := un.keep b o e z (by intro q; exact absurd (show b ∈ ([] : List Addr) from q) (by simp)) (by simp)
            exact ⟨.inl this, _, this⟩
          · obtain ⟨e1, _⟩ := ok b _ z
            obtain ⟨e2, _⟩ := ok' b _ (un.frzs b o' _ z)
            rw [e] at e1
            cases e1
            exact ⟨.inl e2, _, e2⟩
          · obtain ⟨more, z2⟩ := un.tbls b _ z
            have e2 : s'.heap.get? b = some { cls := .none, data := .fields (#[] ++ more) } := ok' b _ z2
            have e1 := (tx _ hm).2
            rw [e] at e1
            cases e1
            exact ⟨.inr (.inl ⟨(((tx _ hm).1).tab e).isCodeTable, rfl, #[], more, rfl, e2⟩), _, e2⟩
        exact ⟨rfl, ⟨fun b o e => (each b o e).1, fun b o e => (each b o e).2⟩, os, bare⟩
  have rv := vals_ints si
  have lv := si.length
  have inT : ∀ b, Decidable (∃ c, (c, b) ∈ tabs) := fun b => Classical.propDecidable _
  cases hk : K.lookup a with
  | some o =>
    have e := kx a o hk
    rw [sa] at e
    cases e
    refine main (fun b => @ite _ (∃ c, (c, b) ∈ tabs) (inT b) (some (.tbl #[])) none) (fun b => ?_) (fun q hq => if_pos ⟨q.1, hq⟩) (.inr ⟨_, vs.toArray, _, hk, rfl, rfl, rfl, by rw [List.size_toArray, lv]; exact sl, by simpa using rv⟩) (fun b u z => ?_) (fun z => absurd (if_neg fun ⟨c, hm⟩ => aNot hm) z)
    · by_cases c : ∃ c, (c, b) ∈ tabs
      · exact .inr (.inr ⟨c, if_pos c⟩)
      · exact .inl (if_neg c)
    · by_cases c : ∃ c, (c, b) ∈ tabs
      · have z' := (if_pos c).symm.trans z
        cases z'
        obtain ⟨c, hm⟩ := c
        exact (tx _ hm).2
      · have z' := (if_neg c).symm.trans z
        cases z'
  | none =>
    refine main (fun b => @ite _ (∃ c, (c, b) ∈ tabs) (inT b) (some (.tbl #[])) (if b = a then some (.frz { cls := .type "list", data := .seq vs.toArray } (.lst (ns.map V.int))) else none)) (fun b => ?_) (fun q hq => if_pos ⟨q.1, hq⟩) (.inl (.inr ⟨{ cls := .type "list", data := .seq vs.toArray }, (if_neg fun ⟨c, hm⟩ => aNot hm).trans (if_pos rfl)⟩)) (fun b u z => ?_) (fun _ => hk)
    · by_cases c : ∃ c, (c, b) ∈ tabs
      · exact .inr (.inr ⟨c, if_pos c⟩)
      · by_cases hb : b = a
        · exact .inr (.inl ⟨hb, _, _, (if_neg c).trans (if_pos hb)⟩)
        · exact .inl ((if_neg c).trans (if_neg hb))
    · by_cases c : ∃ c, (c, b) ∈ tabs
      · have z' := (if_pos c).symm.trans z
        cases z'
        obtain ⟨c, hm⟩ := c
        exact (tx _ hm).2
      · have z' := (if_neg c).symm.trans z
        by_cases hb : b = a
        · rw [if_pos hb] at z'
          cases z'
          subst hb
          exact ⟨sa, by rw [List.length_map]; exact sl, vs, _, rv, sa⟩
        · rw [if_neg hb] at z'
          cases z'
/-- a def whose code is known -/
theorem Fun.okC {P : Program} {w : World} {K : PySem.W.Frag} {mg : Str → Option Value} {base : Heap} {x qual : Str} {st : Stmt} {f c : Addr} {fd : FuncData} {N ps : List Str} {k : Nat} {sp : Sp} (F : Fun K x qual st f fd) (hc : fd.code = .ref c) (S : FnScope N ps (defScope st)) (len : ∀ vs H Q E, sp vs H Q E → vs.length = ps.length)
    (body : ∀ (A : Around) (outer : List Env) (s : Shared) (H : Hp) (vs : List V) (Q : VK) (E : XK), Room k (A.deeper (envOfC qual (defScope st) s.heap.objs.size f (.ref c))) → sp vs H Q E →
      ∃ t, QB (cxOf CX0 P w K mg base N qual (defScope st) f (.ref c) A outer s H E).nox (defBody st) t ∧ t { nx := fun _ H' => Q .non H', rt := Q } (start N vs) H) : FnOk P w K mg base CX0 (k + 1) f fd ps sp := by
  obtain ⟨oc, od, kV, doc, pm, an, cdv, ct, osl, rfl, lk, hcd⟩ := F.ex
  obtain rfl : cdv = .ref c := hc
  refine fn_of lk hcd S len fun A outer s H vs Q E hr hs => ?_
  obtain ⟨t, h, q⟩ := body A outer s H vs Q E hr hs
  exact ⟨t, h.h.nox, q⟩
theorem tab_code {K : PySem.W.Frag} {x : Str} {f c P : Addr} {oc : Value} {od : Option Addr} {fd : FuncData} {sl : Array (Option Value)} (a : nsIn K mainGlobals x = some (some (.ref f))) (l : K.lookup f = some ⟨oc, od, .func fd, sl⟩) (t : tabIn K x = some (c, P)) : fd.code = .ref c := by
  unfold tabIn at t
  rw [a] at t
  dsimp only at t
  rw [l] at t
  dsimp only at t
  split at t
  · rename_i c' e
    rw [e]
    split at t
    · split at t
      · cases t
        rfl
      · cases t
    · cases t
  · cases t
/-- the goal behind the head, some defs' tables laid aside -/
theorem walk_tabs {l : PySem.W.OpenLaw} {n k : Nat} {q : Program} {loose : List Str} {XP : (Str → Option Value) → Heap → Prop} {YP : World → Heap → Prop} {d : DefRec} {K : Params → PySem.W.Frag} {tabs : Params → List (Str × Addr × Addr)} {sp : World → Sp} {x : Str}
    (hn : l.most = some n) (hn2 : n ≤ sizeLine) (hdf : d.params.defaults = []) (hr : Room k callerA) (hY : ∀ (w : World) (h : Heap), YP w h → (K w.params).In h)
    (ht : ∀ (w : World), ∀ t ∈ tabs w.params, tabIn (K w.params) t.1 = some t.2 ∧ ∃ d', (recsOf q).find? (fun e => e.name == t.1) = some d') (nt : ∀ w : World, noTabs (K w.params) = true)
    (F : ∀ (w : World) (mg : Str → Option Value) (fa : Addr) (h : Heap), (K w.params).In h → h.Ns mainGlobals mg → mg d.name = some (.ref fa) →
      ∃ fd : FuncData, (∀ (s : Shared) (u : Value), BindsTo s fd ⟨[u], []⟩ [(x, u)]) ∧
        ∀ base : Heap, (K w.params).In base → base.Ns mainGlobals mg → Blt base mg → (∀ t ∈ tabs w.params, CodeHd base t.2.1 t.2.2) → FnOk l.prog w (K w.params) mg base CX0 k fa fd [x] (sp w))
    (go : ∀ (w : World) (H : Hp) (a : Addr) (ns : List Int), ns.length ≤ n → (∀ t ∈ tabs w.params, H t.2.2 = some (.tbl #[])) → SqL (K w.params) H a (ns.map V.int) → sp w [.ref a] H (fun v _ => v = .bl true) fun _ _ _ => False) :
    PySem.W.WalkO q loose XP YP l.row.toRowW d [] (fun f vs => PySem.call f vs) := by
  refine Att.attach_call hn hdf fun w s₀ s₁ mg mb fa o pm cd doc a vs ns G Y ho hd hcd hmg hobj hints hlen hg => ?_
  have kx := hY w _ Y
  obtain ⟨fd, hb, hF⟩ := F w mg fa _ kx G.T.g hmg
  refine law_tabs (tabs := (tabs w.params).map (·.2)) kx G.T.g G.T.b G.T.builtins G.T.nolimit hg G.T.bmain (fun r hr' => ?_) (nt w) hobj hints (Nat.le_trans hlen hn2) hr (fun base h1 h2 h3 h4 => hF base h1 h2 h3 fun t htm => h4 _ (List.mem_map_of_mem htm)) hb fun H h1 h2 => go w H a ns hlen (fun t htm => h1 _ (List.mem_map_of_mem htm)) h2
  obtain ⟨t, htm, rfl⟩ := List.mem_map.mp hr'
  obtain ⟨e1, d', e2⟩ := ht w t htm
  exact tab_of G.T kx e2 (by rw [e1])
end L2
namespace L2
open PySem PySem.Spec PyProof.Rows PySem.W
/-! ### sorted(xs, key=f, reverse=b): keys that are numbers, texts, or a truth and a number -/
inductive SKey where
  | i (n : Int) | s (t : Str) | bi (b : Bool) (n : Int)
def SKey.nums : SKey → List Int
  | .i n => [n]
  | .s t => t.cps.toList.map Int.ofNat
  | .bi b n => [if b then 1 else 0, n]
def SKey.at (H : Hp) : SKey → V → Prop
  | .i n, v => v = .int n
  | .s t, v => v = .str t
  | .bi b n, v => ∃ a, v = .ref a ∧ H a = some (.tup [.bl b, .int n])
theorem SKey.at.same {H H' : Hp} (sm : Same H H') : ∀ {k : SKey} {v : V}, k.at H v → k.at H' v
  | .i _, _, h => h
  | .s _, _, h => h
  | .bi _ _, _, ⟨a, e, h⟩ => ⟨a, e, sm _ _ h⟩
def Alike (ks : List SKey) : Prop := (∀ k ∈ ks, ∃ n, k = .i n) ∨ (∀ k ∈ ks, ∃ t, k = .s t) ∨ ∀ k ∈ ks, ∃ b n, k = .bi b n
theorem lex_cps : ∀ a b : List Nat, HT.lexLt (a.map Int.ofNat) (b.map Int.ofNat) = decide (a < b)
  | [], [] => rfl
  | [], _ :: _ => (decide_eq_true (List.nil_lt_cons _ _)).symm
  | _ :: _, [] => (decide_eq_false (List.not_lt_nil _)).symm
  | x :: a, y :: b => by
    rw [List.map_cons, List.map_cons, HT.lexLt_cons, lex_cps a b]
    by_cases e : x = y
    · subst e
      rw [if_pos rfl]
      exact decide_eq_decide.mpr (by rw [List.cons_lt_cons_iff]; simp)
    · rw [if_neg (fun z => e (Int.ofNat.inj z))]
      refine decide_eq_decide.mpr ?_
      rw [List.cons_lt_cons_iff]
      constructor
      · intro h
        exact .inl (Int.ofNat_lt.mp h)
      · rintro (h | ⟨h, _⟩)
        · exact Int.ofNat_lt.mpr h
        · exact absurd h e
theorem oneLt_bool {prog : Program} {w : World} {A : Around} {E : Value → Shared → Prop} {s : Shared} {a b : Bool} {Q : Bool → Shared → Prop} (h : Q (!a && b) s) : wpAny (model prog w) A (oneLt' true (.bool a) (.bool b)) Q E s := by
  rw [oneLt'_eq]
  simp only [if_true]
  refine wpAny_bind (wpAny_cRoomFor_byValue rfl ?_)
  refine wpAny_bind (wpAny_callSpecialIfBound?_slot (PySem.typeIs_bool s a) F.slot_bool_lt (wpAny_call_entry F.slot_bool_lt (PySem.typeIs_bool s a) F.entry_int_lt ?_ (F.args_int_lt_2 _ _)))
  cases a <;> cases b <;> exact wpAny_pure ⟨_, rfl, wpAny_truthy_bool h⟩
theorem katlex_bi {prog : Program} {w : World} {A : Around} {s : Shared} {fin : Bool} {Q : Bool → Shared → Prop} {b c : Bool} {n m : Int} {t u : Tok} (hf : fin = false) (q : Q (HT.lexLt (SKey.bi b n).nums (SKey.bi c m).nums) s) : KatLex prog w A true fin Q ([Value.bool b, .int n t].zip [Value.bool c, .int m u]) 0 s := by
  subst hf
  obtain ⟨e, he, iff⟩ := HT.eqAt_int A s n t m u
  refine kat_cons (SeqAt.EqAt.bool_bool b c _ _ _ _ ?_)
  have key : Q (if b = c then decide (n < m) else (!b && c)) s := by
    have e1 : HT.lexLt [n] [m] = decide (n < m) := by
      rw [HT.lexLt_cons, HT.lexLt_nil_nil]
      by_cases z : n = m
      · rw [if_pos z, decide_eq_false (by omega)]
      · rw [if_neg z]
    have e2 : HT.lexLt (SKey.bi b n).nums (SKey.bi c m).nums = if b = c then decide (n < m) else (!b && c) := by
      unfold SKey.nums
      rw [HT.lexLt_cons, e1]
      cases b <;> cases c <;> simp
    rw [e2] at q
    exact q
  refine kat_go (fun et => ?_) (fun ef => ?_)
  · have ebc : b = c := by simpa using et
    rw [if_pos ebc] at key
    refine kat_yes (kat_cons (he _ _ _ _ (kat_go (fun et2 => ?_) (fun ef2 => ?_))))
    · refine kat_yes (kat_nil ?_)
      rw [decide_eq_false (by rw [iff.mp et2]; omega)] at key
      exact key
    · exact kat_no (kat_one _ _ (PyProof.Rows.lt_int key))
  · have ebc : b ≠ c := by
      intro z
      subst z
      simp at ef
    rw [if_neg ebc] at key
    exact kat_no (oneLt_bool key)
section
variable {X : Cx} {pins : List (Addr × Obj)} {σ : St} {H : Hp} {s : Shared} {h' : Heap}
/-- a call of f with one thing, from here, keeps the promise sp -/
def RunsX (X : Cx) (pins : List (Addr × Obj)) (σ : St) (f : Addr) (sp : Sp) : Prop := ∀ (s : Shared) (H : Hp) (u : Value) (v : V) (Q : VK), Inv X pins σ H s → RelV v u → sp [v] H Q E0 → codeAny (model X.prog X.w) X.A.in1.in1 (.call (.ref f) ⟨[u], []⟩) (CR CX0 X.stack X.prog X.w H s Q E0) s
/-- the state between two keys -/
structure SG (X : Cx) (pins : List (Addr × Obj)) (σ : St) (H1 : Hp) (m : Str → Option Value) (kS D : Addr) (e1 : Nat) (ks : List SKey) (as : List V) (us : List Value) (e : Nat) (H : Hp) (s : Shared) : Prop where
  I : Inv X pins σ H s
  sm : Same H1 H
  fk : FpOk X pins H kS
  fd : FpOk X pins H D
  bk : X.base.get? kS = none
  bd : X.base.get? D = none
  hk : s.heap.get? kS = some (seqObj "list" (List.toArray us) e)
  hd : s.heap.get? D = some (seqObj "list" #[] e1)
  ns : s.heap.Ns X.env.locals m
  vals : Vals as us
  keys : ∀ (i : Nat) (a : V) (k : SKey), as[i]? = some a → ks[i]? = some k → k.at H a
theorem SG.fr {H1 : Hp} {m : Str → Option Value} {kS D : Addr} {e1 : Nat} {ks : List SKey} {as : List V} {us : List Value} {e : Nat} (S : SG X pins σ H1 m kS D e1 ks as us e H s) : Fr X.base X.env.locals s.heap m := ⟨S.ns, S.I.bk, Nat.le_trans S.I.ok.bsz S.I.ok.above⟩
theorem sort_keysG {H1 : Hp} {m : Str → Option Value} {kS D : Addr} {e1 : Nat} {ks : List SKey} {xs : List V} {its : List Value} {f : Addr} {sp : Sp} {Fin : List Value → Nat → Shared → Prop} (hne : kS ≠ D) (rv : Vals xs its) (hl : ks.length = xs.length)
    (F : RunsX X pins σ f sp)
    (spec : ∀ (i : Nat) (v : V) (key : SKey) (H' : Hp), xs[i]? = some v → ks[i]? = some key → Same H1 H' → ∀ R : VK, (∀ kv H'', Same H' H'' → key.at H'' kv → R kv H'') → sp [v] H' R E0)
    (fin : ∀ (as : List V) (us : List Value) (e : Nat) (H : Hp) (s : Shared), SG X pins σ H1 m kS D e1 ks as us e H s → as.length = xs.length → Fin us e s) :
    ∀ (r : List Value) (as : List V) (us : List Value) (e : Nat) (H : Hp) (s : Shared), SG X pins σ H1 m kS D e1 ks as us e H s → its = its.take as.length ++ r → as.length + r.length = xs.length →
      KatKeys X.prog X.w X.A.in1.in1 X.base X.env.locals m kS (.ref f) Fin r us e s
  | [], as, us, e, H, s, S, _, hlen => KatKeys.nil (fin as us e H s S (by simpa using hlen))
  | u :: r, as, us, e, H, s, S, hits, hlen => by
    have hi : as.length < xs.length := by rw [List.length_cons] at hlen; omega
    have hx : xs[as.length]? = some xs[as.length] := List.getElem?_eq_getElem hi
    obtain ⟨u', gu, ru⟩ := rv.get hx
    have hlt : as.length < its.length := by rw [← rv.length]; exact hi
    have gu' : its[as.length]? = some u := by
      rw [hits, List.getElem?_append_right (by rw [List.length_take]; omega), List.length_take, Nat.min_eq_left (by omega), Nat.sub_self]
      rfl
    rw [gu'] at gu
    cases gu
    have hkey : ks[as.length]? = some (ks[as.length]'(by omega)) := List.getElem?_eq_getElem (by omega)
    generalize ks[as.length]'(by omega) = key at hkey
    refine KatKeys.cons (wpAny_call (codeAny_mono (F s H u xs[as.length] (fun v H'' => Same H H'' ∧ key.at H'' v) S.I ru (spec _ _ _ H hx hkey S.sm _ fun kv H'' s' q => ⟨s', q⟩)) fun res s' hq => ?_))
    cases res with
    | error e => exact hq
    | ok fl =>
      cases fl with
      | next => exact False.elim hq
      | brk => exact False.elim hq
      | cont => exact False.elim hq
      | ret uv =>
        obtain ⟨v, H'', os, bare, un, hok, rvv, sm, ea⟩ := hq
        obtain ⟨hh, g, d, t, os'⟩ := s'
        obtain rfl : os' = s.os := os
        have I2 : Inv X pins σ H'' { s with heap := hh, gens := g, drawn := d, toks := t } := S.I.call (h' := hh) (g' := g) (d' := d) (t' := t) (ch := []) un hok bare (fun b z => absurd z (by simp))
        have nstk : ∀ {b : Addr}, FpOk X pins H b → b ∉ frs X.stack := fun {b} fo z => (List.mem_cons.mp (S.I.stkSub b z)).elim fo.2.1 fo.2.2.1
        have hk2 : hh.get? kS = some (seqObj "list" (List.toArray us) e) := un.keep kS _ S.hk S.fk.1 (nstk S.fk) (by simp)
        have hd2 : hh.get? D = some (seqObj "list" #[] e1) := un.keep D _ S.hd S.fd.1 (nstk S.fd) (by simp)
        have ns2 : hh.Ns X.env.locals m := by
          obtain ⟨o, es, ep, ho, rr⟩ := id S.ns
          obtain ⟨sl, hL⟩ := un.any ho S.I.free (by simp)
          exact ⟨_, es, ep, hL, rr⟩
        have fk2 : FpOk X pins H'' kS := ⟨un.free kS _ S.hk S.fk.1 (by simp), S.fk.2⟩
        have fd2 : FpOk X pins H'' D := ⟨un.free D _ S.hd S.fd.1 (by simp), S.fd.2⟩
        have hkL : kS ≠ X.env.locals := S.fk.2.1
        refine KatBack.intro (news := (kS, seqObj "list" (List.toArray us) e) :: restBut X.base hh X.env.locals kS) ⟨ns2, I2.bk, Nat.le_trans S.I.ok.bsz S.I.ok.above⟩ (restBut_news hk2 hkL S.bk) (.head restBut_ne) fun h3 c F3 N3 => ?_
        have mv := restBut_keep (fun b o q => I2.bk b o q) F3 N3
        have I3 : Inv X pins σ H'' { s with heap := h3, gens := g, drawn := d, toks := t } := Inv.movedF (ch := [kS]) (t' := t) I2 (fun b hb => by rw [List.mem_singleton.mp hb]; exact fk2) mv ⟨m, ns2, F3.ns⟩
        refine sort_keysG hne rv hl F spec fin r (as ++ [v]) (us ++ [uv]) c H'' _ ⟨I3, S.sm.trans sm, fk2, fd2, S.bk, S.bd, (N3 _ (.head _)).1, mv D _ S.fd.2.1 (fun z => hne (List.mem_singleton.mp z).symm) hd2, F3.ns, S.vals.append (.cons rvv .nil), fun i b key' h1 h2 => ?_⟩ ?_ ?_
        · by_cases hi2 : i < as.length
          · rw [List.getElem?_append_left hi2] at h1
            exact (S.keys i b key' h1 h2).same sm
          · have hi3 := (List.getElem?_eq_some_iff.mp h1).1
            rw [List.length_append, List.length_singleton] at hi3
            have e3 : i = as.length := by omega
            subst e3
            rw [List.getElem?_append_right (Nat.le_refl _), Nat.sub_self] at h1
            cases h1
            rw [hkey] at h2
            cases h2
            exact ea
        · rw [List.length_append, List.length_singleton, List.take_add_one, gu', Option.toList_some, List.append_assoc]
          exact hits
        · rw [List.length_append, List.length_singleton, ← hlen, List.length_cons]
          omega
theorem vals_rev : ∀ (b : Bool) {xs : List V} {us : List Value}, Vals xs us → Vals (katRev b xs) (katRev b us)
  | false, _, _, h => h
  | true, [], [], _ => .nil
  | true, x :: xs, u :: us, .cons r h => by
    show Vals (x :: xs).reverse (u :: us).reverse
    rw [List.reverse_cons, List.reverse_cons]
    exact (vals_rev true h).append (.cons r .nil)
theorem lex_one (n m : Int) : HT.lexLt [n] [m] = decide (n < m) := by
  rw [HT.lexLt_cons, HT.lexLt_nil_nil]
  by_cases z : n = m
  · rw [if_pos z, decide_eq_false (by omega)]
  · rw [if_neg z]
theorem sorted_keyG {b : Bool} {kw : List (Str × Value)} {ks : List SKey} {xs : List V} {f l : Addr} {sp : Sp} {Q : VK} (I : Inv X pins σ H s) (hH : H l = some (.lst xs)) (h2 : 2 ≤ xs.length) (h64 : xs.length < 64) (hl : ks.length = xs.length) (hne : Alike ks) (hs1 : argsOk "sorted" ⟨[.ref l], kw⟩) (hs2 : ∀ x, argsOk "list.sort" ⟨[.ref x], kw⟩) (hs3 : ∀ x, Builtin.«list.sort» ⟨[.ref x], kw⟩ = ksk_tree x (.ref f) b)
    (F : ∀ l, RunsX (wX X l) pins σ f sp)
    (spec : ∀ (i : Nat) (v : V) (key : SKey) (H' : Hp), xs[i]? = some v → ks[i]? = some key → Same H H' → ∀ R : VK, (∀ kv H'', Same H' H'' → key.at H'' kv → R kv H'') → sp [v] H' R E0)
    (q : ∀ (p : Array Nat) (H2 : Hp) (D : Addr), POk xs.length p → LS (fun i j => HT.lexLt ((katRev b (ks.map SKey.nums)).getD i []) ((katRev b (ks.map SKey.nums)).getD j [])) p xs.length → Same H H2 → H2 D = none → Q (.ref D) (upd H2 D (.lst (katRev b (p.toList.map fun i => (katRev b xs).getD i .non))))) :
    wpAny (model X.prog X.w) X.A (call (.builtin "sorted") [.ref l] kw) (EP X pins σ Q) X.xe s := by
  obtain ⟨z, its, n, rv, hlen, e⟩ := I.lstM hH
  obtain ⟨m, F0⟩ := I.fr
  have li : its.length = xs.length := hlen.symm
  refine kat_sortedK (vs := its) (b := b) F0 (restOf_news X.base s.heap X.env.locals) ⟨_, e, rfl, n, rfl⟩ (by omega) (by omega) hs1 hs2 hs3 fun D kS e1 h1 F1 N1 hDk hD => ?_
  have nD := N1 (D, seqObj "list" #[] e1) (.tail _ (.head _))
  have nK := N1 (kS, seqObj "list" #[] 0) (.head _)
  have hds : s.heap.get? D = none := by
    cases g : s.heap.get? D with
    | none => rfl
    | some o => exact absurd (hD (D, o) (restOf_mem g nD.2.1 nD.2.2)) (Nat.lt_irrefl _)
  have hks : s.heap.get? kS = none := by
    cases g : s.heap.get? kS with
    | none => rfl
    | some o => exact absurd (Nat.lt_trans hDk (hD (kS, o) (restOf_mem g nK.2.1 nK.2.2))) (Nat.lt_irrefl _)
  have xk := I.exOk hks nK.2.1 nK.2.2
  have xd := I.exOk hds nD.2.1 nD.2.2
  have hlx : ∀ b ∈ [kS, D], ExOk X b := fun b' hb => by
    simp only [List.mem_cons, List.not_mem_nil, or_false] at hb
    rcases hb with rfl | rfl
    · exact xk
    · exact xd
  have fpk := I.fpW (l := [kS, D]) (by simp) xk hks
  have fpd := I.fpW (l := [kS, D]) (by simp) xd hds
  have mv0 : ∀ b u, b ≠ X.env.locals → b ∉ ([] : List Addr) → s.heap.get? b = some u → h1.get? b = some u := fun b u hL _ g => by
    cases qb : X.base.get? b with
    | none => exact (N1 (b, u) (.tail _ (.tail _ (restOf_mem g hL qb)))).1
    | some o =>
      have e' := I.bk b o qb
      rw [g] at e'
      cases e'
      exact F1.keep b u qb
  have I1 : Inv X pins σ H { s with heap := h1 } := Inv.movedF (ch := []) (t' := s.toks) I (fun b hb => absurd hb (by simp)) mv0 ⟨m, F0.ns, F1.ns⟩
  have I2 := I1.widen hlx
  have hkd : kS ≠ D := Nat.ne_of_gt hDk
  refine sort_keysG (X := wX X [kS, D]) (H1 := H) (D := D) (e1 := e1) (ks := ks) (xs := xs) (its := its) hkd rv hl (F _) spec (fun as us e2 H' s' S la => ?_) its [] [] 0 H { s with heap := h1 } ⟨I2, Same.refl H, fpk, fpd, nK.2.2, nD.2.2, nK.1, nD.1, F1.ns, .nil, fun i a k h => by simp at h⟩ (by simp) (by simpa using li)
  have hN : its.length = xs.length := li
  have lu : us.length = xs.length := by rw [← S.vals.length, la]
  have rvR : Vals (katRev b xs) (katRev b its) := vals_rev b rv
  have lR : (katRev b xs).length = xs.length := kat_len b xs
  have gk : ∀ i, i < xs.length → ∃ (v : V) (u : Value) (k : SKey), RelV v u ∧ (katRev b us).getD i Value.none = u ∧ k ∈ ks ∧ (katRev b (ks.map SKey.nums)).getD i [] = k.nums ∧ k.at H' v := fun i hi => by
    obtain ⟨j, hj, e1⟩ : ∃ j, j < xs.length ∧ ∀ {α : Type} (l : List α), l.length = xs.length → (katRev b l)[i]? = l[j]? := by
      cases b with
      | false => exact ⟨i, hi, fun l _ => rfl⟩
      | true => exact ⟨xs.length - 1 - i, by omega, fun l hl' => by
          show l.reverse[i]? = _
          rw [List.getElem?_reverse (by omega), hl']⟩
    have h1 : as[j]? = some (as[j]'(by omega)) := List.getElem?_eq_getElem (by omega)
    have h2 : ks[j]? = some (ks[j]'(by omega)) := List.getElem?_eq_getElem (by omega)
    obtain ⟨u, gu, ru⟩ := S.vals.get h1
    refine ⟨_, u, _, ru, ?_, List.getElem_mem (show j < ks.length by omega), ?_, S.keys j _ _ h1 h2⟩
    · rw [List.getD_eq_getElem?_getD, e1 us lu, gu]
      rfl
    · rw [List.getD_eq_getElem?_getD, e1 (ks.map SKey.nums) (by rw [List.length_map, hl]), List.getElem?_map, h2]
      rfl
  have go : ∀ κ : SortKind, (∀ (i j : Nat) (C : Bool → Shared → Prop), i < xs.length → j < xs.length → C (HT.lexLt ((katRev b (ks.map SKey.nums)).getD i []) ((katRev b (ks.map SKey.nums)).getD j [])) s' → kas_ask X.prog X.w X.A.in1.in1 κ (katRev b us) i j C s') →
      (kas_sort its.length).kasWp (kas_ask X.prog X.w X.A.in1.in1 κ (katRev b us)) (fun p s3 => KatFin X.base X.env.locals m kS D us e2 e1 (katRev b (p.toList.map fun i => (katRev b its).getD i Value.none)) (fun s4 => EP X pins σ Q (.ref D) s4) s3) s' := fun κ hask => by
    rw [hN]
    refine kas_run (n := xs.length) (lt := fun i j => HT.lexLt ((katRev b (ks.map SKey.nums)).getD i []) ((katRev b (ks.map SKey.nums)).getD j [])) hask (fun p hp hs => ?_) (kin_sort (by omega)) (kw_sort (lex_ok _) (by omega))
    refine KatFin.intro (news := (kS, seqObj "list" (List.toArray us) e2) :: restBut X.base s'.heap X.env.locals kS) S.fr (restBut_news S.hk S.fk.2.1 S.bk) (.head restBut_ne) fun h3 c F3 N3 => ?_
    have mv3 := restBut_keep (fun b' o qb => S.I.bk b' o qb) F3 N3
    have hd3 : h3.get? D = some (seqObj "list" #[] e1) := mv3 D _ S.fd.2.1 (fun zz => hkd (List.mem_singleton.mp zz).symm) S.hd
    refine KasFin.intro (news := (D, seqObj "list" #[] e1) :: restBut X.base h3 X.env.locals D) (s := { s' with heap := h3 }) F3 (restBut_news hd3 S.fd.2.1 S.bd) (.head restBut_ne) fun h4 c4 F4 N4 => ?_
    have mv4 := restBut_keep (fun b' o qb => F3.keep b' o qb) F4 N4
    have hch : ∀ b ∈ [kS, D], FpOk (wX X [kS, D]) pins H' b := fun b' hb => by
      simp only [List.mem_cons, List.not_mem_nil, or_false] at hb
      rcases hb with rfl | rfl
      · exact S.fk
      · exact S.fd
    have mv : ∀ b u, b ≠ X.env.locals → b ∉ [kS, D] → s'.heap.get? b = some u → h4.get? b = some u := fun b' u hL hx g => mv4 b' u hL (fun zz => hx (by rw [List.mem_singleton.mp zz]; simp)) (mv3 b' u hL (fun zz => hx (by rw [List.mem_singleton.mp zz]; simp)) g)
    have pl : ∀ i ∈ p.toList, i < xs.length := fun i hi => by
      have := (hp.mem_iff).mp (Array.mem_toList_iff.mp hi)
      simpa using this
    have vals : ∀ (w : List Nat), (∀ i ∈ w, i < xs.length) → Vals (w.map fun i => (katRev b xs).getD i .non) (w.map fun i => (katRev b its).getD i Value.none) := fun w => by
      induction w with
      | nil => intro _; exact .nil
      | cons i w ih =>
        intro hw
        have hi := hw i List.mem_cons_self
        have hx : (katRev b xs)[i]? = some ((katRev b xs)[i]'(by omega)) := List.getElem?_eq_getElem (by omega)
        obtain ⟨u, gu, ru⟩ := rvR.get hx
        refine .cons ?_ (ih fun j hj => hw j (List.mem_cons_of_mem _ hj))
        show RelV ((katRev b xs).getD i V.non) ((katRev b its).getD i Value.none)
        rw [List.getD_eq_getElem?_getD, List.getD_eq_getElem?_getD, hx, gu]
        exact ru
    have lp : p.toList.length = xs.length := by
      have := hs.1
      simpa using this
    have new : ObjOk X.prog X.w (upd H' D (.lst (katRev b (p.toList.map fun i => (katRev b xs).getD i .non)))) h4 D (.lst (katRev b (p.toList.map fun i => (katRev b xs).getD i .non))) := ⟨by rw [kat_len, List.length_map, lp]; exact size63 (by omega), _, c4, vals_rev b (vals _ pl), (N4 _ (.head _)).1⟩
    have I4 := Inv.tookF (X := wX X [kS, D]) (ch := [kS, D]) (a := D) (o := .lst (katRev b (p.toList.map fun i => (katRev b xs).getD i .non))) (t' := s'.toks) S.I (by simp) hch mv ⟨m, S.ns, F4.ns⟩ new
    exact ⟨.ref D, _, I4.narrow I.ok (fun b' hb => (hlx b' hb).old), rfl, q p H' D hp hs.2 S.sm S.fd.1⟩
  rcases hne with hI | hS | hB
  · refine kas_kind (T := .type "int") (by omega) (fun u hu => ?_) rfl rfl (go _ fun i j C hi hj hC => ?_)
    · obtain ⟨j, hj, rfl⟩ := List.getElem_of_mem hu
      have h1 : as[j]? = some (as[j]'(by omega)) := List.getElem?_eq_getElem (by omega)
      have h2 : ks[j]? = some (ks[j]'(by omega)) := List.getElem?_eq_getElem (by omega)
      obtain ⟨u, gu, ru⟩ := S.vals.get h1
      have ky := S.keys j _ _ h1 h2
      obtain ⟨n', en⟩ := hI _ (List.getElem_mem (show j < ks.length by omega))
      rw [en] at ky
      rw [show as[j]'(by omega) = V.int n' from ky] at ru
      obtain ⟨t, rfl⟩ := ru
      rw [List.getElem?_eq_getElem hj] at gu
      rw [Option.some.inj gu]
      exact .now
    · obtain ⟨v, u, k1, ru, eu, m1, en, at1⟩ := gk i hi
      obtain ⟨v2, u2, k2, ru2, eu2, m2, en2, at2⟩ := gk j hj
      obtain ⟨n1, rfl⟩ := hI _ m1
      obtain ⟨n2, rfl⟩ := hI _ m2
      rw [show v = V.int n1 from at1] at ru
      rw [show v2 = V.int n2 from at2] at ru2
      obtain ⟨t, rfl⟩ := ru
      obtain ⟨t2, rfl⟩ := ru2
      unfold kas_ask
      rw [eu, eu2]
      rw [en, en2] at hC
      refine kat_lt_int ?_
      have e1' : HT.lexLt (SKey.i n1).nums (SKey.i n2).nums = decide (n1 < n2) := lex_one n1 n2
      rw [e1'] at hC
      exact hC
  · refine kas_kind (T := .type "str") (by omega) (fun u hu => ?_) rfl rfl (go _ fun i j C hi hj hC => ?_)
    · obtain ⟨j, hj, rfl⟩ := List.getElem_of_mem hu
      have h1 : as[j]? = some (as[j]'(by omega)) := List.getElem?_eq_getElem (by omega)
      have h2 : ks[j]? = some (ks[j]'(by omega)) := List.getElem?_eq_getElem (by omega)
      obtain ⟨u, gu, ru⟩ := S.vals.get h1
      have ky := S.keys j _ _ h1 h2
      obtain ⟨n', en⟩ := hS _ (List.getElem_mem (show j < ks.length by omega))
      rw [en] at ky
      rw [show as[j]'(by omega) = V.str n' from ky] at ru
      obtain ⟨t, rfl⟩ := ru
      rw [List.getElem?_eq_getElem hj] at gu
      rw [Option.some.inj gu]
      exact .now
    · obtain ⟨v, u, k1, ru, eu, m1, en, at1⟩ := gk i hi
      obtain ⟨v2, u2, k2, ru2, eu2, m2, en2, at2⟩ := gk j hj
      obtain ⟨n1, rfl⟩ := hS _ m1
      obtain ⟨n2, rfl⟩ := hS _ m2
      rw [show v = V.str n1 from at1] at ru
      rw [show v2 = V.str n2 from at2] at ru2
      obtain ⟨t, rfl⟩ := ru
      obtain ⟨t2, rfl⟩ := ru2
      unfold kas_ask
      rw [eu, eu2]
      rw [en, en2] at hC
      refine kas_lt_str ?_
      have e1' : HT.lexLt (SKey.s n1).nums (SKey.s n2).nums = decide (n1.cps.toList < n2.cps.toList) := lex_cps _ _
      rw [e1'] at hC
      exact hC
  · have tups : ∀ (vs : List V) (ws : List Value) (n : Nat), Vals vs ws → n + vs.length = ks.length → (∀ (i : Nat) (v : V) (k : SKey), vs[i]? = some v → ks[n + i]? = some k → k.at H' v) → ∃ fs : List Value, KatTups s'.heap ws fs ∧ fs.length = ws.length ∧ ∀ v ∈ fs, ∃ b, v = .bool b := fun vs => by
      induction vs with
      | nil =>
        intro ws n hv _ _
        cases hv
        exact ⟨[], KatTups.nil, rfl, fun v h => nomatch h⟩
      | cons v vs ih =>
        intro ws n hv hl' h
        cases hv with
        | cons rv1 hv =>
          rw [List.length_cons] at hl'
          have hkn : ks[n]? = some (ks[n]'(by omega)) := List.getElem?_eq_getElem (by omega)
          obtain ⟨b', n', en⟩ := hB _ (List.getElem_mem (show n < ks.length by omega))
          rw [en] at hkn
          obtain ⟨a, rfl, ea⟩ := h 0 v _ rfl (by rw [Nat.add_zero]; exact hkn)
          cases rv1
          obtain ⟨ia, ra, pa, za⟩ := S.I.tuple (SqT.of (K := X.K) ea)
          obtain ⟨oa, eo, ca, n1, da⟩ := id pa
          cases ra with
          | cons r1 ra =>
            cases r1
            obtain ⟨fs, f1, f2, f3⟩ := ih _ (n + 1) hv (by omega) (fun i w k' h1 h2 => h (i + 1) w k' h1 (by rw [show n + (i + 1) = n + 1 + i by omega]; exact h2))
            refine ⟨.bool b' :: fs, KatTups.cons eo ca da rfl f1, by rw [List.length_cons, List.length_cons, f2], fun v hv => ?_⟩
            rcases List.mem_cons.mp hv with rfl | hv
            · exact ⟨_, rfl⟩
            · exact f3 v hv
    obtain ⟨fs, t1, t2, t3⟩ := tups as us 0 S.vals (by omega) (fun i v k h1 h2 => S.keys i v k h1 (by rw [Nat.zero_add] at h2; exact h2))
    refine kat_kind (T := .type "bool") t1 (by omega) (fun v hv => ?_) rfl (go _ fun i j C hi hj hC => ?_)
    · obtain ⟨b', rfl⟩ := t3 v hv
      exact .now
    · obtain ⟨v, u, k1, ru, eu, m1, en, at1⟩ := gk i hi
      obtain ⟨v2, u2, k2, ru2, eu2, m2, en2, at2⟩ := gk j hj
      obtain ⟨b1, n1, rfl⟩ := hB _ m1
      obtain ⟨b2, n2, rfl⟩ := hB _ m2
      obtain ⟨a1, rfl, ha1⟩ := at1
      obtain ⟨a2, rfl, ha2⟩ := at2
      cases ru
      cases ru2
      obtain ⟨ia, ra, pa, za⟩ := S.I.tuple (SqT.of (K := X.K) ha1)
      obtain ⟨ib, rb, pb, zb⟩ := S.I.tuple (SqT.of (K := X.K) ha2)
      obtain ⟨oa, eoa, ca, q1, da⟩ := id pa
      obtain ⟨ob, eob, cb, q2, db⟩ := id pb
      obtain ⟨wa, wb, rfl, ra1, ra2⟩ := vals2 ra
      obtain ⟨wc, wd, rfl, rb1, rb2⟩ := vals2 rb
      cases ra1
      cases rb1
      obtain ⟨t, rfl⟩ := ra2
      obtain ⟨t2, rfl⟩ := rb2
      unfold kas_ask
      rw [eu, eu2]
      rw [en, en2] at hC
      exact kat_lt eoa da eob db (katlex_bi rfl hC)
theorem rev_small {α : Type} {x : Array α} (h : x.size < 2) : x.reverse = x := by
  apply Array.toList_inj.mp
  rw [Array.toList_reverse]
  match x, h with
  | ⟨[]⟩, _ => rfl
  | ⟨[_]⟩, _ => rfl
  | ⟨_ :: _ :: _⟩, h => exact absurd h (by simp)
theorem end_small {M : Model} {A : Around} {E : Value → Shared → Prop} {P : PySem.Fin → Shared → Prop} {s : Shared} {a : Addr} {b : Bool} {items keys : Array Value} {before : Nat} {kS : Value} (h : items.size < 2) (q : wpAny M A (ksk_end a false items before kS keys) P E s) : wpAny M A (ksk_end a b items before kS keys) P E s := by
  cases b with
  | false => exact q
  | true =>
    have z : (keys.zip items).size < 2 := by rw [Array.size_zip]; omega
    have e : ksk_end a true items before kS keys = (rule "list.sort.reverse" >>= fun _ => ksk_end a false items before kS keys) := by
      unfold ksk_end
      simp only [if_true, Bool.false_eq_true, if_false, if_pos h, pure_bind, StateT.run_pure, rev_small z]
      have e2 : ksk_tail a true before kS (SortSt.mk' general' (keys.zip items) #[] 7 none) = ksk_tail a false before kS (SortSt.mk' general' (keys.zip items) #[] 7 none) := by
        unfold ksk_tail
        have e3 : (Array.map (fun x => x.snd) (arrOf (SortSt.mk' general' (keys.zip items) #[] 7 none))).reverse = Array.map (fun x => x.snd) (arrOf (SortSt.mk' general' (keys.zip items) #[] 7 none)) := rev_small (by rw [Array.size_map]; exact z)
        simp only [if_true, Bool.false_eq_true, if_false, e3]
      rw [e2]
    rw [e]
    exact wpAny_bind (wpAny_rule q)
theorem tree_oneG {A : Around} {E : Value → Shared → Prop} {P : PySem.Fin → Shared → Prop} {a : Addr} {f v : Value} {n : Nat} {b : Bool} (ho : s.heap.get? a = some (seqObj "list" #[v] n))
    (h : ∀ (h1 : Heap) (e1 : Nat) (kS : Addr), (∀ b u, b ≠ a → s.heap.get? b = some u → h1.get? b = some u) → h1.get? a = some (seqObj "list" #[] e1) → h1.get? kS = some (seqObj "list" #[] 0) → s.heap.objs.size ≤ kS →
      wpAny (model X.prog X.w) A (call f [v]) (fun k s2 => ∃ e, s2.heap.get? kS = some (seqObj "list" #[] e) ∧ s2.heap.get? a = some (seqObj "list" #[] e1) ∧
        ∀ h3 c, (∀ b u, b ≠ a → b ≠ kS → s2.heap.get? b = some u → h3.get? b = some u) → h3.get? a = some (seqObj "list" #[v] c) → (∃ o, h3.get? kS = some o) → P (.done (.ret .none)) { s2 with heap := h3 }) (fun _ _ => False) { s with heap := h1 }) :
    wpAny (model X.prog X.w) A (ksk_tree a f b) P E s := by
  have u1 := Heap.SameBut.update s.heap a (Obj.mapSeq fun _ => (#[] : Array Value))
  obtain ⟨e1, o1⟩ : ∃ e1, (s.heap.update a (Obj.mapSeq fun _ => (#[] : Array Value))).get? a = some (seqObj "list" #[] e1) := ⟨_, get?_update_seq ho fun _ => #[]⟩
  have zk : ((s.heap.update a (Obj.mapSeq fun _ => (#[] : Array Value))).push (seqObj "tuple" #[v] 0)).objs.size = s.heap.objs.size + 1 := by rw [size_push', Heap.size_update]
  unfold ksk_tree
  refine wpAny_bind (listItems_at ho rfl (wpAny_bind (listUpdate_at ho rfl (wpAny_bind (seqEpoch_at o1 rfl (wpAny_bind (wpAny_newTuple (wpAny_bind (wpAny_newList (wpAny_holding ?_) (Nat.zero_le _))) (size63 (Nat.le_of_ble_eq_true rfl)))))) (size63 (Nat.le_of_ble_eq_true rfl)) (Nat.zero_le _))))
  have la : a < s.heap.objs.size := Heap.lt_size ho
  have key := h (((s.heap.update a (Obj.mapSeq fun _ => (#[] : Array Value))).push (seqObj "tuple" #[v] 0)).push (seqObj "list" #[] 0)) e1 (s.heap.objs.size + 1) (fun b u hb g => Heap.get?_push_of_some _ (Heap.get?_push_of_some _ ((u1.2 b hb).trans g))) (Heap.get?_push_of_some _ (Heap.get?_push_of_some _ o1)) (by rw [← zk]; exact Heap.get?_push_size _ rfl) (Nat.le_succ _)
  show wpAny (model X.prog X.w) A (ksk_rest a f b #[v] e1 (.ref ((s.heap.update a (Obj.mapSeq fun _ => (#[] : Array Value))).push (seqObj "tuple" #[v] 0)).objs.size)) P E { s with heap := ((s.heap.update a (Obj.mapSeq fun _ => (#[] : Array Value))).push (seqObj "tuple" #[v] 0)).push (seqObj "list" #[] 0) }
  rw [zk]
  have hne : s.heap.objs.size + 1 ≠ a := Nat.ne_of_gt (Nat.lt_succ_of_lt la)
  generalize ((s.heap.update a (Obj.mapSeq fun _ => (#[] : Array Value))).push (seqObj "tuple" #[v] 0)).push (seqObj "list" #[] 0) = h1 at key ⊢
  generalize s.heap.objs.size + 1 = kS at key hne ⊢
  unfold ksk_rest
  refine wpAny_bind (wpAny_rule ?_)
  rw [← Array.forIn_toList]
  show wpAny _ _ (forIn [v] PUnit.unit _ >>= _) _ _ _
  rw [List.forIn_cons, bind_assoc]
  refine wpAny_bind ?_
  refine wpAny_bind (wpAny_attempt (wpAny_mono key (fun k s2 hk => ?_) fun _ _ x => x.elim))
  obtain ⟨e, hks, ha2, fin⟩ := hk
  dsimp only
  have v1 := Heap.SameBut.update s2.heap kS (Obj.mapSeq (·.push k))
  obtain ⟨c2, hc2⟩ : ∃ c2, (s2.heap.update kS (Obj.mapSeq (·.push k))).get? kS = some (seqObj "list" #[k] c2) := ⟨_, get?_update_seq hks (·.push k)⟩
  have ha3 := (v1.2 a hne.symm).trans ha2
  refine wpAny_bind (listUpdate_at hks rfl (wpAny_pure ?_) (Nat.zero_le _) (Nat.le_succ_of_le (size63 (Nat.le_of_ble_eq_true rfl))))
  dsimp only
  rw [List.forIn_nil, pure_bind]
  refine wpAny_bind (listItems_at hc2 rfl ?_)
  refine end_small (Nat.le_of_ble_eq_true rfl) ?_
  unfold ksk_end ksk_tail
  have h2 : (#[v] : Array Value).size < 2 := Nat.le_of_ble_eq_true rfl
  have v2 := Heap.SameBut.update (s2.heap.update kS (Obj.mapSeq (·.push k))) kS (Obj.mapSeq fun _ => (#[] : Array Value))
  have ha4 := (v2.2 a hne.symm).trans ha3
  obtain ⟨c3, hc3⟩ : ∃ c3, ((s2.heap.update kS (Obj.mapSeq (·.push k))).update kS (Obj.mapSeq fun _ => (#[] : Array Value))).get? kS = some (seqObj "list" #[] c3) := ⟨_, get?_update_seq hc2 fun _ => #[]⟩
  have v3 := Heap.SameBut.update ((s2.heap.update kS (Obj.mapSeq (·.push k))).update kS (Obj.mapSeq fun _ => (#[] : Array Value))) a (Obj.mapSeq fun _ => (#[v] : Array Value))
  obtain ⟨c4, hc4⟩ : ∃ c4, (((s2.heap.update kS (Obj.mapSeq (·.push k))).update kS (Obj.mapSeq fun _ => (#[] : Array Value))).update a (Obj.mapSeq fun _ => (#[v] : Array Value))).get? a = some (seqObj "list" #[v] c4) := ⟨_, get?_update_seq ha4 fun _ => #[v]⟩
  have ez : (#[k] : Array Value).zip #[v] = #[(k, v)] := by
    apply Array.toList_inj.mp
    rw [Array.toList_zip]
    rfl
  simp only [ez, Bool.false_eq_true, if_false]
  rw [if_pos h2, if_pos h2]
  refine wpAny_bind (wpAny_pure ?_)
  rw [StateT.run_pure]
  refine wpAny_bind (wpAny_pure ?_)
  dsimp only
  have em : Array.map (fun x => x.snd) (arrOf (SortSt.mk' general' #[(k, v)] #[] 7 none)) = #[v] := by
    show Array.map (fun x : Value × Value => x.2) #[(k, v)] = _
    simp
  rw [em]
  refine wpAny_bind (listUpdate_at hc2 rfl (wpAny_bind (wpAny_letGo (wpAny_bind (seqEpoch_at ha4 rfl (wpAny_bind (listUpdate_at ha4 rfl ?_ (Nat.zero_le _) (Nat.le_succ_of_le (size63 (Nat.le_of_ble_eq_true rfl))))))))) (size63 (Nat.le_of_ble_eq_true rfl)) (Nat.zero_le _))
  simp only [bne_self_eq_false, Bool.false_eq_true, if_false]
  refine wpAny_pure (fin _ c4 (fun b u h1 h2 g => (v3.2 b h1).trans ((v2.2 b h2).trans ((v1.2 b h2).trans g))) hc4 ⟨_, (v3.2 kS hne).trans hc3⟩)
theorem sorted_oneG {b : Bool} {kw : List (Str × Value)} {xv : V} {f l : Addr} {sp : Sp} {Q : VK} (I : Inv X pins σ H s) (hH : H l = some (.lst [xv])) (hs1 : argsOk "sorted" ⟨[.ref l], kw⟩) (hs2 : ∀ x, argsOk "list.sort" ⟨[.ref x], kw⟩) (hs3 : ∀ x, Builtin.«list.sort» ⟨[.ref x], kw⟩ = ksk_tree x (.ref f) b) (F : ∀ l, RunsX (wX X l) pins σ f sp)
    (spec : ∀ H', Same H H' → ∀ R : VK, (∀ v H'', Same H' H'' → R v H'') → sp [xv] H' R E0) (q : ∀ (H2 : Hp) (D : Addr), Same H H2 → H2 D = none → Q (.ref D) (upd H2 D (.lst [xv]))) :
    wpAny (model X.prog X.w) X.A (call (.builtin "sorted") [.ref l] kw) (EP X pins σ Q) X.xe s := by
  obtain ⟨z, its, n, rv, hlen, e⟩ := I.lstM hH
  obtain ⟨v, rfl, rvv⟩ := vals1 rv
  refine call_function_entry_kw kind_sorted plain_sorted entry_sorted hs1 ?_
  unfold Builtin.«sorted»
  refine wpAny_bind (m := checkCount "sorted" 1 1 _) (wpAny_pure (wpAny_bind (collect_list ⟨_, e, rfl, n, rfl⟩ (wpAny_bind (wpAny_newList ?_ (size63 (Nat.le_of_ble_eq_true rfl)))) (size63 (Nat.le_of_ble_eq_true rfl)))))
  have z1 : ((s.heap.push (seqObj "list" #[] 0)).update s.heap.objs.size (Obj.mapSeq (· ++ [v].toArray))).objs.size = s.heap.objs.size + 1 := by rw [Heap.size_update, size_push']
  have g1 : (((s.heap.push (seqObj "list" #[] 0)).update s.heap.objs.size (Obj.mapSeq (· ++ [v].toArray))).push (seqObj "list" #[v] 0)).get? (s.heap.objs.size + 1) = some (seqObj "list" #[v] 0) := by
    rw [← z1]
    exact Heap.get?_push_size _ rfl
  have kp : ∀ b o, s.heap.get? b = some o → (((s.heap.push (seqObj "list" #[] 0)).update s.heap.objs.size (Obj.mapSeq (· ++ [v].toArray))).push (seqObj "list" #[v] 0)).get? b = some o := fun b o g => by
    have lt := Heap.lt_size g
    rw [Heap.get?_push_ne _ _ _ (by rw [z1]; exact Nat.ne_of_lt (Nat.lt_succ_of_lt lt)), Heap.get?_update_ne _ _ _ _ (Nat.ne_of_lt lt), Heap.get?_push_ne _ _ _ (Nat.ne_of_lt lt)]
    exact g
  have zA : (((s.heap.push (seqObj "list" #[] 0)).update s.heap.objs.size (Obj.mapSeq (· ++ [v].toArray))).push (seqObj "list" #[v] 0)).objs.size = s.heap.objs.size + 2 := by rw [size_push', z1]
  show wpAny _ _ _ _ _ { s with heap := ((s.heap.push (seqObj "list" #[] 0)).update s.heap.objs.size (Obj.mapSeq (· ++ [v].toArray))).push (seqObj "list" #[v] 0) }
  rw [z1]
  generalize (((s.heap.push (seqObj "list" #[] 0)).update s.heap.objs.size (Obj.mapSeq (· ++ [v].toArray))).push (seqObj "list" #[v] 0)) = hA at g1 kp zA ⊢
  refine wpAny_bind (wpAny_holding (wpAny_call_entry_kw slot_list_sort ⟨_, g1, rfl⟩ entry_list_sort ?body (hs2 _)))
  case body =>
    show wpAny (model X.prog X.w) X.A.in1.in1 (Builtin.«list.sort» ⟨[.ref (s.heap.objs.size + 1)], _⟩) _ _ _
    rw [hs3]
    refine tree_oneG (s := { s with heap := hA }) g1 fun h1 e1 kS k1 ha hk hz => ?_
    have lz : s.heap.objs.size + 2 ≤ kS := by rw [← zA]; exact hz
    have nka : kS ≠ s.heap.objs.size + 1 := Nat.ne_of_gt lz
    have da : s.heap.get? (s.heap.objs.size + 1) = none := Heap.get?_none_of_le (Nat.le_succ _)
    have dk : s.heap.get? kS = none := Heap.get?_none_of_le (Nat.le_trans (Nat.le_add_right _ 2) lz)
    have fa : FpOk X pins H (s.heap.objs.size + 1) := I.fpOk (Nat.le_succ _) (none_of I da)
    have fk : FpOk X pins H kS := I.fpOk (Nat.le_trans (Nat.le_add_right _ 2) lz) (none_of I dk)
    have IA : Inv X pins σ H { s with heap := h1 } := I.kept (t' := s.toks) fun b o g => k1 b o (fun zz => by rw [zz, da] at g; cases g) (kp b o g)
    refine wpAny_call (codeAny_mono (F [] { s with heap := h1 } H v xv (fun _ H'' => Same H H'') IA rvv (spec H (Same.refl H) _ fun v H'' s' => s')) fun res s' hq => ?_)
    cases res with
    | error e => exact hq
    | ok fl =>
      cases fl with
      | next => exact False.elim hq
      | brk => exact False.elim hq
      | cont => exact False.elim hq
      | ret uv =>
        obtain ⟨v', H'', os, bare, un, hok, _, sm⟩ := hq
        obtain ⟨hh, g, d, t, os'⟩ := s'
        obtain rfl : os' = s.os := os
        have I2 : Inv X pins σ H'' { s with heap := hh, gens := g, drawn := d, toks := t } := Inv.call (s := { s with heap := h1 }) (h' := hh) (g' := g) (d' := d) (t' := t) (ch := []) IA un hok bare (fun b zz => absurd zz (by simp))
        have nstk : ∀ {b : Addr}, FpOk X pins H b → b ∉ frs X.stack := fun {b} fo zz => (List.mem_cons.mp (I.stkSub b zz)).elim fo.2.1 fo.2.2.1
        have hk2 := un.keep kS _ hk fk.1 (nstk fk) (by simp)
        have ha2 := un.keep _ _ ha fa.1 (nstk fa) (by simp)
        have fk2 : FpOk X pins H'' kS := ⟨un.free kS _ hk fk.1 (by simp), fk.2⟩
        have fa2 : FpOk X pins H'' (s.heap.objs.size + 1) := ⟨un.free _ _ ha fa.1 (by simp), fa.2⟩
        refine ⟨_, hk2, ha2, fun h3 c m3 a3 _ => ⟨_, rfl, wpAny_pure ⟨_, rfl, ?_⟩⟩⟩
        have hL : X.env.locals ≠ s.heap.objs.size + 1 ∧ X.env.locals ≠ kS := ⟨fa.2.1.symm, fk.2.1.symm⟩
        have nsL : ∃ m, hh.Ns X.env.locals m ∧ h3.Ns X.env.locals m := by
          obtain ⟨m, hn, _⟩ := I2.loc
          obtain ⟨o, es, ep, ho, rr⟩ := id hn
          exact ⟨m, hn, o, es, ep, m3 _ _ hL.1 hL.2 ho, rr⟩
        have new : ObjOk X.prog X.w (upd H'' (s.heap.objs.size + 1) (.lst [xv])) h3 (s.heap.objs.size + 1) (.lst [xv]) := ⟨size63 (Nat.le_of_ble_eq_true rfl), [v], c, .cons rvv .nil, a3⟩
        have I4 := Inv.tookF (ch := [s.heap.objs.size + 1, kS]) (a := s.heap.objs.size + 1) (o := .lst [xv]) (t' := t) I2 (by simp) (fun b hb => by
          simp only [List.mem_cons, List.not_mem_nil, or_false] at hb
          rcases hb with rfl | rfl
          · exact fa2
          · exact fk2) (fun b u _ hx gg => m3 b u (fun zz => hx (by simp [zz])) (fun zz => hx (by simp [zz])) gg) nsL new
        exact ⟨.ref _, _, I4, rfl, q H'' _ sm fa2.1⟩
theorem tree_zeroG {A : Around} {E : Value → Shared → Prop} {P : PySem.Fin → Shared → Prop} {a : Addr} {f : Value} {n : Nat} {b : Bool} (ho : s.heap.get? a = some (seqObj "list" #[] n))
    (h : ∀ (h3 : Heap) (c : Nat), (∀ b u, b ≠ a → s.heap.get? b = some u → h3.get? b = some u) → h3.get? a = some (seqObj "list" #[] c) → P (.done (.ret .none)) { s with heap := h3 }) :
    wpAny (model X.prog X.w) A (ksk_tree a f b) P E s := by
  have u1 := Heap.SameBut.update s.heap a (Obj.mapSeq fun _ => (#[] : Array Value))
  obtain ⟨e1, o1⟩ : ∃ e1, (s.heap.update a (Obj.mapSeq fun _ => (#[] : Array Value))).get? a = some (seqObj "list" #[] e1) := ⟨_, get?_update_seq ho fun _ => #[]⟩
  have zk : ((s.heap.update a (Obj.mapSeq fun _ => (#[] : Array Value))).push (seqObj "tuple" #[] 0)).objs.size = s.heap.objs.size + 1 := by rw [size_push', Heap.size_update]
  unfold ksk_tree
  refine wpAny_bind (listItems_at ho rfl (wpAny_bind (listUpdate_at ho rfl (wpAny_bind (seqEpoch_at o1 rfl (wpAny_bind (wpAny_newTuple (wpAny_bind (wpAny_newList (wpAny_holding ?_) (Nat.zero_le _))) (size63 (Nat.le_of_ble_eq_true rfl)))))) (size63 (Nat.le_of_ble_eq_true rfl)) (Nat.zero_le _))))
  have la : a < s.heap.objs.size := Heap.lt_size ho
  have hk1 : (((s.heap.update a (Obj.mapSeq fun _ => (#[] : Array Value))).push (seqObj "tuple" #[] 0)).push (seqObj "list" #[] 0)).get? (s.heap.objs.size + 1) = some (seqObj "list" #[] 0) := by rw [← zk]; exact Heap.get?_push_size _ rfl
  have kp : ∀ b u, b ≠ a → s.heap.get? b = some u → (((s.heap.update a (Obj.mapSeq fun _ => (#[] : Array Value))).push (seqObj "tuple" #[] 0)).push (seqObj "list" #[] 0)).get? b = some u := fun b u hb g => Heap.get?_push_of_some _ (Heap.get?_push_of_some _ ((u1.2 b hb).trans g))
  have ha1 : (((s.heap.update a (Obj.mapSeq fun _ => (#[] : Array Value))).push (seqObj "tuple" #[] 0)).push (seqObj "list" #[] 0)).get? a = some (seqObj "list" #[] e1) := Heap.get?_push_of_some _ (Heap.get?_push_of_some _ o1)
  show wpAny (model X.prog X.w) A (ksk_rest a f b #[] e1 (.ref ((s.heap.update a (Obj.mapSeq fun _ => (#[] : Array Value))).push (seqObj "tuple" #[] 0)).objs.size)) P E { s with heap := ((s.heap.update a (Obj.mapSeq fun _ => (#[] : Array Value))).push (seqObj "tuple" #[] 0)).push (seqObj "list" #[] 0) }
  rw [zk]
  have hne : s.heap.objs.size + 1 ≠ a := Nat.ne_of_gt (Nat.lt_succ_of_lt la)
  have old : ∀ b u, s.heap.get? b = some u → b ≠ s.heap.objs.size + 1 := fun b u g => Nat.ne_of_lt (Nat.lt_succ_of_lt (Heap.lt_size g))
  generalize ((s.heap.update a (Obj.mapSeq fun _ => (#[] : Array Value))).push (seqObj "tuple" #[] 0)).push (seqObj "list" #[] 0) = h1 at hk1 kp ha1 ⊢
  generalize s.heap.objs.size + 1 = kS at hk1 hne old ⊢
  unfold ksk_rest
  refine wpAny_bind (wpAny_rule ?_)
  rw [← Array.forIn_toList]
  show wpAny _ _ (forIn [] PUnit.unit _ >>= _) _ _ _
  rw [List.forIn_nil, pure_bind]
  refine wpAny_bind (listItems_at hk1 rfl ?_)
  refine end_small (Nat.le_of_ble_eq_true rfl) ?_
  unfold ksk_end ksk_tail
  have h2 : (#[] : Array Value).size < 2 := Nat.le_of_ble_eq_true rfl
  have v2 := Heap.SameBut.update h1 kS (Obj.mapSeq fun _ => (#[] : Array Value))
  have ha4 := (v2.2 a hne.symm).trans ha1
  have v3 := Heap.SameBut.update (h1.update kS (Obj.mapSeq fun _ => (#[] : Array Value))) a (Obj.mapSeq fun _ => (#[] : Array Value))
  obtain ⟨c4, hc4⟩ : ∃ c4, ((h1.update kS (Obj.mapSeq fun _ => (#[] : Array Value))).update a (Obj.mapSeq fun _ => (#[] : Array Value))).get? a = some (seqObj "list" #[] c4) := ⟨_, get?_update_seq ha4 fun _ => #[]⟩
  have ez : (#[] : Array Value).zip (#[] : Array Value) = #[] := by simp
  simp only [ez, Bool.false_eq_true, if_false]
  rw [if_pos h2, if_pos h2]
  refine wpAny_bind (wpAny_pure ?_)
  rw [StateT.run_pure]
  refine wpAny_bind (wpAny_pure ?_)
  dsimp only
  have em : Array.map (fun x => x.snd) (arrOf (SortSt.mk' general' #[] #[] 7 none)) = #[] := by
    show Array.map (fun x : Value × Value => x.2) #[] = _
    simp
  rw [em]
  refine wpAny_bind (listUpdate_at hk1 rfl (wpAny_bind (wpAny_letGo (wpAny_bind (seqEpoch_at ha4 rfl (wpAny_bind (listUpdate_at ha4 rfl ?_ (Nat.zero_le _) (Nat.zero_le _))))))) (Nat.zero_le _) (Nat.zero_le _))
  simp only [bne_self_eq_false, Bool.false_eq_true, if_false]
  exact wpAny_pure (h _ c4 (fun b u hb g => (v3.2 b hb).trans ((v2.2 b (old b u g)).trans (kp b u hb g))) hc4)
theorem sorted_zeroG {b : Bool} {kw : List (Str × Value)} {f l : Addr} {Q : VK} (I : Inv X pins σ H s) (hH : H l = some (.lst [])) (hs1 : argsOk "sorted" ⟨[.ref l], kw⟩) (hs2 : ∀ x, argsOk "list.sort" ⟨[.ref x], kw⟩) (hs3 : ∀ x, Builtin.«list.sort» ⟨[.ref x], kw⟩ = ksk_tree x (.ref f) b) (q : ∀ D : Addr, H D = none → Q (.ref D) (upd H D (.lst []))) :
    wpAny (model X.prog X.w) X.A (call (.builtin "sorted") [.ref l] kw) (EP X pins σ Q) X.xe s := by
  obtain ⟨z, its, n, rv, hlen, e⟩ := I.lstM hH
  cases rv
  refine call_function_entry_kw kind_sorted plain_sorted entry_sorted hs1 ?_
  unfold Builtin.«sorted»
  refine wpAny_bind (m := checkCount "sorted" 1 1 _) (wpAny_pure (wpAny_bind (collect_list ⟨_, e, rfl, n, rfl⟩ (wpAny_bind (wpAny_newList ?_ (Nat.zero_le _))) (Nat.zero_le _))))
  have z1 : ((s.heap.push (seqObj "list" #[] 0)).update s.heap.objs.size (Obj.mapSeq (· ++ ([] : List Value).toArray))).objs.size = s.heap.objs.size + 1 := by rw [Heap.size_update, size_push']
  have g1 : (((s.heap.push (seqObj "list" #[] 0)).update s.heap.objs.size (Obj.mapSeq (· ++ ([] : List Value).toArray))).push (seqObj "list" #[] 0)).get? (s.heap.objs.size + 1) = some (seqObj "list" #[] 0) := by
    rw [← z1]
    exact Heap.get?_push_size _ rfl
  have kp : ∀ b o, s.heap.get? b = some o → (((s.heap.push (seqObj "list" #[] 0)).update s.heap.objs.size (Obj.mapSeq (· ++ ([] : List Value).toArray))).push (seqObj "list" #[] 0)).get? b = some o := fun b o g => by
    have lt := Heap.lt_size g
    rw [Heap.get?_push_ne _ _ _ (by rw [z1]; exact Nat.ne_of_lt (Nat.lt_succ_of_lt lt)), Heap.get?_update_ne _ _ _ _ (Nat.ne_of_lt lt), Heap.get?_push_ne _ _ _ (Nat.ne_of_lt lt)]
    exact g
  show wpAny _ _ _ _ _ { s with heap := ((s.heap.push (seqObj "list" #[] 0)).update s.heap.objs.size (Obj.mapSeq (· ++ ([] : List Value).toArray))).push (seqObj "list" #[] 0) }
  rw [z1]
  generalize (((s.heap.push (seqObj "list" #[] 0)).update s.heap.objs.size (Obj.mapSeq (· ++ ([] : List Value).toArray))).push (seqObj "list" #[] 0)) = hA at g1 kp ⊢
  refine wpAny_bind (wpAny_holding (wpAny_call_entry_kw slot_list_sort ⟨_, g1, rfl⟩ entry_list_sort ?body (hs2 _)))
  case body =>
    show wpAny (model X.prog X.w) X.A.in1.in1 (Builtin.«list.sort» ⟨[.ref (s.heap.objs.size + 1)], _⟩) _ _ _
    rw [hs3]
    refine tree_zeroG (X := X) (s := { s with heap := hA }) g1 fun h3 c k3 a3 => ⟨_, rfl, wpAny_pure ⟨_, rfl, ?_⟩⟩
    have da : s.heap.get? (s.heap.objs.size + 1) = none := Heap.get?_none_of_le (Nat.le_succ _)
    exact ⟨.ref _, _, I.laid (t' := s.toks) (o := .lst []) (fun b o g => k3 b o (fun zz => by rw [zz, da] at g; cases g) (kp b o g)) (Nat.le_succ _) ⟨Nat.zero_le _, [], c, .nil, a3⟩, rfl, q _ (none_of I da)⟩
end
end L2
namespace L2
open PySem PySem.Spec PyProof.Rows PySem.W
/-! ### a lambda that reads a name of the def around it -/
structure LamScope (x y : Str) (sc : Scope) : Prop where
  kind : sc.kind = .function
  co : sc.isCoroutine = false
  gen : sc.isGenerator = false
  lx : sc.names.lookup x = some .local
  ly : sc.names.lookup y = some .free
  nc : ∀ z ∈ sc.names, z.2 ≠ .cell
  nf : ∀ z ∈ sc.names, z.2 = .free → z.1 = y
  ne : x ≠ y
def cxX (CX : CXT) (P : Program) (w : World) (K : PySem.W.Frag) (mg : Str → Option Value) (base : Heap) (N : List Str) (qual : Str) (scope : Scope) (f : Addr) (cd : Value) (cl : List (Str × Addr)) (A : Around) (outer : List Env) (s : Shared) (H : Hp) (E : XK) : Cx where
  prog := P
  w := w
  K := K
  mg := mg
  base := base
  A := A.deeper (envX qual scope s.heap.objs.size f cd cl)
  N := N
  s₀ := s
  H₀ := H
  env := envX qual scope s.heap.objs.size f cd cl
  outer := outer
  stack := envX qual scope s.heap.objs.size f cd cl :: outer
  ex := []
  calm := true
  fn := fun _ => false
  pn := []
  xe := fun e s' => wpAny (model P w) (A.deeper (envX qual scope s.heap.objs.size f cd cl)) (leaving (envX qual scope s.heap.objs.size f cd cl) e) (fun _ s'' => CX outer H s E e s'') (fun e' s'' => CX outer H s E e' s'') s'
theorem inv_startX {CX : CXT} {P : Program} {w : World} {K : PySem.W.Frag} {mg : Str → Option Value} {base : Heap} {x y : Str} {qual : Str} {scope : Scope} {f c : Addr} {cd : Value} {A : Around} {outer : List Env} {s : Shared} {H : Hp} {E : XK} {u ku : Value} {v kv : V} {h1 : Heap} {tk : Nat}
    (S : LamScope x y scope) (hd : A.handled = none) (e0 : Env0 P w K mg base A outer s H) (r : RelV v u) (kr : RelV kv ku) (hc : s.heap.IsCell c (some ku)) (fc : H c = none)
    (hns : h1.Ns s.heap.objs.size fun z => [(x, u)].reverse.lookup z) (hk : ∀ b o, s.heap.get? b = some o → h1.get? b = some o) :
    Inv (cxX CX P w K mg base [x, y] qual scope f cd [(y, c)] A outer s H E) [] [some v, some kv] H { s with heap := h1, toks := tk } := by
  have noA : ∀ b : Addr, b ∉ (cxX CX P w K mg base [x, y] qual scope f cd [(y, c)] A outer s H E).ex := fun b z => absurd (show b ∈ ([] : List Addr) from z) (by simp)
  have lk : ∀ {z : Str} {d : Addr}, ([(y, c)] : List (Str × Addr)).lookup z = some d → z = y ∧ d = c := fun {z d} h => by
    rw [List.lookup_cons] at h
    split at h
    · rename_i e
      cases h
      exact ⟨by simpa using e, rfl⟩
    · cases h
  have ly : ([(y, c)] : List (Str × Addr)).lookup y = some c := by simp
  have cell1 : h1.IsCell c (some ku) := by
    obtain ⟨o, a1, a2⟩ := hc
    exact ⟨o, hk _ _ a1, a2⟩
  refine ⟨⟨e0.mod, S.kind, rfl, rfl, Nat.le_refl _, fun z z' d q1 q2 => ?_, fun z hz => ?_, fun z d q _ => (nomatch q), fun _ => hd, Around.frames_deeper e0.frames, .inr ⟨rfl, rfl⟩, fun b z => absurd z (noA b), e0.bs, e0.bsz, fun b _ _ => noA b, fun b z => absurd z (noA b), e0.funs, e0.frf⟩,
    rfl, e0.bare, Un.kept hk, ⟨_, hns, fun i z v' q1 q2 q3 => ?_⟩, fun z d q => ⟨some ku, by rw [(lk q).2]; exact cell1⟩, e0.hok.fresh (Nat.le_refl _), fun z d q => by rw [(lk q).2]; exact fc, fun p hp => absurd (show p ∈ ([] : List (Addr × Obj)) from hp) (by simp), e0.hok.kept hk, rfl⟩
  · exact (lk q1).1.trans (lk q2).1.symm
  · have hz : scope.names.lookup z = some .cell ∨ scope.names.lookup z = some .free := hz
    rcases hz with hz | hz
    · exact absurd rfl (S.nc _ (PySem.mem_of_lookup hz))
    · exact ⟨c, by rw [show z = y from S.nf _ (PySem.mem_of_lookup hz) rfl]; exact ly⟩
  · match i, q1, q2 with
    | 0, q1, q2 =>
      cases q1
      cases q2
      exact ⟨u, r, .inl ⟨S.lx, by simp⟩⟩
    | 1, q1, q2 =>
      cases q1
      cases q2
      exact ⟨ku, kr, .inr ⟨.inr S.ly, c, ly, cell1⟩⟩
    | i + 2, q1, _ => simp [cxX] at q1
section
variable {X : Cx} {pins : List (Addr × Obj)} {σ : St}
theorem lam_runs {k j : Nat} {x y qual : Str} {params : Arguments} {body : Expr} {scope : Scope} {f c c' : Addr} {pm ct : Value} {kv : V} {sp : Sp} (S : LamScope x y scope) (hi : X.N[j]? = some y) (hσ : σ[j]? = some (some kv)) (hyc : X.env.scope.names.lookup y = some .cell) (hcy : X.env.cells.lookup y = some c) (hr : Room (k + 1) X.A.in1.in1)
    (hbd : ∀ (s : Shared) (u : Value), BindsTo s (lamFd qual params body scope [(y, c)] pm c' ct) ⟨[u], []⟩ [(x, u)])
    (hbody : ∀ (A : Around) (outer : List Env) (s : Shared) (H : Hp) (v : V) (Q : VK), Room k (A.deeper (envX qual scope s.heap.objs.size f (.ref c') [(y, c)])) → sp [v] H Q E0 →
      ∃ t, PE (cxX CX0 X.prog X.w X.K X.mg X.base [x, y] qual scope f (.ref c') [(y, c)] A outer s H E0) body t ∧ t [some v, some kv] H Q) :
    ∀ l, RunsX (wX X l) pins σ f (fun vs H Q E => H f = some (isTh f (lamObj qual params body scope [(y, c)] pm c' ct)) ∧ H c' = some (isCd c' qual) ∧ sp vs H Q E) := by
  intro l s H u v Q I ru ⟨hf, hc, hsp⟩
  have e0 : Env0 X.prog X.w X.K X.mg X.base X.A.in1.in1 X.stack s H := by
    have e0 := I.env0
    exact ⟨e0.frames, e0.mod, e0.bs, e0.bsz, e0.funs, e0.frf, e0.hok, e0.bare⟩
  have lim : s.heap.NoLimit := e0.mod.nolimit.keeps fun b o e => (e0.bs b o e).1
  have of1 := (e0.hok f _ hf).1
  have oc1 := (e0.hok c' _ hc).1
  obtain ⟨m, _, look⟩ := I.loc
  obtain ⟨ku, kr, lk⟩ := look j y kv hi hσ (.inr (.inl hyc))
  have cell : s.heap.IsCell c (some ku) := by
    rcases lk with ⟨z, _⟩ | ⟨_, d, e1, e2⟩
    · have z' : X.env.scope.names.lookup y = some .local := z
      rw [hyc] at z'
      cases z'
    · have e1' : X.env.cells.lookup y = some d := e1
      rw [hcy] at e1'
      cases e1'
      exact e2
  have fc : H c = none := I.freeC y c hcy
  refine kla_callFunE hr.depth of1 rfl S.co S.gen rfl oc1 (hbd s u _ _ _ _ ?_)
  refine wpAny_newFunctionEnv S.nc (fun z hz => ?_) (fun h1 hns hsb => ⟨lim.keeps ?_, kla_codeExpr ?_⟩) S.kind
  · rw [List.mem_singleton.mp hz]
    exact S.lx
  all_goals have hk : ∀ b o, s.heap.get? b = some o → h1.get? b = some o := fun b o e => hsb.extBut b o (Nat.ne_of_lt (Heap.lt_size e)) (Heap.get?_push_of_some _ e)
  · exact hk
  · obtain ⟨t, ht, hq⟩ := hbody X.A.in1.in1 X.stack s H v Q (hr.deeper _) hsp
    have I2 := inv_startX (CX := CX0) (qual := qual) (f := f) (cd := .ref c') (E := E0) (tk := s.toks + 1) S hr.hd e0 ru kr cell fc hns hk
    refine wpAny_mono (ht [] _ _ H _ I2 hq) (fun u s' ⟨v, H', J, rv, q⟩ => ?_) fun e s' hs => hs
    exact ⟨v, H', J.os, J.bare, J.base, J.hok, rv, q⟩
end
end L2
namespace L2
open PySem PySem.Spec PyProof.Rows PySem.W
section
variable {X : Cx} {c P : Addr} {params : Arguments} {body : Expr} {scope : Scope} {pos : Pos} {cl : List (Str × Addr)}
/-- a lambda is made: its code is in the table, or is put there -/
def tLamC (cl : List (Str × Addr)) (X : Cx) (P : Addr) (params : Arguments) (body : Expr) (scope : Scope) (pos : Pos) : TE := fun _ H Q => ∃ ps : Array Value, H P = some (.tbl ps) ∧ TriplesOk ps.toList ∧
  ((∃ c', codeAmong pos ps.toList = some (.ref c') ∧ H c' = some (isCd c' (X.env.qual ++ "<lambda>")) ∧ ∀ f ct, H f = none → Q (.ref f) (upd H f (isTh f (lamObj (X.env.qual ++ "<lambda>") params body scope cl ((X.mg "__name__").getD .none) c' ct)))) ∨
   (codeAmong pos ps.toList = none ∧ ∀ f c' ct, H f = none → H c' = none → c' ≠ f → Q (.ref f) (upd (upd (upd H P (.tbl (ps ++ #[rawInt pos.line, rawInt pos.col, .ref c']))) c' (isCd c' (X.env.qual ++ "<lambda>"))) f (isTh f (lamObj (X.env.qual ++ "<lambda>") params body scope cl ((X.mg "__name__").getD .none) c' ct)))))
theorem pe_lamC (hcode : X.env.code = .ref c) (hge : X.env.globals = mainGlobals) (C : CodeHd X.base c P) (B : Blt X.base X.mg) (hdef : defaultsOf params X.env = ([], [])) (hcl : closureFor scope X.env = pure cl) : PE X (.Lambda params body scope pos) (tLamC cl X P params body scope pos) := by
  intro pins s σ H Q I h
  obtain ⟨ps, hP, ht, hh⟩ := h
  have oP : s.heap.get? P = some (tabObj ps) := I.hok P _ hP
  have hg : s.heap.Ns mainGlobals X.mg := I.ok.mod.glob.keeps I.bk
  have hb := I.bltAt B hP
  refine kla_eval hdef ?_
  rcases hh with ⟨c', hf, hc', q⟩ | ⟨hnf, q⟩
  · refine kla_makeFunctionHit hcl hge hg hcode (C.keeps I.bk) oP ht hf hb fun ct h' tk kp hsz => ?_
    have hn := I.hok.fresh hsz
    exact ⟨.ref _, _, I.laid (t' := tk) (fun b o e => Heap.get?_push_of_some _ (kp b o e)) hsz (isTh_ok (Heap.get?_push_size _ rfl)), rfl, q _ ct hn⟩
  · have hgP : mainGlobals ≠ P := fun z => by
      obtain ⟨o, es, ep, e, d, _⟩ := hg
      rw [z, oP] at e
      cases e
      cases d
    refine kla_makeFunction hcl hge hg hcode (C.keeps I.bk) oP ht hnf hgP hb fun c' ct h' tk hx hge' hlt hrec htb => ?_
    have hnF : c' ≠ h'.objs.size := Nat.ne_of_lt hlt
    obtain ⟨i1, i2, i3⟩ := I.grown (t' := tk) (c := c') (f := h'.objs.size) (h' := h'.push (lamObj (X.env.qual ++ "<lambda>") params body scope cl ((X.mg "__name__").getD .none) c' ct)) (oc := isCd c' (X.env.qual ++ "<lambda>")) (of' := isTh h'.objs.size (lamObj (X.env.qual ++ "<lambda>") params body scope cl ((X.mg "__name__").getD .none) c' ct)) hP
      (fun b o hb' e => Heap.get?_push_of_some _ (hx b o hb' e)) hge' (Nat.le_trans hge' (Nat.le_of_lt hlt)) hnF (Heap.get?_push_of_some _ htb) (fun _ => isCd_ok (by
        obtain ⟨c₂, oc, vs, t, e1, e2, e3, e4⟩ := hrec
        exact ⟨c₂, oc, vs, t, e1, Heap.get?_push_of_some _ e2, e3, e4⟩)) (fun _ => isTh_ok (Heap.get?_push_size _ rfl))
    exact ⟨.ref _, _, i3, rfl, q _ c' ct i2 i1 hnF⟩
/-- the lambda's body, the name around it read -/
structure LamOkX (P : Program) (w : World) (K : PySem.W.Frag) (mg : Str → Option Value) (base : Heap) (k : Nat) (qual : Str) (body : Expr) (scope : Scope) (x y : Str) (sp : V → Sp) : Prop where
  sc : LamScope x y scope
  ex : ∀ (f c' c : Addr) (kv : V) (A : Around) (outer : List Env) (s : Shared) (H : Hp) (v : V) (Q : VK), Room k (A.deeper (envX qual scope s.heap.objs.size f (.ref c') [(y, c)])) → sp kv [v] H Q E0 →
    ∃ t, QE (cxX CX0 P w K mg base [x, y] qual scope f (.ref c') [(y, c)] A outer s H E0) body t ∧ t [some v, some kv] H Q
def tSortC (b : Bool) (P : Addr) (q : Str) (lpos : Pos) (j : Nat) (sp : V → Sp) (ta : TA) : TE := fun σ H0 Q => ta σ H0 fun vs H => ∃ (l : Addr) (xs : List V) (ks : List SKey) (kv : V), vs = [.ref l] ∧ σ[j]? = some (some kv) ∧ H l = some (.lst xs) ∧ xs.length < 64 ∧ ks.length = xs.length ∧ Alike ks ∧ LamTab q P lpos H ∧
  (∀ (i : Nat) (v : V) (key : SKey) (H' : Hp), xs[i]? = some v → ks[i]? = some key → SameT P H H' → ∀ R : VK, (∀ kv H'', Same H' H'' → key.at H'' kv → R kv H'') → sp kv [v] H' R E0) ∧
  ∀ (p : Array Nat) (H2 : Hp) (D : Addr), POk xs.length p → LS (fun i j => HT.lexLt ((katRev b (ks.map SKey.nums)).getD i []) ((katRev b (ks.map SKey.nums)).getD j [])) p xs.length → SameT P H H2 → LamTab q P lpos H2 → H2 D = none → Q (.ref D) (upd H2 D (.lst (katRev b (p.toList.map fun i => (katRev b xs).getD i .non))))
/-- behind the lambda's making -/
def LamMade (X : Cx) (P : Addr) (q : Str) (lpos : Pos) (params : Arguments) (body : Expr) (scope : Scope) (cl : List (Str × Addr)) (H1 : Hp) (f : Addr) (H2 : Hp) : Prop :=
  ∃ (c' : Addr) (ct : Value), SameT P H1 H2 ∧ LamTab q P lpos H2 ∧ H2 f = some (isTh f (lamObj q params body scope cl ((X.mg "__name__").getD .none) c' ct)) ∧ H2 c' = some (isCd c' q) ∧ f ≠ P ∧ c' ≠ P
theorem lam_made {H1 : Hp} {lpos : Pos} {σ : St} {R : VK} (tab : LamTab (X.env.qual ++ "<lambda>") P lpos H1) (h : ∀ f H2, LamMade X P (X.env.qual ++ "<lambda>") lpos params body scope cl H1 f H2 → R (.ref f) H2) : tLamC cl X P params body scope lpos σ H1 R := by
  obtain ⟨ps, tP, t3, tc⟩ := tab
  refine ⟨ps, tP, t3, ?_⟩
  rcases tc with hno | ⟨c', hy, hc'⟩
  · refine .inr ⟨hno, fun f c' ct f0 c0 hcf => h _ _ ?_⟩
    have nPf : f ≠ P := fun z => by rw [z, tP] at f0; cases f0
    have nPc : c' ≠ P := fun z => by rw [z, tP] at c0; cases c0
    refine ⟨c', ct, fun b o e hb => ?_, ⟨_, by rw [upd_ne (Ne.symm nPf), upd_ne (Ne.symm nPc), upd_same], ?_, .inr ⟨c', ?_, by rw [upd_ne hcf, upd_same]⟩⟩, upd_same, by rw [upd_ne hcf, upd_same], nPf, nPc⟩
    · rw [upd_ne (ne_of_none e f0), upd_ne (ne_of_none e c0), upd_ne hb]
      exact e
    · rw [Array.toList_append]
      exact triples_snoc _ t3
    · rw [Array.toList_append]
      exact codeAmong_snoc _ t3 hno
  · refine .inl ⟨c', hy, hc', fun f ct f0 => h _ _ ?_⟩
    have nPf : f ≠ P := fun z => by rw [z, tP] at f0; cases f0
    have nPc : c' ≠ P := fun z => by rw [z, tP] at hc'; cases hc'
    exact ⟨c', ct, fun b o e hb => by rw [upd_ne (ne_of_none e f0)]; exact e, ⟨ps, by rw [upd_ne (Ne.symm nPf)]; exact tP, t3, .inr ⟨c', hy, by rw [upd_ne (ne_of_none hc' f0)]; exact hc'⟩⟩, upd_same, by rw [upd_ne (ne_of_none hc' f0)]; exact hc', nPf, nPc⟩
/-- the sort itself, the lambda made -/
theorem sort_made {b : Bool} {kw : List (Str × Value)} {k j : Nat} {x y : Str} {sp : V → Sp} {lpos : Pos} {l f cy : Addr} {xs : List V} {ks : List SKey} {kv : V} {Q : VK} {H H2 : Hp} {pins : List (Addr × Obj)} {σ : St} {s2 : Shared} (F : LamOkX X.prog X.w X.K X.mg X.base k (X.env.qual ++ "<lambda>") body scope x y sp) (hr : Room (k + 3) X.A)
    (hbd : ∀ (pm ct : Value) (c' : Addr) (s : Shared) (u : Value), BindsTo s (lamFd (X.env.qual ++ "<lambda>") params body scope [(y, cy)] pm c' ct) ⟨[u], []⟩ [(x, u)])
    (hj : X.N[j]? = some y) (hyc : X.env.scope.names.lookup y = some .cell) (hcy : X.env.cells.lookup y = some cy)
    (hs1 : argsOk "sorted" ⟨[.ref l], kw⟩) (hs2 : ∀ x, argsOk "list.sort" ⟨[.ref x], kw⟩) (hs3 : ∀ x, Builtin.«list.sort» ⟨[.ref x], kw⟩ = ksk_tree x (.ref f) b)
    (hσ : σ[j]? = some (some kv)) (hH : H l = some (.lst xs)) (nlP : l ≠ P) (h64 : xs.length < 64) (hl : ks.length = xs.length) (hne : Alike ks) (mk : LamMade X P (X.env.qual ++ "<lambda>") lpos params body scope [(y, cy)] H f H2) (I2 : Inv X pins σ H2 s2)
    (spec : ∀ (i : Nat) (v : V) (key : SKey) (H' : Hp), xs[i]? = some v → ks[i]? = some key → SameT P H H' → ∀ R : VK, (∀ kv H'', Same H' H'' → key.at H'' kv → R kv H'') → sp kv [v] H' R E0)
    (q : ∀ (p : Array Nat) (H2 : Hp) (D : Addr), POk xs.length p → LS (fun i j => HT.lexLt ((katRev b (ks.map SKey.nums)).getD i []) ((katRev b (ks.map SKey.nums)).getD j [])) p xs.length → SameT P H H2 → LamTab (X.env.qual ++ "<lambda>") P lpos H2 → H2 D = none → Q (.ref D) (upd H2 D (.lst (katRev b (p.toList.map fun i => (katRev b xs).getD i .non))))) :
    wpAny (model X.prog X.w) X.A (call (.builtin "sorted") [.ref l] kw) (EP X pins σ Q) X.xe s2 := by
  obtain ⟨c', ct, sT, lt, hf, hc', nf, nc⟩ := mk
  have hr2 : Room (k + 1) X.A.in1.in1 := (hr.mono (by omega) |>.in1 |>.in1)
  have F1 := lam_runs (X := X) (pins := pins) (σ := σ) (sp := sp kv) (params := params) (f := f) (c := cy) (c' := c') (pm := (X.mg "__name__").getD .none) (ct := ct) F.sc hj hσ hyc hcy hr2 (hbd _ _ _) fun A outer s H v Q hr' hs => let ⟨t, t1, t2⟩ := F.ex f c' cy kv A outer s H v Q hr' hs; ⟨t, t1.h, t2⟩
  have spec' : ∀ (i : Nat) (v : V) (key : SKey) (H' : Hp), xs[i]? = some v → ks[i]? = some key → Same H2 H' → ∀ R : VK, (∀ kv H'', Same H' H'' → key.at H'' kv → R kv H'') →
      (H' f = some (isTh f (lamObj (X.env.qual ++ "<lambda>") params body scope [(y, cy)] ((X.mg "__name__").getD .none) c' ct)) ∧ H' c' = some (isCd c' (X.env.qual ++ "<lambda>")) ∧ sp kv [v] H' R E0) := fun i v key H' h1 h2 h3 R hR => ⟨h3 _ _ hf, h3 _ _ hc', spec i v key H' h1 h2 (sT.trans (.of h3)) R hR⟩
  have q' : ∀ (p : Array Nat) (H3 : Hp) (D : Addr), POk xs.length p → LS (fun i j => HT.lexLt ((katRev b (ks.map SKey.nums)).getD i []) ((katRev b (ks.map SKey.nums)).getD j [])) p xs.length → Same H2 H3 → H3 D = none → Q (.ref D) (upd H3 D (.lst (katRev b (p.toList.map fun i => (katRev b xs).getD i .non)))) := fun p H3 D a1 a2 a3 a4 => q p H3 D a1 a2 (sT.trans (.of a3)) (by
    obtain ⟨ps', e1, e2, e3⟩ := lt
    exact ⟨ps', a3 _ _ e1, e2, e3.imp id fun ⟨c'', z1, z2⟩ => ⟨c'', z1, a3 _ _ z2⟩⟩) a4
  have hH2 := sT _ _ hH nlP
  match xs, ks, hl with
  | [], [], _ =>
    refine sorted_zeroG I2 hH2 hs1 hs2 hs3 fun D hD => ?_
    have := q' #[] _ D (Array.Perm.refl _) (fun i j _ z => absurd z (Nat.not_lt_zero _)) (Same.refl _) hD
    cases b <;> exact this
  | [xv], [key], _ =>
    refine sorted_oneG I2 hH2 hs1 hs2 hs3 F1 (fun H' s' R hR => spec' 0 xv key H' rfl rfl s' R fun a H'' s2' _ => hR _ _ s2') fun H2' D s' hD => ?_
    have := q' #[0] H2' D (Array.Perm.refl _) (fun i j h1 h2 => absurd h1 (by have : j < 1 := h2; omega)) s' hD
    cases b <;> exact this
  | x1 :: x2 :: xs, ks, hl => exact sorted_keyG I2 hH2 (by simp) h64 hl hne hs1 hs2 hs3 F1 spec' q'
section
variable {k j : Nat} {x y : Str} {cy : Addr} {sp : V → Sp} {e : Expr} {ta : TA} {p lpos kpos rpos rp : Pos}
theorem q_sortC (hm : X.mg "sorted" = none) (hcode : X.env.code = .ref c) (C : CodeHd X.base c P) (B : Blt X.base X.mg) (F : LamOkX X.prog X.w X.K X.mg X.base k (X.env.qual ++ "<lambda>") body scope x y sp) (hr : Room (k + 3) X.A) (ha : QA X [e] ta)
    (hj : X.N[j]? = some y) (hyc : X.env.scope.names.lookup y = some .cell) (hcy : X.env.cells.lookup y = some cy) (hcl : closureFor scope X.env = pure [(y, cy)])
    (hbd : ∀ (pm ct : Value) (c' : Addr) (s : Shared) (u : Value), BindsTo s (lamFd (X.env.qual ++ "<lambda>") params body scope [(y, cy)] pm c' ct) ⟨[u], []⟩ [(x, u)] := by intros; exact .of_eq rfl)
    (hge : X.env.globals = mainGlobals := by rfl) (hdef : defaultsOf params X.env = ([], []) := by rfl) (hg : Gl X "sorted" := by rfl) (hn : noStar e = true := by rfl) :
    QE X (.Call (.Name "sorted" p) [e] [⟨some "key", .Lambda params body scope lpos, kpos⟩] pos) (tSortC false P (X.env.qual ++ "<lambda>") lpos j sp ta) := by
  refine ⟨?_⟩
  intro pins s σ H0 Q I h
  refine wpAny_Call_Name_kw (ld_blt I hg hm PyProof.Rows.boot_sorted ?_)
  have h1 := star_cons (es := []) (env := X.env) hn
  refine PyProof.Rows.callWith_kw (thn (ha.h pos pins s σ H0 _ I h) fun us s1 ⟨vs, H1, I1, r1, q1⟩ => ?_) (he := by rw [h1]; rfl) (hplain := by rw [h1]; rfl) (hall := rfl) (hkw := rfl)
  obtain ⟨l, xs, ks, kv, rfl, hσ, hH, h64, hl, hne, tab, spec, q⟩ := q1
  obtain ⟨u, rfl, ru⟩ := vals1 r1
  cases ru
  have nlP : l ≠ P := fun z => by
    obtain ⟨ps, tP, _⟩ := tab
    rw [z, tP] at hH
    cases hH
  have hk : PK X [⟨some "key", .Lambda params body scope lpos, kpos⟩] (tCons (tLamC [(y, cy)] X P params body scope lpos) tNil) := pk_cons (pe_lamC hcode hge C B hdef hcl) pk_nil
  refine thn (hk pos pins s1 σ H1 (fun zs H2 => ∃ f, zs = [.ref f] ∧ LamMade X P (X.env.qual ++ "<lambda>") lpos params body scope [(y, cy)] H1 f H2) I1 (lam_made tab fun f H2 mk => ⟨f, rfl, mk⟩)) fun ws s2 ⟨zs, H2, I2, rz, f, hz, mk⟩ => ?_
  subst hz
  obtain ⟨u, rfl, ru⟩ := vals1 rz
  cases ru
  exact sort_made F hr hbd hj hyc hcy (ksk_s1 _ _) (fun x => ksk_l1 _ _) (fun x => ksk_t1 f x) hσ hH nlP h64 hl hne mk I2 spec q
theorem q_sortCR (hm : X.mg "sorted" = none) (hcode : X.env.code = .ref c) (C : CodeHd X.base c P) (B : Blt X.base X.mg) (F : LamOkX X.prog X.w X.K X.mg X.base k (X.env.qual ++ "<lambda>") body scope x y sp) (hr : Room (k + 3) X.A) (ha : QA X [e] ta) (ht : QE X (.Constant (.bool true) kd rp) (tC (.bl true)))
    (hj : X.N[j]? = some y) (hyc : X.env.scope.names.lookup y = some .cell) (hcy : X.env.cells.lookup y = some cy) (hcl : closureFor scope X.env = pure [(y, cy)])
    (hbd : ∀ (pm ct : Value) (c' : Addr) (s : Shared) (u : Value), BindsTo s (lamFd (X.env.qual ++ "<lambda>") params body scope [(y, cy)] pm c' ct) ⟨[u], []⟩ [(x, u)] := by intros; exact .of_eq rfl)
    (hge : X.env.globals = mainGlobals := by rfl) (hdef : defaultsOf params X.env = ([], []) := by rfl) (hg : Gl X "sorted" := by rfl) (hn : noStar e = true := by rfl) :
    QE X (.Call (.Name "sorted" p) [e] [⟨some "key", .Lambda params body scope lpos, kpos⟩, ⟨some "reverse", .Constant (.bool true) kd rp, rpos⟩] pos) (tSortC true P (X.env.qual ++ "<lambda>") lpos j sp ta) := by
  refine ⟨?_⟩
  intro pins s σ H0 Q I h
  refine wpAny_Call_Name_kw (ld_blt I hg hm PyProof.Rows.boot_sorted ?_)
  have h1 := star_cons (es := []) (env := X.env) hn
  refine PyProof.Rows.callWith_kw (thn (ha.h pos pins s σ H0 _ I h) fun us s1 ⟨vs, H1, I1, r1, q1⟩ => ?_) (he := by rw [h1]; rfl) (hplain := by rw [h1]; rfl) (hall := rfl) (hkw := rfl)
  obtain ⟨l, xs, ks, kv, rfl, hσ, hH, h64, hl, hne, tab, spec, q⟩ := q1
  obtain ⟨u, rfl, ru⟩ := vals1 r1
  cases ru
  have nlP : l ≠ P := fun z => by
    obtain ⟨ps, tP, _⟩ := tab
    rw [z, tP] at hH
    cases hH
  have hk : PK X [⟨some "key", .Lambda params body scope lpos, kpos⟩, ⟨some "reverse", .Constant (.bool true) kd rp, rpos⟩] (tCons (tLamC [(y, cy)] X P params body scope lpos) (tCons (tC (.bl true)) tNil)) := pk_cons (pe_lamC hcode hge C B hdef hcl) (pk_cons ht.h pk_nil)
  refine thn (hk pos pins s1 σ H1 (fun zs H2 => ∃ f, zs = [.ref f, .bl true] ∧ LamMade X P (X.env.qual ++ "<lambda>") lpos params body scope [(y, cy)] H1 f H2) I1 (lam_made tab fun f H2 mk => ⟨f, rfl, mk⟩)) fun ws s2 ⟨zs, H2, I2, rz, f, hz, mk⟩ => ?_
  subst hz
  obtain ⟨u, u2, rfl, ru, ru2⟩ := vals2 rz
  cases ru
  cases ru2
  exact sort_made F hr hbd hj hyc hcy (ksk_s2 _ _ _) (fun x => ksk_l2 _ _ _) (fun x => ksk_t2 f x true) hσ hH nlP h64 hl hne mk I2 spec q
end
end
end L2
namespace L2
open PySem PySem.Spec PyProof.Rows PySem.W
/-! ### xs.index(x) of data; < of two texts or two numbers -/
section
variable {X : Cx}
theorem data_at {P : Program} {w : World} {H : Hp} {h : Heap} (ok : HOk P w H h) : ∀ {ds : List PyData} {xs : List V} {us : List Value}, DtAll H ds xs → Vals xs us → PyData.canLayAll0 ds = true → ∀ (dx : PyData), us.length = ds.length ∧ ∀ (i : Nat) (hi : i < us.length) (hd : i < ds.length), eqOf h dx us[i] = PyData.eqv ds[i] dx
  | [], xs, us, hd, r, _, dx => by
    have e : xs = [] := by simpa only [DtAll] using hd
    subst e
    cases r
    exact ⟨rfl, fun i hi => absurd hi (Nat.not_lt_zero _)⟩
  | d :: ds, xs, us, hd, r, hl, dx => by
    have e : ∃ y ys, xs = y :: ys ∧ Dt H d y ∧ DtAll H ds ys := by simpa only [DtAll] using hd
    obtain ⟨y, ys, rfl, h1, h2⟩ := e
    cases r with
    | cons r1 r2 =>
      have hl' : d.canLay0 = true ∧ PyData.canLayAll0 ds = true := by simpa [PyData.canLayAll0] using hl
      obtain ⟨as, q1⟩ := Dt.reads ok d y _ h1 r1
      obtain ⟨i1, i2⟩ := data_at ok h2 r2 hl'.2 dx
      refine ⟨by rw [List.length_cons, List.length_cons, i1], fun i hi hd => ?_⟩
      cases i with
      | zero => exact eqOf_is q1 hl'.1
      | succ i => exact i2 i _ _
def rIndex : V → List V → Hp → VK → Prop := fun x vs H Q => ∃ (l : Addr) (xs : List V) (y : V) (dy : PyData) (ds : List PyData) (j : Nat) (hj : j < ds.length), x = .ref l ∧ vs = [y] ∧ H l = some (.lst xs) ∧ Dt H dy y ∧ DtAll H ds xs ∧ SeqAt.shaped dy = true ∧ PyData.canLayAll0 ds = true ∧ ds.length ≤ 1000 ∧ PyData.eqv ds[j] dy = true ∧ (∀ (i : Nat) (hi : i < j), PyData.eqv (ds[i]'(Nat.lt_trans hi hj)) dy = false) ∧ Q (.int (j : Int)) H
theorem mt_index (hu : X.A.in1.units + 64 < cLine) : MtM X "list.index" rIndex := by
  intro pins s σ H x vs v us Q I rx rv h
  obtain ⟨l, xs, y, dy, ds, j, hj, rfl, rfl, hH, h1, h2, s1, s2, hz, hyes, hno, q⟩ := h
  cases rx
  obtain ⟨u, rfl, ru⟩ := rv.one
  obtain ⟨z, its, n, r, hl, e⟩ := I.lstM hH
  obtain ⟨el, ea⟩ := data_at I.hok h2 r s2 dy
  have hj' : j < its.length := by omega
  refine call_meets F.slot_list_index ⟨_, e, rfl⟩ F.entry_list_index (F.args_list_index_2 _ _) (SeqAt.list_indexAt l its.toArray n none #[] u (eqOf s.heap dy) j (by simpa using hj') (by omega) ?_ ?_) ⟨e, fun y' hy' => data_eqAt I hu h1 ru h2 r s1 s2 y' (by simpa using hy'), ?_⟩
  · show eqOf s.heap dy its.toArray[j] = true
    rw [List.getElem_toArray, ea j hj' hj, hyes]
  · intro m hm hmj
    rw [List.getElem_toArray, ea m (by simpa using hm) (by omega), hno m hmj]
  · refine ⟨.int _, H, I.tok _, ⟨_, rfl⟩, ?_⟩
    exact q
/-- < of two numbers or two texts -/
def ltV : V → V → Option Bool
  | .int i, .int j => some (decide (i < j))
  | .str i, .str j => some (decide (i.cps.toList < j.cps.toList))
  | _, _ => none
theorem o_ltM : QOp X (compareOp .Lt) (fun x y H Q => ∃ b, ltV x y = some b ∧ Q (.bl b) H) := by
  refine ⟨?_⟩
  intro pins s σ H x y v u Q I rx ry h
  obtain ⟨b, hb, q⟩ := h
  match x, y, hb with
  | .int i, .int j, hb =>
    cases hb
    exact op_lt pins s σ H _ _ v u Q I rx ry ⟨i, j, rfl, rfl, q⟩
  | .str i, .str j, hb =>
    cases hb
    exact op_lt_str pins s σ H _ _ v u Q I rx ry ⟨i, j, rfl, rfl, q⟩
end
section
variable {X : Cx} {o e : Expr} {to te : TE} {apos cpos : Pos}
theorem q_index {k : Nat} (hr : Room k X.A) (ho : QE X o to) (he : QE X e te) (hs : noStar e = true := by rfl) (hbase : attributeBase o "index" X.env (eval o X.env) = eval o X.env := by rfl) (hline : (apos.endLine == cpos.line) = true := by rfl) :
    QE X (.Call (.Attribute o "index" apos) [e] [] cpos) (tBM X.K "list" rIndex to (tCons te tNil)) := by
  have h1 := star_cons (es := []) (env := X.env) hs
  have h2 : starEach ([] : List Expr) X.env = [] := rfl
  refine ⟨pe_bm PySem.F.plainAttrs_list PySem.F.slot_list_index PySem.F.type_list_index (mt_index (by have := hr.un; show X.A.units + _ + 64 < _; omega)) ho.h (pa he.h pa_nil hs) hbase ?_ hline h1 (by rw [h2]; rfl)⟩
  rw [h1, h2]
  rfl
end
end L2


set_option maxRecDepth 100000
set_option maxHeartbeats 4000000
namespace K54
open PySem L2
open PyProof.Rows (envOfC)
open PySem.W (envX katRev CodeHd)
def top (i : Nat) : Stmt := PySem.Challenge.pw_limb_k54_rows_by_a_key.main.body.getD i (.Pass ⟨0, 0, 0, 0⟩)
theorem at0 {x : V} {r : List V} : atI (x :: r) 0 = some x := atI_nat (xs := x :: r) (j := 0) rfl
theorem iteDF {c A B : Prop} [Decidable c] (h : ¬ c) (hB : B) : if decide c = true then A else B := by
  rw [decide_eq_false h]
  exact iteF hB
theorem nat_cell {ns : List Int} {k : Nat} (h : k < ns.length) : atI (ns.map V.int) (k : Int) = some (.int (cellZ ns k)) := by
  have := atI_cell (ns := ns) (k := (k : Int)) (by omega) (by omega)
  rw [show ((k : Int)).toNat = k by omega] at this
  exact this
/-- a row -/
structure Rw where
  d : Nat
  h : Int
  n : Int
  t : Str
  b : Bool
  w : Option Int
  f : Bool
def whV : Option Int → V
  | none => .non
  | some i => .int i
def RR (H : Hp) (a : Addr) (r : Rw) : Prop := ∃ p, H a = some (.tup [.int (r.d : Int), .ref p, .str r.t, .bl r.b, whV r.w, .bl r.f]) ∧ H p = some (.tup ([r.h, r.n].map V.int)) ∧ PyData.strOk r.t = true
abbrev LT := List (Addr × Rw)
def refs {α : Type} (L : List (Addr × α)) : List V := L.map fun x => V.ref x.1
def vals {α : Type} (L : List (Addr × α)) : List α := L.map Prod.snd
theorem refs_len {α : Type} (L : List (Addr × α)) : (refs L).length = L.length := List.length_map ..
theorem vals_len {α : Type} (L : List (Addr × α)) : (vals L).length = L.length := List.length_map ..
def R0 : Rw := ⟨0, 0, 0, "", false, none, false⟩
/-- the row at a number -/
def rwAt (L : LT) (k : Nat) : Rw := ((L[k]?).getD (0, R0)).2
def adAt (L : LT) (k : Nat) : Addr := ((L[k]?).getD (0, R0)).1
def LR (H : Hp) (l : Addr) (L : LT) : Prop := H l = some (.lst (refs L)) ∧ ∀ x ∈ L, RR H x.1 x.2
theorem upd_tup {H : Hp} {p a : Addr} {xs ys zs : List V} (hp : H p = some (.lst xs)) (ha : H a = some (.tup zs)) : upd H p (.lst ys) a = some (.tup zs) := by
  rw [upd_ne (fun z => by rw [z, hp] at ha; cases ha)]
  exact ha
/-- all tuples stay -/
def TS (H H' : Hp) : Prop := ∀ a zs, H a = some (.tup zs) → H' a = some (.tup zs)
theorem Same.ts {H H' : Hp} (e : Same H H') : TS H H' := fun a zs h => e a _ h
theorem ts_upd {H : Hp} {p : Addr} {xs ys : List V} (hp : H p = some (.lst xs)) : TS H (upd H p (.lst ys)) := fun a zs h => upd_tup hp h
theorem RR.ts {H H' : Hp} {a : Addr} {r : Rw} (x : RR H a r) (e : TS H H') : RR H' a r := by
  obtain ⟨p, h1, h2, h3⟩ := x
  exact ⟨p, e _ _ h1, e _ _ h2, h3⟩
theorem LR.same {H H' : Hp} {l : Addr} {L : LT} (x : LR H l L) (e : Same H H') : LR H' l L := ⟨e _ _ x.1, fun y hy => (x.2 y hy).ts (Same.ts e)⟩
theorem LR.at {H : Hp} {l : Addr} {L : LT} (x : LR H l L) {k : Nat} (h : k < L.length) : RR H (adAt L k) (rwAt L k) := by
  unfold adAt rwAt
  rw [List.getElem?_eq_getElem h]
  exact x.2 _ (List.getElem_mem h)
theorem at_refs {L : LT} {k : Nat} (h : k < L.length) : atI (refs L) (k : Int) = some (.ref (adAt L k)) := atI_nat (by unfold refs adAt; rw [List.getElem?_map, List.getElem?_eq_getElem h]; rfl)
theorem refs_get {L : LT} {k : Nat} {x : V} (h : (refs L)[k]? = some x) : k < L.length ∧ x = .ref (adAt L k) := by
  have hk : k < L.length := by
    have := (List.getElem?_eq_some_iff.mp h).1
    rw [refs_len] at this
    exact this
  refine ⟨hk, ?_⟩
  unfold refs at h
  rw [List.getElem?_map, List.getElem?_eq_getElem hk] at h
  unfold adAt
  rw [List.getElem?_eq_getElem hk]
  exact (Option.some.inj h).symm
def whD : Option Int → PyData
  | none => .none
  | some i => .int i
def rwD (r : Rw) : PyData := .tuple [.int (r.d : Int), .tuple [.int r.h, .int r.n], .str r.t, .bool r.b, whD r.w, .bool r.f]
theorem whD_dt {H : Hp} (w : Option Int) : Dt H (whD w) (whV w) := by
  cases w with
  | none => simp only [whD, whV, Dt]
  | some i => simp only [whD, whV, Dt]
theorem RR.dt {H : Hp} {a : Addr} {r : Rw} (x : RR H a r) : Dt H (rwD r) (.ref a) := by
  obtain ⟨p, h1, h2, _⟩ := x
  have dw := whD_dt (H := H) r.w
  unfold rwD
  simp only [Dt, DtAll]
  exact ⟨a, _, rfl, .inl h1, _, _, rfl, rfl, _, _, rfl, ⟨p, _, rfl, .inl h2, _, _, rfl, rfl, _, _, rfl, rfl, rfl⟩, _, _, rfl, rfl, _, _, rfl, rfl, _, _, rfl, dw, _, _, rfl, rfl, rfl⟩
theorem dt_rows {H : Hp} : ∀ {L : LT}, (∀ x ∈ L, RR H x.1 x.2) → DtAll H ((vals L).map rwD) (refs L)
  | [], _ => by simp [DtAll, vals, refs]
  | x :: L, h => by
    show DtAll H (rwD x.2 :: (vals L).map rwD) (V.ref x.1 :: refs L)
    simp only [DtAll]
    exact ⟨_, _, rfl, (h x (by simp)).dt, dt_rows fun y hy => h y (by simp [hy])⟩
theorem LR.dt {H : Hp} {l : Addr} {L : LT} (x : LR H l L) : Dt H (.list ((vals L).map rwD)) (.ref l) := by
  simp only [Dt]
  exact ⟨l, _, rfl, .inl x.1, dt_rows x.2⟩
theorem lay_rw {r : Rw} (h : PyData.strOk r.t = true) : (rwD r).canLay0 = true ∧ (rwD r).depth = 2 := by
  cases e : r.w with
  | none => exact ⟨by simp [rwD, whD, e, PyData.canLay0, PyData.canLayAll0, h], by simp [rwD, whD, e, PyData.depth, PyData.depthAll]⟩
  | some i => exact ⟨by simp [rwD, whD, e, PyData.canLay0, PyData.canLayAll0, h], by simp [rwD, whD, e, PyData.depth, PyData.depthAll]⟩
theorem lay_all : ∀ {L : List Rw}, (∀ r ∈ L, PyData.strOk r.t = true) → PyData.canLayAll0 (L.map rwD) = true ∧ PyData.depthAll (L.map rwD) ≤ 3
  | [], _ => ⟨rfl, by simp [PyData.depthAll]⟩
  | x :: L, h => by
    obtain ⟨h1, h2⟩ := lay_all (L := L) fun r hr => h r (by simp [hr])
    obtain ⟨h3, h4⟩ := lay_rw (h x (by simp))
    simp only [List.map_cons, PyData.canLayAll0, PyData.depthAll, h1, h3]
    exact ⟨rfl, by omega⟩
theorem LR.ok {H : Hp} {l : Addr} {L : LT} (x : LR H l L) : ∀ r ∈ vals L, PyData.strOk r.t = true := fun r hr => by
  obtain ⟨y, hy, rfl⟩ := List.mem_map.mp hr
  obtain ⟨_, _, _, h3⟩ := x.2 y hy
  exact h3
theorem shaped_all {L : List Rw} (h : ∀ r ∈ L, PyData.strOk r.t = true) : SeqAt.shaped (.list (L.map rwD)) = true := by
  obtain ⟨h1, h2⟩ := lay_all h
  unfold SeqAt.shaped
  rw [Bool.and_eq_true]
  refine ⟨by simpa [PyData.canLay0] using h1, decide_eq_true ?_⟩
  simp only [PyData.depth]
  omega
theorem eqv_all {L : List Rw} (h : ∀ r ∈ L, PyData.strOk r.t = true) : PyData.eqv (.list (L.map rwD)) (.list (L.map rwD)) = true := SeqAt.eqv_refl _ (by simpa [PyData.canLay0] using (lay_all h).1)

/-! ### the key of a row -/
def keyOf (k : Str) (r : Rw) : SKey := if k = "text" then .s r.t else if k = "size" then .i r.t.length else if k = "depth" then .i r.d else .bi r.w.isNone (r.w.getD 0)
def spAlone : Sp := fun vs H Q _ => ∃ (c : Addr) (v : V), vs = [.ref c, v] ∧ H c = some (.tup [.str "all"]) ∧ Q (.bl true) H
def spFitting : Sp := fun vs H Q _ => ∃ (c l : Addr) (xs : List V), vs = [.ref c, .ref l] ∧ H c = some (.tup [.str "all"]) ∧ H l = some (.lst xs) ∧ xs.length ≤ 63 ∧ ∀ p H', Same H H' → H' p = some (.lst (xs.map fun _ => V.bl true)) → Q (.ref p) H'
def spSortV : Sp := fun vs H Q _ => ∃ (k : Str) (a : Addr) (r : Rw), vs = [.str k, .ref a] ∧ RR H a r ∧ r.t.length ≤ 1000 ∧ ∀ v H', Same H H' → (keyOf k r).at H' v → Q v H'
def spLam (kv : V) : Sp := fun vs H Q E => ∃ v, vs = [v] ∧ spSortV [kv, v] H Q E
/-- what is told, of rows in their order -/
def Told (k : Str) (b : Bool) (L M : LT) : Prop :=
  if k = "place" then M = katRev b L else ∃ p : Array Nat, POk L.length p ∧ LS (fun i j => HT.lexLt ((katRev b (L.map fun x => (keyOf k x.2).nums)).getD i []) ((katRev b (L.map fun x => (keyOf k x.2).nums)).getD j [])) p L.length ∧ M = katRev b (p.toList.map fun i => (katRev b L).getD i (0, R0))
abbrev qLam : Str := (("asked" : Str) ++ ".<locals>.") ++ "<lambda>"
def retE : Stmt → Expr
  | .Return (some e) _ => e
  | .If _ (s :: _) _ _ => retE s
  | _ => .Name "" ⟨0, 0, 0, 0⟩
def lamE : Expr → Expr
  | .Call _ _ (k :: _) _ => k.value
  | e => e
def lamB : Expr → Expr
  | .Lambda _ b _ _ => b
  | e => e
def lamS : Expr → Scope
  | .Lambda _ _ s _ => s
  | _ => default
def lamP : Expr → Pos
  | .Lambda _ _ _ p => p
  | _ => ⟨0, 0, 0, 0⟩
section
variable {P : Program} {w : World} {K : PySem.W.Frag} {mg : Str → Option Value} {base : Heap} {tkD tkN tkT tkO tkW tkF : Tok}
abbrev s_fits_alone : Stmt := top 11
abbrev N_fits_alone : List Str := ["condition", "row", "word"]
theorem sc_fits_alone : FnScope N_fits_alone ["condition", "row"] (defScope s_fits_alone) := ⟨rfl, rfl, rfl, by decide +kernel, rfl, by decide +kernel, by decide +kernel⟩
theorem ok_fits_alone {f : Addr} {fd : FuncData} (F : Fun K "fits_alone" "fits_alone" s_fits_alone f fd) : FnOk P w K mg base CX0 1 f fd ["condition", "row"] spAlone := by
  refine F.okQ sc_fits_alone (fun vs H Q E h => ?_) (fun cdv A outer s H vs Q E hr h => ?_)
  · obtain ⟨c, v, rfl, _⟩ := h
    rfl
  obtain ⟨c, v, rfl, eh, q⟩ := h
  refine ⟨_, (b_c (s_set (i := 2) sc_fits_alone.nd (q_ix x_tup (q_v 0) q_int))
      (b_c (s_if (t_cmp o_eq (q_v 2) q_str) (b_1 s_never) b_0)
      (b_c (s_if (t_cmp o_eq (q_v 2) q_str) (b_1 s_never) b_0)
      (b_c (s_if (t_cmp o_eq (q_v 2) q_str) (b_1 s_never) b_0)
      (b_c (s_if (t_cmp o_eq (q_v 2) q_str) (b_1 s_never) b_0)
      (b_c (s_if (t_cmp o_eq (q_v 2) q_str) (b_1 s_never) b_0)
      (b_c (s_if (t_cmp o_eq (q_v 2) q_str) (b_1 s_never) b_0)
      (b_1 (s_ret q_bl))))))))), ?_⟩
  refine ⟨_, rfl, c, _, _, _, rfl, rfl, SqT.of eh, at0, ?_⟩
  have ne : ∀ {A B : Prop} (x y : Str), decide (V.str x = V.str y) = false → B → (if decide (V.str x = V.str y) = true then A else B) := fun {A B} x y h hB => by rw [h]; exact iteF hB
  exact ⟨_, rfl, rfl, _, rfl, ne _ _ (by decide +kernel) ⟨_, rfl, rfl, _, rfl, ne _ _ (by decide +kernel) ⟨_, rfl, rfl, _, rfl, ne _ _ (by decide +kernel) ⟨_, rfl, rfl, _, rfl, ne _ _ (by decide +kernel) ⟨_, rfl, rfl, _, rfl, ne _ _ (by decide +kernel) ⟨_, rfl, rfl, _, rfl, ne _ _ (by decide +kernel) q⟩⟩⟩⟩⟩⟩
abbrev s_fitting : Stmt := top 7
abbrev N_fitting : List Str := ["condition", "rows", "word", "parts"]
theorem sc_fitting : FnScope N_fitting ["condition", "rows"] (defScope s_fitting) := ⟨rfl, rfl, rfl, by decide +kernel, rfl, by decide +kernel, by decide +kernel⟩
theorem ok_fitting {f : Addr} {fd : FuncData} (F : Fun K "fitting" "fitting" s_fitting f fd) (F_fits_alone : Fn P w K mg base 1 "fits_alone" ["condition", "row"] spAlone) : FnOk P w K mg base CX0 3 f fd ["condition", "rows"] spFitting := by
  refine F.okQ sc_fitting (fun vs H Q E h => ?_) (fun cdv A outer s H vs Q E hr h => ?_)
  · obtain ⟨c, l, xs, rfl, _⟩ := h
    rfl
  obtain ⟨c, l, xs, rfl, eh, hL, hz, q⟩ := h
  refine ⟨_, (b_c (s_set (i := 2) sc_fitting.nd (q_ix x_tup (q_v 0) q_int))
      (b_c (s_if (t_cmp o_eq (q_v 2) q_str) (b_c s_never
      (b_1 s_never)) b_0)
      (b_c (s_if (t_cmp o_eq (q_v 2) q_str) (b_c s_never
      (b_1 s_never)) b_0)
      (b_c (s_if (t_cmp o_eq (q_v 2) q_str) (b_1 s_never) b_0)
      (b_c (s_if (t_cmp o_eq (q_v 2) q_str) (b_1 s_never) b_0)
      (b_c (s_if (t_cmp o_eq (q_v 2) q_str) (b_1 s_never) b_0)
      (b_c (s_if (t_cmp o_eq (q_v 2) q_str) (b_1 s_never) b_0)
      (b_1 (s_ret (q_comp (own := ["row"]) (⟨rfl, by decide +kernel, by decide +kernel, rfl, ⟨rfl, rfl, trivial⟩⟩ : CompOk _ _ [0] ["condition"]) rfl (i_list (q_v 1)) (fun _ _ _ _ => g_name (i := 0) (show (["row", "condition"] : List Str).Nodup by decide +kernel)) (gk_name (by decide)) (fun _ _ _ _ => if_0) (fun _ _ _ _ => (q_fn F_fits_alone (hr.mono (by decide)) (q_a (q_v 1) (q_a (q_v 0) q_a0)))))))))))))), ?_⟩
  refine ⟨_, rfl, c, _, _, _, rfl, rfl, SqT.of eh, at0, ?_⟩
  have ne : ∀ {A B : Prop} (x y : Str), decide (V.str x = V.str y) = false → B → (if decide (V.str x = V.str y) = true then A else B) := fun {A B} x y h hB => by rw [h]; exact iteF hB
  refine ⟨_, rfl, rfl, _, rfl, ne _ _ (by decide +kernel) ⟨_, rfl, rfl, _, rfl, ne _ _ (by decide +kernel) ⟨_, rfl, rfl, _, rfl, ne _ _ (by decide +kernel) ⟨_, rfl, rfl, _, rfl, ne _ _ (by decide +kernel) ⟨_, rfl, rfl, _, rfl, ne _ _ (by decide +kernel) ⟨_, rfl, rfl, _, rfl, ne _ _ (by decide +kernel) ?_⟩⟩⟩⟩⟩⟩
  refine ⟨_, rfl, l, rfl, ⟨_, SqL.of hL⟩, ?_⟩
  refine comp_list (xs := xs) (fun _ => .bl true) (by omega) (SqL.of hL) (fun k x H1 hx s1 R kk => ?_) (fun p1 H1 s1 g1 => ?_)
  · exact ⟨_, rfl, _, rfl, c, x, rfl, s1 _ _ eh, kk H1 (Same.refl H1)⟩
  · refine q p1 _ (s1.trans (same_new g1 _)) ?_
    rw [upd_same, List.map_const', List.map_const']
    simp
abbrev s_sort_value : Stmt := top 13
abbrev N_sort_value : List Str := ["key", "row"]
theorem sc_sort_value : FnScope N_sort_value ["key", "row"] (defScope s_sort_value) := ⟨rfl, rfl, rfl, by decide +kernel, rfl, by decide +kernel, by decide +kernel⟩
theorem ok_sort_value {f : Addr} {fd : FuncData} (F : Fun K "sort_value" "sort_value" s_sort_value f fd) (z_len : mg "len" = none) (g_DEPTH : mg "DEPTH" = some (.int 0 tkD)) (g_TEXT : mg "TEXT" = some (.int 2 tkT)) (g_WHOM : mg "WHOM" = some (.int 4 tkW)) : FnOk P w K mg base CX0 1 f fd ["key", "row"] spSortV := by
  refine F.okQ sc_sort_value (fun vs H Q E h => ?_) (fun cdv A outer s H vs Q E hr h => ?_)
  · obtain ⟨k, a, r, rfl, _⟩ := h
    rfl
  obtain ⟨k, a, r, rfl, ⟨p, e1, e2, _⟩, hlen, q⟩ := h
  refine ⟨_, (b_c (s_if (t_cmp o_eq (q_v 0) q_str) (b_1 (s_ret (q_ix x_tup (q_v 1) (q_gI g_TEXT)))) b_0)
      (b_c (s_if (t_cmp o_eq (q_v 0) q_str) (b_1 (s_ret (q_B c_lenS z_len PySem.boot_len (q_a (q_ix x_tup (q_v 1) (q_gI g_TEXT)) q_a0)))) b_0)
      (b_c (s_if (t_cmp o_eq (q_v 0) q_str) (b_1 (s_ret (q_ix x_tup (q_v 1) (q_gI g_DEPTH)))) b_0)
      (b_1 (s_ret (q_tup (q_a (q_cmp o_isN (q_ix x_tup (q_v 1) (q_gI g_WHOM)) q_non) (q_a (q_if (t_cmp o_isN (q_ix x_tup (q_v 1) (q_gI g_WHOM)) q_non) q_int (q_ix x_tup (q_v 1) (q_gI g_WHOM))) q_a0)))))))), ?_⟩
  have sEq : ∀ {y : Str}, (V.str k = V.str y) = (k = y) := fun {y} => propext ⟨fun z => V.str.inj z, fun z => by rw [z]⟩
  unfold keyOf at q
  refine ⟨_, rfl, rfl, _, rfl, iteD (fun c => ?_) (fun c => ?_)⟩
  · rw [if_pos (V.str.inj c)] at q
    exact ⟨_, rfl, a, _, _, _, rfl, rfl, SqT.of e1, rfl, q _ _ (Same.refl H) rfl⟩
  rw [if_neg (fun z => c (by rw [z]))] at q
  refine ⟨_, rfl, rfl, _, rfl, iteD (fun c => ?_) (fun c => ?_)⟩
  · rw [if_pos (V.str.inj c)] at q
    exact ⟨_, rfl, a, _, _, _, rfl, rfl, SqT.of e1, rfl, r.t, rfl, hlen, q _ _ (Same.refl H) rfl⟩
  rw [if_neg (fun z => c (by rw [z]))] at q
  refine ⟨_, rfl, rfl, _, rfl, iteD (fun c => ?_) (fun c => ?_)⟩
  · rw [if_pos (V.str.inj c)] at q
    exact ⟨_, rfl, a, _, _, _, rfl, rfl, SqT.of e1, rfl, q _ _ (Same.refl H) rfl⟩
  rw [if_neg (fun z => c (by rw [z]))] at q
  refine ⟨_, rfl, a, _, _, _, rfl, rfl, SqT.of e1, rfl, rfl, _, rfl, a, _, _, _, rfl, rfl, SqT.of e1, rfl, rfl, _, rfl, ?_⟩
  cases hw : r.w with
  | none =>
    rw [hw] at e1 q
    exact iteT ⟨size63 (Nat.le_of_ble_eq_true rfl), fun p' g' => q _ _ (same_new g' _) ⟨p', rfl, upd_same⟩⟩
  | some i =>
    rw [hw] at e1 q
    exact iteF ⟨_, rfl, a, _, _, _, rfl, rfl, SqT.of e1, rfl, size63 (Nat.le_of_ble_eq_true rfl), fun p' g' => q _ _ (same_new g' _) ⟨p', rfl, upd_same⟩⟩

abbrev s_asked : Stmt := top 12
abbrev N_asked : List Str := ["question", "rows", "key", "told"]
theorem sc_asked : FnScope N_asked ["question", "rows"] (defScope s_asked) := ⟨rfl, rfl, rfl, by decide +kernel, rfl, by decide +kernel, by decide +kernel⟩
abbrev lamX1 : Expr := lamE (retE ((defBody s_asked).getD 3 (.Pass ⟨0, 0, 0, 0⟩)))
abbrev lamX2 : Expr := lamE (retE ((defBody s_asked).getD 4 (.Pass ⟨0, 0, 0, 0⟩)))
theorem lam1_asked (F_sort_value : Fn P w K mg base 1 "sort_value" ["key", "row"] spSortV) : LamOkX P w K mg base 2 qLam (lamB lamX1) (lamS lamX1) "row" "key" spLam := by
  refine ⟨⟨rfl, rfl, rfl, rfl, rfl, by decide +kernel, by decide +kernel, by decide⟩, fun f c' c kv A outer s H v Q hr h => ?_⟩
  obtain ⟨v', e, h⟩ := h
  cases e
  exact ⟨_, (q_fn F_sort_value (hr.mono (by decide)) (q_a (q_v 1) (q_a (q_v 0) q_a0))), _, rfl, _, rfl, h⟩
theorem lam2_asked (F_sort_value : Fn P w K mg base 1 "sort_value" ["key", "row"] spSortV) : LamOkX P w K mg base 2 qLam (lamB lamX2) (lamS lamX2) "row" "key" spLam := by
  refine ⟨⟨rfl, rfl, rfl, rfl, rfl, by decide +kernel, by decide +kernel, by decide⟩, fun f c' c kv A outer s H v Q hr h => ?_⟩
  obtain ⟨v', e, h⟩ := h
  cases e
  exact ⟨_, (q_fn F_sort_value (hr.mono (by decide)) (q_a (q_v 1) (q_a (q_v 0) q_a0))), _, rfl, _, rfl, h⟩

def spAsked (T : Addr) : Sp := fun vs H Q _ => ∃ (qa c l : Addr) (k : Str) (b : Bool) (L : LT), vs = [.ref qa, .ref l] ∧ H qa = some (.tup [.ref c, .str k, .bl b]) ∧ H c = some (.tup [.str "all"]) ∧ LR H l L ∧ (∀ x ∈ L, x.2.t.length ≤ 1000) ∧ L.length ≤ 63 ∧ LamTab qLam T (lamP (if b then lamX1 else lamX2)) H ∧
  ∀ D H' M, Told k b L M → SameT T H H' → LamTab qLam T (lamP (if b then lamX1 else lamX2)) H' → H' D = some (.lst (refs M)) → H D = none → Q (.ref D) H'
theorem lamTab_same {q : Str} {T : Addr} {pos : Pos} {H H' : Hp} (h : LamTab q T pos H) (s : Same H H') : LamTab q T pos H' := by
  obtain ⟨ps, e1, e2, e3⟩ := h
  exact ⟨ps, s _ _ e1, e2, e3.imp id fun ⟨c, z1, z2⟩ => ⟨c, z1, s _ _ z2⟩⟩
theorem none_back {H H' : Hp} {D : Addr} (s : Same H H') (h : H' D = none) : H D = none := by
  cases e : H D with
  | none => rfl
  | some o => rw [s _ _ e] at h; cases h
theorem refs_range (L : LT) : ((List.range L.length).map fun i => V.ref (adAt L i)) = refs L := by
  refine List.ext_getElem? fun i => ?_
  unfold refs adAt
  rw [List.getElem?_map, List.getElem?_map]
  by_cases h : i < L.length
  · rw [List.getElem?_range h, List.getElem?_eq_getElem h]
    show some (V.ref (L[i]?.getD (0, R0)).fst) = some (V.ref L[i].fst)
    rw [List.getElem?_eq_getElem h]
    rfl
  · rw [List.getElem?_eq_none (by simpa using h), List.getElem?_eq_none (by omega)]
    rfl
theorem refs_rev (b : Bool) (L : LT) : refs (katRev b L) = katRev b (refs L) := by
  cases b
  · rfl
  · show refs L.reverse = (refs L).reverse
    unfold refs
    rw [List.map_reverse]
theorem refs_pick (b : Bool) (L : LT) : ∀ ps : List Nat, (∀ i ∈ ps, i < L.length) → refs (ps.map fun i => (katRev b L).getD i (0, R0)) = ps.map fun i => (katRev b (refs L)).getD i .non := fun ps h => by
  rw [← refs_rev]
  unfold refs
  rw [List.map_map]
  refine List.map_congr_left fun i hi => ?_
  have hi' : i < (katRev b L).length := by rw [PySem.W.kat_len]; exact h i hi
  show V.ref ((katRev b L).getD i (0, R0)).1 = ((katRev b L).map fun x => V.ref x.1).getD i .non
  rw [List.getD_eq_getElem?_getD, List.getD_eq_getElem?_getD, List.getElem?_map, List.getElem?_eq_getElem hi']
  rfl
theorem alike_keys (k : Str) (L : LT) : Alike (L.map fun x => keyOf k x.2) := by
  unfold Alike keyOf
  by_cases h1 : k = "text"
  · refine .inr (.inl fun z hz => ?_)
    obtain ⟨x, _, rfl⟩ := List.mem_map.mp hz
    exact ⟨_, if_pos h1⟩
  by_cases h2 : k = "size"
  · refine .inl fun z hz => ?_
    obtain ⟨x, _, rfl⟩ := List.mem_map.mp hz
    exact ⟨_, by rw [if_neg h1, if_pos h2]⟩
  by_cases h3 : k = "depth"
  · refine .inl fun z hz => ?_
    obtain ⟨x, _, rfl⟩ := List.mem_map.mp hz
    exact ⟨_, by rw [if_neg h1, if_neg h2, if_pos h3]⟩
  · refine .inr (.inr fun z hz => ?_)
    obtain ⟨x, _, rfl⟩ := List.mem_map.mp hz
    exact ⟨_, _, by rw [if_neg h1, if_neg h2, if_neg h3]⟩
theorem sameT_ts {T : Addr} {ps : Array Value} {H H' : Hp} (h : H T = some (.tbl ps)) (s : SameT T H H') : TS H H' := fun a zs e => s _ _ e fun z => by
  rw [z, h] at e
  cases e
theorem lam_spec {k : Str} {L : LT} {T : Addr} {l : Addr} {pos : Pos} {H3 H' : Hp} {i : Nat} {v : V} {key : SKey} {R : VK} (tab : LamTab qLam T pos H3) (hL : ∀ x ∈ L, RR H3 x.1 x.2) (hlen : ∀ x ∈ L, x.2.t.length ≤ 1000) (hv : (refs L)[i]? = some v) (hkey : (L.map fun x => keyOf k x.2)[i]? = some key) (sm : SameT T H3 H') (kR : ∀ kv H'', Same H' H'' → key.at H'' kv → R kv H'') : spLam (.str k) [v] H' R E0 := by
  obtain ⟨ps, tP, _⟩ := tab
  unfold refs at hv
  rw [List.getElem?_map] at hv hkey
  obtain ⟨x, hx, rfl⟩ := Option.map_eq_some_iff.mp hv
  rw [hx] at hkey
  cases hkey
  have m := List.mem_of_getElem? hx
  exact ⟨_, rfl, k, x.1, x.2, rfl, (hL x m).ts (sameT_ts tP sm), hlen x m, fun v' H'' s'' hat => kR v' H'' s'' hat⟩
theorem ok_asked {f c0 T : Addr} {fd : FuncData} (F : Fun K "asked" "asked" s_asked f fd) (hcode : fd.code = .ref c0) (C : CodeHd base c0 T) (B : Blt base mg) (F_fitting : Fn P w K mg base 3 "fitting" ["condition", "rows"] spFitting) (F_lam : Fn P w K mg base 1 "sort_value" ["key", "row"] spSortV)
    (z_zip : mg "zip" = none) (z_list : mg "list" = none) (z_reversed : mg "reversed" = none) (z_sorted : mg "sorted" = none) : FnOk P w K mg base CX0 6 f fd ["question", "rows"] (spAsked T) := by
  refine F.okC hcode sc_asked (fun vs H Q E h => ?_) (fun A outer s H vs Q E hr h => ?_)
  · obtain ⟨qa, c, l, k, b, L, rfl, _⟩ := h
    rfl
  obtain ⟨qa, c, l, k, b, L, rfl, eq, ec, hL, hlen, hz, tab, q⟩ := h
  refine ⟨_, (b_c (s_set (i := 2) sc_asked.nd (q_ix x_tup (q_v 0) q_int))
      (b_c (s_setC (j := 3) sc_asked.nd (own := ["row", "fits"]) (⟨rfl, by decide +kernel, by decide +kernel, rfl, trivial⟩ : CompOk _ _ [] []) rfl (i_zipL z_zip (q_a (q_v 1) (q_a (q_fn F_fitting (hr.mono (by decide)) (q_a (q_ix x_tup (q_v 0) q_int) (q_a (q_v 1) q_a0))) q_a0))) (fun _ _ _ _ => gK_tup (K := K) (n := 2) rfl rfl (gs_1 (g_name (i := 0) (show (["row", "fits"] : List Str).Nodup by decide +kernel)) (gs_1 (g_name (i := 1) (show (["row", "fits"] : List Str).Nodup by decide +kernel)) gs_0))) (gk_tup (gks_cons (gk_name (by decide)) gm_name (gks_cons (gk_name (by decide)) gm_name gks_nil gms_nil) (gms_cons gm_name gms_nil))) (fun _ _ _ _ => (if_1 (t_val (q_v 1)))) (fun _ _ _ _ => (q_v 0)))
      (b_c (s_if (t_cmp o_eq (q_v 2) q_str) (b_1 (s_ret (q_if (t_val (q_ix x_tup (q_v 0) q_int)) (q_listRev rfl z_list z_reversed (q_a (q_v 3) q_a0)) (q_v 3)))) b_0)
      (b_c (s_if (t_val (q_ix x_tup (q_v 0) q_int)) (b_1 (s_ret (q_sortCR (j := 2) z_sorted rfl C B (lam1_asked F_lam) (hr.mono (by decide)) (q_a (q_v 3) q_a0) q_bl rfl rfl rfl rfl))) b_0)
      (b_1 (s_ret (q_sortC (j := 2) z_sorted rfl C B (lam2_asked F_lam) (hr.mono (by decide)) (q_a (q_v 3) q_a0) rfl rfl rfl rfl))))))), ?_⟩
  refine ⟨_, rfl, qa, _, _, _, rfl, rfl, SqT.of eq, rfl, ?_⟩
  refine ⟨_, rfl, _, rfl, qa, _, _, _, rfl, rfl, SqT.of eq, at0, _, rfl, c, l, refs L, rfl, ec, hL.1, by rw [refs_len]; exact hz, fun p1 H1 s1 e1 => ?_⟩
  refine ⟨l, p1, refs L, _, rfl, SqL.of (s1 _ _ hL.1), SqL.of e1, by rw [List.length_map], ?_⟩
  refine comp_any (N := L.length) (fun _ => true) (fun i => .ref (adAt L i)) (by omega) (fun i H2 hi s2 => ?_) (fun H2 s2 => ?_) (fun i H2 x H3 hi s2 y A B kA kB => ?_) (fun p2 H2 s2 g2 => ?_)
  · exact ⟨by rw [refs_len]; exact hi, SqL.of (s2 _ _ (s1 _ _ hL.1)), SqL.of (s2 _ _ e1)⟩
  · exact ⟨by rw [refs_len], SqL.of (s2 _ _ (s1 _ _ hL.1)), SqL.of (s2 _ _ e1)⟩
  · obtain ⟨T', p, q', hT, hx, hy, rfl, rfl⟩ := y
    have s3 := same_new hT (.tup [p, q'])
    obtain ⟨hk, rfl⟩ := refs_get hx
    obtain rfl : q' = V.bl true := by
      rw [List.getElem?_map] at hy
      obtain ⟨_, _, z⟩ := Option.map_eq_some_iff.mp hy
      exact z.symm
    exact ⟨T', [_, _], rfl, SqT.of upd_same, rfl, _, [_], rfl, _, [], rfl, rfl, _, rfl, _, rfl, iteT ⟨_, rfl, kA rfl _ s3⟩⟩
  have ef : (((List.range L.length).filter fun _ => true).map fun i => V.ref (adAt L i)) = refs L := by
    rw [List.filter_eq_self.mpr (fun _ _ => rfl)]
    exact refs_range L
  rw [ef]
  have w2 := (s1.trans s2).trans (same_new g2 (.lst (refs L)))
  have d2 : H p2 = none := none_back (s1.trans s2) g2
  have e2 : upd H2 p2 (.lst (refs L)) p2 = some (.lst (refs L)) := upd_same
  generalize upd H2 p2 (.lst (refs L)) = H3 at w2 e2 ⊢
  have sEq : ∀ {y : Str}, (V.str k = V.str y) → k = y := fun {y} z => V.str.inj z
  refine ⟨_, rfl, rfl, _, rfl, iteD (fun c1 => ?_) (fun c1 => ?_)⟩
  · have hk := sEq c1
    subst hk
    refine ⟨_, rfl, qa, _, _, _, rfl, rfl, SqT.of (w2 _ _ eq), rfl, _, rfl, ?_⟩
    cases b with
    | true =>
      refine iteT ⟨_, rfl, p2, refs L, rfl, SqL.of e2, fun p4 g4 => ?_⟩
      have w4 := w2.trans (same_new g4 (.lst (refs L).reverse))
      refine q p4 _ L.reverse ?_ (.of w4) (lamTab_same tab w4) (by rw [upd_same]; unfold refs; rw [List.map_reverse]) (none_back w2 g4)
      unfold Told
      rw [if_pos rfl]
      rfl
    | false =>
      refine iteF ⟨_, rfl, ?_⟩
      refine q p2 _ L ?_ (.of w2) (lamTab_same tab w2) e2 d2
      unfold Told
      rw [if_pos rfl]
      rfl
  have hk : k ≠ "place" := fun z => c1 (by rw [z])
  have fin : ∀ (b' : Bool), b = b' → ∀ (p : Array Nat) (H4 : Hp) (D : Addr), POk (refs L).length p → LS (fun i j => HT.lexLt ((katRev b' ((L.map fun x => keyOf k x.2).map SKey.nums)).getD i []) ((katRev b' ((L.map fun x => keyOf k x.2).map SKey.nums)).getD j [])) p (refs L).length → SameT T H3 H4 → LamTab qLam T (lamP (if b' then lamX1 else lamX2)) H4 → H4 D = none →
      Q (.ref D) (upd H4 D (.lst (katRev b' (p.toList.map fun i => (katRev b' (refs L)).getD i .non)))) := by
    rintro b' rfl p H4 D hp hs sT t4 g4
    have hpl : ∀ i ∈ p.toList, i < L.length := fun i hi => by
      have := (hp.mem_iff).mp (Array.mem_toList_iff.mp hi)
      rw [refs_len] at this
      simpa using this
    have nD : H3 D = none := by
      cases e : H3 D with
      | none => rfl
      | some o =>
        by_cases z : D = T
        · obtain ⟨ps, e1, _⟩ := t4
          rw [z, e1] at g4
          cases g4
        · rw [sT _ _ e z] at g4
          cases g4
    refine q D _ (katRev b (p.toList.map fun i => (katRev b L).getD i (0, R0))) ?_ ((SameT.of w2).trans (sT.trans (.of (same_new g4 _)))) (lamTab_same t4 (same_new g4 _)) (by rw [upd_same, refs_rev, refs_pick b L _ hpl]) (none_back w2 nD)
    unfold Told
    rw [if_neg hk]
    rw [refs_len] at hp hs
    rw [List.map_map] at hs
    exact ⟨p, hp, hs, rfl⟩
  refine ⟨_, rfl, qa, _, _, _, rfl, rfl, SqT.of (w2 _ _ eq), rfl, _, rfl, ?_⟩
  cases b with
  | true =>
    refine iteT ⟨_, rfl, p2, refs L, L.map fun x => keyOf k x.2, _, rfl, rfl, e2, by rw [refs_len]; omega, by rw [List.length_map, refs_len], ?_, lamTab_same tab w2, fun i v key H' hv hkey sm R kR => ?_, fin true rfl⟩
    · exact alike_keys k L
    · exact lam_spec (l := l) (lamTab_same tab w2) (fun x hx => (hL.2 x hx).ts (Same.ts w2)) hlen hv hkey sm kR
  | false =>
    refine iteF ⟨_, rfl, p2, refs L, L.map fun x => keyOf k x.2, _, rfl, rfl, e2, by rw [refs_len]; omega, by rw [List.length_map, refs_len], ?_, lamTab_same tab w2, fun i v key H' hv hkey sm R kR => ?_, fin false rfl⟩
    · exact alike_keys k L
    · exact lam_spec (l := l) (lamTab_same tab w2) (fun x hx => (hL.2 x hx).ts (Same.ts w2)) hlen hv hkey sm kR
/-! ### what is told, by numbers -/
theorem lex_tot : ∀ {a b : List Int}, HT.lexLt a b = false → HT.lexLt b a = false → a = b
  | [], [], _, _ => rfl
  | [], _ :: _, h, _ => by cases h
  | _ :: _, [], _, h => by cases h
  | x :: a, y :: b, h, k => by
    rw [HT.lexLt_cons] at h k
    by_cases e : x = y
    · subst e
      rw [if_pos rfl] at h k
      rw [lex_tot h k]
    · rw [if_neg e] at h
      rw [if_neg (fun z => e z.symm)] at k
      have h' := of_decide_eq_false h
      have k' := of_decide_eq_false k
      omega
def nm (k : Str) (L : LT) (i : Nat) : List Int := (keyOf k (L.getD i (0, R0)).2).nums
/-- u stands ahead of v -/
def Fol (k : Str) (b : Bool) (L : LT) (u v : Nat) : Prop :=
  if k = "place" then (if b = true then v < u else u < v) else if b = true then HT.lexLt (nm k L u) (nm k L v) = false ∧ (HT.lexLt (nm k L v) (nm k L u) = true ∨ u < v) else HT.lexLt (nm k L v) (nm k L u) = false ∧ (HT.lexLt (nm k L u) (nm k L v) = true ∨ u < v)
theorem fol_as {k : Str} {b : Bool} {L : LT} {u v : Nat} (h : Fol k b L u v) (g : Fol k b L v u) : False := by
  unfold Fol at h g
  split at h
  · split at h
    · rw [if_pos ‹_›, if_pos ‹_›] at g
      omega
    · rw [if_pos ‹_›, if_neg ‹_›] at g
      omega
  · rw [if_neg ‹_›] at g
    split at h
    · rw [if_pos ‹_›] at g
      obtain ⟨h1, h2⟩ := h
      obtain ⟨g1, g2⟩ := g
      rw [g1] at h2
      rw [h1] at g2
      simp at h2 g2
      omega
    · rw [if_neg ‹_›] at g
      obtain ⟨h1, h2⟩ := h
      obtain ⟨g1, g2⟩ := g
      rw [g1] at h2
      rw [h1] at g2
      simp at h2 g2
      omega
theorem pw_uniq {R : Nat → Nat → Prop} (as : ∀ u v, R u v → R v u → False) : ∀ {a b : List Nat}, a.Perm b → a.Pairwise R → b.Pairwise R → a = b
  | [], b, p, _, _ => (List.nil_perm.mp p).symm
  | x :: a, [], p, _, _ => absurd p.length_eq (by simp)
  | x :: a, y :: b, p, ha, hb => by
    have e : x = y := by
      by_cases e : x = y
      · exact e
      · have h1 : x ∈ b := by
          rcases List.mem_cons.mp (p.mem_iff.mp List.mem_cons_self) with z | z
          · exact absurd z e
          · exact z
        have h2 : y ∈ a := by
          rcases List.mem_cons.mp (p.mem_iff.mpr List.mem_cons_self) with z | z
          · exact absurd z.symm e
          · exact z
        exact (as _ _ ((List.pairwise_cons.mp ha).1 _ h2) ((List.pairwise_cons.mp hb).1 _ h1)).elim
    subst e
    rw [pw_uniq as (List.perm_cons _ |>.mp p) (List.pairwise_cons.mp ha).2 (List.pairwise_cons.mp hb).2]
def pick (L : LT) (ix : List Nat) : LT := ix.map fun i => L.getD i (0, R0)
theorem pick_range (L : LT) : pick L (List.range L.length) = L := by
  refine List.ext_getElem? fun i => ?_
  unfold pick
  rw [List.getElem?_map]
  by_cases h : i < L.length
  · rw [List.getElem?_range h]
    show some (L.getD i (0, R0)) = _
    rw [List.getD_eq_getElem?_getD, List.getElem?_eq_getElem h]
    rfl
  · rw [List.getElem?_eq_none (by simpa using h), List.getElem?_eq_none (by omega)]
    rfl
theorem rev_getD (L : LT) {i : Nat} (h : i < L.length) : L.reverse.getD i (0, R0) = L.getD (L.length - 1 - i) (0, R0) := by
  rw [List.getD_eq_getElem?_getD, List.getD_eq_getElem?_getD, List.getElem?_reverse h]
theorem nm_get (k : Str) (L : LT) {i : Nat} (h : i < L.length) : (L.map fun x => (keyOf k x.2).nums).getD i [] = nm k L i := by
  unfold nm
  rw [List.getD_eq_getElem?_getD, List.getD_eq_getElem?_getD, List.getElem?_map, List.getElem?_eq_getElem h]
  rfl
theorem nm_rev (k : Str) (L : LT) {i : Nat} (h : i < L.length) : (L.map fun x => (keyOf k x.2).nums).reverse.getD i [] = nm k L (L.length - 1 - i) := by
  rw [← nm_get k L (by omega), List.getD_eq_getElem?_getD, List.getD_eq_getElem?_getD, List.getElem?_reverse (by rw [List.length_map]; exact h), List.length_map]
theorem told_ix {k : Str} {b : Bool} {L M : LT} (h : Told k b L M) : ∃ ix : List Nat, ix.Perm (List.range L.length) ∧ ix.Pairwise (Fol k b L) ∧ M = pick L ix := by
  unfold Told at h
  by_cases hk : k = "place"
  · rw [if_pos hk] at h
    cases b with
    | false =>
      refine ⟨List.range L.length, .refl _, List.pairwise_lt_range.imp fun {u v} z => ?_, by rw [pick_range]; exact h⟩
      unfold Fol
      rw [if_pos hk, if_neg (by decide)]
      exact z
    | true =>
      refine ⟨(List.range L.length).reverse, List.reverse_perm _, List.pairwise_reverse.mpr (List.pairwise_lt_range.imp fun {u v} z => ?_), ?_⟩
      · unfold Fol
        rw [if_pos hk, if_pos rfl]
        exact z
      · unfold pick
        rw [List.map_reverse, show (List.range L.length).map (fun i => L.getD i (0, R0)) = L from pick_range L]
        exact h
  · rw [if_neg hk] at h
    obtain ⟨p, hp, hs, hM⟩ := h
    have hpl : p.toList.Perm (List.range L.length) := by
      have : p.Perm (List.range L.length).toArray := hp
      simpa using this.toList
    have hlt : ∀ i ∈ p.toList, i < L.length := fun i hi => by
      have := hpl.mem_iff.mp hi
      simpa using this
    have hsz : p.size = L.length := by
      have := hpl.length_eq
      simpa using this
    have hg : ∀ a (ha : a < p.toList.length), gA p a = p.toList[a] := fun a ha => by
      unfold gA
      rw [Array.length_toList] at ha
      simp [ha]
    cases b with
    | false =>
      refine ⟨p.toList, hpl, List.pairwise_iff_getElem.mpr fun a c ha hc hac => ?_, hM⟩
      have := hs a c hac (by rw [← hsz]; simpa using hc)
      rw [hg a ha, hg c hc] at this
      obtain ⟨h1, h2⟩ := this
      have e1 := nm_get k L (hlt _ (List.getElem_mem ha))
      have e2 := nm_get k L (hlt _ (List.getElem_mem hc))
      unfold Fol
      rw [if_neg hk, if_neg (by decide), ← e1, ← e2]
      exact ⟨h1, h2⟩
    | true =>
      refine ⟨(p.toList.map fun i => L.length - 1 - i).reverse, ?_, List.pairwise_reverse.mpr (List.pairwise_map.mpr (List.pairwise_iff_getElem.mpr fun a c ha hc hac => ?_)), ?_⟩
      · refine (List.reverse_perm _).trans ((hpl.map _).trans ?_)
        have e : ((List.range L.length).map fun i => L.length - 1 - i) = (List.range L.length).reverse := by
          refine List.ext_getElem (by simp) fun i h1 h2 => ?_
          simp at h1 ⊢
        rw [e]
        exact List.reverse_perm _
      · have := hs a c hac (by rw [← hsz]; simpa using hc)
        rw [hg a ha, hg c hc] at this
        obtain ⟨h1, h2⟩ := this
        have l1 := hlt _ (List.getElem_mem ha)
        have l2 := hlt _ (List.getElem_mem hc)
        have e1 := nm_rev k L l1
        have e2 := nm_rev k L l2
        unfold Fol
        rw [if_neg hk, if_pos rfl, ← e1, ← e2]
        refine ⟨h1, h2.imp id fun z => ?_⟩
        omega
      · rw [hM]
        show (p.toList.map fun i => L.reverse.getD i (0, R0)).reverse = _
        unfold pick
        rw [List.map_reverse, List.map_map]
        congr 1
        refine List.map_congr_left fun i hi => ?_
        exact rev_getD L (hlt i hi)
theorem told_uniq {k : Str} {b : Bool} {L M M' : LT} (h : Told k b L M) (g : Told k b L M') : M = M' := by
  obtain ⟨ix, p1, w1, rfl⟩ := told_ix h
  obtain ⟨iy, p2, w2, rfl⟩ := told_ix g
  rw [pw_uniq (fun u v a b => fol_as a b) (p1.trans p2.symm) w1 w2]
def spCell (K : PySem.W.Frag) : Sp := fun vs H Q _ => ∃ (a : Addr) (ns : List Int) (k : Int), vs = [.ref a, .int k] ∧ SqL K H a (ns.map V.int) ∧ 0 ≤ k ∧ Q (.int (cellZ ns k.toNat)) H
def spText : Sp := fun vs H Q _ => ∃ n : Int, vs = [.int n] ∧ ∀ (t : Str) H', Same H H' → PyData.strOk t = true → t.length ≤ 63 → Q (.str t) H'
/-- as the law deals rows -/
def Fine (L : LT) : Prop := ∀ k, k < L.length → ((rwAt L k).n = 1 + (k : Int) ∨ (rwAt L k).n = 201 - (k : Int)) ∧ (∀ i, (rwAt L k).w = some i → 0 ≤ i ∧ i < 8) ∧ (rwAt L k).t.length ≤ 63
def spRows : Sp := fun vs H Q _ => ∃ (a : Addr) (cs : List Int), vs = [.ref a] ∧ H a = some (.lst (cs.map V.int)) ∧ cs.length ≤ 50 ∧ ∀ p H' L, Same H H' → LR H' p L → L.length ≤ 50 → Fine L → Q (.ref p) H'
abbrev s_cell_at : Stmt := top 15
abbrev N_cell_at : List Str := ["_law_script", "_law_k"]
theorem sc_cell_at : FnScope N_cell_at ["_law_script", "_law_k"] (defScope s_cell_at) := ⟨rfl, rfl, rfl, by decide +kernel, rfl, by decide +kernel, by decide +kernel⟩
theorem ok_cell_at {f : Addr} {fd : FuncData} (F : Fun K "_law_cell_at" "_law_cell_at" s_cell_at f fd) (z_len : mg "len" = none) : FnOk P w K mg base CX0 1 f fd ["_law_script", "_law_k"] (spCell K) := by
  refine F.okQ sc_cell_at (fun vs H Q E h => ?_) (fun cdv A outer s H vs Q E hr h => ?_)
  · obtain ⟨a, ns, k, rfl, _⟩ := h
    rfl
  obtain ⟨a, ns, k, rfl, hS, h0, q⟩ := h
  refine ⟨_, (b_c (s_if (t_cmp o_lt (q_v 1) (q_B c_len z_len PySem.boot_len (q_a (q_v 0) q_a0))) (b_1 (s_ret (q_ix x_list (q_v 0) (q_v 1)))) b_0)
      (b_1 (s_ret q_int))), ?_⟩
  refine ⟨_, rfl, _, rfl, a, _, rfl, .inl hS, _, _, rfl, rfl, _, rfl, ?_⟩
  refine ite2 (fun c => ?_) (fun c => ?_)
  · have c' : k < ((ns.map V.int).length : Int) := of_decide_eq_true c
    rw [List.length_map] at c'
    exact ⟨_, rfl, _, rfl, a, _, _, _, rfl, rfl, hS, atI_cell h0 c', q⟩
  · have c' : ¬ k < ((ns.map V.int).length : Int) := of_decide_eq_false (Bool.eq_false_iff.mpr c)
    rw [List.length_map] at c'
    rw [cell_out h0 c'] at q
    exact q
theorem len_app (x y : Str) : (x ++ y).length = x.length + y.length := by
  show (x.cps ++ y.cps).size = _
  rw [Array.size_append]
  rfl
theorem ok_app {x y : Str} (h1 : PyData.strOk x = true) (h2 : PyData.strOk y = true) : PyData.strOk (x ++ y) = true := by
  show (x.cps ++ y.cps).all (· < 0x110000) = true
  rw [Array.all_append, Bool.and_eq_true]
  exact ⟨h1, h2⟩
theorem ok_sub {x y : Str} (h : PyData.strOk x = true) (hs : ∀ c ∈ y.cps.toList, c ∈ x.cps.toList) : PyData.strOk y = true := by
  unfold PyData.strOk at h ⊢
  rw [← Array.all_toList, List.all_eq_true] at h ⊢
  exact fun c hc => h c (hs c hc)
abbrev s_text : Stmt := top 16
abbrev N_text : List Str := ["_law_number", "_law_some"]
theorem sc_text : FnScope N_text ["_law_number"] (defScope s_text) := ⟨rfl, rfl, rfl, by decide +kernel, rfl, by decide +kernel, by decide +kernel⟩
theorem ok_text {f : Addr} {fd : FuncData} (F : Fun K "_law_text" "_law_text" s_text f fd) : FnOk P w K mg base CX0 1 f fd ["_law_number"] spText := by
  refine F.okQ sc_text (fun vs H Q E h => ?_) (fun cdv A outer s H vs Q E hr h => ?_)
  · obtain ⟨n, rfl, _⟩ := h
    rfl
  obtain ⟨n, rfl, q⟩ := h
  refine ⟨_, (b_c (s_set (i := 1) sc_text.nd (q_lst (q_a q_str (q_a q_str (q_a q_str (q_a q_str (q_a q_str (q_a q_str (q_a q_str (q_a q_str (q_a q_str (q_a q_str (q_a q_str (q_a q_str q_a0))))))))))))))
      (b_c (s_if (t_cmp o_eq (q_op o_mod (q_op o_fdiv (q_v 0) q_int) q_int) q_int) (b_1 (s_ret (q_op o_addS (q_op o_addS (q_op o_mulT q_str (q_op o_mod (q_op o_fdiv (q_v 0) q_int) q_int)) (q_ix x_list (q_v 1) (q_op o_mod (q_v 0) q_int))) (q_op o_mulT q_str (q_op o_mod (q_op o_fdiv (q_v 0) q_int) q_int))))) b_0)
      (b_1 (s_ret (q_ix x_list (q_v 1) (q_op o_mod (q_v 0) q_int)))))), ?_⟩
  refine ⟨size63 (Nat.le_of_ble_eq_true rfl), fun p g => ?_⟩
  have w1 := same_new g (.lst [.str "", .str "a", .str "b", .str "ab", .str "b a", .str "a b c", .str "B", .str "ab ab", .str "or", .str "not a", .str "( a )", .str "a(b"])
  have k0 := Int.emod_nonneg n (show (12 : Int) ≠ 0 by decide)
  have k1 := Int.emod_lt_of_pos n (show (0 : Int) < 12 by decide)
  obtain ⟨t, ht, hok, hlen⟩ : ∃ t : Str, atI [V.str "", .str "a", .str "b", .str "ab", .str "b a", .str "a b c", .str "B", .str "ab ab", .str "or", .str "not a", .str "( a )", .str "a(b"] (n % 12) = some (.str t) ∧ PyData.strOk t = true ∧ t.length ≤ 5 := by
    have : n % 12 = 0 ∨ n % 12 = 1 ∨ n % 12 = 2 ∨ n % 12 = 3 ∨ n % 12 = 4 ∨ n % 12 = 5 ∨ n % 12 = 6 ∨ n % 12 = 7 ∨ n % 12 = 8 ∨ n % 12 = 9 ∨ n % 12 = 10 ∨ n % 12 = 11 := by omega
    rcases this with e | e | e | e | e | e | e | e | e | e | e | e <;> rw [e] <;> exact ⟨_, rfl, by decide +kernel, by decide +kernel⟩
  have j0 := Int.emod_nonneg (n / 60) (show (30 : Int) ≠ 0 by decide)
  have j1 := Int.emod_lt_of_pos (n / 60) (show (0 : Int) < 30 by decide)
  refine ⟨_, rfl, _, _, rfl, rfl, ⟨by decide, by decide⟩, _, _, rfl, rfl, (by show (0 : Int) < 5; decide), rfl, _, rfl, iteI (fun c => ?_) (fun c => ?_)⟩
  · refine ⟨_, rfl, _, _, rfl, rfl, ⟨by decide, by decide⟩, _, _, rfl, rfl, (by show (0 : Int) < 30; decide), "a", _, rfl, rfl, (by decide +kernel), j0, by omega, fun y ly hy => ?_⟩
    refine ⟨_, rfl, _, rfl, _, _, rfl, rfl, (by show (0 : Int) < 12; decide), p, _, _, _, rfl, rfl, SqL.of upd_same, ht, _, _, rfl, rfl, size63 (by rw [ly]; omega), ?_⟩
    refine ⟨_, rfl, _, _, rfl, rfl, ⟨by decide, by decide⟩, _, _, rfl, rfl, (by show (0 : Int) < 30; decide), "b", _, rfl, rfl, (by decide +kernel), j0, by omega, fun z lz hz => ?_⟩
    refine ⟨_, _, rfl, rfl, size63 (by rw [len_app, ly, lz]; omega), q _ _ w1 (ok_app (ok_app (ok_sub (by decide +kernel) hy) hok) (ok_sub (by decide +kernel) hz)) (by rw [len_app, len_app, ly, lz]; omega)⟩
  · exact ⟨_, rfl, _, rfl, _, _, rfl, rfl, (by show (0 : Int) < 12; decide), p, _, _, _, rfl, rfl, SqL.of upd_same, ht, q _ _ w1 hok (by omega)⟩

theorem rw_left {L : LT} {x : Addr × Rw} {j : Nat} (h : j < L.length) : rwAt (L ++ [x]) j = rwAt L j := by
  unfold rwAt
  rw [List.getElem?_append_left h]
theorem rw_right {L : LT} {x : Addr × Rw} : rwAt (L ++ [x]) L.length = x.2 := by
  unfold rwAt
  rw [List.getElem?_append_right (Nat.le_refl _), Nat.sub_self]
  rfl
theorem fine_snoc {L : LT} {x : Addr × Rw} (g : Fine L) (h1 : x.2.n = 1 + (L.length : Int) ∨ x.2.n = 201 - (L.length : Int)) (h2 : ∀ i, x.2.w = some i → 0 ≤ i ∧ i < 8) (h3 : x.2.t.length ≤ 63) : Fine (L ++ [x]) := fun k hk => by
  rw [List.length_append, List.length_singleton] at hk
  by_cases c : k < L.length
  · rw [rw_left c]
    exact g k c
  · have e : k = L.length := by omega
    subst e
    rw [rw_right]
    exact ⟨h1, h2, h3⟩
abbrev s_rows : Stmt := top 17
abbrev N_rows : List Str := ["_law_cells", "_law_rows_here", "_law_deepest", "_law_k", "_law_cell", "_law_number", "_law_depth", "_law_name", "_law_whom"]
theorem sc_rows : FnScope N_rows ["_law_cells"] (defScope s_rows) := ⟨rfl, rfl, rfl, by decide +kernel, rfl, by decide +kernel, by decide +kernel⟩
theorem ok_rows {f : Addr} {fd : FuncData} (F : Fun K "_law_rows" "_law_rows" s_rows f fd) (F_text : Fn P w K mg base 1 "_law_text" ["_law_number"] spText) (z_enumerate : mg "enumerate" = none) (z_min : mg "min" = none) (z_int : mg "int" = none) : FnOk P w K mg base CX0 2 f fd ["_law_cells"] spRows := by
  refine F.okQ sc_rows (fun vs H Q E h => ?_) (fun cdv A outer s H vs Q E hr h => ?_)
  · obtain ⟨a, cs, rfl, _⟩ := h
    rfl
  obtain ⟨a, cs, rfl, hS, hz, q⟩ := h
  refine ⟨_, (b_c (s_set (i := 1) sc_rows.nd (q_lst q_a0))
      (b_c (s_set (i := 2) sc_rows.nd q_int)
      (b_c (s_for PassesOwn.never rfl (i_enum z_enumerate (q_a (q_v 0) q_a0)) (g_tup rfl (gs_1 (g_name (i := 3) sc_rows.nd) (gs_1 (g_name (i := 4) sc_rows.nd) gs_0))) (b_c (s_set (i := 5) sc_rows.nd (q_op o_mod (q_op o_mul (q_op o_mod (q_v 4) q_int) q_int) q_int))
      (b_c (s_set (i := 6) sc_rows.nd (q_op o_sub (q_v 2) (q_B (c_min rfl) z_min boot_min (q_a (q_op o_mod (q_v 4) q_int) (q_a (q_v 2) q_a0)))))
      (b_c (s_set (i := 7) sc_rows.nd (q_tup (q_a (q_op o_mod (q_v 5) q_int) (q_a (q_op o_add q_int (q_ix x_list (q_lst (q_a (q_v 3) (q_a (q_op o_sub q_int (q_v 3)) q_a0))) (q_op o_mod (q_op o_fdiv (q_v 5) q_int) q_int))) q_a0))))
      (b_c (s_set (i := 8) sc_rows.nd (q_ix x_list (q_lst (q_a q_non (q_a (q_op o_mod (q_op o_fdiv (q_v 5) q_int) q_int) q_a0))) (q_Ty c_int z_int boot_int (q_a (q_cmp o_gt (q_op o_mod (q_op o_fdiv (q_v 5) q_int) q_int) q_int) q_a0))))
      (b_c (s_expr (q_app (q_v 1) (q_tup (q_a (q_v 6) (q_a (q_v 7) (q_a (q_fn F_text (hr.mono (by decide)) (q_a (q_op o_fdiv (q_v 4) q_int) q_a0)) (q_a (q_cmp o_eq (q_op o_mod (q_op o_fdiv (q_v 5) q_int) q_int) q_int) (q_a (q_v 8) (q_a (q_cmp o_eq (q_op o_mod (q_op o_fdiv (q_v 5) q_int) q_int) q_int) q_a0)))))))))
      (b_1 (s_set (i := 2) sc_rows.nd (q_op o_add (q_v 6) q_int)))))))))
      (b_1 (s_ret (q_v 1)))))), ?_⟩
  refine ⟨size63 (Nat.le_of_ble_eq_true rfl), fun p g => ?_⟩
  have w1 := same_new g (.lst [])
  refine ⟨_, rfl, a, _, rfl, w1 _ _ hS, ?_⟩
  refine for_enum (K := K) (xs := cs.map V.int) (fun k σ H' => Same H H' ∧ ∃ (L : LT) (nx : Nat) (o3 o4 o5 o6 o7 o8 : Option V), LR H' p L ∧ L.length = k ∧ Fine L ∧ σ = [some (.ref a), some (.ref p), some (.int (nx : Int)), o3, o4, o5, o6, o7, o8]) ⟨w1, [], 0, none, none, none, none, none, none, ⟨upd_same, fun x hx => nomatch hx⟩, rfl, fun k hk => absurd hk (Nat.not_lt_zero _), rfl⟩ (fun i σ H' _ z => SqL.of (z.1 _ _ hS)) ?_ ?_
  · rintro k x σ H' hx ⟨sm, L, nx, o3, o4, o5, o6, o7, o8, hL, ll, gd, rfl⟩ T hT
    rw [List.getElem?_map] at hx
    obtain ⟨c, hc, rfl⟩ := Option.map_eq_some_iff.mp hx
    have hk : k < cs.length := (List.getElem?_eq_some_iff.mp hc).1
    have wT := same_new hT (.tup [.int (k : Int), .int c])
    have sm1 := sm.trans wT
    have hL1 := hL.same wT
    generalize upd H' T (.tup [.int (k : Int), .int c]) = H1 at sm1 hL1 ⊢
    refine ⟨_, rfl, _, _, rfl, rfl, (by show (0 : Int) < 1000003; decide), _, _, rfl, rfl, .inr ⟨by decide, by decide⟩, _, _, rfl, rfl, (by show (0 : Int) < 2147483647; decide), ?_⟩
    dsimp (config := { proj := false, iota := false, eta := false, zeta := false }) only
    generalize c % 1000003 * 48271 % 2147483647 = nu
    refine ⟨_, rfl, _, rfl, _, _, rfl, rfl, (by show (0 : Int) < 4; decide), _, rfl, _, _, rfl, _, _, rfl, rfl, ?_⟩
    have c0 := Int.emod_nonneg c (show (4 : Int) ≠ 0 by decide)
    dsimp (config := { proj := false, iota := false, eta := false, zeta := false }) only
    obtain ⟨dd, hdd, dle⟩ : ∃ dd : Nat, (dd : Int) = (nx : Int) - (if (nx : Int) < c % 4 then (nx : Int) else c % 4) ∧ dd ≤ nx := ⟨((nx : Int) - (if (nx : Int) < c % 4 then (nx : Int) else c % 4)).toNat, by split <;> omega, by split <;> omega⟩
    rw [← hdd]
    have m0 := Int.emod_nonneg (nu / 8) (show (2 : Int) ≠ 0 by decide)
    have m1 := Int.emod_lt_of_pos (nu / 8) (show (0 : Int) < 2 by decide)
    obtain ⟨nv, hnv, hnv2⟩ : ∃ nv, atI [V.int (k : Int), V.int (200 - (k : Int))] (nu / 8 % 2) = some (.int nv) ∧ (nv = (k : Int) ∨ nv = 200 - (k : Int)) := by
      have : nu / 8 % 2 = 0 ∨ nu / 8 % 2 = 1 := by omega
      rcases this with e | e
      · rw [e]; exact ⟨_, rfl, .inl rfl⟩
      · rw [e]; exact ⟨_, rfl, .inr rfl⟩
    refine ⟨_, rfl, _, _, rfl, rfl, (by show (0 : Int) < 8; decide), _, rfl, _, rfl, _, _, rfl, rfl, size63 (Nat.le_of_ble_eq_true rfl), fun p1 g1 => ?_⟩
    have v1 := same_new g1 (.lst [.int (k : Int), .int (200 - (k : Int))])
    refine ⟨_, rfl, _, _, rfl, rfl, ⟨by decide, by decide⟩, _, _, rfl, rfl, (by show (0 : Int) < 2; decide), p1, _, _, _, rfl, rfl, SqL.of upd_same, hnv, _, _, rfl, rfl, size63 (Nat.le_of_ble_eq_true rfl), fun p2 g2 => ?_⟩
    have v2 := v1.trans (same_new g2 (.tup [.int (nu % 8), .int (1 + nv)]))
    have en : upd (upd H1 p1 (.lst [.int (k : Int), .int (200 - (k : Int))])) p2 (.tup [.int (nu % 8), .int (1 + nv)]) p2 = some (.tup [.int (nu % 8), .int (1 + nv)]) := upd_same
    generalize upd (upd H1 p1 (.lst [.int (k : Int), .int (200 - (k : Int))])) p2 (.tup [.int (nu % 8), .int (1 + nv)]) = H2 at v2 en ⊢
    refine ⟨_, rfl, _, _, rfl, rfl, ⟨by decide, by decide⟩, _, _, rfl, rfl, (by show (0 : Int) < 8; decide), size63 (Nat.le_of_ble_eq_true rfl), fun p3 g3 => ?_⟩
    have v3 := same_new g3 (.lst [.non, .int (nu / 64 % 8)])
    obtain ⟨wo, hwo, hwo2⟩ : ∃ wo : Option Int, atI [V.non, V.int (nu / 64 % 8)] (if decide (0 < nu / 16 % 3) = true then 1 else 0) = some (whV wo) ∧ ∀ i, wo = some i → 0 ≤ i ∧ i < 8 := by
      split
      · exact ⟨some _, rfl, fun i z => by cases z; exact ⟨Int.emod_nonneg _ (by decide), Int.emod_lt_of_pos _ (by decide)⟩⟩
      · exact ⟨none, rfl, fun i z => nomatch z⟩
    refine ⟨_, rfl, _, _, rfl, rfl, ⟨by decide, by decide⟩, _, _, rfl, rfl, (by show (0 : Int) < 3; decide), _, _, rfl, rfl, .inr ⟨_, rfl, p3, _, _, _, rfl, rfl, SqL.of upd_same, hwo, ?_⟩⟩
    have V3 := v2.trans v3
    have hL3 := hL1.same V3
    have en3 := v3 _ _ en
    have S3 := sm1.trans V3
    generalize upd H2 p3 (.lst [.non, .int (nu / 64 % 8)]) = H3 at hL3 en3 S3 ⊢
    refine ⟨_, rfl, .inl ⟨rfl, _, SqL.of hL3.1⟩, _, rfl, _, rfl, _, rfl, _, _, rfl, rfl, ⟨by decide, by decide⟩, _, rfl, fun t H5 s5 hok hlen => ?_⟩
    refine ⟨_, rfl, _, _, rfl, rfl, ⟨by decide, by decide⟩, _, _, rfl, rfl, (by show (0 : Int) < 2; decide), rfl, _, rfl, _, rfl, _, _, rfl, rfl, ⟨by decide, by decide⟩, _, _, rfl, rfl, (by show (0 : Int) < 3; decide), rfl, size63 (Nat.le_of_ble_eq_true rfl), fun p6 g6 => ?_⟩
    generalize decide (V.int (nu / 48 % 2) = V.int 1) = b1 at g6 ⊢
    generalize decide (V.int (nu / 96 % 3) = V.int 1) = b2 at g6 ⊢
    have v6 := same_new g6 (.tup [.int (dd : Int), .ref p2, .str t, .bl b1, whV wo, .bl b2])
    have V6 := s5.trans v6
    have hL6 := hL3.same V6
    have hrow : RR (upd H5 p6 (.tup [.int (dd : Int), .ref p2, .str t, .bl b1, whV wo, .bl b2])) p6 ⟨dd, nu % 8, 1 + nv, t, b1, wo, b2⟩ := ⟨p2, upd_same, V6 _ _ en3, hok⟩
    have S6 := S3.trans V6
    generalize upd H5 p6 (.tup [.int (dd : Int), .ref p2, .str t, .bl b1, whV wo, .bl b2]) = H6 at hL6 hrow S6 ⊢
    refine ⟨p, _, _, rfl, rfl, hL6.1, small1000 (by rw [refs_len]; omega), ?_⟩
    refine ⟨_, rfl, _, _, rfl, rfl, ?_⟩
    have hn1 : (1 : Int) + nv = 1 + (L.length : Int) ∨ (1 : Int) + nv = 201 - (L.length : Int) := by
      rcases hnv2 with z | z
      · exact .inl (by omega)
      · exact .inr (by omega)
    have gd' := fine_snoc (x := (p6, ⟨dd, nu % 8, 1 + nv, t, b1, wo, b2⟩)) gd hn1 hwo2 hlen
    refine ⟨same_write S6 g, L ++ [(p6, ⟨dd, nu % 8, 1 + nv, t, b1, wo, b2⟩)], dd + 1, _, _, _, _, _, _, ⟨by rw [upd_same]; unfold refs; rw [List.map_append]; rfl, fun x hx => ?_⟩, by simp [ll], gd', rfl⟩
    rcases List.mem_append.mp hx with hx | hx
    · exact (hL6.2 x hx).ts (ts_upd hL6.1)
    · rw [List.mem_singleton.mp hx]
      exact hrow.ts (ts_upd hL6.1)
  · rintro σ H' ⟨sm, L, nx, o3, o4, o5, o6, o7, o8, hL, ll, gd, rfl⟩
    rw [List.length_map] at ll
    exact ⟨_, rfl, q p H' L sm hL (by omega) gd⟩
/-! ### the law's key, and what follows what -/
def lkey (k : Str) (r : Rw) : V := if k = "text" then .str r.t else if k = "size" then .int r.t.length else if k = "depth" then .int r.d else match r.w with
  | none => .int 8
  | some i => .int i
def spKey : Sp := fun vs H Q _ => ∃ (k : Str) (a : Addr) (r : Rw), vs = [.str k, .ref a] ∧ RR H a r ∧ r.t.length ≤ 1000 ∧ Q (lkey k r) H
abbrev s_key : Stmt := top 18
abbrev N_key : List Str := ["_law_key_here", "_law_row"]
theorem sc_key : FnScope N_key ["_law_key_here", "_law_row"] (defScope s_key) := ⟨rfl, rfl, rfl, by decide +kernel, rfl, by decide +kernel, by decide +kernel⟩
theorem ok_key {f : Addr} {fd : FuncData} (F : Fun K "_law_key" "_law_key" s_key f fd) (z_len : mg "len" = none) : FnOk P w K mg base CX0 1 f fd ["_law_key_here", "_law_row"] spKey := by
  refine F.okQ sc_key (fun vs H Q E h => ?_) (fun cdv A outer s H vs Q E hr h => ?_)
  · obtain ⟨k, a, r, rfl, _⟩ := h
    rfl
  obtain ⟨k, a, r, rfl, ⟨p, e1, e2, _⟩, hlen, q⟩ := h
  refine ⟨_, (b_c (s_if (t_cmp o_eq (q_v 0) q_str) (b_1 (s_ret (q_ix x_tup (q_v 1) q_int))) b_0)
      (b_c (s_if (t_cmp o_eq (q_v 0) q_str) (b_1 (s_ret (q_B c_lenS z_len PySem.boot_len (q_a (q_ix x_tup (q_v 1) q_int) q_a0)))) b_0)
      (b_c (s_if (t_cmp o_eq (q_v 0) q_str) (b_1 (s_ret (q_ix x_tup (q_v 1) q_int))) b_0)
      (b_c (s_if (t_cmp o_isN (q_ix x_tup (q_v 1) q_int) q_non) (b_1 (s_ret q_int)) b_0)
      (b_1 (s_ret (q_ix x_tup (q_v 1) q_int))))))), ?_⟩
  unfold lkey at q
  refine ⟨_, rfl, rfl, _, rfl, iteD (fun c => ?_) (fun c => ?_)⟩
  · rw [if_pos (V.str.inj c)] at q
    exact ⟨_, rfl, a, _, _, _, rfl, rfl, SqT.of e1, rfl, q⟩
  rw [if_neg (fun z => c (by rw [z]))] at q
  refine ⟨_, rfl, rfl, _, rfl, iteD (fun c => ?_) (fun c => ?_)⟩
  · rw [if_pos (V.str.inj c)] at q
    exact ⟨_, rfl, a, _, _, _, rfl, rfl, SqT.of e1, rfl, r.t, rfl, hlen, q⟩
  rw [if_neg (fun z => c (by rw [z]))] at q
  refine ⟨_, rfl, rfl, _, rfl, iteD (fun c => ?_) (fun c => ?_)⟩
  · rw [if_pos (V.str.inj c)] at q
    exact ⟨_, rfl, a, _, _, _, rfl, rfl, SqT.of e1, rfl, q⟩
  rw [if_neg (fun z => c (by rw [z]))] at q
  refine ⟨_, rfl, a, _, _, _, rfl, rfl, SqT.of e1, rfl, rfl, _, rfl, ?_⟩
  cases hw : r.w with
  | none =>
    rw [hw] at q
    exact iteT q
  | some i =>
    rw [hw] at e1 q
    exact iteF ⟨_, rfl, a, _, _, _, rfl, rfl, SqT.of e1, rfl, q⟩
theorem key_lt {k : Str} {L : LT} (g : Fine L) {u v : Nat} (hu : u < L.length) (hv : v < L.length) : ltV (lkey k (rwAt L u)) (lkey k (rwAt L v)) = some (HT.lexLt (keyOf k (rwAt L u)).nums (keyOf k (rwAt L v)).nums) := by
  obtain ⟨_, w1, _⟩ := g u hu
  obtain ⟨_, w2, _⟩ := g v hv
  unfold lkey keyOf
  by_cases h1 : k = "text"
  · simp only [if_pos h1]
    exact congrArg some (lex_cps _ _).symm
  simp only [if_neg h1]
  by_cases h2 : k = "size"
  · simp only [if_pos h2]
    exact congrArg some (lex_one _ _).symm
  simp only [if_neg h2]
  by_cases h3 : k = "depth"
  · simp only [if_pos h3]
    exact congrArg some (lex_one _ _).symm
  simp only [if_neg h3]
  cases e1 : (rwAt L u).w with
  | none =>
    cases e2 : (rwAt L v).w with
    | none => rfl
    | some j =>
      have := w2 j e2
      show some (decide ((8 : Int) < j)) = some (HT.lexLt [1, 0] [0, j])
      rw [decide_eq_false (by omega)]
      rfl
  | some i =>
    have := w1 i e1
    cases e2 : (rwAt L v).w with
    | none =>
      show some (decide (i < (8 : Int))) = some (HT.lexLt [0, i] [1, 0])
      rw [decide_eq_true (by omega)]
      rfl
    | some j =>
      show some (decide (i < j)) = some (HT.lexLt [0, i] [0, j])
      rw [HT.lexLt_cons, if_pos rfl, lex_one]
theorem cps_inj : ∀ {a b : List Nat}, a.map Int.ofNat = b.map Int.ofNat → a = b
  | [], [], _ => rfl
  | [], _ :: _, h => by cases h
  | _ :: _, [], h => by cases h
  | x :: a, y :: b, h => by
    rw [List.map_cons, List.map_cons] at h
    obtain ⟨h1, h2⟩ := List.cons.inj h
    rw [Int.ofNat.inj h1, cps_inj h2]
theorem key_eq {k : Str} {L : LT} (g : Fine L) {u v : Nat} (hu : u < L.length) (hv : v < L.length) : lkey k (rwAt L u) = lkey k (rwAt L v) ↔ (keyOf k (rwAt L u)).nums = (keyOf k (rwAt L v)).nums := by
  obtain ⟨_, w1, _⟩ := g u hu
  obtain ⟨_, w2, _⟩ := g v hv
  unfold lkey keyOf
  by_cases h1 : k = "text"
  · simp only [if_pos h1]
    constructor
    · intro z
      rw [V.str.inj z]
    · intro z
      have := cps_inj z
      rw [show (rwAt L u).t = (rwAt L v).t from by
        cases e1 : (rwAt L u).t
        cases e2 : (rwAt L v).t
        rw [e1, e2] at this
        exact congrArg Str.mk (Array.toList_inj.mp this)]
  simp only [if_neg h1]
  by_cases h2 : k = "size"
  · simp only [if_pos h2]
    exact ⟨fun z => by rw [V.int.inj z], fun z => by rw [(List.cons.inj z).1]⟩
  simp only [if_neg h2]
  by_cases h3 : k = "depth"
  · simp only [if_pos h3]
    exact ⟨fun z => by rw [V.int.inj z], fun z => by rw [(List.cons.inj z).1]⟩
  simp only [if_neg h3]
  cases e1 : (rwAt L u).w with
  | none =>
    cases e2 : (rwAt L v).w with
    | none => exact ⟨fun _ => rfl, fun _ => rfl⟩
    | some j =>
      have := w2 j e2
      exact ⟨fun z => absurd (V.int.inj z) (by omega), fun z => absurd (List.cons.inj z).1 (by simp)⟩
  | some i =>
    have := w1 i e1
    cases e2 : (rwAt L v).w with
    | none => exact ⟨fun z => absurd (V.int.inj z) (by omega), fun z => absurd (List.cons.inj z).1 (by simp)⟩
    | some j =>
      exact ⟨fun z => by rw [V.int.inj z], fun z => by
        have := (List.cons.inj (List.cons.inj z).2).1
        rw [show i = j from this]⟩
/-! ### follows -/
theorem rw_n {r r' : Rw} (h : PyData.eqv (rwD r) (rwD r') = true) : r.n = r'.n := by
  unfold rwD at h
  simp [PyData.eqv, PyData.eqvAll] at h
  exact h.2.1.2
theorem rw_eqv {r : Rw} (h : PyData.strOk r.t = true) : PyData.eqv (rwD r) (rwD r) = true := SeqAt.eqv_refl _ (lay_rw h).1
theorem vals_get {L : LT} {i : Nat} (h : i < ((vals L).map rwD).length) : ((vals L).map rwD)[i] = rwD (rwAt L i) := by
  have h' : i < L.length := by rw [List.length_map, vals_len] at h; exact h
  apply Option.some.inj
  rw [← List.getElem?_eq_getElem h]
  unfold vals rwAt
  rw [List.getElem?_map, List.getElem?_map, List.getElem?_eq_getElem h']
  rfl
theorem row_shaped {r : Rw} (h : PyData.strOk r.t = true) : SeqAt.shaped (rwD r) = true := by
  have := lay_rw h
  unfold SeqAt.shaped
  simp [this.1, this.2]
def spFollows : Sp := fun vs H Q _ => ∃ (k : Str) (b : Bool) (l : Addr) (L : LT) (u v : Nat), vs = [.str k, .bl b, .ref (adAt L u), .ref (adAt L v), .ref l] ∧ LR H l L ∧ Fine L ∧ L.length ≤ 50 ∧ u < L.length ∧ v < L.length ∧ Fol k b L u v ∧ Q (.bl true) H
theorem index_at {H : Hp} {l : Addr} {L : LT} (hL : LR H l L) (g : Fine L) (hz : L.length ≤ 50) {u : Nat} (hu : u < L.length) : ∃ hj : u < ((vals L).map rwD).length, Dt H (rwD (rwAt L u)) (.ref (adAt L u)) ∧ DtAll H ((vals L).map rwD) (refs L) ∧ SeqAt.shaped (rwD (rwAt L u)) = true ∧ PyData.canLayAll0 ((vals L).map rwD) = true ∧ ((vals L).map rwD).length ≤ 1000 ∧ PyData.eqv ((vals L).map rwD)[u] (rwD (rwAt L u)) = true ∧ ∀ (i : Nat) (hi : i < u), PyData.eqv (((vals L).map rwD)[i]'(Nat.lt_trans hi hj)) (rwD (rwAt L u)) = false := by
  have hu' : u < ((vals L).map rwD).length := by rw [List.length_map, vals_len]; exact hu
  have ok : PyData.strOk (rwAt L u).t = true := let ⟨_, _, _, h⟩ := hL.at hu; h
  refine ⟨hu', (hL.at hu).dt, dt_rows hL.2, row_shaped ok, (lay_all hL.ok).1, by rw [List.length_map, vals_len]; omega, by rw [vals_get hu']; exact rw_eqv ok, fun i hi => ?_⟩
  have hi' : i < ((vals L).map rwD).length := Nat.lt_trans hi hu'
  rw [vals_get hi']
  cases e : PyData.eqv (rwD (rwAt L i)) (rwD (rwAt L u)) with
  | false => rfl
  | true =>
    have := rw_n e
    obtain ⟨a1, _⟩ := g i (by omega)
    obtain ⟨a2, _⟩ := g u hu
    exfalso
    omega
theorem nm_at (k : Str) (L : LT) (u : Nat) : nm k L u = (keyOf k (rwAt L u)).nums := by
  unfold nm rwAt
  rw [List.getD_eq_getElem?_getD]
abbrev s_follows : Stmt := top 19
abbrev N_follows : List Str := ["_law_key_here", "_law_back", "_law_one", "_law_other", "_law_rows_here", "_law_first", "_law_second", "_law_mine", "_law_theirs"]
theorem sc_follows : FnScope N_follows ["_law_key_here", "_law_back", "_law_one", "_law_other", "_law_rows_here"] (defScope s_follows) := ⟨rfl, rfl, rfl, by decide +kernel, rfl, by decide +kernel, by decide +kernel⟩
theorem ok_follows {f : Addr} {fd : FuncData} (F : Fun K "_law_follows" "_law_follows" s_follows f fd) (F_key : Fn P w K mg base 1 "_law_key" ["_law_key_here", "_law_row"] spKey) : FnOk P w K mg base CX0 2 f fd ["_law_key_here", "_law_back", "_law_one", "_law_other", "_law_rows_here"] spFollows := by
  refine F.okQ sc_follows (fun vs H Q E h => ?_) (fun cdv A outer s H vs Q E hr h => ?_)
  · obtain ⟨k, b, l, L, u, v, rfl, _⟩ := h
    rfl
  obtain ⟨k, b, l, L, u, v, rfl, hL, g, hz, hu, hv, fo, q⟩ := h
  refine ⟨_, (b_c (s_set (i := 5) sc_follows.nd (q_index hr (q_v 4) (q_v 2)))
      (b_c (s_set (i := 6) sc_follows.nd (q_index hr (q_v 4) (q_v 3)))
      (b_c (s_if (t_cmp o_eq (q_v 0) q_str) (b_1 (s_ret (q_or (q_and (q_cmp o_lt (q_v 5) (q_v 6)) (q_one (q_not (q_v 1)))) (q_one (q_and (q_cmp o_lt (q_v 6) (q_v 5)) (q_one (q_v 1))))))) b_0)
      (b_c (s_set (i := 7) sc_follows.nd (q_fn F_key (hr.mono (by decide)) (q_a (q_v 0) (q_a (q_v 2) q_a0))))
      (b_c (s_set (i := 8) sc_follows.nd (q_fn F_key (hr.mono (by decide)) (q_a (q_v 0) (q_a (q_v 3) q_a0))))
      (b_c (s_if (t_cmp o_eq (q_v 7) (q_v 8)) (b_1 (s_ret (q_cmp o_lt (q_v 5) (q_v 6)))) b_0)
      (b_1 (s_ret (q_or (q_and (q_cmp o_ltM (q_v 7) (q_v 8)) (q_one (q_not (q_v 1)))) (q_one (q_and (q_cmp o_ltM (q_v 8) (q_v 7)) (q_one (q_v 1))))))))))))), ?_⟩
  obtain ⟨hj, a1, a2, a3, a4, a5, a6, a7⟩ := index_at hL g hz hu
  refine ⟨_, rfl, .inl ⟨rfl, _, SqL.of hL.1⟩, _, rfl, l, refs L, _, _, _, u, hj, rfl, rfl, hL.1, a1, a2, a3, a4, a5, a6, a7, ?_⟩
  obtain ⟨hj, a1, a2, a3, a4, a5, a6, a7⟩ := index_at hL g hz hv
  refine ⟨_, rfl, .inl ⟨rfl, _, SqL.of hL.1⟩, _, rfl, l, refs L, _, _, _, v, hj, rfl, rfl, hL.1, a1, a2, a3, a4, a5, a6, a7, ?_⟩
  refine ⟨_, rfl, rfl, _, rfl, iteD (fun c1 => ?_) (fun c1 => ?_)⟩
  · have hk : k = "place" := V.str.inj c1
    unfold Fol at fo
    rw [if_pos hk] at fo
    refine ⟨_, rfl, _, rfl, _, _, rfl, rfl, _, rfl, ?_⟩
    cases b with
    | true =>
      rw [if_pos rfl] at fo
      rw [decide_eq_false (by omega)]
      refine iteF ⟨_, rfl, iteF ⟨_, rfl, _, rfl, _, _, rfl, rfl, _, rfl, ?_⟩⟩
      rw [decide_eq_true (by omega)]
      exact iteT ⟨_, rfl, q⟩
    | false =>
      rw [if_neg (by decide)] at fo
      rw [decide_eq_true (by omega)]
      exact iteT ⟨_, rfl, _, rfl, _, rfl, iteT q⟩
  have hk : k ≠ "place" := fun z => c1 (by rw [z])
  have ru := hL.at hu
  have rv := hL.at hv
  obtain ⟨_, _, lu⟩ := g u hu
  obtain ⟨_, _, lv⟩ := g v hv
  refine ⟨_, rfl, _, rfl, k, _, _, rfl, ru, by omega, ?_⟩
  refine ⟨_, rfl, _, rfl, k, _, _, rfl, rv, by omega, ?_⟩
  unfold Fol at fo
  rw [if_neg hk, nm_at, nm_at] at fo
  have k1 := key_lt (k := k) g hu hv
  have k2 := key_lt (k := k) g hv hu
  have k3 := key_eq (k := k) g hu hv
  have sc : scal (lkey k (rwAt L u)) (lkey k (rwAt L v)) = true := by
    unfold lkey
    by_cases h1 : k = "text"
    · rw [if_pos h1, if_pos h1]; rfl
    rw [if_neg h1, if_neg h1]
    by_cases h2 : k = "size"
    · rw [if_pos h2, if_pos h2]; rfl
    rw [if_neg h2, if_neg h2]
    by_cases h3 : k = "depth"
    · rw [if_pos h3, if_pos h3]; rfl
    rw [if_neg h3, if_neg h3]
    cases (rwAt L u).w <;> cases (rwAt L v).w <;> rfl
  generalize (keyOf k (rwAt L u)).nums = nu at fo k1 k2 k3
  generalize (keyOf k (rwAt L v)).nums = nv at fo k1 k2 k3
  generalize lkey k (rwAt L u) = ku at k1 k2 k3 sc ⊢
  generalize lkey k (rwAt L v) = kv at k1 k2 k3 sc ⊢
  refine ⟨_, rfl, _, rfl, sc, _, rfl, iteD (fun c2 => ?_) (fun c2 => ?_)⟩
  · have e := k3.mp c2
    have huv : u < v := by
      subst e
      have irr : HT.lexLt nu nu = false := by
        cases z : HT.lexLt nu nu with
        | false => rfl
        | true => rw [lex_as z] at z; cases z
      rw [irr] at fo
      split at fo
      · exact fo.2.resolve_left (by simp)
      · exact fo.2.resolve_left (by simp)
    refine ⟨_, rfl, _, rfl, _, _, rfl, rfl, ?_⟩
    show Q (V.bl (decide ((u : Int) < (v : Int)))) H
    rw [decide_eq_true (by omega)]
    exact q
  · have ne : nu ≠ nv := fun z => c2 (k3.mpr z)
    refine ⟨_, rfl, _, rfl, _, k1, _, rfl, ?_⟩
    cases b with
    | true =>
      rw [if_pos rfl] at fo
      rw [fo.1]
      refine iteF ⟨_, rfl, iteF ⟨_, rfl, _, rfl, _, k2, _, rfl, ?_⟩⟩
      cases z : HT.lexLt nv nu with
      | true => exact iteT ⟨_, rfl, q⟩
      | false => exact absurd (lex_tot fo.1 z) ne
    | false =>
      rw [if_neg (by decide)] at fo
      cases z : HT.lexLt nu nv with
      | true => exact iteT ⟨_, rfl, _, rfl, _, rfl, iteT q⟩
      | false => exact absurd (lex_tot z fo.1) ne
/-! ### the law -/
theorem kit_lst {K : PySem.W.Frag} : PySem.W.kitOne K (.type "list") (.type "list") = some true := kit_step (t := "list") (T := "list") (b := true) rfl fun z => nomatch z
theorem cut_50 (sc : List Int) : ∃ cs : List Int, cutV (sc.map V.int) (some 1) (some 51) = cs.map V.int ∧ cs.length ≤ 50 := by
  unfold cutV
  refine ⟨(sc.drop (HT.sIx (sc.map V.int).length 0 (some 1))).take (HT.sIx (sc.map V.int).length (sc.map V.int).length (some 51) - HT.sIx (sc.map V.int).length 0 (some 1)), by rw [List.map_take, List.map_drop], ?_⟩
  rw [List.length_take, List.length_drop]
  generalize (sc.map V.int).length = n
  have h1 : HT.sIx n n (some 51) = min 51 n := by
    unfold HT.sIx
    simp
  have h2 : HT.sIx n 0 (some 1) = min 1 n := by
    unfold HT.sIx
    simp
  omega
theorem fine_len {L : LT} (g : Fine L) : ∀ x ∈ L, x.2.t.length ≤ 1000 := fun x hx => by
  obtain ⟨i, hi, rfl⟩ := List.getElem_of_mem hx
  obtain ⟨_, _, h⟩ := g i hi
  unfold rwAt at h
  rw [List.getElem?_eq_getElem hi] at h
  have h' : (L[i]).2.t.length ≤ 63 := h
  omega
theorem ne_tbl {H : Hp} {l T : Addr} {xs : List V} {ps : Array Value} (h : H l = some (.lst xs)) (hT : H T = some (.tbl ps)) : l ≠ T := fun z => by
  rw [z, hT] at h
  cases h
theorem o_notInDK {X : Cx} {K : PySem.W.Frag} {k : Nat} (hK : X.K = K) (hr : Room k X.A) : QOp X (compareOp .NotIn) (rInD K true) := by
  subst hK
  exact o_notInD hr
theorem dt_nil {H : Hp} {p : Addr} (h : H p = some (.lst [])) : Dt H (.list []) (.ref p) := by
  simp only [Dt, DtAll]
  exact ⟨p, _, rfl, .inl h, rfl⟩
theorem comp_listIf {K : PySem.W.Frag} {a : Addr} {xs : List V} {n : Nat} {cap : List Nat} {tc : TT} {te : TE} {σ : St} {H0 : Hp} {Q : VK} (keep : Nat → Bool) (f : Nat → V) (hz : xs.length ≤ 1000) (hl : SqL K H0 a xs)
    (hc : ∀ i x H, xs[i]? = some x → Same H0 H → ∀ R : Bool → Hp → Prop, (∀ H', Same H H' → R (keep i) H') → tc ((compSt n cap σ).set 0 (some x)) H R)
    (he : ∀ i x H, xs[i]? = some x → Same H0 H → keep i = true → ∀ R : VK, (∀ H', Same H H' → R (f i) H') → te ((compSt n cap σ).set 0 (some x)) H R)
    (hq : ∀ p H, Same H0 H → H p = none → Q (.ref p) (upd H p (.lst (((List.range xs.length).filter keep).map f)))) : tCompR n cap (gName 0) tc te σ (Itl K a) H0 Q := by
  refine comp_any (N := xs.length) keep f hz (fun i H hi sm => ⟨xs, xs[i], sm.seq hl, by simp [hi]⟩) (fun H sm => ⟨xs, sm.seq hl, Nat.le_refl _⟩) (fun i H x H' hi sm y A B kA kB => ?_) hq
  obtain ⟨rfl, y⟩ := y
  have e := y xs (sm.seq hl)
  have hx : xs[i]? = some x := e
  refine hc i x H' hx sm _ fun H2 s2 => ?_
  cases k : keep i with
  | true => exact iteT (he i x H2 hx (sm.trans s2) k _ fun H4 s4 => kA k H4 (s2.trans s4))
  | false => exact iteF (kB k H2 s2)
theorem any_row {H : Hp} {l : Addr} {L : LT} (hL : LR H l L) {x : Addr × Rw} (hx : x ∈ L) : ((vals L).map rwD).any (fun d => PyData.eqv d (rwD x.2)) = true := by
  obtain ⟨_, _, _, ok⟩ := hL.2 x hx
  exact List.any_eq_true.mpr ⟨rwD x.2, List.mem_map.mpr ⟨x.2, List.mem_map.mpr ⟨x, hx, rfl⟩, rfl⟩, rw_eqv ok⟩
theorem LR.upd {H : Hp} {l D : Addr} {L : LT} {xs ys : List V} (x : LR H l L) (hD : H D = some (.lst xs)) (n : l ≠ D) : LR (L2.upd H D (.lst ys)) l L := ⟨by rw [upd_ne n]; exact x.1, fun y hy => (x.2 y hy).ts (ts_upd hD)⟩
theorem lamTab_upd {q : Str} {T D : Addr} {pos : Pos} {H : Hp} {xs ys : List V} (h : LamTab q T pos H) (hD : H D = some (.lst xs)) : LamTab q T pos (L2.upd H D (.lst ys)) := by
  obtain ⟨ps, e1, e2, e3⟩ := h
  refine ⟨ps, by rw [upd_ne (ne_tbl hD e1).symm]; exact e1, e2, e3.imp id fun ⟨c, z1, z2⟩ => ⟨c, z1, ?_⟩⟩
  rw [upd_ne (fun z => by rw [z, hD] at z2; cases z2)]
  exact z2
theorem LR.sameT {T : Addr} {H H' : Hp} {l : Addr} {L : LT} {ps : Array Value} (x : LR H l L) (hT : H T = some (.tbl ps)) (e : SameT T H H') : LR H' l L := ⟨e _ _ x.1 (ne_tbl x.1 hT), fun y hy => (x.2 y hy).ts (sameT_ts hT e)⟩
theorem pick_len (L : LT) (ix : List Nat) : (pick L ix).length = ix.length := List.length_map ..
theorem pick_mem {L : LT} {ix : List Nat} (h : ∀ i ∈ ix, i < L.length) : ∀ x ∈ pick L ix, x ∈ L := fun x hx => by
  obtain ⟨i, hi, rfl⟩ := List.mem_map.mp hx
  rw [List.getD_eq_getElem?_getD, List.getElem?_eq_getElem (h i hi)]
  exact List.getElem_mem _
theorem pick_ad {L : LT} {ix : List Nat} {a : Nat} (h : a < ix.length) : adAt (pick L ix) a = adAt L ix[a] := by
  unfold adAt pick
  rw [List.getElem?_map, List.getElem?_eq_getElem h]
  show ((L.getD ix[a] (0, R0))).1 = _
  rw [List.getD_eq_getElem?_getD]
def spLaw (K : PySem.W.Frag) (T : Addr) : Sp := fun vs H Q _ => ∃ (a : Addr) (ns : List Int), vs = [.ref a] ∧ SqL K H a (ns.map V.int) ∧ ns.length ≤ 63 ∧ H T = some (.tbl #[]) ∧ ∀ H', Q (.bl true) H'
abbrev s_law : Stmt := top 20
abbrev N_law : List Str := ["_law_script", "_law_rows_here", "_law_kept", "_law_key_here", "_law_back", "_law_found", "_law_k", "_law_told", "_law_again"]
theorem sc_law : FnScope N_law ["_law_script"] (defScope s_law) := ⟨rfl, rfl, rfl, by decide +kernel, rfl, by decide +kernel, by decide +kernel⟩
theorem ok_law {f T : Addr} {fd : FuncData} (F : Fun K "law" "law" s_law f fd) (F_cell_at : Fn P w K mg base 1 "_law_cell_at" ["_law_script", "_law_k"] (spCell K)) (F_rows : Fn P w K mg base 2 "_law_rows" ["_law_cells"] spRows) (F_asked : Fn P w K mg base 6 "asked" ["question", "rows"] (spAsked T)) (F_follows : Fn P w K mg base 2 "_law_follows" ["_law_key_here", "_law_back", "_law_one", "_law_other", "_law_rows_here"] spFollows)
    (z_len : mg "len" = none) (z_list : mg "list" = none) (z_isinstance : mg "isinstance" = none) (z_range : mg "range" = none) : FnOk P w K mg base CX0 7 f fd ["_law_script"] (spLaw K T) := by
  refine F.okQ sc_law (fun vs H Q E h => ?_) (fun cdv A outer s H vs Q E hr h => ?_)
  · obtain ⟨a, ns, rfl, _⟩ := h
    rfl
  obtain ⟨a, sc, rfl, hS, hlen, hT, hq⟩ := h
  refine ⟨_, (b_c (s_set (i := 1) sc_law.nd (q_fn F_rows (hr.mono (by decide)) (q_a (q_sl l_list (q_v 0) (q_o1 q_int) (q_o1 q_int)) q_a0)))
      (b_c (s_set (i := 2) sc_law.nd (q_Ty c_list z_list boot_list (q_a (q_v 1) q_a0)))
      (b_c (s_set (i := 3) sc_law.nd (q_ix x_list (q_lst (q_a q_str (q_a q_str (q_a q_str (q_a q_str (q_a q_str q_a0)))))) (q_op o_mod (q_fn F_cell_at (hr.mono (by decide)) (q_a (q_v 0) (q_a q_int q_a0))) q_int)))
      (b_c (s_set (i := 4) sc_law.nd (q_cmp o_eq (q_op o_mod (q_op o_fdiv (q_fn F_cell_at (hr.mono (by decide)) (q_a (q_v 0) (q_a q_int q_a0))) q_int) q_int) q_int))
      (b_c (s_set (i := 5) sc_law.nd (q_fn F_asked (hr.mono (by decide)) (q_a (q_tup (q_a (q_tup (q_a q_str q_a0)) (q_a (q_v 3) (q_a (q_v 4) q_a0)))) (q_a (q_v 1) q_a0))))
      (b_c (s_if (t_w (w_or (t_not (t_val (q_B c_isi z_isinstance boot_isinstance (q_a (q_v 5) (q_a (q_bt z_list boot_list) q_a0))))) (w_or (t_cmp o_ne (q_B c_len z_len PySem.boot_len (q_a (q_v 5) q_a0)) (q_B c_len z_len PySem.boot_len (q_a (q_v 1) q_a0))) (w_or1 (t_cmp (o_neD hr.units) (q_v 1) (q_v 2)))))) (b_1 (s_ret q_bl)) b_0)
      (b_c (s_if (t_cmp (o_neD hr.units) (q_comp (own := ["_law_row"]) (⟨rfl, by decide +kernel, by decide +kernel, rfl, ⟨rfl, rfl, trivial⟩⟩ : CompOk _ _ [1] ["_law_rows_here"]) rfl (i_list (q_v 5)) (fun _ _ _ _ => g_name (i := 0) (show (["_law_row", "_law_rows_here"] : List Str).Nodup by decide +kernel)) (gk_name (by decide)) (fun _ _ _ _ => (if_1 (t_cmp (o_notInDK (K := K) rfl hr) (q_v 0) (q_v 1)))) (fun _ _ _ _ => (q_v 0))) (q_lst q_a0)) (b_1 (s_ret q_bl)) b_0)
      (b_c (s_for PassesOwn.never rfl (i_rng2 z_range (q_a q_int (q_a (q_B c_len z_len PySem.boot_len (q_a (q_v 5) q_a0)) q_a0))) (g_name (i := 6) sc_law.nd) (b_1 (s_if (t_not (t_val (q_fn F_follows (hr.mono (by decide)) (q_a (q_v 3) (q_a (q_v 4) (q_a (q_ix x_list (q_v 5) (q_op o_sub (q_v 6) q_int)) (q_a (q_ix x_list (q_v 5) (q_v 6)) (q_a (q_v 1) q_a0)))))))) (b_1 (s_ret q_bl)) b_0)))
      (b_c (s_set (i := 7) sc_law.nd (q_Ty c_list z_list boot_list (q_a (q_v 5) q_a0)))
      (b_c (s_expr (q_app (q_v 5) (q_tup (q_a q_int (q_a (q_tup (q_a q_int (q_a q_int q_a0))) (q_a q_str (q_a q_bl (q_a q_non (q_a q_bl q_a0)))))))))
      (b_c (s_set (i := 8) sc_law.nd (q_fn F_asked (hr.mono (by decide)) (q_a (q_tup (q_a (q_tup (q_a q_str q_a0)) (q_a (q_v 3) (q_a (q_v 4) q_a0)))) (q_a (q_v 1) q_a0))))
      (b_c (s_if (t_w (w_or (t_cmp (o_neD hr.units) (q_v 1) (q_v 2)) (w_or1 (t_cmp (o_neD hr.units) (q_v 8) (q_v 7))))) (b_1 (s_ret q_bl)) b_0)
      (b_c (s_expr (q_app (q_v 8) (q_tup (q_a q_int (q_a (q_tup (q_a q_int (q_a q_int q_a0))) (q_a q_str (q_a q_bl (q_a q_non (q_a q_bl q_a0)))))))))
      (b_1 (s_ret (q_cmp (o_eqD hr.units) (q_fn F_asked (hr.mono (by decide)) (q_a (q_tup (q_a (q_tup (q_a q_str q_a0)) (q_a (q_v 3) (q_a (q_v 4) q_a0)))) (q_a (q_v 1) q_a0))) (q_v 7))))))))))))))))), ?_⟩
  obtain ⟨cs, ec, lc⟩ := cut_50 sc
  refine ⟨_, rfl, _, rfl, _, rfl, a, _, rfl, hS, fun p0 g0 => ?_⟩
  rw [ec]
  have s0 := same_new g0 (.lst (cs.map V.int))
  refine ⟨p0, cs, rfl, upd_same, lc, fun p1 H1 L s1 hL zL gd => ?_⟩
  have S1 := s0.trans s1
  refine ⟨_, rfl, p1, _, rfl, .inl (SqL.of hL.1), fun p2 g2 => ?_⟩
  have w2 := same_new g2 (.lst (refs L))
  have hL2 := hL.same w2
  have hK2 : LR (upd H1 p2 (.lst (refs L))) p2 L := ⟨upd_same, fun x hx => (hL.2 x hx).ts (Same.ts w2)⟩
  have S2 := S1.trans w2
  generalize upd H1 p2 (.lst (refs L)) = H2 at hL2 hK2 S2 ⊢
  refine ⟨size63 (Nat.le_of_ble_eq_true rfl), fun p3 g3 => ?_⟩
  have w3 := same_new g3 (.lst [.str "place", .str "text", .str "size", .str "depth", .str "due"])
  have S3 := S2.trans w3
  have c0 := Int.emod_nonneg (cellZ sc 0) (show (5 : Int) ≠ 0 by decide)
  have c1 := Int.emod_lt_of_pos (cellZ sc 0) (show (0 : Int) < 5 by decide)
  obtain ⟨k, hk⟩ : ∃ k : Str, atI [V.str "place", .str "text", .str "size", .str "depth", .str "due"] (cellZ sc 0 % 5) = some (.str k) := by
    have : cellZ sc 0 % 5 = 0 ∨ cellZ sc 0 % 5 = 1 ∨ cellZ sc 0 % 5 = 2 ∨ cellZ sc 0 % 5 = 3 ∨ cellZ sc 0 % 5 = 4 := by omega
    rcases this with e | e | e | e | e <;> rw [e] <;> exact ⟨_, rfl⟩
  refine ⟨_, rfl, a, sc, 0, rfl, S3.seq hS, by decide, _, _, rfl, rfl, (by show (0 : Int) < 5; decide), p3, _, _, _, rfl, rfl, SqL.of upd_same, hk, ?_⟩
  refine ⟨_, rfl, a, sc, 0, rfl, S3.seq hS, by decide, _, _, rfl, rfl, ⟨by decide, by decide⟩, _, _, rfl, rfl, (by show (0 : Int) < 2; decide), rfl, ?_⟩
  have w3' := w3
  have hL3 := hL2.same w3
  have hK3 := hK2.same w3
  have hT3 := S3 _ _ hT
  generalize upd H2 p3 (.lst [.str "place", .str "text", .str "size", .str "depth", .str "due"]) = H3 at S3 hL3 hK3 hT3 ⊢
  refine ⟨size63 (Nat.le_of_ble_eq_true rfl), fun c g4 => ?_⟩
  have w4 := same_new g4 (.tup [.str "all"])
  refine ⟨_, rfl, _, rfl, size63 (Nat.le_of_ble_eq_true rfl), fun qa g5 => ?_⟩
  have w5 := same_new g5 (.tup [.ref c, .str k, .bl (decide (V.int (cellZ sc (0 : Int).toNat / 5 % 2) = V.int 1))])
  have W5 := w4.trans w5
  have hL5 := hL3.same W5
  have hK5 := hK3.same W5
  have hT5 := W5 _ _ hT3
  have eq5 : upd (upd H3 c (.tup [.str "all"])) qa (.tup [.ref c, .str k, .bl (decide (V.int (cellZ sc (0 : Int).toNat / 5 % 2) = V.int 1))]) qa = some (.tup [.ref c, .str k, .bl (decide (V.int (cellZ sc (0 : Int).toNat / 5 % 2) = V.int 1))]) := upd_same
  have ec5 := w5 _ _ (upd_same (H := H3) (a := c) (o := .tup [.str "all"]))
  generalize hb : decide (V.int (cellZ sc (0 : Int).toNat / 5 % 2) = V.int 1) = b at eq5 ec5 hL5 hK5 hT5 ⊢
  generalize upd (upd H3 c (.tup [.str "all"])) qa (.tup [.ref c, .str k, .bl b]) = H5 at eq5 ec5 hL5 hK5 hT5 ⊢
  refine ⟨_, rfl, qa, c, p1, k, b, L, rfl, eq5, ec5, hL5, fine_len gd, by omega, ⟨#[], hT5, trivial, .inl rfl⟩, fun D H6 M told sT6 t6 eD nD => ?_⟩
  obtain ⟨ix, pm, pw, eM⟩ := told_ix told
  have ixl : ∀ i ∈ ix, i < L.length := fun i hi => by
    have := pm.mem_iff.mp hi
    simpa using this
  have ixn : ix.length = L.length := by
    have := pm.length_eq
    simpa using this
  have lM : M.length = L.length := by rw [eM, pick_len, ixn]
  have hL6 := hL5.sameT hT5 sT6
  have hK6 := hK5.sameT hT5 sT6
  have hM6 : LR H6 D M := ⟨eD, fun x hx => hL6.2 x (pick_mem ixl x (by rw [← eM]; exact hx))⟩
  refine ⟨_, rfl, _, "list", _, true, rfl, .lst eD, kit_lst, _, rfl, iteF ?_⟩
  refine ⟨_, rfl, D, _, rfl, .inl (SqL.of eD), _, rfl, p1, _, rfl, .inl (SqL.of hL6.1), rfl, _, rfl, iteNS (congrArg V.int (by rw [refs_len, refs_len, lM])) ?_⟩
  refine ⟨_, rfl, _, rfl, _, _, hL6.dt, hK6.dt, shaped_all hL6.ok, shaped_all hK6.ok, _, rfl, ?_⟩
  rw [eqv_all hL6.ok]
  refine iteF ?_
  refine ⟨_, rfl, D, rfl, ⟨_, SqL.of eD⟩, ?_⟩
  refine comp_listIf (xs := refs M) (fun _ => false) (fun _ => .non) (by rw [refs_len]; omega) (SqL.of eD) (fun i x H7 hx s7 R kk => ?_) (fun i x H7 hx s7 z => nomatch z) (fun p7 H7 s7 g7 => ?_)
  · have hL7 := hL6.same s7
    unfold refs at hx
    rw [List.getElem?_map] at hx
    obtain ⟨y, hy, rfl⟩ := Option.map_eq_some_iff.mp hx
    have my : y ∈ L := pick_mem ixl y (by rw [← eM]; exact List.mem_of_getElem? hy)
    have ry := hL7.2 y my
    have ok : PyData.strOk y.2.t = true := let ⟨_, _, _, h⟩ := ry; h
    refine ⟨_, rfl, _, rfl, p1, refs L, rwD y.2, (vals L).map rwD, rfl, SqL.of hL7.1, ry.dt, dt_rows hL7.2, row_shaped ok, (lay_all hL7.ok).1, _, rfl, ?_⟩
    rw [any_row hL7 my]
    exact kk H7 (Same.refl H7)
  have e7 : (((List.range (refs M).length).filter fun _ => false).map fun _ => V.non) = [] := by simp
  rw [e7]
  have w7 := s7.trans (same_new g7 (.lst []))
  refine ⟨size63 (Nat.zero_le _), fun p8 g8 => ?_⟩
  have w8 := same_new g8 (.lst [])
  refine ⟨_, _, dt_nil (w8 _ _ upd_same), dt_nil upd_same, rfl, rfl, _, rfl, iteF ?_⟩
  have W8 := w7.trans w8
  have hL8 := hL6.same W8
  have hK8 := hK6.same W8
  have hM8 := hM6.same W8
  have t8 := lamTab_same t6 W8
  generalize upd (upd H7 p7 (.lst [])) p8 (.lst []) = H8 at W8 hL8 hK8 hM8 t8 ⊢
  have lR : (refs M).length = L.length := by rw [refs_len, lM]
  refine ⟨_, rfl, D, _, rfl, .inl (SqL.of hM8.1), 1, _, rfl, ⟨by decide, by decide, by rw [lR]; omega, by rw [lR]; omega⟩, ?_⟩
  rw [lR]
  have atM : ∀ a (h : a < L.length), atI (refs M) (a : Int) = some (.ref (adAt L (ix[a]'(by omega)))) := fun a h => by
    have e := pick_ad (L := L) (show a < ix.length by omega)
    rw [← eM] at e
    rw [at_refs (by omega), e]
  refine for_range (lo := 1) (fun i σ H' => Same H8 H' ∧ ∃ o6 : Option V, σ = [some (.ref a), some (.ref p1), some (.ref p2), some (.str k), some (.bl b), some (.ref D), o6, none, none]) ⟨Same.refl H8, none, rfl⟩ ?_ ?_
  · rintro i σ H' hi ⟨sm, o6, rfl⟩
    have hi' : i + 1 < L.length := by omega
    have at1 : atI (refs M) (1 + (i : Int) - 1) = some (.ref (adAt L (ix[i]'(by omega)))) := by
      rw [show 1 + (i : Int) - 1 = (i : Int) by omega]
      exact atM i (by omega)
    have at2 : atI (refs M) (1 + (i : Int)) = some (.ref (adAt L (ix[i + 1]'(by omega)))) := by
      rw [show 1 + (i : Int) = ((i + 1 : Nat) : Int) by omega]
      exact atM (i + 1) hi'
    have fo := List.pairwise_iff_getElem.mp pw i (i + 1) (by omega) (by omega) (by omega)
    have hM9 := hM8.same sm
    refine ⟨_, rfl, _, rfl, _, rfl, _, rfl, _, _, rfl, rfl, D, _, _, _, rfl, rfl, SqL.of hM9.1, at1, _, rfl, _, rfl, D, _, _, _, rfl, rfl, SqL.of hM9.1, at2, _, rfl, k, b, p1, L, ix[i]'(by omega), ix[i + 1]'(by omega), rfl, hL8.same sm, gd, zL, ixl _ (List.getElem_mem _), ixl _ (List.getElem_mem _), fo, _, rfl, iteF ⟨sm, _, rfl⟩⟩
  rintro σ H9 ⟨sm9, o6, rfl⟩
  have hL9 := hL8.same sm9
  have hK9 := hK8.same sm9
  have hM9 := hM8.same sm9
  have t9 := lamTab_same t8 sm9
  have np1 : p1 ≠ D := fun z => by
    have := hL5.1
    rw [z, nD] at this
    cases this
  have np2 : p2 ≠ D := fun z => by
    have := hK5.1
    rw [z, nD] at this
    cases this
  refine ⟨_, rfl, D, _, rfl, .inl (SqL.of hM9.1), fun p10 g10 => ?_⟩
  have w10 := same_new g10 (.lst (refs M))
  have hL10 := hL9.same w10
  have hK10 := hK9.same w10
  have hM10 := hM9.same w10
  have hT10 : LR (upd H9 p10 (.lst (refs M))) p10 M := ⟨upd_same, fun x hx => (hM9.2 x hx).ts (Same.ts w10)⟩
  have t10 := lamTab_same t9 w10
  have nD10 : p10 ≠ D := fun z => by
    have := hM9.1
    rw [← z, g10] at this
    cases this
  generalize upd H9 p10 (.lst (refs M)) = H10 at hL10 hK10 hM10 hT10 t10 ⊢
  refine ⟨_, rfl, .inl ⟨rfl, _, SqL.of hM10.1⟩, size63 (Nat.le_of_ble_eq_true rfl), fun pA gA => ?_⟩
  have wA := same_new gA (.tup [.int 0, .int 1000])
  refine ⟨size63 (Nat.le_of_ble_eq_true rfl), fun pB gB => ?_⟩
  have wB := wA.trans (same_new gB (.tup [.int 0, .ref pA, .str "", .bl false, .non, .bl false]))
  have hL11 := hL10.same wB
  have hK11 := hK10.same wB
  have hM11 := hM10.same wB
  have hT11 := hT10.same wB
  have t11 := lamTab_same t10 wB
  generalize upd (upd H10 pA (.tup [.int 0, .int 1000])) pB (.tup [.int 0, .ref pA, .str "", .bl false, .non, .bl false]) = H11 at hL11 hK11 hM11 hT11 t11 ⊢
  refine ⟨D, _, _, rfl, rfl, hM11.1, small1000 (by rw [lR]; omega), ?_⟩
  have hL12 := hL11.upd (ys := refs M ++ [.ref pB]) hM11.1 np1
  have hK12 := hK11.upd (ys := refs M ++ [.ref pB]) hM11.1 np2
  have hT12 := hT11.upd (ys := refs M ++ [.ref pB]) hM11.1 nD10
  have t12 := lamTab_upd (ys := refs M ++ [.ref pB]) t11 hM11.1
  generalize upd H11 D (.lst (refs M ++ [.ref pB])) = H12 at hL12 hK12 hT12 t12 ⊢
  refine ⟨size63 (Nat.le_of_ble_eq_true rfl), fun c' g13 => ?_⟩
  have w13 := same_new g13 (.tup [.str "all"])
  refine ⟨_, rfl, _, rfl, size63 (Nat.le_of_ble_eq_true rfl), fun qa' g14 => ?_⟩
  have w14 := same_new g14 (.tup [.ref c', .str k, .bl b])
  have W14 := w13.trans w14
  have hL14 := hL12.same W14
  have hK14 := hK12.same W14
  have hT14 := hT12.same W14
  have t14 := lamTab_same t12 W14
  have ec14 := w14 _ _ (upd_same (H := H12) (a := c') (o := .tup [.str "all"]))
  have eq14 : upd (upd H12 c' (.tup [.str "all"])) qa' (.tup [.ref c', .str k, .bl b]) qa' = some (.tup [.ref c', .str k, .bl b]) := upd_same
  generalize upd (upd H12 c' (.tup [.str "all"])) qa' (.tup [.ref c', .str k, .bl b]) = H14 at hL14 hK14 hT14 t14 ec14 eq14 ⊢
  refine ⟨_, rfl, qa', c', p1, k, b, L, rfl, eq14, ec14, hL14, fine_len gd, by omega, t14, fun D2 H15 M2 told2 sT15 t15 eD2 nD2 => ?_⟩
  obtain rfl : M2 = M := told_uniq told2 told
  obtain ⟨ps14, tb14, _⟩ := id t14
  have hL15 := hL14.sameT tb14 sT15
  have hK15 := hK14.sameT tb14 sT15
  have hT15 := hT14.sameT tb14 sT15
  have hM15 : LR H15 D2 M2 := ⟨eD2, hT15.2⟩
  have n1 : p1 ≠ D2 := fun z => by
    have := hL14.1
    rw [z, nD2] at this
    cases this
  have n3 : p10 ≠ D2 := fun z => by
    have := hT14.1
    rw [z, nD2] at this
    cases this
  refine ⟨_, rfl, _, rfl, _, _, hL15.dt, hK15.dt, shaped_all hL15.ok, shaped_all hK15.ok, _, rfl, ?_⟩
  rw [eqv_all hL15.ok]
  refine iteF ?_
  refine ⟨_, rfl, _, rfl, _, _, hM15.dt, hT15.dt, shaped_all hM15.ok, shaped_all hT15.ok, _, rfl, ?_⟩
  rw [eqv_all hM15.ok]
  refine iteF ?_
  refine ⟨_, rfl, .inl ⟨rfl, _, SqL.of hM15.1⟩, size63 (Nat.le_of_ble_eq_true rfl), fun pA2 gA2 => ?_⟩
  have wA2 := same_new gA2 (.tup [.int 0, .int 1000])
  refine ⟨size63 (Nat.le_of_ble_eq_true rfl), fun pB2 gB2 => ?_⟩
  have wB2 := wA2.trans (same_new gB2 (.tup [.int 0, .ref pA2, .str "", .bl false, .non, .bl false]))
  have hL16 := hL15.same wB2
  have hM16 := hM15.same wB2
  have hT16 := hT15.same wB2
  have t16 := lamTab_same t15 wB2
  generalize upd (upd H15 pA2 (.tup [.int 0, .int 1000])) pB2 (.tup [.int 0, .ref pA2, .str "", .bl false, .non, .bl false]) = H16 at hL16 hM16 hT16 t16 ⊢
  refine ⟨D2, _, _, rfl, rfl, hM16.1, small1000 (by rw [lR]; omega), ?_⟩
  have hL17 := hL16.upd (ys := refs M2 ++ [.ref pB2]) hM16.1 n1
  have hT17 := hT16.upd (ys := refs M2 ++ [.ref pB2]) hM16.1 n3
  have t17 := lamTab_upd (ys := refs M2 ++ [.ref pB2]) t16 hM16.1
  generalize upd H16 D2 (.lst (refs M2 ++ [.ref pB2])) = H17 at hL17 hT17 t17 ⊢
  refine ⟨size63 (Nat.le_of_ble_eq_true rfl), fun c2 g18 => ?_⟩
  have w18 := same_new g18 (.tup [.str "all"])
  refine ⟨_, rfl, _, rfl, size63 (Nat.le_of_ble_eq_true rfl), fun qa2 g19 => ?_⟩
  have w19 := same_new g19 (.tup [.ref c2, .str k, .bl b])
  have W19 := w18.trans w19
  have hL19 := hL17.same W19
  have hT19 := hT17.same W19
  have t19 := lamTab_same t17 W19
  have ec19 := w19 _ _ (upd_same (H := H17) (a := c2) (o := .tup [.str "all"]))
  have eq19 : upd (upd H17 c2 (.tup [.str "all"])) qa2 (.tup [.ref c2, .str k, .bl b]) qa2 = some (.tup [.ref c2, .str k, .bl b]) := upd_same
  generalize upd (upd H17 c2 (.tup [.str "all"])) qa2 (.tup [.ref c2, .str k, .bl b]) = H19 at hL19 hT19 t19 ec19 eq19 ⊢
  refine ⟨_, rfl, qa2, c2, p1, k, b, L, rfl, eq19, ec19, hL19, fine_len gd, by omega, t19, fun D3 H20 M3 told3 sT20 t20 eD3 nD3 => ?_⟩
  obtain rfl : M3 = M2 := told_uniq told3 told
  obtain ⟨ps19, tb19, _⟩ := id t19
  have hT20 := hT19.sameT tb19 sT20
  have hM20 : LR H20 D3 M3 := ⟨eD3, hT20.2⟩
  refine ⟨_, rfl, _, _, hM20.dt, hT20.dt, shaped_all hM20.ok, shaped_all hT20.ok, ?_⟩
  rw [eqv_all hM20.ok]
  exact hq _
end
theorem all_mk {l : PySem.W.OpenLaw} {w : World} {K : PySem.W.Frag} {h : Heap} {mg : Str → Option Value} {fa f1 f2 f3 f4 f5 f6 f7 f8 f9 f10 : Addr} (X : K.In h) (G : h.Ns mainGlobals mg) (hfa : mg "law" = some (.ref fa))
    {od1 an1 od2 an2 od3 an3 od4 an4 od5 an5 od6 an6 od7 an7 od8 an8 od9 an9 od10 an10 : Option Addr} {sl1 sl2 sl3 sl4 sl5 sl6 sl7 sl8 sl9 sl10 : Array (Option Value)} {oc1 kV1 dc1 pm1 cd1 ct1 oc2 kV2 dc2 pm2 cd2 ct2 oc3 kV3 dc3 pm3 cd3 ct3 oc4 kV4 dc4 pm4 cd4 ct4 oc5 kV5 dc5 pm5 cd5 ct5 oc6 kV6 dc6 pm6 cd6 ct6 oc7 kV7 dc7 pm7 cd7 ct7 oc8 kV8 dc8 pm8 cd8 ct8 oc9 kV9 dc9 pm9 cd9 ct9 oc10 kV10 dc10 pm10 cd10 ct10 : Value} {tk_DEPTH : Tok} {tk_TEXT : Tok} {tk_WHOM : Tok} {c0 T : Addr}
    (a1 : PySem.W.nsIn K mainGlobals "fits_alone" = some (some (.ref f1))) (l1 : K.lookup f1 = some ⟨oc1, od1, .func (PySem.W.fnOf "fits_alone" "fits_alone" (defArgs s_fits_alone) (defBody s_fits_alone) (defScope s_fits_alone) .none kV1 dc1 pm1 an1 cd1 ct1), sl1⟩) (c1 : PySem.W.codeIn K cd1 "fits_alone" = true) (k1 : PySem.W.keepIn K (.ref f1) = true)
    (a2 : PySem.W.nsIn K mainGlobals "fitting" = some (some (.ref f2))) (l2 : K.lookup f2 = some ⟨oc2, od2, .func (PySem.W.fnOf "fitting" "fitting" (defArgs s_fitting) (defBody s_fitting) (defScope s_fitting) .none kV2 dc2 pm2 an2 cd2 ct2), sl2⟩) (c2 : PySem.W.codeIn K cd2 "fitting" = true) (k2 : PySem.W.keepIn K (.ref f2) = true)
    (a3 : PySem.W.nsIn K mainGlobals "sort_value" = some (some (.ref f3))) (l3 : K.lookup f3 = some ⟨oc3, od3, .func (PySem.W.fnOf "sort_value" "sort_value" (defArgs s_sort_value) (defBody s_sort_value) (defScope s_sort_value) .none kV3 dc3 pm3 an3 cd3 ct3), sl3⟩) (c3 : PySem.W.codeIn K cd3 "sort_value" = true) (k3 : PySem.W.keepIn K (.ref f3) = true)
    (a4 : PySem.W.nsIn K mainGlobals "asked" = some (some (.ref f4))) (l4 : K.lookup f4 = some ⟨oc4, od4, .func (PySem.W.fnOf "asked" "asked" (defArgs s_asked) (defBody s_asked) (defScope s_asked) .none kV4 dc4 pm4 an4 cd4 ct4), sl4⟩) (c4 : PySem.W.codeIn K cd4 "asked" = true) (k4 : PySem.W.keepIn K (.ref f4) = true)
    (a5 : PySem.W.nsIn K mainGlobals "_law_cell_at" = some (some (.ref f5))) (l5 : K.lookup f5 = some ⟨oc5, od5, .func (PySem.W.fnOf "_law_cell_at" "_law_cell_at" (defArgs s_cell_at) (defBody s_cell_at) (defScope s_cell_at) .none kV5 dc5 pm5 an5 cd5 ct5), sl5⟩) (c5 : PySem.W.codeIn K cd5 "_law_cell_at" = true) (k5 : PySem.W.keepIn K (.ref f5) = true)
    (a6 : PySem.W.nsIn K mainGlobals "_law_text" = some (some (.ref f6))) (l6 : K.lookup f6 = some ⟨oc6, od6, .func (PySem.W.fnOf "_law_text" "_law_text" (defArgs s_text) (defBody s_text) (defScope s_text) .none kV6 dc6 pm6 an6 cd6 ct6), sl6⟩) (c6 : PySem.W.codeIn K cd6 "_law_text" = true) (k6 : PySem.W.keepIn K (.ref f6) = true)
    (a7 : PySem.W.nsIn K mainGlobals "_law_rows" = some (some (.ref f7))) (l7 : K.lookup f7 = some ⟨oc7, od7, .func (PySem.W.fnOf "_law_rows" "_law_rows" (defArgs s_rows) (defBody s_rows) (defScope s_rows) .none kV7 dc7 pm7 an7 cd7 ct7), sl7⟩) (c7 : PySem.W.codeIn K cd7 "_law_rows" = true) (k7 : PySem.W.keepIn K (.ref f7) = true)
    (a8 : PySem.W.nsIn K mainGlobals "_law_key" = some (some (.ref f8))) (l8 : K.lookup f8 = some ⟨oc8, od8, .func (PySem.W.fnOf "_law_key" "_law_key" (defArgs s_key) (defBody s_key) (defScope s_key) .none kV8 dc8 pm8 an8 cd8 ct8), sl8⟩) (c8 : PySem.W.codeIn K cd8 "_law_key" = true) (k8 : PySem.W.keepIn K (.ref f8) = true)
    (a9 : PySem.W.nsIn K mainGlobals "_law_follows" = some (some (.ref f9))) (l9 : K.lookup f9 = some ⟨oc9, od9, .func (PySem.W.fnOf "_law_follows" "_law_follows" (defArgs s_follows) (defBody s_follows) (defScope s_follows) .none kV9 dc9 pm9 an9 cd9 ct9), sl9⟩) (c9 : PySem.W.codeIn K cd9 "_law_follows" = true) (k9 : PySem.W.keepIn K (.ref f9) = true)
    (a10 : PySem.W.nsIn K mainGlobals "law" = some (some (.ref f10))) (l10 : K.lookup f10 = some ⟨oc10, od10, .func (PySem.W.fnOf "law" "law" (defArgs s_law) (defBody s_law) (defScope s_law) .none kV10 dc10 pm10 an10 cd10 ct10), sl10⟩) (c10 : PySem.W.codeIn K cd10 "law" = true) (k10 : PySem.W.keepIn K (.ref f10) = true)
    (h_DEPTH : PySem.W.nsIn K mainGlobals "DEPTH" = some (some (.int 0 tk_DEPTH)))
    (h_TEXT : PySem.W.nsIn K mainGlobals "TEXT" = some (some (.int 2 tk_TEXT)))
    (h_WHOM : PySem.W.nsIn K mainGlobals "WHOM" = some (some (.int 4 tk_WHOM)))
    (tb : PySem.W.tabIn K "asked" = some (c0, T))
    (y_len : PySem.W.nsIn K mainGlobals "len" = some none)
    (y_min : PySem.W.nsIn K mainGlobals "min" = some none)
    (y_range : PySem.W.nsIn K mainGlobals "range" = some none)
    (y_list : PySem.W.nsIn K mainGlobals "list" = some none)
    (y_int : PySem.W.nsIn K mainGlobals "int" = some none)
    (y_isinstance : PySem.W.nsIn K mainGlobals "isinstance" = some none)
    (y_zip : PySem.W.nsIn K mainGlobals "zip" = some none)
    (y_enumerate : PySem.W.nsIn K mainGlobals "enumerate" = some none)
    (y_reversed : PySem.W.nsIn K mainGlobals "reversed" = some none)
    (y_sorted : PySem.W.nsIn K mainGlobals "sorted" = some none)
    : ∃ fd : FuncData, (∀ (s : Shared) (v : Value), BindsTo s fd ⟨[v], []⟩ [("_law_script", v)]) ∧ ∀ base : Heap, K.In base → base.Ns mainGlobals mg → Blt base mg → PySem.W.CodeHd base c0 T → FnOk l.prog w K mg base CX0 7 fa fd ["_law_script"] (spLaw K T) := by
  have e := hfa.symm.trans (PySem.W.mg_of X G a10)
  cases e
  have F1 := fun_mk (st := s_fits_alone) l1 c1 k1
  have b1 := F1.binds (ps := ["condition", "row"]) fun _ _ _ _ _ _ us hl => match us, hl with | [_, _], _ => rfl
  have F2 := fun_mk (st := s_fitting) l2 c2 k2
  have b2 := F2.binds (ps := ["condition", "rows"]) fun _ _ _ _ _ _ us hl => match us, hl with | [_, _], _ => rfl
  have F3 := fun_mk (st := s_sort_value) l3 c3 k3
  have b3 := F3.binds (ps := ["key", "row"]) fun _ _ _ _ _ _ us hl => match us, hl with | [_, _], _ => rfl
  have F4 := fun_mk (st := s_asked) l4 c4 k4
  have b4 := F4.binds (ps := ["question", "rows"]) fun _ _ _ _ _ _ us hl => match us, hl with | [_, _], _ => rfl
  have F5 := fun_mk (st := s_cell_at) l5 c5 k5
  have b5 := F5.binds (ps := ["_law_script", "_law_k"]) fun _ _ _ _ _ _ us hl => match us, hl with | [_, _], _ => rfl
  have F6 := fun_mk (st := s_text) l6 c6 k6
  have b6 := F6.binds (ps := ["_law_number"]) fun _ _ _ _ _ _ us hl => match us, hl with | [_], _ => rfl
  have F7 := fun_mk (st := s_rows) l7 c7 k7
  have b7 := F7.binds (ps := ["_law_cells"]) fun _ _ _ _ _ _ us hl => match us, hl with | [_], _ => rfl
  have F8 := fun_mk (st := s_key) l8 c8 k8
  have b8 := F8.binds (ps := ["_law_key_here", "_law_row"]) fun _ _ _ _ _ _ us hl => match us, hl with | [_, _], _ => rfl
  have F9 := fun_mk (st := s_follows) l9 c9 k9
  have b9 := F9.binds (ps := ["_law_key_here", "_law_back", "_law_one", "_law_other", "_law_rows_here"]) fun _ _ _ _ _ _ us hl => match us, hl with | [_, _, _, _, _], _ => rfl
  have F10 := fun_mk (st := s_law) l10 c10 k10
  have z_len := PySem.W.mg_none_of X G y_len
  have z_min := PySem.W.mg_none_of X G y_min
  have z_range := PySem.W.mg_none_of X G y_range
  have z_list := PySem.W.mg_none_of X G y_list
  have z_int := PySem.W.mg_none_of X G y_int
  have z_isinstance := PySem.W.mg_none_of X G y_isinstance
  have z_zip := PySem.W.mg_none_of X G y_zip
  have z_enumerate := PySem.W.mg_none_of X G y_enumerate
  have z_reversed := PySem.W.mg_none_of X G y_reversed
  have z_sorted := PySem.W.mg_none_of X G y_sorted
  have g_DEPTH := PySem.W.mg_of X G h_DEPTH
  have g_TEXT := PySem.W.mg_of X G h_TEXT
  have g_WHOM := PySem.W.mg_of X G h_WHOM
  refine ⟨PySem.W.fnOf "law" "law" (defArgs s_law) (defBody s_law) (defScope s_law) .none kV10 dc10 pm10 an10 cd10 ct10, fun s v => .of_eq rfl, fun base _ _ B C => ?_⟩
  have F_fits_alone := Fn.mk' (ok_fits_alone (P := l.prog) (w := w) (mg := mg) (base := base) F1 ) (PySem.W.mg_of X G a1) k1 b1
  have F_fitting := Fn.mk' (ok_fitting (P := l.prog) (w := w) (mg := mg) (base := base) F2 F_fits_alone) (PySem.W.mg_of X G a2) k2 b2
  have F_sort_value := Fn.mk' (ok_sort_value (P := l.prog) (w := w) (mg := mg) (base := base) F3 z_len g_DEPTH g_TEXT g_WHOM) (PySem.W.mg_of X G a3) k3 b3
  have F_asked := Fn.mk' (ok_asked (P := l.prog) (w := w) (mg := mg) (base := base) F4 (tab_code a4 l4 tb) C B F_fitting F_sort_value z_zip z_list z_reversed z_sorted) (PySem.W.mg_of X G a4) k4 b4
  have F_cell_at := Fn.mk' (ok_cell_at (P := l.prog) (w := w) (mg := mg) (base := base) F5 z_len) (PySem.W.mg_of X G a5) k5 b5
  have F_text := Fn.mk' (ok_text (P := l.prog) (w := w) (mg := mg) (base := base) F6 ) (PySem.W.mg_of X G a6) k6 b6
  have F_rows := Fn.mk' (ok_rows (P := l.prog) (w := w) (mg := mg) (base := base) F7 F_text z_enumerate z_min z_int) (PySem.W.mg_of X G a7) k7 b7
  have F_key := Fn.mk' (ok_key (P := l.prog) (w := w) (mg := mg) (base := base) F8 z_len) (PySem.W.mg_of X G a8) k8 b8
  have F_follows := Fn.mk' (ok_follows (P := l.prog) (w := w) (mg := mg) (base := base) F9 F_key) (PySem.W.mg_of X G a9) k9 b9
  exact ok_law F10 F_cell_at F_rows F_asked F_follows z_len z_list z_isinstance z_range
theorem walk {l : PySem.W.OpenLaw} {q : Program} {loose : List Str} {XP : (Str → Option Value) → Heap → Prop} {YP : World → Heap → Prop} {d : DefRec} {K : Params → PySem.W.Frag} {c0 T : Addr} (hn : l.most = some 63) (hdf : d.params.defaults = [])
    (hY : ∀ (w : World) (h : Heap), YP w h → (K w.params).In h) (ht : ∀ w : World, PySem.W.tabIn (K w.params) "asked" = some (c0, T)) (hd : ∃ d', (PyProof.Rows.recsOf q).find? (fun e => e.name == ("asked" : Str)) = some d') (nt : ∀ w : World, PySem.W.noTabs (K w.params) = true)
    (F : ∀ (w : World) (mg : Str → Option Value) (fa : Addr) (h : Heap), (K w.params).In h → h.Ns mainGlobals mg → mg d.name = some (.ref fa) →
      ∃ fd : FuncData, (∀ (s : Shared) (u : Value), BindsTo s fd ⟨[u], []⟩ [("_law_script", u)]) ∧ ∀ base : Heap, (K w.params).In base → base.Ns mainGlobals mg → Blt base mg → PySem.W.CodeHd base c0 T → FnOk l.prog w (K w.params) mg base CX0 7 fa fd ["_law_script"] (spLaw (K w.params) T)) :
    PySem.W.WalkO q loose XP YP l.row.toRowW d [] (fun f vs => PySem.call f vs) :=
  L2.walk_tabs (n := 63) (k := 7) (x := "_law_script") (tabs := fun _ => [("asked", c0, T)]) (sp := fun w => spLaw (K w.params) T) hn (by decide) hdf ⟨rfl, by decide, by decide⟩ hY (fun w t htm => by rw [List.mem_singleton.mp htm]; exact ⟨ht w, hd⟩) nt
    (fun w mg fa h k g e => let ⟨fd, b, r⟩ := F w mg fa h k g e; ⟨fd, b, fun base k2 g2 bl cs => r base k2 g2 bl (cs _ (List.mem_singleton.mpr rfl))⟩) (fun w H a ns hl hT hS => ⟨a, ns, rfl, hS, hl, hT _ (List.mem_singleton.mpr rfl), fun _ => rfl⟩)
end K54
open PySem PySem.W PyProof.Rows
set_option maxRecDepth 100000 in
set_option maxHeartbeats 0 in
theorem PySem.Challenge.cw_limb_k54_rows_by_a_key_holds : PySem.Challenge.rw_limb_k54_rows_by_a_key.Holds := by
  w_on; o_law; k_head; (case hw => w_witness2)
  k_fill
  refine' K54.walk (l := PySem.Challenge.rw_limb_k54_rows_by_a_key) rfl rfl (fun w h Y => PySem.W.km_in_of Y) ?ht ?hd ?nt ?F
  case ht => intro w; with_unfolding_all rfl
  case hd => exact ⟨_, rfl⟩
  case nt => intro w; kernel_rfl
  case F =>
    intro w mg fa h KX G hmg
    refine' K54.all_mk KX G hmg ?a1 ?l1 ?c1 ?k1 ?a2 ?l2 ?c2 ?k2 ?a3 ?l3 ?c3 ?k3 ?a4 ?l4 ?c4 ?k4 ?a5 ?l5 ?c5 ?k5 ?a6 ?l6 ?c6 ?k6 ?a7 ?l7 ?c7 ?k7 ?a8 ?l8 ?c8 ?k8 ?a9 ?l9 ?c9 ?k9 ?a10 ?l10 ?c10 ?k10 ?h_DEPTH ?h_TEXT ?h_WHOM ?tb ?y_len ?y_min ?y_range ?y_list ?y_int ?y_isinstance ?y_zip ?y_enumerate ?y_reversed ?y_sorted
    (case a1 => k_is)
    (case l1 => k_is)
    (case c1 => k_is)
    (case k1 => k_is)
    (case a2 => k_is)
    (case l2 => k_is)
    (case c2 => k_is)
    (case k2 => k_is)
    (case a3 => k_is)
    (case l3 => k_is)
    (case c3 => k_is)
    (case k3 => k_is)
    (case a4 => k_is)
    (case l4 => k_is)
    (case c4 => k_is)
    (case k4 => k_is)
    (case a5 => k_is)
    (case l5 => k_is)
    (case c5 => k_is)
    (case k5 => k_is)
    (case a6 => k_is)
    (case l6 => k_is)
    (case c6 => k_is)
    (case k6 => k_is)
    (case a7 => k_is)
    (case l7 => k_is)
    (case c7 => k_is)
    (case k7 => k_is)
    (case a8 => k_is)
    (case l8 => k_is)
    (case c8 => k_is)
    (case k8 => k_is)
    (case a9 => k_is)
    (case l9 => k_is)
    (case c9 => k_is)
    (case k9 => k_is)
    (case a10 => k_is)
    (case l10 => k_is)
    (case c10 => k_is)
    (case k10 => k_is)
    (case h_DEPTH => k_is)
    (case h_TEXT => k_is)
    (case h_WHOM => k_is)
    (case tb => with_unfolding_all rfl)
    (case y_len => k_is)
    (case y_min => k_is)
    (case y_range => k_is)
    (case y_list => k_is)
    (case y_int => k_is)
    (case y_isinstance => k_is)
    (case y_zip => k_is)
    (case y_enumerate => k_is)
    (case y_reversed => k_is)
    (case y_sorted => k_is)

