import PyProof.Rows.All
import Wide.All
import OpenK.AllK
import Wide.FinOn
import Lean
import PyProof.EqAt
import PyProof.EqKinds
import PyProof.TupleCall
import PySem.Challenge.RW_yesorno_k45_whole_rounds
set_option Elab.async false
set_option linter.all false
set_option maxRecDepth 100000
/-! THE HAND LAYER, for ints, bools, texts, own classes, LISTS and tuples (index, slices, in, append, pop ..), calls, loops. Paste it whole ahead of your own text; what your proof does not reach may be deleted. -/
namespace L2
open PySem PySem.Spec PyProof.Rows

/-- a key: an int or a str -/
abbrev Key := Sum Int Str
def keyIs : Key → Value → Bool
  | .inl k, v => Value.isInt k v
  | .inr x, v => Value.isStrOf x v
def keyH (w : World) : Key → Int
  | .inl k => hashInt k
  | .inr x => hashStr w x
theorem keyIs_shape : ∀ {k : Key} {v : Value}, keyIs k v = true → (∃ i t, k = Sum.inl i ∧ v = Value.int i t) ∨ (∃ x t, k = Sum.inr x ∧ v = Value.str x t)
  | .inl i, v, h => by
    obtain ⟨t, e⟩ := Value.isInt_shape (k := i) (v := v) h
    exact .inl ⟨i, t, rfl, e⟩
  | .inr x, v, h => by
    obtain ⟨t, e⟩ := Value.isStrOf_shape (x := x) (v := v) h
    exact .inr ⟨x, t, rfl, e⟩
theorem keyIs_int (i : Int) (t : Tok) : keyIs (.inl i) (.int i t) = true := by simp [keyIs, Value.isInt]
theorem keyIs_str (x : Str) (t : Tok) : keyIs (.inr x) (.str x t) = true := by simp [keyIs, Value.isStrOf]
theorem key_ll (a b : Int) : decide ((Sum.inl a : Key) = Sum.inl b) = (a == b) := by
  by_cases e : a = b
  · subst e; simp
  · have h : ¬ (Sum.inl a : Key) = Sum.inl b := fun q => e (Sum.inl.inj q)
    rw [decide_eq_false h]
    exact (beq_eq_false_iff_ne.mpr e).symm
theorem key_rr (a b : Str) : decide ((Sum.inr a : Key) = Sum.inr b) = decide (a = b) := by
  by_cases e : a = b
  · subst e; simp
  · have h : ¬ (Sum.inr a : Key) = Sum.inr b := fun q => e (Sum.inr.inj q)
    rw [decide_eq_false h, decide_eq_false e]
theorem key_lr (a : Int) (b : Str) : decide ((Sum.inl a : Key) = Sum.inr b) = false := decide_eq_false (fun q => nomatch q)
theorem key_rl (a : Str) (b : Int) : decide ((Sum.inr a : Key) = Sum.inl b) = false := decide_eq_false (fun q => nomatch q)

def mixKind (prog : Program) (w : World) : PySem.KeyKind prog w Key where
  is := keyIs
  hash := keyH w
  inj := fun v a b ha hb => by
    rcases keyIs_shape ha with ⟨i, t, rfl, rfl⟩ | ⟨x, t, rfl, rfl⟩
    · rcases keyIs_shape hb with ⟨j, u, rfl, e⟩ | ⟨y, u, rfl, e⟩
      · injection e with e1 _; rw [e1]
      · exact nomatch e
    · rcases keyIs_shape hb with ⟨j, u, rfl, e⟩ | ⟨y, u, rfl, e⟩
      · exact nomatch e
      · injection e with e1 _; rw [e1]
  byValue := fun k v h => by
    rcases keyIs_shape h with ⟨i, t, rfl, rfl⟩ | ⟨x, t, rfl, rfl⟩ <;> rfl
  pyHash := fun hv h => by
    rcases keyIs_shape hv with ⟨i, t, rfl, rfl⟩ | ⟨x, t, rfl, rfl⟩
    · exact wpAny_pyHash_int h
    · exact wpAny_pyHash_str h
  eqBool := fun hu hv h => by
    rcases keyIs_shape hu with ⟨i, t, rfl, rfl⟩ | ⟨x, t, rfl, rfl⟩
    · rcases keyIs_shape hv with ⟨j, u, rfl, rfl⟩ | ⟨y, u, rfl, rfl⟩
      · rw [key_ll] at h; exact wpAny_eqBool_int h
      · rw [key_lr] at h; exact SeqAt.EqAt.int_str i t y u _ _ _ _ h
    · rcases keyIs_shape hv with ⟨j, u, rfl, rfl⟩ | ⟨y, u, rfl, rfl⟩
      · rw [key_rl] at h; exact SeqAt.EqAt.str_int x t j u _ _ _ _ h
      · rw [key_rr] at h; exact wpAny_eqBool_str h
  «strs» := fun k x t v h => by
    rcases keyIs_shape h with ⟨i, u, rfl, e⟩ | ⟨y, u, rfl, e⟩
    · exact nomatch e
    · injection e with e1 _
      subst e1
      cases v <;> rfl

theorem mixKind_int (prog : Program) (w : World) (i : Int) (t : Tok) : (mixKind prog w).is (.inl i) (.int i t) = true := keyIs_int i t
theorem mixKind_str (prog : Program) (w : World) (x : Str) (t : Tok) : (mixKind prog w).is (.inr x) (.str x t) = true := keyIs_str x t
end L2

namespace L2
open PySem PySem.Spec PyProof.Rows

/-- a value, without the heap -/
inductive V where
  | non | bl (b : Bool) | int (i : Int) | str (x : Str) | byt (b : Array UInt8) | flt (b : UInt64) | ref (a : Addr) | ty (n : String)
  deriving DecidableEq

def RelV : V → Value → Prop
  | .non, u => u = Value.none
  | .bl b, u => u = Value.bool b
  | .int i, u => ∃ t, u = Value.int i t
  | .str x, u => ∃ t, u = Value.str x t
  | .byt b, u => ∃ t, u = Value.bytes b t
  | .flt b, u => ∃ t, u = Value.float b t
  | .ref a, u => u = Value.ref a
  | .ty n, u => u = Value.type n

abbrev Vals : List V → List Value → Prop := Paired RelV
theorem Vals.length {xs : List V} {us : List Value} (r : Vals xs us) : xs.length = us.length := Paired.length r
theorem Vals.get : ∀ {xs : List V} {us : List Value} {i : Nat} {x : V}, Vals xs us → xs[i]? = some x → ∃ u, us[i]? = some u ∧ RelV x u
  | _, _, _, _, .nil, e => by simp at e
  | _, _, 0, _, .cons r _, e => by simp at e; subst e; exact ⟨_, rfl, r⟩
  | _, _, i + 1, x, .cons _ t, e => by
    obtain ⟨u, h1, h2⟩ := Vals.get (i := i) (x := x) t (by simpa using e)
    exact ⟨u, by simpa using h1, h2⟩
theorem Vals.set {x : V} {u : Value} (r : RelV x u) : ∀ {xs : List V} {us : List Value} (i : Nat), Vals xs us → Vals (xs.set i x) (us.set i u)
  | _, _, _, .nil => .nil
  | _, _, 0, .cons _ t => .cons r t
  | _, _, i + 1, .cons q t => .cons q (Vals.set r i t)
theorem Vals.append : ∀ {xs ys : List V} {us ws : List Value}, Vals xs us → Vals ys ws → Vals (xs ++ ys) (us ++ ws)
  | _, _, _, _, .nil, s => s
  | _, _, _, _, .cons r t, s => .cons r (Vals.append t s)
theorem Vals.take : ∀ {xs : List V} {us : List Value} (n : Nat), Vals xs us → Vals (xs.take n) (us.take n)
  | _, _, 0, _ => .nil
  | _, _, _ + 1, .nil => .nil
  | _, _, n + 1, .cons r t => .cons r (Vals.take n t)
theorem Vals.drop : ∀ {xs : List V} {us : List Value} (n : Nat), Vals xs us → Vals (xs.drop n) (us.drop n)
  | _, _, 0, r => r
  | _, _, _ + 1, .nil => .nil
  | _, _, n + 1, .cons _ t => Vals.drop n t
theorem Vals.none_of : ∀ {xs : List V} {us : List Value} {i : Nat}, Vals xs us → xs[i]? = none → us[i]? = none := fun {xs us i} r e => by
  have h1 := r.length
  have h2 : xs.length ≤ i := List.getElem?_eq_none_iff.mp e
  exact List.getElem?_eq_none_iff.mpr (by omega)

def RelO : Option V → Option Value → Prop
  | some v, some u => RelV v u
  | none, none => True
  | _, _ => False
def KV {κ : Type} : List (κ × V) → List (κ × Value) → Prop := Paired fun (p : κ × V) (q : κ × Value) => p.1 = q.1 ∧ RelV p.2 q.2

/-- a key of a dict (00_mix): an int or a text -/
def kV : Key → V
  | .inl i => .int i
  | .inr x => .str x

/-- what stands at a tracked address -/
inductive HO where
  /-- a list -/
  | lst (xs : List V)
  /-- a tuple (never changes) -/
  | tup (xs : List V)
  /-- a dict whose keys are ints and texts; one whose keys are tuples of ints and texts (the empty one is both) -/
  | dK (kvs : List (Key × V)) | dT (kvs : List (List Key × V))
  /-- a set of ints: its members, its size -/
  | set (S : Int → Bool) (n : Nat)
  /-- an instance of the class at C, its dict at dx, its attributes -/
  | ins (C dx : Addr) (fs : List (Str × V))
  /-- the dict of the instance at x -/
  | own (x : Addr)
  /-- the dict of an exception -/
  | xd (fs : List (Str × V))
  /-- a bound method, f of x -/
  | met (f x : Addr)
  /-- a range object lo, lo + 1, .. below hi -/
  | rng (lo hi : Int)
  /-- a thing that is known to the object (the script; a dict while a loop walks it): read, never written while it is so -/
  | frz (o : Obj) (u : HO)
  /-- a code object's table -/
  | tbl (ps : Array Value)
  /-- any other thing, by what is true of its one object (a def of one's own: SetO a S n := HO.ext fun h => ..) -/
  | ext (φ : Heap → Prop)

abbrev Hp := Addr → Option HO
def upd (H : Hp) (a : Addr) (o : HO) : Hp := fun b => if b = a then some o else H b
theorem upd_same {H : Hp} {a : Addr} {o : HO} : upd H a o a = some o := by unfold upd; rw [if_pos rfl]
theorem upd_ne {H : Hp} {a b : Addr} {o : HO} (h : b ≠ a) : upd H a o b = H b := by unfold upd; rw [if_neg h]
/-- two objects of different content stand apart -/
theorem ne_of {H : Hp} {a b : Addr} {o u : HO} (h : H a = some o) (h' : H b = some u) (d : o ≠ u) : a ≠ b := by
  intro e; subst e; rw [h] at h'; exact d (Option.some.inj h')
theorem ne_of_none {H : Hp} {a b : Addr} {o : HO} (h : H a = some o) (h' : H b = none) : a ≠ b := by
  intro e; subst e; rw [h] at h'; cases h'

section
variable (P : Program) (w : World)
def ObjOk (H : Hp) (h : Heap) (a : Addr) : HO → Prop
  | .lst xs => xs.length ≤ sizeLine ∧ ∃ (its : List Value) (n : Nat), Vals xs its ∧ h.get? a = some { cls := .type "list", data := .seq its.toArray n }
  | .tup xs => xs.length ≤ sizeLine ∧ ∃ its : List Value, Vals xs its ∧ IsTup h a its.toArray
  | .dK kvs => kvs.length ≤ sizeLine ∧ (a == sysModules) = false ∧ ∃ vs, KV kvs vs ∧ h.DictOf (mixKind P w) a vs
  | .dT kvs => kvs.length ≤ sizeLine ∧ (a == sysModules) = false ∧ ∃ xs : List (List Key × Addr × Value),
      Paired (fun (p : List Key × V) (q : List Key × Addr × Value) => p.1 = q.1 ∧ H q.2.1 = some (.tup (p.1.map kV)) ∧ RelV p.2 q.2.2) kvs xs ∧
      ∃ o es ep, h.get? a = some o ∧ o.ExactDict ∧ o.data = .dict es ep ∧ es.toList = xs.map (entryOfKey (tupleKind (mixKind P w))) ∧ (xs.map (·.1)).Nodup
  | .set S n => h.SetOf (intKind P w) a S n
  | .ins C dx fs => H dx = some (.own a) ∧ fs.length ≤ 1000 ∧ dx ≠ a ∧ h.get? a = some (PySem.W.instObj C dx) ∧
      ∃ mA, h.Ns1 dx mA ∧ (∀ f, RelO (fs.lookup f) (mA f)) ∧ PySem.Within mA (fs.map (·.1))
  | .own _ => ∃ o, h.get? a = some o
  | .xd fs => ∃ mA, h.Ns1 a mA ∧ ∀ f, RelO (fs.lookup f) (mA f)
  | .rng lo hi => ∃ t u v, h.get? a = some { cls := .type "range", data := .fields #[.int lo t, .int hi u, .int 1 v] }
  | .frz o u => h.get? a = some o ∧ ObjOk H h a u
  | .tbl ps => h.get? a = some { cls := .none, data := .fields ps }
  | .met f x => h.get? a = some (PySem.W.methodObj (.ref f) (.ref x))
  | .ext φ => φ h ∧ (∃ o, h.get? a = some o) ∧ ∀ h1 h2 : Heap, φ h1 → (∀ o, h1.get? a = some o → h2.get? a = some o) → φ h2
/-- the abstract heap is held -/
def HOk (H : Hp) (h : Heap) : Prop := ∀ a o, H a = some o → ObjOk P w H h a o
end

section
variable {P : Program} {w : World} {H H' : Hp} {h h' : Heap} {a : Addr} {o : HO}
theorem ObjOk.lt (x : ObjOk P w H h a o) : a < h.objs.size := by
  cases o with
  | lst xs => obtain ⟨_, _, _, _, e⟩ := x; exact Heap.lt_size e
  | tup xs => obtain ⟨_, _, _, p⟩ := x; exact p.lt
  | dK kvs => obtain ⟨_, _, _, _, o, _, _, e, _⟩ := x; exact Heap.lt_size e
  | dT kvs => obtain ⟨_, _, _, _, o, _, _, e, _⟩ := x; exact Heap.lt_size e
  | set S n => obtain ⟨o, _, _, _, e, _⟩ := x; exact Heap.lt_size e
  | ins C dx fs => obtain ⟨_, _, _, e, _⟩ := x; exact Heap.lt_size e
  | own y => obtain ⟨_, e⟩ := x; exact Heap.lt_size e
  | xd fs => obtain ⟨_, ⟨_, _, _, e, _⟩, _⟩ := x; exact Heap.lt_size e
  | rng lo hi => obtain ⟨_, _, _, e⟩ := x; exact Heap.lt_size e
  | frz ob u => obtain ⟨e, _⟩ := x; exact Heap.lt_size e
  | tbl ps => exact Heap.lt_size (show h.get? a = some _ from x)
  | met f y => exact Heap.lt_size (show h.get? a = some _ from x)
  | ext φ => obtain ⟨_, ⟨_, e⟩, _⟩ := x; exact Heap.lt_size e
theorem Paired.mapP {α β : Type} {F G : α → β → Prop} : ∀ {l₁ : List α} {l₂ : List β}, Paired F l₁ l₂ → (∀ a b, F a b → G a b) → Paired G l₁ l₂
  | _, _, .nil, _ => .nil
  | _, _, .cons r t, f => .cons (f _ _ r) (Paired.mapP t f)
/-- what an object's description leans on: its own object, its own dict, the tuples -/
theorem ObjOk.stay (x : ObjOk P w H h a o) (k : ∀ b u, (b = a ∨ H b = some (.own a)) → h.get? b = some u → h'.get? b = some u)
    (ho : ∀ b, H b = some (.own a) → H' b = some (.own a)) (ht : ∀ b xs, H b = some (.tup xs) → H' b = some (.tup xs)) : ObjOk P w H' h' a o := by
  induction o with
  | lst xs => obtain ⟨z, its, n, r, e⟩ := x; exact ⟨z, its, n, r, k _ _ (.inl rfl) e⟩
  | tup xs => obtain ⟨z, its, r, ob, e, c⟩ := x; exact ⟨z, its, r, ob, k _ _ (.inl rfl) e, c⟩
  | dK kvs => obtain ⟨z, y, vs, r, ob, es, ep, e, c⟩ := x; exact ⟨z, y, vs, r, ob, es, ep, k _ _ (.inl rfl) e, c⟩
  | dT kvs =>
    obtain ⟨z, y, xs, r, ob, es, ep, e, c⟩ := x
    exact ⟨z, y, xs, Paired.mapP r fun p q z => ⟨z.1, ht _ _ z.2.1, z.2.2⟩, ob, es, ep, k _ _ (.inl rfl) e, c⟩
  | set S n => obtain ⟨ob, es, ep, t, e, c⟩ := x; exact ⟨ob, es, ep, t, k _ _ (.inl rfl) e, c⟩
  | ins C dx fs =>
    obtain ⟨d, z, ne, e, mA, ⟨od, es, ep, e2, c⟩, r⟩ := x
    exact ⟨ho _ d, z, ne, k _ _ (.inl rfl) e, mA, ⟨od, es, ep, k _ _ (.inr d) e2, c⟩, r⟩
  | own y => obtain ⟨ob, e⟩ := x; exact ⟨ob, k _ _ (.inl rfl) e⟩
  | xd fs => obtain ⟨mA, ⟨od, es, ep, e, c⟩, r⟩ := x; exact ⟨mA, ⟨od, es, ep, k _ _ (.inl rfl) e, c⟩, r⟩
  | rng lo hi => obtain ⟨t, u, v, e⟩ := x; exact ⟨t, u, v, k _ _ (.inl rfl) e⟩
  | frz ob u ih => obtain ⟨e, q⟩ := x; exact ⟨k _ _ (.inl rfl) e, ih q⟩
  | tbl ps =>
    have e : h.get? a = some { cls := .none, data := .fields ps } := x
    show h'.get? a = some { cls := .none, data := .fields ps }
    exact k a _ (.inl rfl) e
  | met f y =>
    have e : h.get? a = some (PySem.W.methodObj (.ref f) (.ref y)) := x
    show h'.get? a = some (PySem.W.methodObj (.ref f) (.ref y))
    exact k a _ (.inl rfl) e
  | ext φ => obtain ⟨p, ⟨o, e⟩, st⟩ := x; exact ⟨st _ _ p fun o q => k _ _ (.inl rfl) q, ⟨o, k _ _ (.inl rfl) e⟩, st⟩
theorem HOk.lt (x : HOk P w H h) (e : H a = some o) : a < h.objs.size := (x a o e).lt
theorem HOk.fresh (x : HOk P w H h) (e : h.objs.size ≤ a) : H a = none := by
  cases q : H a with
  | none => rfl
  | some u => exact absurd (Nat.lt_of_lt_of_le (x.lt q) e) (Nat.lt_irrefl _)
/-- every object of the heap is kept -/
theorem HOk.kept (x : HOk P w H h) (k : ∀ b u, h.get? b = some u → h'.get? b = some u) : HOk P w H h' := fun a o e =>
  (x a o e).stay (fun b u _ q => k b u q) (fun _ q => q) fun _ _ q => q
/-- a new object is laid and tracked -/
theorem HOk.laid (x : HOk P w H h) (k : ∀ b u, h.get? b = some u → h'.get? b = some u) (hp : h.objs.size ≤ a) (new : ObjOk P w (upd H a o) h' a o) : HOk P w (upd H a o) h' := fun b u e => by
  have hn := x.fresh hp
  by_cases hb : b = a
  · subst hb; rw [upd_same] at e; cases e; exact new
  · rw [upd_ne hb] at e
    exact (x b u e).stay (fun c v _ q => k c v q) (fun c q => by rw [upd_ne (ne_of_none q hn)]; exact q) fun c xs q => by rw [upd_ne (ne_of_none q hn)]; exact q
end

/-- what may be read as u: it is u, or a known u -/
def Rd (H : Hp) (a : Addr) (u : HO) : Prop := H a = some u ∨ ∃ o, H a = some (.frz o u)
theorem Rd.of {H : Hp} {a : Addr} {u : HO} (h : H a = some u) : Rd H a u := .inl h
theorem Rd.ok {P : Program} {w : World} {H : Hp} {h : Heap} {a : Addr} {u : HO} (r : Rd H a u) (x : HOk P w H h) : ObjOk P w H h a u := by
  rcases r with r | ⟨o, r⟩
  · exact x a u r
  · obtain ⟨_, q⟩ := x a _ r
    exact q
/-- what may be written -/
def Mut : Option HO → Prop
  | some (.lst _) => True
  | some (.dK _) => True
  | some (.dT _) => True
  | some (.set _ _) => True
  | some (.ins _ _ _) => True
  | some (.ext _) => True
  | _ => False
section
variable {P : Program} {w : World} {H : Hp} {h h' : Heap} {x e : Addr} {o' : HO}
/-- the object at e is changed: x itself, or the dict of the instance x -/
theorem HOk.write (ok : HOk P w H h) (mu : Mut (H x)) (he : e = x ∨ H e = some (.own x)) (k : ∀ b u, b ≠ e → h.get? b = some u → h'.get? b = some u) (heo : ∃ u, h'.get? e = some u)
    (new : ObjOk P w (upd H x o') h' x o') : HOk P w (upd H x o') h' := fun b u q => by
  have nown : ∀ c y, H c = some (.own y) → c ≠ x := fun c y r z => by subst z; rw [r] at mu; exact mu
  have ntup : ∀ c xs, H c = some (.tup xs) → c ≠ x := fun c xs r z => by subst z; rw [r] at mu; exact mu
  by_cases hb : b = x
  · subst hb; rw [upd_same] at q; cases q; exact new
  · rw [upd_ne hb] at q
    by_cases hbe : b = e
    · have q' : H b = some (.own x) := by
        rcases he with z | z
        · exact absurd (hbe.trans z) hb
        · rw [hbe]; exact z
      rw [q] at q'; cases q'
      obtain ⟨v, hv⟩ := heo
      exact ⟨v, by rw [hbe]; exact hv⟩
    · refine (ok b u q).stay (fun c v hc r => k c v ?_ r) (fun c r => by rw [upd_ne (nown c b r)]; exact r) fun c xs r => by rw [upd_ne (ntup c xs r)]; exact r
      rcases hc with rfl | hc
      · exact hbe
      · rintro rfl
        rcases he with z | z
        · exact nown c b hc z
        · rw [hc] at z; cases z; exact hb rfl
end

/-! ### kept unless tracked; of the frames at fs (the callers') the slots may change (an exception that passes writes there); of the records at ex (iterators) nothing is said -/
structure Un (fs ex : List Addr) (H H' : Hp) (h h' : Heap) : Prop where
  keep : ∀ b o, h.get? b = some o → H b = none → b ∉ fs → b ∉ ex → h'.get? b = some o
  slot : ∀ b o, h.get? b = some o → H b = none → b ∈ fs → b ∉ ex → ∃ sl, h'.get? b = some { o with slots := sl }
  free : ∀ b o, h.get? b = some o → H b = none → b ∉ ex → H' b = none
  there : ∀ b o, h.get? b = some o → b ∉ ex → ∃ o', h'.get? b = some o'
  tups : ∀ b xs, H b = some (.tup xs) → H' b = some (.tup xs)
  frzs : ∀ b o u, H b = some (.frz o u) → H' b = some (.frz o u)
  tbls : ∀ b ps, H b = some (.tbl ps) → ∃ more, H' b = some (.tbl (ps ++ more))
section
variable {fs fs' ex ex' : List Addr} {H H1 H2 : Hp} {h h1 h2 h' : Heap} {a x e : Addr} {o : HO}
theorem Un.any (u : Un fs ex H H1 h h1) {b : Addr} {ob : Obj} (q : h.get? b = some ob) (n : H b = none) (hx : b ∉ ex) : ∃ sl, h1.get? b = some { ob with slots := sl } := by
  by_cases hb : b ∈ fs
  · exact u.slot b ob q n hb hx
  · exact ⟨ob.slots, u.keep b ob q n hb hx⟩
theorem Un.trans (a : Un fs ex H H1 h h1) (b : Un fs ex H1 H2 h1 h2) : Un fs ex H H2 h h2 where
  keep := fun c ob q n hc hx => b.keep c ob (a.keep c ob q n hc hx) (a.free c ob q n hx) hc hx
  slot := fun c ob q n hc hx => by
    obtain ⟨sl, e1⟩ := a.slot c ob q n hc hx
    obtain ⟨sl', e2⟩ := b.slot c _ e1 (a.free c ob q n hx) hc hx
    exact ⟨sl', e2⟩
  free := fun c ob q n hx => by
    obtain ⟨o', e1⟩ := a.there c ob q hx
    exact b.free c o' e1 (a.free c ob q n hx) hx
  there := fun c ob q hx => by
    obtain ⟨o', e1⟩ := a.there c ob q hx
    exact b.there c o' e1 hx
  tups := fun c xs q => b.tups c xs (a.tups c xs q)
  frzs := fun c ob xs q => b.frzs c ob xs (a.frzs c ob xs q)
  tbls := fun c ps q => by
    obtain ⟨m1, e1⟩ := a.tbls c ps q
    obtain ⟨m2, e2⟩ := b.tbls c _ e1
    exact ⟨m1 ++ m2, by rw [e2, Array.append_assoc]⟩
theorem Un.kept (k : ∀ b u, h.get? b = some u → h'.get? b = some u) : Un fs ex H H h h' :=
  ⟨fun b ob q _ _ _ => k b ob q, fun b ob q _ _ _ => ⟨ob.slots, k b ob q⟩, fun _ _ _ n _ => n, fun b ob q _ => ⟨ob, k b ob q⟩, fun _ _ q => q, fun _ _ _ q => q, fun _ ps q => ⟨#[], by rw [q]; simp⟩⟩
theorem Un.refl : Un fs ex H H h h := Un.kept fun _ _ q => q
theorem Un.laid (k : ∀ b u, h.get? b = some u → h'.get? b = some u) (hp : h.objs.size ≤ a) (hn : H a = none) : Un fs ex H (upd H a o) h h' where
  keep := fun b u q _ _ _ => k b u q
  slot := fun b u q _ _ _ => ⟨u.slots, k b u q⟩
  free := fun b u q n _ => by rw [upd_ne (Nat.ne_of_lt (Nat.lt_of_lt_of_le (Heap.lt_size q) hp))]; exact n
  there := fun b u q _ => ⟨u, k b u q⟩
  tups := fun b xs q => by rw [upd_ne (ne_of_none q hn)]; exact q
  frzs := fun b u xs q => by rw [upd_ne (ne_of_none q hn)]; exact q
  tbls := fun b ps q => ⟨#[], by rw [upd_ne (ne_of_none q hn), q]; simp⟩
theorem Un.write (mu : Mut (H x)) (he : e = x ∨ H e = some (.own x)) (k : ∀ b u, b ≠ e → h.get? b = some u → h'.get? b = some u) (heo : ∃ u, h'.get? e = some u) : Un fs ex H (upd H x o) h h' := by
  have hx : ∀ b, H b = none → b ≠ x := fun b n z => by subst z; rw [n] at mu; exact mu
  have hb : ∀ b, H b = none → b ≠ e := fun b n z => by
    subst z
    rcases he with r | r
    · exact hx b n r
    · rw [n] at r; cases r
  have hm : ∀ b u, H b = some u → ¬ Mut (some u) → b ≠ x := fun b u q nm z => by subst z; rw [q] at mu; exact nm mu
  refine ⟨fun b u q n _ _ => k b u (hb b n) q, fun b u q n _ _ => ⟨u.slots, k b u (hb b n) q⟩, fun b u q n _ => by rw [upd_ne (hx b n)]; exact n, fun b u q _ => ?_,
    fun b xs q => by rw [upd_ne (hm b _ q fun z => z)]; exact q, fun b u xs q => by rw [upd_ne (hm b _ q fun z => z)]; exact q, fun b ps q => ⟨#[], by rw [upd_ne (hm b _ q fun z => z), q]; simp⟩⟩
  by_cases hbe : b = e
  · subst hbe; exact heo
  · exact ⟨u, k b u hbe q⟩
theorem Un.mono (u : Un fs ex H H1 h h1) (hs : ∀ b ∈ fs, b ∈ fs') (hx : ∀ b ∈ ex, b ∈ ex') : Un fs' ex' H H1 h h1 :=
  ⟨fun b ob q n hb he => u.keep b ob q n (fun z => hb (hs b z)) fun z => he (hx b z), fun _ _ q n _ he => u.any q n fun z => he (hx _ z), fun b ob q n he => u.free b ob q n fun z => he (hx b z), fun b ob q he => u.there b ob q fun z => he (hx b z), u.tups, u.frzs, u.tbls⟩
end

/-! ### the heap without what is tracked -/
def trk (h : Heap) (H : Hp) : List Addr := (List.range h.objs.size).filter fun a => (H a).isSome
def hidT (h : Heap) (H : Hp) : Heap := PySem.W.hideAll h (trk h H)
theorem hidT_size (h : Heap) (H : Hp) : (hidT h H).objs.size = h.objs.size := PySem.W.hideAll_size _ _
theorem hidT_get {h : Heap} {H : Hp} {b : Addr} {o : Obj} (e : h.get? b = some o) (n : H b = none) : (hidT h H).get? b = some o :=
  PySem.W.hideAll_get _ e fun hm => by
    have q : (H b).isSome = true := (List.mem_filter.mp hm).2
    rw [n] at q; simp at q
theorem of_hidT {h : Heap} {H : Hp} {b : Addr} {o : Obj} (e : (hidT h H).get? b = some o) : h.get? b = some o ∧ H b = none := by
  have e' : h.get? b = some o := PySem.W.of_hideAll (trk h H) e
  refine ⟨e', ?_⟩
  cases q : H b with
  | none => rfl
  | some x =>
    have hm : b ∈ trk h H := List.mem_filter.mpr ⟨List.mem_range.mpr (Heap.lt_size e'), by simp [q]⟩
    have z : (hidT h H).get? b = none := PySem.W.hideAll_none (trk h H) hm
    rw [z] at e; cases e

/-! ### OpenK's ledger, filled with every new object but one -/
def allNews (g h : Heap) (L : Addr) : List (Addr × Obj) := (List.range h.objs.size).filterMap fun a => if a = L ∨ (g.get? a).isSome = true then none else (h.get? a).map fun o => (a, o)
def rest (g h : Heap) (L d : Addr) : List (Addr × Obj) := (allNews g h L).filter fun p => decide (p.1 ≠ d)
end L2

namespace L2
open PySem PySem.Spec PyProof.Rows

/-- the module's facts, over the base: the heap at the law's entry without what is tracked there -/
structure Mod (K : PySem.W.Frag) (mg : Str → Option Value) (base : Heap) : Prop where
  kin : K.In base
  glob : base.Ns mainGlobals mg
  blt : ∃ mb, base.Ns builtinsNs mb ∧ ∀ x : Str, x ≠ "__name__" → mb x = bootBuiltins x
  nolimit : base.NoLimit

/-- the context: a def's body (or a comprehension's block) running. base: fixed through the whole law; s₀, H₀: the entry; outer: the frames whose slots others may change (a def's callers); stack: all frames that run;
   ex: iterators that were made ahead of the entry and are walked here (a comprehension's); fn: the names whose cells were made at the entry (a def: all; a comprehension's block: its own); calm: not within an except suite; pn: pins that every state bears; xe: what is wanted of an exception that leaves the code -/
structure Cx where
  prog : Program
  w : World
  K : PySem.W.Frag
  mg : Str → Option Value
  base : Heap
  A : Around
  N : List Str
  s₀ : Shared
  H₀ : Hp
  env : Env
  outer : List Env
  stack : List Env
  ex : List Addr
  fn : Str → Bool
  calm : Bool
  pn : List (Addr × Obj)
  xe : Value → Shared → Prop
/-- the callers' frames -/
def frs (l : List Env) : List Addr := l.filterMap (·.frame)
abbrev Cx.fs (X : Cx) : List Addr := frs X.outer

def Vis (sc : Scope) (x : Str) : Prop := sc.names.lookup x = some .local ∨ sc.names.lookup x = some .cell ∨ sc.names.lookup x = some .free
def Loc (sc : Scope) (x : Str) : Prop := sc.names.lookup x = some .local ∨ sc.names.lookup x = some .cell
def Look (env : Env) (h : Heap) (m : Str → Option Value) (x : Str) (u : Value) : Prop :=
  (env.kindOf x = some .local ∧ m x = some u) ∨ ((env.kindOf x = some .cell ∨ env.kindOf x = some .free) ∧ ∃ c, env.cells.lookup x = some c ∧ h.IsCell c (some u))

structure Cx.Ok (X : Cx) : Prop where
  mod : Mod X.K X.mg X.base
  kind : X.env.scope.kind = .function
  glob : X.env.globals = mainGlobals
  blt : X.env.builtins = builtinsNs
  above : X.s₀.heap.objs.size ≤ X.env.locals
  inj : ∀ x y c, X.env.cells.lookup x = some c → X.env.cells.lookup y = some c → x = y
  has : ∀ x, (X.env.kindOf x = some .cell ∨ X.env.kindOf x = some .free) → ∃ c, X.env.cells.lookup x = some c
  cab : ∀ x c, X.fn x = true → X.env.cells.lookup x = some c → X.s₀.heap.objs.size ≤ c
  hd : X.calm = true → X.A.handled = none
  frames : X.A.frames = some X.stack
  stk : X.stack = X.outer ∨ (X.stack = X.env :: X.outer ∧ X.env.frame = some X.env.locals)
  exf : ∀ b ∈ X.ex, b ≠ X.env.locals ∧ ∀ x c, X.env.cells.lookup x = some c → c ≠ b
  bs : ∀ b o, X.base.get? b = some o → X.s₀.heap.get? b = some o ∧ X.H₀ b = none
  bsz : X.base.objs.size ≤ X.s₀.heap.objs.size
  noex : ∀ b o, X.base.get? b = some o → b ∉ X.ex
  exfs : ∀ b ∈ X.ex, b ∉ X.fs
  funs : X.s₀.heap.FunFrames X.base X.outer
  frf : ∀ b ∈ X.fs, X.H₀ b = none

structure Inv (X : Cx) (pins : List (Addr × Obj)) (σ : List (Option V)) (H : Hp) (s : Shared) : Prop where
  ok : X.Ok
  os : s.os = X.s₀.os
  bare : AllBare s.gens
  base : Un X.fs X.ex X.H₀ H X.s₀.heap s.heap
  loc : ∃ m, s.heap.Ns X.env.locals m ∧ ∀ (i : Nat) (x : Str) (v : V), X.N[i]? = some x → σ[i]? = some (some v) → Vis X.env.scope x → ∃ u, RelV v u ∧ Look X.env s.heap m x u
  cell : ∀ x c, X.env.cells.lookup x = some c → ∃ v, s.heap.IsCell c v
  free : H X.env.locals = none
  freeC : ∀ x c, X.env.cells.lookup x = some c → H c = none
  pin : ∀ p ∈ X.pn ++ pins, s.heap.get? p.1 = some p.2 ∧ H p.1 = none ∧ p.1 ≠ X.env.locals ∧ p.1 ∉ X.fs ∧ ∀ v, p.2.data ≠ .cell v
  hok : HOk X.prog X.w H s.heap
  len : σ.length = X.N.length

section
variable {X : Cx} {pins : List (Addr × Obj)} {σ : List (Option V)} {H H' : Hp} {s : Shared} {h' : Heap}

theorem Cx.Ok.nofr (ok : X.Ok) {b : Addr} {o : Obj} (e : X.base.get? b = some o) : b ∉ X.fs := fun hb => by
  have := (ok.funs.mem hb).1
  rw [e] at this; cases this
theorem Inv.bs (I : Inv X pins σ H s) : ∀ b o, X.base.get? b = some o → s.heap.get? b = some o ∧ H b = none := fun b o e =>
  ⟨I.base.keep b o (I.ok.bs b o e).1 (I.ok.bs b o e).2 (I.ok.nofr e) (I.ok.noex b o e), I.base.free b o (I.ok.bs b o e).1 (I.ok.bs b o e).2 (I.ok.noex b o e)⟩
theorem Inv.bk (I : Inv X pins σ H s) : ∀ b o, X.base.get? b = some o → s.heap.get? b = some o := fun b o e => (I.bs b o e).1
theorem Inv.mod (I : Inv X pins σ H s) : Mod X.K X.mg X.base := I.ok.mod
theorem Inv.kIn (I : Inv X pins σ H s) : X.K.In s.heap := I.ok.mod.kin.keeps I.bk
theorem Inv.nolimit (I : Inv X pins σ H s) : s.heap.NoLimit := I.ok.mod.nolimit.keeps I.bk
/-- the frame over the base: for OpenK's rules (K.In X.base is I.mod.kin) -/
theorem Inv.fr (I : Inv X pins σ H s) : ∃ m, Fr X.base X.env.locals s.heap m :=
  let ⟨m, hn, _⟩ := I.loc
  ⟨m, hn, I.bk, Nat.le_trans I.ok.bsz I.ok.above⟩
theorem Inv.lt (I : Inv X pins σ H s) : X.env.locals < s.heap.objs.size := let ⟨_, hn, _⟩ := I.loc; hn.lt
theorem Inv.sz (I : Inv X pins σ H s) : X.s₀.heap.objs.size ≤ s.heap.objs.size := Nat.le_trans I.ok.above (Nat.le_of_lt I.lt)
theorem Inv.nofs (I : Inv X pins σ H s) {a : Addr} (h : s.heap.objs.size ≤ a) : a ∉ X.fs := fun hb => by
  obtain ⟨_, o, ho, _⟩ := I.ok.funs.mem hb
  exact absurd (Nat.lt_of_lt_of_le (Heap.lt_size ho) (Nat.le_trans I.sz h)) (Nat.lt_irrefl _)
theorem Inv.cne (I : Inv X pins σ H s) : ∀ x c, X.env.cells.lookup x = some c → c ≠ X.env.locals := fun x c e z => by
  obtain ⟨v, o, ho, hd⟩ := I.cell x c e
  obtain ⟨m, ⟨o', es, ep, ho', hd', _⟩, _⟩ := I.loc
  rw [z, ho'] at ho; cases ho; rw [hd'] at hd; cases hd
theorem Inv.funs (I : Inv X pins σ H s) : s.heap.FunFrames X.base X.outer := by
  have all : ∀ (l : List Env), (∀ b ∈ frs l, b ∈ X.fs) → X.s₀.heap.FunFrames X.base l → s.heap.FunFrames X.base l := by
    intro l
    induction l with
    | nil => intro _ _; trivial
    | cons env r ih =>
      intro hs hl
      obtain ⟨hk, ⟨L, o, hf, hn, ho, hd⟩, hr⟩ := hl
      have hL : L ∈ X.fs := hs L (by unfold frs; rw [List.filterMap_cons, hf]; exact List.mem_cons_self)
      obtain ⟨sl, e⟩ := I.base.slot L o ho (I.ok.frf L hL) hL fun z => I.ok.exfs L z hL
      exact ⟨hk, ⟨L, _, hf, hn, e, hd⟩, ih (fun b hb => hs b (by unfold frs; rw [List.filterMap_cons, hf]; exact List.mem_cons_of_mem _ hb)) hr⟩
  exact all X.outer (fun _ hb => hb) I.ok.funs

/-- the frames that run, for a call -/
theorem Inv.stack (I : Inv X pins σ H s) : s.heap.FunFrames X.base X.stack := by
  rcases I.ok.stk with e | ⟨e, hf⟩
  · rw [e]; exact I.funs
  · rw [e]
    obtain ⟨m, hn, _⟩ := I.loc
    refine .cons (by rw [I.ok.kind]; decide) hf hn ?_ I.funs
    exact Heap.get?_none_of_le (Nat.le_trans I.ok.bsz I.ok.above)
theorem Inv.stkSub (I : Inv X pins σ H s) : ∀ b ∈ frs X.stack, b ∈ X.env.locals :: X.fs := fun b hb => by
  rcases I.ok.stk with e | ⟨e, hf⟩
  · rw [e] at hb; exact List.mem_cons_of_mem _ hb
  · rw [e] at hb
    unfold frs at hb
    rw [List.filterMap_cons, hf] at hb
    exact hb
theorem Inv.stkFree (I : Inv X pins σ H s) : ∀ b ∈ frs X.stack, H b = none := fun b hb => by
  rcases List.mem_cons.mp (I.stkSub b hb) with e | hb
  · rw [e]; exact I.free
  · obtain ⟨_, o, ho, _⟩ := I.ok.funs.mem hb
    exact I.base.free b o ho (I.ok.frf b hb) fun z => I.ok.exfs b z hb

/-- THE STEP: the untracked objects but the frame and the records at ch are kept (the callers' frames up to slots), the frame's map is kept, the new abstract heap is held -/
theorem Inv.step {g' : Array GenState} {t' : Nat} {d' : Drawn} {ch : List Addr} (I : Inv X pins σ H s)
    (hch : ∀ b ∈ ch, (b ∈ X.ex ∨ X.s₀.heap.objs.size ≤ b) ∧ b ≠ X.env.locals ∧ (∀ x c, X.env.cells.lookup x = some c → c ≠ b) ∧ ∀ p ∈ X.pn ++ pins, p.1 ≠ b)
    (keep : ∀ b o, b ≠ X.env.locals → b ∉ X.fs → b ∉ ch → s.heap.get? b = some o → H b = none → h'.get? b = some o)
    (slot : ∀ b o, b ≠ X.env.locals → b ∈ X.fs → b ∉ ch → s.heap.get? b = some o → H b = none → ∃ sl, h'.get? b = some { o with slots := sl }) (free : ∀ b o, b ∉ ch → s.heap.get? b = some o → H b = none → H' b = none)
    (there : ∀ b o, b ∉ ch → s.heap.get? b = some o → ∃ o', h'.get? b = some o')
    (tups : ∀ b xs, H b = some (.tup xs) → H' b = some (.tup xs)) (frzs : ∀ b o u, H b = some (.frz o u) → H' b = some (.frz o u)) (tbls : ∀ b ps, H b = some (.tbl ps) → ∃ more, H' b = some (.tbl (ps ++ more)))
    (ns : ∀ m, s.heap.Ns X.env.locals m → h'.Ns X.env.locals m) (hok : HOk X.prog X.w H' h') (hg : AllBare g') :
    Inv X pins σ H' { s with heap := h', gens := g', drawn := d', toks := t' } := by
  have neL : ∀ b o, X.s₀.heap.get? b = some o → b ≠ X.env.locals := fun b o e => Nat.ne_of_lt (Nat.lt_of_lt_of_le (Heap.lt_size e) I.ok.above)
  have neC : ∀ b o, X.s₀.heap.get? b = some o → b ∉ X.ex → b ∉ ch := fun b o e hx hb => by
    rcases (hch b hb).1 with z | z
    · exact hx z
    · exact absurd (Nat.lt_of_lt_of_le (Heap.lt_size e) z) (Nat.lt_irrefl _)
  have cellK : ∀ x c, X.env.cells.lookup x = some c → ∀ v, s.heap.IsCell c v → h'.IsCell c v := fun x c e v ⟨o, ho, hd⟩ => by
    have nch : c ∉ ch := fun z => (hch c z).2.2.1 x c e rfl
    by_cases hc : c ∈ X.fs
    · obtain ⟨sl, q⟩ := slot c o (I.cne x c e) hc nch ho (I.freeC x c e)
      exact ⟨_, q, hd⟩
    · exact ⟨o, keep c o (I.cne x c e) hc nch ho (I.freeC x c e), hd⟩
  refine ⟨I.ok, I.os, hg, ⟨fun b o e n hb hx => ?_, fun b o e n hb hx => ?_, fun b o e n hx => ?_, fun b o e hx => ?_, fun b xs e => tups b xs (I.base.tups b xs e), fun b o xs e => frzs b o xs (I.base.frzs b o xs e), fun b ps e => ?_⟩, ?_, fun x c e => ?_, ?_, fun x c e => ?_, fun p hp => ?_, hok, I.len⟩
  · exact keep b o (neL b o e) hb (neC b o e hx) (I.base.keep b o e n hb hx) (I.base.free b o e n hx)
  · obtain ⟨sl, e1⟩ := I.base.slot b o e n hb hx
    obtain ⟨sl', e2⟩ := slot b _ (neL b o e) hb (neC b o e hx) e1 (I.base.free b o e n hx)
    exact ⟨sl', e2⟩
  · obtain ⟨o', e1⟩ := I.base.there b o e hx
    exact free b o' (neC b o e hx) e1 (I.base.free b o e n hx)
  · obtain ⟨o', e1⟩ := I.base.there b o e hx
    exact there b o' (neC b o e hx) e1
  · obtain ⟨m1, e1⟩ := I.base.tbls b ps e
    obtain ⟨m2, e2⟩ := tbls b _ e1
    exact ⟨m1 ++ m2, by rw [e2, Array.append_assoc]⟩
  · obtain ⟨m, hn, hl⟩ := I.loc
    refine ⟨m, ns m hn, fun i x v e1 e2 e3 => ?_⟩
    obtain ⟨u, r, l⟩ := hl i x v e1 e2 e3
    refine ⟨u, r, ?_⟩
    rcases l with l | ⟨k, c, e, z⟩
    · exact .inl l
    · exact .inr ⟨k, c, e, cellK x c e _ z⟩
  · obtain ⟨v, z⟩ := I.cell x c e
    exact ⟨v, cellK x c e v z⟩
  · obtain ⟨m, ⟨o, _, _, ho, _⟩, _⟩ := I.loc
    exact free _ o (fun z => (hch _ z).2.1 rfl) ho I.free
  · obtain ⟨v, o, ho, hd⟩ := I.cell x c e
    exact free c o (fun z => (hch c z).2.2.1 x c e rfl) ho (I.freeC x c e)
  · obtain ⟨e, n, ne, nf, d⟩ := I.pin p hp
    have nch : p.1 ∉ ch := fun z => (hch p.1 z).2.2.2 p hp rfl
    exact ⟨keep p.1 p.2 ne nf nch e n, free p.1 p.2 nch e n, ne, nf, d⟩
/-- .. where the frame's own object is kept too -/
theorem Inv.un {t' : Nat} (I : Inv X pins σ H s) (u : Un X.fs [] H H' s.heap h') (hok : HOk X.prog X.w H' h') : Inv X pins σ H' { s with heap := h', toks := t' } := by
  obtain ⟨m, ⟨o, es, ep, ho, r⟩, _⟩ := id I.loc
  obtain ⟨sl, hL⟩ := u.any ho I.free (by simp)
  exact I.step (g' := s.gens) (d' := s.drawn) (ch := []) (fun _ z => nomatch z) (fun b o _ hb _ e n => u.keep b o e n hb (by simp)) (fun b o _ hb _ e n => u.slot b o e n hb (by simp)) (fun b o _ e n => u.free b o e n (by simp)) (fun b o _ e => u.there b o e (by simp)) u.tups u.frzs u.tbls (fun m' hm => by
    obtain ⟨o', es', ep', ho', r'⟩ := hm
    rw [ho] at ho'; cases ho'
    exact ⟨_, es', ep', hL, r'⟩) hok I.bare
/-- behind a call (or a comprehension's block): the slots of this frame may have changed too, the records at ch may have turned -/
theorem Inv.call {g' : Array GenState} {t' : Nat} {d' : Drawn} {ch : List Addr} (I : Inv X pins σ H s) (u : Un (frs X.stack) ch H H' s.heap h') (hok : HOk X.prog X.w H' h') (hg : AllBare g')
    (hch : ∀ b ∈ ch, (b ∈ X.ex ∨ X.s₀.heap.objs.size ≤ b) ∧ b ≠ X.env.locals ∧ (∀ x c, X.env.cells.lookup x = some c → c ≠ b) ∧ ∀ p ∈ X.pn ++ pins, p.1 ≠ b) :
    Inv X pins σ H' { s with heap := h', gens := g', drawn := d', toks := t' } := by
  obtain ⟨m, ⟨o, es, ep, ho, r⟩, _⟩ := id I.loc
  obtain ⟨sl, hL⟩ := u.any ho I.free fun z => (hch _ z).2.1 rfl
  exact I.step (ch := ch) hch (fun b o hL hb hc e n => u.keep b o e n (fun z => (List.mem_cons.mp (I.stkSub b z)).elim hL hb) hc) (fun b o _ _ hc e n => u.any e n hc) (fun b o hc e n => u.free b o e n hc) (fun b o hc e => u.there b o e hc) u.tups u.frzs u.tbls (fun m' hm => by
    obtain ⟨o', es', ep', ho', r'⟩ := hm
    rw [ho] at ho'; cases ho'
    exact ⟨_, es', ep', hL, r'⟩) hok hg
/-- an untracked record of ours (an iterator) has turned -/
theorem Inv.turned {t' : Nat} {it : Addr} (I : Inv X pins σ H s) (k : ∀ b o, b ≠ it → s.heap.get? b = some o → h'.get? b = some o) (hn : H it = none) (hL : it ≠ X.env.locals)
    (h1 : it ∈ X.ex ∨ X.s₀.heap.objs.size ≤ it) (h2 : ∀ x c, X.env.cells.lookup x = some c → c ≠ it) (h3 : ∀ p ∈ X.pn ++ pins, p.1 ≠ it) : Inv X pins σ H { s with heap := h', toks := t' } := by
  have nit : ∀ b u, H b = some u → b ≠ it := fun b u e z => by rw [z, hn] at e; cases e
  refine I.step (g' := s.gens) (d' := s.drawn) (ch := [it]) (fun b hb => ?_) (fun b o _ _ hc e _ => k b o (fun z => hc (by simp [z])) e) (fun b o _ _ hc e _ => ⟨o.slots, k b o (fun z => hc (by simp [z])) e⟩) (fun _ _ _ _ n => n)
    (fun b o hc e => ⟨o, k b o (fun z => hc (by simp [z])) e⟩) (fun _ _ e => e) (fun _ _ _ e => e) (fun b ps e => ⟨#[], by rw [e]; simp⟩) (fun m hm => ?_) (fun b u e => ?_) I.bare
  · have e : b = it := by simpa using hb
    subst e
    exact ⟨h1, hL, h2, h3⟩
  · obtain ⟨o, es, ep, ho, r⟩ := hm
    exact ⟨o, es, ep, k _ o (Ne.symm hL) ho, r⟩
  · refine (I.hok b u e).stay (fun c v hc q => k c v ?_ q) (fun _ q => q) fun _ _ q => q
    rcases hc with z | z
    · rw [z]; exact nit b u e
    · exact nit c _ z
theorem Inv.tok (I : Inv X pins σ H s) (t : Nat) : Inv X pins σ H { s with toks := t } := I.un (h' := s.heap) (t' := t) Un.refl I.hok
/-- all objects kept -/
theorem Inv.kept {t' : Nat} (I : Inv X pins σ H s) (k : ∀ b u, s.heap.get? b = some u → h'.get? b = some u) : Inv X pins σ H { s with heap := h', toks := t' } := I.un (Un.kept k) (I.hok.kept k)
/-- a new object laid and tracked -/
theorem Inv.laid {a : Addr} {o : HO} {t' : Nat} (I : Inv X pins σ H s) (k : ∀ b u, s.heap.get? b = some u → h'.get? b = some u) (hp : s.heap.objs.size ≤ a) (new : ObjOk X.prog X.w (upd H a o) h' a o) :
    Inv X pins σ (upd H a o) { s with heap := h', toks := t' } := I.un (Un.laid k hp (I.hok.fresh hp)) (I.hok.laid k hp new)
/-- an object written -/
theorem Inv.write {x e : Addr} {o : HO} {t' : Nat} (I : Inv X pins σ H s) (mu : Mut (H x)) (he : e = x ∨ H e = some (.own x)) (k : ∀ b u, b ≠ e → s.heap.get? b = some u → h'.get? b = some u) (heo : ∃ u, h'.get? e = some u)
    (new : ObjOk X.prog X.w (upd H x o) h' x o) : Inv X pins σ (upd H x o) { s with heap := h', toks := t' } := I.un (Un.write mu he k heo) (I.hok.write mu he k heo new)
theorem Inv.pins_of {pins' : List (Addr × Obj)} (I : Inv X pins σ H s) (h : ∀ p ∈ pins', s.heap.get? p.1 = some p.2 ∧ H p.1 = none ∧ p.1 ≠ X.env.locals ∧ p.1 ∉ X.fs ∧ ∀ v, p.2.data ≠ .cell v) : Inv X pins' σ H s :=
  ⟨I.ok, I.os, I.bare, I.base, I.loc, I.cell, I.free, I.freeC, fun p hp => (List.mem_append.mp hp).elim (fun z => I.pin p (List.mem_append_left _ z)) (h p), I.hok, I.len⟩

theorem nodup_ix {N : List Str} (hN : N.Nodup) {i j : Nat} {x : Str} (a : N[i]? = some x) (b : N[j]? = some x) : i = j := by
  obtain ⟨h1, e1⟩ := List.getElem?_eq_some_iff.mp a
  obtain ⟨h2, e2⟩ := List.getElem?_eq_some_iff.mp b
  exact (List.getElem_inj hN).mp (e1.trans e2.symm)

/-- a name is stored; what changed -/
theorem store_ok2 {M : Model} {A : Around} {E : Value → Shared → Prop} {i : Nat} {x : Str} {v : V} {u : Value} {Q : Unit → Shared → Prop} (I : Inv X pins σ H s) (hN : X.N.Nodup) (hi : X.N[i]? = some x) (hx : Loc X.env.scope x) (r : RelV v u)
    (h : ∀ s', Inv X pins (σ.set i (some v)) H s' → (∃ a, Heap.SameBut a s.heap s'.heap ∧ (a = X.env.locals ∨ X.env.cells.lookup x = some a)) → Q () s') (hf : X.fn x = true ∨ X.env.scope.names.lookup x = some .local := by first | exact .inl rfl | exact .inr rfl | assumption) : wpAny M A (storeName X.env x u) Q E s := by
  obtain ⟨m, hn, hl⟩ := id I.loc
  have hcls : (X.env.scope.kind == .class || (X.env.scope.kind == .module && X.env.locals != X.env.globals)) = false := by rw [I.ok.kind]; rfl
  have hiσ : i < σ.length := by rw [I.len]; exact (List.getElem?_eq_some_iff.mp hi).1
  have cne := I.cne
  have tracked : ∀ {a : Addr} {h' : Heap}, (∃ o, s.heap.get? a = some o ∧ H a = none) → Heap.SameBut a s.heap h' → HOk X.prog X.w H h' := fun {a h'} ha hs b ob e => by
    obtain ⟨_, _, hfree⟩ := ha
    refine (I.hok b ob e).stay (fun c w' hc q => (hs.2 c ?_).trans q) (fun _ q => q) fun _ _ q => q
    rintro rfl
    rcases hc with rfl | hc
    · rw [hfree] at e; cases e
    · rw [hfree] at hc; cases hc
  rcases hx with hk | hk
  · refine wpAny_storeName_local hk hn (fun h' hn' hs => ?_) hcls
    obtain ⟨oL, _, _, hoL, _⟩ := id hn
    refine h _ ⟨I.ok, I.os, I.bare, ⟨fun b o e n hb hx => ?_, fun b o e n hb hx => ?_, I.base.free, fun b o e hx => ?_, I.base.tups, I.base.frzs, I.base.tbls⟩, ⟨_, hn', fun j y v' e1 e2 e3 => ?_⟩, fun y c e => ?_, I.free, I.freeC, fun p hp => ?_, tracked ⟨oL, hoL, I.free⟩ hs, by simpa using I.len⟩ ⟨_, hs, .inl rfl⟩
    · exact (hs.2 b (Nat.ne_of_lt (Nat.lt_of_lt_of_le (Heap.lt_size e) I.ok.above))).trans (I.base.keep b o e n hb hx)
    · obtain ⟨sl, e1⟩ := I.base.slot b o e n hb hx
      exact ⟨sl, (hs.2 b (Nat.ne_of_lt (Nat.lt_of_lt_of_le (Heap.lt_size e) I.ok.above))).trans e1⟩
    · obtain ⟨o', e1⟩ := I.base.there b o e hx
      exact ⟨o', (hs.2 b (Nat.ne_of_lt (Nat.lt_of_lt_of_le (Heap.lt_size e) I.ok.above))).trans e1⟩
    · by_cases hj : j = i
      · subst hj
        rw [hi] at e1; cases e1
        rw [List.getElem?_set_self hiσ] at e2
        cases e2
        exact ⟨u, r, .inl ⟨hk, by simp⟩⟩
      · rw [List.getElem?_set_ne (Ne.symm hj)] at e2
        obtain ⟨u', r', q⟩ := hl j y v' e1 e2 e3
        refine ⟨u', r', ?_⟩
        rcases q with ⟨k, e⟩ | ⟨k, c, e, z⟩
        · refine .inl ⟨k, ?_⟩
          have : y ≠ x := fun e => hj (nodup_ix hN e1 (e ▸ hi))
          simp [this, e]
        · exact .inr ⟨k, c, e, z.sameBut hs (cne y c e)⟩
    · obtain ⟨w', z⟩ := I.cell y c e
      exact ⟨w', z.sameBut hs (cne y c e)⟩
    · obtain ⟨e, n, ne, nf, d⟩ := I.pin p hp
      exact ⟨(hs.2 p.1 ne).trans e, n, ne, nf, d⟩
  · have hfn : X.fn x = true := by
      rcases hf with z | z
      · exact z
      · rw [z] at hk; cases hk
    obtain ⟨c, hc⟩ := I.ok.has x (.inl hk)
    obtain ⟨w', z⟩ := I.cell x c hc
    refine wpAny_storeName_cell I.ok.kind hk hc z (fun h' hc' hs => ?_)
    obtain ⟨oc, hoc, hocd⟩ := id z
    refine h { s with heap := h' } ⟨I.ok, I.os, I.bare, ⟨fun b o e n hb hx => ?_, fun b o e n hb hx => ?_, I.base.free, fun b o e hx => ?_, I.base.tups, I.base.frzs, I.base.tbls⟩, ⟨m, hn.sameBut hs (Ne.symm (cne x c hc)), fun j y v' e1 e2 e3 => ?_⟩, fun y c' e => ?_, I.free, I.freeC, fun p hp => ?_, tracked ⟨oc, hoc, I.freeC x c hc⟩ hs, by simpa using I.len⟩ ⟨c, hs, .inr hc⟩
    · exact (hs.2 b (Nat.ne_of_lt (Nat.lt_of_lt_of_le (Heap.lt_size e) (I.ok.cab x c hfn hc)))).trans (I.base.keep b o e n hb hx)
    · obtain ⟨sl, e1⟩ := I.base.slot b o e n hb hx
      exact ⟨sl, (hs.2 b (Nat.ne_of_lt (Nat.lt_of_lt_of_le (Heap.lt_size e) (I.ok.cab x c hfn hc)))).trans e1⟩
    · obtain ⟨o', e1⟩ := I.base.there b o e hx
      exact ⟨o', (hs.2 b (Nat.ne_of_lt (Nat.lt_of_lt_of_le (Heap.lt_size e) (I.ok.cab x c hfn hc)))).trans e1⟩
    · by_cases hj : j = i
      · subst hj
        rw [hi] at e1; cases e1
        rw [List.getElem?_set_self hiσ] at e2
        cases e2
        exact ⟨u, r, .inr ⟨.inl hk, c, hc, hc'⟩⟩
      · rw [List.getElem?_set_ne (Ne.symm hj)] at e2
        obtain ⟨u', r', q⟩ := hl j y v' e1 e2 e3
        refine ⟨u', r', ?_⟩
        rcases q with q | ⟨k, c', e, z'⟩
        · exact .inl q
        · refine .inr ⟨k, c', e, z'.sameBut hs ?_⟩
          rintro rfl
          exact hj (nodup_ix hN e1 (I.ok.inj _ _ _ e hc ▸ hi))
    · by_cases hcc : c' = c
      · subst hcc; exact ⟨_, hc'⟩
      · obtain ⟨w2, z2⟩ := I.cell y c' e
        exact ⟨w2, z2.sameBut hs hcc⟩
    · obtain ⟨e, n, ne, nf, d⟩ := I.pin p hp
      refine ⟨(hs.2 p.1 ?_).trans e, n, ne, nf, d⟩
      intro q
      rw [q, hoc] at e
      have q' : oc = p.2 := Option.some.inj e
      exact d w' (by rw [← q']; exact hocd)
theorem store_ok {M : Model} {A : Around} {E : Value → Shared → Prop} {i : Nat} {x : Str} {v : V} {u : Value} {Q : Unit → Shared → Prop} (I : Inv X pins σ H s) (hN : X.N.Nodup) (hi : X.N[i]? = some x) (hx : Loc X.env.scope x) (r : RelV v u)
    (h : ∀ s', Inv X pins (σ.set i (some v)) H s' → Q () s') (hf : X.fn x = true ∨ X.env.scope.names.lookup x = some .local := by first | exact .inl rfl | exact .inr rfl | assumption) : wpAny M A (storeName X.env x u) Q E s :=
  store_ok2 I hN hi hx r (fun s' I' _ => h s' I') hf
/-- behind a call or a block, the state as it is -/
theorem Inv.call' {s' : Shared} {ch : List Addr} (I : Inv X pins σ H s) (ho : s'.os = s.os) (u : Un (frs X.stack) ch H H' s.heap s'.heap) (hok : HOk X.prog X.w H' s'.heap) (hg : AllBare s'.gens)
    (hch : ∀ b ∈ ch, (b ∈ X.ex ∨ X.s₀.heap.objs.size ≤ b) ∧ b ≠ X.env.locals ∧ (∀ x c, X.env.cells.lookup x = some c → c ≠ b) ∧ ∀ p ∈ X.pn ++ pins, p.1 ≠ b) : Inv X pins σ H' s' := by
  obtain ⟨h', g', d', t', o'⟩ := s'
  have e : o' = s.os := ho
  subst e
  exact I.call (g' := g') (t' := t') (d' := d') u hok hg hch
end

/-! ### the judgements -/
/-- an exception: its class, its own dict's address (where it has one), the abstract heap behind it -/
abbrev XK := Value → Option Addr → Hp → Prop
abbrev St := List (Option V)
abbrev VK := V → Hp → Prop
/-- an expression's reading; a test's; an argument list's -/
abbrev TE := St → Hp → VK → Prop
abbrev TT := St → Hp → (Bool → Hp → Prop) → Prop
abbrev TA := St → Hp → (List V → Hp → Prop) → Prop
/-- what is wanted behind a statement -/
structure Ends where
  nx : St → Hp → Prop
  rt : VK
  bk : St → Hp → Prop := fun _ _ => False
  ct : St → Hp → Prop := fun _ _ => False
abbrev TS := Ends → St → Hp → Prop

def EP (X : Cx) (pins : List (Addr × Obj)) (σ : St) (Q : VK) (u : Value) (s' : Shared) : Prop := ∃ v H', Inv X pins σ H' s' ∧ RelV v u ∧ Q v H'
def TP (X : Cx) (pins : List (Addr × Obj)) (σ : St) (Q : Bool → Hp → Prop) (b : Bool) (s' : Shared) : Prop := ∃ H', Inv X pins σ H' s' ∧ Q b H'
def AP (X : Cx) (pins : List (Addr × Obj)) (σ : St) (Q : List V → Hp → Prop) (us : List Value) (s' : Shared) : Prop := ∃ vs H', Inv X pins σ H' s' ∧ Vals vs us ∧ Q vs H'
def SP (X : Cx) (pins : List (Addr × Obj)) (D : Ends) (f : Flow) (s' : Shared) : Prop :=
  match f with
  | .next => ∃ σ' H', Inv X pins σ' H' s' ∧ D.nx σ' H'
  | .brk => ∃ σ' H', Inv X pins σ' H' s' ∧ D.bk σ' H'
  | .cont => ∃ σ' H', Inv X pins σ' H' s' ∧ D.ct σ' H'
  | .ret u => ∃ v σ' H', Inv X pins σ' H' s' ∧ RelV v u ∧ D.rt v H'

def PE (X : Cx) (e : Expr) (t : TE) : Prop :=
  ∀ (pins : List (Addr × Obj)) (s : Shared) (σ : St) (H : Hp) (Q : VK), Inv X pins σ H s → t σ H Q → wpAny (model X.prog X.w) X.A (eval e X.env) (EP X pins σ Q) X.xe s
def PT (X : Cx) (e : Expr) (t : TT) : Prop :=
  ∀ (pins : List (Addr × Obj)) (s : Shared) (σ : St) (H : Hp) (Q : Bool → Hp → Prop), Inv X pins σ H s → t σ H Q → wpAny (model X.prog X.w) X.A (isTrue e X.env (eval e X.env)) (TP X pins σ Q) X.xe s
/-- a test whatever its 'whole' is (and, or) -/
def PW (X : Cx) (e : Expr) (t : TT) : Prop :=
  ∀ (whole : Sem Value) (pins : List (Addr × Obj)) (s : Shared) (σ : St) (H : Hp) (Q : Bool → Hp → Prop), Inv X pins σ H s → t σ H Q → wpAny (model X.prog X.w) X.A (isTrue e X.env whole) (TP X pins σ Q) X.xe s
theorem PW.pt {X : Cx} {e : Expr} {t : TT} (h : PW X e t) : PT X e t := h _
/-- an argument list (no star), from the left -/
def PA (X : Cx) (es : List Expr) (t : TA) : Prop :=
  ∀ (pos : Pos) (pins : List (Addr × Obj)) (s : Shared) (σ : St) (H : Hp) (Q : List V → Hp → Prop), Inv X pins σ H s → t σ H Q → wpAny (model X.prog X.w) X.A (spliced (backTo pos (starEach es X.env))) (AP X pins σ Q) X.xe s
def PS (X : Cx) (st : Stmt) (t : TS) : Prop :=
  ∀ (pins : List (Addr × Obj)) (s : Shared) (σ : St) (H : Hp) (D : Ends), Inv X pins σ H s → t D σ H → wpAny (model X.prog X.w) X.A (exec st X.env) (SP X pins D) X.xe s
def PSs (X : Cx) (st : List Stmt) (t : TS) : Prop :=
  ∀ (pins : List (Addr × Obj)) (s : Shared) (σ : St) (H : Hp) (D : Ends), Inv X pins σ H s → t D σ H → wpAny (model X.prog X.w) X.A (execs st X.env) (SP X pins D) X.xe s
/-- weaken the end -/
theorem thn {α : Type} {t : Sem α} {Q Q' : α → Shared → Prop} {M : Model} {A : Around} {E : Value → Shared → Prop} {s : Shared} (h : wpAny M A t Q E s) (hQ : ∀ a s, Q a s → Q' a s) : wpAny M A t Q' E s := wpAny_mono h hQ fun _ _ x => x
end L2

namespace L2
open PySem PySem.Spec PyProof.Rows
section
variable {X : Cx}

/-! ### names and constants -/
def tVar (i : Nat) : TE := fun σ H Q => ∃ v, σ[i]? = some (some v) ∧ Q v H
def tC (v : V) : TE := fun _ H Q => Q v H
theorem pe_var {i : Nat} {x : Str} {pos : Pos} (hN : X.N[i]? = some x) (hv : Vis X.env.scope x) (hd : (x == ("__debug__" : Str)) = false := by decide) (hcd : (x == ("__classdict__" : Str)) = false := by decide) : PE X (.Name x pos) (tVar i) := by
  intro pins s σ H Q I h
  obtain ⟨v, e, h⟩ := h
  obtain ⟨m, hn, hl⟩ := I.loc
  obtain ⟨u, r, l⟩ := hl i x v hN e hv
  have fin : EP X pins σ Q u s := ⟨v, H, I, r, h⟩
  rcases l with ⟨hk, hm⟩ | ⟨hk, c, hc, hcell⟩
  · exact wpAny_Name (wpAny_loadName_local I.ok.kind hk hn hm fin) hd
  · rcases hk with hk | hk
    · exact wpAny_Name (wpAny_loadName_cell I.ok.kind hk hc hcell fin) hd
    · exact wpAny_Name (wpAny_loadName_free I.ok.kind hk hc hcell fin hcd) hd
theorem pe_int {i j pos} : PE X (.Constant (.int i) j pos) (tC (.int i)) := fun _ _ _ H _ I h => wpAny_Constant_int ⟨.int i, H, I.tok _, ⟨_, rfl⟩, h⟩
theorem pe_bl {b j pos} : PE X (.Constant (.bool b) j pos) (tC (.bl b)) := fun _ _ _ H _ I h => Constant_bool ⟨.bl b, H, I, rfl, h⟩
theorem pe_non {j pos} : PE X (.Constant .none j pos) (tC .non) := fun _ _ _ H _ I h => Constant_none ⟨.non, H, I, rfl, h⟩
/-- a global name of the def -/
def Gl (X : Cx) (x : Str) : Prop := X.env.kindOf x = some .globalImplicit
theorem ld_glob {E : Value → Shared → Prop} {pins : List (Addr × Obj)} {s : Shared} {σ : St} {H : Hp} {x : Str} {u : Value} {pos : Pos} {Q : Value → Shared → Prop} (I : Inv X pins σ H s) (hg : Gl X x) (hm : X.mg x = some u) (h : Q u s)
    (hd : (x == ("__debug__" : Str)) = false := by decide) : wpAny (model X.prog X.w) X.A (eval (.Name x pos) X.env) Q E s :=
  Calls.Name_function_global I.ok.kind hg (Calls.loadGlobal_global (by rw [I.ok.glob]; exact I.mod.glob.keeps I.bk) hm h) hd
theorem ld_blt {E : Value → Shared → Prop} {pins : List (Addr × Obj)} {s : Shared} {σ : St} {H : Hp} {x : Str} {u : Value} {pos : Pos} {Q : Value → Shared → Prop} (I : Inv X pins σ H s) (hg : Gl X x) (hm : X.mg x = none) (hv : bootBuiltins x = some u) (h : Q u s)
    (hn : x ≠ "__name__" := by decide) (hd : (x == ("__debug__" : Str)) = false := by decide) : wpAny (model X.prog X.w) X.A (eval (.Name x pos) X.env) Q E s := by
  obtain ⟨mb, h1, h2⟩ := I.mod.blt
  exact Calls.Name_function_global I.ok.kind hg (Calls.loadGlobal_builtin (by rw [I.ok.glob]; exact I.mod.glob.keeps I.bk) hm (by rw [I.ok.blt]; exact h1.keeps I.bk) ((h2 x hn).trans hv) h) hd
theorem pe_bltn {x : Str} {v : V} {u : Value} {pos : Pos} (hg : Gl X x) (hm : X.mg x = none) (hv : bootBuiltins x = some u) (r : RelV v u) (hn : x ≠ "__name__" := by decide) (hd : (x == ("__debug__" : Str)) = false := by decide) : PE X (.Name x pos) (tC v) :=
  fun _ _ _ H _ I h => ld_blt I hg hm hv ⟨v, H, I, r, h⟩ hn hd

/-! ### arithmetic -/
/-- two ints -/
def t2I (ta tb : TE) (k : Int → Int → Hp → Prop) : St → Hp → Prop := fun σ H => ta σ H fun x H1 => tb σ H1 fun y H2 => ∃ i j, x = .int i ∧ y = .int j ∧ k i j H2
def tAdd (ta tb : TE) : TE := fun σ H Q => t2I ta tb (fun i j H2 => Q (.int (i + j)) H2) σ H
def tSub (ta tb : TE) : TE := fun σ H Q => t2I ta tb (fun i j H2 => Q (.int (i - j)) H2) σ H
/-- the left factor below 2^64 -/
def tMul (ta tb : TE) : TE := fun σ H Q => t2I ta tb (fun i j H2 => (-(2 ^ 64) < i ∧ i < 2 ^ 64) ∧ Q (.int (i * j)) H2) σ H
variable {a b : Expr} {ta tb : TE} {pos : Pos}
/-! ### comparisons -/
def PC (X : Cx) (op : CmpOp) (a b : Expr) (t : TE) : Prop :=
  ∀ (pins : List (Addr × Obj)) (s : Shared) (σ : St) (H : Hp) (Q : VK), Inv X pins σ H s → t σ H Q →
    wpAny (model X.prog X.w) X.A (eval a X.env) (fun v s₁ => wpAny (model X.prog X.w) X.A (eval b X.env) (fun u s₂ => wpAny (model X.prog X.w) X.A (compareOp op v u) (EP X pins σ Q) X.xe s₂) X.xe s₁) X.xe s
theorem nobehind (b : Expr) {op : CmpOp} (h : op ≠ .In) (h2 : op ≠ .NotIn) : behindInMarks op b = false := by
  have e1 : (op == CmpOp.In) = false := by cases op <;> first | rfl | exact absurd rfl h
  have e2 : (op == CmpOp.NotIn) = false := by cases op <;> first | rfl | exact absurd rfl h2
  cases b <;> simp [behindInMarks, e1, e2]
def tCmp (p : Int → Int → Bool) (ta tb : TE) : TE := fun σ H Q => t2I ta tb (fun i j H2 => Q (.bl (p i j)) H2) σ H
abbrev tLt : TE → TE → TE := tCmp fun i j => decide (i < j)
abbrev tLe : TE → TE → TE := tCmp fun i j => decide (i ≤ j)
abbrev tGt : TE → TE → TE := tCmp fun i j => decide (j < i)
abbrev tGe : TE → TE → TE := tCmp fun i j => decide (j ≤ i)
abbrev tEqI : TE → TE → TE := tCmp fun i j => decide (i = j)
abbrev tNeI : TE → TE → TE := tCmp fun i j => !decide (i = j)
/-- is None -/
def tIsN (ta : TE) : TE := fun σ H Q => ta σ H fun x H1 => Q (.bl (decide (x = .non))) H1
def tNotN (ta : TE) : TE := fun σ H Q => ta σ H fun x H1 => Q (.bl (!decide (x = .non))) H1
/-- a comparison as a value, as a test -/
def tB (t : TE) : TT := fun σ H Q => t σ H fun x H1 => ∃ c, x = .bl c ∧ Q c H1
theorem pt_cmp {op : CmpOp} {t : TE} (h : PC X op a b t) (h1 : behindInMarks op b = false := by first | exact nobehind _ (by decide) (by decide) | rfl) : PT X (.Compare a [op] [b] pos) (tB t) := by
  intro pins s σ H Q I hw
  refine wpAny_isTrue_Compare1 (thn (h pins s σ H _ I hw) fun v s1 h1 => thn h1 fun u s2 h2 => thn h2 fun c s3 ⟨x, H1, I1, r1, q1⟩ => ?_) h1
  obtain ⟨d, rfl, q⟩ := q1
  cases r1
  exact wpAny_truthy_bool ⟨H1, I1, q⟩
/-- an expression whose value is a bool, as a test -/
theorem pt_val {e : Expr} {t : TE} (h : PE X e t) (he : ∀ whole, isTrue e X.env whole = (do let v ← whole; standAt e.pos; holding [v] (truthy v)) := by intro _; rfl) : PT X e (tB t) := by
  intro pins s σ H Q I hw
  refine isTrue_plain (thn (h pins s σ H _ I hw) fun v s1 ⟨x, H1, I1, r1, q1⟩ => ?_) (he _)
  obtain ⟨d, rfl, q⟩ := q1
  cases r1
  exact wpAny_truthy_bool ⟨H1, I1, q⟩

/-! ### and, or, not -/
variable {tA tB' : TT} {rest : List Expr}
def tAnd (t u : TT) : TT := fun σ H Q => t σ H fun c H1 => if c = true then u σ H1 Q else Q false H1
def tOr (t u : TT) : TT := fun σ H Q => t σ H fun c H1 => if c = true then Q true H1 else u σ H1 Q
def tNot (t : TT) : TT := fun σ H Q => t σ H fun c H1 => Q (!c) H1
theorem pw_and1 (ha : PT X a tA) : PW X (.BoolOp .And [a] pos) tA := by
  intro wh pins s σ H Q I h
  refine isTrue_and (thn (ha pins s σ H Q I h) fun c s1 e => ?_)
  cases c with
  | true => exact isTrue_and_nil e
  | false => exact e
theorem pw_or1 (ha : PT X a tA) : PW X (.BoolOp .Or [a] pos) tA := by
  intro wh pins s σ H Q I h
  refine isTrue_or (thn (ha pins s σ H Q I h) fun c s1 e => ?_)
  cases c with
  | false => exact isTrue_or_nil e
  | true => exact e
theorem pw_and (ha : PT X a tA) (hb : PW X (.BoolOp .And (b :: rest) pos) tB') : PW X (.BoolOp .And (a :: b :: rest) pos) (tAnd tA tB') := by
  intro wh pins s σ H Q I h
  refine isTrue_and (thn (ha pins s σ H _ I h) fun c s1 ⟨H1, I1, q1⟩ => ?_)
  cases c with
  | true => exact hb wh pins s1 σ H1 Q I1 q1
  | false => exact ⟨H1, I1, q1⟩
theorem pw_or (ha : PT X a tA) (hb : PW X (.BoolOp .Or (b :: rest) pos) tB') : PW X (.BoolOp .Or (a :: b :: rest) pos) (tOr tA tB') := by
  intro wh pins s σ H Q I h
  refine isTrue_or (thn (ha pins s σ H _ I h) fun c s1 ⟨H1, I1, q1⟩ => ?_)
  cases c with
  | true => exact ⟨H1, I1, q1⟩
  | false => exact hb wh pins s1 σ H1 Q I1 q1
theorem pt_not (ha : PT X a tA) : PT X (.UnaryOp .Not a pos) (tNot tA) := by
  intro pins s σ H Q I h
  exact isTrue_not (ha pins s σ H (fun c H1 => Q (!c) H1) I h)
/-- .. as values (bools) -/
def tAndV (ta tb : TE) : TE := fun σ H Q => ta σ H fun x H1 => ∃ c, x = .bl c ∧ if c = true then tb σ H1 Q else Q (.bl false) H1
def tOrV (ta tb : TE) : TE := fun σ H Q => ta σ H fun x H1 => ∃ c, x = .bl c ∧ if c = true then Q (.bl true) H1 else tb σ H1 Q
def tNotV (ta : TE) : TE := fun σ H Q => ta σ H fun x H1 => ∃ c, x = .bl c ∧ Q (.bl (!c)) H1
theorem pe_one {op} {t : TE} (h : PE X a t) : PE X (.BoolOp op [a] pos) t := fun pins s σ H Q I hw => BoolOp_one (h pins s σ H Q I hw)
theorem pe_and (ha : PE X a ta) (hb : PE X (.BoolOp .And (b :: rest) pos) tb) : PE X (.BoolOp .And (a :: b :: rest) pos) (tAndV ta tb) := by
  intro pins s σ H Q I h
  refine BoolOp_and (thn (ha pins s σ H _ I h) fun v s1 ⟨x, H1, I1, r1, q1⟩ => ?_)
  obtain ⟨c, rfl, q1⟩ := q1
  cases r1
  refine wpAny_truthy_bool ?_
  cases c with
  | true => exact hb pins s1 σ H1 Q I1 q1
  | false => exact ⟨.bl false, H1, I1, rfl, q1⟩
theorem pe_not (ha : PE X a ta) : PE X (.UnaryOp .Not a pos) (tNotV ta) := by
  intro pins s σ H Q I h
  refine UnaryOp_ (thn (ha pins s σ H _ I h) fun v s1 ⟨x, H1, I1, r1, q1⟩ => ?_)
  obtain ⟨c, rfl, q1⟩ := q1
  cases r1
  exact not_of (wpAny_truthy_bool ⟨.bl (!c), H1, I1, rfl, q1⟩)
/-- a if t else b -/
def tIf (t : TT) (ta tb : TE) : TE := fun σ H Q => t σ H fun c H1 => if c = true then ta σ H1 Q else tb σ H1 Q
theorem pe_ifExp {c : Expr} (hc : PT X c tA) (ha : PE X a ta) (hb : PE X b tb) : PE X (.IfExp c a b pos) (tIf tA ta tb) := by
  intro pins s σ H Q I h
  refine wpAny_IfExp (thn (hc pins s σ H _ I h) fun d s1 ⟨H1, I1, q1⟩ => ?_)
  cases d with
  | true => exact ha pins s1 σ H1 Q I1 q1
  | false => exact hb pins s1 σ H1 Q I1 q1
end
end L2

namespace L2
open PySem PySem.Spec PyProof.Rows

/-! ### a list, a tuple that is read: tracked, frozen, or an object of the module -/
def SqL (K : PySem.W.Frag) (H : Hp) (a : Addr) (xs : List V) : Prop :=
  Rd H a (.lst xs) ∨
    ∃ (o : Obj) (its : Array Value) (n : Nat), K.lookup a = some o ∧ o.cls = .type "list" ∧ o.dict = none ∧ o.data = .seq its n ∧ its.size ≤ sizeLine ∧ Vals xs its.toList
def SqT (K : PySem.W.Frag) (H : Hp) (a : Addr) (xs : List V) : Prop :=
  Rd H a (.tup xs) ∨
    ∃ (o : Obj) (its : Array Value) (n : Nat), K.lookup a = some o ∧ o.cls = .type "tuple" ∧ o.data = .seq its n ∧ its.size ≤ sizeLine ∧ Vals xs its.toList
def absV : Value → Option V
  | .none => some .non
  | .bool b => some (.bl b)
  | .int i _ => some (.int i)
  | .str x _ => some (.str x)
  | .bytes b _ => some (.byt b)
  | .float b _ => some (.flt b)
  | .ref a => some (.ref a)
  | .type n => some (.ty n)
  | _ => none
theorem RelV.abs {x : V} {u : Value} (r : RelV x u) : absV u = some x := by
  cases x with
  | non => cases r; rfl
  | bl _ => cases r; rfl
  | int _ => obtain ⟨t, rfl⟩ := r; rfl
  | str _ => obtain ⟨t, rfl⟩ := r; rfl
  | byt _ => obtain ⟨t, rfl⟩ := r; rfl
  | flt _ => obtain ⟨t, rfl⟩ := r; rfl
  | ref _ => cases r; rfl
  | ty _ => cases r; rfl
theorem RelV.inj {x y : V} {u : Value} (r : RelV x u) (q : RelV y u) : x = y := Option.some.inj (r.abs.symm.trans q.abs)
theorem Vals.inj : ∀ {xs ys : List V} {us : List Value}, Vals xs us → Vals ys us → xs = ys
  | _, _, _, .nil, .nil => rfl
  | _, _, _, .cons r t, .cons r' t' => by rw [r.inj r', Vals.inj t t']
section
variable {X : Cx} {pins : List (Addr × Obj)} {σ : St} {H : Hp} {s : Shared} {a : Addr} {xs ys : List V}
theorem SqL.of {K : PySem.W.Frag} (h : H a = some (.lst xs)) : SqL K H a xs := .inl (.inl h)
theorem SqT.of {K : PySem.W.Frag} (h : H a = some (.tup xs)) : SqT K H a xs := .inl (.inl h)
theorem Inv.list (I : Inv X pins σ H s) (h : SqL X.K H a xs) : ∃ its : List Value, Vals xs its ∧ PlainL s.heap a its.toArray ∧ xs.length ≤ sizeLine := by
  rcases h with h | ⟨o, its, n, hk, hc, hd, hs, hz, r⟩
  · obtain ⟨z, its, n, r, e⟩ := h.ok I.hok
    exact ⟨its, r, ⟨_, n, e, rfl, rfl, rfl⟩, z⟩
  · refine ⟨its.toList, r, ⟨o, n, I.kIn a o hk, hc, hd, by simpa using hs⟩, ?_⟩
    have e := r.length
    simp only [Array.length_toList] at e
    omega
theorem Inv.tuple (I : Inv X pins σ H s) (h : SqT X.K H a xs) : ∃ its : List Value, Vals xs its ∧ IsTup s.heap a its.toArray ∧ xs.length ≤ sizeLine := by
  rcases h with h | ⟨o, its, n, hk, hc, hs, hz, r⟩
  · obtain ⟨z, its, r, p⟩ := h.ok I.hok
    exact ⟨its, r, p, z⟩
  · refine ⟨its.toList, r, ⟨o, I.kIn a o hk, hc, n, by simpa using hs⟩, ?_⟩
    have e := r.length
    simp only [Array.length_toList] at e
    omega
theorem Inv.list_inj (I : Inv X pins σ H s) (h : SqL X.K H a xs) (h' : SqL X.K H a ys) : xs = ys := by
  obtain ⟨its, r, ⟨o, n, e, _, _, d⟩, _⟩ := I.list h
  obtain ⟨its', r', ⟨o', n', e', _, _, d'⟩, _⟩ := I.list h'
  rw [e] at e'; cases e'
  rw [d] at d'
  injection d' with d1 _
  have : its = its' := by simpa using congrArg Array.toList d1
  subst this
  exact r.inj r'
theorem Inv.tuple_inj (I : Inv X pins σ H s) (h : SqT X.K H a xs) (h' : SqT X.K H a ys) : xs = ys := by
  obtain ⟨its, r, ⟨o, e, _, n, d⟩, _⟩ := I.tuple h
  obtain ⟨its', r', ⟨o', e', _, n', d'⟩, _⟩ := I.tuple h'
  rw [e] at e'; cases e'
  rw [d] at d'
  injection d' with d1 _
  have : its = its' := by simpa using congrArg Array.toList d1
  subst this
  exact r.inj r'
end

/-! ### another wish about exceptions -/
abbrev Cx.wish (X : Cx) (E : Value → Shared → Prop) : Cx := { X with xe := E }
/-- no exception leaves -/
abbrev Cx.nox (X : Cx) : Cx := X.wish fun _ _ => False
theorem Cx.Ok.wish {X : Cx} (ok : X.Ok) (E : Value → Shared → Prop) : (X.wish E).Ok :=
  ⟨ok.mod, ok.kind, ok.glob, ok.blt, ok.above, ok.inj, ok.has, ok.cab, ok.hd, ok.frames, ok.stk, ok.exf, ok.bs, ok.bsz, ok.noex, ok.exfs, ok.funs, ok.frf⟩
theorem Cx.Ok.unwish {X : Cx} {E : Value → Shared → Prop} (ok : (X.wish E).Ok) : X.Ok :=
  ⟨ok.mod, ok.kind, ok.glob, ok.blt, ok.above, ok.inj, ok.has, ok.cab, ok.hd, ok.frames, ok.stk, ok.exf, ok.bs, ok.bsz, ok.noex, ok.exfs, ok.funs, ok.frf⟩
section
variable {X : Cx} {pins : List (Addr × Obj)} {σ : St} {H : Hp} {s : Shared} {E : Value → Shared → Prop}
theorem Inv.wish (I : Inv X pins σ H s) (E : Value → Shared → Prop) : Inv (X.wish E) pins σ H s := ⟨I.ok.wish E, I.os, I.bare, I.base, I.loc, I.cell, I.free, I.freeC, I.pin, I.hok, I.len⟩
theorem Inv.unwish (I : Inv (X.wish E) pins σ H s) : Inv X pins σ H s := ⟨I.ok.unwish, I.os, I.bare, I.base, I.loc, I.cell, I.free, I.freeC, I.pin, I.hok, I.len⟩
theorem SP.unwish {D : Ends} {f : Flow} {s' : Shared} (h : SP (X.wish E) pins D f s') : SP X pins D f s' := by
  cases f with
  | next => obtain ⟨σ', H', I, q⟩ := h; exact ⟨σ', H', I.unwish, q⟩
  | brk => obtain ⟨σ', H', I, q⟩ := h; exact ⟨σ', H', I.unwish, q⟩
  | cont => obtain ⟨σ', H', I, q⟩ := h; exact ⟨σ', H', I.unwish, q⟩
  | ret u => obtain ⟨v, σ', H', I, r, q⟩ := h; exact ⟨v, σ', H', I.unwish, r, q⟩
theorem PE.nox {e : Expr} {t : TE} (h : PE X.nox e t) : PE X e t := fun pins s σ H Q I hw =>
  wpAny_mono (h pins s σ H Q (I.wish _) hw) (fun _ _ ⟨v, H', I', r, q⟩ => ⟨v, H', I'.unwish, r, q⟩) fun _ _ z => False.elim z
theorem PT.nox {e : Expr} {t : TT} (h : PT X.nox e t) : PT X e t := fun pins s σ H Q I hw =>
  wpAny_mono (h pins s σ H Q (I.wish _) hw) (fun _ _ ⟨H', I', q⟩ => ⟨H', I'.unwish, q⟩) fun _ _ z => False.elim z
theorem PSs.nox {st : List Stmt} {t : TS} (h : PSs X.nox st t) : PSs X st t := fun pins s σ H D I hw =>
  wpAny_mono (h pins s σ H D (I.wish _) hw) (fun _ _ q => q.unwish) fun _ _ z => False.elim z
end

/-! ### blocks and small statements -/
section
variable {X : Cx} {st : Stmt} {rest : List Stmt} {t u : TS} {e : Expr} {te : TE} {pos : Pos}
def tNext : TS := fun D σ H => D.nx σ H
def tSeq (t u : TS) : TS := fun D σ H => t { D with nx := u D } σ H
theorem pss_nil : PSs X [] tNext := fun _ _ σ H _ I h => wpAny_execs_nil ⟨σ, H, I, h⟩
theorem pss_cons (h1 : PS X st t) (h2 : PSs X rest u) : PSs X (st :: rest) (tSeq t u) := by
  intro pins s σ H D I h
  refine wpAny_execs_cons (thn (h1 pins s σ H { D with nx := u D } I h) fun f s1 q => ?_)
  cases f with
  | next =>
    obtain ⟨σ', H', I', q⟩ := q
    exact h2 pins s1 σ' H' D I' q
  | ret v => exact q
  | brk => exact q
  | cont => exact q
theorem pss_one (h1 : PS X st t) : PSs X [st] t := by
  intro pins s σ H D I h
  refine wpAny_execs_cons (thn (h1 pins s σ H D I h) fun f s1 q => ?_)
  cases f with
  | next => exact wpAny_execs_nil q
  | ret v => exact q
  | brk => exact q
  | cont => exact q
def tBreak : TS := fun D σ H => D.bk σ H
def tCont : TS := fun D σ H => D.ct σ H
/-- in a def's body nothing is shown -/
theorem Inv.quiet {pins : List (Addr × Obj)} {σ : St} {H : Hp} {s : Shared} (I : Inv X pins σ H s) : interactive X.env = false := by simp [interactive, I.ok.kind]
/-- an expression whose value is dropped -/
def tDrop (te : TE) : TS := fun D σ H => te σ H fun _ H1 => D.nx σ H1
theorem ps_expr (he : PE X e te) (hs : swapsWith e none pos.line X.env = pure false := by rfl) : PS X (.Expr e pos) (tDrop te) := by
  intro pins s σ H D I h
  exact wpAny_Expr_any (thn (he pins s σ H _ I h) fun v s1 ⟨x, H1, I1, r1, q1⟩ => ⟨σ, H1, I1, q1⟩) I.quiet hs
def tRet (te : TE) : TS := fun D σ H => te σ H D.rt
theorem ps_ret (he : PE X e te) : PS X (.Return (some e) pos) (tRet te) := by
  intro pins s σ H D I h
  exact wpAny_Return_some (thn (he pins s σ H _ I h) fun v s1 ⟨x, H1, I1, r1, q1⟩ => ⟨x, σ, H1, I1, r1, q1⟩)
def tRetN : TS := fun D _ H => D.rt .non H
def tIfS (c : TT) (t u : TS) : TS := fun D σ H => c σ H fun b H1 => if b = true then t D σ H1 else u D σ H1
theorem ps_if {c : Expr} {a b : List Stmt} {tc : TT} (hc : PT X c tc) (ha : PSs X a t) (hb : PSs X b u) : PS X (.If c a b pos) (tIfS tc t u) := by
  intro pins s σ H D I h
  refine wpAny_If (thn (hc pins s σ H _ I h) fun d s1 ⟨H1, I1, q1⟩ => ?_)
  cases d with
  | true => exact ha pins s1 σ H1 D I1 q1
  | false => exact hb pins s1 σ H1 D I1 q1
/-- code that the proof never comes to -/
def tNever : TS := fun _ _ _ => False
end

/-! ### targets -/
abbrev TG := V → St → Hp → (St → Hp → Prop) → Prop
abbrev TGs := List V → St → Hp → (St → Hp → Prop) → Prop
def PG (X : Cx) (target : Expr) (t : TG) : Prop :=
  ∀ (pins : List (Addr × Obj)) (s : Shared) (σ : St) (H : Hp) (v : V) (u : Value) (Q : St → Hp → Prop), Inv X pins σ H s → RelV v u → t v σ H Q →
    wpAny (model X.prog X.w) X.A (assign target X.env u) (fun _ s' => ∃ σ' H', Inv X pins σ' H' s' ∧ Q σ' H') X.xe s
/-- several targets, one after another -/
def PGs (X : Cx) (ts : List Expr) (t : TGs) : Prop :=
  ∀ (pins : List (Addr × Obj)) (s : Shared) (σ : St) (H : Hp) (vs : List V) (us : List Value) (Q : St → Hp → Prop), Inv X pins σ H s → Vals vs us → t vs σ H Q →
    wpAny (model X.prog X.w) X.A (assignInOrder ((assignEach ts X.env).map (·.2)) us) (fun _ s' => ∃ σ' H', Inv X pins σ' H' s' ∧ Q σ' H') X.xe s
/-- o[i] = v, by values -/
abbrev TSet := V → V → V → Hp → (Hp → Prop) → Prop
def PSet (X : Cx) (t : TSet) : Prop :=
  ∀ (pins : List (Addr × Obj)) (s : Shared) (σ : St) (H : Hp) (o i v : V) (ov iv u : Value) (Q : Hp → Prop), Inv X pins σ H s → RelV o ov → RelV i iv → RelV v u → t o i v H Q →
    wpAny (model X.prog X.w) X.A (setItem ov iv u) (fun _ s' => ∃ H', Inv X pins σ H' s' ∧ Q H') X.xe s
/-- a op= b, by values -/
abbrev TIp := V → V → Hp → VK → Prop
def PIp (X : Cx) (op : Operator) (t : TIp) : Prop :=
  ∀ (pins : List (Addr × Obj)) (s : Shared) (σ : St) (H : Hp) (x y : V) (v u : Value) (Q : VK), Inv X pins σ H s → RelV x v → RelV y u → t x y H Q →
    wpAny (model X.prog X.w) X.A (inplaceOp op v u) (EP X pins σ Q) X.xe s
section
variable {X : Cx} {pos : Pos}
def gName (i : Nat) : TG := fun v σ H Q => Q (σ.set i (some v)) H
theorem pg_name {i : Nat} {x : Str} (hN : X.N.Nodup) (hi : X.N[i]? = some x) (hx : Loc X.env.scope x) (hf : X.fn x = true ∨ X.env.scope.names.lookup x = some .local := by first | exact .inl rfl | exact .inr rfl | assumption) : PG X (.Name x pos) (gName i) := by
  intro pins s σ H v u Q I r h
  exact wpAny_assign_Name (store_ok I hN hi hx r (fun s' I' => ⟨_, H, I', h⟩) hf)
def gNil : TGs := fun vs σ H Q => vs = [] ∧ Q σ H
def gCons (t : TG) (u : TGs) : TGs := fun vs σ H Q => ∃ v r, vs = v :: r ∧ t v σ H fun σ' H' => u r σ' H' Q
theorem pgs_nil : PGs X [] gNil := by
  intro pins s σ H vs us Q I r h
  obtain ⟨e, h⟩ := h
  subst e
  cases r
  exact assignInOrder_nil ⟨σ, H, I, h⟩
theorem pgs_cons {e : Expr} {es : List Expr} {t : TG} {u : TGs} (h1 : PG X e t) (h2 : PGs X es u)
    (hs : (assignEach (e :: es) X.env).map (·.2) = assign e X.env :: (assignEach es X.env).map (·.2) := by rfl) : PGs X (e :: es) (gCons t u) := by
  intro pins s σ H vs us Q I r h
  obtain ⟨v, vr, e1, h⟩ := h
  subst e1
  cases r with
  | cons r rr =>
    rw [hs]
    refine assignInOrder_cons (thn (h1 pins s σ H _ _ _ I r h) fun _ s1 ⟨σ1, H1, I1, q1⟩ => ?_)
    exact h2 pins s1 σ1 H1 _ _ Q I1 rr q1
/-- (a, b, ..) = a tuple of that length -/
def gTup (K : PySem.W.Frag) (n : Nat) (t : TGs) : TG := fun v σ H Q => ∃ a xs, v = .ref a ∧ SqT K H a xs ∧ xs.length = n ∧ t xs σ H Q
theorem pg_tup {es : List Expr} {k : Nat} {t : TGs} {n : Nat} (hc : X.calm = true) (h : PGs X es t)
    (hn : (assignEach es X.env).length = n := by rfl) (hst : (assignEach es X.env).findIdx? (·.1) = none := by rfl) : PG X (.Tuple es k pos) (gTup X.K n t) := by
  intro pins s σ H v u Q I r hw
  obtain ⟨a, xs, e1, hq, hl, hw⟩ := hw
  subst e1
  cases r
  obtain ⟨its, rv, ht, hz⟩ := I.tuple hq
  refine assign_Tuple_tuple (I.ok.hd hc) ht (by simp [hn, ← hl, rv.length]) hst fun h' hx => ?_
  have I1 : Inv X pins σ H { s with heap := h' } := I.kept (t' := s.toks) fun b o e => hx b o (Nat.ne_of_lt (Heap.lt_size e)) e
  exact h pins _ σ H xs _ Q I1 (by simpa using rv) hw
/-- o[i] = .. -/
def gSub (to ti : TE) (t : TSet) : TG := fun v σ H Q => to σ H fun o H1 => ti σ H1 fun i H2 => t o i v H2 fun H3 => Q σ H3
/-- target = value -/
def tAsg (te : TE) (g : TG) : TS := fun D σ H => te σ H fun x H1 => g x σ H1 D.nx
theorem ps_asg {tg e : Expr} {te : TE} {g : TG} (he : PE X e te) (hg : PG X tg g) (hs : swapsWithSole [tg] e pos.line X.env = pure false := by rfl) (hw : swappedStores [tg] e X.env = pure none := by rfl)
    (h1 : (assignEach [tg] X.env).map (·.2) = [assign tg X.env] := by rfl) : PS X (.Assign [tg] e pos) (tAsg te g) := by
  intro pins s σ H D I h
  refine wpAny_Assign_stores (thn (he pins s σ H _ I h) fun v s1 ⟨x, H1, I1, r1, q1⟩ => ?_) hs hw
  rw [h1]
  exact thn (hg pins s1 σ H1 x v _ I1 r1 q1) fun _ s2 q => q
/-- name = value -/
theorem ps_set {i : Nat} {x : Str} {e : Expr} {te : TE} {pos' : Pos} (hN : X.N.Nodup) (hi : X.N[i]? = some x) (hx : Loc X.env.scope x) (he : PE X e te) (hs : swapsWith e (some (.Name x pos')) pos.line X.env = pure false := by rfl) (hf : X.fn x = true ∨ X.env.scope.names.lookup x = some .local := by first | exact .inl rfl | exact .inr rfl | assumption) :
    PS X (.Assign [.Name x pos'] e pos) (tAsg te (gName i)) := by
  intro pins s σ H D I h
  refine wpAny_Assign_Name (thn (he pins s σ H _ I h) fun v s1 ⟨y, H1, I1, r1, q1⟩ => ?_) hs
  exact store_ok I1 hN hi hx r1 (fun s2 I2 => ⟨_, H1, I2, q1⟩) hf
/-- a, b = x, y with plain local names: stored from the right; the pair itself is not tracked (the opening rows as in PyProof/Rows/TupAssign.lean:23) -/
def tPar (i j : Nat) (ta : TA) : TS := fun D σ H => ta σ H fun vs H1 => ∃ v w, vs = [v, w] ∧ D.nx ((σ.set i (some v)).set j (some w)) H1
/-- name op= e -/
def tAug (i : Nat) (te : TE) (ti : TIp) : TS := fun D σ H => ∃ x, σ[i]? = some (some x) ∧ te σ H fun y H1 => ti x y H1 fun z H2 => D.nx (σ.set i (some z)) H2
theorem ps_aug {i : Nat} {x : Str} {e : Expr} {te : TE} {op : Operator} {ti : TIp} {pos' : Pos} (hN : X.N.Nodup) (hi : X.N[i]? = some x) (hx : Loc X.env.scope x) (he : PE X e te) (ho : PIp X op ti) (hf : X.fn x = true ∨ X.env.scope.names.lookup x = some .local := by first | exact .inl rfl | exact .inr rfl | assumption) :
    PS X (.AugAssign (.Name x pos') op e pos) (tAug i te ti) := by
  intro pins s σ H D I h
  obtain ⟨v, e1, h⟩ := h
  obtain ⟨m, hn, hl⟩ := I.loc
  have vis : Vis X.env.scope x := by rcases hx with k | k; exact .inl k; exact .inr (.inl k)
  obtain ⟨u, r, l⟩ := hl i x v hi e1 vis
  refine wpAny_AugAssign_Name ?_
  have go : wpAny (model X.prog X.w) X.A (eval e X.env) (fun w s₂ => wpAny (model X.prog X.w) X.A (inplaceOp op u w) (fun r s₃ => wpAny (model X.prog X.w) X.A (storeName X.env x r) (fun _ => SP X pins D .next) X.xe s₃) X.xe s₂) X.xe s := by
    refine thn (he pins s σ H _ I h) fun w s1 ⟨y, H1, I1, r1, q1⟩ => ?_
    refine thn (ho pins s1 σ H1 v y u w _ I1 r r1 q1) fun z s2 ⟨zv, H2, I2, r2, q2⟩ => ?_
    exact store_ok I2 hN hi hx r2 (fun s3 I3 => ⟨_, H2, I3, q2⟩) hf
  rcases l with ⟨hk, hm⟩ | ⟨hk, c, hc, hcell⟩
  · exact wpAny_loadName_local I.ok.kind hk hn hm go
  · rcases hk with hk | hk
    · exact wpAny_loadName_cell I.ok.kind hk hc hcell go
    · rcases hx with k | k
      · have : X.env.scope.names.lookup x = some .free := hk
        rw [k] at this; cases this
      · have : X.env.scope.names.lookup x = some .free := hk
        rw [k] at this; cases this
/-- o[i] op= e -/
def tAugS (to ti te : TE) (tget : V → V → Hp → VK → Prop) (tip : TIp) (tset : TSet) : TS := fun D σ H => to σ H fun o H1 => ti σ H1 fun i H2 => tget o i H2 fun x H3 => te σ H3 fun y H4 => tip x y H4 fun z H5 => tset o i z H5 fun H6 => D.nx σ H6
/-- o[i], by values -/
def PGet (X : Cx) (t : V → V → Hp → VK → Prop) : Prop :=
  ∀ (pins : List (Addr × Obj)) (s : Shared) (σ : St) (H : Hp) (o i : V) (ov iv : Value) (Q : VK), Inv X pins σ H s → RelV o ov → RelV i iv → t o i H Q →
    wpAny (model X.prog X.w) X.A (getItem ov iv) (EP X pins σ Q) X.xe s
/-- ints -/
def ipI (f : Int → Int → Int) : TIp := fun x y H Q => ∃ i j, x = .int i ∧ y = .int j ∧ Q (.int (f i j)) H
theorem ip_add : PIp X .Add (ipI fun i j => i + j) := by
  intro pins s σ H x y v u Q I r1 r2 h
  obtain ⟨i, j, e1, e2, q⟩ := h
  subst e1; subst e2
  obtain ⟨t, rfl⟩ := r1
  obtain ⟨t', rfl⟩ := r2
  exact iadd_int ⟨.int _, H, I.tok _, ⟨_, rfl⟩, q⟩
end

/-! ### while -/
section
variable {X : Cx} {pos : Pos}
/-- the invariant W with its measure -/
def tWhile (c : TT) (tb : TS) : TS := fun D σ H => ∃ W : Nat → St → Hp → Prop, (∃ m, W m σ H) ∧ ∀ m σ H, W m σ H →
  c σ H fun b H1 => if b = true then ∃ N : St → Hp → Prop, (∀ σ' H', N σ' H' → ∃ m', m' < m ∧ W m' σ' H') ∧ tb { D with nx := N, ct := N, bk := D.nx } σ H1 else D.nx σ H1
theorem ps_while {c : Expr} {body : List Stmt} {tc : TT} {tb : TS} (hp : PassesOwn (model X.prog X.w) X.A X.env X.xe) (hc : PT X c tc) (hb : PSs X body tb) : PS X (.While c body [] pos) (tWhile tc tb) := by
  intro pins s σ H D I h
  obtain ⟨W, ⟨m0, w0⟩, turn⟩ := h
  refine wpAny_While (codeAny_whileLoop (fun n s' => ∃ σ' H', Inv X pins σ' H' s' ∧ W n σ' H') ?_ m0 ⟨σ, H, I, w0⟩)
  rintro n s1 ⟨σ1, H1, I1, w1⟩
  refine wpAny_passesOwn hp (thn (hc pins s1 σ1 H1 _ I1 (turn n σ1 H1 w1)) fun b s2 ⟨H2, I2, q2⟩ => ?_)
  cases b with
  | true =>
    obtain ⟨N, hN, q2⟩ := q2
    rw [if_pos rfl]
    refine wpAny_passesOwn hp (thn (hb pins s2 σ1 H2 _ I2 q2) fun f s3 q3 => ?_)
    cases f with
    | next =>
      obtain ⟨σ3, H3, I3, n3⟩ := q3
      obtain ⟨m', hm, w3⟩ := hN σ3 H3 n3
      exact ⟨m', hm, σ3, H3, I3, w3⟩
    | cont =>
      obtain ⟨σ3, H3, I3, n3⟩ := q3
      obtain ⟨m', hm, w3⟩ := hN σ3 H3 n3
      exact ⟨m', hm, σ3, H3, I3, w3⟩
    | brk => exact q3
    | ret v => exact q3
  | false =>
    rw [if_neg Bool.false_ne_true]
    exact wpAny_execs_nil ⟨σ1, H2, I2, q2⟩
end

/-! ### what a loop or a comprehension walks -/
/-- at turn i: it yields x (the heap may grow), or it stops -/
structure It where
  go : Nat → Hp → Prop
  yld : Nat → Hp → V → Hp → Prop
  stop : Nat → Hp → Prop
/-- the iterator's own objects may turn: they are not the frame's, not pinned, younger than the entry (or a comprehension's own) -/
def FpOk (X : Cx) (pins : List (Addr × Obj)) (H : Hp) (b : Addr) : Prop :=
  H b = none ∧ b ≠ X.env.locals ∧ b ∉ X.fs ∧ (b ∈ X.ex ∨ X.s₀.heap.objs.size ≤ b) ∧ (∀ x c, X.env.cells.lookup x = some c → c ≠ b) ∧ ∀ p ∈ X.pn ++ pins, p.1 ≠ b
theorem Inv.fpOk {X : Cx} {pins : List (Addr × Obj)} {σ : St} {H H' : Hp} {s : Shared} {b : Addr} (I : Inv X pins σ H s) (hb : s.heap.objs.size ≤ b) (hn : H' b = none) : FpOk X pins H' b := by
  refine ⟨hn, Nat.ne_of_gt (Nat.lt_of_lt_of_le I.lt hb), I.nofs hb, .inr (Nat.le_trans I.sz hb), fun x c e z => ?_, fun p hp z => ?_⟩
  · obtain ⟨v, q⟩ := I.cell x c e
    exact absurd (Nat.lt_of_lt_of_le q.lt (by rw [z]; exact hb)) (Nat.lt_irrefl _)
  · exact absurd (Nat.lt_of_lt_of_le (Heap.lt_size (I.pin p hp).1) (by rw [z]; exact hb)) (Nat.lt_irrefl _)
structure Turn (P : Program) (w : World) (K : PySem.W.Frag) (tg : Expr) (J : It) (fp : List Addr) (it : Addr) (tn : Nat → Heap → Prop) : Prop where
  mem : it ∈ fp
  obj : ∀ i h, tn i h → ∀ b ∈ fp, ∃ o, h.get? b = some o ∧ ∀ v, o.data ≠ .cell v
  keep : ∀ i h h', tn i h → (∀ b ∈ fp, ∀ o, h.get? b = some o → h'.get? b = some o) → tn i h'
  item : ∀ (X : Cx), X.prog = P → X.w = w → X.K = K → X.calm = true → ∀ (i : Nat) (pins : List (Addr × Obj)) (s : Shared) (σ : St) (H : Hp) (E : Value → Shared → Prop), Inv X pins σ H s → (∀ b ∈ fp, FpOk X pins H b) → tn i s.heap → J.go i H →
    wpAny (model P w) X.A (pyNext (.ref it)) (fun r s1 => ∃ u, r = some u ∧
      wpAny (model P w) X.A (letOwnedTupleGo tg (.ref it) u) (fun _ s2 => ∃ x H', Inv X pins σ H' s2 ∧ RelV x u ∧ J.yld i H x H' ∧ tn (i + 1) s2.heap ∧ ∀ b ∈ fp, H' b = none) E s1) E s
  done : ∀ (X : Cx), X.prog = P → X.w = w → X.K = K → X.calm = true → ∀ (i : Nat) (pins : List (Addr × Obj)) (s : Shared) (σ : St) (H : Hp) (E : Value → Shared → Prop), Inv X pins σ H s → (∀ b ∈ fp, FpOk X pins H b) → tn i s.heap → J.stop i H →
    wpAny (model P w) X.A (pyNext (.ref it)) (fun r s1 => r = none ∧ Inv X pins σ H s1) E s
  self : ∀ (A : Around) (i : Nat) (s : Shared) (Q : Value → Shared → Prop) (E : Value → Shared → Prop), tn i s.heap → Q (.ref it) s → wpAny (model P w) A (pyIter (.ref it)) Q E s
abbrev TI := St → Hp → (It → Hp → Prop) → Prop
/-- an iterator has come -/
def PIE (X : Cx) (pins : List (Addr × Obj)) (σ : St) (tg : Expr) (R : It → Hp → Prop) (itv : Value) (s2 : Shared) : Prop :=
  ∃ (it : Addr) (fp : List Addr) (tn : Nat → Heap → Prop) (J : It) (H' : Hp), itv = .ref it ∧ Inv X pins σ H' s2 ∧ Turn X.prog X.w X.K tg J fp it tn ∧ tn 0 s2.heap ∧ (∀ b ∈ fp, FpOk X pins H' b) ∧ R J H'
def PI (X : Cx) (tg iter : Expr) (wi : TI) : Prop :=
  ∀ (pins : List (Addr × Obj)) (s : Shared) (σ : St) (H : Hp) (R : It → Hp → Prop), Inv X pins σ H s → wi σ H R →
    wpAny (model X.prog X.w) X.A (eval iter X.env) (fun v s1 => wpAny (model X.prog X.w) X.A (pyIter v) (PIE X pins σ tg R) X.xe s1) X.xe s

/-- the step ahead of the store is nothing for an iterator that keeps no tuple -/
theorem go_of {M : Model} {A : Around} {E : Value → Shared → Prop} {s : Shared} {tg : Expr} {it : Addr} {u : Value} {o : Obj} {n : String} {vs : Array Value} {Q : Unit → Shared → Prop} (ho : s.heap.get? it = some o) (hc : o.cls = .type n) (hd : o.data = .fields vs)
    (hn : ["enumerate", "zip", "dict_itemiterator", "dict_reverseitemiterator", "odict_iterator", "itertools.zip_longest", "itertools.pairwise"].contains n = false) (hQ : Q () s) : wpAny M A (letOwnedTupleGo tg (.ref it) u) Q E s := by
  unfold letOwnedTupleGo
  cases tg <;> first
    | exact wpAny_pure hQ
    | (cases u <;> first
        | exact wpAny_pure hQ
        | (refine wpAny_bind (wpAny_load ho ?_)
           rw [hc, hd]
           show wpAny M A (if (["enumerate", "zip", "dict_itemiterator", "dict_reverseitemiterator", "odict_iterator", "itertools.zip_longest", "itertools.pairwise"].contains n && vs[0]? == some (rawInt _)) = true then _ else _) Q E s
           rw [if_neg (by intro h; rw [hn, Bool.false_and] at h; cases h)]
           exact wpAny_pure hQ))

/-- the list at a, as it stands at each turn (a loop may append to it) -/
def Itl (K : PySem.W.Frag) (a : Addr) : It :=
  ⟨fun i H => ∃ xs x, SqL K H a xs ∧ xs[i]? = some x, fun i H x H' => H' = H ∧ ∀ xs, SqL K H a xs → xs[i]? = some x, fun i H => ∃ xs, SqL K H a xs ∧ xs.length ≤ i⟩
def Itt (K : PySem.W.Frag) (a : Addr) : It :=
  ⟨fun i H => ∃ xs x, SqT K H a xs ∧ xs[i]? = some x, fun i H x H' => H' = H ∧ ∀ xs, SqT K H a xs → xs[i]? = some x, fun i H => ∃ xs, SqT K H a xs ∧ xs.length ≤ i⟩
/-- lo, lo + 1, .. (n of them) -/
def Itr (lo : Int) (n : Nat) : It := ⟨fun i _ => i < n, fun i H x H' => H' = H ∧ x = .int (lo + i), fun i _ => n ≤ i⟩
theorem turn_list {P : Program} {w : World} {K : PySem.W.Frag} {tg : Expr} (a it : Addr) : Turn P w K tg (Itl K a) [it] it (fun i h => h.IsListIter it a i) where
  mem := by simp
  obj := fun i h st b hb => by
    have e : b = it := by simpa using hb
    subst e
    obtain ⟨o, e, c, d⟩ := st
    exact ⟨o, e, fun v z => by rw [d] at z; cases z⟩
  keep := fun i h h' st k => st.at fun o e => k it (by simp) o e
  item := by
    intro X hP hw hK hc i pins s σ H E I hf st hg
    subst hP hw hK
    obtain ⟨xs, x, hq, hx⟩ := hg
    obtain ⟨its, rv, p, hz⟩ := I.list hq
    obtain ⟨u, hu, ru⟩ := rv.get hx
    obtain ⟨f0, f1, f2, f3, f4, f5⟩ := hf it (by simp)
    refine wpAny_pyNext_list_item st p.isList (x := u) (by simpa using hu) fun h' st' sb => ?_
    have I1 : Inv X pins σ H { s with heap := h' } := I.turned (t' := s.toks) (fun b o hb e => (sb.2 b hb).trans e) f0 f1 f3 f4 f5
    obtain ⟨o, e, c, d⟩ := id st'
    exact ⟨u, rfl, go_of (s := { s with heap := h' }) e c d (by decide) ⟨x, H, I1, ru, ⟨rfl, fun ys hy => by rw [I.list_inj hy hq]; exact hx⟩, st', fun b hb => (hf b hb).1⟩⟩
  done := by
    intro X hP hw hK hc i pins s σ H E I hf st hg
    subst hP hw hK
    obtain ⟨xs, hq, hx⟩ := hg
    obtain ⟨its, rv, p, hz⟩ := I.list hq
    obtain ⟨f0, f1, f2, f3, f4, f5⟩ := hf it (by simp)
    have hl := rv.length
    exact wpAny_pyNext_list_end (I.ok.hd hc) st p.isList (by simp; omega) fun h' eb => ⟨rfl, I.turned (t' := s.toks) (fun b o hb e => eb b o hb e) f0 f1 f3 f4 f5⟩
  self := fun _ _ _ _ _ st h => wpAny_pyIter_listiter st h
theorem turn_tuple {P : Program} {w : World} {K : PySem.W.Frag} {tg : Expr} (a it : Addr) : Turn P w K tg (Itt K a) [it] it (fun i h => h.IsTupleIter it a i) where
  mem := by simp
  obj := fun i h st b hb => by
    have e : b = it := by simpa using hb
    subst e
    obtain ⟨o, e, c, d⟩ := st
    exact ⟨o, e, fun v z => by rw [d] at z; cases z⟩
  keep := fun i h h' st k => st.at fun o e => k it (by simp) o e
  item := by
    intro X hP hw hK hc i pins s σ H E I hf st hg
    subst hP hw hK
    obtain ⟨xs, x, hq, hx⟩ := hg
    obtain ⟨its, rv, p, hz⟩ := I.tuple hq
    obtain ⟨u, hu, ru⟩ := rv.get hx
    obtain ⟨f0, f1, f2, f3, f4, f5⟩ := hf it (by simp)
    refine wpAny_pyNext_tuple_item st (show s.heap.IsTuple a its.toArray from p) (x := u) (by simpa using hu) fun h' st' sb => ?_
    have I1 : Inv X pins σ H { s with heap := h' } := I.turned (t' := s.toks) (fun b o hb e => (sb.2 b hb).trans e) f0 f1 f3 f4 f5
    obtain ⟨o, e, c, d⟩ := id st'
    exact ⟨u, rfl, go_of (s := { s with heap := h' }) e c d (by decide) ⟨x, H, I1, ru, ⟨rfl, fun ys hy => by rw [I.tuple_inj hy hq]; exact hx⟩, st', fun b hb => (hf b hb).1⟩⟩
  done := by
    intro X hP hw hK hc i pins s σ H E I hf st hg
    subst hP hw hK
    obtain ⟨xs, hq, hx⟩ := hg
    obtain ⟨its, rv, p, hz⟩ := I.tuple hq
    obtain ⟨f0, f1, f2, f3, f4, f5⟩ := hf it (by simp)
    have hl := rv.length
    exact wpAny_pyNext_tuple_end (I.ok.hd hc) st (show s.heap.IsTuple a its.toArray from p) (by simp; omega) fun h' eb => ⟨rfl, I.turned (t' := s.toks) (fun b o hb e => eb b o hb e) f0 f1 f3 f4 f5⟩
  self := fun _ _ _ _ _ st h => wpAny_pyIter_tupleiter st h
theorem turn_range {P : Program} {w : World} {K : PySem.W.Frag} {tg : Expr} (it : Addr) (lo : Int) (n : Nat) : Turn P w K tg (Itr lo n) [it] it (fun i h => IsRangeIter h it (lo + (i : Nat) * 1) ((n : Int) - (i : Nat)) 1) where
  mem := by simp
  obj := fun i h st b hb => by
    have e : b = it := by simpa using hb
    subst e
    exact ⟨_, st, fun v z => by
      have z' : Data.fields _ = Data.cell v := z
      cases z'⟩
  keep := fun i h h' st k => k it (by simp) _ st
  item := by
    intro X hP hw hK hc i pins s σ H E I hf st hg
    subst hP hw hK
    obtain ⟨f0, f1, f2, f3, f4, f5⟩ := hf it (by simp)
    have W := Walks.range (prog := X.prog) (w := X.w) (I.ok.hd hc) it lo 1 n
    refine W.item i s _ _ hg st fun v h' tk hv st' kk => ?_
    obtain ⟨t, rfl⟩ := hv
    have I1 : Inv X pins σ H { s with heap := h', toks := tk } := I.turned (fun b o hb e => kk b o (by simpa using hb) e) f0 f1 f3 f4 f5
    refine ⟨_, rfl, go_of (s := { s with heap := h', toks := tk }) (n := "range_iterator") st' rfl rfl (by decide) ⟨.int (lo + i), H, I1, ⟨t, ?_⟩, ⟨rfl, rfl⟩, st', fun b hb => (hf b hb).1⟩⟩
    rw [Int.mul_one]
  done := by
    intro X hP hw hK hc i pins s σ H E I hf st hg
    subst hP hw hK
    obtain ⟨f0, f1, f2, f3, f4, f5⟩ := hf it (by simp)
    exact wpAny_pyNext_range_end (I.ok.hd hc) st (by have : n ≤ i := hg; omega) fun h' eb => ⟨rfl, I.turned (t' := s.toks) (fun b o hb e => eb b o hb e) f0 f1 f3 f4 f5⟩
  self := fun _ _ _ _ _ st h => wpAny_pyIter_rangeiter st h
end L2

namespace L2
open PySem PySem.Spec PyProof.Rows
section
variable {X : Cx} {tg : Expr}
def iList (K : PySem.W.Frag) (tl : TE) : TI := fun σ H R => tl σ H fun x H1 => ∃ a, x = .ref a ∧ (∃ xs, SqL K H1 a xs) ∧ R (Itl K a) H1
def iTup (K : PySem.W.Frag) (tl : TE) : TI := fun σ H R => tl σ H fun x H1 => ∃ a, x = .ref a ∧ (∃ xs, SqT K H1 a xs) ∧ R (Itt K a) H1
theorem pi_list {l : Expr} {tl : TE} (hl : PE X l tl) : PI X tg l (iList X.K tl) := by
  intro pins s σ H R I h
  refine thn (hl pins s σ H _ I h) fun v s1 ⟨x, H1, I1, r1, q1⟩ => ?_
  obtain ⟨a, e, ⟨xs, hq⟩, q⟩ := q1
  subst e
  cases r1
  obtain ⟨its, rv, p, hz⟩ := I1.list hq
  refine wpAny_pyIter_list p.isList ?_
  refine ⟨s1.heap.objs.size, [s1.heap.objs.size], _, _, H1, rfl, I1.kept (t' := s1.toks) fun b o e => Heap.get?_push_of_some _ e, turn_list a _, ⟨_, Heap.get?_push_size _ rfl, rfl, rfl⟩, fun b hb => ?_, q⟩
  have e : b = s1.heap.objs.size := by simpa using hb
  subst e
  exact I1.fpOk (Nat.le_refl _) (I1.hok.fresh (Nat.le_refl _))
theorem pi_tup {l : Expr} {tl : TE} (hl : PE X l tl) : PI X tg l (iTup X.K tl) := by
  intro pins s σ H R I h
  refine thn (hl pins s σ H _ I h) fun v s1 ⟨x, H1, I1, r1, q1⟩ => ?_
  obtain ⟨a, e, ⟨xs, hq⟩, q⟩ := q1
  subst e
  cases r1
  obtain ⟨its, rv, p, hz⟩ := I1.tuple hq
  refine wpAny_pyIter_tuple (show s1.heap.IsTuple a its.toArray from p) ?_
  refine ⟨s1.heap.objs.size, [s1.heap.objs.size], _, _, H1, rfl, I1.kept (t' := s1.toks) fun b o e => Heap.get?_push_of_some _ e, turn_tuple a _, ⟨_, Heap.get?_push_size _ rfl, rfl, rfl⟩, fun b hb => ?_, q⟩
  have e : b = s1.heap.objs.size := by simpa using hb
  subst e
  exact I1.fpOk (Nat.le_refl _) (I1.hok.fresh (Nat.le_refl _))
/-- a range object just made, walked -/
theorem range_it {pins : List (Addr × Obj)} {σ : St} {H : Hp} {s : Shared} {R : It → Hp → Prop} {E : Value → Shared → Prop} {lo hi : Int} {t u v : Tok} {tk : Nat} (I : Inv X pins σ H s) (h1 : -(2 ^ 62) ≤ lo) (h2 : lo < 2 ^ 62) (h3 : -(2 ^ 62) ≤ hi) (h4 : hi < 2 ^ 62)
    (q : R (Itr lo (hi - lo).toNat) H) : wpAny (model X.prog X.w) X.A (pyIter (.ref s.heap.objs.size)) (PIE X pins σ tg R) E { s with heap := s.heap.push { cls := .type "range", data := .fields #[.int lo t, .int hi u, .int 1 v] }, toks := tk } := by
  refine wpAny_pyIter_range (IsRange.new ..) (small_one h1 h2 h3 h4) ?_
  have I1 : Inv X pins σ H { s with heap := s.heap.push { cls := .type "range", data := .fields #[.int lo t, .int hi u, .int 1 v] }, toks := tk } := I.kept fun b o e => Heap.get?_push_of_some _ e
  refine ⟨(s.heap.push { cls := .type "range", data := .fields #[.int lo t, .int hi u, .int 1 v] }).objs.size, [(s.heap.push { cls := .type "range", data := .fields #[.int lo t, .int hi u, .int 1 v] }).objs.size], _, _, H, rfl,
    I1.kept (t' := tk) fun b o e => Heap.get?_push_of_some _ e, turn_range _ lo (hi - lo).toNat, ?_, fun b hb => ?_, q⟩
  · have e1 : lo + ((0 : Nat) : Int) * 1 = lo := by simp
    have e2 : (((hi - lo).toNat : Nat) : Int) - ((0 : Nat) : Int) = Builtin.Range.rangeSize lo hi 1 := by rw [rangeSize_one]; split <;> omega
    show IsRangeIter _ _ (lo + ((0 : Nat) : Int) * 1) ((((hi - lo).toNat : Nat) : Int) - ((0 : Nat) : Int)) 1
    rw [e1, e2]
    exact Heap.get?_push_size _ rfl
  · have e : b = (s.heap.push { cls := .type "range", data := .fields #[.int lo t, .int hi u, .int 1 v] }).objs.size := by simpa using hb
    subst e
    exact I1.fpOk (Nat.le_refl _) (I1.hok.fresh (Nat.le_refl _))
def iRng1 (ta : TA) : TI := fun σ H R => ta σ H fun vs H1 => ∃ j : Int, vs = [.int j] ∧ -(2 ^ 62) ≤ j ∧ j < 2 ^ 62 ∧ R (Itr 0 j.toNat) H1
def iRng2 (ta : TA) : TI := fun σ H R => ta σ H fun vs H1 => ∃ i j : Int, vs = [.int i, .int j] ∧ (-(2 ^ 62) ≤ i ∧ i < 2 ^ 62 ∧ -(2 ^ 62) ≤ j ∧ j < 2 ^ 62) ∧ R (Itr i (j - i).toNat) H1
theorem pi_range1 {a : Expr} {ta : TA} {p pos : Pos} (hg : Gl X "range") (hm : X.mg "range" = none) (ha : PA X [a] ta) (hs : starEach [a] X.env = [(false, eval a X.env)] := by rfl) : PI X tg (.Call (.Name "range" p) [a] [] pos) (iRng1 ta) := by
  intro pins s σ H R I h
  refine Call_ (ld_blt I hg hm boot_range (PyProof.Rows.callWith_type1 (thn (ha pos pins s σ H _ I h) fun us s1 ⟨vs, H1, I1, r1, q1⟩ => ?_) hs rfl))
  obtain ⟨j, e, q1, q2, q⟩ := q1
  subst e
  cases r1 with
  | cons r rr =>
    cases rr
    obtain ⟨t, rfl⟩ := r
    exact call_range_1 (range_it I1 (by omega) (by omega) q1 q2 (by simpa using q))
theorem pi_range2 {a b : Expr} {ta : TA} {p pos : Pos} (hg : Gl X "range") (hm : X.mg "range" = none) (ha : PA X [a, b] ta) (hs : starEach [a, b] X.env = [(false, eval a X.env), (false, eval b X.env)] := by rfl) (hs2 : starEach [b] X.env = [(false, eval b X.env)] := by rfl) :
    PI X tg (.Call (.Name "range" p) [a, b] [] pos) (iRng2 ta) := by
  intro pins s σ H R I h
  refine Call_ (ld_blt I hg hm boot_range (PyProof.Rows.callWith_type1 (thn (ha pos pins s σ H _ I h) fun us s1 ⟨vs, H1, I1, r1, q1⟩ => ?_) (by rw [hs, hs2]) (by rw [hs2]; rfl)))
  obtain ⟨i, j, e, ⟨q1, q2, q3, q4⟩, q⟩ := q1
  subst e
  cases r1 with
  | cons r rr =>
    cases rr with
    | cons r' rr =>
      cases rr
      obtain ⟨t, rfl⟩ := r
      obtain ⟨t', rfl⟩ := r'
      exact call_range_2 (range_it I1 q1 q2 q3 q4 q)

/-! ### for -/
/-- W: the invariant by the turn and a measure; N: what the body is to reach -/
def tFor (wi : TI) (g : TG) (tb : TS) : TS := fun D σ H => wi σ H fun J H1 => ∃ W : Nat → Nat → St → Hp → Prop, (∃ m, W 0 m σ H1) ∧ ∀ i m σ H, W i m σ H →
  (J.stop i H ∧ D.nx σ H) ∨ (J.go i H ∧ ∃ N : St → Hp → Prop, (∀ σ' H', N σ' H' → ∃ m', m' < m ∧ W (i + 1) m' σ' H') ∧ ∀ x H', J.yld i H x H' → g x σ H' fun σ2 H2 => tb { D with nx := N, ct := N, bk := D.nx } σ2 H2)
/-- the records at fp as they stand -/
def pinsAt (fp : List Addr) (h : Heap) : List (Addr × Obj) := fp.filterMap fun b => (h.get? b).map fun o => (b, o)
theorem mem_pinsAt {fp : List Addr} {h : Heap} {b : Addr} {o : Obj} (hb : b ∈ fp) (e : h.get? b = some o) : (b, o) ∈ pinsAt fp h := List.mem_filterMap.mpr ⟨b, hb, by rw [e]; rfl⟩
theorem of_pinsAt {fp : List Addr} {h : Heap} {p : Addr × Obj} (hp : p ∈ pinsAt fp h) : p.1 ∈ fp ∧ h.get? p.1 = some p.2 := by
  obtain ⟨b, hb, e⟩ := List.mem_filterMap.mp hp
  cases q : h.get? b with
  | none => rw [q] at e; cases e
  | some o =>
    rw [q] at e
    have e' : (b, o) = p := Option.some.inj e
    subst e'
    exact ⟨hb, q⟩
theorem Inv.pinned {pins : List (Addr × Obj)} {σ : St} {H : Hp} {s : Shared} {fp : List Addr} (I : Inv X pins σ H s) (hf : ∀ b ∈ fp, FpOk X pins H b) (ho : ∀ b ∈ fp, ∃ o, s.heap.get? b = some o ∧ ∀ v, o.data ≠ .cell v) : Inv X (pins ++ pinsAt fp s.heap) σ H s :=
  I.pins_of fun p hp => (List.mem_append.mp hp).elim (fun z => I.pin p (List.mem_append_right _ z)) fun z => by
    obtain ⟨hb, e⟩ := of_pinsAt z
    obtain ⟨f0, f1, f2, _⟩ := hf p.1 hb
    obtain ⟨o, e', d⟩ := ho p.1 hb
    rw [e] at e'; cases e'
    exact ⟨e, f0, f1, f2, d⟩
theorem Inv.unpinned {pins pl : List (Addr × Obj)} {σ : St} {H : Hp} {s : Shared} (I : Inv X (pins ++ pl) σ H s) : Inv X pins σ H s := I.pins_of fun p hp => I.pin p (List.mem_append_right _ (List.mem_append_left _ hp))
theorem ps_for {iter : Expr} {body : List Stmt} {wi : TI} {g : TG} {tb : TS} {pos : Pos} (hp : PassesOwn (model X.prog X.w) X.A X.env X.xe) (hc : X.calm = true) (hi : PI X tg iter wi) (hg : PG X tg g) (hb : PSs X body tb)
    (hs : ∀ x, foldedSetIterable iter X.env x = pure x := by intro _; rfl) : PS X (.For tg iter body [] pos) (tFor wi g tb) := by
  intro pins s σ H D I h
  refine wpAny_For (thn (hi pins s σ H _ I h) fun v s1 h1 => thn h1 fun itv s2 h2 => ?_) hs
  obtain ⟨it, fp, tn, J, H2, e, I2, T, st2, f2, W, ⟨m0, w0⟩, turn⟩ := h2
  subst e
  -- what stays true of the iterator's objects through the loop
  have stat : ∀ {H' : Hp}, (∀ b ∈ fp, H' b = none) → ∀ b ∈ fp, FpOk X pins H' b := fun hn b hb => ⟨hn b hb, (f2 b hb).2⟩
  refine codeAny_forLoop_any (fun n s' => ∃ i σ' H', Inv X pins σ' H' s' ∧ tn i s'.heap ∧ (∀ b ∈ fp, H' b = none) ∧ W i n σ' H') ?_ m0 ⟨0, σ, H2, I2, st2, fun b hb => (f2 b hb).1, w0⟩
  rintro n s3 ⟨i, σ3, H3, I3, st3, fr3, w3⟩
  rcases turn i n σ3 H3 w3 with ⟨stop, qn⟩ | ⟨go, N, hN, step⟩
  · refine wpAny_passesOwn hp (thn (T.done X rfl rfl rfl hc i pins s3 σ3 H3 X.xe I3 (stat fr3) st3 stop) fun r s4 ⟨hr, I4⟩ => ?_)
    subst hr
    exact wpAny_execs_nil ⟨σ3, H3, I4, qn⟩
  · refine wpAny_passesOwn hp (thn (T.item X rfl rfl rfl hc i pins s3 σ3 H3 X.xe I3 (stat fr3) st3 go) fun r s4 ⟨u, hr, h4⟩ => ?_)
    subst hr
    refine wpAny_passesOwn hp (thn h4 fun _ s5 ⟨x, H5, I5, r5, y5, st5, fr5⟩ => ?_)
    have I5' := I5.pinned (stat fr5) (T.obj _ _ st5)
    refine wpAny_passesOwn hp (thn (hg _ s5 σ3 H5 x u _ I5' r5 (step x H5 y5)) fun _ s6 ⟨σ6, H6, I6, q6⟩ => ?_)
    refine wpAny_passesOwn hp (thn (hb _ s6 σ6 H6 _ I6 q6) fun f s7 q7 => ?_)
    have again : ∀ {σ7 : St} {H7 : Hp}, Inv X (pins ++ pinsAt fp s5.heap) σ7 H7 s7 → N σ7 H7 → ∃ m, m < n ∧ ∃ i σ' H', Inv X pins σ' H' s7 ∧ tn i s7.heap ∧ (∀ b ∈ fp, H' b = none) ∧ W i m σ' H' := fun {σ7 H7} I7 n7 => by
      obtain ⟨m', hm, w7⟩ := hN σ7 H7 n7
      refine ⟨m', hm, i + 1, σ7, H7, I7.unpinned, T.keep _ _ _ st5 fun b hb o e => (I7.pin (b, o) (List.mem_append_right _ (List.mem_append_right _ (mem_pinsAt hb e)))).1, fun b hb => ?_, w7⟩
      obtain ⟨o, e, d⟩ := T.obj _ _ st5 b hb
      exact (I7.pin (b, o) (List.mem_append_right _ (List.mem_append_right _ (mem_pinsAt hb e)))).2.1
    cases f with
    | next => obtain ⟨σ7, H7, I7, n7⟩ := q7; exact again I7 n7
    | cont => obtain ⟨σ7, H7, I7, n7⟩ := q7; exact again I7 n7
    | brk => obtain ⟨σ7, H7, I7, q7⟩ := q7; exact ⟨σ7, H7, I7.unpinned, q7⟩
    | ret v => obtain ⟨x7, σ7, H7, I7, r7, q7⟩ := q7; exact ⟨x7, σ7, H7, I7.unpinned, r7, q7⟩
end

/-! ### the forms one uses -/
/-- over a list that the body leaves as it is -/
theorem for_list {K : PySem.W.Frag} {a : Addr} {xs : List V} {g : TG} {tb : TS} {D : Ends} {σ : St} {H : Hp} (Pv : Nat → St → Hp → Prop) (h0 : Pv 0 σ H) (hl : ∀ i σ H, i ≤ xs.length → Pv i σ H → SqL K H a xs)
    (hs : ∀ i x σ H, xs[i]? = some x → Pv i σ H → g x σ H fun σ2 H2 => tb { D with nx := Pv (i + 1), ct := Pv (i + 1), bk := D.nx } σ2 H2) (hd : ∀ σ H, Pv xs.length σ H → D.nx σ H) :
    ∃ W : Nat → Nat → St → Hp → Prop, (∃ m, W 0 m σ H) ∧ ∀ i m σ H, W i m σ H →
      ((Itl K a).stop i H ∧ D.nx σ H) ∨ ((Itl K a).go i H ∧ ∃ N : St → Hp → Prop, (∀ σ' H', N σ' H' → ∃ m', m' < m ∧ W (i + 1) m' σ' H') ∧ ∀ x H', (Itl K a).yld i H x H' → g x σ H' fun σ2 H2 => tb { D with nx := N, ct := N, bk := D.nx } σ2 H2) := by
  refine ⟨fun i m σ H => m = xs.length - i ∧ i ≤ xs.length ∧ Pv i σ H, ⟨xs.length, by simp, Nat.zero_le _, h0⟩, ?_⟩
  rintro i m σ H ⟨rfl, hi, p⟩
  have q := hl i σ H hi p
  by_cases hlt : i < xs.length
  · refine .inr ⟨⟨xs, xs[i], q, by simp [hlt]⟩, Pv (i + 1), fun σ' H' p' => ⟨xs.length - (i + 1), by omega, rfl, hlt, p'⟩, fun x H' y => ?_⟩
    obtain ⟨e, y⟩ := y
    subst e
    exact hs i x σ _ (y xs q) p
  · have e : i = xs.length := by omega
    subst e
    exact .inl ⟨⟨xs, q, Nat.le_refl _⟩, hd σ H p⟩
end L2

namespace L2
open PySem PySem.Spec PyProof.Rows

abbrev R2 := V → V → Hp → VK → Prop
/-- a two-place operation on values: f is binaryOp op, inplaceOp op or compareOp op -/
def OpR (X : Cx) (f : Value → Value → Sem Value) (r : R2) : Prop :=
  ∀ (pins : List (Addr × Obj)) (s : Shared) (σ : St) (H : Hp) (x y : V) (v u : Value) (Q : VK), Inv X pins σ H s → RelV x v → RelV y u → r x y H Q →
    wpAny (model X.prog X.w) X.A (f v u) (EP X pins σ Q) X.xe s
/-- a one-place operation -/
def UnR (X : Cx) (f : Value → Sem Value) (r : V → Hp → VK → Prop) : Prop :=
  ∀ (pins : List (Addr × Obj)) (s : Shared) (σ : St) (H : Hp) (x : V) (v : Value) (Q : VK), Inv X pins σ H s → RelV x v → r x H Q →
    wpAny (model X.prog X.w) X.A (f v) (EP X pins σ Q) X.xe s
/-- a call of a value that is known (a builtin, a type) with values -/
def CallR (X : Cx) (f : Value) (r : List V → Hp → VK → Prop) : Prop :=
  ∀ (pins : List (Addr × Obj)) (s : Shared) (σ : St) (H : Hp) (xs : List V) (us : List Value) (Q : VK), Inv X pins σ H s → Vals xs us → r xs H Q →
    wpAny (model X.prog X.w) X.A (call f us) (EP X pins σ Q) X.xe s
/-- a value's truth -/
def TruR (X : Cx) (r : V → Hp → (Bool → Hp → Prop) → Prop) : Prop :=
  ∀ (pins : List (Addr × Obj)) (s : Shared) (σ : St) (H : Hp) (x : V) (v : Value) (Q : Bool → Hp → Prop), Inv X pins σ H s → RelV x v → r x H Q →
    wpAny (model X.prog X.w) X.A (truthy v) (TP X pins σ Q) X.xe s

def tOp (r : R2) (ta tb : TE) : TE := fun σ H Q => ta σ H fun x H1 => tb σ H1 fun y H2 => r x y H2 Q
def tUn (r : V → Hp → VK → Prop) (ta : TE) : TE := fun σ H Q => ta σ H fun x H1 => r x H1 Q
/-- ints in, under C, and a value out -/
def rI (C : Int → Int → Prop) (g : Int → Int → V) : R2 := fun x y H Q => ∃ i j, x = .int i ∧ y = .int j ∧ C i j ∧ Q (g i j) H
def rI0 (g : Int → Int → V) : R2 := fun x y H Q => ∃ i j, x = .int i ∧ y = .int j ∧ Q (g i j) H
def rU (g : Int → V) : V → Hp → VK → Prop := fun x H Q => ∃ i, x = .int i ∧ Q (g i) H

section
variable {X : Cx} {a b c : Expr} {ta tb tc : TE} {pos : Pos}

theorem binT (ha : PE X a ta) (hb : PE X b tb) {pins : List (Addr × Obj)} {s : Shared} {σ : St} {H : Hp} {R : V → V → Hp → Prop} (I : Inv X pins σ H s)
    (h : ta σ H fun x H1 => tb σ H1 fun y H2 => R x y H2) {Q : Value → Shared → Prop} {f : Value → Value → Sem Value}
    (hf : ∀ v u s2 x y H2, Inv X pins σ H2 s2 → RelV x v → RelV y u → R x y H2 → wpAny (model X.prog X.w) X.A (f v u) Q X.xe s2) :
    wpAny (model X.prog X.w) X.A (eval a X.env) (fun v s₁ => wpAny (model X.prog X.w) X.A (eval b X.env) (fun u s₂ => wpAny (model X.prog X.w) X.A (f v u) Q X.xe s₂) X.xe s₁) X.xe s := by
  refine thn (ha pins s σ H _ I h) fun v s1 ⟨x, H1, I1, r1, q1⟩ => ?_
  refine thn (hb pins s1 σ H1 _ I1 q1) fun u s2 ⟨y, H2, I2, r2, q2⟩ => ?_
  exact hf v u s2 x y H2 I2 r1 r2 q2

theorem pe_op {op : Operator} {r : R2} (ho : OpR X (binaryOp op) r) (ha : PE X a ta) (hb : PE X b tb) : PE X (.BinOp a op b pos) (tOp r ta tb) := by
  intro pins s σ H Q I h
  exact wpAny_BinOp (binT ha hb I h fun v u s2 x y H2 I2 rx ry q => ho pins s2 σ H2 x y v u Q I2 rx ry q)
theorem pe_un {op : UnaryOp} {r : V → Hp → VK → Prop} (ho : UnR X (unaryOp op) r) (ha : PE X a ta) : PE X (.UnaryOp op a pos) (tUn r ta) := by
  intro pins s σ H Q I h
  exact UnaryOp_ (thn (ha pins s σ H _ I h) fun v s1 ⟨x, H1, I1, r1, q1⟩ => ho pins s1 σ H1 x v Q I1 r1 q1)
/-! ### ints -/
theorem opI {f : Value → Value → Sem Value} {C : Int → Int → Prop} {g : Int → Int → Int}
    (rule : ∀ (i j : Int) (t u : Tok) (s : Shared) (Q : Value → Shared → Prop) (E : Value → Shared → Prop), C i j → Q (.int (g i j) s.toks) { s with toks := s.toks + 1 } → wpAny (model X.prog X.w) X.A (f (.int i t) (.int j u)) Q E s) :
    OpR X f (rI C fun i j => .int (g i j)) := by
  intro pins s σ H x y v u Q I rx ry h
  obtain ⟨i, j, rfl, rfl, hc, q⟩ := h
  obtain ⟨t, rfl⟩ := rx
  obtain ⟨t', rfl⟩ := ry
  exact rule i j t t' s _ _ hc ⟨.int (g i j), H, I.tok _, ⟨_, rfl⟩, q⟩
theorem opI0 {f : Value → Value → Sem Value} {g : Int → Int → Int}
    (rule : ∀ (i j : Int) (t u : Tok) (s : Shared) (Q : Value → Shared → Prop) (E : Value → Shared → Prop), Q (.int (g i j) s.toks) { s with toks := s.toks + 1 } → wpAny (model X.prog X.w) X.A (f (.int i t) (.int j u)) Q E s) :
    OpR X f (rI0 fun i j => .int (g i j)) := by
  intro pins s σ H x y v u Q I rx ry h
  obtain ⟨i, j, rfl, rfl, q⟩ := h
  obtain ⟨t, rfl⟩ := rx
  obtain ⟨t', rfl⟩ := ry
  exact rule i j t t' s _ _ ⟨.int (g i j), H, I.tok _, ⟨_, rfl⟩, q⟩
theorem opB0 {f : Value → Value → Sem Value} {g : Int → Int → Bool}
    (rule : ∀ (i j : Int) (t u : Tok) (s : Shared) (Q : Value → Shared → Prop) (E : Value → Shared → Prop), Q (.bool (g i j)) s → wpAny (model X.prog X.w) X.A (f (.int i t) (.int j u)) Q E s) :
    OpR X f (rI0 fun i j => .bl (g i j)) := by
  intro pins s σ H x y v u Q I rx ry h
  obtain ⟨i, j, rfl, rfl, q⟩ := h
  obtain ⟨t, rfl⟩ := rx
  obtain ⟨t', rfl⟩ := ry
  exact rule i j t t' s _ _ ⟨.bl (g i j), H, I, rfl, q⟩

def CDiv (i j : Int) : Prop := 0 < j ∧ j < 1073741824
def CDivN (i j : Int) : Prop := j ≠ 0 ∧ j.natAbs < 1073741824
def CPow (i j : Int) : Prop := 0 ≤ j ∧ j ≤ 1000000 ∧ i.natAbs < 2 ^ 64
def CMul (i j : Int) : Prop := (-(2 ^ 64) < i ∧ i < 2 ^ 64) ∨ (-(2 ^ 64) < j ∧ j < 2 ^ 64)
theorem CMul.ok {i j : Int} (h : CMul i j) : IntMulOk i j := by
  rcases h with ⟨h1, h2⟩ | ⟨h1, h2⟩
  · exact .of_left (intBits_le_64 h1 h2)
  · exact .of_right (intBits_le_64 h1 h2)
theorem op_add : OpR X (binaryOp .Add) (rI0 fun i j => .int (i + j)) := opI0 fun _ _ _ _ _ _ _ q => add_int q
theorem op_sub : OpR X (binaryOp .Sub) (rI0 fun i j => .int (i - j)) := opI0 fun _ _ _ _ _ _ _ q => sub_int q
theorem op_mul : OpR X (binaryOp .Mult) (rI CMul fun i j => .int (i * j)) := opI fun _ _ _ _ _ _ _ hc q => mul_int q hc.ok
/-- // by a positive divisor -/
theorem op_fdiv : OpR X (binaryOp .FloorDiv) (rI CDiv fun i j => .int (i / j)) := opI fun i j _ _ _ _ _ hc q => by
  have h1 : (0 : Int) < j := hc.1
  have h2 : j < 1073741824 := hc.2
  exact floordiv_int (by omega) (by rw [Int.fdiv_eq_ediv_of_nonneg i (by omega)]; exact q) (.inl (PyProof.noPylong_small (by omega)))
/-- % by a positive divisor of any size -/
theorem op_mod : OpR X (binaryOp .Mod) (rI (fun _ j => 0 < j) fun i j => .int (i % j)) := opI fun i j _ _ _ _ _ hc q => by
  have h1 : (0 : Int) < j := hc
  exact mod_int' (by omega) (by rw [Int.fmod_eq_emod_of_nonneg i (by omega)]; exact q)
theorem unI {f : Value → Sem Value} {g : Int → Int}
    (rule : ∀ (i : Int) (t : Tok) (s : Shared) (Q : Value → Shared → Prop) (E : Value → Shared → Prop), Q (.int (g i) s.toks) { s with toks := s.toks + 1 } → wpAny (model X.prog X.w) X.A (f (.int i t)) Q E s) :
    UnR X f (rU fun i => .int (g i)) := by
  intro pins s σ H x v Q I rx h
  obtain ⟨i, rfl, q⟩ := h
  obtain ⟨t, rfl⟩ := rx
  exact rule i t s _ _ ⟨.int (g i), H, I.tok _, ⟨_, rfl⟩, q⟩
theorem un_neg : UnR X (unaryOp .USub) (rU fun i => .int (-i)) := unI fun _ _ _ _ _ q => neg_int q
/-! ### bools among ints: n += (a < b) -/
end

/-! ### comparisons -/
/-- the scalars that == tells apart as data does -/
def scal : V → V → Bool
  | .non, .non => true | .non, .int _ => true | .int _, .non => true | .non, .bl _ => true | .bl _, .non => true | .non, .str _ => true | .str _, .non => true
  | .int _, .int _ => true | .bl _, .bl _ => true | .str _, .str _ => true | .byt _, .byt _ => true
  | .int _, .str _ => true | .str _, .int _ => true | .bl _, .str _ => true | .str _, .bl _ => true
  | _, _ => false
def rEq : R2 := fun x y H Q => scal x y = true ∧ Q (.bl (decide (x = y))) H
def rNe : R2 := fun x y H Q => scal x y = true ∧ Q (.bl (!decide (x = y))) H

theorem dec_int {i j : Int} : decide (V.int i = V.int j) = (i == j) := by
  rw [Bool.eq_iff_iff]
  simp
theorem dec_bl {i j : Bool} : decide (V.bl i = V.bl j) = (i == j) := by
  rw [Bool.eq_iff_iff]
  simp
theorem dec_str {i j : Str} : decide (V.str i = V.str j) = (i == j) := by
  rw [Bool.eq_iff_iff]
  simp
theorem dec_byt {i j : Array UInt8} : decide (V.byt i = V.byt j) = (i.toList == j.toList) := by
  rw [Bool.eq_iff_iff]
  cases i
  cases j
  simp

section
variable {X : Cx} {a b c : Expr} {ta tb tc : TE} {pos : Pos}
theorem fin_bl {pins : List (Addr × Obj)} {σ : St} {H : Hp} {s : Shared} {Q : VK} {k k' : Bool} (I : Inv X pins σ H s) (q : Q (.bl k) H) (e : k = k') : EP X pins σ Q (.bool k') s := by
  subst e
  exact ⟨.bl k, H, I, rfl, q⟩
theorem op_eq : OpR X (compareOp .Eq) rEq := by
  intro pins s σ H x y v u Q I rx ry h
  obtain ⟨hs, q⟩ := h
  cases x with
  | non =>
    cases rx
    cases y with
    | non => cases ry; exact PySem.EqNone.eq_none_none (fin_bl I q (by simp))
    | bl j => cases ry; exact PySem.EqNone.eq_none_bool (fin_bl I q (by simp))
    | int j => obtain ⟨t', rfl⟩ := ry; exact PySem.EqNone.eq_none_int (fin_bl I q (by simp))
    | str j => obtain ⟨t', rfl⟩ := ry; exact PySem.EqNone.eq_none_str (fin_bl I q (by simp))
    | _ => exact absurd (show false = true from hs) Bool.false_ne_true
  | bl i =>
    cases rx
    cases y with
    | non => cases ry; exact PySem.EqNone.eq_bool_none (fin_bl I q (by simp))
    | bl j => cases ry; exact eq_bool (fin_bl I q dec_bl)
    | str j => obtain ⟨t', rfl⟩ := ry; exact PySem.EqMixed.eq_bool_str (fin_bl I q (by simp))
    | _ => exact absurd (show false = true from hs) Bool.false_ne_true
  | int i =>
    obtain ⟨t, rfl⟩ := rx
    cases y with
    | non => cases ry; exact PySem.EqNone.eq_int_none (fin_bl I q (by simp))
    | int j => obtain ⟨t', rfl⟩ := ry; exact eq_int (fin_bl I q dec_int)
    | str j => obtain ⟨t', rfl⟩ := ry; exact PySem.EqMixed.eq_int_str (fin_bl I q (by simp))
    | _ => exact absurd (show false = true from hs) Bool.false_ne_true
  | str i =>
    obtain ⟨t, rfl⟩ := rx
    cases y with
    | non => cases ry; exact PySem.EqNone.eq_str_none (fin_bl I q (by simp))
    | bl j => cases ry; exact PySem.EqMixed.eq_str_bool (fin_bl I q (by simp))
    | int j => obtain ⟨t', rfl⟩ := ry; exact PySem.EqMixed.eq_str_int (fin_bl I q (by simp))
    | str j => obtain ⟨t', rfl⟩ := ry; exact eq_str (fin_bl I q dec_str)
    | _ => exact absurd (show false = true from hs) Bool.false_ne_true
  | byt i =>
    obtain ⟨t, rfl⟩ := rx
    cases y with
    | byt j => obtain ⟨t', rfl⟩ := ry; exact PySem.W.eq_bytes (fin_bl I q dec_byt)
    | _ => exact absurd (show false = true from hs) Bool.false_ne_true
  | _ => cases y <;> exact absurd (show false = true from hs) Bool.false_ne_true
theorem op_ne : OpR X (compareOp .NotEq) rNe := by
  intro pins s σ H x y v u Q I rx ry h
  obtain ⟨hs, q⟩ := h
  cases x with
  | non =>
    cases rx
    cases y with
    | non => cases ry; exact PySem.EqNone.ne_none_none (fin_bl I q (by simp))
    | bl j => cases ry; exact PySem.EqNone.ne_none_bool (fin_bl I q (by simp))
    | int j => obtain ⟨t', rfl⟩ := ry; exact PySem.EqNone.ne_none_int (fin_bl I q (by simp))
    | str j => obtain ⟨t', rfl⟩ := ry; exact PySem.EqNone.ne_none_str (fin_bl I q (by simp))
    | _ => exact absurd (show false = true from hs) Bool.false_ne_true
  | bl i =>
    cases rx
    cases y with
    | non => cases ry; exact PySem.EqNone.ne_bool_none (fin_bl I q (by simp))
    | bl j => cases ry; exact ne_bool (fin_bl I q (congrArg not dec_bl))
    | str j => obtain ⟨t', rfl⟩ := ry; exact PySem.EqMixed.ne_bool_str (fin_bl I q (by simp))
    | _ => exact absurd (show false = true from hs) Bool.false_ne_true
  | int i =>
    obtain ⟨t, rfl⟩ := rx
    cases y with
    | non => cases ry; exact PySem.EqNone.ne_int_none (fin_bl I q (by simp))
    | int j => obtain ⟨t', rfl⟩ := ry; exact ne_int (fin_bl I q (congrArg not dec_int))
    | str j => obtain ⟨t', rfl⟩ := ry; exact PySem.EqMixed.ne_int_str (fin_bl I q (by simp))
    | _ => exact absurd (show false = true from hs) Bool.false_ne_true
  | str i =>
    obtain ⟨t, rfl⟩ := rx
    cases y with
    | non => cases ry; exact PySem.EqNone.ne_str_none (fin_bl I q (by simp))
    | bl j => cases ry; exact PySem.EqMixed.ne_str_bool (fin_bl I q (by simp))
    | int j => obtain ⟨t', rfl⟩ := ry; exact PySem.EqMixed.ne_str_int (fin_bl I q (by simp))
    | str j => obtain ⟨t', rfl⟩ := ry; exact ne_str (fin_bl I q (congrArg not dec_str))
    | _ => exact absurd (show false = true from hs) Bool.false_ne_true
  | byt i =>
    obtain ⟨t, rfl⟩ := rx
    cases y with
    | byt j => obtain ⟨t', rfl⟩ := ry; exact PySem.W.ne_bytes (fin_bl I q (congrArg not dec_byt))
    | _ => exact absurd (show false = true from hs) Bool.false_ne_true
  | _ => cases y <;> exact absurd (show false = true from hs) Bool.false_ne_true

theorem op_lt : OpR X (compareOp .Lt) (rI0 fun i j => .bl (decide (i < j))) := opB0 fun _ _ _ _ _ _ _ q => lt_int q
theorem op_le : OpR X (compareOp .LtE) (rI0 fun i j => .bl (decide (i ≤ j))) := opB0 fun _ _ _ _ _ _ _ q => le_int q
theorem op_gt : OpR X (compareOp .Gt) (rI0 fun i j => .bl (decide (j < i))) := opB0 fun _ _ _ _ _ _ _ q => gt_int q
theorem op_ge : OpR X (compareOp .GtE) (rI0 fun i j => .bl (decide (j ≤ i))) := opB0 fun _ _ _ _ _ _ _ q => ge_int q
/-- is None, is not None: the right side a value none -/
theorem op_isN : OpR X (compareOp .Is) (fun x y H Q => y = .non ∧ Q (.bl (decide (x = .non))) H) := by
  intro pins s σ H x y v u Q I rx ry h
  obtain ⟨rfl, q⟩ := h
  cases ry
  refine is_none_gen (fin_bl I q ?_)
  cases x <;> first
    | (cases rx; rfl)
    | (obtain ⟨t, rfl⟩ := rx; rfl)
theorem op_notN : OpR X (compareOp .IsNot) (fun x y H Q => y = .non ∧ Q (.bl (!decide (x = .non))) H) := by
  intro pins s σ H x y v u Q I rx ry h
  obtain ⟨rfl, q⟩ := h
  cases ry
  refine isnot_none_gen (fin_bl I q ?_)
  cases x <;> first
    | (cases rx; rfl)
    | (obtain ⟨t, rfl⟩ := rx; rfl)

/-- is, is not of two objects that are tracked lists or instances -/
def isObj : HO → Bool
  | .lst _ => true
  | .ins _ _ _ => true
  | _ => false
/-- two rules for one operation: by cases -/
theorem OpR.or {f : Value → Value → Sem Value} {r r' : R2} (h : OpR X f r) (h' : OpR X f r') : OpR X f (fun x y H Q => r x y H Q ∨ r' x y H Q) := by
  intro pins s σ H x y v u Q I rx ry q
  rcases q with q | q
  · exact h pins s σ H x y v u Q I rx ry q
  · exact h' pins s σ H x y v u Q I rx ry q

theorem nomark (b : Expr) {op : CmpOp} (h : op ≠ .In := by decide) (h2 : op ≠ .NotIn := by decide) : behindInMarks op b = false := by
  have e1 : (op == CmpOp.In) = false := by cases op <;> first | rfl | exact absurd rfl h
  have e2 : (op == CmpOp.NotIn) = false := by cases op <;> first | rfl | exact absurd rfl h2
  cases b <;> simp [behindInMarks, e1, e2]
/-- a comparison as a value; hm: nomark b, or (for in, not in) by with_unfolding_all rfl -/
theorem pe_cmpR {op : CmpOp} {r : R2} (ho : OpR X (compareOp op) r) (ha : PE X a ta) (hb : PE X b tb) (hm : behindInMarks op b = false) : PE X (.Compare a [op] [b] pos) (tOp r ta tb) := by
  intro pins s σ H Q I h
  exact wpAny_Compare1 (binT ha hb I h fun v u s2 x y H2 I2 rx ry q => ho pins s2 σ H2 x y v u Q I2 rx ry q) hm
/-- a reading of a value as a test -/
def tTest (t : TE) : TT := fun σ H Q => t σ H fun x H' => ∃ k, x = .bl k ∧ Q k H'
theorem pt_cmpR {op : CmpOp} {r : R2} (ho : OpR X (compareOp op) r) (ha : PE X a ta) (hb : PE X b tb) (hm : behindInMarks op b = false) : PT X (.Compare a [op] [b] pos) (tTest (tOp r ta tb)) := by
  intro pins s σ H Q I h
  refine wpAny_isTrue_Compare1 (thn (ha pins s σ H _ I h) fun v s1 ⟨x, H1, I1, r1, q1⟩ => thn (hb pins s1 σ H1 _ I1 q1) fun u s2 ⟨y, H2, I2, r2, q2⟩ =>
    thn (ho pins s2 σ H2 x y v u _ I2 r1 r2 q2) fun c s3 ⟨z, H3, I3, r3, k, e, q3⟩ => ?_) hm
  subst e
  cases r3
  exact wpAny_truthy_bool ⟨H3, I3, q3⟩
/-- a op1 b op2 c -/
def tChain (r r' : R2) (ta tb tc : TE) : TE := fun σ H Q => ta σ H fun x H1 => tb σ H1 fun y H2 => r x y H2 fun z H3 => ∃ k, z = .bl k ∧
  (if k = true then tc σ H3 fun w' H4 => r' y w' H4 Q else Q (.bl false) H3)
/-! ### truth -/
/-- a value's truth by the abstract heap -/
def TruV (K : PySem.W.Frag) (x : V) (H : Hp) (k : Bool) : Prop :=
  match x with
  | .non => k = false
  | .bl b => k = b
  | .int i => k = (i != 0)
  | .str y => y.length ≤ sizeLine ∧ k = ((y.length : Int) != 0)
  | .byt y => y.size ≤ sizeLine ∧ k = ((y.size : Int) != 0)
  | .ref p => (∃ xs, SqL K H p xs ∧ k = !xs.isEmpty) ∨ (∃ xs, SqT K H p xs ∧ k = !xs.isEmpty) ∨ ∃ kvs, H p = some (.dK kvs) ∧ k = !kvs.isEmpty
  | _ => False
theorem line63 : (sizeLine : Nat) < 2 ^ 63 := by rw [sizeLine_eq]; decide
/-! ### strs and bytes -/
def PlainIxT (b : Expr) : Prop := ∀ o i, subscripted b false o i = operate [o, i] (getItem o i)
/-! ### scalar builtins, by CallR -/
theorem vals1 {x : V} {us : List Value} (r : Vals [x] us) : ∃ u, us = [u] ∧ RelV x u := by
  cases r with
  | cons r1 r2 => cases r2; exact ⟨_, rfl, r1⟩
theorem vals2 {x y : V} {us : List Value} (r : Vals [x, y] us) : ∃ u w', us = [u, w'] ∧ RelV x u ∧ RelV y w' := by
  cases r with
  | cons r1 r2 =>
    cases r2 with
    | cons r3 r4 => cases r4; exact ⟨_, _, rfl, r1, r3⟩
theorem call_abs : CallR X (.builtin "abs") (fun xs H Q => ∃ i, xs = [.int i] ∧ Q (.int (if i < 0 then -i else i)) H) := by
  intro pins s σ H xs us Q I r h
  obtain ⟨i, rfl, q⟩ := h
  obtain ⟨u, rfl, t, rfl⟩ := vals1 r
  exact call_abs_int fun u tk => ⟨.int (if i < 0 then -i else i), H, I.tok _, ⟨_, rfl⟩, q⟩
theorem call_max2 (hc : X.calm = true) : CallR X (.builtin "max") (fun xs H Q => ∃ i j, xs = [.int i, .int j] ∧ Q (.int (if j > i then j else i)) H) := by
  intro pins s σ H xs us Q I r h
  obtain ⟨i, j, rfl, q⟩ := h
  obtain ⟨u, w', rfl, ⟨t, rfl⟩, ⟨t', rfl⟩⟩ := vals2 r
  refine max_two_ints (I.ok.hd hc) fun h' tk k => ⟨_, H, I.kept k, ?_, q⟩
  by_cases hj : j > i
  · rw [if_pos hj, if_pos hj]; exact ⟨_, rfl⟩
  · rw [if_neg hj, if_neg hj]; exact ⟨_, rfl⟩
theorem call_int1 : CallR X (.type "int") (fun xs H Q => (∃ i, xs = [.int i] ∧ Q (.int i) H) ∨ ∃ k, xs = [.bl k] ∧ Q (.int (if k then 1 else 0)) H) := by
  intro pins s σ H xs us Q I r h
  rcases h with ⟨i, rfl, q⟩ | ⟨k, rfl, q⟩
  · obtain ⟨u, rfl, t, rfl⟩ := vals1 r
    exact call_int_int ⟨.int i, H, I, ⟨_, rfl⟩, q⟩
  · obtain ⟨u, rfl, r1⟩ := vals1 r
    cases r1
    exact call_int_bool ⟨.int (if k then 1 else 0), H, I.tok _, ⟨_, rfl⟩, q⟩
/-- len of a str, a bytes, a list, a tuple -/
def LenV (K : PySem.W.Frag) (x : V) (H : Hp) (n : Nat) : Prop :=
  match x with
  | .str y => y.length ≤ sizeLine ∧ n = y.length
  | .byt y => y.size ≤ sizeLine ∧ n = y.size
  | .ref p => (∃ xs, SqL K H p xs ∧ n = xs.length) ∨ ∃ xs, SqT K H p xs ∧ n = xs.length
  | _ => False
end
end L2

namespace L2
open PySem PySem.Spec PyProof.Rows

/-! ### an instance, its attributes a map -/
structure ObjM (h : Heap) (x dx C : Addr) (mA : Str → Option Value) : Prop where
  obj : h.get? x = some (PySem.W.instObj C dx)
  ns : h.Ns1 dx mA
  ne : dx ≠ x

theorem lookIn_ns {h : Heap} {dx : Addr} {mA : Str → Option Value} (n : h.Ns1 dx mA) : ∃ od, h.get? dx = some od ∧ ∀ name, PySem.W.lookIn name od = some (mA name) := by
  obtain ⟨o, es, ep, ho, hd, hk, _, hm⟩ := n
  refine ⟨o, ho, fun name => ?_⟩
  have e := hm name
  unfold nsFind findBy at e
  rw [← Array.find?_toList] at e
  unfold PySem.W.lookIn
  rw [hd]
  dsimp only
  split
  · rename_i y q
    rw [q] at e
    exact congrArg some e
  · rename_i q
    rw [q] at e
    have a : es.toList.any (·.refKey) = false := by
      rw [List.any_eq_false]
      intro y hy
      obtain ⟨z, t, hkey⟩ := hk y (Array.mem_toList_iff.mp hy)
      simp [DictEntry.refKey, hkey]
    have a' : ¬ es.toList.any (·.refKey) = true := by rw [a]; exact Bool.false_ne_true
    rw [if_neg a']
    exact congrArg some e

theorem ObjM.look {h : Heap} {x dx C : Addr} {mA : Str → Option Value} (I : ObjM h x dx C mA) : ∃ od, PySem.W.InstAt h x (PySem.W.instObj C dx) C (some od) ∧ ∀ name, PySem.W.lookIn name od = some (mA name) :=
  let ⟨od, ho, hl⟩ := lookIn_ns I.ns
  ⟨od, ⟨I.obj, rfl, rfl, ho⟩, hl⟩

section
variable {prog : Program} {w : World} {A : Around} {E : Value → Shared → Prop} {s : Shared} {K : PySem.W.Frag} {x dx C f : Addr} {mA : Str → Option Value} {name : Str} {v : Value}

end

/-! ### the attributes as a list of pairs -/
def putF (f : Str) (v : V) : List (Str × V) → List (Str × V)
  | [] => [(f, v)]
  | (g, x) :: r => if g = f then (g, v) :: r else (g, x) :: putF f v r
theorem RelO.some_of {v : V} {o : Option Value} (r : RelO (some v) o) : ∃ u, o = some u ∧ RelV v u := by
  cases o with
  | none => exact (show False from r).elim
  | some u => exact ⟨u, rfl, r⟩
theorem RelO.none_of {o : Option Value} (r : RelO none o) : o = none := by
  cases o with
  | none => rfl
  | some u => exact (show False from r).elim
section
variable {P : Program} {w : World} {H H' : Hp} {h h' : Heap} {a C dx : Addr} {fs fs' : List (Str × V)}
theorem ins_get (hok : HOk P w H h) (e : H a = some (.ins C dx fs)) : ∃ mA, ObjM h a dx C mA ∧ (∀ f, RelO (fs.lookup f) (mA f)) ∧ PySem.Within mA (fs.map (·.1)) ∧ fs.length ≤ 1000 ∧ H dx = some (.own a) := by
  obtain ⟨d, z, ne, ob, mA, n, r, q⟩ := (show ObjOk P w H h a (.ins C dx fs) from hok a _ e)
  exact ⟨mA, ⟨ob, n, ne⟩, r, q, z, d⟩
end

/-! ### what of the text a class must have -/
structure Cls (K : PySem.W.Frag) (C : Addr) : Prop where
  pg : PySem.W.plainGet K C Str.empty = true
  hd : PySem.W.hasDictIn K C = true
  po : PySem.W.plainOver K C = true
  sa : PySem.W.findIn K (.ref C) "__setattr__" = some (some (.builtin "object.__setattr__"))
theorem Cls.get {K : PySem.W.Frag} {C : Addr} (c : Cls K C) (f : Str) : PySem.W.plainGet K C f = true := c.pg
/-- no class of it has the name -/
def NoAttr (K : PySem.W.Frag) (C : Addr) (f : Str) : Prop := PySem.W.findIn K (.ref C) f = some none
/-- a constant of the class -/
structure Con (K : PySem.W.Frag) (C : Addr) (f : Str) (v : V) (u : Value) : Prop where
  at_ : PySem.W.findIn K (.ref C) f = some (some u)
  rel : RelV v u
  get : PySem.W.specialIn K u "__get__" = some none
  cp : PySem.W.copiedNames.contains f = false
/-- a method: a plain def of the class or of one above it -/
structure Meth (K : PySem.W.Frag) (C : Addr) (m : Str) (f : Addr) : Prop where
  at_ : PySem.W.findIn K (.ref C) m = some (some (.ref f))
  fn : PySem.W.isFn K (.ref f) = true
  kp : PySem.W.keepIn K (.ref f) = true

section
variable {X : Cx} {pins : List (Addr × Obj)} {σ : St} {H : Hp} {s : Shared} {a C dx : Addr} {fs : List (Str × V)} {f : Str} {v : V} {A : Around} {E : Value → Shared → Prop}

/-- a new instance, tracked, without attributes -/
theorem Inv.made (I : Inv X pins σ H s) : Inv X pins σ (upd (upd H s.heap.objs.size (.own (s.heap.objs.size + 1))) (s.heap.objs.size + 1) (.ins C s.heap.objs.size []))
    { s with heap := (s.heap.push PySem.W.emptyDict).push (PySem.W.instObj C s.heap.objs.size) } := by
  have e1 : (s.heap.push PySem.W.emptyDict).get? s.heap.objs.size = some PySem.W.emptyDict := Heap.get?_push_size s.heap rfl
  have e2 : ((s.heap.push PySem.W.emptyDict).push (PySem.W.instObj C s.heap.objs.size)).get? (s.heap.objs.size + 1) = some (PySem.W.instObj C s.heap.objs.size) := by
    have := Heap.get?_push_size (s.heap.push PySem.W.emptyDict) (o := PySem.W.instObj C s.heap.objs.size) rfl
    rwa [Heap.size_push] at this
  have e3 : (s.heap.push PySem.W.emptyDict).Ns s.heap.objs.size (fun _ => none) := ⟨PySem.W.emptyDict, #[], _, e1, rfl, (fun e he => absurd he (by simp)), fun _ => rfl⟩
  have I1 := I.laid (a := s.heap.objs.size) (o := .own (s.heap.objs.size + 1)) (h' := s.heap.push PySem.W.emptyDict) (t' := s.toks) (fun b u q => Heap.get?_push_of_some _ q) (Nat.le_refl _) ⟨_, e1⟩
  refine I1.laid (a := s.heap.objs.size + 1) (o := .ins C s.heap.objs.size []) (t' := s.toks) (fun b u q => Heap.get?_push_of_some _ q) (Nat.le_of_eq (Heap.size_push _ _)) ?_
  have ne : s.heap.objs.size ≠ s.heap.objs.size + 1 := Nat.ne_of_lt (Nat.lt_succ_self _)
  refine ⟨by rw [upd_ne ne, upd_same], Nat.zero_le _, ne, e2, fun _ => none, (Heap.Ns1.of_empty e3).at fun o q => Heap.get?_push_of_some _ q, fun _ => True.intro, fun y hy => absurd rfl hy⟩

end

/-! ### readings and rules -/
/-- e.f, an attribute of the instance -/
def tFld (K : PySem.W.Frag) (ta : TE) (f : Str) : TE := fun σ H Q => ta σ H fun x H1 => ∃ a C dx fs v, x = .ref a ∧ H1 a = some (.ins C dx fs) ∧ Cls K C ∧ NoAttr K C f ∧ fs.lookup f = some v ∧ Q v H1
/-- e.f, a constant of the class -/
def tCon (K : PySem.W.Frag) (ta : TE) (f : Str) : TE := fun σ H Q => ta σ H fun x H1 => ∃ a C dx fs v u, x = .ref a ∧ H1 a = some (.ins C dx fs) ∧ Cls K C ∧ Con K C f v u ∧ fs.lookup f = none ∧ Q v H1
/-- e.f = value -/
def sFld (K : PySem.W.Frag) (ta tv : TE) (f : Str) : TS := fun D σ H => tv σ H fun y H1 => ta σ H1 fun x H2 => ∃ a C dx fs, x = .ref a ∧ H2 a = some (.ins C dx fs) ∧ Cls K C ∧ NoAttr K C f ∧ fs.length < 1000 ∧
  D.nx σ (upd H2 a (.ins C dx (putF f y fs)))
/-- an augmented operator on two values -/
def InOp (X : Cx) (op : Operator) (rd : V → V → Hp → VK → Prop) : Prop :=
  ∀ (pins : List (Addr × Obj)) (s : Shared) (σ : St) (H : Hp) (x y : V) (u v : Value) (Q : VK), Inv X pins σ H s → RelV x u → RelV y v → rd x y H Q → wpAny (model X.prog X.w) X.A (inplaceOp op u v) (EP X pins σ Q) X.xe s
/-- e.f op= value -/
def sFldAug (K : PySem.W.Frag) (ta tv : TE) (rd : V → V → Hp → VK → Prop) (f : Str) : TS := fun D σ H => ta σ H fun x H1 => ∃ a C dx fs v, x = .ref a ∧ H1 a = some (.ins C dx fs) ∧ Cls K C ∧ NoAttr K C f ∧ fs.lookup f = some v ∧
  tv σ H1 fun y H2 => rd v y H2 fun z H3 => ∃ dx' fs', H3 a = some (.ins C dx' fs') ∧ fs'.length < 1000 ∧ D.nx σ (upd H3 a (.ins C dx' (putF f z fs')))

section
variable {X : Cx} {o e value : Expr} {f : Str} {pos pos' tpos : Pos} {ta tv : TE}
def rAdd : V → V → Hp → VK → Prop := fun x y H Q => ∃ i j, x = .int i ∧ y = .int j ∧ Q (.int (i + j)) H
def rSub : V → V → Hp → VK → Prop := fun x y H Q => ∃ i j, x = .int i ∧ y = .int j ∧ Q (.int (i - j)) H
end

/-! ### isinstance -/
section
variable {X : Cx} {pins : List (Addr × Obj)} {σ : St} {H : Hp} {s : Shared} {A : Around} {E : Value → Shared → Prop} {Q : Value → Shared → Prop} {c : Value} {b : Bool}
/-- the type of a value, as the fragment's deciders take it; for an instance its class -/
inductive TyOf (K : PySem.W.Frag) (H : Hp) : V → Value → Prop where
  | non : TyOf K H .non (.type "NoneType")
  | bl (x : Bool) : TyOf K H (.bl x) (.type "bool")
  | int (i : Int) : TyOf K H (.int i) (.type "int")
  | str (x : Str) : TyOf K H (.str x) (.type "str")
  | flt (x : UInt64) : TyOf K H (.flt x) (.type "float")
  | lst {a : Addr} {xs : List V} (e : H a = some (.lst xs)) : TyOf K H (.ref a) (.type "list")
  | frz {a : Addr} {o : Obj} {xs : List V} (e : H a = some (.frz o (.lst xs))) : TyOf K H (.ref a) (.type "list")
  | tup {a : Addr} {xs : List V} (e : H a = some (.tup xs)) : TyOf K H (.ref a) (.type "tuple")
  | dK {a : Addr} {kvs : List (Key × V)} (e : H a = some (.dK kvs)) : TyOf K H (.ref a) (.type "dict")
  | dT {a : Addr} {kvs : List (List Key × V)} (e : H a = some (.dT kvs)) : TyOf K H (.ref a) (.type "dict")
  | ins {a C dx : Addr} {fs : List (Str × V)} (e : H a = some (.ins C dx fs)) (cl : Cls K C) (ha : PySem.W.findIn K (.ref C) "__class__" = some (some (.builtin "object.__class__")))
      (hn : PySem.W.specialIn K (.builtin "object.__class__") "__get__" = some (some (.builtin "getset_descriptor.__get__"))) (htk : PySem.W.takesIn K (.builtin "object.__class__") = some true)
      (hm : PySem.W.mroIn K C (.type "object") = some true) : TyOf K H (.ref a) (.ref C)
/-- isinstance(x, c) for one class c, a built-in or an own one: kitOne's answer -/
theorem isinst_ok {x : V} {u t : Value} (I : Inv X pins σ H s) (rx : RelV x u) (ty : TyOf X.K H x t) (e : PySem.W.kitOne X.K t c = some b) (h : ∀ tk, Q (.bool b) { s with toks := tk }) :
    wpAny (model X.prog X.w) A (call (.builtin "isinstance") [u, c]) Q E s := by
  cases ty with
  | non => cases (show u = Value.none from rx); exact PySem.W.kia_one PySem.W.kitx_none I.kIn True.intro e (fun z => nomatch z) h
  | bl y => cases (show u = Value.bool y from rx); exact PySem.W.kia_one PySem.W.kitx_bool I.kIn True.intro e (fun z => nomatch z) h
  | int i => obtain ⟨t, q⟩ := (show ∃ t, u = Value.int i t from rx); cases q; exact PySem.W.kia_one PySem.W.kitx_int I.kIn True.intro e (fun z => nomatch z) h
  | str y => obtain ⟨t, q⟩ := (show ∃ t, u = Value.str y t from rx); cases q; exact PySem.W.kia_one PySem.W.kitx_str I.kIn True.intro e (fun z => nomatch z) h
  | flt y => obtain ⟨t, q⟩ := (show ∃ t, u = Value.float y t from rx); cases q; exact PySem.W.kia_one PySem.W.kitx_float I.kIn True.intro e (fun z => nomatch z) h
  | @lst a xs ea =>
    cases (show u = Value.ref a from rx)
    obtain ⟨_, _, n, _, h1⟩ := (show ObjOk X.prog X.w H s.heap a (.lst xs) from I.hok a _ ea)
    exact PySem.W.kia_one PySem.W.kitx_list I.kIn ⟨_, h1, rfl⟩ e (fun z => nomatch z) h
  | @frz a ob xs ea =>
    cases (show u = Value.ref a from rx)
    obtain ⟨_, _, _, n, _, h1⟩ := (show ObjOk X.prog X.w H s.heap a (.frz ob (.lst xs)) from I.hok a _ ea)
    exact PySem.W.kia_one PySem.W.kitx_list I.kIn ⟨_, h1, rfl⟩ e (fun z => nomatch z) h
  | @tup a xs ea =>
    cases (show u = Value.ref a from rx)
    obtain ⟨_, _, _, p⟩ := (show ObjOk X.prog X.w H s.heap a (.tup xs) from I.hok a _ ea)
    obtain ⟨o, h1, h2, _⟩ := p
    exact PySem.W.kia_one PySem.W.kitx_tuple I.kIn ⟨o, h1, h2⟩ e (fun z => nomatch z) h
  | @dK a kvs ea =>
    cases (show u = Value.ref a from rx)
    obtain ⟨_, _, vs, _, p⟩ := (show ObjOk X.prog X.w H s.heap a (.dK kvs) from I.hok a _ ea)
    obtain ⟨o, es, ep, h1, h2, _⟩ := p
    exact PySem.W.kia_one PySem.W.kitx_dict I.kIn ⟨o, h1, h2.1⟩ e (fun z => nomatch z) h
  | @dT a kvs ea =>
    cases (show u = Value.ref a from rx)
    obtain ⟨_, _, xs, _, o, es, ep, h1, h2, _⟩ := (show ObjOk X.prog X.w H s.heap a (.dT kvs) from I.hok a _ ea)
    exact PySem.W.kia_one PySem.W.kitx_dict I.kIn ⟨o, h1, h2.1⟩ e (fun z => nomatch z) h
  | @ins a C dx fs ea cl ha hn htk hm =>
    cases (show u = Value.ref a from rx)
    obtain ⟨mA, O, _⟩ := ins_get I.hok ea
    obtain ⟨od, J, _⟩ := O.look
    exact PySem.W.kia_one (PySem.W.kitx_own (cl.get _) cl.hd ha hn htk hm) I.kIn J e (fun z => nomatch z) h
end
end L2

namespace L2
open PySem PySem.Spec PyProof.Rows

/-! ### room -/
structure Room (k : Nat) (A : Around) : Prop where
  hd : A.handled = none
  dp : A.depth + 3 * k + 5 < recursionLimit
  un : A.units + 16 * k + 200 < cLine
theorem Room.mono {j k : Nat} {A : Around} (r : Room k A) (h : j ≤ k) : Room j A := ⟨r.hd, by have := r.dp; omega, by have := r.un; omega⟩
theorem Room.deeper {k : Nat} {A : Around} (r : Room (k + 1) A) (env : Env) : Room k (A.deeper env) :=
  ⟨r.hd, by have := r.dp; show A.depth + 1 + 3 * k + 5 < _; omega, by have := r.un; show A.units + 3 + 16 * k + 200 < _; omega⟩
theorem Room.in1 {k : Nat} {A : Around} (r : Room (k + 1) A) : Room k A.in1 :=
  ⟨r.hd, by have := r.dp; show A.depth + 3 * k + 5 < _; omega, by have := r.un; show A.units + 1 + 16 * k + 200 < _; omega⟩
theorem make_depth {A : Around} {C : Addr} {us : List Value} {kw : List (Str × Value)} : (A.under (.builtin "type.__call__" ⟨.ref C :: us, kw⟩)).depth = A.depth + 1 := by
  first | rfl | simp [Around.under, Code.weight, Code.isCreation, Code.isGuard, Code.isCaller, Code.frames, Code.isFrame, guardIds]
theorem make_units {A : Around} {C : Addr} {us : List Value} {kw : List (Str × Value)} : (A.under (.builtin "type.__call__" ⟨.ref C :: us, kw⟩)).units = A.units + 1 := by
  first | rfl | simp [Around.under, Code.cUnits, Code.frames, Code.isFrame]
theorem Room.make {k : Nat} {A : Around} (r : Room (k + 1) A) (C : Addr) (us : List Value) (kw : List (Str × Value)) : Room k (A.under (.builtin "type.__call__" ⟨.ref C :: us, kw⟩)) :=
  ⟨r.hd, by have := r.dp; rw [make_depth]; omega, by have := r.un; rw [make_units]; omega⟩
theorem Room.depth {k : Nat} {A : Around} (r : Room k A) : A.depth < recursionLimit := by have := r.dp; omega
theorem Room.units {k : Nat} {A : Around} (r : Room k A) : A.units + 64 < cLine := by have := r.un; omega
/-! ### argument lists and displays -/
def tNil : TA := fun _ H Q => Q [] H
def tCons (ta : TE) (tr : TA) : TA := fun σ H Q => ta σ H fun x H1 => tr σ H1 fun xs H2 => Q (x :: xs) H2
section
variable {X : Cx} {e : Expr} {es : List Expr} {te : TE} {t : TA} {pos : Pos}
theorem pa_nil : PA X [] tNil := fun _ _ _ _ H Q I h => Calls.spliced_nil ⟨[], H, I, .nil, h⟩
theorem pa_cons (ha : PE X e te) (hr : PA X es t) (hs : starEach (e :: es) X.env = (false, eval e X.env) :: starEach es X.env := by rfl) : PA X (e :: es) (tCons te t) := by
  intro pos pins s σ H Q I h
  rw [hs]
  show wpAny _ _ (spliced ((false, eval e X.env) :: backTo pos (starEach es X.env))) _ _ s
  refine Calls.spliced_cons (thn (ha pins s σ H _ I h) fun u s1 ⟨x, H1, I1, r1, q1⟩ => ?_)
  exact thn (hr pos pins s1 σ H1 _ I1 q1) fun us s2 ⟨xs, H2, I2, r2, q2⟩ => ⟨x :: xs, H2, I2, .cons r1 r2, q2⟩

/-- a tuple, a list of written items -/
def tTup (t : TA) : TE := fun σ H Q => t σ H fun xs H1 => xs.length ≤ sizeLine ∧ ∀ p, H1 p = none → Q (.ref p) (upd H1 p (.tup xs))
def tLst (t : TA) : TE := fun σ H Q => t σ H fun xs H1 => xs.length ≤ sizeLine ∧ ∀ p, H1 p = none → Q (.ref p) (upd H1 p (.lst xs))
theorem pe_tup {x1} (h : PA X es t) : PE X (.Tuple es x1 pos) (tTup t) := by
  intro pins s σ H Q I hq
  refine wpAny_Tuple_spliced (thn (h pos pins s σ H _ I hq) fun us s1 ⟨xs, H1, I1, r, z, q⟩ => ⟨by rw [← r.length]; exact z, ?_⟩)
  have hf : H1 s1.heap.objs.size = none := I1.hok.fresh (Nat.le_refl _)
  refine ⟨.ref s1.heap.objs.size, upd H1 s1.heap.objs.size (.tup xs), I1.laid (t' := s1.toks) (fun b u e => Heap.get?_push_of_some _ e) (Nat.le_refl _) ?_, rfl, q _ hf⟩
  exact ⟨z, us, r, ⟨_, Heap.get?_push_size _ rfl, rfl, _, rfl⟩⟩
theorem pe_lst (h : PA X es t) : PE X (.List es pos) (tLst t) := by
  intro pins s σ H Q I hq
  refine wpAny_List_spliced (thn (h pos pins s σ H _ I hq) fun us s1 ⟨xs, H1, I1, r, z, q⟩ => ⟨by rw [← r.length]; exact z, ?_⟩)
  have hf : H1 s1.heap.objs.size = none := I1.hok.fresh (Nat.le_refl _)
  refine ⟨.ref s1.heap.objs.size, upd H1 s1.heap.objs.size (.lst xs), I1.laid (t' := s1.toks) (fun b u e => Heap.get?_push_of_some _ e) (Nat.le_refl _) ?_, rfl, q _ hf⟩
  exact ⟨z, us, 0, r, Heap.get?_push_size _ rfl⟩
end

/-! ### what a def promises -/
/-- a def's promise: the bound arguments in the parameters' order, the heap, the wanted end, the wanted exception -/
abbrev Sp := List V → Hp → VK → XK → Prop
/-- how an exception lies behind a call (file 08 gives it): the callers' frames, abstract heap and state ahead of the call, the wish, the exception, the state -/
abbrev CXT := List Env → Hp → Shared → XK → Value → Shared → Prop

/-- the state at a call -/
structure Env0 (P : Program) (w : World) (K : PySem.W.Frag) (mg : Str → Option Value) (base : Heap) (A : Around) (outer : List Env) (s : Shared) (H : Hp) : Prop where
  frames : A.frames = some outer
  mod : Mod K mg base
  bs : ∀ b o, base.get? b = some o → s.heap.get? b = some o ∧ H b = none
  bsz : base.objs.size ≤ s.heap.objs.size
  funs : s.heap.FunFrames base outer
  frf : ∀ b ∈ frs outer, H b = none
  hok : HOk P w H s.heap
  bare : AllBare s.gens
/-- a call's end -/
def CE (outer : List Env) (P : Program) (w : World) (H : Hp) (s : Shared) (Q : VK) (u : Value) (s' : Shared) : Prop :=
  ∃ v H', s'.os = s.os ∧ AllBare s'.gens ∧ Un (frs outer) [] H H' s.heap s'.heap ∧ HOk P w H' s'.heap ∧ RelV v u ∧ Q v H'
def CR (CX : CXT) (outer : List Env) (P : Program) (w : World) (H : Hp) (s : Shared) (Q : VK) (E : XK) (r : Result) (s' : Shared) : Prop :=
  match r with
  | .ok (.ret u) => CE outer P w H s Q u s'
  | .ok _ => False
  | .error e => CX outer H s E e s'
structure FnOk (P : Program) (w : World) (K : PySem.W.Frag) (mg : Str → Option Value) (base : Heap) (CX : CXT) (k : Nat) (f : Addr) (fd : FuncData) (ps : List Str) (sp : Sp) : Prop where
  len : ∀ vs H Q E, sp vs H Q E → vs.length = ps.length
  run : ∀ (A : Around) (outer : List Env) (s : Shared) (H : Hp) (args : Args) (us : List Value) (vs : List V) (Q : VK) (E : XK), Room k A → Env0 P w K mg base A outer s H → BindsTo s fd args (ps.zip us) → Vals vs us → sp vs H Q E →
    codeAny (model P w) A (.call (.ref f) args) (CR CX outer P w H s Q E) s
theorem FnOk.mono {P : Program} {w : World} {K : PySem.W.Frag} {mg : Str → Option Value} {base : Heap} {CX : CXT} {j k : Nat} {f : Addr} {fd : FuncData} {ps : List Str} {sp : Sp} (F : FnOk P w K mg base CX j f fd ps sp) (h : j ≤ k) :
    FnOk P w K mg base CX k f fd ps sp := ⟨F.len, fun A outer s H args us vs Q E hr => F.run A outer s H args us vs Q E (hr.mono h)⟩
/-- a weaker promise -/
theorem FnOk.imp {P : Program} {w : World} {K : PySem.W.Frag} {mg : Str → Option Value} {base : Heap} {CX : CXT} {k : Nat} {f : Addr} {fd : FuncData} {ps : List Str} {sp sp' : Sp} (F : FnOk P w K mg base CX k f fd ps sp)
    (h : ∀ vs H Q E, sp' vs H Q E → sp vs H Q E) : FnOk P w K mg base CX k f fd ps sp' :=
  ⟨fun vs H Q E q => F.len vs H Q E (h _ _ _ _ q), fun A outer s H args us vs Q E hr he hb hv hs => F.run A outer s H args us vs Q E hr he hb hv (h _ _ _ _ hs)⟩

theorem Env0.make {P : Program} {w : World} {K : PySem.W.Frag} {mg : Str → Option Value} {base : Heap} {A : Around} {outer : List Env} {s : Shared} {H : Hp} (e : Env0 P w K mg base A outer s H) (C : Addr) (us : List Value) (kw : List (Str × Value)) :
    Env0 P w K mg base (A.under (.builtin "type.__call__" ⟨.ref C :: us, kw⟩)) outer s H := ⟨by first | exact e.frames | (simpa [Around.under, Code.envs, Code.isFrame, pushEnvs] using e.frames), e.mod, e.bs, e.bsz, e.funs, e.frf, e.hok, e.bare⟩
theorem Env0.in1 {P : Program} {w : World} {K : PySem.W.Frag} {mg : Str → Option Value} {base : Heap} {A : Around} {outer : List Env} {s : Shared} {H : Hp} (e : Env0 P w K mg base A outer s H) :
    Env0 P w K mg base A.in1 outer s H := ⟨e.frames, e.mod, e.bs, e.bsz, e.funs, e.frf, e.hok, e.bare⟩

section
variable {X : Cx} {pins : List (Addr × Obj)} {σ : St} {H : Hp} {s s' : Shared}
/-- from a body: what a callee wants -/
theorem Inv.env0 (I : Inv X pins σ H s) : Env0 X.prog X.w X.K X.mg X.base X.A X.stack s H :=
  ⟨I.ok.frames, I.ok.mod, I.bs, Nat.le_trans I.ok.bsz I.sz, I.stack, I.stkFree, I.hok, I.bare⟩
/-- behind a call -/
theorem Inv.after {Q : VK} {u : Value} (I : Inv X pins σ H s) (h : CE X.stack X.prog X.w H s Q u s') : EP X pins σ Q u s' := by
  obtain ⟨v, H', os, bare, un, hok, r, q⟩ := h
  obtain ⟨hh, g, d, t, os'⟩ := s'
  obtain rfl : os' = s.os := os
  exact ⟨v, H', I.call (h' := hh) (g' := g) (d' := d) (t' := t) (ch := []) un hok bare (fun b z => absurd z (by simp)), r, q⟩
end

/-! ### calls -/
/-- f(..): the written arguments, then the defaults dvs; E: what is wanted of an exception -/
def tCall (sp : Sp) (dvs : List V) (E : XK) (t : TA) : TE := fun σ H Q => t σ H fun vs H1 => sp (vs ++ dvs) H1 Q E
/-- o.m(..) of an instance of the class at C -/
def tMeth (C : Addr) (m : Str) (sp : Sp) (dvs : List V) (E : XK) (ta : TE) (t : TA) : TE := fun σ H Q => ta σ H fun x H1 => ∃ a dx fs, x = .ref a ∧ H1 a = some (.ins C dx fs) ∧ fs.lookup m = none ∧
  t σ H1 fun vs H2 => sp (x :: (vs ++ dvs)) H2 Q E
/-- C(..): a new instance and its dict, then __init__ -/
def tMake (C : Addr) (sp : Sp) (dvs : List V) (E : XK) (t : TA) : TE := fun σ H Q => t σ H fun vs H1 => ∀ x dx, H1 x = none → H1 dx = none → dx ≠ x →
  sp (.ref x :: (vs ++ dvs)) (upd (upd H1 dx (.own x)) x (.ins C dx [])) (fun v H2 => v = .non ∧ Q (.ref x) H2) E

/-- how the parameters are bound: us the positional arguments, kw the keywords' values by name, ds the defaults that fill up -/
def Binds (K : PySem.W.Frag) (fd : FuncData) (ps : List Str) (ds : List Value) : Prop :=
  ∀ (s : Shared) (us : List Value), K.In s.heap → (us ++ ds).length = ps.length → BindsTo s fd ⟨us, []⟩ (ps.zip (us ++ ds))
/-- every parameter is given -/
theorem Binds.all {K : PySem.W.Frag} {fd : FuncData} {ps : List Str} (h : ∀ us : List Value, us.length = ps.length → bindArgs fd ⟨us, []⟩ = pure (ps.zip us)) : Binds K fd ps [] := fun s us _ hl => by
  rw [List.append_nil] at hl ⊢
  exact .of_eq (h us hl)

/-- an exception of a callee reaches what this body wants of exceptions -/
def Passes (CX : CXT) (X : Cx) (E : XK) : Prop := ∀ (pins : List (Addr × Obj)) (σ : St) (H : Hp) (s : Shared) (e : Value) (s' : Shared), Inv X pins σ H s → CX X.stack H s E e s' → X.xe e s'

section
variable {X : Cx} {CX : CXT} {k : Nat} {f C : Addr} {fd : FuncData} {ps : List Str} {sp : Sp} {dvs : List V} {ds : List Value} {E : XK} {x m : Str} {p pos apos : Pos} {e o : Expr} {es : List Expr} {ta : TE} {t : TA}

/-- the callee runs -/
theorem run_fn {pins : List (Addr × Obj)} {σ : St} {H : Hp} {s : Shared} {Q : VK} {us : List Value} {vs : List V} (F : FnOk X.prog X.w X.K X.mg X.base CX k f fd ps sp) (hr : Room k X.A) (hb : Binds X.K fd ps ds) (hd : Vals dvs ds) (hx : Passes CX X E)
    (I : Inv X pins σ H s) (r : Vals vs us) (h : sp (vs ++ dvs) H Q E) : wpAny (model X.prog X.w) X.A (call (.ref f) us) (EP X pins σ Q) X.xe s := by
  have r2 : Vals (vs ++ dvs) (us ++ ds) := r.append hd
  have hl : (us ++ ds).length = ps.length := by rw [← r2.length]; exact F.len _ _ _ _ h
  refine wpAny_call (codeAny_mono (F.run X.A X.stack s H ⟨us, []⟩ (us ++ ds) (vs ++ dvs) Q E hr I.env0 (hb s us I.kIn hl) r2 h) fun r s' hq => ?_)
  cases r with
  | error e => exact hx pins σ H s e s' I hq
  | ok fl =>
    cases fl with
    | ret u => exact I.after hq
    | next => exact False.elim hq
    | brk => exact False.elim hq
    | cont => exact False.elim hq

theorem pe_call (F : FnOk X.prog X.w X.K X.mg X.base CX k f fd ps sp) (hr : Room k X.A) (hg : Gl X x) (hm : X.mg x = some (.ref f)) (hk : PySem.W.keepIn X.K (.ref f) = true) (hb : Binds X.K fd ps ds) (hd : Vals dvs ds) (hx : Passes CX X E)
    (ha : PA X (e :: es) t) (hdb : (x == ("__debug__" : Str)) = false := by decide) (he : starEach (e :: es) X.env = (false, eval e X.env) :: starEach es X.env := by rfl) (hpl : (backTo pos (starEach es X.env)).any (·.1) = false := by rfl) :
    PE X (.Call (.Name x p) (e :: es) [] pos) (tCall sp dvs E t) := by
  intro pins s σ H Q I h
  refine wpAny_Call_Name_kw (ld_glob I hg hm ?_ hdb)
  refine PySem.W.callWith_K (h₀ := X.base) I.ok.mod.kin hk (thn (ha pos pins s σ H _ I h) fun us s1 ⟨vs, H1, I1, r, q⟩ => ⟨I1.kIn, ?_⟩) he hpl
  exact run_fn F hr hb hd hx I1 r q
/-- what a class must have to be made -/
structure Mk (K : PySem.W.Frag) (C f : Addr) : Prop where
  makes : PySem.W.makesIn K C = true
  init : PySem.W.findIn K (.ref C) "__init__" = some (some (.ref f))
  fn : PySem.W.isFn K (.ref f) = true
  kp : PySem.W.keepIn K (.ref C) = true

end

/-! ### keywords -/
/-- the values of the keywords, from the left -/
def PK (X : Cx) (kws : List Keyword) (t : TA) : Prop :=
  ∀ (pos : Pos) (pins : List (Addr × Obj)) (s : Shared) (σ : St) (H : Hp) (Q : List V → Hp → Prop), Inv X pins σ H s → t σ H Q → wpAny (model X.prog X.w) X.A (evalAll ((backToKw pos (keywordEach kws X.env)).map (·.2))) (AP X pins σ Q) X.xe s
section
variable {X : Cx} {CX : CXT} {k : Nat} {f C : Addr} {fd : FuncData} {ps ks : List Str} {sp : Sp} {E : XK} {x m : Str} {p pos apos kpos : Pos} {e o : Expr} {es : List Expr} {kws : List Keyword} {te ta : TE} {t tk : TA} {nm : Option Str}
theorem pk_nil : PK X [] tNil := fun _ _ _ _ H Q I h => wpAny_evalAll_nil ⟨[], H, I, .nil, h⟩
theorem pk_cons (ha : PE X e te) (hr : PK X kws t) : PK X (⟨nm, e, kpos⟩ :: kws) (tCons te t) := by
  intro pos pins s σ H Q I h
  show wpAny _ _ (evalAll ((do let v ← eval e X.env; standAt pos; pure v) :: (backToKw pos (keywordEach kws X.env)).map (·.2))) _ _ s
  refine wpAny_evalAll_cons (wpAny_bind (thn (ha pins s σ H _ I h) fun u s1 ⟨x, H1, I1, r1, q1⟩ => wpAny_bind (wpAny_standAt (wpAny_pure ?_))))
  exact thn (hr pos pins s1 σ H1 _ I1 q1) fun us s2 ⟨xs, H2, I2, r2, q2⟩ => ⟨x :: xs, H2, I2, .cons r1 r2, q2⟩

/-- how a call with keywords binds: g puts the positional values us and the keywords' values ws (names ks) in the parameters' order, defaults among them -/
structure KBinds (K : PySem.W.Frag) (fd : FuncData) (ps ks : List Str) (g : List Value → List Value → List Value) (gV : List V → List V → List V) : Prop where
  to : ∀ (s : Shared) (us ws : List Value), K.In s.heap → (g us ws).length = ps.length → BindsTo s fd ⟨us, ks.zip ws⟩ (ps.zip (g us ws))
  rel : ∀ {vs : List V} {us : List Value} {zs : List V} {ws : List Value}, Vals vs us → Vals zs ws → Vals (gV vs zs) (g us ws)
def tCallK (sp : Sp) (gV : List V → List V → List V) (E : XK) (t tk : TA) : TE := fun σ H Q => t σ H fun vs H1 => tk σ H1 fun zs H2 => sp (gV vs zs) H2 Q E
variable {g : List Value → List Value → List Value} {gV : List V → List V → List V}
end

/-! ### a def's body keeps its promise -/
/-- names: the parameters first -/
structure FnScope (N P : List Str) (sc : Scope) : Prop where
  kind : sc.kind = .function
  co : sc.isCoroutine = false
  gen : sc.isGenerator = false
  nd : N.Nodup
  pre : N.take P.length = P
  par : ∀ x ∈ P, sc.names.lookup x = some .local ∨ sc.names.lookup x = some .cell
  nofree : ∀ y ∈ sc.names, y.2 ≠ .free

theorem bindL_out {kindOf : Str → Option NameKind} {x : Str} : ∀ {binds : List (Str × Value)} {m : Str → Option Value}, (∀ v, (x, v) ∉ binds) → bindL kindOf binds m x = m x
  | [], _, _ => rfl
  | (n, v) :: r, m, h => by
    unfold bindL
    rw [bindL_out fun w hw => h w (List.mem_cons_of_mem _ hw)]
    split
    · have : x ≠ n := by rintro rfl; exact h v List.mem_cons_self
      simp [this]
    · rfl
theorem bindC_out {kindOf : Str → Option NameKind} {x : Str} : ∀ {binds : List (Str × Value)} {m : Str → Option Value}, (∀ v, (x, v) ∉ binds) → bindC kindOf binds m x = m x
  | [], _, _ => rfl
  | (n, v) :: r, m, h => by
    unfold bindC
    rw [bindC_out fun w hw => h w (List.mem_cons_of_mem _ hw)]
    split
    · rfl
    · have : x ≠ n := by rintro rfl; exact h v List.mem_cons_self
      simp [this]
theorem bindL_get {kindOf : Str → Option NameKind} {x : Str} {v : Value} : ∀ {P : List Str} {vs : List Value} {i : Nat} {m : Str → Option Value}, P.Nodup → P[i]? = some x → vs[i]? = some v → kindOf x = some .local →
    bindL kindOf (P.zip vs) m x = some v
  | [], _, _, _, _, h, _, _ => by simp at h
  | _ :: _, [], _, _, _, _, h, _ => by simp at h
  | p :: P, w :: vs, 0, m, nd, h1, h2, hk => by
    simp at h1 h2; subst h1; subst h2
    show bindL kindOf ((p, w) :: P.zip vs) m p = _
    unfold bindL
    rw [bindL_out fun v hv => (List.nodup_cons.mp nd).1 (List.of_mem_zip hv).1, if_pos hk]
    simp
  | p :: P, w :: vs, i + 1, m, nd, h1, h2, hk => by
    show bindL kindOf ((p, w) :: P.zip vs) m x = _
    unfold bindL
    exact bindL_get (i := i) (List.nodup_cons.mp nd).2 (by simpa using h1) (by simpa using h2) hk
theorem bindC_get {kindOf : Str → Option NameKind} {x : Str} {v : Value} : ∀ {P : List Str} {vs : List Value} {i : Nat} {m : Str → Option Value}, P.Nodup → P[i]? = some x → vs[i]? = some v → kindOf x ≠ some .local →
    bindC kindOf (P.zip vs) m x = some v
  | [], _, _, _, _, h, _, _ => by simp at h
  | _ :: _, [], _, _, _, _, h, _ => by simp at h
  | p :: P, w :: vs, 0, m, nd, h1, h2, hk => by
    simp at h1 h2; subst h1; subst h2
    show bindC kindOf ((p, w) :: P.zip vs) m p = _
    unfold bindC
    rw [bindC_out fun v hv => (List.nodup_cons.mp nd).1 (List.of_mem_zip hv).1, if_neg hk]
    simp
  | p :: P, w :: vs, i + 1, m, nd, h1, h2, hk => by
    show bindC kindOf ((p, w) :: P.zip vs) m x = _
    unfold bindC
    exact bindC_get (i := i) (List.nodup_cons.mp nd).2 (by simpa using h1) (by simpa using h2) hk

/-- the names' values at the entry -/
def start (N : List Str) (vs : List V) : St := vs.map some ++ List.replicate (N.length - vs.length) none

/-- the context of a def's body, at its entry; an exception leaves the frame, then lies as CX says -/
def cxOf (CX : CXT) (P : Program) (w : World) (K : PySem.W.Frag) (mg : Str → Option Value) (base : Heap) (N : List Str) (qual : Str) (scope : Scope) (f : Addr) (cd : Value) (A : Around) (outer : List Env) (s : Shared) (H : Hp) (E : XK) : Cx where
  prog := P
  w := w
  K := K
  mg := mg
  base := base
  A := A.deeper (envOfC qual scope s.heap.objs.size f cd)
  N := N
  s₀ := s
  H₀ := H
  env := envOfC qual scope s.heap.objs.size f cd
  outer := outer
  stack := envOfC qual scope s.heap.objs.size f cd :: outer
  ex := []
  calm := true
  fn := fun _ => true
  pn := []
  xe := fun e s' => wpAny (model P w) (A.deeper (envOfC qual scope s.heap.objs.size f cd)) (leaving (envOfC qual scope s.heap.objs.size f cd) e) (fun _ s'' => CX outer H s E e s'') (fun e' s'' => CX outer H s E e' s'') s'

theorem cell_has {sc : Scope} {n : Nat} {x : Str} (h : sc.names.lookup x = some .cell) : ∃ c, (cellsFrom n sc.names []).lookup x = some c := by
  have q := PySem.W.cellsFrom_some sc.names n [] (.inl h)
  exact Option.isSome_iff_exists.mp q

theorem inv_start {CX : CXT} {P : Program} {w : World} {K : PySem.W.Frag} {mg : Str → Option Value} {base : Heap} {N ps : List Str} {qual : Str} {scope : Scope} {f : Addr} {cd : Value} {A : Around} {outer : List Env} {s s1 : Shared} {H : Hp} {E : XK} {us : List Value} {vs : List V}
    (S : FnScope N ps scope) (hd : A.handled = none) (e0 : Env0 P w K mg base A outer s H) (hl : vs.length = ps.length) (r : Vals vs us)
    (x : InCallC s s.heap.objs.size (bindL (envOfC qual scope s.heap.objs.size f cd).kindOf (ps.zip us) fun _ => none) (cellsFrom (s.heap.objs.size + 1) scope.names []) (bindC (envOfC qual scope s.heap.objs.size f cd).kindOf (ps.zip us) fun _ => none) s1) :
    Inv (cxOf CX P w K mg base N qual scope f cd A outer s H E) [] (start N vs) H s1 := by
  have hpl : ps.length ≤ N.length := by have := congrArg List.length S.pre; rw [List.length_take] at this; omega
  obtain ⟨h1, tk, rfl, hk⟩ := x.done
  have noA : ∀ b : Addr, b ∉ (cxOf CX P w K mg base N qual scope f cd A outer s H E).ex := fun b z => absurd (show b ∈ ([] : List Addr) from z) (by simp)
  refine ⟨⟨e0.mod, S.kind, rfl, rfl, Nat.le_refl _, fun y z c h1 h2 => ?_, fun y hy => ?_, fun y c _ h => ?_, fun _ => hd, Around.frames_deeper e0.frames, .inr ⟨rfl, rfl⟩, fun b z => absurd z (noA b), e0.bs, e0.bsz, fun b _ _ => noA b, fun b z => absurd z (noA b), e0.funs, e0.frf⟩,
    rfl, e0.bare, Un.kept hk, ⟨_, x.toInCall.ns, fun i y v h1 h2 h3 => ?_⟩, fun y c h => ⟨_, x.cell y c h⟩, e0.hok.fresh (Nat.le_refl _), fun y c h => ?_, fun p hp => absurd (show p ∈ ([] : List (Addr × Obj)) from hp) (by simp), e0.hok.kept hk, ?_⟩
  · exact name_of_addr x.apart (PySem.mem_of_lookup h1) (PySem.mem_of_lookup h2)
  · have hy : scope.names.lookup y = some .cell ∨ scope.names.lookup y = some .free := hy
    rcases hy with hy | hy
    · exact cell_has hy
    · exact absurd rfl (S.nofree _ (PySem.mem_of_lookup hy))
  · exact Nat.le_of_lt (x.above y c (PySem.mem_of_lookup h))
  · have hi : i < vs.length := by
      unfold start at h2
      by_cases hi : i < vs.length
      · exact hi
      · rw [List.getElem?_append_right (by simpa using hi)] at h2
        rw [List.getElem?_replicate] at h2
        split at h2 <;> cases h2
    have ha : vs[i]? = some v := by
      unfold start at h2
      rw [List.getElem?_append_left (by simpa using hi), List.getElem?_map] at h2
      cases e : vs[i]? with
      | none => rw [e] at h2; cases h2
      | some a => rw [e] at h2; cases h2; rfl
    obtain ⟨u, hu, rv⟩ := r.get ha
    have hp : ps[i]? = some y := by
      rw [← S.pre, List.getElem?_take_of_lt (by omega)]; exact h1
    have ndP : ps.Nodup := by rw [← S.pre]; exact S.nd.sublist (List.take_sublist _ _)
    refine ⟨u, rv, ?_⟩
    rcases S.par y (List.mem_of_getElem? hp) with k | k
    · exact .inl ⟨k, bindL_get ndP hp hu k⟩
    · obtain ⟨c, e⟩ := cell_has (n := s.heap.objs.size + 1) k
      refine .inr ⟨.inl k, c, e, ?_⟩
      have q := x.cell y c e
      rw [bindC_get ndP hp hu (by show scope.names.lookup y ≠ _; rw [k]; decide)] at q
      exact q
  · exact e0.hok.fresh (Nat.le_of_lt (x.above y c (PySem.mem_of_lookup h)))
  · unfold start
    show _ = N.length
    rw [List.length_append, List.length_map, List.length_replicate]
    omega

/-- THE RULE: a def (or a method) of the text, by its body. The body's reading t is chosen for each entry; it is run at the parameters' values -/
theorem fn_of {CX : CXT} {P : Program} {w : World} {K : PySem.W.Frag} {mg : Str → Option Value} {base : Heap} {k : Nat} {f : Addr} {name qual : Str} {params : Arguments} {body : List Stmt} {scope : Scope} {dV kV doc pm cdv ct oc : Value} {an od : Option Addr}
    {osl : Array (Option Value)} {N ps : List Str} {sp : Sp} (lk : K.lookup f = some ⟨oc, od, .func (PySem.W.fnOf name qual params body scope dV kV doc pm an cdv ct), osl⟩) (hcd : PySem.W.codeIn K cdv qual = true) (S : FnScope N ps scope)
    (len : ∀ vs H Q E, sp vs H Q E → vs.length = ps.length)
    (hbody : ∀ (A : Around) (outer : List Env) (s : Shared) (H : Hp) (vs : List V) (Q : VK) (E : XK), Room k (A.deeper (envOfC qual scope s.heap.objs.size f cdv)) → sp vs H Q E →
      ∃ t, PSs (cxOf CX P w K mg base N qual scope f cdv A outer s H E) body t ∧ t { nx := fun _ H' => Q .non H', rt := Q } (start N vs) H) :
    FnOk P w K mg base CX (k + 1) f (PySem.W.fnOf name qual params body scope dV kV doc pm an cdv ct) ps sp := by
  refine ⟨len, fun A outer s H args us vs Q E hr e0 hb r hsp => ?_⟩
  have hl := len _ _ _ _ hsp
  have KX : K.In s.heap := e0.mod.kin.keeps fun b o e => (e0.bs b o e).1
  have lim : s.heap.NoLimit := e0.mod.nolimit.keeps fun b o e => (e0.bs b o e).1
  have hkind : ∀ y ∈ ps.zip us, scope.names.lookup y.1 = some .local ∨ (scope.names.lookup y.1 = some .cell ∧ ((cellsFrom (s.heap.objs.size + 1) scope.names []).lookup y.1).isSome = true) := fun ⟨n, v⟩ hy => by
    rcases S.par n (List.of_mem_zip hy).1 with q | q
    · exact .inl q
    · exact .inr ⟨q, PySem.W.cellsFrom_some _ _ _ (.inl q)⟩
  refine codeAny_call_function hr.depth (KX _ _ lk) rfl S.co S.gen rfl (PySem.W.codeRec_of KX hcd) (hb _ _ _ _ ?_)
  refine wpAny_newFunctionEnv_cells S.kind hkind fun env he s1 x => ?_
  subst he
  refine ⟨lim.keeps x.toInCall.keep, codeAny_func ?_⟩
  obtain ⟨t, ht, hq⟩ := hbody A outer s H vs Q E (hr.deeper _) hsp
  have I : Inv (cxOf CX P w K mg base N qual scope f cdv A outer s H E) [] (start N vs) H s1 := inv_start S hr.hd e0 hl r x
  refine wpAny_mono (ht [] s1 (start N vs) H _ I hq) (fun fl s' hs => ?_) fun e s' hs => hs
  have fin : ∀ {σ' : St} {H' : Hp} {v : V} {u : Value}, Inv (cxOf CX P w K mg base N qual scope f cdv A outer s H E) [] σ' H' s' → RelV v u → Q v H' → CE outer P w H s Q u s' :=
    fun {σ' H' v u} J rv q => ⟨v, H', J.os, J.bare, J.base, J.hok, rv, q⟩
  cases fl with
  | ret u =>
    obtain ⟨v, σ', H', J, rv, q⟩ := hs
    exact fin J rv q
  | next =>
    obtain ⟨σ', H', J, q⟩ := hs
    exact fin (v := V.non) (u := Value.none) J rfl q
  | brk =>
    obtain ⟨_, _, _, q⟩ := hs
    exact False.elim q
  | cont =>
    obtain ⟨_, _, _, q⟩ := hs
    exact False.elim q
end L2

namespace L2
open PySem PySem.Spec PyProof.Rows
section
variable {X : Cx} {x : Str} {p pos : Pos} {e : Expr} {es : List Expr} {t : TA} {id T : String} {r : List V → Hp → VK → Prop}

def tCB (r : List V → Hp → VK → Prop) (t : TA) : TE := fun σ H Q => t σ H fun vs H1 => r vs H1 Q
/-- f(e, ..), f a built-in function -/
theorem pe_callB (hc : CallR X (.builtin id) r) (hg : Gl X x) (hm : X.mg x = none) (hv : bootBuiltins x = some (.builtin id)) (ha : PA X (e :: es) t) (hn : x ≠ "__name__" := by decide) (hdb : (x == ("__debug__" : Str)) = false := by decide)
    (he : starEach (e :: es) X.env = (false, eval e X.env) :: starEach es X.env := by rfl) (hpl : (backTo pos (starEach es X.env)).any (·.1) = false := by rfl) : PE X (.Call (.Name x p) (e :: es) [] pos) (tCB r t) := by
  intro pins s σ H Q I h
  refine wpAny_Call_Name_kw (ld_blt I hg hm hv ?_ hn hdb)
  exact PyProof.Rows.callWith_builtin1 (thn (ha pos pins s σ H _ I h) fun us s1 ⟨vs, H1, I1, r1, q1⟩ => hc pins s1 σ H1 vs us Q I1 r1 q1) he hpl
/-- T(e, ..), T a built-in type -/
theorem pe_callTy (hc : CallR X (.type T) r) (hg : Gl X x) (hm : X.mg x = none) (hv : bootBuiltins x = some (.type T)) (ha : PA X (e :: es) t) (hn : x ≠ "__name__" := by decide) (hdb : (x == ("__debug__" : Str)) = false := by decide)
    (he : starEach (e :: es) X.env = (false, eval e X.env) :: starEach es X.env := by rfl) (hpl : (backTo pos (starEach es X.env)).any (·.1) = false := by rfl) : PE X (.Call (.Name x p) (e :: es) [] pos) (tCB r t) := by
  intro pins s σ H Q I h
  refine wpAny_Call_Name_kw (ld_blt I hg hm hv ?_ hn hdb)
  exact PyProof.Rows.callWith_type1 (thn (ha pos pins s σ H _ I h) fun us s1 ⟨vs, H1, I1, r1, q1⟩ => hc pins s1 σ H1 vs us Q I1 r1 q1) he hpl
end
end L2

namespace HT
open PySem PyProof.Rows

/-- t < u of tuples of ints -/
def lexLt : List Int → List Int → Bool
  | [], [] => false
  | [], _ :: _ => true
  | _ :: _, [] => false
  | x :: xs, y :: ys => if x = y then lexLt xs ys else decide (x < y)
section
open PySem.SeqAt
open PySem.AutoSeq1 (wpAny_loadPart')
open PySem.MeetsSeq PySem.MeetsSeq2 PySem.MeetsSeq3

end

section
variable {prog : Program} {w : World} {A : Around} {E : Value → Shared → Prop} {s : Shared}

/-! ### t[a:b], not the whole -/
/-- a slice's bound as a place among n (d where it is left out) -/
def sIx (n d : Nat) : Option Int → Nat
  | none => d
  | some v => if v < 0 then (v + (n : Int)).toNat else min v.toNat n
theorem sIx_none (n d : Nat) : sIx n d none = d := rfl
theorem sIx_nat (n d k : Nat) : sIx n d (some (k : Int)) = min k n := by
  show (if (k : Int) < 0 then ((k : Int) + (n : Int)).toNat else min (k : Int).toNat n) = min k n
  rw [if_neg (by omega), Int.toNat_natCast]
theorem sIx_le (n d : Nat) (hd : d ≤ n) (o : Option Int) : sIx n d o ≤ n := by
  cases o with
  | none => exact hd
  | some v =>
    show (if v < 0 then (v + (n : Int)).toNat else min v.toNat n) ≤ n
    by_cases hv : v < 0
    · rw [if_pos hv]; omega
    · rw [if_neg hv]; exact Nat.min_le_right _ _
theorem clip_eq (v : Int) (n d : Nat) : (if v < 0 then max (v + (n : Int)) 0 else min v (n : Int)) = ((sIx n d (some v) : Nat) : Int) := by
  show (if v < 0 then max (v + (n : Int)) 0 else min v (n : Int)) = (((if v < 0 then (v + (n : Int)).toNat else min v.toNat n) : Nat) : Int)
  by_cases hv : v < 0
  · simp only [if_pos hv]; omega
  · simp only [if_neg hv]; omega
theorem adjust_gen (lo hi : Option Int) (n : Nat) : Builtin.Slice.sliceAdjust lo hi 1 (n : Int) = (((sIx n 0 lo : Nat) : Int), ((sIx n n hi : Nat) : Int)) := by
  have h1 : ¬ ((1 : Int) < 0) := by omega
  unfold Builtin.Slice.sliceAdjust
  simp only [h1, if_false]
  refine Prod.ext ?_ ?_
  · cases lo with
    | none => rfl
    | some v => exact clip_eq v n 0
  · cases hi with
    | none => rfl
    | some v => exact clip_eq v n n
theorem places_gen (i j : Nat) : Builtin.Slice.slicePlaces (i : Int) (j : Int) 1 = j - i := by
  unfold Builtin.Slice.slicePlaces
  have h1 : (1 : Int) > 0 := by omega
  simp only [h1, if_true, Int.ediv_one]
  split <;> omega
theorem slicePart_ {v : Value} {o : Option Int} {Q : Option Int → Shared → Prop} (p : IsPart v o) (h : Q o s) : wpAny (model prog w) A (Builtin.Slice.slicePartIndex v) Q E s := by
  cases p with
  | none => exact slicePart_none h
  | int i t => exact slicePart_int h
theorem sliceApplied_gen {sl : Addr} {vl vu : Value} {lo hi : Option Int} {n : Nat} {Q : Int × Int × Nat → Shared → Prop} (hs : s.heap.IsSliceOf sl vl vu .none) (pl : IsPart vl lo) (pu : IsPart vu hi)
    (h : Q (((sIx n 0 lo : Nat) : Int), 1, sIx n n hi - sIx n 0 lo) s) : wpAny (model prog w) A (Builtin.Slice.sliceApplied (.ref sl) (pure (n : Int))) Q E s := by
  obtain ⟨os, hos, hcs, hds⟩ := id hs
  unfold Builtin.Slice.sliceApplied Builtin.Slice.sliceFields
  refine wpAny_bind (wpAny_bind (wpAny_field hos hds (x := vl) rfl (wpAny_bind (wpAny_field hos hds (x := vu) rfl (wpAny_bind (wpAny_field hos hds (x := .none) rfl (wpAny_pure ?_)))))))
  refine wpAny_bind (slicePart_none ?_)
  show wpAny _ _ (if ((1 : Int) == 0) = true then _ else _) _ _ s
  rw [if_neg (by decide)]
  refine wpAny_bind (slicePart_ pl (wpAny_bind (slicePart_ pu (wpAny_bind (wpAny_pure ?_)))))
  show wpAny _ _ (match Builtin.Slice.sliceAdjust lo hi 1 (n : Int) with | (lo, hi) => pure (lo, (1 : Int), Builtin.Slice.slicePlaces lo hi 1)) _ _ s
  rw [adjust_gen lo hi n]
  show wpAny _ _ (pure (((sIx n 0 lo : Nat) : Int), (1 : Int), Builtin.Slice.slicePlaces ((sIx n 0 lo : Nat) : Int) ((sIx n n hi : Nat) : Int) 1)) _ _ s
  rw [places_gen]
  exact wpAny_pure h
theorem pick_gen (xs : Array Value) (i k : Nat) : ((List.range k).filterMap fun (m : Nat) => xs[((i : Int) + (m : Int) * 1).toNat]?).toArray = ((xs.toList.drop i).take k).toArray := by
  have e : (fun (m : Nat) => xs[((i : Int) + (m : Int) * 1).toNat]?) = fun m => xs[i + m]? := by
    funext m
    have : ((i : Int) + (m : Int) * 1).toNat = i + m := by omega
    rw [this]
  rw [e]
  have := pick_run xs i k
  rw [List.filterMap_map] at this
  have e2 : ((fun x => xs[x]?) ∘ fun x => i + x) = fun m => xs[i + m]? := rfl
  rw [e2] at this
  rw [this]

theorem getItem_tuple_cut {t sl : Addr} {items : Array Value} {vl vu : Value} {lo hi : Option Int} {Q : Value → Shared → Prop} (ht : IsTup s.heap t items) (hs : s.heap.IsSliceOf sl vl vu .none) (pl : IsPart vl lo) (pu : IsPart vu hi)
    (hw : ¬ (sIx items.size 0 lo = 0 ∧ sIx items.size items.size hi = items.size))
    (h : Q (.ref s.heap.objs.size) { s with heap := s.heap.push { cls := .type "tuple", data := .seq ((items.toList.drop (sIx items.size 0 lo)).take (sIx items.size items.size hi - sIx items.size 0 lo)).toArray } })
    (hsz : items.size ≤ sizeLine) : wpAny (model prog w) A (getItem (.ref t) (.ref sl)) Q E s := by
  have htake : sizeOk (.seq ((items.toList.drop (sIx items.size 0 lo)).take (sIx items.size items.size hi - sIx items.size 0 lo)).toArray) := by
    show ((items.toList.drop (sIx items.size 0 lo)).take (sIx items.size items.size hi - sIx items.size 0 lo)).toArray.size ≤ sizeLine
    rw [List.size_toArray, List.length_take, List.length_drop, Array.length_toList]
    omega
  have hj : sIx items.size items.size hi ≤ items.size := sIx_le _ _ (Nat.le_refl _) hi
  obtain ⟨os, hos, hcs, hds⟩ := id hs
  have hTs : s.TypeIs (.ref sl) "slice" := ⟨os, hos, hcs⟩
  unfold getItem
  try with_reducible refine wpAny_holding ?_
  first | refine wpAny_bind (wpAny_pure ?_) | skip
  refine wpAny_bind (wpAny_sequenceKey ht.typeIs (by decide) ?_)
  refine wpAny_bind (wpAny_callSpecial?_slot (name := Str.ofString "__getitem__") ht.typeIs PyProof.Rows.slot_tuple_getitem
    (wpAny_call_entry PyProof.Rows.slot_tuple_getitem ht.typeIs entry_tuple_getitem ?_ (args_tuple_getitem _ _)))
  show wpAny _ _ (Builtin.Tuple.tupleItemsOf (.ref t) >>= _) _ _ s
  refine wpAny_bind (tupleItemsOf_ ht ?_)
  refine wpAny_bind (wpAny_typeOf hTs ?_)
  rw [if_pos (by decide)]
  refine wpAny_bind (sliceApplied_gen hs pl pu ?_)
  have hno : ¬ ((((sIx items.size 0 lo : Nat) : Int) == 0 && (1 : Int) == 1 && (sIx items.size items.size hi - sIx items.size 0 lo) == items.size) = true) := by
    intro q
    rw [Bool.and_eq_true, Bool.and_eq_true] at q
    have q1 : ((sIx items.size 0 lo : Nat) : Int) = 0 := eq_of_beq q.1.1
    have q2 : sIx items.size items.size hi - sIx items.size 0 lo = items.size := eq_of_beq q.2
    exact hw ⟨by omega, by omega⟩
  show wpAny _ _ (if (((sIx items.size 0 lo : Nat) : Int) == 0 && (1 : Int) == 1 && (sIx items.size items.size hi - sIx items.size 0 lo) == items.size) = true then _ else _) _ _ s
  rw [if_neg hno, pick_gen]
  first
    | exact wpAny_bind (m := Builtin.Tuple.tupleExact _) (wpAny_newObj_type (wpAny_pure ⟨_, rfl, wpAny_pure h⟩) htake)
    | exact wpAny_bind (m := Builtin.Tuple.tupleExact _) (wpAny_newObj_type (wpAny_bind (wpAny_pure (wpAny_pure ⟨_, rfl, wpAny_pure h⟩))) htake)
    | exact wpAny_bind (wpAny_bind (m := Builtin.Tuple.tupleExact _) (wpAny_newObj_type (wpAny_pure (wpAny_pure ⟨_, rfl, wpAny_pure h⟩)) htake))
    | exact wpAny_bind (wpAny_bind (m := Builtin.Tuple.tupleExact _) (wpAny_newObj_type (wpAny_pure ⟨_, rfl, wpAny_pure h⟩) htake))
end
end HT

namespace L2
open PySem PySem.Spec PyProof.Rows

/-! ### the parts of a slice -/
abbrev TO := St → Hp → (Option Int → Hp → Prop) → Prop
/-- a slice's part (left out, or an int) -/
def PO (X : Cx) (e : Option Expr) (t : TO) : Prop :=
  ∀ (pins : List (Addr × Obj)) (s : Shared) (σ : St) (H : Hp) (Q : Option Int → Hp → Prop), Inv X pins σ H s → t σ H Q →
    wpAny (model X.prog X.w) X.A (evalPart e X.env) (fun u s' => ∃ o H', Inv X pins σ H' s' ∧ IsPart u o ∧ Q o H') X.xe s
def tNoPart : TO := fun _ H Q => Q none H
def tPart (t : TE) : TO := fun σ H Q => t σ H fun x H1 => ∃ i, x = .int i ∧ Q (some i) H1

section
variable {X : Cx} {e : Expr} {te : TE} {lo hi : Option Expr} {tl th : TO} {pos p2 : Pos}

theorem po_none : PO X none tNoPart := by
  intro pins s σ H Q I h
  rw [evalPart_none]
  exact wpAny_pure ⟨none, H, I, .none, h⟩
theorem po_some (h : PE X e te) : PO X (some e) (tPart te) := by
  intro pins s σ H Q I hw
  rw [evalPart_some]
  refine thn (h pins s σ H _ I hw) fun u s1 ⟨x, H1, I1, r1, q1⟩ => ?_
  obtain ⟨i, rfl, q⟩ := q1
  obtain ⟨t, rfl⟩ := r1
  exact ⟨some i, H1, I1, .int i t, q⟩

/-- what a slice of a value is, by values: the slice object stands at sl -/
def SlR (X : Cx) (r : V → Option Int → Option Int → Hp → VK → Prop) : Prop :=
  ∀ (pins : List (Addr × Obj)) (s : Shared) (σ : St) (H : Hp) (x : V) (v vl vu : Value) (lo hi : Option Int) (sl : Addr) (Q : VK), Inv X pins σ H s → RelV x v → s.heap.IsSliceOf sl vl vu .none → IsPart vl lo → IsPart vu hi → r x lo hi H Q →
    ∃ T id, typeLookup (.type T) "__getitem__" = pure (some (.builtin id)) ∧ s.TypeIs v T ∧ wpAny (model X.prog X.w) X.A (getItem v (.ref sl)) (EP X pins σ Q) X.xe s
theorem SlR.or {r r' : V → Option Int → Option Int → Hp → VK → Prop} (h : SlR X r) (h' : SlR X r') : SlR X (fun x lo hi H Q => r x lo hi H Q ∨ r' x lo hi H Q) := by
  intro pins s σ H x v vl vu lo hi sl Q I rx hs pl pu q
  rcases q with q | q
  · exact h pins s σ H x v vl vu lo hi sl Q I rx hs pl pu q
  · exact h' pins s σ H x v vl vu lo hi sl Q I rx hs pl pu q
def tSl (r : V → Option Int → Option Int → Hp → VK → Prop) (te : TE) (tl th : TO) : TE := fun σ H Q => te σ H fun x H1 => tl σ H1 fun l H2 => th σ H2 fun u H3 => r x l u H3 Q
/-- a[lo:hi], any a -/
theorem pe_slice {r : V → Option Int → Option Int → Hp → VK → Prop} (hr : SlR X r) (he : PE X e te) (hl : PO X lo tl) (hu : PO X hi th) : PE X (.Subscript e (.Slice lo hi none p2) pos) (tSl r te tl th) := by
  intro pins s σ H Q I h
  refine Subscript_ (thn (he pins s σ H _ I h) fun v s1 ⟨x, H1, I1, r1, q1⟩ => ?_)
  refine wpAny_Slice (thn (hl pins s1 σ H1 _ I1 q1) fun vl s2 ⟨l, H2, I2, pl, q2⟩ => thn (hu pins s2 σ H2 _ I2 q2) fun vu s3 ⟨u, H3, I3, pu, q3⟩ => ?_)
  rw [evalPart_none]
  refine wpAny_pure ?_
  have I4 : Inv X pins σ H3 { s3 with heap := s3.heap.push { cls := .type "slice", data := .fields #[vl, vu, .none] } } := I3.kept (t' := s3.toks) fun b ob q => Heap.get?_push_of_some _ q
  obtain ⟨T, id, hT, ht, hg⟩ := hr pins { s3 with heap := s3.heap.push { cls := .type "slice", data := .fields #[vl, vu, .none] } } σ H3 x v vl vu l u s3.heap.objs.size Q I4 r1 (Heap.IsSliceOf.new ..) pl pu q3
  show wpAny (model X.prog X.w) X.A (subscriptTail e (.Slice lo hi none p2) v (.ref s3.heap.objs.size)) (EP X pins σ Q) X.xe { s3 with heap := s3.heap.push { cls := .type "slice", data := .fields #[vl, vu, .none] } }
  exact tail_any (ops := [.ref s3.heap.objs.size, v]) ht hT hg (by with_unfolding_all rfl)

/-- the items of xs[lo:hi] -/
def cutV (xs : List V) (lo hi : Option Int) : List V := (xs.drop (HT.sIx xs.length 0 lo)).take (HT.sIx xs.length xs.length hi - HT.sIx xs.length 0 lo)
theorem cutV_length (xs : List V) (lo hi : Option Int) : (cutV xs lo hi).length ≤ xs.length := by
  unfold cutV
  rw [List.length_take, List.length_drop]
  omega
/-- t[lo:hi], not the whole of it (the whole would be t itself) -/
def rSlT (K : PySem.W.Frag) : V → Option Int → Option Int → Hp → VK → Prop := fun x lo hi H Q => ∃ a xs, x = .ref a ∧ SqT K H a xs ∧
  ¬ (HT.sIx xs.length 0 lo = 0 ∧ HT.sIx xs.length xs.length hi = xs.length) ∧ ∀ p, H p = none → Q (.ref p) (upd H p (.tup (cutV xs lo hi)))
theorem sl_tup : SlR X (rSlT X.K) := by
  intro pins s σ H x v vl vu lo hi sl Q I rx hs pl pu h
  obtain ⟨a, xs, rfl, hx, hw, q⟩ := h
  cases rx
  obtain ⟨its, r, ht, hz⟩ := I.tuple hx
  have hlen : its.toArray.size = xs.length := by rw [List.size_toArray]; exact r.length.symm
  refine ⟨"tuple", _, PyProof.Rows.slot_tuple_getitem.lookup, ht.typeIs, ?_⟩
  refine HT.getItem_tuple_cut ht hs pl pu (by rw [hlen]; exact hw) ?_ (by rw [hlen]; exact hz)
  rw [hlen]
  refine ⟨.ref s.heap.objs.size, _, I.laid (t' := s.toks) (o := .tup (cutV xs lo hi)) (fun b ob q => Heap.get?_push_of_some _ q) (Nat.le_refl _) ?_, rfl, q _ (I.hok.fresh (Nat.le_refl _))⟩
  exact ⟨Nat.le_trans (cutV_length xs lo hi) hz, _, (r.drop (HT.sIx xs.length 0 lo)).take (HT.sIx xs.length xs.length hi - HT.sIx xs.length 0 lo), IsTup.new _ _⟩

/-! ### t < u, t + u -/
def rLtT (K : PySem.W.Frag) : R2 := fun x y H Q => ∃ a b ns ms, x = .ref a ∧ y = .ref b ∧ SqT K H a (ns.map V.int) ∧ SqT K H b (ms.map V.int) ∧ Q (.bl (HT.lexLt ns ms)) H
/-- t + u, t not empty: u empty gives t itself -/
def rCatT (K : PySem.W.Frag) : R2 := fun x y H Q => ∃ a b xs ys, x = .ref a ∧ y = .ref b ∧ SqT K H a xs ∧ SqT K H b ys ∧ xs ≠ [] ∧ xs.length + ys.length ≤ sizeLine ∧
  (ys = [] → Q (.ref a) H) ∧ (ys ≠ [] → ∀ p, H p = none → Q (.ref p) (upd H p (.tup (xs ++ ys))))
end
end L2

namespace L2
open PySem PySem.Spec PyProof.Rows

/-! ### places -/
/-- the place that an index of any sign means -/
def ixN (n : Nat) (i : Int) : Option Nat := if 0 ≤ i then (if i < n then some i.toNat else none) else if -(n : Int) ≤ i then some (i + n).toNat else none
def atI {α : Type} (xs : List α) (i : Int) : Option α := (ixN xs.length i).bind fun j => xs[j]?
theorem ixN_seq {n : Nat} {i : Int} {j : Nat} (h : ixN n i = some j) : seqIndex? i n = some j ∧ j < n ∧ -(n : Int) ≤ i ∧ i < n := by
  unfold ixN at h
  by_cases h0 : 0 ≤ i
  · rw [if_pos h0] at h
    by_cases h1 : i < n
    · rw [if_pos h1] at h
      have e : i.toNat = j := Option.some.inj h
      exact ⟨by rw [seqIndex_of h0 h1, e], by omega, by omega, h1⟩
    · rw [if_neg h1] at h; cases h
  · rw [if_neg h0] at h
    by_cases h1 : -(n : Int) ≤ i
    · rw [if_pos h1] at h
      have e : (i + n).toNat = j := Option.some.inj h
      exact ⟨by rw [seqIndex_neg (by omega) h1, e], by omega, h1, by omega⟩
    · rw [if_neg h1] at h; cases h
theorem atI_get {α : Type} {xs : List α} {i : Int} {v : α} (h : atI xs i = some v) : ∃ j, seqIndex? i xs.length = some j ∧ xs[j]? = some v ∧ j < xs.length ∧ -(xs.length : Int) ≤ i ∧ i < xs.length := by
  unfold atI at h
  cases e : ixN xs.length i with
  | none => rw [e] at h; cases h
  | some j =>
    rw [e] at h
    obtain ⟨h1, h2, h3, h4⟩ := ixN_seq e
    exact ⟨j, h1, h, h2, h3, h4⟩
theorem atI_nat {α : Type} {xs : List α} {j : Nat} {v : α} (h : xs[j]? = some v) : atI xs (j : Int) = some v := by
  have hj : j < xs.length := (List.getElem?_eq_some_iff.mp h).1
  have e : ixN xs.length (j : Int) = some j := by
    unfold ixN
    rw [if_pos (by omega), if_pos (by omega)]; simp
  unfold atI; rw [e]; exact h
theorem atI_last {α : Type} (xs : List α) (v : α) : atI (xs ++ [v]) (-1) = some v := by
  have hl : (xs ++ [v]).length = xs.length + 1 := by simp
  have e : ixN (xs ++ [v]).length (-1) = some xs.length := by
    unfold ixN
    rw [hl, if_neg (by decide), if_pos (by omega)]
    congr 1
    omega
  unfold atI
  rw [e]
  show (xs ++ [v])[xs.length]? = some v
  simp

/-! ### what may be subscripted -/
/-- what stands as an index of a plain subscript -/
def PlainIx (b : Expr) : Prop := ∀ o i, subscripted b false o i = operate [o, i] (getItem o i)
/-- a subscript by values -/
def IxR (X : Cx) (r : R2) : Prop :=
  ∀ (value slice : Expr) (pins : List (Addr × Obj)) (s : Shared) (σ : St) (H : Hp) (x y : V) (v u : Value) (Q : VK), Inv X pins σ H s → RelV x v → RelV y u → r x y H Q →
    subscripted slice false v u = operate [v, u] (getItem v u) → wpAny (model X.prog X.w) X.A (subscriptTail value slice v u) (EP X pins σ Q) X.xe s
/-- a call of a builtin's method by values: the receiver, the arguments -/
def MtR (X : Cx) (id : String) (r : V → List V → Hp → VK → Prop) : Prop :=
  ∀ (pins : List (Addr × Obj)) (s : Shared) (σ : St) (H : Hp) (x : V) (xs : List V) (v : Value) (us : List Value) (Q : VK), Inv X pins σ H s → RelV x v → Vals xs us → r x xs H Q →
    wpAny (model X.prog X.w) X.A (call (.builtin id) (v :: us)) (EP X pins σ Q) X.xe s
section
variable {X : Cx} {a b : Expr} {ta tb : TE} {pos : Pos}
theorem IxR.or {r r' : R2} (h : IxR X r) (h' : IxR X r') : IxR X (fun x y H Q => r x y H Q ∨ r' x y H Q) := by
  intro value slice pins s σ H x y v u Q I rx ry q hs
  rcases q with q | q
  · exact h value slice pins s σ H x y v u Q I rx ry q hs
  · exact h' value slice pins s σ H x y v u Q I rx ry q hs
theorem MtR.or {id : String} {r r' : V → List V → Hp → VK → Prop} (h : MtR X id r) (h' : MtR X id r') : MtR X id (fun x xs H Q => r x xs H Q ∨ r' x xs H Q) := by
  intro pins s σ H x xs v us Q I rx rs q
  rcases q with q | q
  · exact h pins s σ H x xs v us Q I rx rs q
  · exact h' pins s σ H x xs v us Q I rx rs q
/-- a[b] -/
theorem pe_ix {r : R2} (hr : IxR X r) (ha : PE X a ta) (hb : PE X b tb) (hs : PlainIx b) : PE X (.Subscript a b pos) (tOp r ta tb) := by
  intro pins s σ H Q I h
  exact Subscript_ (binT ha hb I h fun v u s2 x y H2 I2 rx ry q => hr a b pins s2 σ H2 x y v u Q I2 rx ry q (hs _ _))

def rIxL (K : PySem.W.Frag) : R2 := fun x y H Q => ∃ p xs i v, x = .ref p ∧ y = .int i ∧ SqL K H p xs ∧ atI xs i = some v ∧ Q v H
def rIxT (K : PySem.W.Frag) : R2 := fun x y H Q => ∃ p xs i v, x = .ref p ∧ y = .int i ∧ SqT K H p xs ∧ atI xs i = some v ∧ Q v H
def rIxS : R2 := fun x y H Q => ∃ z i c, x = .str z ∧ y = .int i ∧ z.length ≤ sizeLine ∧ atI z.cps.toList i = some c ∧ Q (.str ⟨#[c]⟩) H
theorem ix_list : IxR X (rIxL X.K) := by
  intro value slice pins s σ H x y v u Q I rx ry h hs
  obtain ⟨p, xs, i, z, rfl, rfl, hq, he, q⟩ := h
  cases rx
  obtain ⟨t, rfl⟩ := ry
  obtain ⟨its, r, pl, hz⟩ := I.list hq
  obtain ⟨j, h1, h2, h3, h4, h5⟩ := atI_get he
  obtain ⟨w, ew, rw'⟩ := r.get h2
  have hl := r.length
  have hn := line63
  have fin : EP X pins σ Q w s := ⟨z, H, I, rw', q⟩
  by_cases h0 : 0 ≤ i
  · have hj : i.toNat = j := by
      rw [seqIndex_of h0 h5] at h1
      exact Option.some.inj h1
    exact item_listR pl.isList h0 (by omega) (by rw [hj]; simpa using ew) fin hs
  · have hj : (i + (its.toArray.size : Int)).toNat = j := by
      rw [seqIndex_neg (by omega) h4] at h1
      rw [List.size_toArray, ← hl]
      exact Option.some.inj h1
    exact subscriptTail_builtinR (x := w) pl.isList.typeIs slot_list_getitem.lookup
      (wpAny_getItem_list_neg (Q := fun r s' => r = w ∧ EP X pins σ Q r s') pl.isList (by omega) (by rw [List.size_toArray] <;> omega) (by omega) (by rw [hj]; simpa using ew) ⟨rfl, fin⟩) hs
theorem ix_tup : IxR X (rIxT X.K) := by
  intro value slice pins s σ H x y v u Q I rx ry h hs
  obtain ⟨p, xs, i, z, rfl, rfl, hq, he, q⟩ := h
  cases rx
  obtain ⟨t, rfl⟩ := ry
  obtain ⟨its, r, pl, hz⟩ := I.tuple hq
  obtain ⟨j, h1, h2, h3, h4, h5⟩ := atI_get he
  obtain ⟨w, ew, rw'⟩ := r.get h2
  have hl := r.length
  have hn := line63
  have fin : EP X pins σ Q w s := ⟨z, H, I, rw', q⟩
  exact subscriptTail_builtinR (x := w) pl.typeIs slot_tuple_getitem.lookup
    (getItem_tuple (j := j) (Q := fun r s' => r = w ∧ EP X pins σ Q r s') pl (by omega) (by omega) (by rw [List.size_toArray, ← hl]; exact h1) (by simpa using ew) ⟨rfl, fin⟩) hs
/-- list, tuple or str -/
def rIx (K : PySem.W.Frag) : R2 := fun x y H Q => rIxL K x y H Q ∨ rIxT K x y H Q ∨ rIxS x y H Q
/-! ### xs[i] = v, any sign -/
theorem Inv.lst {pins : List (Addr × Obj)} {σ : St} {H : Hp} {s : Shared} {p : Addr} {xs : List V} (I : Inv X pins σ H s) (h : H p = some (.lst xs)) :
    ∃ (its : List Value) (n : Nat), Vals xs its ∧ s.heap.get? p = some { cls := .type "list", data := .seq its.toArray n } ∧ xs.length ≤ sizeLine := by
  obtain ⟨z, its, n, r, e⟩ := I.hok p _ h
  exact ⟨its, n, r, e, z⟩
def rSetL : V → V → V → Hp → (Hp → Prop) → Prop := fun o i v H Q => ∃ p xs k j, o = .ref p ∧ i = .int k ∧ H p = some (.lst xs) ∧ ixN xs.length k = some j ∧ Q (upd H p (.lst (xs.set j v)))
/-! ### slices -/
theorem slice_bounds (lo hi : Option Int) (n : Nat) : (sliceBounds lo hi none n).1 = ((HT.sIx n 0 lo : Nat) : Int) ∧ (sliceBounds lo hi none n).2.1 = ((HT.sIx n n hi : Nat) : Int) ∧ (sliceBounds lo hi none n).2.2 = 1 := by
  refine ⟨?_, ?_, rfl⟩
  · cases lo with
    | none => simp [sliceBounds, HT.sIx]
    | some i =>
      simp only [sliceBounds, HT.sIx, Option.getD_none, show (1 : Int) > 0 by decide, if_true]
      by_cases h : i < 0
      · simp only [h, if_true] <;> omega
      · simp only [h, if_false] <;> omega
  · cases hi with
    | none => simp [sliceBounds, HT.sIx]
    | some i =>
      simp only [sliceBounds, HT.sIx, Option.getD_none, show (1 : Int) > 0 by decide, if_true]
      by_cases h : i < 0
      · simp only [h, if_true] <;> omega
      · simp only [h, if_false] <;> omega
theorem slicePick_cut (its : List Value) (lo hi : Option Int) : slicePick its.toArray lo hi none = ((its.drop (HT.sIx its.length 0 lo)).take (HT.sIx its.length its.length hi - HT.sIx its.length 0 lo)).toArray := by
  obtain ⟨h1, h2, h3⟩ := slice_bounds lo hi its.toArray.size
  unfold slicePick
  rw [h1, h2, h3]
  simp only [sliceRange_one, pick_run, List.size_toArray] <;> rfl
/-- xs[lo:hi] of a list: a new list -/
def rSlL (K : PySem.W.Frag) : V → Option Int → Option Int → Hp → VK → Prop := fun x lo hi H Q => ∃ a xs, x = .ref a ∧ SqL K H a xs ∧ ∀ p, H p = none → Q (.ref p) (upd H p (.lst (cutV xs lo hi)))
theorem sl_list : SlR X (rSlL X.K) := by
  intro pins s σ H x v vl vu lo hi sl Q I rx hs pl pu h
  obtain ⟨a, xs, rfl, hx, q⟩ := h
  cases rx
  obtain ⟨its, r, ht, hz⟩ := I.list hx
  have hlen := r.length
  refine ⟨"list", _, slot_list_getitem.lookup, ht.isList.typeIs, ?_⟩
  refine wpAny_getItem_list_slice ht.isList hs pl pu .none (by simp) ?_ (by rw [List.size_toArray] <;> omega)
  rw [slicePick_cut, ← hlen]
  refine ⟨.ref s.heap.objs.size, _, I.laid (t' := s.toks) (o := .lst (cutV xs lo hi)) (fun b ob q => Heap.get?_push_of_some _ q) (Nat.le_refl _) ?_, rfl, q _ (I.hok.fresh (Nat.le_refl _))⟩
  exact ⟨Nat.le_trans (cutV_length xs lo hi) hz, _, 0, (r.drop (HT.sIx xs.length 0 lo)).take (HT.sIx xs.length xs.length hi - HT.sIx xs.length 0 lo), Heap.get?_push_size _ rfl⟩

/-! ### in, not in: flat items -/
def flatV : V → Bool
  | .non => true
  | .bl _ => true
  | .int _ => true
  | .str _ => true
  | _ => false
/-- == of flat values -/
def eqV : V → V → Bool
  | .non, .non => true
  | .bl a, .bl b => a == b
  | .bl a, .int b => (if a then 1 else 0) == b
  | .int a, .bl b => a == (if b then 1 else 0)
  | .int a, .int b => a == b
  | .str a, .str b => a == b
  | _, _ => false
theorem eqAt_V {A : Around} {s : Shared} {y x : V} {u v : Value} (ry : RelV y u) (rx : RelV x v) (fy : flatV y = true) (fx : flatV x = true) : SeqAt.EqAt A s u v (eqV y x) := by
  cases y with
  | non =>
    cases ry
    cases x with
    | non => cases rx; exact SeqAt.EqAt.same _
    | bl b => cases rx; exact SeqAt.EqAt.none_bool b
    | int b => obtain ⟨t, rfl⟩ := rx; exact SeqAt.EqAt.none_int b t
    | str b => obtain ⟨t, rfl⟩ := rx; exact SeqAt.EqAt.none_str b t
    | _ => exact absurd (show false = true from fx) Bool.false_ne_true
  | bl a =>
    cases ry
    cases x with
    | non => cases rx; exact SeqAt.EqAt.bool_none a
    | bl b => cases rx; exact SeqAt.EqAt.bool_bool a b
    | int b => obtain ⟨t, rfl⟩ := rx; exact SeqAt.EqAt.bool_int a b t
    | str b => obtain ⟨t, rfl⟩ := rx; exact SeqAt.EqAt.bool_str a b t
    | _ => exact absurd (show false = true from fx) Bool.false_ne_true
  | int a =>
    obtain ⟨t', rfl⟩ := ry
    cases x with
    | non => cases rx; exact SeqAt.EqAt.int_none a t'
    | bl b => cases rx; exact SeqAt.EqAt.int_bool a t' b
    | int b => obtain ⟨t, rfl⟩ := rx; exact SeqAt.EqAt.int_int a t' b t
    | str b => obtain ⟨t, rfl⟩ := rx; exact SeqAt.EqAt.int_str a t' b t
    | _ => exact absurd (show false = true from fx) Bool.false_ne_true
  | str a =>
    obtain ⟨t', rfl⟩ := ry
    cases x with
    | non => cases rx; exact SeqAt.EqAt.str_none a t'
    | bl b => cases rx; exact SeqAt.EqAt.str_bool a t' b
    | int b => obtain ⟨t, rfl⟩ := rx; exact SeqAt.EqAt.str_int a t' b t
    | str b => obtain ⟨t, rfl⟩ := rx; exact SeqAt.EqAt.str_str a t' b t
    | _ => exact absurd (show false = true from fx) Bool.false_ne_true
  | _ => exact absurd (show false = true from fy) Bool.false_ne_true
/-- the items' answers, read off the values (a value's own answer does not lean on its token) -/
def eqU (x : V) (u : Value) : Bool := match u with
  | .none => eqV .non x
  | .bool b => eqV (.bl b) x
  | .int i _ => eqV (.int i) x
  | .str z _ => eqV (.str z) x
  | _ => false
theorem eqU_of {x y : V} {u : Value} (r : RelV y u) (f : flatV y = true) : eqU x u = eqV y x := by
  cases y with
  | non => cases r; rfl
  | bl b => cases r; rfl
  | int i => obtain ⟨t, rfl⟩ := r; rfl
  | str z => obtain ⟨t, rfl⟩ := r; rfl
  | _ => exact absurd (show false = true from f) Bool.false_ne_true
theorem any_eqU {x : V} : ∀ {xs : List V} {us : List Value}, Vals xs us → xs.all flatV = true → us.any (eqU x) = xs.any fun y => eqV y x
  | _, _, .nil, _ => rfl
  | y :: xs, u :: us, .cons r t, f => by
    rw [List.all_cons, Bool.and_eq_true] at f
    rw [List.any_cons, List.any_cons, eqU_of r f.1, any_eqU t f.2]
theorem mem_eqAt {A : Around} {s : Shared} {x : V} {v : Value} (rx : RelV x v) (fx : flatV x = true) : ∀ {xs : List V} {us : List Value}, Vals xs us → xs.all flatV = true → ∀ u ∈ us, SeqAt.EqAt A s u v (eqU x u)
  | _, _, .nil, _ => fun u hu => by cases hu
  | y :: xs, u :: us, .cons r t, f => fun u' hu => by
    rw [List.all_cons, Bool.and_eq_true] at f
    rcases List.mem_cons.mp hu with rfl | hu
    · rw [eqU_of r f.1]; exact eqAt_V r rx f.1 fx
    · exact mem_eqAt rx fx t f.2 u' hu
def inV (x : V) (xs : List V) : Bool := xs.any fun y => eqV y x
/-- x in a list or tuple of flat items -/
def rIn (K : PySem.W.Frag) (neg : Bool) : R2 := fun x y H Q => ∃ p xs, y = .ref p ∧ (SqL K H p xs ∨ SqT K H p xs) ∧ flatV x = true ∧ xs.all flatV = true ∧ Q (.bl (if neg then !inV x xs else inV x xs)) H
theorem op_in_seq : OpR X (compareOp .In) (rIn X.K false) := by
  intro pins s σ H x y v u Q I rx ry h
  obtain ⟨p, xs, rfl, hq, fx, fs, q⟩ := h
  cases ry
  rcases hq with hq | hq
  · obtain ⟨its, r, pl, hz⟩ := I.list hq
    refine SeqAt.in_listAt (eqU x) pl.isList (fun w hw => mem_eqAt rx fx r fs w (by simpa using hw)) ⟨.bl _, H, I, rfl, ?_⟩
    rw [show its.toArray.any (eqU x) = its.any (eqU x) by simp, any_eqU r fs]
    exact q
  · obtain ⟨its, r, pl, hz⟩ := I.tuple hq
    refine SeqAt.in_tupleAt (eqU x) pl (fun w hw => mem_eqAt rx fx r fs w (by simpa using hw)) ⟨.bl _, H, I, rfl, ?_⟩
    rw [show its.toArray.any (eqU x) = its.any (eqU x) by simp, any_eqU r fs]
    exact q
theorem op_notIn_seq : OpR X (compareOp .NotIn) (rIn X.K true) := by
  intro pins s σ H x y v u Q I rx ry h
  obtain ⟨p, xs, rfl, hq, fx, fs, q⟩ := h
  cases ry
  rcases hq with hq | hq
  · obtain ⟨its, r, pl, hz⟩ := I.list hq
    refine SeqAt.notIn_listAt (eqU x) pl.isList (fun w hw => mem_eqAt rx fx r fs w (by simpa using hw)) ⟨.bl _, H, I, rfl, ?_⟩
    rw [show its.toArray.any (eqU x) = its.any (eqU x) by simp, any_eqU r fs]
    exact q
  · obtain ⟨its, r, pl, hz⟩ := I.tuple hq
    refine SeqAt.notIn_tupleAt (eqU x) pl (fun w hw => mem_eqAt rx fx r fs w (by simpa using hw)) ⟨.bl _, H, I, rfl, ?_⟩
    rw [show its.toArray.any (eqU x) = its.any (eqU x) by simp, any_eqU r fs]
    exact q
/-! ### len, list(x), tuple(x) of any list or tuple that is read -/
theorem call_len_seq : CallR X (.builtin "len") (fun xs H Q => ∃ p ys, xs = [.ref p] ∧ (SqL X.K H p ys ∨ SqT X.K H p ys) ∧ Q (.int ys.length) H) := by
  intro pins s σ H xs us Q I r h
  obtain ⟨p, ys, rfl, hq, q⟩ := h
  obtain ⟨u, rfl, rx⟩ := vals1 r
  cases rx
  have hn := line63
  rcases hq with hq | hq
  · obtain ⟨its, r', pl, hz⟩ := I.list hq
    have hlen := r'.length
    exact Calls.call_len_list pl.isList (by simp only [List.size_toArray] <;> omega) ⟨.int ys.length, H, I.tok _, ⟨s.toks + 1, by rw [List.size_toArray, hlen]⟩, q⟩
  · obtain ⟨its, r', pl, hz⟩ := I.tuple hq
    have hlen := r'.length
    exact len_tuple pl (by simp only [List.size_toArray] <;> omega) ⟨.int ys.length, H, I.tok _, ⟨s.toks + 1, by rw [List.size_toArray, hlen]⟩, q⟩
theorem CallR.or {f : Value} {r r' : List V → Hp → VK → Prop} (h : CallR X f r) (h' : CallR X f r') : CallR X f (fun xs H Q => r xs H Q ∨ r' xs H Q) := by
  intro pins s σ H xs us Q I rs q
  rcases q with q | q
  · exact h pins s σ H xs us Q I rs q
  · exact h' pins s σ H xs us Q I rs q
theorem call_list_of : CallR X (.type "list") (fun xs H Q => ∃ p ys, xs = [.ref p] ∧ (SqL X.K H p ys ∨ SqT X.K H p ys) ∧ ∀ l, H l = none → Q (.ref l) (upd H l (.lst ys))) := by
  intro pins s σ H xs us Q I r h
  obtain ⟨p, ys, rfl, hq, q⟩ := h
  obtain ⟨u, rfl, rx⟩ := vals1 r
  cases rx
  have fin : ∀ (its : List Value), Vals ys its → ys.length ≤ sizeLine → ∀ (h' : Heap) (c' : Nat), (∀ b o', s.heap.get? b = some o' → h'.get? b = some o') →
      h'.get? s.heap.objs.size = some { cls := .type "list", dict := none, data := .seq its.toArray c', slots := #[] } → EP X pins σ Q (.ref s.heap.objs.size) { s with heap := h' } := fun its r' hz h' c' kp e =>
    ⟨.ref s.heap.objs.size, _, I.laid (t' := s.toks) kp (Nat.le_refl _) (show ObjOk X.prog X.w _ h' _ (.lst ys) from ⟨hz, its, c', r', e⟩), rfl, q _ (I.hok.fresh (Nat.le_refl _))⟩
  rcases hq with hq | hq
  · obtain ⟨its, r', pl, hz⟩ := I.list hq
    have hlen := r'.length
    obtain ⟨o, ho, hc, n, hd⟩ := pl.isList
    exact call_list_seq p (.inl rfl) ho hc hd (fun h' c' kp e => fin its r' hz h' c' kp e) (by simp only [List.size_toArray] <;> omega)
  · obtain ⟨its, r', pl, hz⟩ := I.tuple hq
    have hlen := r'.length
    obtain ⟨o, ho, hc, n, hd⟩ := pl
    exact call_list_seq p (.inr rfl) ho hc hd (fun h' c' kp e => fin its r' hz h' c' kp e) (by simp only [List.size_toArray] <;> omega)
theorem call_tuple_of : CallR X (.type "tuple") (fun xs H Q => ∃ p ys, xs = [.ref p] ∧ ((SqL X.K H p ys ∧ ∀ l, H l = none → Q (.ref l) (upd H l (.tup ys))) ∨ (SqT X.K H p ys ∧ Q (.ref p) H))) := by
  intro pins s σ H xs us Q I r h
  obtain ⟨p, ys, rfl, h⟩ := h
  obtain ⟨u, rfl, rx⟩ := vals1 r
  cases rx
  rcases h with ⟨hq, q⟩ | ⟨hq, q⟩
  · obtain ⟨its, r', pl, hz⟩ := I.list hq
    have hlen := r'.length
    refine call_tuple_list pl.isList (fun h' kp => ?_) (by simp only [List.size_toArray] <;> omega)
    have I1 : Inv X pins σ H { s with heap := h' } := I.kept (t' := s.toks) kp
    have I2 : Inv X pins σ (upd H h'.objs.size (.tup ys)) { s with heap := h'.push { cls := .type "tuple", data := .seq its.toArray } } :=
      I1.laid (t' := s.toks) (fun b o e => Heap.get?_push_of_some _ e) (Nat.le_refl _) (show ObjOk X.prog X.w _ _ _ (.tup ys) from ⟨hz, its, r', IsTup.new _ _⟩)
    exact ⟨.ref h'.objs.size, _, I2, rfl, q _ (I1.hok.fresh (Nat.le_refl _))⟩
  · obtain ⟨its, r', pl, hz⟩ := I.tuple hq
    exact call_tuple_same pl ⟨.ref p, H, I, rfl, q⟩

/-! ### the call of a builtin's method: o.m(..) -/
/-- the value is of that builtin type -/
def tyV (K : PySem.W.Frag) (T : String) (x : V) (H : Hp) : Prop := match x with
  | .str _ => T = "str"
  | .int _ => T = "int"
  | .ref p => (T = "list" ∧ ∃ xs, SqL K H p xs) ∨ (T = "tuple" ∧ ∃ o, K.lookup p = some o ∧ o.cls = .type "tuple" ∧ o.dict = none) ∨
      (T = "dict" ∧ ((∃ kvs, H p = some (.dK kvs)) ∨ ∃ kvs, H p = some (.dT kvs))) ∨ (T = "set" ∧ ∃ S n, H p = some (.set S n))
  | _ => False
theorem tyV_is {pins : List (Addr × Obj)} {σ : St} {H : Hp} {s : Shared} {T : String} {x : V} {v : Value} (I : Inv X pins σ H s) (r : RelV x v) (ty : tyV X.K T x H) :
    s.TypeIs v T ∧ ∀ a, v = .ref a → ∃ ob, s.heap.get? a = some ob ∧ ob.dict = none := by
  cases x with
  | str z =>
    obtain ⟨t, rfl⟩ := r
    cases (show T = "str" from ty)
    exact ⟨typeIs_str s z t, fun _ e => nomatch e⟩
  | int i =>
    obtain ⟨t, rfl⟩ := r
    cases (show T = "int" from ty)
    exact ⟨typeIs_int s i t, fun _ e => nomatch e⟩
  | ref p =>
    cases r
    rcases ty with ⟨rfl, xs, hq⟩ | ⟨rfl, o, hk, hc, hd⟩ | ⟨rfl, hk⟩ | ⟨rfl, S, n, hk⟩
    · obtain ⟨its, _, pl, _⟩ := I.list hq
      refine ⟨pl.isList.typeIs, fun a e => ?_⟩
      cases e
      obtain ⟨o, n, e, c, hd, _⟩ := pl
      exact ⟨o, e, hd⟩
    · refine ⟨⟨o, I.kIn p o hk, hc⟩, fun a e => ?_⟩
      cases e
      exact ⟨o, I.kIn _ o hk, hd⟩
    · have z : ∃ o, s.heap.get? p = some o ∧ o.ExactDict := by
        rcases hk with ⟨kvs, hk⟩ | ⟨kvs, hk⟩
        · obtain ⟨_, _, _, _, o, _, _, e, ex, _⟩ := I.hok p _ hk
          exact ⟨o, e, ex⟩
        · obtain ⟨_, _, _, _, o, _, _, e, ex, _⟩ := I.hok p _ hk
          exact ⟨o, e, ex⟩
      obtain ⟨o, e, ex⟩ := z
      refine ⟨⟨o, e, ex.1⟩, fun a e2 => ?_⟩
      cases e2
      exact ⟨o, e, ex.2.1⟩
    · obtain ⟨o, _, _, _, e, ex, _⟩ := I.hok p _ hk
      refine ⟨⟨o, e, ex.1⟩, fun a e2 => ?_⟩
      cases e2
      exact ⟨o, e, ex.2.1⟩
  | _ => exact False.elim ty
def tBM0 (K : PySem.W.Frag) (T : String) (r : V → List V → Hp → VK → Prop) (to : TE) : TE := fun σ H Q => to σ H fun x H1 => tyV K T x H1 ∧ r x [] H1 Q
def tBM (K : PySem.W.Frag) (T : String) (r : V → List V → Hp → VK → Prop) (to : TE) (t : TA) : TE := fun σ H Q => to σ H fun x H1 => tyV K T x H1 ∧ t σ H1 fun xs H2 => r x xs H2 Q
variable {o e : Expr} {es : List Expr} {to : TE} {t : TA} {name : Str} {apos cpos : Pos} {T id : String} {r : V → List V → Hp → VK → Prop}
theorem pe_bm0 (pa : PlainAttrs T) (slot : Slot T name id) (hty : typeOf (.builtin id) = pure (.type "method_descriptor")) (hm : MtR X id r) (ho : PE X o to)
    (hbase : attributeBase o name X.env (eval o X.env) = eval o X.env := by rfl) (hline : (apos.endLine == cpos.line) = true := by rfl) : PE X (.Call (.Attribute o name apos) [] [] cpos) (tBM0 X.K T r to) := by
  intro pins s σ H Q I h
  refine wpAny_Call_method0_late hbase hline (thn (ho pins s σ H _ I h) fun v s1 ⟨x, H1, I1, r1, ty, q1⟩ => ?_)
  obtain ⟨h1, h2⟩ := tyV_is I1 r1 ty
  exact ⟨T, id, pa, slot, hty, h1, h2, Calls.callWith_builtin rfl (PySem.evalArgs_none (hm pins s1 σ H1 x [] v [] Q I1 r1 .nil q1))⟩
theorem pe_bm (pa : PlainAttrs T) (slot : Slot T name id) (hty : typeOf (.builtin id) = pure (.type "method_descriptor")) (hm : MtR X id r) (ho : PE X o to) (ha : PA X (e :: es) t)
    (hbase : attributeBase o name X.env (eval o X.env) = eval o X.env := by rfl)
    (hfew : ((backTo cpos (starEach (e :: es) X.env)).all (fun x => !x.1) && (backToKw cpos (keywordEach [] X.env)).all (fun x => x.1.isSome)
      && decide ((e :: es).length + ([] : List Keyword).length + (if ([] : List Keyword).isEmpty then 0 else 1) < 30)) = true := by rfl)
    (hline : (apos.endLine == cpos.line) = true := by rfl) (hs : starEach (e :: es) X.env = (false, eval e X.env) :: starEach es X.env := by rfl) (hplain : (backTo cpos (starEach es X.env)).any (·.1) = false := by rfl) :
    PE X (.Call (.Attribute o name apos) (e :: es) [] cpos) (tBM X.K T r to t) := by
  intro pins s σ H Q I h
  refine wpAny_Call_method_late hbase hfew hline rfl (thn (ho pins s σ H _ I h) fun v s1 ⟨x, H1, I1, r1, ty, q1⟩ => ?_)
  obtain ⟨h1, h2⟩ := tyV_is I1 r1 ty
  refine ⟨T, id, pa, slot, hty, h1, h2, ?_⟩
  have hA := ha cpos pins s1 σ H1 _ I1 q1
  rw [hs] at hA ⊢
  refine Calls.callWith_builtin (by show (false || (backTo cpos (starEach es X.env)).any (·.1)) = false; rw [hplain] <;> rfl) (Calls.evalArgs_plain ?_)
  exact thn hA fun us s2 ⟨vs, H2, I2, r2, q2⟩ => hm pins s2 σ H2 x vs v us Q I2 r1 r2 q2
/- xs.append(e), list.index on a module's tuple .. are MtR facts of 06m -/
end
end L2

namespace L2
open PySem PySem.Spec PyProof.Rows

def MtM (X : Cx) (id : String) (r : V → List V → Hp → VK → Prop) : Prop :=
  ∀ (pins : List (Addr × Obj)) (s : Shared) (σ : St) (H : Hp) (x : V) (xs : List V) (v : Value) (us : List Value) (Q : VK), Inv X pins σ H s → RelV x v → Vals xs us → r x xs H Q →
    wpAny (model X.prog X.w) X.A (call (.builtin id) (v :: us)) (EP X pins σ Q) X.xe s

/-! ### lists of values -/
theorem Vals.one : ∀ {x : V} {us : List Value}, Vals [x] us → ∃ u, us = [u] ∧ RelV x u
  | _, _, .cons r .nil => ⟨_, rfl, r⟩
theorem Vals.two : ∀ {x y : V} {us : List Value}, Vals [x, y] us → ∃ u v, us = [u, v] ∧ RelV x u ∧ RelV y v
  | _, _, _, .cons r (.cons q .nil) => ⟨_, _, rfl, r, q⟩
theorem Vals.zero : ∀ {us : List Value}, Vals [] us → us = []
  | _, .nil => rfl
theorem Vals.dropLast {xs : List V} {us : List Value} (h : Vals xs us) : Vals xs.dropLast us.dropLast := by
  induction h with
  | nil => exact .nil
  | cons r t ih =>
    cases t with
    | nil => exact .nil
    | cons q t' => exact .cons r ih
theorem Vals.eraseIdx : ∀ {xs : List V} {us : List Value} (i : Nat), Vals xs us → Vals (xs.eraseIdx i) (us.eraseIdx i)
  | _, _, _, .nil => .nil
  | _, _, 0, .cons _ t => t
  | _, _, i + 1, .cons r t => .cons r (Vals.eraseIdx i t)
theorem Vals.reverse {xs : List V} {us : List Value} (h : Vals xs us) : Vals xs.reverse us.reverse := by
  induction h with
  | nil => exact .nil
  | cons r t ih => rw [List.reverse_cons, List.reverse_cons]; exact Vals.append ih (.cons r .nil)
theorem Vals.rep {xs : List V} {us : List Value} (h : Vals xs us) : ∀ k : Nat, Vals (List.replicate k xs).flatten (List.replicate k us).flatten
  | 0 => .nil
  | k + 1 => by
    rw [List.replicate_succ, List.replicate_succ, List.flatten_cons, List.flatten_cons]
    exact Vals.append h (Vals.rep h k)
theorem foldl_rep (its : List Value) : ∀ (k : Nat) (acc : List Value),
    List.foldl (fun x1 x2 => x1 ++ x2) acc.toArray (List.replicate k its.toArray) = (acc ++ (List.replicate k its).flatten).toArray
  | 0, acc => by simp
  | k + 1, acc => by
    have e : acc.toArray ++ its.toArray = (acc ++ its).toArray := by simp
    have e2 : (acc ++ its) ++ (List.replicate k its).flatten = acc ++ (List.replicate (k + 1) its).flatten := by
      rw [List.replicate_succ, List.flatten_cons, List.append_assoc]
    rw [← e2, ← foldl_rep its k (acc ++ its), ← e, List.replicate_succ, List.foldl_cons]

section
variable {X : Cx} {pins : List (Addr × Obj)} {σ : St} {H : Hp} {s : Shared} {l b : Addr} {xs ys zs : List V}

/-! ### the two steps: a tracked list is rewritten, a new list is laid -/
theorem Inv.lset {its its' : List Value} {n : Nat} {f : Array Value → Array Value} {t' : Nat} (I : Inv X pins σ H s) (hH : H l = some (.lst xs))
    (e : s.heap.get? l = some { cls := .type "list", data := .seq its.toArray n }) (hf : f its.toArray = its'.toArray) (hv : Vals ys its') (hz : ys.length ≤ sizeLine) :
    Inv X pins σ (upd H l (.lst ys)) { s with heap := s.heap.update l (Obj.mapSeq f), toks := t' } := by
  have q := PySem.IsL.update e f
  rw [hf] at q
  refine I.write (x := l) (e := l) (by rw [hH]; exact trivial) (.inl rfl) (fun b' u hb hu => (Heap.get?_update_other s.heap (Obj.mapSeq f) (Ne.symm hb)).trans hu) ⟨_, q⟩ ?_
  exact ⟨hz, its', _, hv, q⟩
theorem Inv.lnew {its : List Value} {t' : Nat} (I : Inv X pins σ H s) (hv : Vals ys its) (hz : ys.length ≤ sizeLine) :
    Inv X pins σ (upd H s.heap.objs.size (.lst ys)) { s with heap := s.heap.push { cls := .type "list", data := .seq its.toArray }, toks := t' } :=
  I.laid (fun _ _ q => Heap.get?_push_of_some _ q) (Nat.le_refl _) ⟨hz, its, 0, hv, Heap.get?_push_size _ rfl⟩
theorem Inv.fresh (I : Inv X pins σ H s) : H s.heap.objs.size = none := I.hok.fresh (Nat.le_refl _)
theorem Inv.lstM (I : Inv X pins σ H s) (hH : H l = some (.lst xs)) : xs.length ≤ sizeLine ∧ ∃ (its : List Value) (n : Nat), Vals xs its ∧ xs.length = its.length ∧ s.heap.get? l = some { cls := .type "list", data := .seq its.toArray n } := by
  obtain ⟨z, its, n, r, e⟩ := I.hok l _ hH
  exact ⟨z, its, n, r, r.length, e⟩

theorem notLongL {n : Nat} (h : n ≤ sizeLine) : Builtin.List.listTooLong n = false := by
  unfold Builtin.List.listTooLong
  exact decide_eq_false (by omega)
end

section
variable {X : Cx}

/-! ### methods -/
def rAppend : V → List V → Hp → VK → Prop := fun x vs H Q => ∃ l xs y, x = .ref l ∧ vs = [y] ∧ H l = some (.lst xs) ∧ xs.length < sizeLine ∧ Q .non (upd H l (.lst (xs ++ [y])))
theorem mt_append : MtM X "list.append" rAppend := by
  intro pins s σ H x vs v us Q I rx rv h
  obtain ⟨l, xs, y, rfl, rfl, hH, hz, q⟩ := h
  cases rx
  obtain ⟨u, rfl, ru⟩ := rv.one
  obtain ⟨z, its, n, r, hl, e⟩ := I.lstM hH
  refine call_meets F.slot_list_append ⟨_, e, rfl⟩ F.entry_list_append (F.args_list_append_2 _ _) (PySem.list_append l its.toArray n u (by rw [List.size_toArray]; omega)) ⟨e, ?_⟩
  refine ⟨.non, _, I.lset (its' := its ++ [u]) hH e (by simp) (r.append (.cons ru .nil)) ?_, rfl, q⟩
  rw [List.length_append, List.length_singleton]
  omega

def rExtend : V → List V → Hp → VK → Prop := fun x vs H Q => ∃ l b xs zs, x = .ref l ∧ vs = [.ref b] ∧ H l = some (.lst xs) ∧ H b = some (.lst zs) ∧ xs.length + zs.length ≤ sizeLine ∧ Q .non (upd H l (.lst (xs ++ zs)))
def rPop : V → List V → Hp → VK → Prop := fun x vs H Q => ∃ l xs y, x = .ref l ∧ vs = [] ∧ H l = some (.lst xs) ∧ xs[xs.length - 1]? = some y ∧ Q y (upd H l (.lst xs.dropLast))
def rPopAt : V → List V → Hp → VK → Prop := fun x vs H Q => ∃ l xs i k y, x = .ref l ∧ vs = [.int i] ∧ H l = some (.lst xs) ∧ -(2 ^ 63) ≤ i ∧ i < 2 ^ 63 ∧ seqIndex? i xs.length = some k ∧ xs[k]? = some y ∧ Q y (upd H l (.lst (xs.eraseIdx k)))
def rReverse : V → List V → Hp → VK → Prop := fun x vs H Q => ∃ l xs, x = .ref l ∧ vs = [] ∧ H l = some (.lst xs) ∧ Q .non (upd H l (.lst xs.reverse))
def rClear : V → List V → Hp → VK → Prop := fun x vs H Q => ∃ l xs, x = .ref l ∧ vs = [] ∧ H l = some (.lst xs) ∧ Q .non (upd H l (.lst []))
/-! ### list + list, list += list, list * int -/
def rCat : R2 := fun x y H Q => ∃ l b xs zs, x = .ref l ∧ y = .ref b ∧ H l = some (.lst xs) ∧ H b = some (.lst zs) ∧ xs.length + zs.length ≤ sizeLine ∧ ∀ p, H p = none → Q (.ref p) (upd H p (.lst (xs ++ zs)))
theorem op_cat : OpR X (binaryOp .Add) rCat := by
  intro pins s σ H x y v u Q I rx ry h
  obtain ⟨l, b, xs, zs, rfl, rfl, hH, hB, hz, q⟩ := h
  cases rx
  cases ry
  obtain ⟨z, its, n, r, hl, e⟩ := I.lstM hH
  obtain ⟨z2, its2, n2, r2, hl2, e2⟩ := I.lstM hB
  refine PySem.P.add_list e e2 ?_ (by rw [List.size_toArray, List.size_toArray]; omega)
  have ea : its.toArray ++ its2.toArray = (its ++ its2).toArray := by simp
  rw [ea]
  exact ⟨.ref _, _, I.lnew (t' := s.toks) (r.append r2) (by rw [List.length_append]; omega), rfl, q _ I.fresh⟩
/-- a list times an int (a negative one is nothing) -/
def rRep : R2 := fun x y H Q => ∃ l k xs, x = .ref l ∧ y = .int k ∧ H l = some (.lst xs) ∧ -(2 ^ 63) ≤ k ∧ k < 2 ^ 63 ∧ xs.length * k.toNat ≤ sizeLine ∧
  ∀ p, H p = none → Q (.ref p) (upd H p (.lst (List.replicate k.toNat xs).flatten))
theorem len_rep {α : Type} (xs : List α) (k : Nat) : (List.replicate k xs).flatten.length = k * xs.length := by
  induction k with
  | zero => simp
  | succ k ih => rw [List.replicate_succ, List.flatten_cons, List.length_append, ih, Nat.succ_mul, Nat.add_comm]
theorem op_rep : OpR X (binaryOp .Mult) rRep := by
  intro pins s σ H x y v u Q I rx ry h
  obtain ⟨l, k, xs, rfl, rfl, hH, h1, h2, hz, q⟩ := h
  cases rx
  obtain ⟨t, rfl⟩ := ry
  obtain ⟨z, its, n, r, hl, e⟩ := I.lstM hH
  have hlen : its.toArray.size * k.toNat ≤ sizeLine := by rw [List.size_toArray, ← hl]; exact hz
  have hcap : ¬ its.toArray.size * k.toNat > (2 ^ 63 - 1) / 8 := by
    have : (sizeLine : Nat) ≤ (2 ^ 63 - 1) / 8 := by decide
    omega
  have hfit : ¬ (!Builtin.List.listFitsIndex k) = true := by
    rw [fitsIndex_both h1 h2]
    exact Bool.false_ne_true
  have hlong : ¬ Builtin.List.listTooLong (its.toArray.size * k.toNat) = true := by
    rw [notLongL hlen]
    exact Bool.false_ne_true
  have hnew : List.foldl (fun x1 x2 => x1 ++ x2) #[] (List.replicate (if its.toArray.isEmpty = true then 0 else k.toNat) its.toArray) = (List.replicate k.toNat its).flatten.toArray := by
    have f0 : ∀ m : Nat, List.foldl (fun x1 x2 => x1 ++ x2) #[] (List.replicate m its.toArray) = (List.replicate m its).flatten.toArray := fun m => by
      have := foldl_rep its m []
      rw [List.nil_append] at this
      exact this
    rw [f0]
    cases its with
    | nil => simp
    | cons a r' => rw [if_neg (by simp)]
  refine wpAny_binaryOp_repeat_ref (T := "list") (U := "int") (by decide) ⟨_, e, rfl⟩ (fun s' => typeIs_int s' k t) noFill_list_mul F.fills_int_mul F.slot_int_rmul repeat_list F.slot_int_index.lookup
    (call_meets F.slot_int_rmul (typeIs_int s k t) F.entry_int_rmul (F.args_int_rmul_2 _ _) (int___rmul___int_list k t l its.toArray n)
      ⟨e, rfl, ⟨_, e, rfl⟩, call_meets F.slot_list_mul ⟨_, e, rfl⟩ F.entry_list_mul (F.args_list_mul_2 _ _) (AutoListH.list___mul___list_int_3 l its.toArray n k t hfit hcap hlong) ⟨e, ?_⟩⟩)
  rw [hnew]
  exact ⟨.ref _, _, I.lnew (t' := s.toks) (r.rep k.toNat) (by rw [len_rep, Nat.mul_comm]; exact hz), rfl, q _ I.fresh⟩

/-! ### del xs[i] -/
end

/-! ### xs[a:b] = ys -/
section
variable {prog : Program} {w : World} {A : Around} {E : Value → Shared → Prop} {s : Shared}
end

section
variable {X : Cx}
end
end L2

namespace Att
open PySem PySem.W PySem.Calls PyProof.Rows

/-! ### the script -/
theorem ints_of_wellAll {P : Params} {h : Heap} : ∀ (ns : List Int) (vs : List Value), WellAll P h vs (ns.map WData.int) → IntsAre vs ns := by
  intro ns
  induction ns with
  | nil =>
    intro vs w
    rw [List.map_nil] at w
    cases w
    exact .nil
  | cons n ns ih =>
    intro vs w
    rw [List.map_cons] at w
    cases w with
    | cons a b =>
      cases a
      exact .cons _ _ (ih _ b)

theorem script_of {l : OpenLaw} {n : Nat} (hn : l.most = some n) {P : Params} {h : Heap} {args : List WData} {vals : List Value}
    (hpre : l.row.toRowW.claim.pre args = true) (hwl : WellAll P h vals args) :
    ∃ a vs ns, vals = [Value.ref a] ∧ args = [WData.list (ns.map WData.int)] ∧ h.get? a = some { cls := .type "list", data := .seq vs.toArray } ∧ IntsAre vs ns ∧ ns.length ≤ n := by
  have hsh : WShape.hasAll [] args [.list .int] = true := (pre_splitW hpre).1
  have hc : l.pre.holds [] { args := args } = true := (pre_splitW hpre).2
  obtain ⟨d, r, rfl, h1, h2⟩ := hasAllW_cons hsh
  obtain rfl := hasAllW_nil h2
  obtain ⟨xs, rfl, h3⟩ := hasW_list h1
  obtain ⟨ns, rfl⟩ := items_int h3
  have hlen : ns.length ≤ n := by
    unfold OpenLaw.pre at hc
    have h4 : (WTm.not (.lt (.lit (.int (n : Int))) (.len (.arg 0)))).holds [] { args := [.list (ns.map .int)] } = true := by
      have h4 := (holds_andW hc).1
      rw [hn] at h4
      exact h4
    have h5 := condW_of h4 (w_not (w_lt w_lit (w_len_list (w_arg rfl))))
    rw [List.length_map] at h5
    refine Nat.le_of_not_lt fun q => ?_
    have q' : (n : Int) < ((ns.length : Nat) : Int) := by omega
    first
      | (rw [decide_eq_true q'] at h5; exact absurd h5 (by decide))
      | (simp at h5; omega)
  cases hwl with
  | cons w1 w2 =>
    cases w2
    cases w1 with
    | list ho hall => exact ⟨_, _, ns, rfl, rfl, ho, ints_of_wellAll ns _ hall, hlen⟩

theorem post_true (l : OpenLaw) (args : List WData) : l.row.toRowW.claim.post args (.bool true) args = true :=
  postW_of (r := l.row.toRowW) (X := (true == true))
    (show WShape.has [] (.bool true) .bool = true by first | rfl | decide | simp [WShape.has, WShape.arms, WShape.armsAll])
    (show (WTm.eq .res (.lit (.bool true))).value [] { args := args, res := some (.bool true), after := args } = some (.bool (true == true)) from w_eq_bool (w_res rfl) w_lit) rfl

/-! ### the attachment: holds_open's last premise (the goal 'hc' behind k_head) from a wpAny of the law's body -/
/-- the same from a codeAny of the CALL (for a layer whose function contracts speak of calls) -/
theorem attach_call {l : OpenLaw} {n : Nat} {q : Program} {loose : List Str} {XP : (Str → Option Value) → Heap → Prop} {YP : World → Heap → Prop} {d : DefRec}
    (hn : l.most = some n) (hdf : d.params.defaults = [])
    (call : ∀ (w : World) (s₀ s₁ : Shared) (mg mb : Str → Option Value) (fa : Addr) (o : Obj) (pm cd doc : Value) (a : Addr) (vs : List Value) (ns : List Int),
      Ground q loose [] XP w s₀ mg mb s₁.heap → YP w s₁.heap →
      s₁.heap.get? fa = some o → o.data = .func (docDef d.name d.params d.body d.scope pm cd doc) → s₁.heap.CodeRec cd d.name → mg d.name = some (.ref fa) →
      s₁.heap.get? a = some { cls := .type "list", data := .seq vs.toArray } → IntsAre vs ns → ns.length ≤ n → s₁.gens = #[] →
      codeAny (model l.prog w) callerA (.call (.ref fa) ⟨[.ref a], []⟩) (fun r s' => r = .ok (.ret (.bool true)) ∧ OldK s₁.heap s'.heap ∧ s'.os = s₁.os ∧ AllBare s'.gens) s₁) :
    WalkO q loose XP YP l.row.toRowW d [] (fun f vs => PySem.call f vs) := by
  intro w s₀ s₁ mg mb G Y fa o pm cd doc dV kV ho hd hcd hD hmg hg args vals as hpre hlay hrd hwl hlo
  obtain rfl : dV = .none := Dflts.none hD hdf
  obtain rfl : kV = .none := Dflts.noKw hD
  obtain ⟨a, vs, ns, rfl, rfl, hobj, hints, hlen⟩ := script_of hn hpre hwl
  refine enter_call (codeAny_mono (call w s₀ s₁ mg mb fa o pm cd doc a vs ns G Y ho (fd_plain hd) hcd hmg hobj hints hlen hg) fun r s' hq => ?_)
  obtain ⟨rfl, h2, h3, h4⟩ := hq
  exact ⟨.inl ⟨.bool true, .bool true, [], rfl, fun _ => rfl, .bool true, post_true l _, fun _ => ⟨List.Pairwise.nil, fun _ hm => (nomatch hm)⟩⟩, h2, h3, h4⟩

/-! ### rules over ANY heap (no ledger) from facts about the written part K: the library's own take a ledger (News) for what they write -/
section
variable {prog : Program} {w : World} {A : Around} {E : Value → Shared → Prop} {s : Shared} {K : Frag}

/-! the whole heap as the ledger: makes every rule that writes through a ledger a rule over any heap -/
def noObjs (h : Heap) : Heap := { h with objs := #[] }
def ledger (h : Heap) (L d : Addr) : List (Addr × Obj) := (List.range h.objs.size).filterMap fun a => if a = L ∨ a = d then none else (h.get? a).map fun o => (a, o)
end
end Att

namespace L2
open PySem PySem.Spec PyProof.Rows

theorem vals_ints : ∀ {vs : List Value} {ns : List Int}, IntsAre vs ns → Vals (ns.map V.int) vs
  | _, _, .nil => .nil
  | _, _, .cons n t h => .cons ⟨t, rfl⟩ (vals_ints h)

/-- nothing is tracked but the script, known to the object (or it is an object of the module) -/
def Only (H : Hp) : Prop := ∀ b, H b = none ∨ ∃ o xs, H b = some (.frz o (.lst xs))

/-- THE HEAD: the law's promise, at the heap behind the top. F, the promise of the law's def, may use that base is part of the heap (so K.In base, base.Ns mainGlobals mg stand in Mod) -/
theorem law_call {P : Program} {w : World} {K : PySem.W.Frag} {mg mb : Str → Option Value} {CX : CXT} {k : Nat} {fa a : Addr} {fd : FuncData} {x : Str} {sp : Sp} {s₁ : Shared} {vs : List Value} {ns : List Int}
    (KX : K.In s₁.heap) (hns : s₁.heap.Ns mainGlobals mg) (hb : s₁.heap.Ns builtinsNs mb) (hbb : ∀ x : Str, x ≠ "__name__" → mb x = bootBuiltins x) (hlim : s₁.heap.NoLimit) (hg : s₁.gens = #[])
    (ha : s₁.heap.get? a = some { cls := .type "list", data := .seq vs.toArray }) (hi : IntsAre vs ns) (hl : ns.length ≤ sizeLine) (hr : Room k callerA)
    (F : ∀ base : Heap, K.In base → base.Ns mainGlobals mg → FnOk P w K mg base CX k fa fd [x] sp) (hbind : ∀ (s : Shared) (u : Value), BindsTo s fd ⟨[u], []⟩ [(x, u)])
    (hsp : ∀ H : Hp, Only H → SqL K H a (ns.map V.int) → sp [.ref a] H (fun v _ => v = .bl true) fun _ _ _ => False)
    (hCX : ∀ H e s', CX [] H s₁ (fun _ _ _ => False) e s' → False) :
    codeAny (model P w) callerA (.call (.ref fa) ⟨[.ref a], []⟩) (fun r s' => r = .ok (.ret (.bool true)) ∧ OldK s₁.heap s'.heap ∧ s'.os = s₁.os ∧ AllBare s'.gens) s₁ := by
  have rv := vals_ints hi
  have lenV := hi.length
  -- from an abstract heap in which nothing but the script may be tracked
  have core : ∀ H : Hp, Only H → SqL K H a (ns.map V.int) → HOk P w H s₁.heap → (∀ b, H b ≠ none → b = a) → (H a ≠ none → K.lookup a = none) →
      codeAny (model P w) callerA (.call (.ref fa) ⟨[.ref a], []⟩) (fun r s' => r = .ok (.ret (.bool true)) ∧ OldK s₁.heap s'.heap ∧ s'.os = s₁.os ∧ AllBare s'.gens) s₁ := by
    intro H hO hS hok hA hK
    have base_of : ∀ {b : Addr} {o : Obj}, s₁.heap.get? b = some o → H b = none → (hidT s₁.heap H).get? b = some o := fun e n => hidT_get e n
    have noA : ∀ {b : Addr} {o : Obj} {es : Array DictEntry} {ep : Nat}, s₁.heap.get? b = some o → o.data = .dict es ep → H b = none := fun {b o es ep} e d => by
      cases q : H b with
      | none => rfl
      | some u =>
        have e' : b = a := hA b (by rw [q]; simp)
        subst e'
        rw [ha] at e; cases e
        have d' : Data.seq vs.toArray _ = Data.dict es ep := d
        cases d'
    have nsK : ∀ {b : Addr} {m : Str → Option Value}, s₁.heap.Ns b m → (hidT s₁.heap H).Ns b m := fun {b m} ⟨o, es, ep, e, d, r⟩ => ⟨o, es, ep, base_of e (noA e d), d, r⟩
    have hKb : K.In (hidT s₁.heap H) := fun b o e => base_of (KX b o e) (by
      cases q : H b with
      | none => rfl
      | some u =>
        have e' : b = a := hA b (by rw [q]; simp)
        subst e'
        rw [hK (by rw [q]; simp)] at e; cases e)
    have hM : Mod K mg (hidT s₁.heap H) := ⟨hKb, nsK hns, ⟨mb, nsK hb, hbb⟩, let ⟨mc, h1, h2⟩ := hlim; ⟨mc, nsK h1, h2⟩⟩
    have e0 : Env0 P w K mg (hidT s₁.heap H) callerA [] s₁ H := ⟨rfl, hM, fun b o e => of_hidT e, Nat.le_of_eq (hidT_size _ _), trivial, fun b hb => absurd (show b ∈ ([] : List Addr) from hb) (by simp), hok, .of_eq hg⟩
    refine codeAny_mono ((F _ hKb (nsK hns)).run callerA [] s₁ H ⟨[.ref a], []⟩ [.ref a] [.ref a] _ _ hr e0 (hbind s₁ (.ref a)) (.cons rfl .nil) (hsp H hO hS)) fun r s' h => ?_
    cases r with
    | error e => exact (hCX H e s' h).elim
    | ok fl =>
      cases fl with
      | next => exact False.elim h
      | brk => exact False.elim h
      | cont => exact False.elim h
      | ret u =>
        obtain ⟨v, H', os, bare, un, hok', r', q⟩ := h
        have q' : v = .bl true := q
        subst q'
        obtain rfl : u = Value.bool true := r'
        refine ⟨rfl, OldK.of_keep fun b o e => ?_, os, bare⟩
        cases q : H b with
        | none => exact un.keep b o e q (by intro z; exact absurd (show b ∈ ([] : List Addr) from z) (by simp)) (by simp)
        | some u =>
          rcases hO b with z | ⟨ob, xs, z⟩
          · rw [q] at z; cases z
          · have z2 := un.frzs b ob _ z
            obtain ⟨e1, _⟩ := hok b _ z
            obtain ⟨e2, _⟩ := hok' b _ z2
            rw [e] at e1; cases e1
            exact e2
  cases hk : K.lookup a with
  | some o =>
    -- the script is one of the module's own objects
    have e := KX a o hk
    rw [ha] at e
    cases e
    refine core (fun _ => none) (fun _ => .inl rfl) (.inr ⟨_, vs.toArray, _, hk, rfl, rfl, rfl, by rw [List.size_toArray, lenV]; exact hl, by simpa using rv⟩) (fun b u z => by have z' : (none : Option HO) = some u := z; cases z') (fun b z => absurd rfl z) fun z => absurd rfl z
  | none =>
    refine core (fun b => if b = a then some (.frz { cls := .type "list", data := .seq vs.toArray } (.lst (ns.map V.int))) else none) (fun b => ?_) (.inl (.inr ⟨{ cls := .type "list", data := .seq vs.toArray }, if_pos rfl⟩)) (fun b u z => ?_) (fun b z => ?_) fun _ => hk
    · by_cases hb : b = a
      · exact .inr ⟨_, _, if_pos hb⟩
      · exact .inl (if_neg hb)
    · by_cases hb : b = a
      · have z' := (if_pos hb).symm.trans z
        cases z'
        subst hb
        exact ⟨ha, by rw [List.length_map]; exact hl, vs, _, rv, ha⟩
      · have z' := (if_neg hb).symm.trans z
        cases z'
    · by_cases hb : b = a
      · exact hb
      · exact absurd (if_neg hb) z
end L2

namespace L2
open PySem PySem.Spec PyProof.Rows

abbrev KOf {K : PySem.W.Frag} {h : Heap} (_ : K.In h) : PySem.W.Frag := K

/-- the goal that k_head leaves (case hc), from the law's promise. F gives the function object fd (K's own) once, then the promise over every base -/
theorem walk_of {l : PySem.W.OpenLaw} {n k : Nat} {q : Program} {loose : List Str} {XP : (Str → Option Value) → Heap → Prop} {YP : World → Heap → Prop} {d : DefRec} {K : Params → PySem.W.Frag} {CX : World → CXT} {sp : World → Sp} {x : Str}
    (hn : l.most = some n) (hn2 : n ≤ sizeLine) (hdf : d.params.defaults = []) (hr : Room k callerA)
    (hY : ∀ (w : World) (h : Heap), YP w h → (K w.params).In h)
    (F : ∀ (w : World) (mg : Str → Option Value) (fa : Addr) (h : Heap), (K w.params).In h → h.Ns mainGlobals mg → mg d.name = some (.ref fa) →
      ∃ fd : FuncData, (∀ (s : Shared) (u : Value), BindsTo s fd ⟨[u], []⟩ [(x, u)]) ∧
        ∀ base : Heap, (K w.params).In base → base.Ns mainGlobals mg → FnOk l.prog w (K w.params) mg base (CX w) k fa fd [x] (sp w))
    (hsp : ∀ (w : World) (H : Hp) (a : Addr) (ns : List Int), ns.length ≤ n → Only H → SqL (K w.params) H a (ns.map V.int) → sp w [.ref a] H (fun v _ => v = .bl true) fun _ _ _ => False)
    (hCX : ∀ (w : World) (H : Hp) (s : Shared) (e : Value) (s' : Shared), CX w [] H s (fun _ _ _ => False) e s' → False) :
    PySem.W.WalkO q loose XP YP l.row.toRowW d [] (fun f vs => PySem.call f vs) := by
  refine Att.attach_call hn hdf fun w s₀ s₁ mg mb fa o pm cd doc a vs ns G Y ho hd hcd hmg hobj hints hlen hg => ?_
  have KX := hY w _ Y
  obtain ⟨fd, hb, hF⟩ := F w mg fa _ KX G.T.g hmg
  exact law_call KX G.T.g G.T.b G.T.builtins G.T.nolimit hg hobj hints (Nat.le_trans hlen hn2) hr hF hb (fun H hO hS => hsp w H a ns hlen hO hS) fun H e s' => hCX w H s₁ e s'
end L2

/- THE LAST THEOREM (shape; LID, My.* are yours):
   My.Adr: a structure of the addresses that your layer names (classes, functions); My.Txt K t: a structure (Prop) of the equations over K;
   My.txt_mk : {K} {implicit addresses ..} (e1 : nsIn K mainGlobals "law" = some (some (.ref f))) (e2 : K.lookup f = some ⟨oc, od, .func (fnOf "law" "law" params body scope dV kV doc pm an cdv ct), sl⟩) (e3 : codeIn K cdv "law" = true) .. : ∃ t, My.Txt K t

set_option maxRecDepth 100000 in
set_option maxHeartbeats 0 in
theorem PySem.Challenge.cw_LID_holds : PySem.Challenge.rw_LID.Holds := by
  w_on; o_law; k_head; (case hw => w_witness2)
  k_fill
  refine L2.walk_of (l := PySem.Challenge.rw_LID) (n := 63) (k := 40) (x := "script") (CX := fun w => ..) (sp := fun _ => My.sp_law) rfl (by decide) rfl ⟨rfl, by decide, by decide⟩ (fun w h Y => PySem.W.kIn_of Y) ?F ?S ?C
  case F =>
    intro w mg fa h KX G hmg
    have T : ∃ t, My.Txt (L2.KOf KX) t := by
      dsimp only [L2.KOf]                          -- K must stand as «<heap const> w.params» for k_is
      refine' My.txt_mk ?e1 ?e2 ?e3 ..
      (case e1 => PySem.W.k_is)                    -- in the order: a name -> its address -> its object -> its parts
      (case e2 => PySem.W.k_is)
      ..
    obtain ⟨t, T⟩ := T
    have e0 := hmg.symm.trans (PySem.W.mg_of KX G T.law)
    cases e0                                       -- fa is the law's own address
    exact ⟨_, fun s u => .of_eq rfl, fun base kb nb => My.law_fn T kb nb⟩     -- if «.of_eq rfl» comes too early: refine' ⟨_, ?b, fun base kb nb => My.law_fn T kb nb⟩; exact fun s u => .of_eq rfl
  case S => exact fun w H a ns hl hO hS => ..
  case C => exact ..
(the tactic k_is has no namespace: write k_is) -/

/-! SHORT WORDS over the layer: a def of the text, its body, what a loop and a test want. -/
namespace L2
open PySem PySem.Spec PyProof.Rows

/-! ### the text by places -/
/-- the j-th statement of a class's body -/
def inClass (s : Stmt) (j : Nat) : Stmt := match s with
  | .ClassDef _ _ _ body _ _ _ _ _ _ _ => body.getD j (.Pass ⟨0, 0, 0, 0⟩)
  | _ => .Pass ⟨0, 0, 0, 0⟩
def defArgs (s : Stmt) : Arguments := match s with
  | .FunctionDef _ a _ _ _ _ _ _ _ _ => a
  | _ => { posonlyargs := [], args := [], vararg := none, kwonlyargs := [], kw_defaults := [], kwarg := none, defaults := [] }
def defBody (s : Stmt) : List Stmt := match s with
  | .FunctionDef _ _ b _ _ _ _ _ _ _ => b
  | _ => []
def defScope (s : Stmt) : Scope := match s with
  | .FunctionDef _ _ _ _ _ _ sc _ _ _ => sc
  | _ => { kind := .function, names := [], isGenerator := false, isCoroutine := false }

/-! ### no exception leaves a def -/
abbrev CX0 : CXT := fun _ _ _ _ _ _ => False
abbrev E0 : XK := fun _ _ _ => False
theorem pass0 {X : Cx} : Passes CX0 X E0 := fun _ _ _ _ _ _ _ h => h.elim

/-! ### a def (or method) of the text as it stands behind the top -/
structure Fun (K : PySem.W.Frag) (x qual : Str) (st : Stmt) (f : Addr) (fd : FuncData) : Prop where
  ex : ∃ (oc : Value) (od : Option Addr) (kV doc pm : Value) (an : Option Addr) (cdv ct : Value) (osl : Array (Option Value)),
    fd = PySem.W.fnOf x qual (defArgs st) (defBody st) (defScope st) .none kV doc pm an cdv ct ∧ K.lookup f = some ⟨oc, od, .func fd, osl⟩ ∧ PySem.W.codeIn K cdv qual = true
  kp : PySem.W.keepIn K (.ref f) = true
section
variable {P : Program} {w : World} {K : PySem.W.Frag} {mg : Str → Option Value} {base : Heap}
/-- THE RULE for a def: its body as a term of rules, and the reading of that term -/
theorem Fun.ok {x qual : Str} {st : Stmt} {f : Addr} {fd : FuncData} {N ps : List Str} {k : Nat} {sp : Sp} (F : Fun K x qual st f fd) (S : FnScope N ps (defScope st)) (len : ∀ vs H Q E, sp vs H Q E → vs.length = ps.length)
    (hbody : ∀ (cdv : Value) (A : Around) (outer : List Env) (s : Shared) (H : Hp) (vs : List V) (Q : VK) (E : XK), Room k (A.deeper (envOfC qual (defScope st) s.heap.objs.size f cdv)) → sp vs H Q E →
      ∃ t, PSs (cxOf CX0 P w K mg base N qual (defScope st) f cdv A outer s H E).nox (defBody st) t ∧ t { nx := fun _ H' => Q .non H', rt := Q } (start N vs) H) : FnOk P w K mg base CX0 (k + 1) f fd ps sp := by
  obtain ⟨oc, od, kV, doc, pm, an, cdv, ct, osl, rfl, lk, hcd⟩ := F.ex
  refine fn_of lk hcd S len fun A outer s H vs Q E hr hsp => ?_
  obtain ⟨t, h, q⟩ := hbody cdv A outer s H vs Q E hr hsp
  exact ⟨t, h.nox, q⟩
/-- how its arguments bind (no defaults): h is «fun _ _ _ _ _ _ us hl => match us, hl with | [_, _], _ => rfl», one _ a parameter -/
theorem Fun.binds {x qual : Str} {st : Stmt} {f : Addr} {fd : FuncData} {ps : List Str} (F : Fun K x qual st f fd)
    (h : ∀ (kV doc pm : Value) (an : Option Addr) (cdv ct : Value) (us : List Value), us.length = ps.length → bindArgs (PySem.W.fnOf x qual (defArgs st) (defBody st) (defScope st) .none kV doc pm an cdv ct) ⟨us, []⟩ = pure (ps.zip us)) : Binds K fd ps [] := by
  obtain ⟨oc, od, kV, doc, pm, an, cdv, ct, osl, rfl, lk, hcd⟩ := F.ex
  exact .all (h kV doc pm an cdv ct)
theorem fun_mk {x qual : Str} {st : Stmt} {f : Addr} {oc : Value} {od an : Option Addr} {osl : Array (Option Value)} {kV doc pm cdv ct : Value} (l : K.lookup f = some ⟨oc, od, .func (PySem.W.fnOf x qual (defArgs st) (defBody st) (defScope st) .none kV doc pm an cdv ct), osl⟩)
    (c : PySem.W.codeIn K cdv qual = true) (k : PySem.W.keepIn K (.ref f) = true) : Fun K x qual st f (PySem.W.fnOf x qual (defArgs st) (defBody st) (defScope st) .none kV doc pm an cdv ct) := ⟨⟨oc, od, kV, doc, pm, an, cdv, ct, osl, rfl, l, c⟩, k⟩
end
theorem hu_of {A : Around} {k : Nat} (hr : Room k A) : A.units + 1 < cLine := Nat.lt_of_le_of_lt (Nat.add_le_add_left (by decide : 1 ≤ 64) _) hr.units
theorem small1000 {n : Nat} (h : n ≤ 1000) : n < sizeLine := Nat.lt_of_le_of_lt h (by decide)

/-! ### expressions in short: the name that stands in the i-th slot -/
section
variable {X : Cx}
theorem pv (i : Nat) {x : Str} {pos : Pos} (hN : X.N[i]? = some x := by rfl) (hv : Vis X.env.scope x := by first | exact Or.inl rfl | exact Or.inr (Or.inl rfl) | exact Or.inr (Or.inr rfl)) (hd : (x == ("__debug__" : Str)) = false := by decide)
    (hcd : (x == ("__classdict__" : Str)) = false := by decide) : PE X (.Name x pos) (tVar i) := pe_var hN hv hd hcd
end

/-! ### tests -/
theorem iteF {A B : Prop} (h : B) : if false = true then A else B := by
  rw [if_neg Bool.false_ne_true]
  exact h
theorem iteT {A B : Prop} (h : A) : if true = true then A else B := by
  rw [if_pos rfl]
  exact h
theorem ite2 {c A B : Prop} [Decidable c] (h1 : c → A) (h2 : ¬ c → B) : if c then A else B := by
  by_cases h : c
  · rw [if_pos h]
    exact h1 h
  · rw [if_neg h]
    exact h2 h
theorem iteNS {c A B : Prop} [Decidable c] (hc : c) (h : B) : if (!decide c) = true then A else B := by
  rw [decide_eq_true hc]
  exact iteF h

/-! ### heaps -/
/-- all that was tracked is as it was -/
def Same (H H' : Hp) : Prop := ∀ b o, H b = some o → H' b = some o
theorem Same.refl (H : Hp) : Same H H := fun _ _ h => h
theorem Same.trans {H H1 H2 : Hp} (a : Same H H1) (b : Same H1 H2) : Same H H2 := fun c o h => b c o (a c o h)
theorem Same.free {H H' : Hp} (e : Same H H') {l : Addr} (h : H' l = Option.none) : H l = Option.none := by
  cases q : H l with
  | none => rfl
  | some o =>
    rw [e l o q] at h
    cases h
theorem Same.seq {K : PySem.W.Frag} {H H' : Hp} {a : Addr} {xs : List V} (e : Same H H') (h : SqL K H a xs) : SqL K H' a xs := by
  rcases h with (h | ⟨o, h⟩) | h
  · exact .inl (.inl (e _ _ h))
  · exact .inl (.inr ⟨o, e _ _ h⟩)
  · exact .inr h

end L2

/-! OWN RULES over the hand layer: texts cut and walked, a comprehension, all, isinstance. -/
namespace L2
open PySem PySem.Spec PyProof.Rows
section
variable {X : Cx} {e l : Expr} {te tl : TE} {pos : Pos} {tg : Expr}

/-! ### a text cut -/
def rSlS : V → Option Int → Option Int → Hp → VK → Prop := fun x lo hi H Q => ∃ z, x = .str z ∧ z.length ≤ sizeLine ∧ Q (.str (Txt.slice z lo hi)) H
/-! ### a text walked -/
def Its (z : Str) : It := ⟨fun i _ => i < z.length, fun i H x H' => H' = H ∧ ∃ c, z.cps[i]? = some c ∧ x = .str ⟨#[c]⟩, fun i _ => z.length ≤ i⟩
def iStr (tl : TE) : TI := fun σ H R => tl σ H fun x H1 => ∃ z, x = .str z ∧ R (Its z) H1
/-! ### all of a list of bools -/
/-! ### isinstance(x, T), T a built-in type -/
theorem call_isinst : CallR X (.builtin "isinstance") (fun xs H Q => ∃ x t n b, xs = [x, .ty n] ∧ TyOf X.K H x t ∧ PySem.W.kitOne X.K t (.type n) = some b ∧ Q (.bl b) H) := by
  intro pins s σ H xs us Q I r h
  obtain ⟨x, t, n, b, rfl, ty, hk, q⟩ := h
  obtain ⟨u, w', rfl, rx, ry⟩ := vals2 r
  cases (show w' = Value.type n from ry)
  exact isinst_ok I rx ty hk fun tk => ⟨.bl b, H, I.tok _, rfl, q⟩
end

/-! ### a comprehension: its block is a context of its own -/
structure Clo (X : Cx) (scope : Scope) (cl : List (Str × Addr)) : Prop where
  eq : closureFor scope X.env = pure cl
  sub : ∀ y c, cl.lookup y = some c → X.env.cells.lookup y = some c
  has : ∀ y, ((relabel scope X.env).names.lookup y = some .cell ∨ (relabel scope X.env).names.lookup y = some .free) → ∃ c, cl.lookup y = some c
theorem clo_none {X : Cx} {scope : Scope} (hfree : ∀ x ∈ scope.names, x.2 ≠ .free) (hcell : ∀ x ∈ scope.names, x.2 ≠ .cell) : Clo X scope [] := by
  refine ⟨closureFor_none hfree, fun y c h => by simp at h, fun y h => ?_⟩
  have e : (relabel scope X.env).names = scope.names := by
    unfold relabel
    refine map_eq_self (fun x hx => ?_)
    obtain ⟨n, k⟩ := x
    have : (k == NameKind.free) = false := by simpa using hfree _ hx
    simp [this]
  rw [e] at h
  rcases h with h | h
  · exact absurd rfl (hcell _ (PySem.mem_of_lookup h))
  · exact absurd rfl (hfree _ (PySem.mem_of_lookup h))

def cxComp (X : Cx) (N' : List Str) (scope : Scope) (cl : List (Str × Addr)) (fp : List Addr) (s₃ : Shared) (H₃ : Hp) : Cx where
  prog := X.prog
  w := X.w
  K := X.K
  mg := X.mg
  base := X.base
  A := X.A
  N := N'
  s₀ := s₃
  H₀ := H₃
  env := compEnvC scope cl s₃.heap.objs.size X.env
  outer := X.stack
  stack := X.stack
  ex := fp
  calm := X.calm
  fn := fun _ => false
  pn := []
  xe := fun _ _ => False

/-- the free names' values -/
def fvs (σ : St) (ix : List Nat) : St := ix.map fun i => (σ[i]?).join
def tLC (wi : TI) (ix : List Nat) (te : TE) : TE := fun σ H Q => wi σ H fun J H1 => ∀ D, H1 D = none →
  ∃ W : Nat → Nat → List V → Hp → Prop, (∃ m, W 0 m [] (upd H1 D (.lst []))) ∧
    ∀ i m ys H', W i m ys H' → H' D = some (.lst ys) ∧
      ((J.stop i H' ∧ Q (.ref D) H') ∨ (J.go i H' ∧ ∀ x H'', J.yld i H' x H'' → te (some x :: fvs σ ix) H'' fun y H3 =>
        H3 D = some (.lst ys) ∧ ys.length < sizeLine ∧ ∃ m', m' < m ∧ W (i + 1) m' (ys ++ [y]) (upd H3 D (.lst (ys ++ [y])))))

/-- the loop of a comprehension, with the step ahead of the store -/
theorem compLoop_go {prog : Program} {w : World} {A : Around} {R : Result → Shared → Prop} {s : Shared} {elt target iter : Expr} {scope : Scope} {pos : Pos} {it acc : Value} {env : Env} (I : Nat → Shared → Prop)
    (turn : ∀ n s, I n s → wpAny (model prog w) A (pyNext it) (fun r s₁ => match r with
      | none => R (.ok .next) s₁
      | some v => wpAny (model prog w) A (letOwnedTupleGo target it v) (fun _ s₁' => wpAny (model prog w) A (assign target env v) (fun _ s₂ => wpAny (model prog w) A (eval elt env) (fun x s₃ =>
          wpAny (model prog w) A (call (.builtin "list.append") [acc, x]) (fun _ s₄ => ∃ m, m < n ∧ I m s₄) (notedBy (model prog w) A env fun e s' => R (.error e) s') s₃)
          (notedBy (model prog w) A env fun e s' => R (.error e) s') s₂) (notedBy (model prog w) A env fun e s' => R (.error e) s') s₁') (notedBy (model prog w) A env fun e s' => R (.error e) s') s₁) (notedBy (model prog w) A env fun e s' => R (.error e) s') s)
    (n : Nat) (h : I n s) :
    codeAny (model prog w) A (.compLoop (.ListComp elt [⟨target, iter, [], 0⟩] scope pos) 0 it acc env) R s := by
  refine codeAny_loop rfl I (fun n s hI => ?_) n h
  show wpAny _ _ ((compTurn (.ListComp elt [⟨target, iter, [], 0⟩] scope pos) 0 it acc env).onRaise (fun x => do noteFrame x env; theTreesLotGoes x)) _ _ s
  refine wpAny_noted ?_
  rw [compTurn_list1]
  refine wpAny_bind (wpAny_standAt (wpAny_bind (wpAny_mono (turn n s hI) (fun r s₁ h₁ => ?_) fun _ _ h' => h')))
  cases r with
  | none => exact wpAny_pure h₁
  | some v =>
    refine wpAny_bind (wpAny_mono h₁ (fun _ s₁' h₁' => ?_) fun _ _ h' => h')
    exact wpAny_bind (wpAny_mono h₁' (fun _ s₂ h₂ => wpAny_bind (wpAny_bind (wpAny_mono h₂ (fun x s₃ h₃ => wpAny_bind (wpAny_mono h₃
      (fun _ s₄ h₄ => wpAny_pure (wpAny_pure ⟨rfl, h₄⟩)) fun _ _ h' => h')) fun _ _ h' => h'))) fun _ _ h' => h')

section
variable {X : Cx} {N' : List Str} {scope : Scope} {cl : List (Str × Addr)} {fp : List Addr} {pins : List (Addr × Obj)} {σ : St} {H : Hp} {s : Shared}
/-- the block's context stands -/
theorem comp_ok (I : Inv X pins σ H s) (C : Clo X scope cl) (hkind : scope.kind = .function) (hf : ∀ b ∈ fp, FpOk X pins H b) (hlt : ∀ b ∈ fp, b < s.heap.objs.size) : (cxComp X N' scope cl fp s H).Ok where
  mod := I.ok.mod
  kind := hkind
  glob := I.ok.glob
  blt := I.ok.blt
  above := Nat.le_refl _
  inj := fun x y c h1 h2 => I.ok.inj x y c (C.sub x c h1) (C.sub y c h2)
  has := fun x h => C.has x h
  cab := fun x c h => by cases (show false = true from h)
  hd := I.ok.hd
  frames := I.ok.frames
  stk := .inl rfl
  exf := fun b hb => ⟨Nat.ne_of_lt (hlt b hb), fun x c h => (hf b hb).2.2.2.2.1 x c (C.sub x c h)⟩
  bs := fun b o h => I.bs b o h
  bsz := Nat.le_trans I.ok.bsz I.sz
  noex := fun b o h hb => by
    rcases (hf b hb).2.2.2.1 with z | z
    · exact I.ok.noex b o h z
    · exact absurd (Nat.lt_of_lt_of_le (Heap.lt_size h) (Nat.le_trans I.ok.bsz z)) (Nat.lt_irrefl _)
  exfs := fun b hb hs => by
    rcases List.mem_cons.mp (I.stkSub b hs) with z | z
    · exact (hf b hb).2.1 z
    · exact (hf b hb).2.2.1 z
  funs := I.stack
  frf := I.stkFree
/-- the block's entry -/
theorem comp_start {ix : List Nat} {h₁ : Heap} {t' : Nat} {m : Str → Option Value} (I : Inv X pins σ H s) (C : Clo X scope cl) (hkind : scope.kind = .function) (hf : ∀ b ∈ fp, FpOk X pins H b) (hlt : ∀ b ∈ fp, b < s.heap.objs.size)
    (hlen : N'.length = ix.length + 1) (hix : ∀ (j i : Nat), ix[j]? = some i → ∃ y, X.N[i]? = some y ∧ N'[j + 1]? = some y ∧ (X.env.kindOf y = some .cell ∨ X.env.kindOf y = some .free) ∧ ((relabel scope X.env).names.lookup y = some .cell ∨ (relabel scope X.env).names.lookup y = some .free))
    (hn : h₁.Ns s.heap.objs.size m) (hk : ∀ b o, s.heap.get? b = some o → h₁.get? b = some o) : Inv (cxComp X N' scope cl fp s H) [] (none :: fvs σ ix) H { s with heap := h₁, toks := t' } := by
  have cellK : ∀ x c, cl.lookup x = some c → ∃ v, h₁.IsCell c v := fun x c h => by
    obtain ⟨v, o, ho, hd⟩ := I.cell x c (C.sub x c h)
    exact ⟨v, o, hk c o ho, hd⟩
  refine ⟨comp_ok I C hkind hf hlt, rfl, I.bare, Un.kept hk, ⟨m, hn, fun i y v h1 h2 h3 => ?_⟩, cellK, I.hok.fresh (Nat.le_refl _), fun x c h => I.freeC x c (C.sub x c h), fun p hp => absurd (show p ∈ ([] : List (Addr × Obj)) from hp) (by simp), I.hok.kept hk, ?_⟩
  · cases i with
    | zero => cases (show some (none : Option V) = some (some v) from h2)
    | succ j =>
      have h2' : (fvs σ ix)[j]? = some (some v) := h2
      unfold fvs at h2'
      rw [List.getElem?_map] at h2'
      cases e : ix[j]? with
      | none => rw [e] at h2'; cases h2'
      | some i =>
        rw [e] at h2'
        have h4 : (σ[i]?).join = some v := Option.some.inj h2'
        have h5 : σ[i]? = some (some v) := by
          cases e' : σ[i]? with
          | none => rw [e'] at h4; cases h4
          | some q =>
            rw [e'] at h4
            have h6 : q = some v := h4
            rw [h6]
        obtain ⟨y', n1, n2, k1, k2⟩ := hix j i e
        have ey : y' = y := Option.some.inj (n2.symm.trans h1)
        subst ey
        obtain ⟨m0, hn0, hl0⟩ := I.loc
        have hv0 : Vis X.env.scope y' := k1.elim (fun z => .inr (.inl z)) fun z => .inr (.inr z)
        obtain ⟨u, ru, l⟩ := hl0 i y' v n1 h5 hv0
        refine ⟨u, ru, .inr ⟨k2, ?_⟩⟩
        rcases l with ⟨k, _⟩ | ⟨_, c, ec, o, ho, hd⟩
        · rcases k1 with z | z
          · rw [z] at k; cases k
          · rw [z] at k; cases k
        · obtain ⟨c', ec'⟩ := C.has y' k2
          have : c' = c := Option.some.inj ((C.sub _ _ ec').symm.trans ec)
          subst this
          exact ⟨c', ec', o, hk c' o ho, hd⟩
  · show (none :: fvs σ ix : St).length = N'.length
    rw [hlen]
    simp [fvs]
/-- the block is left -/
theorem comp_end {σ' : St} {H' : Hp} {s' : Shared} {h' : Heap} (I : Inv X pins σ H s) (J : Inv (cxComp X N' scope cl fp s H) [] σ' H' s') (hf : ∀ b ∈ fp, FpOk X pins H b) (hs : Heap.SameBut s.heap.objs.size s'.heap h') : Inv X pins σ H' { s' with heap := h' } := by
  have ne : ∀ b o, s.heap.get? b = some o → b ≠ s.heap.objs.size := fun b o e => Nat.ne_of_lt (Heap.lt_size e)
  have eq : ∀ b, b ≠ s.heap.objs.size → h'.get? b = s'.heap.get? b := fun b hb => hs.2 b hb
  have B := J.base
  have u : Un (frs X.stack) fp H H' s.heap h' :=
    ⟨fun b o e n h1 h2 => (eq b (ne b o e)).trans (B.keep b o e n h1 h2), fun b o e n h1 h2 => by
      obtain ⟨sl, q⟩ := B.slot b o e n h1 h2
      exact ⟨sl, (eq b (ne b o e)).trans q⟩, fun b o e n h1 => B.free b o e n h1, fun b o e h1 => by
      obtain ⟨o', q⟩ := B.there b o e h1
      exact ⟨o', (eq b (ne b o e)).trans q⟩, B.tups, B.frzs, B.tbls⟩
  have hfree : H' s.heap.objs.size = none := J.free
  have hok : HOk X.prog X.w H' h' := fun b ob e => by
    refine (J.hok b ob e).stay (fun c w' hc q => (eq c ?_).trans q) (fun _ q => q) fun _ _ q => q
    rintro rfl
    rcases hc with z | z
    · rw [← z, hfree] at e; cases e
    · rw [hfree] at z; cases z
  exact I.call' (s' := { s' with heap := h' }) (ch := fp) J.os u hok J.bare fun b hb => ⟨(hf b hb).2.2.2.1, (hf b hb).2.1, (hf b hb).2.2.2.2.1, (hf b hb).2.2.2.2.2⟩
end

section
variable {X : Cx} {N' : List Str} {scope : Scope} {elt iter : Expr} {x : Str} {px pos : Pos} {wi : TI} {te : TE} {ix : List Nat}
theorem pe_lc (hc : X.calm = true) (hkind : scope.kind = .function) (hcell : ∀ y ∈ scope.names, y.2 ≠ .cell) (hnames : ∀ y ∈ scope.names, y.2 = .local → scope.names.lookup y.1 = some .local) (hx : scope.names.lookup x = some .local)
    (hclo : X.Ok → ∃ cl, Clo X scope cl) (hN : N'.Nodup) (hN0 : N'[0]? = some x) (hlen : N'.length = ix.length + 1)
    (hix : ∀ (j i : Nat), ix[j]? = some i → ∃ y, X.N[i]? = some y ∧ N'[j + 1]? = some y ∧ (X.env.kindOf y = some .cell ∨ X.env.kindOf y = some .free) ∧ ((relabel scope X.env).names.lookup y = some .cell ∨ (relabel scope X.env).names.lookup y = some .free))
    (hi : PI X (.Name x px) iter wi) (he : ∀ cl fp s₃ H₃, PE (cxComp X N' scope cl fp s₃ H₃) elt te) (hs : ∀ v, foldedSetIterable iter X.env v = pure v := by intro _; rfl) :
    PE X (.ListComp elt [⟨.Name x px, iter, [], 0⟩] scope pos) (tLC wi ix te) := by
  intro pins s σ H Q I h
  obtain ⟨cl, C⟩ := hclo I.ok
  rw [eval_ListComp]
  refine wpAny_comprehension_free (use := none) rfl hs C.eq hkind hnames (thn (hi pins s σ H _ I h) fun v s1 h1 => thn h1 fun itv s2 h2 => ?_)
  obtain ⟨it, fp, tn, J, H2, e, I2, T, st2, f2, q2⟩ := h2
  subst e
  have hD : H2 s2.heap.objs.size = none := I2.fresh
  obtain ⟨W, ⟨m0, w0⟩, turn⟩ := q2 s2.heap.objs.size hD
  refine wpAny_newObj_type (wpAny_newFunctionEnv hcell (by intro y hy; simp at hy) (fun h₁ hns₁ hsb₁ => ?_) hkind)
  dsimp only at hns₁ hsb₁ ⊢
  have I3 : Inv X pins σ (upd H2 s2.heap.objs.size (.lst [])) { s2 with heap := s2.heap.push { cls := .type "list", data := .seq ([] : List Value).toArray }, toks := s2.toks } := I2.lnew .nil (Nat.zero_le _)
  generalize hs3 : ({ s2 with heap := s2.heap.push { cls := .type "list", data := .seq ([] : List Value).toArray }, toks := s2.toks } : Shared) = s3 at I3
  have e3 : s3.heap = s2.heap.push { cls := .type "list", data := .seq ([] : List Value).toArray } := by rw [← hs3]
  generalize hDD : s2.heap.objs.size = D at *
  generalize hH3 : upd H2 D (.lst []) = H3 at *
  have lt2 : ∀ b ∈ fp, b < s2.heap.objs.size := fun b hb => by
    obtain ⟨o, ho, _⟩ := T.obj 0 _ st2 b hb
    exact Heap.lt_size ho
  have neD : ∀ b ∈ fp, b ≠ D := fun b hb => by rw [← hDD]; exact Nat.ne_of_lt (lt2 b hb)
  have f3 : ∀ b ∈ fp, FpOk X pins H3 b := fun b hb => ⟨by rw [← hH3, upd_ne (neD b hb)]; exact (f2 b hb).1, (f2 b hb).2⟩
  have sz3 : s3.heap.objs.size = D + 1 := by rw [e3, Heap.size_push, hDD]
  have lt3 : ∀ b ∈ fp, b < s3.heap.objs.size := fun b hb => by have q := lt2 b hb; rw [sz3]; rw [hDD] at q; exact Nat.lt_succ_of_lt q
  have old : ∀ b o, s3.heap.get? b = some o → h₁.get? b = some o := fun b o eb => by
    have hb : b < D + 1 := by rw [← sz3]; exact Heap.lt_size eb
    refine hsb₁.extBut b o ?_ (Heap.get?_push_of_some _ (by rw [← e3]; exact eb))
    rw [Heap.size_push, hDD]
    exact Nat.ne_of_lt hb
  have szC : (s2.heap.push { cls := .type "list", data := .seq ([] : List Value).toArray }).objs.size = s3.heap.objs.size := by rw [e3]
  have os3 : s3.os = s2.os := by rw [← hs3]
  rw [szC] at hns₁ hsb₁
  have I4 : Inv (cxComp X N' scope cl fp s3 H3) [] (none :: fvs σ ix) H3 { s3 with heap := h₁, toks := s2.toks + ([] : List (Str × Value)).length } := comp_start I3 C hkind f3 lt3 hlen hix hns₁ old
  have st4 : tn 0 h₁ := T.keep 0 _ _ st2 fun b hb o eb => old b o (by rw [e3]; exact Heap.get?_push_of_some _ eb)
  have stat : ∀ {H' : Hp}, (∀ b ∈ fp, H' b = none) → ∀ b ∈ fp, FpOk (cxComp X N' scope cl fp s3 H3) [] H' b := fun hn b hb =>
    ⟨hn b hb, Nat.ne_of_lt (lt3 b hb), fun hs' => (comp_ok (N' := N') I3 C hkind f3 lt3).exfs b hb hs', .inl hb, fun y c hy => ((comp_ok (N' := N') I3 C hkind f3 lt3).exf b hb).2 y c hy, fun p hp => absurd (show p ∈ ([] : List (Addr × Obj)) from hp) (by simp)⟩
  have loop : ∀ s4 : Shared, s4 = { s3 with heap := h₁, toks := s2.toks + ([] : List (Str × Value)).length } →
      codeAny (model X.prog X.w) X.A (.compLoop (.ListComp elt [⟨.Name x px, iter, [], 0⟩] scope pos) 0 (.ref it) (.ref D) (compEnvC scope cl s3.heap.objs.size X.env))
        (compPost (model X.prog X.w) X.A X.xe none (EP X pins σ Q) (.ref D) s3.heap.objs.size) s4 := by
    rintro s4 rfl
    refine compLoop_go (fun n s' => ∃ i σ0 H' ys, Inv (cxComp X N' scope cl fp s3 H3) [] (σ0 :: fvs σ ix) H' s' ∧ tn i s'.heap ∧ (∀ b ∈ fp, H' b = none) ∧ W i n ys H') ?_ m0 ⟨0, none, H3, [], I4, st4, fun b hb => (f3 b hb).1, w0⟩
    rintro n s5 ⟨i, σ0, H5, ys, I5, st5, fr5, w5⟩
    obtain ⟨hD5, alt⟩ := turn i n ys H5 w5
    rcases alt with ⟨stop, q⟩ | ⟨go, step⟩
    · refine thn (T.done (cxComp X N' scope cl fp s3 H3) rfl rfl rfl hc i [] s5 _ H5 _ I5 (stat fr5) st5 stop) fun r s6 ⟨hr, I6⟩ => ?_
      subst hr
      obtain ⟨m, hn, _⟩ := I6.loc
      exact ⟨m, hn, fun h' hsb => ⟨.ref D, H5, comp_end I3 I6 f3 hsb, rfl, q⟩⟩
    · refine thn (T.item (cxComp X N' scope cl fp s3 H3) rfl rfl rfl hc i [] s5 _ H5 _ I5 (stat fr5) st5 go) fun r s6 ⟨u, hr, h6⟩ => ?_
      subst hr
      refine thn h6 fun _ s7 ⟨y7, H7, I7, r7, yl7, st7, fr7⟩ => ?_
      have I7' := I7.pinned (stat fr7) (T.obj _ _ st7)
      have G : PG (cxComp X N' scope cl fp s3 H3) (.Name x px) (gName 0) := pg_name hN hN0 (.inl (lookup_relabel_local hx)) (.inr (lookup_relabel_local hx))
      refine wpAny_mono (G _ s7 _ H7 y7 u (fun σ' H' => σ' = some y7 :: fvs σ ix ∧ H' = H7) I7' r7 ⟨rfl, rfl⟩) (fun _ s8 h8 => ?_) fun _ _ f => False.elim f
      obtain ⟨σ8, H8, I8, rfl, rfl⟩ := h8
      refine wpAny_mono (he cl fp s3 H3 _ s8 _ H8 _ I8 (step y7 H8 yl7)) (fun yv s9 h9 => ?_) fun _ _ f => False.elim f
      obtain ⟨y9, H9, I9, r9, hD9, hl9, m', hm', w9⟩ := h9
      refine wpAny_mono (mt_append (X := cxComp X N' scope cl fp s3 H3) _ s9 _ H9 (.ref D) [y9] (.ref D) [yv] (fun _ H' => H' = upd H9 D (.lst (ys ++ [y9]))) I9 rfl (.cons r9 .nil) ⟨D, ys, y9, rfl, rfl, hD9, hl9, rfl⟩) (fun _ s10 h10 => ?_) fun _ _ f => False.elim f
      obtain ⟨_, H10, I10, _, rfl⟩ := h10
      refine ⟨m', hm', i + 1, some y7, _, ys ++ [y9], I10.unpinned, T.keep _ _ _ st7 fun b hb o eb => (I10.pin (b, o) (List.mem_append_right _ (List.mem_append_right _ (mem_pinsAt hb eb)))).1, fun b hb => ?_, w9⟩
      obtain ⟨o, eb, d⟩ := T.obj _ _ st7 b hb
      exact (I10.pin (b, o) (List.mem_append_right _ (List.mem_append_right _ (mem_pinsAt hb eb)))).2.1
  subst hs3
  have fin := codeAny_compStart_list (loop _ rfl) (T.self X.A 0 _ _ _ st4 (loop _ rfl))
  exact fin
end
end L2

/-! OWN RULES: texts with fields, lists or tuples walked, closures of comprehensions, comprehensions with a test. Behind Ext. -/
namespace L2
open PySem PySem.Spec PyProof.Rows
section
variable {X : Cx} {e l : Expr} {es : List Expr} {te tl : TE} {pos : Pos} {tg : Expr}
/-! ### f-strings -/
def tFmt (te : TE) : TE := fun σ H Q => te σ H fun x H1 => (∃ z, x = .str z ∧ z.length ≤ sizeLine ∧ Q (.str z) H1) ∨ ∃ i : Int, x = .int i ∧ i.natAbs.log2 < 1920 ∧ Q (.str (toString i)) H1
def tRepr (te : TE) : TE := fun σ H Q => te σ H fun x H1 => ∃ z, x = .str z ∧ (reprText z).length ≤ sizeLine ∧ Q (.str (reprText z)) H1
abbrev TJ := St → Hp → Str → (Str → Hp → Prop) → Prop
def PJ (X : Cx) (es : List Expr) (t : TJ) : Prop :=
  ∀ (pins : List (Addr × Obj)) (s : Shared) (σ : St) (H : Hp) (acc : Str) (Q : Str → Hp → Prop) (R : Str → Shared → Prop), Inv X pins σ H s → t σ H acc Q → (∀ out s1 H1, Inv X pins σ H1 s1 → Q out H1 → R out s1) → Joins (model X.prog X.w) X.A X.xe (evalEach es X.env) acc R s
def jNil : TJ := fun _ H acc Q => Q acc H
def jCons (te : TE) (t : TJ) : TJ := fun σ H acc Q => te σ H fun x H1 => ∃ y, x = .str y ∧ (acc ++ y).length ≤ sizeLine ∧ t σ H1 (acc ++ y) Q
def tJoined (t : TJ) : TE := fun σ H Q => t σ H Str.empty fun out H1 => out.length ≤ sizeLine ∧ Q (.str out) H1
/-! ### a list or a tuple walked -/
def iSeq (K : PySem.W.Frag) (tl : TE) : TI := fun σ H R => tl σ H fun x H1 => ∃ a, x = .ref a ∧ (((∃ xs, SqL K H1 a xs) ∧ R (Itl K a) H1) ∨ ((∃ xs, SqT K H1 a xs) ∧ R (Itt K a) H1))
end

/-! ### a comprehension's closure -/
theorem clo_loop {env : Env} : ∀ (l : List (Str × NameKind)) (acc : List (Str × Addr)), (∀ y ∈ l, y.2 = .free → ∃ c, env.cells.lookup y.1 = some c) →
    ∃ cl, (forIn l acc (fun (y : Str × NameKind) cs => if (y.2 == NameKind.free) = true then do let c ← cellOf env y.1; pure (ForInStep.yield ((y.1, c) :: cs)) else pure (ForInStep.yield cs)) : Sem (List (Str × Addr))) = pure cl ∧
      (∀ y c, cl.lookup y = some c → acc.lookup y = some c ∨ env.cells.lookup y = some c) ∧ ∀ y, ((y, NameKind.free) ∈ l ∨ ∃ c, acc.lookup y = some c) → ∃ c, cl.lookup y = some c
  | [], acc, _ => ⟨acc, rfl, fun _ _ h => .inl h, fun y h => h.elim (fun z => by cases z) fun z => z⟩
  | (n, k) :: r, acc, hf => by
    by_cases hk : k = .free
    · subst hk
      obtain ⟨c, hc⟩ := hf (n, .free) List.mem_cons_self rfl
      obtain ⟨cl, e1, e2, e3⟩ := clo_loop r ((n, c) :: acc) fun y hy => hf y (List.mem_cons_of_mem _ hy)
      refine ⟨cl, ?_, fun y d h => ?_, fun y h => ?_⟩
      · rw [List.forIn_cons]
        have ec : cellOf env n = pure c := by unfold cellOf; rw [show env.cells.lookup n = some c from hc]
        have eb : (NameKind.free == NameKind.free) = true := rfl
        simp only [eb, if_true, ec, pure_bind]
        exact e1
      · rcases e2 y d h with z | z
        · by_cases hy : y = n
          · subst hy
            rw [List.lookup_cons, beq_self_eq_true] at z
            cases z
            exact .inr hc
          · rw [List.lookup_cons, beq_eq_false_iff_ne.mpr hy] at z
            exact .inl z
        · exact .inr z
      · refine e3 y ?_
        by_cases hy : y = n
        · subst hy
          exact .inr ⟨c, by rw [List.lookup_cons, beq_self_eq_true]⟩
        · rcases h with z | ⟨d, z⟩
          · rcases List.mem_cons.mp z with z | z
            · exact absurd (congrArg Prod.fst z) hy
            · exact .inl z
          · exact .inr ⟨d, by rw [List.lookup_cons, beq_eq_false_iff_ne.mpr hy]; exact z⟩
    · obtain ⟨cl, e1, e2, e3⟩ := clo_loop r acc fun y hy => hf y (List.mem_cons_of_mem _ hy)
      refine ⟨cl, ?_, e2, fun y h => e3 y ?_⟩
      · rw [List.forIn_cons]
        have hb : (k == NameKind.free) = false := by simpa using hk
        simp only [hb, Bool.false_eq_true, if_false, pure_bind]
        exact e1
      · rcases h with z | z
        · rcases List.mem_cons.mp z with z | z
          · exact absurd (congrArg Prod.snd z).symm hk
          · exact .inl z
        · exact .inr z
theorem clo_of {X : Cx} {scope sc : Scope} (ok : X.Ok) (hsc : X.env.scope = sc) (hcell : ∀ x ∈ scope.names, x.2 ≠ .cell)
    (hf : ∀ y ∈ scope.names, y.2 = .free → sc.names.lookup y.1 = some .cell ∨ sc.names.lookup y.1 = some .free) : ∃ cl, Clo X scope cl := by
  obtain ⟨cl, e1, e2, e3⟩ := clo_loop (env := X.env) scope.names [] fun y hy h => ok.has y.1 (by
    show X.env.scope.names.lookup y.1 = _ ∨ X.env.scope.names.lookup y.1 = _
    rw [hsc]
    exact hf y hy h)
  refine ⟨cl, ?_, fun y c h => (e2 y c h).elim (fun z => by cases z) fun z => z, fun y h => e3 y (.inl ?_)⟩
  · unfold closureFor
    have e0 : (forIn scope.names ([] : List (Str × Addr)) (fun (x : Str × NameKind) cs => match x with
        | (name, kind) => if (kind == NameKind.free) = true then do let c ← cellOf X.env name; pure (ForInStep.yield ((name, c) :: cs)) else pure (ForInStep.yield cs)) : Sem (List (Str × Addr))) = pure cl := e1
    show (forIn scope.names ([] : List (Str × Addr)) _ >>= fun z => pure z) = pure cl
    rw [bind_pure]
    exact e0
  · have m : ∃ k, (k = .cell ∨ k = .free) ∧ (y, k) ∈ (relabel scope X.env).names := by
      rcases h with h | h
      · exact ⟨_, .inl rfl, PySem.mem_of_lookup h⟩
      · exact ⟨_, .inr rfl, PySem.mem_of_lookup h⟩
    obtain ⟨k, hk, hm⟩ := m
    unfold relabel at hm
    obtain ⟨⟨n0, k0⟩, h0, ez⟩ := List.mem_map.mp hm
    by_cases hc : (k0 == NameKind.free && X.env.scope.kind == .function && X.env.kindOf n0 == some .cell) = true
    · dsimp only at ez
      rw [if_pos hc] at ez
      have en : n0 = y := congrArg Prod.fst ez
      have ef : k0 = .free := by
        rw [Bool.and_eq_true, Bool.and_eq_true] at hc
        simpa using hc.1.1
      rw [en, ef] at h0
      exact h0
    · dsimp only at ez
      rw [if_neg hc] at ez
      have en : n0 = y := congrArg Prod.fst ez
      have ek : k0 = k := congrArg Prod.snd ez
      rw [en, ek] at h0
      rcases hk with z | z
      · exact absurd z (hcell _ h0)
      · rw [z] at h0
        exact h0

/-! ### [elt for x in iter if c] -/
def tLCI (wi : TI) (ix : List Nat) (tc : TT) (te : TE) : TE := fun σ H Q => wi σ H fun J H1 => ∀ D, H1 D = none →
  ∃ W : Nat → Nat → List V → Hp → Prop, (∃ m, W 0 m [] (upd H1 D (.lst []))) ∧
    ∀ i m ys H', W i m ys H' → H' D = some (.lst ys) ∧
      ((J.stop i H' ∧ Q (.ref D) H') ∨ (J.go i H' ∧ ∀ x H'', J.yld i H' x H'' → tc (some x :: fvs σ ix) H'' fun b H3 =>
        if b = true then te (some x :: fvs σ ix) H3 fun y H4 => H4 D = some (.lst ys) ∧ ys.length < sizeLine ∧ ∃ m', m' < m ∧ W (i + 1) m' (ys ++ [y]) (upd H4 D (.lst (ys ++ [y])))
        else ∃ m', m' < m ∧ W (i + 1) m' ys H3))
theorem compLoop_goI {prog : Program} {w : World} {A : Around} {R : Result → Shared → Prop} {s : Shared} {elt target iter c : Expr} {scope : Scope} {pos : Pos} {it acc : Value} {env : Env} (J : Nat → Shared → Prop)
    (step : ∀ n s, J n s → wpAny (model prog w) A (pyNext it) (fun r s1 => match r with
      | none => R (.ok .next) s1
      | some v => wpAny (model prog w) A (letOwnedTupleGo target it v) (fun _ s2 => wpAny (model prog w) A (assign target env v) (fun _ s3 => wpAny (model prog w) A (isTrue c env (eval c env)) (fun b s4 => if b = true then wpAny (model prog w) A (eval elt env) (fun x s5 =>
          wpAny (model prog w) A (call (.builtin "list.append") [acc, x]) (fun _ s6 => ∃ m, m < n ∧ J m s6) (notedBy (model prog w) A env fun e s' => R (.error e) s') s5) (notedBy (model prog w) A env fun e s' => R (.error e) s') s4
          else ∃ m, m < n ∧ J m s4) (notedBy (model prog w) A env fun e s' => R (.error e) s') s3)
          (notedBy (model prog w) A env fun e s' => R (.error e) s') s2) (notedBy (model prog w) A env fun e s' => R (.error e) s') s1) (notedBy (model prog w) A env fun e s' => R (.error e) s') s)
    (n : Nat) (h0 : J n s) : codeAny (model prog w) A (.compLoop (.ListComp elt [⟨target, iter, [c], 0⟩] scope pos) 0 it acc env) R s := by
  refine codeAny_loop rfl J (fun n s hJ => ?_) n h0
  show wpAny _ A ((compTurn (.ListComp elt [⟨target, iter, [c], 0⟩] scope pos) 0 it acc env).onRaise (fun x => do noteFrame x env; theTreesLotGoes x)) _ _ s
  refine wpAny_noted ?_
  rw [compTurn_list]
  refine wpAny_bind (wpAny_standAt (wpAny_bind (wpAny_mono (step n s hJ) (fun r s1 h1 => ?_) fun _ _ z => z)))
  cases r with
  | none => exact wpAny_pure h1
  | some v =>
    refine wpAny_bind (wpAny_mono h1 (fun _ s2 h2 => ?_) fun _ _ z => z)
    refine wpAny_bind (wpAny_mono h2 (fun _ s3 h3 => ?_) fun _ _ z => z)
    refine wpAny_bind ?_
    rw [List.forIn_cons]
    refine wpAny_bind ?_
    rw [if_pos rfl]
    refine wpAny_bind (wpAny_mono h3 (fun b s4 h4 => wpAny_pure ?_) fun _ _ z => z)
    show wpAny _ A (forIn ([] : List Expr) b _) _ _ s4
    rw [List.forIn_nil]
    refine wpAny_pure ?_
    cases b with
    | false => exact wpAny_pure ⟨rfl, h4⟩
    | true => exact wpAny_bind (wpAny_bind (wpAny_mono h4 (fun x s5 h5 => wpAny_bind (wpAny_mono h5 (fun _ s6 h6 => wpAny_pure (wpAny_pure ⟨rfl, h6⟩)) fun _ _ z => z)) fun _ _ z => z))
section
variable {X : Cx} {N' : List Str} {scope : Scope} {elt iter c : Expr} {x : Str} {px pos : Pos} {wi : TI} {tc : TT} {te : TE} {ix : List Nat}
theorem pe_lci (hc : X.calm = true) (hkind : scope.kind = .function) (hcell : ∀ y ∈ scope.names, y.2 ≠ .cell) (hnames : ∀ y ∈ scope.names, y.2 = .local → scope.names.lookup y.1 = some .local) (hx : scope.names.lookup x = some .local)
    (hclo : X.Ok → ∃ cl, Clo X scope cl) (hN : N'.Nodup) (hN0 : N'[0]? = some x) (hlen : N'.length = ix.length + 1)
    (hix : ∀ (j i : Nat), ix[j]? = some i → ∃ y, X.N[i]? = some y ∧ N'[j + 1]? = some y ∧ (X.env.kindOf y = some .cell ∨ X.env.kindOf y = some .free) ∧ ((relabel scope X.env).names.lookup y = some .cell ∨ (relabel scope X.env).names.lookup y = some .free))
    (hi : PI X (.Name x px) iter wi) (ht : ∀ cl fp s₃ H₃, PT (cxComp X N' scope cl fp s₃ H₃) c tc) (he : ∀ cl fp s₃ H₃, PE (cxComp X N' scope cl fp s₃ H₃) elt te) (hs : ∀ v, foldedSetIterable iter X.env v = pure v := by intro _; rfl) :
    PE X (.ListComp elt [⟨.Name x px, iter, [c], 0⟩] scope pos) (tLCI wi ix tc te) := by
  intro pins s σ H Q I h
  obtain ⟨cl, C⟩ := hclo I.ok
  rw [eval_ListComp]
  refine wpAny_comprehension_free (use := none) rfl hs C.eq hkind hnames (thn (hi pins s σ H _ I h) fun v s1 h1 => thn h1 fun itv s2 h2 => ?_)
  obtain ⟨it, fp, tn, J, H2, e, I2, T, st2, f2, q2⟩ := h2
  subst e
  have hD : H2 s2.heap.objs.size = none := I2.fresh
  obtain ⟨W, ⟨m0, w0⟩, turn⟩ := q2 s2.heap.objs.size hD
  refine wpAny_newObj_type (wpAny_newFunctionEnv hcell (by intro y hy; simp at hy) (fun h₁ hns₁ hsb₁ => ?_) hkind)
  dsimp only at hns₁ hsb₁ ⊢
  have I3 : Inv X pins σ (upd H2 s2.heap.objs.size (.lst [])) { s2 with heap := s2.heap.push { cls := .type "list", data := .seq ([] : List Value).toArray }, toks := s2.toks } := I2.lnew .nil (Nat.zero_le _)
  generalize hs3 : ({ s2 with heap := s2.heap.push { cls := .type "list", data := .seq ([] : List Value).toArray }, toks := s2.toks } : Shared) = s3 at I3
  have e3 : s3.heap = s2.heap.push { cls := .type "list", data := .seq ([] : List Value).toArray } := by rw [← hs3]
  generalize hDD : s2.heap.objs.size = D at *
  generalize hH3 : upd H2 D (.lst []) = H3 at *
  have lt2 : ∀ b ∈ fp, b < s2.heap.objs.size := fun b hb => by
    obtain ⟨o, ho, _⟩ := T.obj 0 _ st2 b hb
    exact Heap.lt_size ho
  have neD : ∀ b ∈ fp, b ≠ D := fun b hb => by rw [← hDD]; exact Nat.ne_of_lt (lt2 b hb)
  have f3 : ∀ b ∈ fp, FpOk X pins H3 b := fun b hb => ⟨by rw [← hH3, upd_ne (neD b hb)]; exact (f2 b hb).1, (f2 b hb).2⟩
  have sz3 : s3.heap.objs.size = D + 1 := by rw [e3, Heap.size_push, hDD]
  have lt3 : ∀ b ∈ fp, b < s3.heap.objs.size := fun b hb => by have q := lt2 b hb; rw [sz3]; rw [hDD] at q; exact Nat.lt_succ_of_lt q
  have old : ∀ b o, s3.heap.get? b = some o → h₁.get? b = some o := fun b o eb => by
    have hb : b < D + 1 := by rw [← sz3]; exact Heap.lt_size eb
    refine hsb₁.extBut b o ?_ (Heap.get?_push_of_some _ (by rw [← e3]; exact eb))
    rw [Heap.size_push, hDD]
    exact Nat.ne_of_lt hb
  have szC : (s2.heap.push { cls := .type "list", data := .seq ([] : List Value).toArray }).objs.size = s3.heap.objs.size := by rw [e3]
  rw [szC] at hns₁ hsb₁
  have I4 : Inv (cxComp X N' scope cl fp s3 H3) [] (none :: fvs σ ix) H3 { s3 with heap := h₁, toks := s2.toks + ([] : List (Str × Value)).length } := comp_start I3 C hkind f3 lt3 hlen hix hns₁ old
  have st4 : tn 0 h₁ := T.keep 0 _ _ st2 fun b hb o eb => old b o (by rw [e3]; exact Heap.get?_push_of_some _ eb)
  have stat : ∀ {H' : Hp}, (∀ b ∈ fp, H' b = none) → ∀ b ∈ fp, FpOk (cxComp X N' scope cl fp s3 H3) [] H' b := fun hn b hb =>
    ⟨hn b hb, Nat.ne_of_lt (lt3 b hb), fun hs' => (comp_ok (N' := N') I3 C hkind f3 lt3).exfs b hb hs', .inl hb, fun y c hy => ((comp_ok (N' := N') I3 C hkind f3 lt3).exf b hb).2 y c hy, fun p hp => absurd (show p ∈ ([] : List (Addr × Obj)) from hp) (by simp)⟩
  have loop : ∀ s4 : Shared, s4 = { s3 with heap := h₁, toks := s2.toks + ([] : List (Str × Value)).length } →
      codeAny (model X.prog X.w) X.A (.compLoop (.ListComp elt [⟨.Name x px, iter, [c], 0⟩] scope pos) 0 (.ref it) (.ref D) (compEnvC scope cl s3.heap.objs.size X.env))
        (compPost (model X.prog X.w) X.A X.xe none (EP X pins σ Q) (.ref D) s3.heap.objs.size) s4 := by
    rintro s4 rfl
    refine compLoop_goI (fun n s' => ∃ i σ0 H' ys, Inv (cxComp X N' scope cl fp s3 H3) [] (σ0 :: fvs σ ix) H' s' ∧ tn i s'.heap ∧ (∀ b ∈ fp, H' b = none) ∧ W i n ys H') ?_ m0 ⟨0, none, H3, [], I4, st4, fun b hb => (f3 b hb).1, w0⟩
    rintro n s5 ⟨i, σ0, H5, ys, I5, st5, fr5, w5⟩
    obtain ⟨hD5, alt⟩ := turn i n ys H5 w5
    rcases alt with ⟨stop, q⟩ | ⟨go, step⟩
    · refine thn (T.done (cxComp X N' scope cl fp s3 H3) rfl rfl rfl hc i [] s5 _ H5 _ I5 (stat fr5) st5 stop) fun r s6 ⟨hr, I6⟩ => ?_
      subst hr
      obtain ⟨m, hn, _⟩ := I6.loc
      exact ⟨m, hn, fun h' hsb => ⟨.ref D, H5, comp_end I3 I6 f3 hsb, rfl, q⟩⟩
    · refine thn (T.item (cxComp X N' scope cl fp s3 H3) rfl rfl rfl hc i [] s5 _ H5 _ I5 (stat fr5) st5 go) fun r s6 ⟨u, hr, h6⟩ => ?_
      subst hr
      refine thn h6 fun _ s7 ⟨y7, H7, I7, r7, yl7, st7, fr7⟩ => ?_
      have I7' := I7.pinned (stat fr7) (T.obj _ _ st7)
      have G : PG (cxComp X N' scope cl fp s3 H3) (.Name x px) (gName 0) := pg_name hN hN0 (.inl (lookup_relabel_local hx)) (.inr (lookup_relabel_local hx))
      refine wpAny_mono (G _ s7 _ H7 y7 u (fun σ' H' => σ' = some y7 :: fvs σ ix ∧ H' = H7) I7' r7 ⟨rfl, rfl⟩) (fun _ s8 h8 => ?_) fun _ _ f => False.elim f
      obtain ⟨σ8, H8, I8, rfl, rfl⟩ := h8
      have fin : ∀ {σ9 : Option V} {H9 : Hp} {s9 : Shared} {zs : List V} {m' : Nat}, Inv (cxComp X N' scope cl fp s3 H3) ([] ++ pinsAt fp s7.heap) (σ9 :: fvs σ ix) H9 s9 → m' < n → W (i + 1) m' zs H9 → ∃ m, m < n ∧ ∃ i σ0 H' ys, Inv (cxComp X N' scope cl fp s3 H3) [] (σ0 :: fvs σ ix) H' s9 ∧ tn i s9.heap ∧ (∀ b ∈ fp, H' b = none) ∧ W i m ys H' := fun {σ9 H9 s9 zs m'} I9 hm' w9 => by
        refine ⟨m', hm', i + 1, σ9, H9, zs, I9.unpinned, T.keep _ _ _ st7 fun b hb o eb => (I9.pin (b, o) (List.mem_append_right _ (List.mem_append_right _ (mem_pinsAt hb eb)))).1, fun b hb => ?_, w9⟩
        obtain ⟨o, eb, d⟩ := T.obj _ _ st7 b hb
        exact (I9.pin (b, o) (List.mem_append_right _ (List.mem_append_right _ (mem_pinsAt hb eb)))).2.1
      refine wpAny_mono (ht cl fp s3 H3 _ s8 _ H8 _ I8 (step y7 H8 yl7)) (fun b s9 h9 => ?_) fun _ _ f => False.elim f
      obtain ⟨H9, I9, q9⟩ := h9
      cases b with
      | false =>
        obtain ⟨m', hm', w9⟩ := q9
        exact fin I9 hm' w9
      | true =>
        refine wpAny_mono (he cl fp s3 H3 _ s9 _ H9 _ I9 q9) (fun yv s10 h10 => ?_) fun _ _ f => False.elim f
        obtain ⟨y10, H10, I10, r10, hD10, hl10, m', hm', w10⟩ := h10
        refine wpAny_mono (mt_append (X := cxComp X N' scope cl fp s3 H3) _ s10 _ H10 (.ref D) [y10] (.ref D) [yv] (fun _ H' => H' = upd H10 D (.lst (ys ++ [y10]))) I10 rfl (.cons r10 .nil) ⟨D, ys, y10, rfl, rfl, hD10, hl10, rfl⟩) (fun _ s11 h11 => ?_) fun _ _ f => False.elim f
        obtain ⟨_, H11, I11, _, rfl⟩ := h11
        exact fin I11 hm' w10
  subst hs3
  have fin := codeAny_compStart_list (loop _ rfl) (T.self X.A 0 _ _ _ st4 (loop _ rfl))
  exact fin
end
end L2

/-! OWN: name = [comprehension], where the store comes ahead of the block's end. Behind Ext2. -/
namespace L2
open PySem PySem.Spec PyProof.Rows
theorem Inv.skip {X : Cx} {pins : List (Addr × Obj)} {σ : St} {H : Hp} {s : Shared} {h' : Heap} {C : Addr} (I : Inv X pins σ H s) (hs : Heap.SameBut C s.heap h') (hC : X.s₀.heap.objs.size ≤ C) (hl : C ≠ X.env.locals) (hcl : ∀ x c, X.env.cells.lookup x = some c → c ≠ C) (hp : ∀ p ∈ X.pn ++ pins, p.1 ≠ C) (hf : H C = none) :
    Inv X pins σ H { s with heap := h' } := by
  have eq : ∀ b, b ≠ C → h'.get? b = s.heap.get? b := fun b hb => hs.2 b hb
  have nm : ∀ {b : Addr}, b ∉ [C] → b ≠ C := fun h z => h (by rw [z]; exact List.mem_cons_self)
  have u : Un (frs X.stack) [C] H H s.heap h' := ⟨fun b o e _ _ h2 => (eq b (nm h2)).trans e, fun b o e _ _ h2 => ⟨o.slots, (eq b (nm h2)).trans e⟩, fun b o e n _ => n, fun b o e h1 => ⟨o, (eq b (nm h1)).trans e⟩, fun _ _ q => q, fun _ _ _ q => q, fun _ ps q => ⟨#[], by rw [q]; simp⟩⟩
  have hok : HOk X.prog X.w H h' := fun b ob e => by
    refine (I.hok b ob e).stay (fun c w' hq q => (eq c ?_).trans q) (fun _ q => q) fun _ _ q => q
    rintro rfl
    rcases hq with z | z
    · rw [← z, hf] at e; cases e
    · rw [hf] at z; cases z
  refine I.call' (s' := { s with heap := h' }) (ch := [C]) rfl u hok I.bare fun b hb => ?_
  have e : b = C := List.mem_singleton.mp hb
  subst e
  exact ⟨.inr hC, hl, hcl, hp⟩
section
variable {X : Cx} {N' : List Str} {scope : Scope} {elt iter : Expr} {x : Str} {px pos : Pos} {wi : TI} {te : TE} {ix : List Nat}
theorem ps_setLC {i : Nat} {y0 : Str} {py spos : Pos} (hNy : X.N.Nodup) (hiy : X.N[i]? = some y0) (hy : Loc X.env.scope y0) (hc : X.calm = true) (hkind : scope.kind = .function) (hcell : ∀ y ∈ scope.names, y.2 ≠ .cell) (hnames : ∀ y ∈ scope.names, y.2 = .local → scope.names.lookup y.1 = some .local) (hx : scope.names.lookup x = some .local)
    (hclo : X.Ok → ∃ cl, Clo X scope cl) (hN : N'.Nodup) (hN0 : N'[0]? = some x) (hlen : N'.length = ix.length + 1)
    (hix : ∀ (j i : Nat), ix[j]? = some i → ∃ y, X.N[i]? = some y ∧ N'[j + 1]? = some y ∧ (X.env.kindOf y = some .cell ∨ X.env.kindOf y = some .free) ∧ ((relabel scope X.env).names.lookup y = some .cell ∨ (relabel scope X.env).names.lookup y = some .free))
    (hi : PI X (.Name x px) iter wi) (he : ∀ cl fp s₃ H₃, PE (cxComp X N' scope cl fp s₃ H₃) elt te) (hsw : swapsWith (.ListComp elt [⟨.Name x px, iter, [], 0⟩] scope pos) (some (.Name y0 py)) spos.line X.env = pure true := by rfl)
    (hf : X.fn y0 = true ∨ X.env.scope.names.lookup y0 = some .local := by first | exact .inl rfl | exact .inr rfl | assumption) (hs : ∀ v, foldedSetIterable iter X.env v = pure v := by intro _; rfl) :
    PS X (.Assign [.Name y0 py] (.ListComp elt [⟨.Name x px, iter, [], 0⟩] scope pos) spos) (tAsg (tLC wi ix te) (gName i)) := by
  intro pins s σ H Dn I h
  obtain ⟨cl, C⟩ := hclo I.ok
  rw [exec_Assign_Name_used _ _ _ _ hsw]
  refine wpAny_bind (wpAny_standAt (wpAny_bind ?_))
  rw [arm_evalThenUse_ListComp]
  refine wpAny_bind (wpAny_mono (wpAny_comprehension_free (use := some (assign (.Name y0 py) X.env)) (Q := fun _ s' => ∃ σ' H', Inv X pins σ' H' s' ∧ Dn.nx σ' H') rfl hs C.eq hkind hnames (thn (hi pins s σ H _ I h) fun v s1 h1 => thn h1 fun itv s2 h2 => ?_)) (fun _ s' h' => wpAny_pure (wpAny_pure h')) fun _ _ z => z)
  obtain ⟨it, fp, tn, J, H2, e, I2, T, st2, f2, q2⟩ := h2
  subst e
  have hD : H2 s2.heap.objs.size = none := I2.fresh
  obtain ⟨W, ⟨m0, w0⟩, turn⟩ := q2 s2.heap.objs.size hD
  refine wpAny_newObj_type (wpAny_newFunctionEnv hcell (by intro y hy; simp at hy) (fun h₁ hns₁ hsb₁ => ?_) hkind)
  dsimp only at hns₁ hsb₁ ⊢
  have I3 : Inv X pins σ (upd H2 s2.heap.objs.size (.lst [])) { s2 with heap := s2.heap.push { cls := .type "list", data := .seq ([] : List Value).toArray }, toks := s2.toks } := I2.lnew .nil (Nat.zero_le _)
  generalize hs3 : ({ s2 with heap := s2.heap.push { cls := .type "list", data := .seq ([] : List Value).toArray }, toks := s2.toks } : Shared) = s3 at I3
  have e3 : s3.heap = s2.heap.push { cls := .type "list", data := .seq ([] : List Value).toArray } := by rw [← hs3]
  generalize hDD : s2.heap.objs.size = D at *
  generalize hH3 : upd H2 D (.lst []) = H3 at *
  have lt2 : ∀ b ∈ fp, b < s2.heap.objs.size := fun b hb => by
    obtain ⟨o, ho, _⟩ := T.obj 0 _ st2 b hb
    exact Heap.lt_size ho
  have neD : ∀ b ∈ fp, b ≠ D := fun b hb => by rw [← hDD]; exact Nat.ne_of_lt (lt2 b hb)
  have f3 : ∀ b ∈ fp, FpOk X pins H3 b := fun b hb => ⟨by rw [← hH3, upd_ne (neD b hb)]; exact (f2 b hb).1, (f2 b hb).2⟩
  have sz3 : s3.heap.objs.size = D + 1 := by rw [e3, Heap.size_push, hDD]
  have lt3 : ∀ b ∈ fp, b < s3.heap.objs.size := fun b hb => by have q := lt2 b hb; rw [sz3]; rw [hDD] at q; exact Nat.lt_succ_of_lt q
  have old : ∀ b o, s3.heap.get? b = some o → h₁.get? b = some o := fun b o eb => by
    have hb : b < D + 1 := by rw [← sz3]; exact Heap.lt_size eb
    refine hsb₁.extBut b o ?_ (Heap.get?_push_of_some _ (by rw [← e3]; exact eb))
    rw [Heap.size_push, hDD]
    exact Nat.ne_of_lt hb
  have szC : (s2.heap.push { cls := .type "list", data := .seq ([] : List Value).toArray }).objs.size = s3.heap.objs.size := by rw [e3]
  have os3 : s3.os = s2.os := by rw [← hs3]
  rw [szC] at hns₁ hsb₁
  have I4 : Inv (cxComp X N' scope cl fp s3 H3) [] (none :: fvs σ ix) H3 { s3 with heap := h₁, toks := s2.toks + ([] : List (Str × Value)).length } := comp_start I3 C hkind f3 lt3 hlen hix hns₁ old
  have st4 : tn 0 h₁ := T.keep 0 _ _ st2 fun b hb o eb => old b o (by rw [e3]; exact Heap.get?_push_of_some _ eb)
  have stat : ∀ {H' : Hp}, (∀ b ∈ fp, H' b = none) → ∀ b ∈ fp, FpOk (cxComp X N' scope cl fp s3 H3) [] H' b := fun hn b hb =>
    ⟨hn b hb, Nat.ne_of_lt (lt3 b hb), fun hs' => (comp_ok (N' := N') I3 C hkind f3 lt3).exfs b hb hs', .inl hb, fun y c hy => ((comp_ok (N' := N') I3 C hkind f3 lt3).exf b hb).2 y c hy, fun p hp => absurd (show p ∈ ([] : List (Addr × Obj)) from hp) (by simp)⟩
  have loop : ∀ s4 : Shared, s4 = { s3 with heap := h₁, toks := s2.toks + ([] : List (Str × Value)).length } →
      codeAny (model X.prog X.w) X.A (.compLoop (.ListComp elt [⟨.Name x px, iter, [], 0⟩] scope pos) 0 (.ref it) (.ref D) (compEnvC scope cl s3.heap.objs.size X.env))
        (compPost (model X.prog X.w) X.A X.xe (some (assign (.Name y0 py) X.env)) (fun _ s' => ∃ σ' H', Inv X pins σ' H' s' ∧ Dn.nx σ' H') (.ref D) s3.heap.objs.size) s4 := by
    rintro s4 rfl
    refine compLoop_go (fun n s' => ∃ i σ0 H' ys, Inv (cxComp X N' scope cl fp s3 H3) [] (σ0 :: fvs σ ix) H' s' ∧ tn i s'.heap ∧ (∀ b ∈ fp, H' b = none) ∧ W i n ys H') ?_ m0 ⟨0, none, H3, [], I4, st4, fun b hb => (f3 b hb).1, w0⟩
    rintro n s5 ⟨i, σ0, H5, ys, I5, st5, fr5, w5⟩
    obtain ⟨hD5, alt⟩ := turn i n ys H5 w5
    rcases alt with ⟨stop, q⟩ | ⟨go, step⟩
    · refine thn (T.done (cxComp X N' scope cl fp s3 H3) rfl rfl rfl hc i [] s5 _ H5 _ I5 (stat fr5) st5 stop) fun r s6 ⟨hr, I6⟩ => ?_
      subst hr
      obtain ⟨m, hn, _⟩ := I6.loc
      have Io : Inv X pins σ H5 s6 := comp_end (h' := s6.heap) I3 I6 f3 ⟨rfl, fun _ _ => rfl⟩
      refine wpAny_assign_Name (store_ok2 (v := .ref D) Io hNy hiy hy rfl (fun s7 I7 ⟨a, sb, ha⟩ => ?_) hf)
      have ltC : ∀ x c, X.env.cells.lookup x = some c → c < s3.heap.objs.size := fun x c e => by
        obtain ⟨v, hv⟩ := I3.cell x c e
        exact hv.lt
      have hCa : s3.heap.objs.size ≠ a := by
        rintro rfl
        rcases ha with z | z
        · exact absurd I3.lt (by rw [← z]; exact Nat.lt_irrefl _)
        · exact absurd (ltC _ _ z) (Nat.lt_irrefl _)
      refine ⟨m, hn.sameBut sb hCa, fun h' hsb => ⟨_, H5, ?_, q⟩⟩
      exact I7.skip hsb I3.sz (Nat.ne_of_gt I3.lt) (fun x c e => Nat.ne_of_lt (ltC x c e)) (fun p hp => Nat.ne_of_lt (Heap.lt_size (I3.pin p hp).1)) I6.free
    · refine thn (T.item (cxComp X N' scope cl fp s3 H3) rfl rfl rfl hc i [] s5 _ H5 _ I5 (stat fr5) st5 go) fun r s6 ⟨u, hr, h6⟩ => ?_
      subst hr
      refine thn h6 fun _ s7 ⟨y7, H7, I7, r7, yl7, st7, fr7⟩ => ?_
      have I7' := I7.pinned (stat fr7) (T.obj _ _ st7)
      have G : PG (cxComp X N' scope cl fp s3 H3) (.Name x px) (gName 0) := pg_name hN hN0 (.inl (lookup_relabel_local hx)) (.inr (lookup_relabel_local hx))
      refine wpAny_mono (G _ s7 _ H7 y7 u (fun σ' H' => σ' = some y7 :: fvs σ ix ∧ H' = H7) I7' r7 ⟨rfl, rfl⟩) (fun _ s8 h8 => ?_) fun _ _ f => False.elim f
      obtain ⟨σ8, H8, I8, rfl, rfl⟩ := h8
      refine wpAny_mono (he cl fp s3 H3 _ s8 _ H8 _ I8 (step y7 H8 yl7)) (fun yv s9 h9 => ?_) fun _ _ f => False.elim f
      obtain ⟨y9, H9, I9, r9, hD9, hl9, m', hm', w9⟩ := h9
      refine wpAny_mono (mt_append (X := cxComp X N' scope cl fp s3 H3) _ s9 _ H9 (.ref D) [y9] (.ref D) [yv] (fun _ H' => H' = upd H9 D (.lst (ys ++ [y9]))) I9 rfl (.cons r9 .nil) ⟨D, ys, y9, rfl, rfl, hD9, hl9, rfl⟩) (fun _ s10 h10 => ?_) fun _ _ f => False.elim f
      obtain ⟨_, H10, I10, _, rfl⟩ := h10
      refine ⟨m', hm', i + 1, some y7, _, ys ++ [y9], I10.unpinned, T.keep _ _ _ st7 fun b hb o eb => (I10.pin (b, o) (List.mem_append_right _ (List.mem_append_right _ (mem_pinsAt hb eb)))).1, fun b hb => ?_, w9⟩
      obtain ⟨o, eb, d⟩ := T.obj _ _ st7 b hb
      exact (I10.pin (b, o) (List.mem_append_right _ (List.mem_append_right _ (mem_pinsAt hb eb)))).2.1
  subst hs3
  have fin := codeAny_compStart_list (loop _ rfl) (T.self X.A 0 _ _ _ st4 (loop _ rfl))
  exact fin
end
section
variable {X : Cx} {N' : List Str} {scope : Scope} {elt iter c : Expr} {x : Str} {px pos : Pos} {wi : TI} {tc : TT} {te : TE} {ix : List Nat}
theorem ps_setLCI {i : Nat} {y0 : Str} {py spos : Pos} (hNy : X.N.Nodup) (hiy : X.N[i]? = some y0) (hy : Loc X.env.scope y0) (hc : X.calm = true) (hkind : scope.kind = .function) (hcell : ∀ y ∈ scope.names, y.2 ≠ .cell) (hnames : ∀ y ∈ scope.names, y.2 = .local → scope.names.lookup y.1 = some .local) (hx : scope.names.lookup x = some .local)
    (hclo : X.Ok → ∃ cl, Clo X scope cl) (hN : N'.Nodup) (hN0 : N'[0]? = some x) (hlen : N'.length = ix.length + 1)
    (hix : ∀ (j i : Nat), ix[j]? = some i → ∃ y, X.N[i]? = some y ∧ N'[j + 1]? = some y ∧ (X.env.kindOf y = some .cell ∨ X.env.kindOf y = some .free) ∧ ((relabel scope X.env).names.lookup y = some .cell ∨ (relabel scope X.env).names.lookup y = some .free))
    (hi : PI X (.Name x px) iter wi) (ht : ∀ cl fp s₃ H₃, PT (cxComp X N' scope cl fp s₃ H₃) c tc) (he : ∀ cl fp s₃ H₃, PE (cxComp X N' scope cl fp s₃ H₃) elt te) (hsw : swapsWith (.ListComp elt [⟨.Name x px, iter, [c], 0⟩] scope pos) (some (.Name y0 py)) spos.line X.env = pure true := by rfl)
    (hf : X.fn y0 = true ∨ X.env.scope.names.lookup y0 = some .local := by first | exact .inl rfl | exact .inr rfl | assumption) (hs : ∀ v, foldedSetIterable iter X.env v = pure v := by intro _; rfl) :
    PS X (.Assign [.Name y0 py] (.ListComp elt [⟨.Name x px, iter, [c], 0⟩] scope pos) spos) (tAsg (tLCI wi ix tc te) (gName i)) := by
  intro pins s σ H Dn I h
  obtain ⟨cl, C⟩ := hclo I.ok
  rw [exec_Assign_Name_used _ _ _ _ hsw]
  refine wpAny_bind (wpAny_standAt (wpAny_bind ?_))
  rw [arm_evalThenUse_ListComp]
  refine wpAny_bind (wpAny_mono (wpAny_comprehension_free (use := some (assign (.Name y0 py) X.env)) (Q := fun _ s' => ∃ σ' H', Inv X pins σ' H' s' ∧ Dn.nx σ' H') rfl hs C.eq hkind hnames (thn (hi pins s σ H _ I h) fun v s1 h1 => thn h1 fun itv s2 h2 => ?_)) (fun _ s' h' => wpAny_pure (wpAny_pure h')) fun _ _ z => z)
  obtain ⟨it, fp, tn, J, H2, e, I2, T, st2, f2, q2⟩ := h2
  subst e
  have hD : H2 s2.heap.objs.size = none := I2.fresh
  obtain ⟨W, ⟨m0, w0⟩, turn⟩ := q2 s2.heap.objs.size hD
  refine wpAny_newObj_type (wpAny_newFunctionEnv hcell (by intro y hy; simp at hy) (fun h₁ hns₁ hsb₁ => ?_) hkind)
  dsimp only at hns₁ hsb₁ ⊢
  have I3 : Inv X pins σ (upd H2 s2.heap.objs.size (.lst [])) { s2 with heap := s2.heap.push { cls := .type "list", data := .seq ([] : List Value).toArray }, toks := s2.toks } := I2.lnew .nil (Nat.zero_le _)
  generalize hs3 : ({ s2 with heap := s2.heap.push { cls := .type "list", data := .seq ([] : List Value).toArray }, toks := s2.toks } : Shared) = s3 at I3
  have e3 : s3.heap = s2.heap.push { cls := .type "list", data := .seq ([] : List Value).toArray } := by rw [← hs3]
  generalize hDD : s2.heap.objs.size = D at *
  generalize hH3 : upd H2 D (.lst []) = H3 at *
  have lt2 : ∀ b ∈ fp, b < s2.heap.objs.size := fun b hb => by
    obtain ⟨o, ho, _⟩ := T.obj 0 _ st2 b hb
    exact Heap.lt_size ho
  have neD : ∀ b ∈ fp, b ≠ D := fun b hb => by rw [← hDD]; exact Nat.ne_of_lt (lt2 b hb)
  have f3 : ∀ b ∈ fp, FpOk X pins H3 b := fun b hb => ⟨by rw [← hH3, upd_ne (neD b hb)]; exact (f2 b hb).1, (f2 b hb).2⟩
  have sz3 : s3.heap.objs.size = D + 1 := by rw [e3, Heap.size_push, hDD]
  have lt3 : ∀ b ∈ fp, b < s3.heap.objs.size := fun b hb => by have q := lt2 b hb; rw [sz3]; rw [hDD] at q; exact Nat.lt_succ_of_lt q
  have old : ∀ b o, s3.heap.get? b = some o → h₁.get? b = some o := fun b o eb => by
    have hb : b < D + 1 := by rw [← sz3]; exact Heap.lt_size eb
    refine hsb₁.extBut b o ?_ (Heap.get?_push_of_some _ (by rw [← e3]; exact eb))
    rw [Heap.size_push, hDD]
    exact Nat.ne_of_lt hb
  have szC : (s2.heap.push { cls := .type "list", data := .seq ([] : List Value).toArray }).objs.size = s3.heap.objs.size := by rw [e3]
  rw [szC] at hns₁ hsb₁
  have I4 : Inv (cxComp X N' scope cl fp s3 H3) [] (none :: fvs σ ix) H3 { s3 with heap := h₁, toks := s2.toks + ([] : List (Str × Value)).length } := comp_start I3 C hkind f3 lt3 hlen hix hns₁ old
  have st4 : tn 0 h₁ := T.keep 0 _ _ st2 fun b hb o eb => old b o (by rw [e3]; exact Heap.get?_push_of_some _ eb)
  have stat : ∀ {H' : Hp}, (∀ b ∈ fp, H' b = none) → ∀ b ∈ fp, FpOk (cxComp X N' scope cl fp s3 H3) [] H' b := fun hn b hb =>
    ⟨hn b hb, Nat.ne_of_lt (lt3 b hb), fun hs' => (comp_ok (N' := N') I3 C hkind f3 lt3).exfs b hb hs', .inl hb, fun y c hy => ((comp_ok (N' := N') I3 C hkind f3 lt3).exf b hb).2 y c hy, fun p hp => absurd (show p ∈ ([] : List (Addr × Obj)) from hp) (by simp)⟩
  have loop : ∀ s4 : Shared, s4 = { s3 with heap := h₁, toks := s2.toks + ([] : List (Str × Value)).length } →
      codeAny (model X.prog X.w) X.A (.compLoop (.ListComp elt [⟨.Name x px, iter, [c], 0⟩] scope pos) 0 (.ref it) (.ref D) (compEnvC scope cl s3.heap.objs.size X.env))
        (compPost (model X.prog X.w) X.A X.xe (some (assign (.Name y0 py) X.env)) (fun _ s' => ∃ σ' H', Inv X pins σ' H' s' ∧ Dn.nx σ' H') (.ref D) s3.heap.objs.size) s4 := by
    rintro s4 rfl
    refine compLoop_goI (fun n s' => ∃ i σ0 H' ys, Inv (cxComp X N' scope cl fp s3 H3) [] (σ0 :: fvs σ ix) H' s' ∧ tn i s'.heap ∧ (∀ b ∈ fp, H' b = none) ∧ W i n ys H') ?_ m0 ⟨0, none, H3, [], I4, st4, fun b hb => (f3 b hb).1, w0⟩
    rintro n s5 ⟨i, σ0, H5, ys, I5, st5, fr5, w5⟩
    obtain ⟨hD5, alt⟩ := turn i n ys H5 w5
    rcases alt with ⟨stop, q⟩ | ⟨go, step⟩
    · refine thn (T.done (cxComp X N' scope cl fp s3 H3) rfl rfl rfl hc i [] s5 _ H5 _ I5 (stat fr5) st5 stop) fun r s6 ⟨hr, I6⟩ => ?_
      subst hr
      obtain ⟨m, hn, _⟩ := I6.loc
      have Io : Inv X pins σ H5 s6 := comp_end (h' := s6.heap) I3 I6 f3 ⟨rfl, fun _ _ => rfl⟩
      refine wpAny_assign_Name (store_ok2 (v := .ref D) Io hNy hiy hy rfl (fun s7 I7 ⟨a, sb, ha⟩ => ?_) hf)
      have ltC : ∀ x c, X.env.cells.lookup x = some c → c < s3.heap.objs.size := fun x c e => by
        obtain ⟨v, hv⟩ := I3.cell x c e
        exact hv.lt
      have hCa : s3.heap.objs.size ≠ a := by
        rintro rfl
        rcases ha with z | z
        · exact absurd I3.lt (by rw [← z]; exact Nat.lt_irrefl _)
        · exact absurd (ltC _ _ z) (Nat.lt_irrefl _)
      refine ⟨m, hn.sameBut sb hCa, fun h' hsb => ⟨_, H5, ?_, q⟩⟩
      exact I7.skip hsb I3.sz (Nat.ne_of_gt I3.lt) (fun x c e => Nat.ne_of_lt (ltC x c e)) (fun p hp => Nat.ne_of_lt (Heap.lt_size (I3.pin p hp).1)) I6.free
    · refine thn (T.item (cxComp X N' scope cl fp s3 H3) rfl rfl rfl hc i [] s5 _ H5 _ I5 (stat fr5) st5 go) fun r s6 ⟨u, hr, h6⟩ => ?_
      subst hr
      refine thn h6 fun _ s7 ⟨y7, H7, I7, r7, yl7, st7, fr7⟩ => ?_
      have I7' := I7.pinned (stat fr7) (T.obj _ _ st7)
      have G : PG (cxComp X N' scope cl fp s3 H3) (.Name x px) (gName 0) := pg_name hN hN0 (.inl (lookup_relabel_local hx)) (.inr (lookup_relabel_local hx))
      refine wpAny_mono (G _ s7 _ H7 y7 u (fun σ' H' => σ' = some y7 :: fvs σ ix ∧ H' = H7) I7' r7 ⟨rfl, rfl⟩) (fun _ s8 h8 => ?_) fun _ _ f => False.elim f
      obtain ⟨σ8, H8, I8, rfl, rfl⟩ := h8
      have fin : ∀ {σ9 : Option V} {H9 : Hp} {s9 : Shared} {zs : List V} {m' : Nat}, Inv (cxComp X N' scope cl fp s3 H3) ([] ++ pinsAt fp s7.heap) (σ9 :: fvs σ ix) H9 s9 → m' < n → W (i + 1) m' zs H9 → ∃ m, m < n ∧ ∃ i σ0 H' ys, Inv (cxComp X N' scope cl fp s3 H3) [] (σ0 :: fvs σ ix) H' s9 ∧ tn i s9.heap ∧ (∀ b ∈ fp, H' b = none) ∧ W i m ys H' := fun {σ9 H9 s9 zs m'} I9 hm' w9 => by
        refine ⟨m', hm', i + 1, σ9, H9, zs, I9.unpinned, T.keep _ _ _ st7 fun b hb o eb => (I9.pin (b, o) (List.mem_append_right _ (List.mem_append_right _ (mem_pinsAt hb eb)))).1, fun b hb => ?_, w9⟩
        obtain ⟨o, eb, d⟩ := T.obj _ _ st7 b hb
        exact (I9.pin (b, o) (List.mem_append_right _ (List.mem_append_right _ (mem_pinsAt hb eb)))).2.1
      refine wpAny_mono (ht cl fp s3 H3 _ s8 _ H8 _ I8 (step y7 H8 yl7)) (fun b s9 h9 => ?_) fun _ _ f => False.elim f
      obtain ⟨H9, I9, q9⟩ := h9
      cases b with
      | false =>
        obtain ⟨m', hm', w9⟩ := q9
        exact fin I9 hm' w9
      | true =>
        refine wpAny_mono (he cl fp s3 H3 _ s9 _ H9 _ I9 q9) (fun yv s10 h10 => ?_) fun _ _ f => False.elim f
        obtain ⟨y10, H10, I10, r10, hD10, hl10, m', hm', w10⟩ := h10
        refine wpAny_mono (mt_append (X := cxComp X N' scope cl fp s3 H3) _ s10 _ H10 (.ref D) [y10] (.ref D) [yv] (fun _ H' => H' = upd H10 D (.lst (ys ++ [y10]))) I10 rfl (.cons r10 .nil) ⟨D, ys, y10, rfl, rfl, hD10, hl10, rfl⟩) (fun _ s11 h11 => ?_) fun _ _ f => False.elim f
        obtain ⟨_, H11, I11, _, rfl⟩ := h11
        exact fin I11 hm' w10
  subst hs3
  have fin := codeAny_compStart_list (loop _ rfl) (T.self X.A 0 _ _ _ st4 (loop _ rfl))
  exact fin
end
end L2

/-! OWN: values with all that they hold; == and in, deep. Behind the layer. -/
namespace L2
open PySem PySem.Spec PyProof.Rows
inductive Dt where
  | non | bl (b : Bool) | int (i : Int) | str (x : Str) | tup (xs : List Dt) | lst (xs : List Dt)
mutual
def peq : Dt → Dt → Bool
  | .non, .non => true
  | .bl a, .bl b => a == b
  | .bl a, .int b => (if a then 1 else 0) == b
  | .int a, .bl b => a == (if b then 1 else 0)
  | .int a, .int b => a == b
  | .str a, .str b => a == b
  | .tup xs, .tup ys => peqs xs ys
  | .lst xs, .lst ys => peqs xs ys
  | _, _ => false
def peqs : List Dt → List Dt → Bool
  | [], [] => true
  | x :: xs, y :: ys => peq x y && peqs xs ys
  | _, _ => false
end
mutual
def dep : Dt → Nat
  | .tup xs => deps xs + 1
  | .lst xs => deps xs + 1
  | _ => 0
def deps : List Dt → Nat
  | [] => 0
  | x :: xs => max (dep x) (deps xs)
end
mutual
def nob : Dt → Bool
  | .bl _ => false
  | .tup xs => nobs xs
  | .lst xs => nobs xs
  | _ => true
def nobs : List Dt → Bool
  | [] => true
  | x :: xs => nob x && nobs xs
end
mutual
theorem peq_refl : ∀ d : Dt, peq d d = true
  | .non => rfl
  | .bl _ => by simp [peq]
  | .int _ => by simp [peq]
  | .str _ => by simp [peq]
  | .tup xs => by simp only [peq]; exact peqs_refl xs
  | .lst xs => by simp only [peq]; exact peqs_refl xs
theorem peqs_refl : ∀ d : List Dt, peqs d d = true
  | [] => by simp [peqs]
  | x :: xs => by simp only [peqs, peq_refl x, peqs_refl xs, Bool.and_self]
end
mutual
theorem peq_eq : ∀ d e : Dt, nob d = true → nob e = true → peq d e = true → d = e
  | .non, e, _, _, h => by cases e <;> first | rfl | (simp [peq] at h)
  | .bl _, e, h, _, _ => by simp [nob] at h
  | .int _, e, _, h2, h => by cases e <;> first | (simp [nob] at h2; done) | (simp [peq] at h; done) | (simp [peq] at h; rw [h])
  | .str _, e, _, h2, h => by cases e <;> first | (simp [peq] at h; done) | (simp [peq] at h; rw [h])
  | .tup xs, e, h1, h2, h => by
    cases e with
    | tup ys => simp only [peq] at h; simp only [nob] at h1 h2; rw [peqs_eq xs ys h1 h2 h]
    | _ => simp [peq] at h
  | .lst xs, e, h1, h2, h => by
    cases e with
    | lst ys => simp only [peq] at h; simp only [nob] at h1 h2; rw [peqs_eq xs ys h1 h2 h]
    | _ => simp [peq] at h
theorem peqs_eq : ∀ d e : List Dt, nobs d = true → nobs e = true → peqs d e = true → d = e
  | [], e, _, _, h => by cases e <;> first | rfl | (simp [peqs] at h)
  | x :: xs, e, h1, h2, h => by
    cases e with
    | nil => simp [peqs] at h
    | cons y ys =>
      simp only [peqs, Bool.and_eq_true] at h
      simp only [nobs, Bool.and_eq_true] at h1 h2
      rw [peq_eq x y h1.1 h2.1 h.1, peqs_eq xs ys h1.2 h2.2 h.2]
end

/-! ### a value stands for a datum -/
mutual
def Has (K : PySem.W.Frag) (H : Hp) : Dt → V → Prop
  | .non, v => v = .non
  | .bl b, v => v = .bl b
  | .int i, v => v = .int i
  | .str x, v => v = .str x
  | .tup ds, v => ∃ a xs, v = .ref a ∧ SqT K H a xs ∧ HasL K H ds xs
  | .lst ds, v => ∃ a xs, v = .ref a ∧ SqL K H a xs ∧ HasL K H ds xs
def HasL (K : PySem.W.Frag) (H : Hp) : List Dt → List V → Prop
  | [], vs => vs = []
  | d :: ds, vs => ∃ v r, vs = v :: r ∧ Has K H d v ∧ HasL K H ds r
end
theorem HasL.length {K : PySem.W.Frag} {H : Hp} : ∀ {ds : List Dt} {vs : List V}, HasL K H ds vs → ds.length = vs.length
  | [], vs, h => by simp only [HasL] at h; rw [h]; rfl
  | d :: ds, vs, h => by
    simp only [HasL] at h
    obtain ⟨v, r, rfl, _, h2⟩ := h
    rw [List.length_cons, List.length_cons, HasL.length h2]
theorem HasL.get {K : PySem.W.Frag} {H : Hp} : ∀ {ds : List Dt} {vs : List V} {i : Nat} {v : V}, HasL K H ds vs → vs[i]? = some v → ∃ d, ds[i]? = some d ∧ Has K H d v
  | [], vs, i, v, h, e => by simp only [HasL] at h; rw [h] at e; simp at e
  | d :: ds, vs, i, v, h, e => by
    simp only [HasL] at h
    obtain ⟨v0, r, rfl, h1, h2⟩ := h
    cases i with
    | zero => simp at e; subst e; exact ⟨d, rfl, h1⟩
    | succ i =>
      obtain ⟨d', e1, e2⟩ := HasL.get (i := i) h2 (by simpa using e)
      exact ⟨d', by simpa using e1, e2⟩
theorem HasL.getD {K : PySem.W.Frag} {H : Hp} : ∀ {ds : List Dt} {vs : List V} {i : Nat} {d : Dt}, HasL K H ds vs → ds[i]? = some d → ∃ v, vs[i]? = some v ∧ Has K H d v
  | [], vs, i, d, h, e => by simp at e
  | d0 :: ds, vs, i, d, h, e => by
    simp only [HasL] at h
    obtain ⟨v0, r, rfl, h1, h2⟩ := h
    cases i with
    | zero => simp at e; subst e; exact ⟨v0, rfl, h1⟩
    | succ i =>
      obtain ⟨v, e1, e2⟩ := HasL.getD (i := i) h2 (by simpa using e)
      exact ⟨v, by simpa using e1, e2⟩
theorem HasL.append {K : PySem.W.Frag} {H : Hp} : ∀ {ds es : List Dt} {vs ws : List V}, HasL K H ds vs → HasL K H es ws → HasL K H (ds ++ es) (vs ++ ws)
  | [], es, vs, ws, h, h' => by simp only [HasL] at h; rw [h]; exact h'
  | d :: ds, es, vs, ws, h, h' => by
    simp only [HasL] at h
    obtain ⟨v, r, rfl, h1, h2⟩ := h
    show HasL K H (d :: (ds ++ es)) (v :: (r ++ ws))
    simp only [HasL]
    exact ⟨v, r ++ ws, rfl, h1, HasL.append h2 h'⟩
theorem HasL.one {K : PySem.W.Frag} {H : Hp} {d : Dt} {v : V} (h : Has K H d v) : HasL K H [d] [v] := by
  simp only [HasL]
  exact ⟨v, [], rfl, h, rfl⟩
theorem HasL.ints {K : PySem.W.Frag} {H : Hp} : ∀ ns : List Int, HasL K H (ns.map Dt.int) (ns.map V.int)
  | [] => by simp [HasL]
  | n :: ns => by
    simp only [List.map_cons, HasL]
    exact ⟨_, _, rfl, by simp only [Has], HasL.ints ns⟩

/-! ### what stays: data without lists, where tuples stay -/
mutual
def nol : Dt → Bool
  | .lst _ => false
  | .tup xs => nols xs
  | _ => true
def nols : List Dt → Bool
  | [] => true
  | x :: xs => nol x && nols xs
end
def KeepT (H H' : Hp) : Prop := ∀ b xs, Rd H b (.tup xs) → Rd H' b (.tup xs)
theorem KeepT.sq {K : PySem.W.Frag} {H H' : Hp} {a : Addr} {xs : List V} (k : KeepT H H') (h : SqT K H a xs) : SqT K H' a xs := h.elim (fun z => .inl (k a xs z)) .inr
theorem KeepT.refl (H : Hp) : KeepT H H := fun _ _ h => h
theorem KeepT.trans {H H1 H2 : Hp} (a : KeepT H H1) (b : KeepT H1 H2) : KeepT H H2 := fun c xs h => b c xs (a c xs h)
theorem KeepT.of_same {H H' : Hp} (e : Same H H') : KeepT H H' := fun b xs h => by
  rcases h with h | ⟨o, h⟩
  · exact .inl (e _ _ h)
  · exact .inr ⟨o, e _ _ h⟩
theorem KeepT.lst {H : Hp} {l : Addr} {xs ys : List V} (h : H l = some (.lst xs)) : KeepT H (upd H l (.lst ys)) := fun b zs q => by
  rcases q with q | ⟨o, q⟩
  · exact .inl (by rw [upd_ne (ne_of q h (fun z => by cases z))]; exact q)
  · exact .inr ⟨o, by rw [upd_ne (ne_of q h (fun z => by cases z))]; exact q⟩
theorem KeepT.new {H : Hp} {l : Addr} {o : HO} (h : H l = none) : KeepT H (upd H l o) := KeepT.of_same fun b u q => by rw [upd_ne (ne_of_none q h)]; exact q
mutual
theorem Has.keep {K : PySem.W.Frag} {H H' : Hp} (k : KeepT H H') : ∀ {d : Dt} {v : V}, nol d = true → Has K H d v → Has K H' d v
  | .non, v, _, h => by simp only [Has] at h ⊢; exact h
  | .bl _, v, _, h => by simp only [Has] at h ⊢; exact h
  | .int _, v, _, h => by simp only [Has] at h ⊢; exact h
  | .str _, v, _, h => by simp only [Has] at h ⊢; exact h
  | .tup ds, v, n, h => by
    simp only [Has] at h ⊢
    simp only [nol] at n
    obtain ⟨a, xs, e, h1, h2⟩ := h
    exact ⟨a, xs, e, k.sq h1, HasL.keep k n h2⟩
  | .lst _, v, n, h => by simp [nol] at n
theorem HasL.keep {K : PySem.W.Frag} {H H' : Hp} (k : KeepT H H') : ∀ {ds : List Dt} {vs : List V}, nols ds = true → HasL K H ds vs → HasL K H' ds vs
  | [], vs, _, h => by simp only [HasL] at h ⊢; exact h
  | d :: ds, vs, n, h => by
    simp only [HasL] at h ⊢
    simp only [nols, Bool.and_eq_true] at n
    obtain ⟨v, r, e, h1, h2⟩ := h
    exact ⟨v, r, e, Has.keep k n.1 h1, HasL.keep k n.2 h2⟩
end

/-! ### one value stands for one datum -/
section
variable {X : Cx} {pins : List (Addr × Obj)} {σ : St} {H : Hp} {s : Shared}
theorem sq_apart (I : Inv X pins σ H s) {a : Addr} {xs ys : List V} (h : SqL X.K H a xs) (h' : SqT X.K H a ys) : False := by
  obtain ⟨its, _, p, _⟩ := I.list h
  obtain ⟨jts, _, q, _⟩ := I.tuple h'
  obtain ⟨o, e, c, _⟩ := p.isList
  obtain ⟨o', e', c', _⟩ := q
  rw [e] at e'
  cases e'
  rw [c] at c'
  exact absurd (Value.type.inj c') (by decide)
mutual
theorem Has.inj (I : Inv X pins σ H s) : ∀ (d e : Dt) (v : V), Has X.K H d v → Has X.K H e v → d = e
  | .non, e, v, h, h' => by
    simp only [Has] at h
    subst h
    cases e <;> simp only [Has] at h' <;> first | rfl | (cases h'; done) | (obtain ⟨_, _, z, _⟩ := h'; cases z)
  | .bl b, e, v, h, h' => by
    simp only [Has] at h
    subst h
    cases e <;> simp only [Has] at h' <;> first | (cases h'; done) | (cases h'; rfl) | (obtain ⟨_, _, z, _⟩ := h'; cases z)
  | .int b, e, v, h, h' => by
    simp only [Has] at h
    subst h
    cases e <;> simp only [Has] at h' <;> first | (cases h'; done) | (cases h'; rfl) | (obtain ⟨_, _, z, _⟩ := h'; cases z)
  | .str b, e, v, h, h' => by
    simp only [Has] at h
    subst h
    cases e <;> simp only [Has] at h' <;> first | (cases h'; done) | (cases h'; rfl) | (obtain ⟨_, _, z, _⟩ := h'; cases z)
  | .tup ds, e, v, h, h' => by
    simp only [Has] at h
    obtain ⟨a, xs, rfl, h1, h2⟩ := h
    cases e with
    | tup es =>
      simp only [Has] at h'
      obtain ⟨a', ys, z, h3, h4⟩ := h'
      cases z
      rw [I.tuple_inj h3 h1] at h4
      rw [HasL.inj I ds es xs h2 h4]
    | lst es =>
      simp only [Has] at h'
      obtain ⟨a', ys, z, h3, h4⟩ := h'
      cases z
      exact (sq_apart I h3 h1).elim
    | _ => simp only [Has] at h'; cases h'
  | .lst ds, e, v, h, h' => by
    simp only [Has] at h
    obtain ⟨a, xs, rfl, h1, h2⟩ := h
    cases e with
    | lst es =>
      simp only [Has] at h'
      obtain ⟨a', ys, z, h3, h4⟩ := h'
      cases z
      rw [I.list_inj h3 h1] at h4
      rw [HasL.inj I ds es xs h2 h4]
    | tup es =>
      simp only [Has] at h'
      obtain ⟨a', ys, z, h3, h4⟩ := h'
      cases z
      exact (sq_apart I h1 h3).elim
    | _ => simp only [Has] at h'; cases h'
theorem HasL.inj (I : Inv X pins σ H s) : ∀ (ds es : List Dt) (vs : List V), HasL X.K H ds vs → HasL X.K H es vs → ds = es
  | [], es, vs, h, h' => by
    simp only [HasL] at h
    subst h
    cases es with
    | nil => rfl
    | cons e es => simp only [HasL] at h'; obtain ⟨_, _, z, _⟩ := h'; cases z
  | d :: ds, es, vs, h, h' => by
    simp only [HasL] at h
    obtain ⟨v, r, rfl, h1, h2⟩ := h
    cases es with
    | nil => simp only [HasL] at h'; cases h'
    | cons e es =>
      simp only [HasL] at h'
      obtain ⟨v', r', z, h3, h4⟩ := h'
      cases z
      rw [Has.inj I d e v h1 h3, HasL.inj I ds es r h2 h4]
end

/-! ### == -/
def eqAtN (ds es : List Dt) (j : Nat) : Bool := match ds[j]?, es[j]? with
  | some d, some e => peq d e
  | _, _ => true
theorem eqAtN_zero (d e : Dt) (ds es : List Dt) : eqAtN (d :: ds) (e :: es) 0 = peq d e := rfl
theorem all_eqs : ∀ (ds es : List Dt), ((List.range (min ds.length es.length)).all (eqAtN ds es) && ds.length == es.length) = peqs ds es
  | [], [] => by simp [peqs]
  | [], e :: es => by simp [peqs]
  | d :: ds, [] => by simp [peqs]
  | d :: ds, e :: es => by
    have ih := all_eqs ds es
    have e1 : min (d :: ds).length (e :: es).length = min ds.length es.length + 1 := by simp only [List.length_cons]; omega
    rw [e1, List.range_succ_eq_map, List.all_cons, eqAtN_zero, List.all_map]
    have e2 : (eqAtN (d :: ds) (e :: es) ∘ Nat.succ) = eqAtN ds es := by funext j; rfl
    rw [e2, List.length_cons, List.length_cons]
    simp only [peqs]
    rw [← ih, Bool.and_assoc]
    congr 2
    simp
theorem all_eqs' {ds es : List Dt} (h : ds.length = es.length) : (List.range ds.length).all (eqAtN ds es) = peqs ds es := by
  rw [← all_eqs, ← h, Nat.min_self]
  simp
theorem peqs_len {ds es : List Dt} (h : ds.length ≠ es.length) : peqs ds es = false := by
  rw [← all_eqs]
  have : (ds.length == es.length) = false := by simpa using h
  rw [this, Bool.and_false]
theorem tupOf (I : Inv X pins σ H s) {a : Addr} {xs : List V} {ds : List Dt} (h : SqT X.K H a xs) (g : HasL X.K H ds xs) : ∃ its : List Value, Vals xs its ∧ s.heap.IsTuple a its.toArray ∧ its.toArray.size = ds.length := by
  obtain ⟨its, r, p, _⟩ := I.tuple h
  exact ⟨its, r, p, by rw [List.size_toArray, ← r.length, ← g.length]⟩
theorem lstOf (I : Inv X pins σ H s) {a : Addr} {xs : List V} {ds : List Dt} (h : SqL X.K H a xs) (g : HasL X.K H ds xs) : ∃ its : List Value, Vals xs its ∧ s.heap.IsList a its.toArray ∧ its.toArray.size = ds.length := by
  obtain ⟨its, r, p, _⟩ := I.list h
  exact ⟨its, r, p.isList, by rw [List.size_toArray, ← r.length, ← g.length]⟩
/-- what is asked of the items -/
def EqItems (s : Shared) (A : Around) (ds es : List Dt) (xs ys : List V) : Prop :=
  ∀ (us zs : List Value), Vals xs us → Vals ys zs → ∀ (j : Nat) (u z : Value), us[j]? = some u → zs[j]? = some z → SeqAt.EqAt A.in1 s u z (eqAtN ds es j)
theorem rcTT (I : Inv X pins σ H s) {A : Around} {a b : Addr} {xs ys : List V} {ds es : List Dt} (h1 : SqT X.K H a xs) (g1 : HasL X.K H ds xs) (h2 : SqT X.K H b ys) (g2 : HasL X.K H es ys) (hu : A.units < cLine)
    (he : EqItems s A ds es xs ys) : SeqAt.RcAt A s (.ref a) (.ref b) (peqs ds es) ∧ SeqAt.RcNeAt A s (.ref a) (.ref b) (!peqs ds es) := by
  obtain ⟨its, r1, p1, z1⟩ := tupOf I h1 g1
  obtain ⟨jts, r2, p2, z2⟩ := tupOf I h2 g2
  have q : ∀ j (k1 : j < its.toArray.size) (k2 : j < jts.toArray.size), SeqAt.EqAt A.in1 s its.toArray[j] jts.toArray[j] (eqAtN ds es j) := fun j k1 k2 => he its jts r1 r2 j _ _ (by simp at k1 ⊢) (by simp at k2 ⊢)
  have t1 := SeqAt.RcAt.tuples (e := eqAtN ds es) p1 p2 hu q
  have t2 := SeqAt.RcNeAt.tuples (e := eqAtN ds es) p1 p2 hu q
  rw [z1, z2, all_eqs] at t1 t2
  exact ⟨t1, t2⟩
theorem rcLL (I : Inv X pins σ H s) {A : Around} {a b : Addr} {xs ys : List V} {ds es : List Dt} (h1 : SqL X.K H a xs) (g1 : HasL X.K H ds xs) (h2 : SqL X.K H b ys) (g2 : HasL X.K H es ys) (hu : A.units < cLine)
    (he : EqItems s A ds es xs ys) : SeqAt.RcAt A s (.ref a) (.ref b) (peqs ds es) ∧ SeqAt.RcNeAt A s (.ref a) (.ref b) (!peqs ds es) := by
  obtain ⟨its, r1, p1, z1⟩ := lstOf I h1 g1
  obtain ⟨jts, r2, p2, z2⟩ := lstOf I h2 g2
  by_cases hl : ds.length = es.length
  · have q : ∀ j (k1 : j < its.toArray.size) (k2 : j < jts.toArray.size), SeqAt.EqAt A.in1 s its.toArray[j] jts.toArray[j] (eqAtN ds es j) := fun j k1 k2 => he its jts r1 r2 j _ _ (by simp at k1 ⊢) (by simp at k2 ⊢)
    have t1 := SeqAt.RcAt.lists (e := eqAtN ds es) p1 p2 (by rw [z1, z2, hl]) hu q
    have t2 := SeqAt.RcNeAt.lists (e := eqAtN ds es) p1 p2 (by rw [z1, z2, hl]) hu q
    rw [z1, all_eqs' hl] at t1 t2
    exact ⟨t1, t2⟩
  · have hne : (its.toArray.size != jts.toArray.size) = true := by rw [z1, z2]; simpa using hl
    rw [peqs_len hl]
    exact ⟨SeqAt.RcAt.lists_lengths p1 p2 hne hu, SeqAt.RcNeAt.lists_lengths p1 p2 hne hu⟩
theorem unitsOf {A : Around} {d : Dt} (h : A.units + dep d < cLine) : A.units < cLine := Nat.lt_of_le_of_lt (Nat.le_add_right _ _) h
mutual
theorem eqAt_D (I : Inv X pins σ H s) : ∀ (d e : Dt) (v w : V) (u z : Value) (A : Around), Has X.K H d v → Has X.K H e w → RelV v u → RelV w z → A.units + dep d < cLine → SeqAt.EqAt A s u z (peq d e)
  | .non, e, v, w, u, z, A, h, h', r, r', hu => by
    have hu' := unitsOf hu
    simp only [Has] at h
    subst h
    cases e with
    | tup es =>
      simp only [Has] at h'
      obtain ⟨b, ys, rfl, h3, h4⟩ := h'
      obtain ⟨_, _, p, _⟩ := tupOf I h3 h4
      cases (show z = Value.ref b from r')
      cases (show u = Value.none from r)
      exact SeqAt.EqAt.none_tuple p hu'
    | lst es =>
      simp only [Has] at h'
      obtain ⟨b, ys, rfl, h3, h4⟩ := h'
      obtain ⟨_, _, p, _⟩ := lstOf I h3 h4
      cases (show z = Value.ref b from r')
      cases (show u = Value.none from r)
      exact SeqAt.EqAt.none_list p hu'
    | _ => simp only [Has] at h'; subst h'; exact eqAt_V r r' rfl rfl
  | .bl k, e, v, w, u, z, A, h, h', r, r', hu => by
    have hu' := unitsOf hu
    simp only [Has] at h
    subst h
    cases e with
    | tup es =>
      simp only [Has] at h'
      obtain ⟨b, ys, rfl, h3, h4⟩ := h'
      obtain ⟨_, _, p, _⟩ := tupOf I h3 h4
      cases (show z = Value.ref b from r')
      cases (show u = Value.bool k from r)
      exact SeqAt.EqAt.bool_tuple k p hu'
    | lst es =>
      simp only [Has] at h'
      obtain ⟨b, ys, rfl, h3, h4⟩ := h'
      obtain ⟨_, _, p, _⟩ := lstOf I h3 h4
      cases (show z = Value.ref b from r')
      cases (show u = Value.bool k from r)
      exact SeqAt.EqAt.bool_list k p hu'
    | _ => simp only [Has] at h'; subst h'; exact eqAt_V r r' rfl rfl
  | .int k, e, v, w, u, z, A, h, h', r, r', hu => by
    have hu' := unitsOf hu
    simp only [Has] at h
    subst h
    cases e with
    | tup es =>
      simp only [Has] at h'
      obtain ⟨b, ys, rfl, h3, h4⟩ := h'
      obtain ⟨_, _, p, _⟩ := tupOf I h3 h4
      cases (show z = Value.ref b from r')
      obtain ⟨t, rfl⟩ := r
      exact SeqAt.EqAt.int_tuple k t p hu'
    | lst es =>
      simp only [Has] at h'
      obtain ⟨b, ys, rfl, h3, h4⟩ := h'
      obtain ⟨_, _, p, _⟩ := lstOf I h3 h4
      cases (show z = Value.ref b from r')
      obtain ⟨t, rfl⟩ := r
      exact SeqAt.EqAt.int_list k t p hu'
    | _ => simp only [Has] at h'; subst h'; exact eqAt_V r r' rfl rfl
  | .str k, e, v, w, u, z, A, h, h', r, r', hu => by
    have hu' := unitsOf hu
    simp only [Has] at h
    subst h
    cases e with
    | tup es =>
      simp only [Has] at h'
      obtain ⟨b, ys, rfl, h3, h4⟩ := h'
      obtain ⟨_, _, p, _⟩ := tupOf I h3 h4
      cases (show z = Value.ref b from r')
      obtain ⟨t, rfl⟩ := r
      exact SeqAt.EqAt.str_tuple k t p hu'
    | lst es =>
      simp only [Has] at h'
      obtain ⟨b, ys, rfl, h3, h4⟩ := h'
      obtain ⟨_, _, p, _⟩ := lstOf I h3 h4
      cases (show z = Value.ref b from r')
      obtain ⟨t, rfl⟩ := r
      exact SeqAt.EqAt.str_list k t p hu'
    | _ => simp only [Has] at h'; subst h'; exact eqAt_V r r' rfl rfl
  | .tup ds, e, v, w, u, z, A, h, h', r, r', hu => by
    have hu' := unitsOf hu
    have hd := h
    simp only [Has] at h
    obtain ⟨a, xs, rfl, h1, h2⟩ := h
    cases (show u = Value.ref a from r)
    obtain ⟨_, _, p, _⟩ := tupOf I h1 h2
    have hi : A.in1.units + deps ds < cLine := by simp only [dep] at hu; rw [Around.in1_units]; omega
    cases e with
    | tup es =>
      have he := h'
      simp only [Has] at h'
      obtain ⟨b, ys, rfl, h3, h4⟩ := h'
      cases (show z = Value.ref b from r')
      by_cases hab : a = b
      · subst hab
        rw [Has.inj I _ _ _ hd he, peq_refl]
        exact SeqAt.EqAt.same _
      · have q := (rcTT I h1 h2 h3 h4 hu' fun us zs ru rz j u z e1 e2 => eqAt_L I ds es xs ys us zs A.in1 h2 h4 ru rz hi j u z e1 e2).1
        simp only [peq]
        exact SeqAt.EqAt.of_refs hab q
    | lst es =>
      simp only [Has] at h'
      obtain ⟨b, ys, rfl, h3, h4⟩ := h'
      cases (show z = Value.ref b from r')
      obtain ⟨_, _, p', _⟩ := lstOf I h3 h4
      exact SeqAt.EqAt.tuple_list p p' hu'
    | non => simp only [Has] at h'; subst h'; cases (show z = Value.none from r'); exact SeqAt.EqAt.tuple_none p hu'
    | bl k => simp only [Has] at h'; subst h'; cases (show z = Value.bool k from r'); exact SeqAt.EqAt.tuple_bool k p hu'
    | int k => simp only [Has] at h'; subst h'; obtain ⟨t, rfl⟩ := r'; exact SeqAt.EqAt.tuple_int k t p hu'
    | str k => simp only [Has] at h'; subst h'; obtain ⟨t, rfl⟩ := r'; exact SeqAt.EqAt.tuple_str k t p hu'
  | .lst ds, e, v, w, u, z, A, h, h', r, r', hu => by
    have hu' := unitsOf hu
    have hd := h
    simp only [Has] at h
    obtain ⟨a, xs, rfl, h1, h2⟩ := h
    cases (show u = Value.ref a from r)
    obtain ⟨_, _, p, _⟩ := lstOf I h1 h2
    have hi : A.in1.units + deps ds < cLine := by simp only [dep] at hu; rw [Around.in1_units]; omega
    cases e with
    | lst es =>
      have he := h'
      simp only [Has] at h'
      obtain ⟨b, ys, rfl, h3, h4⟩ := h'
      cases (show z = Value.ref b from r')
      by_cases hab : a = b
      · subst hab
        rw [Has.inj I _ _ _ hd he, peq_refl]
        exact SeqAt.EqAt.same _
      · have q := (rcLL I h1 h2 h3 h4 hu' fun us zs ru rz j u z e1 e2 => eqAt_L I ds es xs ys us zs A.in1 h2 h4 ru rz hi j u z e1 e2).1
        simp only [peq]
        exact SeqAt.EqAt.of_refs hab q
    | tup es =>
      simp only [Has] at h'
      obtain ⟨b, ys, rfl, h3, h4⟩ := h'
      cases (show z = Value.ref b from r')
      obtain ⟨_, _, p', _⟩ := tupOf I h3 h4
      exact SeqAt.EqAt.list_tuple p p' hu'
    | non => simp only [Has] at h'; subst h'; cases (show z = Value.none from r'); exact SeqAt.EqAt.list_none p hu'
    | bl k => simp only [Has] at h'; subst h'; cases (show z = Value.bool k from r'); exact SeqAt.EqAt.list_bool k p hu'
    | int k => simp only [Has] at h'; subst h'; obtain ⟨t, rfl⟩ := r'; exact SeqAt.EqAt.list_int k t p hu'
    | str k => simp only [Has] at h'; subst h'; obtain ⟨t, rfl⟩ := r'; exact SeqAt.EqAt.list_str k t p hu'
theorem eqAt_L (I : Inv X pins σ H s) : ∀ (ds es : List Dt) (vs ws : List V) (us zs : List Value) (A : Around), HasL X.K H ds vs → HasL X.K H es ws → Vals vs us → Vals ws zs → A.units + deps ds < cLine →
    ∀ (j : Nat) (u z : Value), us[j]? = some u → zs[j]? = some z → SeqAt.EqAt A s u z (eqAtN ds es j)
  | [], es, vs, ws, us, zs, A, h, h', r, r', hu, j, u, z, e1, e2 => by
    simp only [HasL] at h
    subst h
    cases r
    simp at e1
  | d :: ds, es, vs, ws, us, zs, A, h, h', r, r', hu, j, u, z, e1, e2 => by
    simp only [HasL] at h
    obtain ⟨v, rs, rfl, h1, h2⟩ := h
    cases r with
    | cons r1 r2 =>
      cases es with
      | nil =>
        simp only [HasL] at h'
        subst h'
        cases r'
        simp at e2
      | cons e es =>
        simp only [HasL] at h'
        obtain ⟨w, rt, rfl, h3, h4⟩ := h'
        simp only [deps] at hu
        cases r' with
        | cons r3 r4 =>
          cases j with
          | zero =>
            simp at e1 e2
            subst e1 e2
            exact eqAt_D I d e v w _ _ A h1 h3 r1 r3 (by omega)
          | succ j => exact eqAt_L I ds es rs rt _ _ A h2 h4 r2 r4 (by omega) j u z (by simpa using e1) (by simpa using e2)
end
end
end L2

namespace L2
open PySem PySem.Spec PyProof.Rows
section
variable {X : Cx} {pins : List (Addr × Obj)} {σ : St} {H : Hp} {s : Shared}
/-- == and != of any two data -/
theorem rc_D (I : Inv X pins σ H s) (A : Around) (d e : Dt) (v w : V) (u z : Value) (h : Has X.K H d v) (h' : Has X.K H e w) (r : RelV v u) (r' : RelV w z) (hu : A.units + dep d < cLine) :
    SeqAt.RcAt A s u z (peq d e) ∧ SeqAt.RcNeAt A s u z (!peq d e) := by
  have hu' := unitsOf hu
  cases d with
  | non =>
    simp only [Has] at h
    subst h
    cases (show u = Value.none from r)
    cases e with
    | non =>
      simp only [Has] at h'
      subst h'
      cases (show z = Value.none from r')
      exact ⟨SeqAt.RcAt.none_none, SeqAt.RcNeAt.none_none⟩
    | bl k2 =>
      simp only [Has] at h'
      subst h'
      cases (show z = Value.bool k2 from r')
      exact ⟨SeqAt.RcAt.none_bool k2, SeqAt.RcNeAt.none_bool k2⟩
    | int k2 =>
      simp only [Has] at h'
      subst h'
      obtain ⟨t2, rfl⟩ := r'
      exact ⟨SeqAt.RcAt.none_int k2 t2, SeqAt.RcNeAt.none_int k2 t2⟩
    | str k2 =>
      simp only [Has] at h'
      subst h'
      obtain ⟨t2, rfl⟩ := r'
      exact ⟨SeqAt.RcAt.none_str k2 t2, SeqAt.RcNeAt.none_str k2 t2⟩
    | tup es =>
      simp only [Has] at h'
      obtain ⟨b, ys, rfl, h3, h4⟩ := h'
      obtain ⟨_, _, p, _⟩ := tupOf I h3 h4
      cases (show z = Value.ref b from r')
      exact ⟨SeqAt.RcAt.none_tuple p hu', SeqAt.RcNeAt.none_tuple p hu'⟩
    | lst es =>
      simp only [Has] at h'
      obtain ⟨b, ys, rfl, h3, h4⟩ := h'
      obtain ⟨_, _, p, _⟩ := lstOf I h3 h4
      cases (show z = Value.ref b from r')
      exact ⟨SeqAt.RcAt.none_list p hu', SeqAt.RcNeAt.none_list p hu'⟩
  | bl k1 =>
    simp only [Has] at h
    subst h
    cases (show u = Value.bool k1 from r)
    cases e with
    | non =>
      simp only [Has] at h'
      subst h'
      cases (show z = Value.none from r')
      exact ⟨SeqAt.RcAt.bool_none k1, SeqAt.RcNeAt.bool_none k1⟩
    | bl k2 =>
      simp only [Has] at h'
      subst h'
      cases (show z = Value.bool k2 from r')
      exact ⟨SeqAt.RcAt.bool_bool k1 k2, SeqAt.RcNeAt.bool_bool k1 k2⟩
    | int k2 =>
      simp only [Has] at h'
      subst h'
      obtain ⟨t2, rfl⟩ := r'
      exact ⟨SeqAt.RcAt.bool_int k1 k2 t2, SeqAt.RcNeAt.bool_int k1 k2 t2⟩
    | str k2 =>
      simp only [Has] at h'
      subst h'
      obtain ⟨t2, rfl⟩ := r'
      exact ⟨SeqAt.RcAt.bool_str k1 k2 t2, SeqAt.RcNeAt.bool_str k1 k2 t2⟩
    | tup es =>
      simp only [Has] at h'
      obtain ⟨b, ys, rfl, h3, h4⟩ := h'
      obtain ⟨_, _, p, _⟩ := tupOf I h3 h4
      cases (show z = Value.ref b from r')
      exact ⟨SeqAt.RcAt.bool_tuple k1 p hu', SeqAt.RcNeAt.bool_tuple k1 p hu'⟩
    | lst es =>
      simp only [Has] at h'
      obtain ⟨b, ys, rfl, h3, h4⟩ := h'
      obtain ⟨_, _, p, _⟩ := lstOf I h3 h4
      cases (show z = Value.ref b from r')
      exact ⟨SeqAt.RcAt.bool_list k1 p hu', SeqAt.RcNeAt.bool_list k1 p hu'⟩
  | int k1 =>
    simp only [Has] at h
    subst h
    obtain ⟨t1, rfl⟩ := r
    cases e with
    | non =>
      simp only [Has] at h'
      subst h'
      cases (show z = Value.none from r')
      exact ⟨SeqAt.RcAt.int_none k1 t1, SeqAt.RcNeAt.int_none k1 t1⟩
    | bl k2 =>
      simp only [Has] at h'
      subst h'
      cases (show z = Value.bool k2 from r')
      exact ⟨SeqAt.RcAt.int_bool k1 t1 k2, SeqAt.RcNeAt.int_bool k1 t1 k2⟩
    | int k2 =>
      simp only [Has] at h'
      subst h'
      obtain ⟨t2, rfl⟩ := r'
      exact ⟨SeqAt.RcAt.int_int k1 t1 k2 t2, SeqAt.RcNeAt.int_int k1 t1 k2 t2⟩
    | str k2 =>
      simp only [Has] at h'
      subst h'
      obtain ⟨t2, rfl⟩ := r'
      exact ⟨SeqAt.RcAt.int_str k1 t1 k2 t2, SeqAt.RcNeAt.int_str k1 t1 k2 t2⟩
    | tup es =>
      simp only [Has] at h'
      obtain ⟨b, ys, rfl, h3, h4⟩ := h'
      obtain ⟨_, _, p, _⟩ := tupOf I h3 h4
      cases (show z = Value.ref b from r')
      exact ⟨SeqAt.RcAt.int_tuple k1 t1 p hu', SeqAt.RcNeAt.int_tuple k1 t1 p hu'⟩
    | lst es =>
      simp only [Has] at h'
      obtain ⟨b, ys, rfl, h3, h4⟩ := h'
      obtain ⟨_, _, p, _⟩ := lstOf I h3 h4
      cases (show z = Value.ref b from r')
      exact ⟨SeqAt.RcAt.int_list k1 t1 p hu', SeqAt.RcNeAt.int_list k1 t1 p hu'⟩
  | str k1 =>
    simp only [Has] at h
    subst h
    obtain ⟨t1, rfl⟩ := r
    cases e with
    | non =>
      simp only [Has] at h'
      subst h'
      cases (show z = Value.none from r')
      exact ⟨SeqAt.RcAt.str_none k1 t1, SeqAt.RcNeAt.str_none k1 t1⟩
    | bl k2 =>
      simp only [Has] at h'
      subst h'
      cases (show z = Value.bool k2 from r')
      exact ⟨SeqAt.RcAt.str_bool k1 t1 k2, SeqAt.RcNeAt.str_bool k1 t1 k2⟩
    | int k2 =>
      simp only [Has] at h'
      subst h'
      obtain ⟨t2, rfl⟩ := r'
      exact ⟨SeqAt.RcAt.str_int k1 t1 k2 t2, SeqAt.RcNeAt.str_int k1 t1 k2 t2⟩
    | str k2 =>
      simp only [Has] at h'
      subst h'
      obtain ⟨t2, rfl⟩ := r'
      exact ⟨SeqAt.RcAt.str_str k1 t1 k2 t2, SeqAt.RcNeAt.str_str k1 t1 k2 t2⟩
    | tup es =>
      simp only [Has] at h'
      obtain ⟨b, ys, rfl, h3, h4⟩ := h'
      obtain ⟨_, _, p, _⟩ := tupOf I h3 h4
      cases (show z = Value.ref b from r')
      exact ⟨SeqAt.RcAt.str_tuple k1 t1 p hu', SeqAt.RcNeAt.str_tuple k1 t1 p hu'⟩
    | lst es =>
      simp only [Has] at h'
      obtain ⟨b, ys, rfl, h3, h4⟩ := h'
      obtain ⟨_, _, p, _⟩ := lstOf I h3 h4
      cases (show z = Value.ref b from r')
      exact ⟨SeqAt.RcAt.str_list k1 t1 p hu', SeqAt.RcNeAt.str_list k1 t1 p hu'⟩
  | tup ds =>
    simp only [Has] at h
    obtain ⟨a, xs, rfl, h1, h2⟩ := h
    cases (show u = Value.ref a from r)
    obtain ⟨_, _, p, _⟩ := tupOf I h1 h2
    have hi : A.in1.units + deps ds < cLine := by simp only [dep] at hu; rw [Around.in1_units]; omega
    cases e with
    | non =>
      simp only [Has] at h'
      subst h'
      cases (show z = Value.none from r')
      exact ⟨SeqAt.RcAt.tuple_none p hu', SeqAt.RcNeAt.tuple_none p hu'⟩
    | bl k2 =>
      simp only [Has] at h'
      subst h'
      cases (show z = Value.bool k2 from r')
      exact ⟨SeqAt.RcAt.tuple_bool k2 p hu', SeqAt.RcNeAt.tuple_bool k2 p hu'⟩
    | int k2 =>
      simp only [Has] at h'
      subst h'
      obtain ⟨t2, rfl⟩ := r'
      exact ⟨SeqAt.RcAt.tuple_int k2 t2 p hu', SeqAt.RcNeAt.tuple_int k2 t2 p hu'⟩
    | str k2 =>
      simp only [Has] at h'
      subst h'
      obtain ⟨t2, rfl⟩ := r'
      exact ⟨SeqAt.RcAt.tuple_str k2 t2 p hu', SeqAt.RcNeAt.tuple_str k2 t2 p hu'⟩
    | tup es =>
      simp only [Has] at h'
      obtain ⟨b, ys, rfl, h3, h4⟩ := h'
      cases (show z = Value.ref b from r')
      simp only [peq]
      exact rcTT I h1 h2 h3 h4 hu' fun us zs ru rz j u z e1 e2 => eqAt_L I ds es xs ys us zs A.in1 h2 h4 ru rz hi j u z e1 e2
    | lst es =>
      simp only [Has] at h'
      obtain ⟨b, ys, rfl, h3, h4⟩ := h'
      cases (show z = Value.ref b from r')
      obtain ⟨_, _, p', _⟩ := lstOf I h3 h4
      exact ⟨SeqAt.RcAt.tuple_list p p' hu', SeqAt.RcNeAt.tuple_list p p' hu'⟩
  | lst ds =>
    simp only [Has] at h
    obtain ⟨a, xs, rfl, h1, h2⟩ := h
    cases (show u = Value.ref a from r)
    obtain ⟨_, _, p, _⟩ := lstOf I h1 h2
    have hi : A.in1.units + deps ds < cLine := by simp only [dep] at hu; rw [Around.in1_units]; omega
    cases e with
    | non =>
      simp only [Has] at h'
      subst h'
      cases (show z = Value.none from r')
      exact ⟨SeqAt.RcAt.list_none p hu', SeqAt.RcNeAt.list_none p hu'⟩
    | bl k2 =>
      simp only [Has] at h'
      subst h'
      cases (show z = Value.bool k2 from r')
      exact ⟨SeqAt.RcAt.list_bool k2 p hu', SeqAt.RcNeAt.list_bool k2 p hu'⟩
    | int k2 =>
      simp only [Has] at h'
      subst h'
      obtain ⟨t2, rfl⟩ := r'
      exact ⟨SeqAt.RcAt.list_int k2 t2 p hu', SeqAt.RcNeAt.list_int k2 t2 p hu'⟩
    | str k2 =>
      simp only [Has] at h'
      subst h'
      obtain ⟨t2, rfl⟩ := r'
      exact ⟨SeqAt.RcAt.list_str k2 t2 p hu', SeqAt.RcNeAt.list_str k2 t2 p hu'⟩
    | tup es =>
      simp only [Has] at h'
      obtain ⟨b, ys, rfl, h3, h4⟩ := h'
      cases (show z = Value.ref b from r')
      obtain ⟨_, _, p', _⟩ := tupOf I h3 h4
      exact ⟨SeqAt.RcAt.list_tuple p p' hu', SeqAt.RcNeAt.list_tuple p p' hu'⟩
    | lst es =>
      simp only [Has] at h'
      obtain ⟨b, ys, rfl, h3, h4⟩ := h'
      cases (show z = Value.ref b from r')
      simp only [peq]
      exact rcLL I h1 h2 h3 h4 hu' fun us zs ru rz j u z e1 e2 => eqAt_L I ds es xs ys us zs A.in1 h2 h4 ru rz hi j u z e1 e2
def rEqD (K : PySem.W.Frag) : R2 := fun x y H Q => ∃ d e, Has K H d x ∧ Has K H e y ∧ dep d ≤ 60 ∧ Q (.bl (peq d e)) H
def rNeD (K : PySem.W.Frag) : R2 := fun x y H Q => ∃ d e, Has K H d x ∧ Has K H e y ∧ dep d ≤ 60 ∧ Q (.bl (!peq d e)) H
theorem op_eqD (hu : X.A.units + 64 < cLine) : OpR X (compareOp .Eq) (rEqD X.K) := by
  intro pins s σ H x y v u Q I rx ry h
  obtain ⟨d, e, h1, h2, hd, q⟩ := h
  exact (rc_D I X.A d e x y v u h1 h2 rx ry (by omega)).1 _ _ _ _ ⟨.bl _, H, I, rfl, q⟩
theorem op_neD (hu : X.A.units + 64 < cLine) : OpR X (compareOp .NotEq) (rNeD X.K) := by
  intro pins s σ H x y v u Q I rx ry h
  obtain ⟨d, e, h1, h2, hd, q⟩ := h
  exact (rc_D I X.A d e x y v u h1 h2 rx ry (by omega)).2 _ _ _ _ ⟨.bl _, H, I, rfl, q⟩
/-! ### in, not in, index -/
open Classical in
/-- does this value stand for a datum that is like d -/
noncomputable def hitD (K : PySem.W.Frag) (H : Hp) (d : Dt) (u : Value) : Bool := decide (∃ (v : V) (d' : Dt), RelV v u ∧ Has K H d' v ∧ peq d' d = true)
open Classical in
def rInD (K : PySem.W.Frag) (neg : Bool) : R2 := fun x y H Q => ∃ p xs ds d, y = .ref p ∧ (SqL K H p xs ∨ SqT K H p xs) ∧ HasL K H ds xs ∧ Has K H d x ∧ deps ds ≤ 60 ∧ Q (.bl (if neg then !(ds.any fun d' => peq d' d) else ds.any fun d' => peq d' d)) H
/-- the place of the first that is like d -/
def rIndexD (K : PySem.W.Frag) : V → List V → Hp → VK → Prop := fun x vs H Q => ∃ l xs ds y d j, x = .ref l ∧ vs = [y] ∧ H l = some (.lst xs) ∧ HasL K H ds xs ∧ Has K H d y ∧ deps ds ≤ 60 ∧
  (∃ dj, ds[j]? = some dj ∧ peq dj d = true) ∧ (∀ m dm, m < j → ds[m]? = some dm → peq dm d = false) ∧ Q (.int (j : Nat)) H
end
end L2

/-! OWN: forms that the laws share: a def with all that a caller asks, comprehensions by an invariant, walks by any iterator. Behind Ext2, Deep2. -/
namespace L2
open PySem PySem.Spec PyProof.Rows
/-- a def with its promise, as a caller asks it -/
structure FB (P : Program) (w : World) (K : PySem.W.Frag) (mg : Str → Option Value) (base : Heap) (CX : CXT) (k : Nat) (x : Str) (f : Addr) (fd : FuncData) (ps : List Str) (sp : Sp) : Prop where
  ok : FnOk P w K mg base CX k f fd ps sp
  b : Binds K fd ps []
  kp : PySem.W.keepIn K (.ref f) = true
  m : mg x = some (.ref f)
theorem bsz (n : Nat) (h : n ≤ 1000) : n ≤ sizeLine := Nat.le_of_lt (small1000 h)
theorem units64 {k : Nat} {A : Around} (hr : Room k A) : A.units + 64 < cLine := hr.units
theorem kitSelf (K : PySem.W.Frag) (n : String) : PySem.W.kitOne K (.type n) (.type n) = some true := by
  unfold PySem.W.kitOne
  rw [if_pos (by simp)]
theorem at_some {α : Type} {xs : List α} {i : Int} (h0 : 0 ≤ i) (h1 : i < (xs.length : Int)) : ∃ c, atI xs i = some c ∧ xs[i.toNat]? = some c := by
  have hk : i.toNat < xs.length := by omega
  have e : i = ((i.toNat : Nat) : Int) := by omega
  have q : atI xs ((i.toNat : Nat) : Int) = some xs[i.toNat] := atI_nat (List.getElem?_eq_getElem hk)
  rw [← e] at q
  exact ⟨_, q, List.getElem?_eq_getElem hk⟩
theorem atI_ints {ns : List Int} {i : Nat} {n : Int} (h : ns[i]? = some n) : atI (ns.map V.int) (i : Int) = some (.int n) := atI_nat (by rw [List.getElem?_map, h]; rfl)
theorem take_snoc {α : Type} {xs : List α} {i : Nat} {x : α} (h : xs[i]? = some x) : xs.take (i + 1) = xs.take i ++ [x] := by
  rw [List.take_add_one, h]
  rfl
theorem sameNew {H : Hp} {p : Addr} (h : H p = none) (o : HO) : Same H (upd H p o) := fun b u q => by rw [upd_ne (ne_of_none q h)]; exact q
theorem Same.upd {H0 H : Hp} {l : Addr} {o : HO} (s : Same H0 H) (h : H0 l = none) : Same H0 (upd H l o) := fun b u q => by rw [upd_ne (ne_of_none q h)]; exact s b u q
theorem Same.kt {H H' : Hp} (s : Same H H') : KeepT H H' := KeepT.of_same s
theorem Same.tup {K : PySem.W.Frag} {H H' : Hp} {a : Addr} {xs : List V} (s : Same H H') (h : SqT K H a xs) : SqT K H' a xs := s.kt.sq h

/-! ### an iterator of n turns -/
structure Wk (J : It) (n : Nat) (Ok : Hp → Prop) : Prop where
  stop : ∀ i H, Ok H → n ≤ i → J.stop i H
  go : ∀ i H, Ok H → i < n → J.go i H
theorem wk_range {lo : Int} {n : Nat} : Wk (Itr lo n) n (fun _ => True) := ⟨fun _ _ _ h => h, fun _ _ _ h => h⟩
theorem wk_list {K : PySem.W.Frag} {a : Addr} {xs : List V} : Wk (Itl K a) xs.length (fun H => SqL K H a xs) := ⟨fun _ _ h hi => ⟨xs, h, hi⟩, fun i _ h hi => ⟨xs, xs[i], h, by simp [hi]⟩⟩
theorem wk_tup {K : PySem.W.Frag} {a : Addr} {xs : List V} : Wk (Itt K a) xs.length (fun H => SqT K H a xs) := ⟨fun _ _ h hi => ⟨xs, h, hi⟩, fun i _ h hi => ⟨xs, xs[i], h, by simp [hi]⟩⟩
/-- what a turn of a comprehension is to reach -/
def LcW (n : Nat) (D : Addr) (Pv : Nat → List V → Hp → Prop) (i m : Nat) (ys : List V) (H : Hp) : Prop := m = n - i ∧ i ≤ n ∧ ys.length ≤ i ∧ H D = some (.lst ys) ∧ Pv i ys H
def LcPost (n : Nat) (D : Addr) (Pv : Nat → List V → Hp → Prop) (i : Nat) (ys : List V) : VK := fun y H3 => H3 D = some (.lst ys) ∧ ys.length < sizeLine ∧ ∃ m', m' < n - i ∧ LcW n D Pv (i + 1) m' (ys ++ [y]) (upd H3 D (.lst (ys ++ [y])))
def LcSkip (n : Nat) (D : Addr) (Pv : Nat → List V → Hp → Prop) (i : Nat) (ys : List V) (H3 : Hp) : Prop := ∃ m', m' < n - i ∧ LcW n D Pv (i + 1) m' ys H3
theorem lc_post {n : Nat} {D : Addr} {Pv : Nat → List V → Hp → Prop} {i : Nat} {ys : List V} {y : V} {H3 : Hp} (hn : n ≤ sizeLine) (hi : i < n) (hl : ys.length ≤ i) (hD : H3 D = some (.lst ys)) (p : Pv (i + 1) (ys ++ [y]) (upd H3 D (.lst (ys ++ [y])))) : LcPost n D Pv i ys y H3 :=
  ⟨hD, by omega, n - (i + 1), by omega, rfl, hi, by rw [List.length_append, List.length_singleton]; omega, upd_same, p⟩
theorem lc_skip {n : Nat} {D : Addr} {Pv : Nat → List V → Hp → Prop} {i : Nat} {ys : List V} {H3 : Hp} (hi : i < n) (hl : ys.length ≤ i) (hD : H3 D = some (.lst ys)) (p : Pv (i + 1) ys H3) : LcSkip n D Pv i ys H3 :=
  ⟨n - (i + 1), by omega, rfl, hi, by omega, hD, p⟩
theorem lc_by {J : It} {n : Nat} {Ok : Hp → Prop} {te : TE} {fv : St} {H1 : Hp} {D : Addr} {R : Hp → Prop} (W : Wk J n Ok) (Pv : Nat → List V → Hp → Prop) (hok : ∀ i ys H, Pv i ys H → Ok H) (h0 : Pv 0 [] (upd H1 D (.lst [])))
    (hs : ∀ i ys H' x H'', i < n → ys.length ≤ i → H' D = some (.lst ys) → Pv i ys H' → J.yld i H' x H'' → te (some x :: fv) H'' (LcPost n D Pv i ys)) (hd : ∀ ys H', H' D = some (.lst ys) → Pv n ys H' → R H') :
    ∃ W : Nat → Nat → List V → Hp → Prop, (∃ m, W 0 m [] (upd H1 D (.lst []))) ∧ ∀ i m ys H', W i m ys H' → H' D = some (.lst ys) ∧
      ((J.stop i H' ∧ R H') ∨ (J.go i H' ∧ ∀ x H'', J.yld i H' x H'' → te (some x :: fv) H'' fun y H3 => H3 D = some (.lst ys) ∧ ys.length < sizeLine ∧ ∃ m', m' < m ∧ W (i + 1) m' (ys ++ [y]) (upd H3 D (.lst (ys ++ [y]))))) := by
  refine ⟨LcW n D Pv, ⟨n, rfl, Nat.zero_le _, Nat.zero_le _, upd_same, h0⟩, ?_⟩
  rintro i m ys H' ⟨rfl, hi, hl, hD, p⟩
  refine ⟨hD, ?_⟩
  by_cases hlt : i < n
  · exact .inr ⟨W.go i H' (hok _ _ _ p) hlt, fun x H'' y => hs i ys H' x H'' hlt hl hD p y⟩
  · have e : i = n := by omega
    subst e
    exact .inl ⟨W.stop i H' (hok _ _ _ p) (Nat.le_refl _), hd ys H' hD p⟩
theorem lci_by {J : It} {n : Nat} {Ok : Hp → Prop} {tc : TT} {te : TE} {fv : St} {H1 : Hp} {D : Addr} {R : Hp → Prop} (W : Wk J n Ok) (Pv : Nat → List V → Hp → Prop) (hok : ∀ i ys H, Pv i ys H → Ok H) (h0 : Pv 0 [] (upd H1 D (.lst [])))
    (hs : ∀ i ys H' x H'', i < n → ys.length ≤ i → H' D = some (.lst ys) → Pv i ys H' → J.yld i H' x H'' → tc (some x :: fv) H'' fun b H3 => if b = true then te (some x :: fv) H3 (LcPost n D Pv i ys) else LcSkip n D Pv i ys H3)
    (hd : ∀ ys H', H' D = some (.lst ys) → Pv n ys H' → R H') :
    ∃ W : Nat → Nat → List V → Hp → Prop, (∃ m, W 0 m [] (upd H1 D (.lst []))) ∧ ∀ i m ys H', W i m ys H' → H' D = some (.lst ys) ∧
      ((J.stop i H' ∧ R H') ∨ (J.go i H' ∧ ∀ x H'', J.yld i H' x H'' → tc (some x :: fv) H'' fun b H3 =>
        if b = true then te (some x :: fv) H3 fun y H4 => H4 D = some (.lst ys) ∧ ys.length < sizeLine ∧ ∃ m', m' < m ∧ W (i + 1) m' (ys ++ [y]) (upd H4 D (.lst (ys ++ [y])))
        else ∃ m', m' < m ∧ W (i + 1) m' ys H3)) := by
  refine ⟨LcW n D Pv, ⟨n, rfl, Nat.zero_le _, Nat.zero_le _, upd_same, h0⟩, ?_⟩
  rintro i m ys H' ⟨rfl, hi, hl, hD, p⟩
  refine ⟨hD, ?_⟩
  by_cases hlt : i < n
  · exact .inr ⟨W.go i H' (hok _ _ _ p) hlt, fun x H'' y => hs i ys H' x H'' hlt hl hD p y⟩
  · have e : i = n := by omega
    subst e
    exact .inl ⟨W.stop i H' (hok _ _ _ p) (Nat.le_refl _), hd ys H' hD p⟩
theorem for_by {J : It} {n : Nat} {Ok : Hp → Prop} {g : TG} {tb : TS} {D : Ends} {σ : St} {H : Hp} (W : Wk J n Ok) (Pv : Nat → St → Hp → Prop) (hok : ∀ i σ H, Pv i σ H → Ok H) (h0 : Pv 0 σ H)
    (hs : ∀ i σ H x H', i < n → Pv i σ H → J.yld i H x H' → g x σ H' fun σ2 H2 => tb { D with nx := Pv (i + 1), ct := Pv (i + 1), bk := D.nx } σ2 H2) (hd : ∀ σ H, Pv n σ H → D.nx σ H) :
    ∃ W : Nat → Nat → St → Hp → Prop, (∃ m, W 0 m σ H) ∧ ∀ i m σ H, W i m σ H →
      (J.stop i H ∧ D.nx σ H) ∨ (J.go i H ∧ ∃ N : St → Hp → Prop, (∀ σ' H', N σ' H' → ∃ m', m' < m ∧ W (i + 1) m' σ' H') ∧ ∀ x H', J.yld i H x H' → g x σ H' fun σ2 H2 => tb { D with nx := N, ct := N, bk := D.nx } σ2 H2) := by
  refine ⟨fun i m σ H => m = n - i ∧ i ≤ n ∧ Pv i σ H, ⟨n, by simp, Nat.zero_le _, h0⟩, ?_⟩
  rintro i m σ H ⟨rfl, hi, p⟩
  by_cases hlt : i < n
  · exact .inr ⟨W.go i H (hok _ _ _ p) hlt, Pv (i + 1), fun σ' H' p' => ⟨n - (i + 1), by omega, rfl, hlt, p'⟩, fun x H' y => hs i σ H x H' hlt p y⟩
  · have e : i = n := by omega
    subst e
    exact .inl ⟨W.stop i H (hok _ _ _ p) (Nat.le_refl _), hd σ H p⟩

/-! ### data that stand -/
theorem Has.int {K : PySem.W.Frag} {H : Hp} {i : Int} : Has K H (.int i) (.int i) := by simp only [Has]
theorem HasL.nil {K : PySem.W.Frag} {H : Hp} : HasL K H [] [] := by simp only [HasL]
theorem HasL.cons {K : PySem.W.Frag} {H : Hp} {d : Dt} {ds : List Dt} {v : V} {vs : List V} (h : Has K H d v) (r : HasL K H ds vs) : HasL K H (d :: ds) (v :: vs) := by
  simp only [HasL]
  exact ⟨v, vs, rfl, h, r⟩
theorem Has.tup' {K : PySem.W.Frag} {H : Hp} {ds : List Dt} {a : Addr} {xs : List V} (h : SqT K H a xs) (r : HasL K H ds xs) : Has K H (.tup ds) (.ref a) := by
  simp only [Has]
  exact ⟨a, xs, rfl, h, r⟩
theorem Has.lst' {K : PySem.W.Frag} {H : Hp} {ds : List Dt} {a : Addr} {xs : List V} (h : SqL K H a xs) (r : HasL K H ds xs) : Has K H (.lst ds) (.ref a) := by
  simp only [Has]
  exact ⟨a, xs, rfl, h, r⟩
theorem hasl_ints {K : PySem.W.Frag} {H : Hp} : ∀ {ns : List Int} {vs : List V}, HasL K H (ns.map Dt.int) vs → vs = ns.map V.int
  | [], vs, h => by simp only [List.map_nil, HasL] at h; rw [h]; rfl
  | n :: ns, vs, h => by
    simp only [List.map_cons, HasL] at h
    obtain ⟨v, r, rfl, h1, h2⟩ := h
    simp only [Has] at h1
    rw [h1, hasl_ints h2]
    rfl
/-- a tuple of two numbers -/
def dP (t : Int × Int) : Dt := .tup [.int t.1, .int t.2]
theorem has_dP {K : PySem.W.Frag} {H : Hp} {t : Int × Int} {v : V} (h : Has K H (dP t) v) : ∃ p, v = .ref p ∧ SqT K H p [.int t.1, .int t.2] := by
  unfold dP at h
  simp only [Has] at h
  obtain ⟨a, xs, rfl, hs, hl⟩ := h
  have e := hasl_ints (ns := [t.1, t.2]) hl
  rw [e] at hs
  exact ⟨a, rfl, hs⟩
theorem of_dP {K : PySem.W.Frag} {H : Hp} {t : Int × Int} {p : Addr} (h : SqT K H p [.int t.1, .int t.2]) : Has K H (dP t) (.ref p) := Has.tup' h (.cons .int (.cons .int .nil))
theorem nols_dPs : ∀ ts : List (Int × Int), nols (ts.map dP) = true
  | [] => by simp [nols]
  | t :: ts => by simp only [List.map_cons, nols, dP, nol, Bool.true_and]; exact nols_dPs ts
theorem deps_dPs : ∀ ts : List (Int × Int), deps (ts.map dP) ≤ 1
  | [] => by simp [deps]
  | t :: ts => by
    have h := deps_dPs ts
    simp only [List.map_cons, deps, dP, dep]
    simp only [Nat.max_self, Nat.zero_add]
    omega
theorem hasl_at {K : PySem.W.Frag} {H : Hp} {ts : List (Int × Int)} {xs : List V} {i : Nat} {x : V} (h : HasL K H (ts.map dP) xs) (e : xs[i]? = some x) : ∃ t p, ts[i]? = some t ∧ x = .ref p ∧ SqT K H p [.int t.1, .int t.2] := by
  obtain ⟨d, e1, e2⟩ := h.get e
  rw [List.getElem?_map] at e1
  cases q : ts[i]? with
  | none => rw [q] at e1; cases e1
  | some t =>
    rw [q] at e1
    cases e1
    obtain ⟨p, rfl, hp⟩ := has_dP e2
    exact ⟨t, p, rfl, rfl, hp⟩
/-- len of a list or a tuple, where the context is a comprehension's -/
abbrev rLenS (K : PySem.W.Frag) : List V → Hp → VK → Prop := fun xs H Q => ∃ p ys, xs = [.ref p] ∧ (SqL K H p ys ∨ SqT K H p ys) ∧ Q (.int ys.length) H
end L2

/-! OWN: dict(list of pairs), below the layer. -/
namespace PySem
open Sem (wp)
namespace F
theorem entry_dict_update_loop : entryFor table "dict.update.loop" = some Builtin.«dict.update.loop» := entryFor_of_tree (by kernel_rfl)
theorem plain_dict_update_loop : plainId "dict.update.loop" = true := by decide +kernel
theorem miss_list_keys : typeLookup (.type "list") "keys" = pure none := by rw [typeLookup_type, builtinLookup_eq_fast]; kernel_rfl
end F
theorem getAttrQ_miss_list {prog : Program} {w : World} {A : Around} {E : Value → Shared → Prop} {s : Shared} {a : Addr} {o : Obj} {xs : Array Value} {k : Nat} {name : Str} {Q : Option Value → Shared → Prop}
    (hx : s.heap.get? a = some o) (hc : o.cls = .type "list") (hdat : o.data = .seq xs k) (hd : o.dict = none) (hmiss : typeLookup (.type "list") name = pure none) (hname : (["__module__", "__name__", "__qualname__", "__doc__", "__annotations__"] : List Str).contains name = false) (hA : A.handled = none)
    (h : ∀ h' tk e, Heap.NewExcOf s.heap h' e "AttributeError" → Q none { s with heap := h', toks := tk }) (hsz : name.length + 100 ≤ sizeLine := by size_fits) :
    wpAny (model prog w) A (getAttr? (.ref a) name) Q E s := by
  obtain ⟨c, dct, dat, sl⟩ := o
  simp only at hc hdat hd
  subst hc hdat hd
  obtain ⟨hp, g, d, tk, os⟩ := s
  have hT : ∀ tk', (⟨hp, g, d, tk', os⟩ : Shared).TypeIs (.ref a) "list" := fun _ => ⟨_, hx, rfl⟩
  have f1 := sub_AttributeError
  have f3 := F.slot_list_getattribute.lookup
  have f4 := F.slot_list_getattribute.bind (.ref a)
  have f5 := am_list_getattr_none
  unfold getAttr? getAttrBy? getAttrBy
  repeat (any_goals (first | assumption | exact hT _ | ((with_reducible show wpAny _ _ (call (Value.builtin "list.__getattribute__") _ _) _ _ _); refine call_meets F.slot_list_getattribute (hT _) am_entry_list_getattribute (F.args_list_getattribute_2 _ _) (meets_getattribute_miss_list a xs k sl name _ hmiss hname hsz) ⟨hx, hA, fun h' tk' e hx' => ?_⟩) | wp_step))
  obtain ⟨t', u', he⟩ := hx'.there
  show wpAny _ _ (getattributeRaised _ _ _ _ _ _ _) _ _ _
  unfold getattributeRaised
  repeat (any_goals (first | assumption | wp_step))
  exact h _ _ _ hx'.of
section
variable {prog : Program} {w : World} {K : Type} [DecidableEq K] {knd : KeyKind prog w K} {A : Around}
def pairsTo (ks : Nat → K) (vals : Nat → Value) (n : Nat) : List (K × Value) := (List.range n).foldl (fun acc j => stored acc (ks j) (vals j)) []
theorem pairsTo_succ (ks : Nat → K) (vals : Nat → Value) (n : Nat) : pairsTo ks vals (n + 1) = stored (pairsTo ks vals n) (ks n) (vals n) := by
  unfold pairsTo
  rw [List.range_succ, List.foldl_append]
  rfl
theorem stored_len (kvs : List (K × Value)) (k : K) (v : Value) : (stored kvs k v).length ≤ kvs.length + 1 := by
  unfold stored
  split
  · rw [List.length_map]; omega
  · rw [List.length_append]; simp
theorem pairsTo_len (ks : Nat → K) (vals : Nat → Value) : ∀ n, (pairsTo ks vals n).length ≤ n
  | 0 => Nat.le_refl _
  | n + 1 => by
    rw [pairsTo_succ]
    have := stored_len (pairsTo ks vals n) (ks n) (vals n)
    have := pairsTo_len ks vals n
    omega
theorem codeAny_dict_update_loop {R : Result → Shared → Prop} {h0 : Heap} {l it d : Addr} {items : Array Value} {Ts : Nat → Addr} {keys vals : Nat → Value} {ks : Nat → K} {res : Value} (hh : A.handled = none) (hl : h0.IsList l items) (hli : l ≠ it) (hld : l ≠ d) (hid : d ≠ it) (hsz : items.size ≤ sizeLine)
    (hi : ∀ i, i < items.size → items[i]? = some (.ref (Ts i)) ∧ h0.IsTuple (Ts i) #[keys i, vals i] ∧ knd.is (ks i) (keys i) = true ∧ Ts i ≠ it ∧ Ts i ≠ d) :
    ∀ (k i : Nat) (s : Shared), items.size - i = k → i ≤ items.size → s.heap.IsListIter it l i → (∀ b o, b ≠ it → b ≠ d → h0.get? b = some o → s.heap.get? b = some o) → s.heap.DictOf knd d (pairsTo ks vals i) →
      (∀ h' tk, (∀ b o, b ≠ it → b ≠ d → h0.get? b = some o → h'.get? b = some o) → h'.DictOf knd d (pairsTo ks vals items.size) → R (.ok (.ret res)) { s with heap := h', toks := tk }) →
      codeAny (model prog w) A (.builtin "dict.update.loop" ⟨[.ref d, .ref it, rawInt i, res], []⟩) R s := by
  have lst : ∀ h : Heap, (∀ b o, b ≠ it → b ≠ d → h0.get? b = some o → h.get? b = some o) → h.IsList l items := fun h hk => by
    obtain ⟨o, ho, r⟩ := hl
    exact ⟨o, hk _ _ hli hld ho, r⟩
  intro k
  induction k with
  | zero =>
    intro i s hk hin hit keep hD hR
    have e : i = items.size := by omega
    subst e
    refine codeAny_builtin F.entry_dict_update_loop ?_
    rw [Around.under_plainId F.plain_dict_update_loop _]
    show wpAny _ A.in1 (pyNext (.ref it) >>= _) _ _ s
    refine wpAny_bind (wpAny_pyNext_list_end (by simpa using hh) hit (lst _ keep) (by simp) fun h' he => ?_)
    show wpAny _ _ (Builtin.Dict.addKeywords d [] >>= _) _ _ _
    refine wpAny_bind (wpAny_pure (wpAny_pure ?_))
    exact hR h' s.toks (fun b o h1 h2 h3 => he b o h1 (keep b o h1 h2 h3)) (hD.extBut he hid)
  | succ k ih =>
    intro i s hk hin hit keep hD hR
    have hlt : i < items.size := by omega
    obtain ⟨e1, e2, e3, e4, e5⟩ := hi i hlt
    refine codeAny_builtin F.entry_dict_update_loop ?_
    rw [Around.under_plainId F.plain_dict_update_loop _]
    show wpAny _ A.in1 (pyNext (.ref it) >>= _) _ _ s
    refine wpAny_bind (wpAny_pyNext_list_item hit (lst _ keep) e1 fun h' hit' hs' => ?_)
    have keep' : ∀ b o, b ≠ it → b ≠ d → h0.get? b = some o → h'.get? b = some o := fun b o h1 h2 h3 => (hs'.2 b h1).trans (keep b o h1 h2 h3)
    have hD' : h'.DictOf knd d (pairsTo ks vals i) := hD.sameBut hs' hid
    obtain ⟨ot, ht, htc, nt, htd⟩ := id e2
    have ht' := keep' _ _ e4 e5 ht
    have hT : ({ s with heap := h' } : Shared).TypeIs (.ref (Ts i)) "tuple" := ⟨_, ht', htc⟩
    refine wpAny_bind (wpAny_holding (wpAny_bind (wpAny_tryCatch ?_)))
    unfold Builtin.Dict.pairItems
    refine wpAny_bind (wpAny_typeOf hT ?_)
    rw [if_pos (by decide)]
    refine wpAny_bind (wpAny_seqItems ht' htd (wpAny_pure ?_))
    show wpAny _ _ (holding [keys i, vals i] (dictSet d (keys i) (vals i))) _ _ _
    have hlen := pairsTo_len ks vals i
    refine wpAny_holding (wpAny_dictSet_pairs e3 hD' (fun h2 hD2 hs2 => ?_) (by omega))
    refine wpAny_pure ⟨plainId_quiet F.plain_dict_update_loop _, ?_⟩
    have ei : rawInt ((i : Int) + 1) = rawInt ((i + 1 : Nat) : Int) := by rfl
    rw [ei]
    refine ih (i + 1) _ (by omega) (by omega) ?_ ?_ ?_ ?_
    · obtain ⟨o, ho, r⟩ := hit'
      exact ⟨o, (hs2.2 it hid.symm).trans ho, r⟩
    · exact fun b o h1 h2 h3 => (hs2.2 b h2).trans (keep' b o h1 h2 h3)
    · rw [pairsTo_succ]
      exact hD2
    · exact fun h3 tk h4 h5 => hR h3 tk h4 h5
theorem call_dict_list {E : Value → Shared → Prop} {s : Shared} {l : Addr} {o : Obj} {items : Array Value} {n : Nat} {Ts : Nat → Addr} {keys vals : Nat → Value} {ks : Nat → K} {Q : Value → Shared → Prop} (hh : A.handled = none)
    (hx : s.heap.get? l = some o) (hc : o.cls = .type "list") (hd : o.dict = none) (hdat : o.data = .seq items n) (hsz : items.size ≤ sizeLine)
    (hi : ∀ i, i < items.size → items[i]? = some (.ref (Ts i)) ∧ s.heap.IsTuple (Ts i) #[keys i, vals i] ∧ knd.is (ks i) (keys i) = true)
    (h : ∀ h' tk, (∀ b o, s.heap.get? b = some o → h'.get? b = some o) → h'.DictOf knd s.heap.objs.size (pairsTo ks vals items.size) → Q (.ref s.heap.objs.size) { s with heap := h', toks := tk }) :
    wpAny (model prog w) A (call (.type "dict") [.ref l]) Q E s := by
  refine callType_codes (Q₁ := fun obj s₁ => obj = .ref s.heap.objs.size ∧ s₁ = { s with heap := s.heap.push { cls := .type "dict", data := .dict #[] } }) F.kt_called_dict (F.kt_typeCall_dict_1 _) F.entry_dict_init (kt_code_dict_new _ ⟨rfl, rfl⟩) ?_
  rintro obj s₁ ⟨rfl, rfl⟩
  have hnew : (s.heap.push { cls := .type "dict", data := .dict #[] }).DictOf knd s.heap.objs.size [] := Heap.DictOf.new s.heap
  have hx1 : (s.heap.push { cls := .type "dict", data := .dict #[] }).get? l = some o := Heap.get?_push_of_some _ hx
  have hT : ({ s with heap := s.heap.push { cls := .type "dict", data := .dict #[] } } : Shared).TypeIs (.ref l) "list" := ⟨_, hx1, hc⟩
  refine ⟨hnew.typeIs, F.args_dict_init_2 _ _, ?_⟩
  unfold Builtin.«dict.__init__»
  refine wpAny_bind ?_
  unfold Builtin.Dict.selfAndRest
  refine wpAny_bind (wpAny_notOrdered_dict hnew.typeIs ?_)
  show wpAny _ _ (pure (s.heap.objs.size, [Value.ref l])) _ _ _
  refine wpAny_pure ?_
  show wpAny _ _ (Builtin.Dict.updateFrom "dict.__init__" s.heap.objs.size (.ref l) [] .none) _ _ _
  unfold Builtin.Dict.updateFrom
  refine wpAny_bind (wpAny_typeOf hT ?_)
  rw [if_pos (by decide)]
  refine wpAny_bind (getAttrQ_miss_list hx1 hc hdat hd F.miss_list_keys (by decide +kernel) (by simpa using hh) fun h1 tk1 e ne => ?_)
  rw [if_pos (show (none : Option Value).isNone = true from rfl)]
  have k1 : ∀ b ob, (s.heap.push { cls := .type "dict", data := .dict #[] }).get? b = some ob → h1.get? b = some ob := ne.keeps
  refine wpAny_bind (wpAny_rule ?_)
  have hl1 : h1.IsList l items := ⟨o, k1 _ _ hx1, hc, n, hdat⟩
  refine wpAny_bind (wpAny_pyIter_list hl1 ?_)
  refine wpAny_pure ⟨plainId_quiet F.plain_dict_update_loop _, ?_⟩
  have sz1 : s.heap.objs.size < h1.objs.size := Heap.lt_size (k1 _ _ (Heap.get?_push_size _ rfl))
  have hd1 : h1.DictOf knd s.heap.objs.size [] := by
    obtain ⟨o', es, ep, ho, r⟩ := hnew
    exact ⟨o', es, ep, k1 _ _ ho, r⟩
  have keep : ∀ b ob, s.heap.get? b = some ob → (h1.push { cls := .type "list_iterator", data := .fields #[.ref l, .int 0 0] }).get? b = some ob := fun b ob e => Heap.get?_push_of_some _ (k1 _ _ (Heap.get?_push_of_some _ e))
  have ltb : ∀ b ob, s.heap.get? b = some ob → b ≠ h1.objs.size ∧ b ≠ s.heap.objs.size := fun b ob e => by
    have := Heap.lt_size e
    exact ⟨Nat.ne_of_lt (Nat.lt_trans this sz1), Nat.ne_of_lt this⟩
  refine codeAny_dict_update_loop (h0 := h1.push { cls := .type "list_iterator", data := .fields #[.ref l, .int 0 0] }) (knd := knd) (l := l) (it := h1.objs.size) (d := s.heap.objs.size) (items := items) (Ts := Ts) (keys := keys) (vals := vals) (ks := ks) (by simpa using hh) ?_ (ltb _ _ hx).1 (ltb _ _ hx).2 (Nat.ne_of_lt sz1) hsz ?_ items.size 0 _ (by omega) (Nat.zero_le _) ?_ (fun _ _ _ _ e => e) (hd1.push _) ?_
  · exact ⟨o, keep _ _ hx, hc, n, hdat⟩
  · intro i hlt
    obtain ⟨e1, ⟨ot, ho, r⟩, e3⟩ := hi i hlt
    exact ⟨e1, ⟨ot, keep _ _ ho, r⟩, e3, (ltb _ _ ho).1, (ltb _ _ ho).2⟩
  · exact ⟨_, Heap.get?_push_size _ rfl, rfl, rfl⟩
  · intro h' tk kp hD
    exact ⟨rfl, h h' tk (fun b ob e => kp b ob (ltb _ _ e).1 (ltb _ _ e).2 (keep _ _ e)) hD⟩
end
end PySem

namespace L2
open PySem PySem.Spec PyProof.Rows

/-! ### lists of pairs as tables -/
section
variable {κ : Type} [DecidableEq κ]
def valV (kvs : List (κ × V)) (k : κ) : Option V := (kvs.find? fun kv => decide (kv.1 = k)).map (·.2)
/-- in its place, or at the end -/
def putK (kvs : List (κ × V)) (k : κ) (v : V) : List (κ × V) :=
  if (kvs.any fun kv => decide (kv.1 = k)) = true then kvs.map (fun kv => if kv.1 = k then (kv.1, v) else kv) else kvs ++ [(k, v)]
def dropK (kvs : List (κ × V)) (k : κ) : List (κ × V) := kvs.filter fun kv => decide (kv.1 ≠ k)

theorem valV_nil {k : κ} : valV ([] : List (κ × V)) k = none := rfl
theorem valV_pos {p : κ × V} {r : List (κ × V)} {k : κ} (e : p.1 = k) : valV (p :: r) k = some p.2 := by simp [valV, List.find?_cons, e]
theorem valV_neg {p : κ × V} {r : List (κ × V)} {k : κ} (e : ¬ p.1 = k) : valV (p :: r) k = valV r k := by simp [valV, List.find?_cons, e]
theorem valV_any (k : κ) : ∀ kvs : List (κ × V), (kvs.any fun kv => decide (kv.1 = k)) = (valV kvs k).isSome
  | [] => rfl
  | p :: r => by
    rw [List.any_cons]
    by_cases e : p.1 = k
    · simp only [valV_pos e, decide_eq_true e, Bool.true_or, Option.isSome_some]
    · rw [valV_neg e, decide_eq_false e, Bool.false_or]; exact valV_any k r
theorem valV_map (k j : κ) (y : V) : ∀ kvs : List (κ × V), valV (kvs.map fun kv => if kv.1 = k then (kv.1, y) else kv) j = (valV kvs j).map fun x => if j = k then y else x
  | [] => rfl
  | p :: r => by
    have ih := valV_map k j y r
    rw [List.map_cons]
    by_cases h : p.1 = k
    · rw [if_pos h]
      by_cases e : p.1 = j
      · rw [valV_pos (p := (p.1, y)) e, valV_pos e, Option.map_some, if_pos (e.symm.trans h)]
      · rw [valV_neg (p := (p.1, y)) e, valV_neg e, ih]
    · rw [if_neg h]
      by_cases e : p.1 = j
      · rw [valV_pos (p := p) e, valV_pos e, Option.map_some, if_neg (fun z => h (e.trans z))]
      · rw [valV_neg (p := p) e, valV_neg e, ih]
theorem valV_snoc (k j : κ) (y : V) : ∀ kvs : List (κ × V), valV kvs k = none → valV (kvs ++ [(k, y)]) j = if j = k then some y else valV kvs j
  | [], _ => by
    by_cases e : k = j
    · rw [if_pos e.symm]; exact valV_pos (p := (k, y)) e
    · rw [if_neg (fun z => e z.symm)]; exact valV_neg (p := (k, y)) e
  | p :: r, hn => by
    rw [List.cons_append]
    have hk : ¬ p.1 = k := fun z => by rw [valV_pos z] at hn; cases hn
    rw [valV_neg hk] at hn
    have ih := valV_snoc k j y r hn
    by_cases e : p.1 = j
    · rw [valV_pos e, valV_pos e, if_neg (fun z => hk (e.trans z))]
    · rw [valV_neg e, valV_neg e, ih]
theorem valV_put (kvs : List (κ × V)) (k j : κ) (y : V) : valV (putK kvs k y) j = if j = k then some y else valV kvs j := by
  unfold putK
  by_cases a : (kvs.any fun kv => decide (kv.1 = k)) = true
  · rw [if_pos a, valV_map]
    rw [valV_any] at a
    by_cases e : j = k
    · obtain ⟨x, hx⟩ := Option.isSome_iff_exists.mp a
      rw [if_pos e, e, hx, Option.map_some, if_pos rfl]
    · rw [if_neg e]
      cases valV kvs j with
      | none => rfl
      | some x => rw [Option.map_some, if_neg e]
  · rw [if_neg a]
    refine valV_snoc k j y kvs ?_
    rw [valV_any] at a
    cases q : valV kvs k with
    | none => rfl
    | some x => rw [q] at a; exact (a rfl).elim
theorem length_putK (kvs : List (κ × V)) (k : κ) (v : V) : (putK kvs k v).length ≤ kvs.length + 1 := by
  unfold putK
  split
  · rw [List.length_map]; omega
  · rw [List.length_append, List.length_cons, List.length_nil]; omega
theorem RelO.isSome_eq {o : Option V} {u : Option Value} (r : RelO o u) : o.isSome = u.isSome := by
  cases o with
  | none => cases u with
    | none => rfl
    | some _ => exact (show False from r).elim
  | some _ => cases u with
    | none => exact (show False from r).elim
    | some _ => rfl
theorem RelO.getD {o : Option V} {u : Option Value} {d : V} {d' : Value} (r : RelO o u) (rd : RelV d d') : RelV (o.getD d) (u.getD d') := by
  cases o with
  | none => cases u with
    | none => exact rd
    | some _ => exact (show False from r).elim
  | some _ => cases u with
    | none => exact (show False from r).elim
    | some _ => exact r

/-- raw tables of the same keys -/
theorem KV.val {kvs : List (κ × V)} {vs : List (κ × Value)} (r : KV kvs vs) (k : κ) : RelO (valV kvs k) (valueAt vs k) := by
  unfold KV at r
  induction r with
  | nil => exact True.intro
  | @cons p q ps qs h t ih =>
    obtain ⟨h1, h2⟩ := h
    by_cases e : p.1 = k
    · have e' : q.1 = k := h1.symm.trans e
      have b : valueAt (q :: qs) k = some q.2 := by simp [valueAt, List.find?_cons, e']
      rw [valV_pos e, b]; exact h2
    · have e' : ¬ q.1 = k := fun z => e (h1.trans z)
      have b : valueAt (q :: qs) k = valueAt qs k := by simp [valueAt, List.find?_cons, e']
      rw [valV_neg e, b]; exact ih
theorem KV.any {kvs : List (κ × V)} {vs : List (κ × Value)} (r : KV kvs vs) (k : κ) : (kvs.any fun kv => decide (kv.1 = k)) = vs.any fun kv => decide (kv.1 = k) := by
  unfold KV at r
  induction r with
  | nil => rfl
  | cons h t ih => rw [List.any_cons, List.any_cons, ih, h.1]
theorem KV.repl {kvs : List (κ × V)} {vs : List (κ × Value)} (r : KV kvs vs) (k : κ) {y : V} {u : Value} (ry : RelV y u) :
    KV (kvs.map fun kv => if kv.1 = k then (kv.1, y) else kv) (vs.map fun kv => if kv.1 = k then (kv.1, u) else kv) := by
  unfold KV at r ⊢
  induction r with
  | nil => exact .nil
  | @cons p q ps qs h t ih =>
    rw [List.map_cons, List.map_cons]
    refine .cons ?_ ih
    obtain ⟨h1, h2⟩ := h
    by_cases e : p.1 = k
    · rw [if_pos e, if_pos (h1.symm.trans e)]; exact ⟨h1, ry⟩
    · rw [if_neg e, if_neg (fun z => e (h1.trans z))]; exact ⟨h1, h2⟩
theorem KV.put {kvs : List (κ × V)} {vs : List (κ × Value)} (r : KV kvs vs) (k : κ) {y : V} {u : Value} (ry : RelV y u) : KV (putK kvs k y) (stored vs k u) := by
  unfold putK stored
  rw [r.any k]
  by_cases e : (vs.any fun kv => decide (kv.1 = k)) = true
  · rw [if_pos e, if_pos e]; exact r.repl k ry
  · rw [if_neg e, if_neg e]; exact Paired.snoc r ⟨rfl, ry⟩
theorem KV.drop {kvs : List (κ × V)} {vs : List (κ × Value)} (r : KV kvs vs) (k : κ) : KV (dropK kvs k) (without vs k) := by
  unfold KV at r ⊢
  unfold dropK without
  induction r with
  | nil => exact .nil
  | @cons p q ps qs h t ih =>
    obtain ⟨h1, h2⟩ := h
    rw [List.filter_cons, List.filter_cons]
    by_cases e : p.1 = k
    · have a : ¬ decide (p.1 ≠ k) = true := by simp [e]
      have b : ¬ decide (q.1 ≠ k) = true := by simp [h1.symm.trans e]
      rw [if_neg a, if_neg b]; exact ih
    · have e' : ¬ q.1 = k := fun z => e (h1.trans z)
      have a : decide (p.1 ≠ k) = true := by simp [e]
      have b : decide (q.1 ≠ k) = true := by simp [e']
      rw [if_pos a, if_pos b]; exact .cons ⟨h1, h2⟩ ih
theorem KV.keys {kvs : List (κ × V)} {vs : List (κ × Value)} (r : KV kvs vs) : kvs.map (·.1) = vs.map (·.1) := by
  unfold KV at r
  induction r with
  | nil => rfl
  | cons h t ih => rw [List.map_cons, List.map_cons, ih, h.1]
theorem KV.length {kvs : List (κ × V)} {vs : List (κ × Value)} (r : KV kvs vs) : kvs.length = vs.length := Paired.length r
theorem dropK_le (kvs : List (κ × V)) (k : κ) : (dropK kvs k).length ≤ kvs.length := List.length_filter_le _ _
end


/-! ### a tracked dict, its keys ints and texts or tuples of these -/
theorem kV_is {P : Program} {w : World} {k : Key} {u : Value} (r : RelV (kV k) u) : (mixKind P w).is k u = true := by
  cases k with
  | inl i => obtain ⟨t, e⟩ := (show ∃ t, u = Value.int i t from r); subst e; exact mixKind_int P w i t
  | inr x => obtain ⟨t, e⟩ := (show ∃ t, u = Value.str x t from r); subst e; exact mixKind_str P w x t
theorem items_are {P : Program} {w : World} : ∀ {ks : List Key} {us : List Value}, Vals (ks.map kV) us → ItemsAre (mixKind P w) ks us
  | [], _, r => by rw [List.map_nil] at r; cases r; exact .nil
  | k :: ks, _, r => by
    rw [List.map_cons] at r
    cases r with
    | cons h t => exact .cons (kV_is h) (items_are t)

/-- raw entries of a dict with tuple keys -/
abbrev KT (H : Hp) : List (List Key × V) → List (List Key × Addr × Value) → Prop := Paired fun p q => p.1 = q.1 ∧ H q.2.1 = some (.tup (p.1.map kV)) ∧ RelV p.2 q.2.2
theorem KT.val {H : Hp} {kvs : List (List Key × V)} {xs : List (List Key × Addr × Value)} (r : KT H kvs xs) (k : List Key) : RelO (valV kvs k) ((atKey xs k).map (·.2)) := by
  induction r with
  | nil => exact True.intro
  | @cons p q ps qs h t ih =>
    obtain ⟨h1, _, h2⟩ := h
    by_cases e : p.1 = k
    · have e' : q.1 = k := h1.symm.trans e
      have b : atKey (q :: qs) k = some q.2 := by simp [atKey, List.find?_cons, e']
      rw [valV_pos e, b]; exact h2
    · have e' : ¬ q.1 = k := fun z => e (h1.trans z)
      have b : atKey (q :: qs) k = atKey qs k := by simp [atKey, List.find?_cons, e']
      rw [valV_neg e, b]; exact ih
theorem KT.repl {H : Hp} {kvs : List (List Key × V)} {xs : List (List Key × Addr × Value)} (r : KT H kvs xs) (k : List Key) {y : V} {u : Value} (ry : RelV y u) :
    KT H (kvs.map fun kv => if kv.1 = k then (kv.1, y) else kv) (xs.map (putAt k u)) := by
  induction r with
  | nil => exact .nil
  | @cons p q ps qs h t ih =>
    rw [List.map_cons, List.map_cons]
    refine .cons ?_ ih
    obtain ⟨h1, h2, h3⟩ := h
    unfold putAt
    by_cases e : p.1 = k
    · rw [if_pos e, if_pos (h1.symm.trans e)]; exact ⟨h1, h2, ry⟩
    · rw [if_neg e, if_neg (fun z => e (h1.trans z))]; exact ⟨h1, h2, h3⟩
theorem KT.put {H : Hp} {kvs : List (List Key × V)} {xs : List (List Key × Addr × Value)} (r : KT H kvs xs) (k : List Key) {b : Addr} {y : V} {u : Value} (hb : H b = some (.tup (k.map kV))) (ry : RelV y u) :
    KT H (putK kvs k y) (storedH xs k b u) := by
  have e : (kvs.any fun kv => decide (kv.1 = k)) = (atKey xs k).isSome := by
    rw [valV_any, (r.val k).isSome_eq, Option.isSome_map]
  unfold putK storedH
  rw [e]
  by_cases q : (atKey xs k).isSome = true
  · rw [if_pos q, if_pos q]; exact r.repl k ry
  · rw [if_neg q, if_neg q]; exact Paired.snoc r ⟨rfl, hb, ry⟩
theorem KT.keeps {H H' : Hp} {kvs : List (List Key × V)} {xs : List (List Key × Addr × Value)} (r : KT H kvs xs) (ht : ∀ b ys, H b = some (.tup ys) → H' b = some (.tup ys)) : KT H' kvs xs :=
  Paired.mapP r fun _ _ z => ⟨z.1, ht _ _ z.2.1, z.2.2⟩

section
variable {P : Program} {w : World} {H : Hp} {h : Heap} {a : Addr}
theorem rd_of {u : HO} (ok : HOk P w H h) (e : Rd H a u) : ObjOk P w H h a u := e.ok ok
theorem dk_rd {kvs : List (Key × V)} (ok : HOk P w H h) (e : Rd H a (.dK kvs)) : kvs.length ≤ sizeLine ∧ (a == sysModules) = false ∧ ∃ vs, KV kvs vs ∧ h.DictOf (mixKind P w) a vs :=
  show ObjOk P w H h a (.dK kvs) from rd_of ok e
theorem dk_of {kvs : List (Key × V)} (ok : HOk P w H h) (e : H a = some (.dK kvs)) : kvs.length ≤ sizeLine ∧ (a == sysModules) = false ∧ ∃ vs, KV kvs vs ∧ h.DictOf (mixKind P w) a vs := dk_rd ok (.inl e)
/-- a tracked tuple of ints and texts is a key -/
theorem key_of {ks : List Key} (ok : HOk P w H h) (e : H a = some (.tup (ks.map kV))) : (tupleKind (mixKind P w)).is h ks a := by
  obtain ⟨_, its, r, o, h1, h2, n, h3⟩ := (show ObjOk P w H h a (.tup (ks.map kV)) from ok a _ e)
  exact ⟨o, its.toArray, n, h1, h2, h3, by simpa using items_are r⟩
theorem dt_rd {kvs : List (List Key × V)} (ok : HOk P w H h) (e : Rd H a (.dT kvs)) : kvs.length ≤ sizeLine ∧ (a == sysModules) = false ∧
    ∃ xs, KT H kvs xs ∧ h.DictOfH (tupleKind (mixKind P w)) a xs := by
  obtain ⟨z, y, xs, r, o, es, ep, h1, h2, h3, h4, h5⟩ := (show ObjOk P w H h a (.dT kvs) from rd_of ok e)
  refine ⟨z, y, xs, r, o, es, ep, h1, h2, h3, h4, fun x hx => ?_, h5⟩
  have all : ∀ {l : List (List Key × V)} {m : List (List Key × Addr × Value)}, KT H l m → ∀ x ∈ m, (tupleKind (mixKind P w)).is h x.1 x.2.1 := by
    intro l m q
    induction q with
    | nil => intro x hx; exact nomatch hx
    | @cons p q ps qs hq t ih =>
      intro x hx
      rcases List.mem_cons.mp hx with e | hx
      · subst e
        exact key_of ok (by rw [← hq.1]; exact hq.2.1)
      · exact ih x hx
  exact all r x hx
theorem dt_of {kvs : List (List Key × V)} (ok : HOk P w H h) (e : H a = some (.dT kvs)) : kvs.length ≤ sizeLine ∧ (a == sysModules) = false ∧
    ∃ xs, KT H kvs xs ∧ h.DictOfH (tupleKind (mixKind P w)) a xs := dt_rd ok (.inl e)
end

/-- what the dict at a holds at the key y -/
def DGet (H : Hp) (a : Addr) (y : V) (r : Option V) : Prop :=
  (∃ kvs k, Rd H a (.dK kvs) ∧ y = kV k ∧ r = valV kvs k) ∨ ∃ kvs k b, Rd H a (.dT kvs) ∧ y = .ref b ∧ H b = some (.tup (k.map kV)) ∧ r = valV kvs k
/-- the heap behind a[y] = v -/
def DPut (H : Hp) (a : Addr) (y v : V) (H' : Hp) : Prop :=
  (∃ kvs k, H a = some (.dK kvs) ∧ y = kV k ∧ kvs.length < sizeLine ∧ H' = upd H a (.dK (putK kvs k v))) ∨
  ∃ kvs k b, H a = some (.dT kvs) ∧ y = .ref b ∧ H b = some (.tup (k.map kV)) ∧ kvs.length < sizeLine ∧ H' = upd H a (.dT (putK kvs k v))
theorem DGet.k {H : Hp} {a : Addr} {kvs : List (Key × V)} {k : Key} (e : H a = some (.dK kvs)) : DGet H a (kV k) (valV kvs k) := .inl ⟨kvs, k, .inl e, rfl, rfl⟩
theorem DGet.t {H : Hp} {a b : Addr} {kvs : List (List Key × V)} {k : List Key} (e : H a = some (.dT kvs)) (eb : H b = some (.tup (k.map kV))) : DGet H a (.ref b) (valV kvs k) := .inr ⟨kvs, k, b, .inl e, rfl, eb, rfl⟩
theorem DPut.k {H : Hp} {a : Addr} {kvs : List (Key × V)} {k : Key} {v : V} (e : H a = some (.dK kvs)) (hl : kvs.length < sizeLine) : DPut H a (kV k) v (upd H a (.dK (putK kvs k v))) := .inl ⟨kvs, k, e, rfl, hl, rfl⟩
theorem DPut.t {H : Hp} {a b : Addr} {kvs : List (List Key × V)} {k : List Key} {v : V} (e : H a = some (.dT kvs)) (eb : H b = some (.tup (k.map kV))) (hl : kvs.length < sizeLine) :
    DPut H a (.ref b) v (upd H a (.dT (putK kvs k v))) := .inr ⟨kvs, k, b, e, rfl, eb, hl, rfl⟩


section
variable {X : Cx} {pins : List (Addr × Obj)} {σ : St} {H : Hp} {s : Shared} {a : Addr} {y v : V} {u r : Value} {o : Option V} {A : Around} {E : Value → Shared → Prop}

theorem Inv.big (I : Inv X pins σ H s) : sysModules < s.heap.objs.size := by
  have h : mainGlobals < s.heap.objs.size := (I.mod.glob.keeps I.bk).lt
  exact Nat.lt_trans (by decide) h

/-- d[y], there -/
theorem d_getItem {Q : Value → Shared → Prop} (hu : A.units + 1 < cLine) (I : Inv X pins σ H s) (g : DGet H a y (some v)) (ry : RelV y u) (h : ∀ w' s', Inv X pins σ H s' → RelV v w' → Q w' s') :
    wpAny (model X.prog X.w) A (getItem (.ref a) u) Q E s := by
  rcases g with ⟨kvs, k, e, ey, l⟩ | ⟨kvs, k, b, e, ey, eb, l⟩
  · subst ey
    obtain ⟨z, hd, vs, rel, dd⟩ := dk_rd I.hok e
    obtain ⟨w', hw, rw'⟩ := RelO.some_of (v := v) (o := valueAt vs k) (by rw [l]; exact rel.val k)
    exact wpAny_getItem_of (kV_is ry) dd.mapOf hw (h w' _ (I.tok _) rw')
  · subst ey
    cases (show u = Value.ref b from ry)
    obtain ⟨z, hd, xs, rel, dd⟩ := dt_rd I.hok e
    obtain ⟨w', hw, rw'⟩ := RelO.some_of (v := v) (o := (atKey xs k).map (·.2)) (by rw [l]; exact rel.val k)
    obtain ⟨p, hp, hp2⟩ := Option.map_eq_some_iff.mp hw
    refine wpAny_getItem_heap (tupleKind_room_in1 hu) (key_of I.hok eb) dd hp ?_
    rw [hp2]
    exact h w' _ (I.tok _) rw'
/-- y in d -/
theorem d_in {Q : Value → Shared → Prop} (hu : A.units + 1 < cLine) (I : Inv X pins σ H s) (g : DGet H a y o) (ry : RelV y u) (h : ∀ s', Inv X pins σ H s' → Q (.bool o.isSome) s') :
    wpAny (model X.prog X.w) A (compareOp .In u (.ref a)) Q E s := by
  rcases g with ⟨kvs, k, e, ey, l⟩ | ⟨kvs, k, b, e, ey, eb, l⟩
  · subst ey
    obtain ⟨z, hd, vs, rel, dd⟩ := dk_rd I.hok e
    refine wpAny_in_of (kV_is ry) hd dd.mapOf ?_
    rw [← (rel.val k).isSome_eq, ← l]
    exact h _ (I.tok _)
  · subst ey
    cases (show u = Value.ref b from ry)
    obtain ⟨z, hd, xs, rel, dd⟩ := dt_rd I.hok e
    refine wpAny_in_heap (tupleKind_room_in1 hu) (key_of I.hok eb) hd dd ?_
    have q := (rel.val k).isSome_eq
    rw [Option.isSome_map] at q
    rw [← q, ← l]
    exact h _ (I.tok _)
theorem d_notIn {Q : Value → Shared → Prop} (hu : A.units + 1 < cLine) (I : Inv X pins σ H s) (g : DGet H a y o) (ry : RelV y u) (h : ∀ s', Inv X pins σ H s' → Q (.bool (!o.isSome)) s') :
    wpAny (model X.prog X.w) A (compareOp .NotIn u (.ref a)) Q E s := by
  rcases g with ⟨kvs, k, e, ey, l⟩ | ⟨kvs, k, b, e, ey, eb, l⟩
  · subst ey
    obtain ⟨z, hd, vs, rel, dd⟩ := dk_rd I.hok e
    refine wpAny_notIn_of (kV_is ry) hd dd.mapOf ?_
    rw [← (rel.val k).isSome_eq, ← l]
    exact h _ (I.tok _)
  · subst ey
    cases (show u = Value.ref b from ry)
    obtain ⟨z, hd, xs, rel, dd⟩ := dt_rd I.hok e
    refine wpAny_notIn_heap (tupleKind_room_in1 hu) (key_of I.hok eb) hd dd ?_
    have q := (rel.val k).isSome_eq
    rw [Option.isSome_map] at q
    rw [← q, ← l]
    exact h _ (I.tok _)
/-- a dict's object is replaced -/
theorem d_write {h' : Heap} {t' : Nat} {ob : HO} (I : Inv X pins σ H s) (mu : Mut (H a)) (hs : Heap.SameBut a s.heap h') (he : ∃ q, h'.get? a = some q) (new : ObjOk X.prog X.w (upd H a ob) h' a ob) :
    Inv X pins σ (upd H a ob) { s with heap := h', toks := t' } :=
  I.write (x := a) (e := a) mu (.inl rfl) (fun b q hb z => (hs.2 b hb).trans z) he new
theorem dk_new {P : Program} {w : World} {H' : Hp} {h' : Heap} {kvs : List (Key × V)} {vs : List (Key × Value)} (z : kvs.length ≤ sizeLine) (hd : (a == sysModules) = false) (rel : KV kvs vs) (dd : h'.DictOf (mixKind P w) a vs) :
    ObjOk P w H' h' a (.dK kvs) := ⟨z, hd, vs, rel, dd⟩
/-- d[y] = v -/
theorem d_setItem {H' : Hp} {Q : Unit → Shared → Prop} (hu : A.units + 1 < cLine) (I : Inv X pins σ H s) (g : DPut H a y v H') (ry : RelV y u) (rv : RelV v r) (h : ∀ s', Inv X pins σ H' s' → Q () s') :
    wpAny (model X.prog X.w) A (setItem (.ref a) u r) Q E s := by
  rcases g with ⟨kvs, k, e, ey, l, eH⟩ | ⟨kvs, k, b, e, ey, eb, l, eH⟩
  · subst ey eH
    obtain ⟨z, hd, vs, rel, dd⟩ := dk_of I.hok e
    have hz : vs.length ≤ sizeLine := by rw [← rel.length]; exact z
    have hl : (putK kvs k v).length ≤ sizeLine := by have := length_putK kvs k v; omega
    refine wpAny_setItem_pairs (hsz := hz) (kV_is ry) dd fun h' dd' hs => h _ ?_
    have he : ∃ q, h'.get? a = some q := let ⟨q, _, _, hq, _⟩ := dd'; ⟨q, hq⟩
    exact d_write I (by rw [e]; exact True.intro) hs he (dk_new hl hd (rel.put k rv) dd')
  · subst ey eH
    cases (show u = Value.ref b from ry)
    obtain ⟨z, hd, xs, rel, dd⟩ := dt_of I.hok e
    have hz : xs.length ≤ sizeLine := by rw [← Paired.length rel]; exact z
    have hl : (putK kvs k v).length ≤ sizeLine := by have := length_putK kvs k v; omega
    refine wpAny_setItem_heap (hsz := hz) (tupleKind_room_in1 hu) (key_of I.hok eb) dd fun h' dd' hs => h _ ?_
    obtain ⟨q, es, ep, hq, h2, h3, h4, _, h5⟩ := dd'
    refine d_write I (by rw [e]; exact True.intro) hs ⟨q, hq⟩ ⟨hl, hd, _, (rel.put k eb rv).keeps fun c ys ec => ?_, q, es, ep, hq, h2, h3, h4, h5⟩
    rw [upd_ne (ne_of ec e (fun z => nomatch z))]
    exact ec
end

section
variable {X : Cx} {pins : List (Addr × Obj)} {σ : St} {H : Hp} {s : Shared} {a : Addr} {kvs : List (Key × V)} {k : Key} {u : Value} {A : Around} {E : Value → Shared → Prop}
/-- d.pop(k[, x]), there -/
theorem d_pop {v : V} {more : List Value} {Q : Value → Shared → Prop} (I : Inv X pins σ H s) (e : H a = some (.dK kvs)) (ry : RelV (kV k) u) (l : valV kvs k = some v) (hm : more = [] ∨ ∃ x, more = [x])
    (h : ∀ w' s', Inv X pins σ (upd H a (.dK (dropK kvs k))) s' → RelV v w' → Q w' s') : wpAny (model X.prog X.w) A (call (.builtin "dict.pop") (.ref a :: u :: more)) Q E s := by
  obtain ⟨z, hd, vs, rel, dd⟩ := dk_of I.hok e
  obtain ⟨w', hw, rw'⟩ := RelO.some_of (v := v) (o := valueAt vs k) (by rw [← l]; exact rel.val k)
  have hp : (keyPart u).isSome = true := by
    cases k with
    | inl i => obtain ⟨t, q⟩ := (show ∃ t, u = Value.int i t from ry); subst q; rfl
    | inr x => obtain ⟨t, q⟩ := (show ∃ t, u = Value.str x t from ry); subst q; rfl
  have ha : argsOk "dict.pop" ⟨.ref a :: u :: more, []⟩ := by
    rcases hm with q | ⟨x, q⟩
    · subst q; exact PySem.F.args_dict_pop_2 _ _
    · subst q; exact PySem.F.args_dict_pop_3 _ _ _
  refine call_meetsIn PySem.F.slot_dict_pop dd.typeIs PySem.F.entry_dict_pop ha (meets_dict_pop_there (mixKind X.prog X.w) a (kV_is ry) more hm hp)
    ⟨vs, w', dd, by rw [← rel.length]; exact z, hw, fun h' dd' hs => h w' _ ?_ rw'⟩
  have he : ∃ q, h'.get? a = some q := let ⟨q, _, _, hq, _⟩ := dd'; ⟨q, hq⟩
  exact d_write I (by rw [e]; exact True.intro) hs he (dk_new (Nat.le_trans (dropK_le kvs k) z) hd (rel.drop k) dd')
end


/-! ### readings and rules -/
/-- the element of a subscription, not a slice -/
def NoSl (i : Expr) : Prop := ∀ ov iv, subscripted i false ov iv = operate [ov, iv] (getItem ov iv)
theorem subD_of {prog : Program} {w : World} {A : Around} {E : Value → Shared → Prop} {s : Shared} {env : Env} {value slice : Expr} {pos : Pos} {T id : String} {Q : Value → Shared → Prop}
    (hl : typeLookup (.type T) "__getitem__" = pure (some (.builtin id))) (hs : NoSl slice)
    (h : wpAny (model prog w) A (eval value env) (fun o s₁ => wpAny (model prog w) A (eval slice env) (fun i s₂ => s₂.TypeIs o T ∧ wpAny (model prog w) A (getItem o i) Q E s₂) E s₁) E s) :
    wpAny (model prog w) A (eval (.Subscript value slice pos) env) Q E s := by
  refine Subscript_ (wpAny_mono h (fun o s₁ h₁ => wpAny_mono h₁ (fun i s₂ h₂ => ?_) fun _ _ x => x) fun _ _ x => x)
  obtain ⟨hT, h₂⟩ := h₂
  unfold subscriptTail
  refine wpAny_bind ?_
  rw [getitemInPython_of_ne hT.not_modules]
  refine wpAny_bind (wpAny_specialOf hT hl ?_)
  have fin : wpAny (model prog w) A (subscripted slice false o i) (fun r s₃ => wpAny (model prog w) A (letTemporaryGo value o r >>= fun _ => pure r) Q E s₃) E s₂ := by
    rw [hs o i]
    exact wpAny_operating (wpAny_mono h₂ (fun r s₃ h₃ => wpAny_bind (wpAny_letTemporaryGo (wpAny_pure h₃))) fun _ _ x => x)
  first
    | exact wpAny_pure (wpAny_bind fin)
    | exact wpAny_bind (wpAny_pure (wpAny_bind fin))
    | exact wpAny_bind fin

theorem dict_typeIs {X : Cx} {pins : List (Addr × Obj)} {σ : St} {H : Hp} {s : Shared} {a : Addr} {y : V} {o : Option V} (I : Inv X pins σ H s) (g : DGet H a y o) : s.TypeIs (.ref a) "dict" := by
  rcases g with ⟨kvs, k, e, _, _⟩ | ⟨kvs, k, b, e, _, _, _⟩
  · obtain ⟨_, _, vs, _, dd⟩ := dk_rd I.hok e
    exact dd.typeIs
  · obtain ⟨_, _, xs, _, dd⟩ := dt_rd I.hok e
    exact dd.typeIs
/-- d[y] -/
def tDGet (td ty : TE) : TE := fun σ H Q => td σ H fun x H1 => ty σ H1 fun y H2 => ∃ a v, x = .ref a ∧ DGet H2 a y (some v) ∧ Q v H2
/-- y in d, y not in d -/
def tDIn (ty td : TE) : TE := fun σ H Q => ty σ H fun y H1 => td σ H1 fun x H2 => ∃ a o, x = .ref a ∧ DGet H2 a y o ∧ Q (.bl o.isSome) H2
def tDNotIn (ty td : TE) : TE := fun σ H Q => ty σ H fun y H1 => td σ H1 fun x H2 => ∃ a o, x = .ref a ∧ DGet H2 a y o ∧ Q (.bl (!o.isSome)) H2
/-- d[y] = v -/
def sDPut (td ty tv : TE) : TS := fun D σ H => tv σ H fun v H1 => td σ H1 fun x H2 => ty σ H2 fun y H3 => ∃ a H4, x = .ref a ∧ DPut H3 a y v H4 ∧ D.nx σ H4
/-- d[y] op= v -/
def sDAug (td ty tv : TE) (rd : V → V → Hp → VK → Prop) : TS := fun D σ H => td σ H fun x H1 => ty σ H1 fun y H2 => ∃ a v, x = .ref a ∧ DGet H2 a y (some v) ∧
  tv σ H2 fun y2 H3 => rd v y2 H3 fun z H4 => ∃ H5, DPut H4 a y z H5 ∧ D.nx σ H5
/-- del d[y] -/
def sDDel (td ty : TE) : TS := fun D σ H => td σ H fun x H1 => ty σ H1 fun y H2 => ∃ a kvs k, x = .ref a ∧ H2 a = some (.dK kvs) ∧ y = kV k ∧ (valV kvs k).isSome = true ∧ D.nx σ (upd H2 a (.dK (dropK kvs k)))

section
variable {X : Cx} {o i e value : Expr} {pos pos' tpos : Pos} {td ty tv : TE}
theorem pe_dget (hu : X.A.units + 1 < cLine) (ho : PE X o td) (hi : PE X i ty) (hs : NoSl i) : PE X (.Subscript o i pos) (tDGet td ty) := by
  intro pins s σ H Q I h
  refine subD_of PySem.F.slot_dict_getitem.lookup hs (thn (ho pins s σ H _ I h) fun u s1 ⟨x, H1, I1, rx, q1⟩ => thn (hi pins s1 σ H1 _ I1 q1) fun iv s2 ⟨y, H2, I2, ry, a, v, ex, g, q2⟩ => ?_)
  subst ex
  obtain rfl : u = Value.ref a := rx
  exact ⟨dict_typeIs I2 g, d_getItem hu I2 g ry fun w' s3 I3 rw' => ⟨v, H2, I3, rw', q2⟩⟩
theorem pc_din (hu : X.A.units + 1 < cLine) (hi : PE X i ty) (ho : PE X o td) : PC X .In i o (tDIn ty td) := by
  intro pins s σ H Q I h
  refine thn (hi pins s σ H _ I h) fun iv s1 ⟨y, H1, I1, ry, q1⟩ => thn (ho pins s1 σ H1 _ I1 q1) fun u s2 ⟨x, H2, I2, rx, a, ov, ex, g, q2⟩ => ?_
  subst ex
  obtain rfl : u = Value.ref a := rx
  exact d_in hu I2 g ry fun s3 I3 => ⟨.bl ov.isSome, H2, I3, rfl, q2⟩
theorem pc_dnotin (hu : X.A.units + 1 < cLine) (hi : PE X i ty) (ho : PE X o td) : PC X .NotIn i o (tDNotIn ty td) := by
  intro pins s σ H Q I h
  refine thn (hi pins s σ H _ I h) fun iv s1 ⟨y, H1, I1, ry, q1⟩ => thn (ho pins s1 σ H1 _ I1 q1) fun u s2 ⟨x, H2, I2, rx, a, ov, ex, g, q2⟩ => ?_
  subst ex
  obtain rfl : u = Value.ref a := rx
  exact d_notIn hu I2 g ry fun s3 I3 => ⟨.bl (!ov.isSome), H2, I3, rfl, q2⟩
theorem ps_dput (hu : X.A.units + 1 < cLine) (ho : PE X o td) (hi : PE X i ty) (hv : PE X value tv) (hs : swapsWith value (some (.Subscript o i pos')) pos.line X.env = pure false) :
    PS X (.Assign [.Subscript o i pos'] value pos) (sDPut td ty tv) := by
  intro pins s σ H D I h
  refine wpAny_Assign_Subscript (thn (hv pins s σ H _ I h) fun r s1 ⟨v, H1, I1, rv, q1⟩ => thn (ho pins s1 σ H1 _ I1 q1) fun u s2 ⟨x, H2, I2, rx, q2⟩ => thn (hi pins s2 σ H2 _ I2 q2) fun iv s3 ⟨y, H3, I3, ry, a, H4, ex, g, q3⟩ => ?_) hs
  subst ex
  obtain rfl : u = Value.ref a := rx
  exact d_setItem hu I3 g ry rv fun s4 I4 => ⟨σ, H4, I4, q3⟩
end


/-! ### displays -/
theorem dk_empty {P : Program} {w : World} {H : Hp} (h : Heap) (hb : sysModules < h.objs.size) : ObjOk P w H (h.push { cls := .type "dict", data := .dict #[] }) h.objs.size (.dK []) :=
  ⟨Nat.zero_le _, beq_eq_false_iff_ne.mpr (Ne.symm (Nat.ne_of_lt hb)), [], .nil, Heap.DictOf.new h⟩
/-- {}, to be a dict of the kind that is wanted -/
def tDNewK : TE := fun _ H Q => ∀ p, H p = none → Q (.ref p) (upd H p (.dK []))
def tDNewT : TE := fun _ H Q => ∀ p, H p = none → Q (.ref p) (upd H p (.dT []))
section
variable {X : Cx} {pos : Pos}
theorem pe_dnewK : PE X (.Dict [] [] pos) tDNewK := fun pins s σ H Q I h =>
  wpAny_Dict_empty ⟨.ref s.heap.objs.size, _, I.laid (a := s.heap.objs.size) (o := .dK []) (t' := s.toks) (fun _ _ q => Heap.get?_push_of_some _ q) (Nat.le_refl _) (dk_empty s.heap I.big), rfl, h _ (I.hok.fresh (Nat.le_refl _))⟩
end

/-- the pairs of a display, from the left -/
def tPairs : List (TE × TE) → St → Hp → (List (V × V) → Hp → Prop) → Prop
  | [], _, H, Q => Q [] H
  | (tk, tv) :: r, σ, H, Q => tk σ H fun x H1 => tv σ H1 fun y H2 => tPairs r σ H2 fun ps H3 => Q ((x, y) :: ps) H3
abbrev VV : List (V × V) → List (Value × Value) → Prop := Paired fun p q => RelV p.1 q.1 ∧ RelV p.2 q.2
def PPs (X : Cx) (pos : Pos) (keys : List (Option Expr)) (values : List Expr) (trs : List (TE × TE)) : Prop :=
  ∀ (pins : List (Addr × Obj)) (s : Shared) (σ : St) (H : Hp) (Q : List (V × V) → Hp → Prop), Inv X pins σ H s → tPairs trs σ H Q →
    wpAny (model X.prog X.w) X.A (evalPairs (pairTrees keys values X.env pos)) (fun vs s' => ∃ ps H', Inv X pins σ H' s' ∧ VV ps vs ∧ Q ps H') X.xe s
def mergeK (kvs more : List (Key × V)) : List (Key × V) := more.foldl (fun acc kv => putK acc kv.1 kv.2) kvs
theorem KV.merge : ∀ {more : List (Key × V)} {rs : List (Key × Value)} {kvs : List (Key × V)} {vs : List (Key × Value)}, KV more rs → KV kvs vs → KV (mergeK kvs more) (merged vs rs) := by
  intro more rs kvs vs r
  unfold KV at r
  induction r generalizing kvs vs with
  | nil => intro q; exact q
  | @cons p q ps qs h t ih =>
    intro r0
    have e : KV (putK kvs p.1 p.2) (stored vs q.1 q.2) := by
      have := r0.put p.1 h.2
      rw [← h.1]; exact this
    exact ih e
theorem length_mergeK : ∀ (more kvs : List (Key × V)), (mergeK kvs more).length ≤ kvs.length + more.length
  | [], kvs => by show kvs.length ≤ kvs.length + 0; omega
  | p :: r, kvs => by
    have h1 := length_mergeK r (putK kvs p.1 p.2)
    have h2 := length_putK kvs p.1 p.2
    show (mergeK (putK kvs p.1 p.2) r).length ≤ _
    rw [List.length_cons]; omega
/-- {k: v, ..} with keys ints and texts; the new dict stands empty while the pairs are made -/
def tDisp (trs : List (TE × TE)) : TE := fun σ H Q => ∀ p, H p = none → tPairs trs σ (upd H p (.dK [])) fun ps H2 => H2 p = some (.dK []) ∧ ∃ kvs : List (Key × V), ps = kvs.map (fun kv => (kV kv.1, kv.2)) ∧ kvs.length ≤ 15 ∧ Q (.ref p) (upd H2 p (.dK (mergeK [] kvs)))
/-! ### methods -/
/-- a method call o.m(e) of a built-in, with one argument: what must be seen of the text -/
structure M1 (X : Cx) (o : Expr) (m : Str) (apos : Pos) (e : Expr) (cpos : Pos) : Prop where
  base : attributeBase o m X.env (eval o X.env) = eval o X.env
  few : ((backTo cpos (starEach [e] X.env)).all (fun x => !x.1) && (backToKw cpos (keywordEach [] X.env)).all (fun x => x.1.isSome)
    && decide (([e] : List Expr).length + ([] : List Keyword).length + (if ([] : List Keyword).isEmpty then 0 else 1) < 30)) = true
  line : (apos.endLine == cpos.line) = true
  trees : backTo cpos (starEach [e] X.env) = [(false, eval e X.env)]
structure M2 (X : Cx) (o : Expr) (m : Str) (apos : Pos) (e f : Expr) (cpos : Pos) : Prop where
  base : attributeBase o m X.env (eval o X.env) = eval o X.env
  few : ((backTo cpos (starEach [e, f] X.env)).all (fun x => !x.1) && (backToKw cpos (keywordEach [] X.env)).all (fun x => x.1.isSome)
    && decide (([e, f] : List Expr).length + ([] : List Keyword).length + (if ([] : List Keyword).isEmpty then 0 else 1) < 30)) = true
  line : (apos.endLine == cpos.line) = true
  trees : backTo cpos (starEach [e, f] X.env) = [(false, eval e X.env), (false, eval f X.env)]

/-- a is a dict, whatever its keys -/
def IsD (H : Hp) (a : Addr) : Prop := (∃ kvs, Rd H a (.dK kvs)) ∨ ∃ kvs, Rd H a (.dT kvs)
theorem isD_at {X : Cx} {pins : List (Addr × Obj)} {σ : St} {H : Hp} {s : Shared} {a : Addr} (I : Inv X pins σ H s) (d : IsD H a) :
    s.TypeIs (.ref a) "dict" ∧ (∀ b, Value.ref a = .ref b → ∃ ob, s.heap.get? b = some ob ∧ ob.dict = none) ∧ (a == sysModules) = false := by
  rcases d with ⟨kvs, e⟩ | ⟨kvs, e⟩
  · obtain ⟨_, hd, vs, _, dd⟩ := dk_rd I.hok e
    refine ⟨dd.typeIs, fun b q => ?_, hd⟩
    cases q
    obtain ⟨ob, _, _, h1, h2, _⟩ := dd
    exact ⟨ob, h1, h2.2.1⟩
  · obtain ⟨_, hd, xs, _, dd⟩ := dt_rd I.hok e
    refine ⟨dd.typeIs, fun b q => ?_, hd⟩
    cases q
    obtain ⟨ob, _, _, h1, h2, _⟩ := dd
    exact ⟨ob, h1, h2.2.1⟩

section
variable {X : Cx} {pins : List (Addr × Obj)} {σ : St} {H : Hp} {s : Shared} {a : Addr} {y d : V} {u r : Value} {o : Option V} {A : Around} {E : Value → Shared → Prop}
end

def tDGet1 (td ty : TE) : TE := fun σ H Q => td σ H fun x H1 => ∃ a, x = .ref a ∧ IsD H1 a ∧ ty σ H1 fun y H2 => ∃ o, DGet H2 a y o ∧ Q (o.getD .non) H2
def tDGet2 (td ty tx : TE) : TE := fun σ H Q => td σ H fun x H1 => ∃ a, x = .ref a ∧ IsD H1 a ∧ ty σ H1 fun y H2 => tx σ H2 fun z H3 => ∃ o, DGet H3 a y o ∧ Q (o.getD z) H3
/-- d.pop(k): there; d.pop(k, x): there or not -/
def tDPop1 (td ty : TE) : TE := fun σ H Q => td σ H fun x H1 => ∃ a, x = .ref a ∧ IsD H1 a ∧ ty σ H1 fun y H2 => ∃ kvs k v, H2 a = some (.dK kvs) ∧ y = kV k ∧ valV kvs k = some v ∧ Q v (upd H2 a (.dK (dropK kvs k)))
def tDPop2 (td ty tx : TE) : TE := fun σ H Q => td σ H fun x H1 => ∃ a, x = .ref a ∧ IsD H1 a ∧ ty σ H1 fun y H2 => tx σ H2 fun z H3 => ∃ kvs k, H3 a = some (.dK kvs) ∧ y = kV k ∧
  (∀ v, valV kvs k = some v → Q v (upd H3 a (.dK (dropK kvs k)))) ∧ (valV kvs k = none → Q z H3)
section
variable {X : Cx} {o e f : Expr} {apos cpos : Pos} {td ty tx : TE}
theorem pe_dpop1 (ho : PE X o td) (he : PE X e ty) (m : M1 X o "pop" apos e cpos) : PE X (.Call (.Attribute o "pop" apos) [e] [] cpos) (tDPop1 td ty) := by
  intro pins s σ H Q I h
  refine wpAny_Call_method m.base m.few m.line PySem.F.plainAttrs_dict PySem.F.slot_dict_pop PySem.F.type_dict_pop (thn (ho pins s σ H _ I h) fun u s1 ⟨x, H1, I1, rx, a, ex, d, q1⟩ => ?_)
  subst ex
  obtain rfl : u = Value.ref a := rx
  obtain ⟨t1, t2, _⟩ := isD_at I1 d
  refine ⟨t1, t2, ?_⟩
  rw [m.trees]
  refine Calls.callWith_builtin rfl (Calls.evalArgs_plain (Calls.spliced_cons (thn (he pins s1 σ H1 _ I1 q1) fun iv s2 ⟨y, H2, I2, ry, kvs, k, v, ea, ey, l, q2⟩ => Calls.spliced_nil ?_)))
  subst ey
  exact d_pop I2 ea ry l (.inl rfl) fun w' s3 I3 rw' => ⟨v, _, I3, rw', q2⟩
end

/-! ### dict(d): a copy -/
section
variable {X : Cx} {pins : List (Addr × Obj)} {σ : St} {H : Hp} {s : Shared} {a : Addr} {kvs : List (Key × V)} {A : Around} {E : Value → Shared → Prop}
end


section
variable {X : Cx} {pins : List (Addr × Obj)} {σ : St} {H : Hp} {s : Shared} {a : Addr} {y : V} {u : Value} {A : Around} {E : Value → Shared → Prop}
end
end L2

namespace L2
open PySem PySem.Spec PyProof.Rows
section
variable {X : Cx}
end
/-! ### a dict's pairs: keys that differ -/
section
variable {κ : Type} [DecidableEq κ]
end
end L2

/-! OWN: dicts of pairs, any, and what else the later laws ask of built-in functions. Behind Dp, Dct, Bs. -/
namespace L2
open PySem PySem.Spec PyProof.Rows
theorem mergeK_snoc (kvs more : List (Key × V)) (kv : Key × V) : mergeK kvs (more ++ [kv]) = putK (mergeK kvs more) kv.1 kv.2 := by
  unfold mergeK
  rw [List.foldl_append]
  rfl
theorem kv_pairs {kvs : List (Key × V)} {ks : Nat → Key} {vals : Nat → Value} : ∀ n, n ≤ kvs.length → (∀ i kv, i < n → kvs[i]? = some kv → kv.1 = ks i ∧ RelV kv.2 (vals i)) → KV (mergeK [] (kvs.take n)) (pairsTo ks vals n)
  | 0, _, _ => .nil
  | n + 1, hn, h => by
    have hk : kvs[n]? = some kvs[n] := List.getElem?_eq_getElem hn
    obtain ⟨e1, e2⟩ := h n _ (Nat.lt_succ_self n) hk
    rw [pairsTo_succ, take_snoc hk, mergeK_snoc, ← e1]
    exact KV.put (kv_pairs n (by omega) fun i kv hi => h i kv (by omega)) _ e2
section
variable {X : Cx}
/-- dict(a list of pairs) -/
theorem call_dict_of (hc : X.calm = true) : CallR X (.type "dict") (fun xs H Q => ∃ (p : Addr) (ys : List V) (kvs : List (Key × V)), xs = [.ref p] ∧ SqL X.K H p ys ∧ ys.length = kvs.length ∧ (∀ (i : Nat) y kv, ys[i]? = some y → kvs[i]? = some kv → ∃ a, y = .ref a ∧ SqT X.K H a [kV kv.1, kv.2]) ∧
    ∀ d, H d = none → Q (.ref d) (upd H d (.dK (mergeK [] kvs)))) := by
  intro pins s σ H xs us Q I r h
  obtain ⟨p, ys, kvs, rfl, hq, hlen, hT, q⟩ := h
  obtain ⟨u, rfl, ru⟩ := vals1 r
  cases (show u = Value.ref p from ru)
  obtain ⟨its, rv, ⟨o, n, ho, hcl, hdi, hdat⟩, hz⟩ := I.list hq
  have hl : its.length = kvs.length := by rw [← hlen, rv.length]
  have ex : ∀ i : Nat, ∃ t : Addr × Key × Value × Value, i < its.length → its[i]? = some (.ref t.1) ∧ s.heap.IsTuple t.1 #[t.2.2.1, t.2.2.2] ∧ (mixKind X.prog X.w).is t.2.1 t.2.2.1 = true ∧ ∀ kv, kvs[i]? = some kv → kv.1 = t.2.1 ∧ RelV kv.2 t.2.2.2 := fun i => by
    by_cases hi : i < its.length
    · have hy : ys[i]? = some ys[i] := List.getElem?_eq_getElem (by have := rv.length; omega)
      have hk : kvs[i]? = some kvs[i] := List.getElem?_eq_getElem (by omega)
      obtain ⟨a, ea, ha⟩ := hT i _ _ hy hk
      rw [ea] at hy
      obtain ⟨w', e1, e2⟩ := rv.get hy
      cases (show w' = Value.ref a from e2)
      obtain ⟨jts, rj, pj, _⟩ := I.tuple ha
      obtain ⟨u1, u2, rfl, r1, r2⟩ := vals2 rj
      exact ⟨(a, kvs[i].1, u1, u2), fun _ => ⟨e1, pj, kV_is r1, fun kv e => by rw [hk] at e; cases e; exact ⟨rfl, r2⟩⟩⟩
    · exact ⟨(0, .inl 0, .none, .none), fun z => absurd z hi⟩
  obtain ⟨f, hf⟩ := Classical.axiomOfChoice ex
  refine call_dict_list (knd := mixKind X.prog X.w) (Ts := fun i => (f i).1) (keys := fun i => (f i).2.2.1) (vals := fun i => (f i).2.2.2) (ks := fun i => (f i).2.1) (I.ok.hd hc) ho hcl hdi hdat ?_ (fun i hi => ?_) fun h' tk keep hD => ?_
  · have := rv.length
    simp only [List.size_toArray]
    omega
  · have hi' : i < its.length := by simpa using hi
    obtain ⟨e1, e2, e3, _⟩ := hf i hi'
    exact ⟨by simpa using e1, e2, e3⟩
  · have rel := kv_pairs (kvs := kvs) (ks := fun i => (f i).2.1) (vals := fun i => (f i).2.2.2) kvs.length (Nat.le_refl _) fun i kv hi e => (hf i (by omega)).2.2.2 kv e
    rw [List.take_of_length_le (Nat.le_refl _)] at rel
    have es : its.toArray.size = kvs.length := by simp only [List.size_toArray]; exact hl
    rw [es] at hD
    have z : (mergeK [] kvs).length ≤ sizeLine := by
      have e1 := rel.length
      have e2 := pairsTo_len (fun i => (f i).2.1) (fun i => (f i).2.2.2) kvs.length
      omega
    exact ⟨.ref s.heap.objs.size, upd H s.heap.objs.size (.dK (mergeK [] kvs)), I.laid (a := s.heap.objs.size) (o := .dK (mergeK [] kvs)) (t' := tk) keep (Nat.le_refl _) (dk_new z (beq_eq_false_iff_ne.mpr (Ne.symm (Nat.ne_of_lt I.big))) rel hD), rfl, q _ (I.hok.fresh (Nat.le_refl _))⟩
/-- any of a list of bools -/
theorem call_any_bools (hc : X.calm = true) : CallR X (.builtin "any") (fun xs H Q => ∃ (p : Addr) (bs : List Bool), xs = [.ref p] ∧ SqL X.K H p (bs.map V.bl) ∧ Q (.bl (bs.any id)) H) := by
  intro pins s σ H xs us Q I r h
  obtain ⟨p, bs, rfl, hq, q⟩ := h
  obtain ⟨u, rfl, ru⟩ := vals1 r
  cases (show u = Value.ref p from ru)
  obtain ⟨its, rv, pl, hz⟩ := I.list hq
  have hl := rv.length
  rw [List.length_map] at hl
  have hp : p < s.heap.objs.size := by
    obtain ⟨o, ho, _⟩ := pl.isList
    exact Heap.lt_size ho
  have hne : p ≠ s.heap.objs.size := Nat.ne_of_lt hp
  refine call_any_walk (wpAny_pyIter_list pl.isList ?_)
  refine ⟨s.heap.objs.size, [s.heap.objs.size, p], [s.heap.objs.size], its.toArray.size, _, _, fun i => bs.getD i true, rfl, Walks.list (show X.A.in1.handled = none from I.ok.hd hc) _ p hne its.toArray, ⟨⟨_, Heap.get?_push_size _ rfl, rfl, rfl⟩, pl.isList.push _⟩, ?_, fun h' tk hk => ?_⟩
  · intro i v s' Q' E' hv hQ
    have hv' : its[i]? = some v := by simpa using hv
    have hi : i < its.length := (List.getElem?_eq_some_iff.mp hv').1
    have hb : bs[i]? = some (bs.getD i true) := by
      rw [List.getD_eq_getElem?_getD, List.getElem?_eq_getElem (by omega)]
      rfl
    obtain ⟨w', e1, e2⟩ := rv.get (i := i) (x := .bl (bs.getD i true)) (by rw [List.getElem?_map, hb]; rfl)
    rw [hv'] at e1
    cases e1
    cases (show v = Value.bool _ from e2)
    exact wpAny_truthy_bool hQ
  · have e : (List.range its.toArray.size).any (fun i => bs.getD i true) = bs.any id := by
      rw [Bool.eq_iff_iff, List.any_eq_true, List.any_eq_true]
      constructor
      · rintro ⟨i, hi, hb⟩
        have hi' : i < bs.length := by have := List.mem_range.mp hi; simp only [List.size_toArray] at this; omega
        rw [List.getD_eq_getElem?_getD, List.getElem?_eq_getElem hi'] at hb
        exact ⟨bs[i], List.getElem_mem hi', hb⟩
      · rintro ⟨x, hx, hb⟩
        obtain ⟨i, hi, rfl⟩ := List.mem_iff_getElem.mp hx
        refine ⟨i, List.mem_range.mpr (by simp only [List.size_toArray]; omega), ?_⟩
        rw [List.getD_eq_getElem?_getD, List.getElem?_eq_getElem hi]
        exact hb
    refine ⟨.bl (bs.any id), H, I.kept (t' := tk) fun b o eb => hk b o ?_ (Heap.get?_push_of_some _ eb), congrArg Value.bool e, q⟩
    intro hm
    have : b = s.heap.objs.size := by simpa using hm
    exact absurd (Heap.lt_size eb) (by rw [this]; exact Nat.lt_irrefl _)
end
end L2

/-! OWN: rows of parts, sets of held parts, and when a learnt line is right (the mathematics). Behind Ext3. -/
namespace L2
open PySem PySem.Spec PyProof.Rows
/-! ### rows in the heap -/
def dRow (r : List Int) : Dt := .tup (r.map Dt.int)
theorem nolsInts : ∀ ns : List Int, nols (ns.map Dt.int) = true
  | [] => by simp [nols]
  | n :: ns => by simp only [List.map_cons, nols, nol, Bool.true_and]; exact nolsInts ns
theorem depsInts : ∀ ns : List Int, deps (ns.map Dt.int) = 0
  | [] => by simp [deps]
  | n :: ns => by simp only [List.map_cons, deps, dep, depsInts ns]; rfl
theorem nol_dRow (r : List Int) : nol (dRow r) = true := by simp only [dRow, nol, nolsInts]
theorem dep_dRow (r : List Int) : dep (dRow r) = 1 := by simp only [dRow, dep, depsInts]
theorem nols_rows : ∀ Rs : List (List Int), nols (Rs.map dRow) = true
  | [] => by simp [nols]
  | t :: T => by simp only [List.map_cons, nols, nol_dRow, Bool.true_and]; exact nols_rows T
theorem deps_rows : ∀ Rs : List (List Int), deps (Rs.map dRow) ≤ 1
  | [] => by simp [deps]
  | t :: T => by
    have h := deps_rows T
    simp only [List.map_cons, deps, dep_dRow]
    omega
theorem has_dRow {K : PySem.W.Frag} {H : Hp} {r : List Int} {x : V} (h : Has K H (dRow r) x) : ∃ q, x = .ref q ∧ SqT K H q (r.map V.int) := by
  unfold dRow at h
  simp only [Has] at h
  obtain ⟨a, xs, rfl, hs, hl⟩ := h
  rw [hasl_ints hl] at hs
  exact ⟨a, rfl, hs⟩
theorem of_dRow {K : PySem.W.Frag} {H : Hp} {r : List Int} {q : Addr} (h : SqT K H q (r.map V.int)) : Has K H (dRow r) (.ref q) := Has.tup' h (HasL.ints r)
theorem rows_get {K : PySem.W.Frag} {H : Hp} {Rs : List (List Int)} {xs : List V} {i : Nat} {r : List Int} (h : HasL K H (Rs.map dRow) xs) (e : Rs[i]? = some r) : ∃ q, xs[i]? = some (.ref q) ∧ SqT K H q (r.map V.int) := by
  obtain ⟨v, e1, e2⟩ := h.getD (i := i) (d := dRow r) (by rw [List.getElem?_map, e]; rfl)
  obtain ⟨p, rfl, hp⟩ := has_dRow e2
  exact ⟨p, e1, hp⟩
def SqInt (K : PySem.W.Frag) (H : Hp) (q : Addr) (ps : List Int) : Prop := SqL K H q (ps.map V.int) ∨ SqT K H q (ps.map V.int)
theorem SqInt.same {K : PySem.W.Frag} {H H' : Hp} {q : Addr} {ps : List Int} (h : SqInt K H q ps) (s : Same H H') : SqInt K H' q ps := h.elim (fun z => .inl (s.seq z)) fun z => .inr (s.tup z)
theorem ints_at {ps : List Int} {i : Nat} {x : V} (h : (ps.map V.int)[i]? = some x) : ∃ k, ps[i]? = some k ∧ x = .int k := by
  rw [List.getElem?_map] at h
  cases e : ps[i]? with
  | none => rw [e] at h; cases h
  | some k =>
    rw [e] at h
    exact ⟨k, rfl, (Option.some.inj h).symm⟩
theorem inV_ints (n : Int) : ∀ ps : List Int, inV (.int n) (ps.map V.int) = decide (n ∈ ps)
  | [] => by simp [inV]
  | p :: ps => by
    have ih := inV_ints n ps
    unfold inV at ih ⊢
    rw [List.map_cons, List.any_cons, ih]
    show (p == n || decide (n ∈ ps)) = decide (n ∈ p :: ps)
    by_cases e : p = n
    · subst e
      simp
    · have e' : ¬ n = p := fun z => e z.symm
      simp [e, e']
theorem flat_ints (ps : List Int) : (ps.map V.int).all flatV = true := by
  rw [List.all_eq_true]
  intro x hx
  obtain ⟨n, _, rfl⟩ := List.mem_map.mp hx
  rfl
/-! ### each once -/
def once : List Int → List Int → List Int
  | acc, [] => acc
  | acc, p :: ps => once (if p ∈ acc then acc else acc ++ [p]) ps
theorem once_len : ∀ (ps acc : List Int), (once acc ps).length ≤ acc.length + ps.length
  | [], acc => by simp [once]
  | p :: ps, acc => by
    unfold once
    have h := once_len ps (if p ∈ acc then acc else acc ++ [p])
    split at h <;> simp only [List.length_append, List.length_cons, List.length_singleton, List.length_nil] at h ⊢ <;> split <;> simp_all <;> omega
theorem once_take {ps : List Int} {i : Nat} {k : Int} : ∀ {acc : List Int}, ps[i]? = some k → once acc (ps.take (i + 1)) = if k ∈ once acc (ps.take i) then once acc (ps.take i) else once acc (ps.take i) ++ [k] := by
  induction ps generalizing i with
  | nil => intro acc h; simp at h
  | cons p ps ih =>
    intro acc h
    cases i with
    | zero =>
      simp at h
      subst h
      simp [once]
    | succ i =>
      simp only [List.take_succ_cons, once]
      exact ih (by simpa using h)
theorem once_mem {n : Int} : ∀ (ps acc : List Int), n ∈ once acc ps ↔ n ∈ acc ∨ n ∈ ps
  | [], acc => by simp [once]
  | p :: ps, acc => by
    unfold once
    rw [once_mem ps]
    by_cases e : p ∈ acc
    · rw [if_pos e]
      constructor
      · rintro (h | h)
        · exact .inl h
        · exact .inr (List.mem_cons_of_mem _ h)
      · rintro (h | h)
        · exact .inl h
        · rcases List.mem_cons.mp h with rfl | h
          · exact .inl e
          · exact .inr h
    · rw [if_neg e]
      simp only [List.mem_append, List.mem_cons, List.not_mem_nil, or_false]
      exact or_assoc
/-! ### a dict as a set of parts -/
structure Dset (H : Hp) (d : Addr) (hs : List Int) : Prop where
  ex : ∃ kvs : List (Key × V), H d = some (.dK kvs) ∧ (∀ n : Int, (valV kvs (Sum.inl n)).isSome = decide (n ∈ hs)) ∧ kvs.length ≤ hs.length
theorem putK_len (kvs : List (Key × V)) (k : Key) (v : V) : (putK kvs k v).length ≤ kvs.length + 1 := by
  unfold putK
  split
  · rw [List.length_map]; omega
  · rw [List.length_append]; simp
theorem valV_putI (kvs : List (Key × V)) (n m : Int) (v : V) : (valV (putK kvs (Sum.inl n) v) (Sum.inl m)).isSome = (decide (m = n) || (valV kvs (Sum.inl m)).isSome) := by
  rw [valV_put]
  by_cases e : m = n
  · rw [if_pos (by rw [e]), decide_eq_true e]
    rfl
  · rw [if_neg (fun z => e (by injection z)), decide_eq_false e, Bool.false_or]
theorem Dset.put {H : Hp} {d : Addr} {hs : List Int} {kvs : List (Key × V)} {n : Int} {v : V} (h2 : ∀ n : Int, (valV kvs (Sum.inl n)).isSome = decide (n ∈ hs)) (h3 : kvs.length ≤ hs.length) : Dset (upd H d (.dK (putK kvs (Sum.inl n) v))) d (hs ++ [n]) := by
  refine ⟨_, upd_same, fun m => ?_, ?_⟩
  · rw [valV_putI, h2]
    by_cases e : m = n
    · subst e
      simp
    · simp [e]
  · have := putK_len kvs (Sum.inl n) v
    rw [List.length_append]
    simp only [List.length_singleton]
    omega
/-- the pairs (p, True) -/
def tkv (ps : List Int) : List (Key × V) := ps.map fun p => (Sum.inl p, V.bl true)
theorem tkv_ok : ∀ ps : List Int, (∀ n : Int, (valV (mergeK [] (tkv ps)) (Sum.inl n)).isSome = decide (n ∈ ps)) ∧ (mergeK [] (tkv ps)).length ≤ ps.length := by
  intro ps
  suffices h : ∀ (kvs : List (Key × V)) (hs : List Int), (∀ n : Int, (valV kvs (Sum.inl n)).isSome = decide (n ∈ hs)) → kvs.length ≤ hs.length → (∀ n : Int, (valV (mergeK kvs (tkv ps)) (Sum.inl n)).isSome = decide (n ∈ hs ++ ps)) ∧ (mergeK kvs (tkv ps)).length ≤ (hs ++ ps).length by
    have := h [] [] (fun n => by simp [valV_nil]) (Nat.le_refl _)
    simpa using this
  induction ps with
  | nil => intro kvs hs h1 h2; simpa [tkv, mergeK] using ⟨h1, h2⟩
  | cons p ps ih =>
    intro kvs hs h1 h2
    have e : mergeK kvs (tkv (p :: ps)) = mergeK (putK kvs (Sum.inl p) (.bl true)) (tkv ps) := rfl
    rw [e, show hs ++ p :: ps = (hs ++ [p]) ++ ps by simp]
    refine ih _ _ (fun n => ?_) ?_
    · rw [valV_putI, h1]
      by_cases e : n = p
      · subst e
        simp
      · simp [e]
    · have := putK_len kvs (Sum.inl p) (.bl true)
      rw [List.length_append]
      simp only [List.length_singleton]
      omega
theorem Dset.of {H : Hp} {d : Addr} {ps : List Int} : Dset (upd H d (.dK (mergeK [] (tkv ps)))) d ps := ⟨_, upd_same, (tkv_ok ps).1, (tkv_ok ps).2⟩
theorem Dset.same {H H' : Hp} {d : Addr} {hs : List Int} (h : Dset H d hs) (s : Same H H') : Dset H' d hs := by
  obtain ⟨kvs, h1, h2, h3⟩ := h.ex
  exact ⟨kvs, s _ _ h1, h2, h3⟩
/-! ### when a learnt line is right -/
def nf (row held : List Int) : List Int := once [] (row.filter fun p => decide (-p ∉ held))
def rowAt (Rs : List (List Int)) (h : Int) : List Int := Rs.getD h.toNat []
def goL (Rs : List (List Int)) : List Int → List Int → Bool
  | _, [] => false
  | held, [h] => (nf (rowAt Rs h) held).isEmpty
  | held, h :: h' :: r => match nf (rowAt Rs h) held with
    | [x] => if x ∈ held then false else goL Rs (held ++ [x]) (h' :: r)
    | _ => false
def badHints (n : Nat) (hs : List Int) : Bool := hs.isEmpty || hs.any (fun h => decide (h < 0)) || hs.any (fun h => decide ((n : Int) ≤ h))
def isLearnt (Rs : List (List Int)) (ps hs : List Int) : Bool := if badHints Rs.length hs = true then false else goL Rs (ps.map fun p => -p) hs
/-- the law's own way -/
def leftL (row held : List Int) : Option (List Int) := if row.any (fun p => decide (p ∈ held)) = true then none else some (row.filter fun p => decide (-p ∉ held))
def rightL (Rs : List (List Int)) : List Int → List Int → Bool
  | _, [] => false
  | held, [h] => match leftL (rowAt Rs h) held with
    | some l => l.isEmpty
    | none => false
  | held, h :: h' :: r => match leftL (rowAt Rs h) held with
    | some [x] => rightL Rs (held ++ [x]) (h' :: r)
    | _ => false
def Cons (held : List Int) : Prop := ∀ x ∈ held, -x ∉ held
end L2

/-! OWN: is of bools; min and max of a list or a tuple of numbers. Behind Rw. -/
namespace L2
open PySem PySem.Spec PyProof.Rows
theorem best_gt (val : Nat → Int) : ∀ k, argBest (fun i j => decide (val i > val j)) k ≤ k ∧ ∀ i, i ≤ k → val i ≤ val (argBest (fun i j => decide (val i > val j)) k)
  | 0 => ⟨Nat.le_refl _, fun i hi => by
      have e : i = 0 := by omega
      subst e
      exact Int.le_refl _⟩
  | k + 1 => by
    obtain ⟨h1, h2⟩ := best_gt val k
    unfold argBest
    by_cases e : val (k + 1) > val (argBest (fun i j => decide (val i > val j)) k)
    · rw [if_pos (decide_eq_true e)]
      refine ⟨Nat.le_refl _, fun i hi => ?_⟩
      by_cases hk : i = k + 1
      · rw [hk]
        exact Int.le_refl _
      · have := h2 i (by omega)
        omega
    · rw [if_neg (fun z => e (of_decide_eq_true z))]
      refine ⟨by omega, fun i hi => ?_⟩
      by_cases hk : i = k + 1
      · rw [hk]
        omega
      · exact h2 i (by omega)
theorem getD_mem {ns : List Int} {i : Nat} (h : i < ns.length) : ns.getD i 0 ∈ ns := by
  rw [List.getD_eq_getElem?_getD, List.getElem?_eq_getElem h]
  exact List.getElem_mem h
theorem mem_getD {ns : List Int} {n : Int} (h : n ∈ ns) : ∃ i, i < ns.length ∧ ns.getD i 0 = n := by
  obtain ⟨i, hi, e⟩ := List.mem_iff_getElem.mp h
  exact ⟨i, hi, by rw [List.getD_eq_getElem?_getD, List.getElem?_eq_getElem hi]; exact e⟩
section
variable {X : Cx}
theorem valsInt {ns : List Int} {its : List Value} (rv : Vals (ns.map V.int) its) : ∀ (i : Nat) (v : Value), its.toArray[i]? = some v → ∃ t, v = .int (ns.getD i 0) t := fun i v hv => by
  have hv' : its[i]? = some v := by simpa using hv
  have hi : i < its.length := (List.getElem?_eq_some_iff.mp hv').1
  have hl := rv.length
  rw [List.length_map] at hl
  have hb : ns[i]? = some (ns.getD i 0) := by
    rw [List.getD_eq_getElem?_getD, List.getElem?_eq_getElem (by omega)]
    rfl
  obtain ⟨w', e1, e2⟩ := rv.get (i := i) (x := .int (ns.getD i 0)) (by rw [List.getElem?_map, hb]; rfl)
  rw [hv'] at e1
  cases e1
  exact e2
/-- max of numbers -/
theorem call_maxL (hc : X.calm = true) : CallR X (.builtin "max") (fun xs H Q => ∃ (p : Addr) (ns : List Int), xs = [.ref p] ∧ SqInt X.K H p ns ∧ ns ≠ [] ∧ ∀ m, m ∈ ns → (∀ n ∈ ns, n ≤ m) → Q (.int m) H) := by
  intro pins s σ H xs us Q I r h
  obtain ⟨p, ns, rfl, hq, hne, q⟩ := h
  obtain ⟨u, rfl, ru⟩ := vals1 r
  cases (show u = Value.ref p from ru)
  have fin : ∀ {its : List Value} {v : Value} {h' : Heap} {tk : Nat}, Vals (ns.map V.int) its → its.toArray[argBest (fun i j => decide (ns.getD i 0 > ns.getD j 0)) (its.toArray.size - 1)]? = some v → (∀ b o, s.heap.get? b = some o → h'.get? b = some o) → EP X pins σ Q v { s with heap := h', toks := tk } := fun {its v h' tk} rv hP hk => by
    obtain ⟨t, rfl⟩ := valsInt rv _ _ hP
    have hl := rv.length
    rw [List.length_map] at hl
    have n0 : 0 < ns.length := List.length_pos_iff.mpr hne
    have es : its.toArray.size - 1 = ns.length - 1 := by simp only [List.size_toArray]; omega
    rw [es]
    obtain ⟨b1, b2⟩ := best_gt (fun i => ns.getD i 0) (ns.length - 1)
    exact ⟨.int _, H, I.kept (t' := tk) hk, ⟨t, rfl⟩, q _ (getD_mem (by omega)) fun n hn => by
      obtain ⟨i, hi, e⟩ := mem_getD hn
      rw [← e]
      exact b2 i (by omega)⟩
  have n0 : 0 < ns.length := List.length_pos_iff.mpr hne
  rcases hq with hq | hq
  · obtain ⟨its, rv, pl, hz⟩ := I.list hq
    have hl := rv.length
    rw [List.length_map] at hl
    have hp : p < s.heap.objs.size := by
      obtain ⟨o, ho, _⟩ := pl.isList
      exact Heap.lt_size ho
    refine call_max_walk (wpAny_pyIter_list pl.isList ?_)
    refine ⟨s.heap.objs.size, [s.heap.objs.size, p], [s.heap.objs.size], its.toArray.size, _, _, fun i j => decide (ns.getD i 0 > ns.getD j 0), rfl, Walks.list (show X.A.in1.handled = none from I.ok.hd hc) _ p (Nat.ne_of_lt hp) its.toArray, ⟨⟨_, Heap.get?_push_size _ rfl, rfl, rfl⟩, pl.isList.push _⟩, fun b hb => ?_, by simp only [List.size_toArray]; omega, CmpOf.ints_gt (fun i => ns.getD i 0) (valsInt rv), fun v h' tk hP hk => fin rv hP fun b o e => hk b o (fun hm => ?_) (Heap.get?_push_of_some _ e)⟩
    · show b < (s.heap.push _).objs.size
      rw [Heap.size_push]
      simp only [List.mem_cons, List.not_mem_nil, or_false] at hb
      rcases hb with rfl | rfl
      · exact Nat.lt_succ_self _
      · exact Nat.lt_succ_of_lt hp
    · have : b = s.heap.objs.size := by simpa using hm
      exact absurd (Heap.lt_size e) (by rw [this]; exact Nat.lt_irrefl _)
  · obtain ⟨its, rv, pl, hz⟩ := I.tuple hq
    have hl := rv.length
    rw [List.length_map] at hl
    have pt : s.heap.IsTuple p its.toArray := pl
    have hp : p < s.heap.objs.size := by
      obtain ⟨o, ho, _⟩ := id pt
      exact Heap.lt_size ho
    refine call_max_walk (wpAny_pyIter_tuple pt ?_)
    refine ⟨s.heap.objs.size, [s.heap.objs.size, p], [s.heap.objs.size], its.toArray.size, _, _, fun i j => decide (ns.getD i 0 > ns.getD j 0), rfl, Walks.tuple (show X.A.in1.handled = none from I.ok.hd hc) _ p (Nat.ne_of_lt hp) its.toArray, ⟨⟨_, Heap.get?_push_size _ rfl, rfl, rfl⟩, pt.push _⟩, fun b hb => ?_, by simp only [List.size_toArray]; omega, CmpOf.ints_gt (fun i => ns.getD i 0) (valsInt rv), fun v h' tk hP hk => fin rv hP fun b o e => hk b o (fun hm => ?_) (Heap.get?_push_of_some _ e)⟩
    · show b < (s.heap.push _).objs.size
      rw [Heap.size_push]
      simp only [List.mem_cons, List.not_mem_nil, or_false] at hb
      rcases hb with rfl | rfl
      · exact Nat.lt_succ_self _
      · exact Nat.lt_succ_of_lt hp
    · have : b = s.heap.objs.size := by simpa using hm
      exact absurd (Heap.lt_size e) (by rw [this]; exact Nat.lt_irrefl _)
end
end L2

/-! OWN: comprehensions whose target is any (pairs, triples); list ways that the layer lacks. Behind Ext5. -/
namespace L2
open PySem PySem.Spec PyProof.Rows
def tLCG (wi : TI) (L : Nat) (ix : List Nat) (g : TG) (te : TE) : TE := fun σ H Q => wi σ H fun J H1 => ∀ D, H1 D = none →
  ∃ W : Nat → Nat → List V → Hp → Prop, (∃ m, W 0 m [] (upd H1 D (.lst []))) ∧
    ∀ i m ys H', W i m ys H' → H' D = some (.lst ys) ∧
      ((J.stop i H' ∧ Q (.ref D) H') ∨ (J.go i H' ∧ ∀ x H'', J.yld i H' x H'' → ∀ σ0 : St, σ0.length = L → g x (σ0 ++ fvs σ ix) H'' fun σ' H2 => ∃ σ1 : St, σ1.length = L ∧ σ' = σ1 ++ fvs σ ix ∧ te σ' H2 fun y H3 =>
        H3 D = some (.lst ys) ∧ ys.length < sizeLine ∧ ∃ m', m' < m ∧ W (i + 1) m' (ys ++ [y]) (upd H3 D (.lst (ys ++ [y])))))
def tLCIG (wi : TI) (L : Nat) (ix : List Nat) (g : TG) (tc : TT) (te : TE) : TE := fun σ H Q => wi σ H fun J H1 => ∀ D, H1 D = none →
  ∃ W : Nat → Nat → List V → Hp → Prop, (∃ m, W 0 m [] (upd H1 D (.lst []))) ∧
    ∀ i m ys H', W i m ys H' → H' D = some (.lst ys) ∧
      ((J.stop i H' ∧ Q (.ref D) H') ∨ (J.go i H' ∧ ∀ x H'', J.yld i H' x H'' → ∀ σ0 : St, σ0.length = L → g x (σ0 ++ fvs σ ix) H'' fun σ' H2 => ∃ σ1 : St, σ1.length = L ∧ σ' = σ1 ++ fvs σ ix ∧ tc σ' H2 fun b H3 =>
        if b = true then te σ' H3 fun y H4 => H4 D = some (.lst ys) ∧ ys.length < sizeLine ∧ ∃ m', m' < m ∧ W (i + 1) m' (ys ++ [y]) (upd H4 D (.lst (ys ++ [y])))
        else ∃ m', m' < m ∧ W (i + 1) m' ys H3))
section
variable {X : Cx} {N' : List Str} {scope : Scope} {cl : List (Str × Addr)} {fp : List Addr} {pins : List (Addr × Obj)} {σ : St} {H : Hp} {s : Shared}
theorem comp_startG {L : Nat} {ix : List Nat} {h₁ : Heap} {t' : Nat} {m : Str → Option Value} (I : Inv X pins σ H s) (C : Clo X scope cl) (hkind : scope.kind = .function) (hf : ∀ b ∈ fp, FpOk X pins H b) (hlt : ∀ b ∈ fp, b < s.heap.objs.size)
    (hlen : N'.length = L + ix.length) (hix : ∀ (j i : Nat), ix[j]? = some i → ∃ y, X.N[i]? = some y ∧ N'[L + j]? = some y ∧ (X.env.kindOf y = some .cell ∨ X.env.kindOf y = some .free) ∧ ((relabel scope X.env).names.lookup y = some .cell ∨ (relabel scope X.env).names.lookup y = some .free))
    (hn : h₁.Ns s.heap.objs.size m) (hk : ∀ b o, s.heap.get? b = some o → h₁.get? b = some o) : Inv (cxComp X N' scope cl fp s H) [] (List.replicate L none ++ fvs σ ix) H { s with heap := h₁, toks := t' } := by
  have cellK : ∀ x c, cl.lookup x = some c → ∃ v, h₁.IsCell c v := fun x c h => by
    obtain ⟨v, o, ho, hd⟩ := I.cell x c (C.sub x c h)
    exact ⟨v, o, hk c o ho, hd⟩
  refine ⟨comp_ok I C hkind hf hlt, rfl, I.bare, Un.kept hk, ⟨m, hn, fun i y v h1 h2 h3 => ?_⟩, cellK, I.hok.fresh (Nat.le_refl _), fun x c h => I.freeC x c (C.sub x c h), fun p hp => absurd (show p ∈ ([] : List (Addr × Obj)) from hp) (by simp), I.hok.kept hk, ?_⟩
  · rcases Nat.lt_or_ge i L with hlt | hge
    · rw [List.getElem?_append_left (by simp; exact hlt), List.getElem?_replicate] at h2
      rw [if_pos hlt] at h2
      cases (show some (none : Option V) = some (some v) from h2)
    · obtain ⟨j, rfl⟩ : ∃ j, i = L + j := ⟨i - L, by omega⟩
      have h2' : (fvs σ ix)[j]? = some (some v) := by
        rw [List.getElem?_append_right (by simp), List.length_replicate, Nat.add_sub_cancel_left] at h2
        exact h2
      unfold fvs at h2'
      rw [List.getElem?_map] at h2'
      cases e : ix[j]? with
      | none => rw [e] at h2'; cases h2'
      | some i =>
        rw [e] at h2'
        have h4 : (σ[i]?).join = some v := Option.some.inj h2'
        have h5 : σ[i]? = some (some v) := by
          cases e' : σ[i]? with
          | none => rw [e'] at h4; cases h4
          | some q =>
            rw [e'] at h4
            have h6 : q = some v := h4
            rw [h6]
        obtain ⟨y', n1, n2, k1, k2⟩ := hix j i e
        have ey : y' = y := Option.some.inj (n2.symm.trans h1)
        subst ey
        obtain ⟨m0, hn0, hl0⟩ := I.loc
        have hv0 : Vis X.env.scope y' := k1.elim (fun z => .inr (.inl z)) fun z => .inr (.inr z)
        obtain ⟨u, ru, l⟩ := hl0 i y' v n1 h5 hv0
        refine ⟨u, ru, .inr ⟨k2, ?_⟩⟩
        rcases l with ⟨k, _⟩ | ⟨_, c, ec, o, ho, hd⟩
        · rcases k1 with z | z
          · rw [z] at k; cases k
          · rw [z] at k; cases k
        · obtain ⟨c', ec'⟩ := C.has y' k2
          have : c' = c := Option.some.inj ((C.sub _ _ ec').symm.trans ec)
          subst this
          exact ⟨c', ec', o, hk c' o ho, hd⟩
  · show (List.replicate L (none : Option V) ++ fvs σ ix : St).length = N'.length
    rw [hlen]
    simp [fvs]
end
section
variable {X : Cx} {N' : List Str} {scope : Scope} {elt iter tg : Expr} {L : Nat} {pos : Pos} {wi : TI} {g : TG} {te : TE} {ix : List Nat}
theorem pe_lcg (hc : X.calm = true) (hkind : scope.kind = .function) (hcell : ∀ y ∈ scope.names, y.2 ≠ .cell) (hnames : ∀ y ∈ scope.names, y.2 = .local → scope.names.lookup y.1 = some .local)
    (hclo : X.Ok → ∃ cl, Clo X scope cl) (hlen : N'.length = L + ix.length)
    (hix : ∀ (j i : Nat), ix[j]? = some i → ∃ y, X.N[i]? = some y ∧ N'[L + j]? = some y ∧ (X.env.kindOf y = some .cell ∨ X.env.kindOf y = some .free) ∧ ((relabel scope X.env).names.lookup y = some .cell ∨ (relabel scope X.env).names.lookup y = some .free))
    (hi : PI X tg iter wi) (hg : ∀ cl fp s₃ H₃, PG (cxComp X N' scope cl fp s₃ H₃) tg g) (he : ∀ cl fp s₃ H₃, PE (cxComp X N' scope cl fp s₃ H₃) elt te) (hs : ∀ v, foldedSetIterable iter X.env v = pure v := by intro _; rfl) :
    PE X (.ListComp elt [⟨tg, iter, [], 0⟩] scope pos) (tLCG wi L ix g te) := by
  intro pins s σ H Q I h
  obtain ⟨cl, C⟩ := hclo I.ok
  rw [eval_ListComp]
  refine wpAny_comprehension_free (use := none) rfl hs C.eq hkind hnames (thn (hi pins s σ H _ I h) fun v s1 h1 => thn h1 fun itv s2 h2 => ?_)
  obtain ⟨it, fp, tn, J, H2, e, I2, T, st2, f2, q2⟩ := h2
  subst e
  have hD : H2 s2.heap.objs.size = none := I2.fresh
  obtain ⟨W, ⟨m0, w0⟩, turn⟩ := q2 s2.heap.objs.size hD
  refine wpAny_newObj_type (wpAny_newFunctionEnv hcell (by intro y hy; simp at hy) (fun h₁ hns₁ hsb₁ => ?_) hkind)
  dsimp only at hns₁ hsb₁ ⊢
  have I3 : Inv X pins σ (upd H2 s2.heap.objs.size (.lst [])) { s2 with heap := s2.heap.push { cls := .type "list", data := .seq ([] : List Value).toArray }, toks := s2.toks } := I2.lnew .nil (Nat.zero_le _)
  generalize hs3 : ({ s2 with heap := s2.heap.push { cls := .type "list", data := .seq ([] : List Value).toArray }, toks := s2.toks } : Shared) = s3 at I3
  have e3 : s3.heap = s2.heap.push { cls := .type "list", data := .seq ([] : List Value).toArray } := by rw [← hs3]
  generalize hDD : s2.heap.objs.size = D at *
  generalize hH3 : upd H2 D (.lst []) = H3 at *
  have lt2 : ∀ b ∈ fp, b < s2.heap.objs.size := fun b hb => by
    obtain ⟨o, ho, _⟩ := T.obj 0 _ st2 b hb
    exact Heap.lt_size ho
  have neD : ∀ b ∈ fp, b ≠ D := fun b hb => by rw [← hDD]; exact Nat.ne_of_lt (lt2 b hb)
  have f3 : ∀ b ∈ fp, FpOk X pins H3 b := fun b hb => ⟨by rw [← hH3, upd_ne (neD b hb)]; exact (f2 b hb).1, (f2 b hb).2⟩
  have sz3 : s3.heap.objs.size = D + 1 := by rw [e3, Heap.size_push, hDD]
  have lt3 : ∀ b ∈ fp, b < s3.heap.objs.size := fun b hb => by have q := lt2 b hb; rw [sz3]; rw [hDD] at q; exact Nat.lt_succ_of_lt q
  have old : ∀ b o, s3.heap.get? b = some o → h₁.get? b = some o := fun b o eb => by
    have hb : b < D + 1 := by rw [← sz3]; exact Heap.lt_size eb
    refine hsb₁.extBut b o ?_ (Heap.get?_push_of_some _ (by rw [← e3]; exact eb))
    rw [Heap.size_push, hDD]
    exact Nat.ne_of_lt hb
  have szC : (s2.heap.push { cls := .type "list", data := .seq ([] : List Value).toArray }).objs.size = s3.heap.objs.size := by rw [e3]
  have os3 : s3.os = s2.os := by rw [← hs3]
  rw [szC] at hns₁ hsb₁
  have I4 : Inv (cxComp X N' scope cl fp s3 H3) [] (List.replicate L none ++ fvs σ ix) H3 { s3 with heap := h₁, toks := s2.toks + ([] : List (Str × Value)).length } := comp_startG I3 C hkind f3 lt3 hlen hix hns₁ old
  have st4 : tn 0 h₁ := T.keep 0 _ _ st2 fun b hb o eb => old b o (by rw [e3]; exact Heap.get?_push_of_some _ eb)
  have stat : ∀ {H' : Hp}, (∀ b ∈ fp, H' b = none) → ∀ b ∈ fp, FpOk (cxComp X N' scope cl fp s3 H3) [] H' b := fun hn b hb =>
    ⟨hn b hb, Nat.ne_of_lt (lt3 b hb), fun hs' => (comp_ok (N' := N') I3 C hkind f3 lt3).exfs b hb hs', .inl hb, fun y c hy => ((comp_ok (N' := N') I3 C hkind f3 lt3).exf b hb).2 y c hy, fun p hp => absurd (show p ∈ ([] : List (Addr × Obj)) from hp) (by simp)⟩
  have loop : ∀ s4 : Shared, s4 = { s3 with heap := h₁, toks := s2.toks + ([] : List (Str × Value)).length } →
      codeAny (model X.prog X.w) X.A (.compLoop (.ListComp elt [⟨tg, iter, [], 0⟩] scope pos) 0 (.ref it) (.ref D) (compEnvC scope cl s3.heap.objs.size X.env))
        (compPost (model X.prog X.w) X.A X.xe none (EP X pins σ Q) (.ref D) s3.heap.objs.size) s4 := by
    rintro s4 rfl
    refine compLoop_go (fun n s' => ∃ i σ0 H' ys, σ0.length = L ∧ Inv (cxComp X N' scope cl fp s3 H3) [] (σ0 ++ fvs σ ix) H' s' ∧ tn i s'.heap ∧ (∀ b ∈ fp, H' b = none) ∧ W i n ys H') ?_ m0 ⟨0, List.replicate L none, H3, [], by simp, I4, st4, fun b hb => (f3 b hb).1, w0⟩
    rintro n s5 ⟨i, σ0, H5, ys, hl0, I5, st5, fr5, w5⟩
    obtain ⟨hD5, alt⟩ := turn i n ys H5 w5
    rcases alt with ⟨stop, q⟩ | ⟨go, step⟩
    · refine thn (T.done (cxComp X N' scope cl fp s3 H3) rfl rfl rfl hc i [] s5 _ H5 _ I5 (stat fr5) st5 stop) fun r s6 ⟨hr, I6⟩ => ?_
      subst hr
      obtain ⟨m, hn, _⟩ := I6.loc
      exact ⟨m, hn, fun h' hsb => ⟨.ref D, H5, comp_end I3 I6 f3 hsb, rfl, q⟩⟩
    · refine thn (T.item (cxComp X N' scope cl fp s3 H3) rfl rfl rfl hc i [] s5 _ H5 _ I5 (stat fr5) st5 go) fun r s6 ⟨u, hr, h6⟩ => ?_
      subst hr
      refine thn h6 fun _ s7 ⟨y7, H7, I7, r7, yl7, st7, fr7⟩ => ?_
      have I7' := I7.pinned (stat fr7) (T.obj _ _ st7)
      refine wpAny_mono (hg cl fp s3 H3 _ s7 _ H7 y7 u _ I7' r7 (step y7 H7 yl7 σ0 hl0)) (fun _ s8 h8 => ?_) fun _ _ f => False.elim f
      obtain ⟨σ8', H8, I8, σ8, hl8, rfl, q8⟩ := h8
      refine wpAny_mono (he cl fp s3 H3 _ s8 _ H8 _ I8 q8) (fun yv s9 h9 => ?_) fun _ _ f => False.elim f
      obtain ⟨y9, H9, I9, r9, hD9, hl9, m', hm', w9⟩ := h9
      refine wpAny_mono (mt_append (X := cxComp X N' scope cl fp s3 H3) _ s9 _ H9 (.ref D) [y9] (.ref D) [yv] (fun _ H' => H' = upd H9 D (.lst (ys ++ [y9]))) I9 rfl (.cons r9 .nil) ⟨D, ys, y9, rfl, rfl, hD9, hl9, rfl⟩) (fun _ s10 h10 => ?_) fun _ _ f => False.elim f
      obtain ⟨_, H10, I10, _, rfl⟩ := h10
      refine ⟨m', hm', i + 1, σ8, _, ys ++ [y9], hl8, I10.unpinned, T.keep _ _ _ st7 fun b hb o eb => (I10.pin (b, o) (List.mem_append_right _ (List.mem_append_right _ (mem_pinsAt hb eb)))).1, fun b hb => ?_, w9⟩
      obtain ⟨o, eb, d⟩ := T.obj _ _ st7 b hb
      exact (I10.pin (b, o) (List.mem_append_right _ (List.mem_append_right _ (mem_pinsAt hb eb)))).2.1
  subst hs3
  have fin := codeAny_compStart_list (loop _ rfl) (T.self X.A 0 _ _ _ st4 (loop _ rfl))
  exact fin
theorem ps_setLCG {i : Nat} {y0 : Str} {py spos : Pos} (hNy : X.N.Nodup) (hiy : X.N[i]? = some y0) (hy : Loc X.env.scope y0) (hc : X.calm = true) (hkind : scope.kind = .function) (hcell : ∀ y ∈ scope.names, y.2 ≠ .cell) (hnames : ∀ y ∈ scope.names, y.2 = .local → scope.names.lookup y.1 = some .local)
    (hclo : X.Ok → ∃ cl, Clo X scope cl) (hlen : N'.length = L + ix.length)
    (hix : ∀ (j i : Nat), ix[j]? = some i → ∃ y, X.N[i]? = some y ∧ N'[L + j]? = some y ∧ (X.env.kindOf y = some .cell ∨ X.env.kindOf y = some .free) ∧ ((relabel scope X.env).names.lookup y = some .cell ∨ (relabel scope X.env).names.lookup y = some .free))
    (hi : PI X tg iter wi) (hg : ∀ cl fp s₃ H₃, PG (cxComp X N' scope cl fp s₃ H₃) tg g) (he : ∀ cl fp s₃ H₃, PE (cxComp X N' scope cl fp s₃ H₃) elt te) (hsw : swapsWith (.ListComp elt [⟨tg, iter, [], 0⟩] scope pos) (some (.Name y0 py)) spos.line X.env = pure true := by rfl)
    (hf : X.fn y0 = true ∨ X.env.scope.names.lookup y0 = some .local := by first | exact .inl rfl | exact .inr rfl | assumption) (hs : ∀ v, foldedSetIterable iter X.env v = pure v := by intro _; rfl) :
    PS X (.Assign [.Name y0 py] (.ListComp elt [⟨tg, iter, [], 0⟩] scope pos) spos) (tAsg (tLCG wi L ix g te) (gName i)) := by
  intro pins s σ H Dn I h
  obtain ⟨cl, C⟩ := hclo I.ok
  rw [exec_Assign_Name_used _ _ _ _ hsw]
  refine wpAny_bind (wpAny_standAt (wpAny_bind ?_))
  rw [arm_evalThenUse_ListComp]
  refine wpAny_bind (wpAny_mono (wpAny_comprehension_free (use := some (assign (.Name y0 py) X.env)) (Q := fun _ s' => ∃ σ' H', Inv X pins σ' H' s' ∧ Dn.nx σ' H') rfl hs C.eq hkind hnames (thn (hi pins s σ H _ I h) fun v s1 h1 => thn h1 fun itv s2 h2 => ?_)) (fun _ s' h' => wpAny_pure (wpAny_pure h')) fun _ _ z => z)
  obtain ⟨it, fp, tn, J, H2, e, I2, T, st2, f2, q2⟩ := h2
  subst e
  have hD : H2 s2.heap.objs.size = none := I2.fresh
  obtain ⟨W, ⟨m0, w0⟩, turn⟩ := q2 s2.heap.objs.size hD
  refine wpAny_newObj_type (wpAny_newFunctionEnv hcell (by intro y hy; simp at hy) (fun h₁ hns₁ hsb₁ => ?_) hkind)
  dsimp only at hns₁ hsb₁ ⊢
  have I3 : Inv X pins σ (upd H2 s2.heap.objs.size (.lst [])) { s2 with heap := s2.heap.push { cls := .type "list", data := .seq ([] : List Value).toArray }, toks := s2.toks } := I2.lnew .nil (Nat.zero_le _)
  generalize hs3 : ({ s2 with heap := s2.heap.push { cls := .type "list", data := .seq ([] : List Value).toArray }, toks := s2.toks } : Shared) = s3 at I3
  have e3 : s3.heap = s2.heap.push { cls := .type "list", data := .seq ([] : List Value).toArray } := by rw [← hs3]
  generalize hDD : s2.heap.objs.size = D at *
  generalize hH3 : upd H2 D (.lst []) = H3 at *
  have lt2 : ∀ b ∈ fp, b < s2.heap.objs.size := fun b hb => by
    obtain ⟨o, ho, _⟩ := T.obj 0 _ st2 b hb
    exact Heap.lt_size ho
  have neD : ∀ b ∈ fp, b ≠ D := fun b hb => by rw [← hDD]; exact Nat.ne_of_lt (lt2 b hb)
  have f3 : ∀ b ∈ fp, FpOk X pins H3 b := fun b hb => ⟨by rw [← hH3, upd_ne (neD b hb)]; exact (f2 b hb).1, (f2 b hb).2⟩
  have sz3 : s3.heap.objs.size = D + 1 := by rw [e3, Heap.size_push, hDD]
  have lt3 : ∀ b ∈ fp, b < s3.heap.objs.size := fun b hb => by have q := lt2 b hb; rw [sz3]; rw [hDD] at q; exact Nat.lt_succ_of_lt q
  have old : ∀ b o, s3.heap.get? b = some o → h₁.get? b = some o := fun b o eb => by
    have hb : b < D + 1 := by rw [← sz3]; exact Heap.lt_size eb
    refine hsb₁.extBut b o ?_ (Heap.get?_push_of_some _ (by rw [← e3]; exact eb))
    rw [Heap.size_push, hDD]
    exact Nat.ne_of_lt hb
  have szC : (s2.heap.push { cls := .type "list", data := .seq ([] : List Value).toArray }).objs.size = s3.heap.objs.size := by rw [e3]
  have os3 : s3.os = s2.os := by rw [← hs3]
  rw [szC] at hns₁ hsb₁
  have I4 : Inv (cxComp X N' scope cl fp s3 H3) [] (List.replicate L none ++ fvs σ ix) H3 { s3 with heap := h₁, toks := s2.toks + ([] : List (Str × Value)).length } := comp_startG I3 C hkind f3 lt3 hlen hix hns₁ old
  have st4 : tn 0 h₁ := T.keep 0 _ _ st2 fun b hb o eb => old b o (by rw [e3]; exact Heap.get?_push_of_some _ eb)
  have stat : ∀ {H' : Hp}, (∀ b ∈ fp, H' b = none) → ∀ b ∈ fp, FpOk (cxComp X N' scope cl fp s3 H3) [] H' b := fun hn b hb =>
    ⟨hn b hb, Nat.ne_of_lt (lt3 b hb), fun hs' => (comp_ok (N' := N') I3 C hkind f3 lt3).exfs b hb hs', .inl hb, fun y c hy => ((comp_ok (N' := N') I3 C hkind f3 lt3).exf b hb).2 y c hy, fun p hp => absurd (show p ∈ ([] : List (Addr × Obj)) from hp) (by simp)⟩
  have loop : ∀ s4 : Shared, s4 = { s3 with heap := h₁, toks := s2.toks + ([] : List (Str × Value)).length } →
      codeAny (model X.prog X.w) X.A (.compLoop (.ListComp elt [⟨tg, iter, [], 0⟩] scope pos) 0 (.ref it) (.ref D) (compEnvC scope cl s3.heap.objs.size X.env))
        (compPost (model X.prog X.w) X.A X.xe (some (assign (.Name y0 py) X.env)) (fun _ s' => ∃ σ' H', Inv X pins σ' H' s' ∧ Dn.nx σ' H') (.ref D) s3.heap.objs.size) s4 := by
    rintro s4 rfl
    refine compLoop_go (fun n s' => ∃ i σ0 H' ys, σ0.length = L ∧ Inv (cxComp X N' scope cl fp s3 H3) [] (σ0 ++ fvs σ ix) H' s' ∧ tn i s'.heap ∧ (∀ b ∈ fp, H' b = none) ∧ W i n ys H') ?_ m0 ⟨0, List.replicate L none, H3, [], by simp, I4, st4, fun b hb => (f3 b hb).1, w0⟩
    rintro n s5 ⟨i, σ0, H5, ys, hl0, I5, st5, fr5, w5⟩
    obtain ⟨hD5, alt⟩ := turn i n ys H5 w5
    rcases alt with ⟨stop, q⟩ | ⟨go, step⟩
    · refine thn (T.done (cxComp X N' scope cl fp s3 H3) rfl rfl rfl hc i [] s5 _ H5 _ I5 (stat fr5) st5 stop) fun r s6 ⟨hr, I6⟩ => ?_
      subst hr
      obtain ⟨m, hn, _⟩ := I6.loc
      have Io : Inv X pins σ H5 s6 := comp_end (h' := s6.heap) I3 I6 f3 ⟨rfl, fun _ _ => rfl⟩
      refine wpAny_assign_Name (store_ok2 (v := .ref D) Io hNy hiy hy rfl (fun s7 I7 ⟨a, sb, ha⟩ => ?_) hf)
      have ltC : ∀ x c, X.env.cells.lookup x = some c → c < s3.heap.objs.size := fun x c e => by
        obtain ⟨v, hv⟩ := I3.cell x c e
        exact hv.lt
      have hCa : s3.heap.objs.size ≠ a := by
        rintro rfl
        rcases ha with z | z
        · exact absurd I3.lt (by rw [← z]; exact Nat.lt_irrefl _)
        · exact absurd (ltC _ _ z) (Nat.lt_irrefl _)
      refine ⟨m, hn.sameBut sb hCa, fun h' hsb => ⟨_, H5, ?_, q⟩⟩
      exact I7.skip hsb I3.sz (Nat.ne_of_gt I3.lt) (fun x c e => Nat.ne_of_lt (ltC x c e)) (fun p hp => Nat.ne_of_lt (Heap.lt_size (I3.pin p hp).1)) I6.free
    · refine thn (T.item (cxComp X N' scope cl fp s3 H3) rfl rfl rfl hc i [] s5 _ H5 _ I5 (stat fr5) st5 go) fun r s6 ⟨u, hr, h6⟩ => ?_
      subst hr
      refine thn h6 fun _ s7 ⟨y7, H7, I7, r7, yl7, st7, fr7⟩ => ?_
      have I7' := I7.pinned (stat fr7) (T.obj _ _ st7)
      refine wpAny_mono (hg cl fp s3 H3 _ s7 _ H7 y7 u _ I7' r7 (step y7 H7 yl7 σ0 hl0)) (fun _ s8 h8 => ?_) fun _ _ f => False.elim f
      obtain ⟨σ8', H8, I8, σ8, hl8, rfl, q8⟩ := h8
      refine wpAny_mono (he cl fp s3 H3 _ s8 _ H8 _ I8 q8) (fun yv s9 h9 => ?_) fun _ _ f => False.elim f
      obtain ⟨y9, H9, I9, r9, hD9, hl9, m', hm', w9⟩ := h9
      refine wpAny_mono (mt_append (X := cxComp X N' scope cl fp s3 H3) _ s9 _ H9 (.ref D) [y9] (.ref D) [yv] (fun _ H' => H' = upd H9 D (.lst (ys ++ [y9]))) I9 rfl (.cons r9 .nil) ⟨D, ys, y9, rfl, rfl, hD9, hl9, rfl⟩) (fun _ s10 h10 => ?_) fun _ _ f => False.elim f
      obtain ⟨_, H10, I10, _, rfl⟩ := h10
      refine ⟨m', hm', i + 1, σ8, _, ys ++ [y9], hl8, I10.unpinned, T.keep _ _ _ st7 fun b hb o eb => (I10.pin (b, o) (List.mem_append_right _ (List.mem_append_right _ (mem_pinsAt hb eb)))).1, fun b hb => ?_, w9⟩
      obtain ⟨o, eb, d⟩ := T.obj _ _ st7 b hb
      exact (I10.pin (b, o) (List.mem_append_right _ (List.mem_append_right _ (mem_pinsAt hb eb)))).2.1
  subst hs3
  have fin := codeAny_compStart_list (loop _ rfl) (T.self X.A 0 _ _ _ st4 (loop _ rfl))
  exact fin
end
section
variable {X : Cx} {N' : List Str} {scope : Scope} {elt iter c tg : Expr} {L : Nat} {pos : Pos} {wi : TI} {g : TG} {tc : TT} {te : TE} {ix : List Nat}
end
/-- by invariant; the items' names stand ahead -/
theorem lcg_by {J : It} {n : Nat} {Ok : Hp → Prop} {L : Nat} {g : TG} {te : TE} {fv : St} {H1 : Hp} {D : Addr} {R : Hp → Prop} (W : Wk J n Ok) (Pv : Nat → List V → Hp → Prop) (hok : ∀ i ys H, Pv i ys H → Ok H) (h0 : Pv 0 [] (upd H1 D (.lst [])))
    (turn : ∀ i ys H x H', i < n → ys.length ≤ i → H D = some (.lst ys) → Pv i ys H → J.yld i H x H' → ∀ σ0 : St, σ0.length = L → g x (σ0 ++ fv) H' fun σ' H2 => ∃ σ1 : St, σ1.length = L ∧ σ' = σ1 ++ fv ∧ te σ' H2 (LcPost n D Pv i ys))
    (fin : ∀ ys H, H D = some (.lst ys) → Pv n ys H → R H) :
    ∃ W : Nat → Nat → List V → Hp → Prop, (∃ m, W 0 m [] (upd H1 D (.lst []))) ∧ ∀ i m ys H', W i m ys H' → H' D = some (.lst ys) ∧
      ((J.stop i H' ∧ R H') ∨ (J.go i H' ∧ ∀ x H'', J.yld i H' x H'' → ∀ σ0 : St, σ0.length = L → g x (σ0 ++ fv) H'' fun σ' H2 => ∃ σ1 : St, σ1.length = L ∧ σ' = σ1 ++ fv ∧ te σ' H2 fun y H3 =>
        H3 D = some (.lst ys) ∧ ys.length < sizeLine ∧ ∃ m', m' < m ∧ W (i + 1) m' (ys ++ [y]) (upd H3 D (.lst (ys ++ [y]))))) := by
  refine ⟨LcW n D Pv, ⟨n, rfl, Nat.zero_le _, Nat.zero_le _, upd_same, h0⟩, ?_⟩
  rintro i m ys H' ⟨rfl, hin, hl, hD, p⟩
  refine ⟨hD, ?_⟩
  rcases Nat.lt_or_ge i n with hlt | hge
  · exact .inr ⟨W.go i H' (hok i ys H' p) hlt, fun x H'' y σ0 h0 => turn i ys H' x H'' hlt hl hD p y σ0 h0⟩
  · have e : i = n := Nat.le_antisymm hin hge
    subst e
    exact .inl ⟨W.stop i H' (hok i ys H' p) (Nat.le_refl _), fin ys H' hD p⟩
end L2

/-! OWN: enumerate of a list in a for with a pair ahead; list.insert. Behind Ext6. -/
namespace L2
open PySem PySem.Spec PyProof.Rows
/-- iterator records have turned and a new object is laid -/
theorem Inv.turnedLaid {X : Cx} {pins : List (Addr × Obj)} {σ : St} {H : Hp} {s : Shared} {h' : Heap} {fp : List Addr} {a : Addr} {o : HO} {t' : Nat} (I : Inv X pins σ H s) (hf : ∀ b ∈ fp, FpOk X pins H b) (k : ∀ b u, b ∉ fp → s.heap.get? b = some u → h'.get? b = some u) (hp : s.heap.objs.size ≤ a) (new : ObjOk X.prog X.w (upd H a o) h' a o) :
    Inv X pins σ (upd H a o) { s with heap := h', toks := t' } := by
  have hn := I.hok.fresh hp
  have nfp : ∀ b u, H b = some u → b ∉ fp := fun b u e z => by rw [(hf b z).1] at e; cases e
  have un : Un (frs X.stack) fp H (upd H a o) s.heap h' := ⟨fun b u q _ _ hx => k b u hx q, fun b u q _ _ hx => ⟨u.slots, k b u hx q⟩, fun b u q n _ => by rw [upd_ne (Nat.ne_of_lt (Nat.lt_of_lt_of_le (Heap.lt_size q) hp))]; exact n,
    fun b u q hx => ⟨u, k b u hx q⟩, fun b xs q => by rw [upd_ne (ne_of_none q hn)]; exact q, fun b u xs q => by rw [upd_ne (ne_of_none q hn)]; exact q, fun b ps q => ⟨#[], by rw [upd_ne (ne_of_none q hn), q]; simp⟩⟩
  have hok : HOk X.prog X.w (upd H a o) h' := fun b u e => by
    by_cases hb : b = a
    · subst hb; rw [upd_same] at e; cases e; exact new
    · rw [upd_ne hb] at e
      refine (I.hok b u e).stay (fun c v hc q => k c v ?_ q) (fun c q => by rw [upd_ne (ne_of_none q hn)]; exact q) fun c xs q => by rw [upd_ne (ne_of_none q hn)]; exact q
      rcases hc with z | z
      · rw [z]; exact nfp b u e
      · exact nfp c _ z
  exact I.call (g' := s.gens) (d' := s.drawn) (ch := fp) un hok I.bare fun b hb => ⟨(hf b hb).2.2.2.1, (hf b hb).2.1, (hf b hb).2.2.2.2.1, (hf b hb).2.2.2.2.2⟩
def Ite (K : PySem.W.Frag) (a : Addr) : It :=
  ⟨fun i H => ∃ xs x, SqL K H a xs ∧ xs[i]? = some x, fun i H x H' => ∃ p y, x = .ref p ∧ H p = none ∧ H' = upd H p (.tup [.int i, y]) ∧ ∀ xs, SqL K H a xs → xs[i]? = some y, fun i H => ∃ xs, SqL K H a xs ∧ xs.length ≤ i⟩
section
variable {X : Cx}
def iEnum (K : PySem.W.Frag) (ta : TA) : TI := fun σ H R => ta σ H fun vs H1 => ∃ a, vs = [.ref a] ∧ (∃ xs, SqL K H1 a xs) ∧ R (Ite K a) H1
def rInsert : V → List V → Hp → VK → Prop := fun x vs H Q => ∃ l xs i y, x = .ref l ∧ vs = [.int (i : Nat), y] ∧ H l = some (.lst xs) ∧ i ≤ xs.length ∧ xs.length < sizeLine ∧ Q .non (upd H l (.lst (xs.take i ++ y :: xs.drop i)))
theorem mt_insert : MtM X "list.insert" rInsert := by
  intro pins s σ H x vs v us Q I rx rv h
  obtain ⟨l, xs, i, y, rfl, rfl, hH, hi, hz, q⟩ := h
  cases rx
  obtain ⟨u, u2, rfl, ru, ru2⟩ := rv.two
  obtain ⟨t, rfl⟩ := ru
  obtain ⟨z, its, n, r, hl, e⟩ := I.lstM hH
  have hfit : Builtin.List.listFitsIndex ((i : Nat) : Int) = true := by
    have h63 : sizeLine < 2 ^ 63 := line63
    unfold Builtin.List.listFitsIndex
    simp
    omega
  have hfit' : ¬(!Builtin.List.listFitsIndex ((i : Nat) : Int)) = true := by rw [hfit]; exact Bool.false_ne_true
  have hkk : ∃ k : Int, k = ((i : Nat) : Int) := ⟨_, rfl⟩
  obtain ⟨k, hk⟩ := hkk
  rw [← hk] at hfit' ⊢
  have M := AutoSeq1.list_insert_list_int_val_1 l its.toArray n k t u2 hfit' (by rw [List.size_toArray]; omega)
  refine call_meets F.slot_list_insert ⟨_, e, rfl⟩ F.entry_list_insert (F.args_list_insert_3 _ _ _) M ⟨e, ?_⟩
  refine ⟨.non, _, I.lset (its' := its.take i ++ u2 :: its.drop i) hH e ?_ ((r.take i).append (.cons ru2 (r.drop i))) ?_, rfl, q⟩
  · subst hk
    have h0 : ¬ (((i : Nat) : Int) < 0) := by omega
    have hm : min i its.toArray.size = i := by simp; omega
    show (its.toArray.extract 0 (if ((i : Nat) : Int) < 0 then _ else min (((i : Nat) : Int)).toNat its.toArray.size)).push u2 ++ its.toArray.extract (if ((i : Nat) : Int) < 0 then _ else min (((i : Nat) : Int)).toNat its.toArray.size) = _
    rw [if_neg h0, Int.toNat_natCast, hm]
    apply Array.ext'
    simp [List.extract_eq_drop_take]
    exact List.take_of_length_le (by simp)
  · simp
    omega
theorem pg_tupK {pos : Pos} {es : List Expr} {k : Nat} {t : TGs} (n : Nat) (K : PySem.W.Frag) (hK : X.K = K) (hc : X.calm = true) (h : PGs X es t)
    (hn : (assignEach es X.env).length = n := by rfl) (hst : (assignEach es X.env).findIdx? (·.1) = none := by rfl) : PG X (.Tuple es k pos) (gTup K n t) := by
  subst hK
  exact pg_tup hc h hn hst
theorem call_isinstT : CallR X (.builtin "isinstance") (fun xs H Q => ∃ p ys n b, xs = [.ref p, .ty n] ∧ SqT X.K H p ys ∧ PySem.W.kitOne X.K (.type "tuple") (.type n) = some b ∧ Q (.bl b) H) := by
  intro pins s σ H xs us Q I r h
  obtain ⟨p, ys, n, b, rfl, hq, hk, q⟩ := h
  obtain ⟨u, w', rfl, rx, ry⟩ := vals2 r
  cases (show w' = Value.type n from ry)
  cases rx
  obtain ⟨its, rv, ⟨o, h1, h2, _⟩, hz⟩ := I.tuple hq
  exact PySem.W.kia_one PySem.W.kitx_tuple I.kIn ⟨o, h1, h2⟩ hk (fun z => nomatch z) fun tk => ⟨.bl b, H, I.tok _, rfl, q⟩
end
end L2

/-! OWN: growing a trail by rows: the mathematics. Behind Ext7. -/
namespace L2
open PySem
def opn (row hs : List Int) : List Int := once [] (row.filter fun p => decide (p ∉ hs) && decide (-p ∉ hs))
def isDue (row hs : List Int) : Bool := !(row.any fun p => decide (p ∈ hs)) && decide ((opn row hs).length ≤ 1)
def NoneAhead (Rs : List (List Int)) (hs : List Int) (k : Nat) : Prop := ∀ j, j < k → ∀ r, Rs[j]? = some r → isDue r hs = false
def FirstDue (Rs : List (List Int)) (hs : List Int) : Option Nat → Prop
  | none => NoneAhead Rs hs Rs.length
  | some k => (∃ r, Rs[k]? = some r ∧ isDue r hs = true) ∧ NoneAhead Rs hs k
inductive Grown (Rs : List (List Int)) : List (Int × Int) → List Int → List (Int × Int) → Option Nat → Prop
  | stop {lg : List (Int × Int)} {hs : List Int} : NoneAhead Rs hs Rs.length → Grown Rs lg hs lg none
  | fail {lg : List (Int × Int)} {hs r : List Int} {k : Nat} : Rs[k]? = some r → isDue r hs = true → NoneAhead Rs hs k → opn r hs = [] → Grown Rs lg hs lg (some k)
  | step {lg lg' : List (Int × Int)} {hs r t : List Int} {k : Nat} {a : Int} {o : Option Nat} : Rs[k]? = some r → isDue r hs = true → NoneAhead Rs hs k → opn r hs = a :: t → Grown Rs (lg ++ [(a, (k : Int))]) (hs ++ [a]) lg' o → Grown Rs lg hs lg' o
def oV : Option Nat → V
  | none => .non
  | some k => .int (k : Int)
def left (U hs : List Int) : Nat := (U.filter fun p => decide (p ∉ hs)).length
theorem left_snoc {U hs : List Int} {a : Int} (h : a ∈ U) (n : a ∉ hs) : left U (hs ++ [a]) < left U hs := by
  unfold left
  have e : (U.filter fun p => decide (p ∉ hs ++ [a])) = (U.filter fun p => decide (p ∉ hs)).filter fun p => decide (p ≠ a) := by
    rw [List.filter_filter]
    congr 1
    funext p
    simp
    exact Bool.and_comm _ _
  rw [e]
  have h1 : a ∈ U.filter fun p => decide (p ∉ hs) := List.mem_filter.mpr ⟨h, decide_eq_true n⟩
  generalize (U.filter fun p => decide (p ∉ hs)) = Z at h1
  induction Z with
  | nil => cases h1
  | cons z Z ih =>
    rw [List.filter_cons]
    by_cases ez : z = a
    · subst ez
      rw [if_neg (by simp)]
      exact Nat.lt_succ_of_le (List.length_filter_le _ _)
    · rw [if_pos (by simp [ez])]
      rcases List.mem_cons.mp h1 with q | q
      · exact absurd q.symm ez
      · exact Nat.succ_lt_succ (ih q)
theorem opn_mem {row hs : List Int} {a : Int} : a ∈ opn row hs ↔ a ∈ row ∧ a ∉ hs ∧ -a ∉ hs := by
  unfold opn
  rw [once_mem, List.mem_filter]
  simp
def dQT (p : Int) : Dt := .tup [.int p, .bl true]
theorem nols_dQT : ∀ ps : List Int, nols (ps.map dQT) = true
  | [] => by simp [nols]
  | t :: ts => by simp only [List.map_cons, nols, dQT, nol, Bool.true_and]; exact nols_dQT ts
theorem has_dQT {K : PySem.W.Frag} {H : Hp} {p : Int} {v : V} (h : Has K H (dQT p) v) : ∃ a, v = .ref a ∧ SqT K H a [.int p, .bl true] := by
  unfold dQT at h
  simp only [Has, HasL] at h
  obtain ⟨a, xs, rfl, hs, v1, r, rfl, rfl, v2, r2, rfl, rfl, rfl⟩ := h
  exact ⟨a, rfl, hs⟩
theorem of_dQT {K : PySem.W.Frag} {H : Hp} {p : Int} {a : Addr} (h : SqT K H a [.int p, .bl true]) : Has K H (dQT p) (.ref a) := Has.tup' h (.cons .int (.cons (by simp only [Has]) .nil))
theorem qt_pairs {K : PySem.W.Frag} {H : Hp} {ps : List Int} {ys : List V} (h : HasL K H (ps.map dQT) ys) : ys.length = (tkv ps).length ∧ ∀ (i : Nat) y kv, ys[i]? = some y → (tkv ps)[i]? = some kv → ∃ a, y = .ref a ∧ SqT K H a [kV kv.1, kv.2] := by
  have hl : ys.length = ps.length := by rw [← h.length, List.length_map]
  refine ⟨by rw [hl]; simp [tkv], fun i y kv e1 e2 => ?_⟩
  obtain ⟨d, e3, e4⟩ := h.get e1
  unfold tkv at e2
  rw [List.getElem?_map] at e2 e3
  cases q : ps[i]? with
  | none => rw [q] at e2; cases e2
  | some p =>
    rw [q] at e2 e3
    cases e2
    cases e3
    exact has_dQT e4
theorem firstDue_next {Rs : List (List Int)} {hs r : List Int} {i : Nat} (h : NoneAhead Rs hs i) (e : Rs[i]? = some r) (d : isDue r hs = false) : NoneAhead Rs hs (i + 1) := fun j hj r' er => by
  rcases Nat.lt_or_eq_of_le (Nat.le_of_lt_succ hj) with q | q
  · exact h j q r' er
  · subst q
    rw [e] at er
    cases er
    exact d
theorem atI_pick {ns : List Int} {i : Int} (h0 : 0 ≤ i) (h1 : i < (ns.length : Int)) : ∃ n, n ∈ ns ∧ atI (ns.map V.int) i = some (.int n) := by
  obtain ⟨c, e1, e2⟩ := at_some (xs := ns.map V.int) h0 (by rw [List.length_map]; exact h1)
  obtain ⟨k, hk, rfl⟩ := ints_at e2
  exact ⟨k, List.mem_of_getElem? hk, e1⟩
theorem modR (a : Int) {b : Int} (h : 0 < b) : 0 ≤ a % b ∧ a % b < b := ⟨Int.emod_nonneg _ (by omega), Int.emod_lt_of_pos _ h⟩
def mixF (c k : Int) : Int := (c + 7919 * k + 1) * 48271 % 1000003 * ((c + 7919 * k + 1) * 48271 % 1000003) % 999983
/-- a trail's parts: of atoms 1 to m, none with its opposite -/
structure TrOk (m : Int) (ts : List (Int × Int)) : Prop where
  rng : ∀ t ∈ ts, t.1 ≠ 0 ∧ -m ≤ t.1 ∧ t.1 ≤ m
  con : ∀ x ∈ ts.map Prod.fst, -x ∉ ts.map Prod.fst
theorem TrOk.nil {m : Int} : TrOk m [] := ⟨fun _ h => absurd h (by simp), fun _ h => absurd h (by simp)⟩
theorem TrOk.snoc {m a b y : Int} {ts : List (Int × Int)} (h : TrOk m ts) (hb : b = a ∨ b = -a) (h1 : 1 ≤ a) (h2 : a ≤ m) (n1 : a ∉ ts.map Prod.fst) (n2 : -a ∉ ts.map Prod.fst) : TrOk m (ts ++ [(b, y)]) := by
  refine ⟨fun t ht => ?_, fun x hx => ?_⟩
  · rcases List.mem_append.mp ht with q | q
    · exact h.rng t q
    · cases List.mem_singleton.mp q
      rcases hb with rfl | rfl
      · exact ⟨by show b ≠ 0; omega, by show -m ≤ b; omega, h2⟩
      · exact ⟨by show -a ≠ 0; omega, by show -m ≤ -a; omega, by show -a ≤ m; omega⟩
  · rw [List.map_append] at hx ⊢
    have nb : b ∉ ts.map Prod.fst ∧ -b ∉ ts.map Prod.fst := by
      rcases hb with rfl | rfl
      · exact ⟨n1, n2⟩
      · exact ⟨n2, by rw [Int.neg_neg]; exact n1⟩
    have hb0 : b ≠ -b := by omega
    rcases List.mem_append.mp hx with q | q
    · intro z
      rcases List.mem_append.mp z with z | z
      · exact h.con x q z
      · have e : -x = b := List.mem_singleton.mp z
        have e2 : x = -b := by omega
        rw [e2] at q
        exact nb.2 q
    · have e : x = b := List.mem_singleton.mp q
      subst e
      intro z
      rcases List.mem_append.mp z with z | z
      · exact nb.2 z
      · have e : -x = x := List.mem_singleton.mp z
        exact hb0 e.symm
def rnd (m : Int) (ts : List (Int × Int)) (a : Int) : List Int := (ts.map Prod.fst).filter fun p => decide (p = a) || decide (p = -a)
theorem peqs_nil_ints (ns : List Int) : peqs (ns.map Dt.int) [] = ns.isEmpty := by
  cases ns with
  | nil => rfl
  | cons a t => rfl
def ins {α : Type} (xs : List α) (i : Nat) (y : α) : List α := xs.take i ++ y :: xs.drop i
theorem ins_map (xs : List Int) (i : Nat) (y : Int) : (xs.map V.int).take i ++ V.int y :: (xs.map V.int).drop i = (ins xs i y).map V.int := by
  unfold ins
  rw [List.map_append, List.map_cons, List.map_take, List.map_drop]
theorem mem_ins {α : Type} {xs : List α} {i : Nat} {y z : α} : z ∈ ins xs i y ↔ z = y ∨ z ∈ xs := by
  unfold ins
  rw [List.mem_append, List.mem_cons]
  constructor
  · rintro (h | h | h)
    · exact .inr (List.mem_of_mem_take h)
    · exact .inl h
    · exact .inr (List.mem_of_mem_drop h)
  · rintro (h | h)
    · exact .inr (.inl h)
    · rw [← List.take_append_drop i xs] at h
      rcases List.mem_append.mp h with h | h
      · exact .inl h
      · exact .inr (.inr h)
theorem len_ins {α : Type} (xs : List α) (i : Nat) (y : α) : (ins xs i y).length = xs.length + 1 := by
  unfold ins
  rw [List.length_append, List.length_cons, List.length_take, List.length_drop]
  omega
def U40 : List Int := (List.range 121).map fun i : Nat => (i : Int) - 60
theorem mem_U40 {p : Int} (h : -60 ≤ p ∧ p ≤ 60) : p ∈ U40 := List.mem_map.mpr ⟨(p + 60).toNat, List.mem_range.mpr (by omega), by omega⟩
theorem cut_ints (ns : List Int) (lo hi : Option Int) : ∃ ms : List Int, cutV (ns.map V.int) lo hi = ms.map V.int ∧ ms.length ≤ ns.length := by
  unfold cutV
  refine ⟨_, by rw [← List.map_drop, ← List.map_take], ?_⟩
  rw [List.length_take, List.length_drop]
  omega
theorem HasL.ins {K : PySem.W.Frag} {H : Hp} {d : Dt} {v : V} (h : Has K H d v) : ∀ (i : Nat) {ds : List Dt} {vs : List V}, HasL K H ds vs → HasL K H (L2.ins ds i d) (L2.ins vs i v)
  | 0, _, _, hl => .cons h hl
  | i + 1, [], vs, hl => by
    have e : vs = [] := by have := hl.length; cases vs with | nil => rfl | cons a t => cases this
    subst e
    exact .cons h .nil
  | i + 1, d' :: ds, vs, hl => by
    cases vs with
    | nil => have := hl.length; cases this
    | cons v' vs =>
      simp only [HasL] at hl
      obtain ⟨u, us, q, h1, h2⟩ := hl
      cases q
      exact .cons h1 (HasL.ins h i h2)
def RowK (r : List Int) : Prop := r.length ≤ 20 ∧ ((∀ p ∈ r, -40 ≤ p ∧ p ≤ 40) ∨ r = [50, 51])
theorem RowK.in60 {r : List Int} (h : RowK r) : ∀ p ∈ r, -60 ≤ p ∧ p ≤ 60 := fun p hp => by
  rcases h.2 with q | q
  · have := q p hp
    omega
  · rw [q] at hp
    simp only [List.mem_cons, List.not_mem_nil, or_false] at hp
    omega
theorem flat_one {α : Type} (k : Nat) (v : α) : (List.replicate k [v]).flatten = List.replicate k v := by
  induction k with
  | zero => rfl
  | succ k ih => rw [List.replicate_succ, List.flatten_cons, ih, List.replicate_succ]; rfl
theorem HasL.rep {K : PySem.W.Frag} {H : Hp} {d : Dt} {v : V} (h : Has K H d v) : ∀ k, HasL K H (List.replicate k d) (List.replicate k v)
  | 0 => .nil
  | k + 1 => .cons h (HasL.rep h k)
/-- all stand but what is at d -/
def SameX (d : Addr) (H H' : Hp) : Prop := ∀ b o, b ≠ d → H b = some o → H' b = some o
theorem SameX.refl (d : Addr) (H : Hp) : SameX d H H := fun _ _ _ h => h
theorem SameX.trans {d : Addr} {H H1 H2 : Hp} (a : SameX d H H1) (b : SameX d H1 H2) : SameX d H H2 := fun c o n h => b c o n (a c o n h)
theorem Same.x {H H' : Hp} (s : Same H H') (d : Addr) : SameX d H H' := fun b o _ h => s b o h
theorem SameX.put {d : Addr} (H : Hp) (o : HO) : SameX d H (upd H d o) := fun b u n h => by rw [upd_ne n]; exact h
theorem SameX.kt {d : Addr} {H H' : Hp} {kvs : List (Key × V)} (s : SameX d H H') (h : H d = some (.dK kvs)) : KeepT H H' := fun b us z => by
  have nb : b ≠ d := fun e => by
    rw [e] at z
    rcases z with z | ⟨o, z⟩
    · rw [h] at z; cases z
    · rw [h] at z; cases z
  rcases z with z | ⟨o, z⟩
  · exact .inl (s _ _ nb z)
  · exact .inr ⟨o, s _ _ nb z⟩
theorem SameX.ktD {d : Addr} {H H' : Hp} {hs : List Int} (s : SameX d H H') (h : Dset H d hs) : KeepT H H' := by
  obtain ⟨kvs, hk, _⟩ := h.ex
  exact s.kt hk
theorem Dset.ne {H : Hp} {d l : Addr} {hs : List Int} {xs : List V} (h : Dset H d hs) (hl : H l = some (.lst xs)) : l ≠ d := fun e => by
  obtain ⟨kvs, hk, _⟩ := h.ex
  rw [e, hk] at hl
  cases hl
theorem SameX.lst {d l : Addr} {H H' : Hp} {hs : List Int} {xs : List V} (s : SameX d H H') (h : Dset H d hs) (hl : H l = some (.lst xs)) : H' l = some (.lst xs) := s _ _ (h.ne hl) hl
def anyHeld (row hs : List Int) : Bool := row.any fun p => decide (p ∈ hs)
def Forc (Rs : List (List Int)) : List Int → List (Int × Int) → Prop
  | _, [] => True
  | hs, (a, y) :: es => (∃ k r, y = (k : Nat) ∧ Rs[k]? = some r ∧ (r.any fun p => decide (p ∈ hs)) = false ∧ opn r hs = [a] ∧ NoneAhead Rs hs k) ∧ Forc Rs (hs ++ [a]) es
def FinO (Rs : List (List Int)) (hs : List Int) : Option Nat → Prop
  | none => NoneAhead Rs hs Rs.length
  | some k => ∃ r, Rs[k]? = some r ∧ (r.any fun p => decide (p ∈ hs)) = false ∧ opn r hs = [] ∧ NoneAhead Rs hs k
theorem due_any {r hs : List Int} (h : isDue r hs = true) : (r.any fun p => decide (p ∈ hs)) = false ∧ (opn r hs).length ≤ 1 := by
  unfold isDue at h
  rw [Bool.and_eq_true] at h
  refine ⟨?_, of_decide_eq_true h.2⟩
  have := h.1
  cases e : r.any fun p => decide (p ∈ hs) with
  | true => rw [e] at this; cases this
  | false => rfl
theorem grown_forc {Rs : List (List Int)} {lg lg' : List (Int × Int)} {hs : List Int} {o : Option Nat} (g : Grown Rs lg hs lg' o) : ∃ es, lg' = lg ++ es ∧ Forc Rs hs es ∧ FinO Rs (hs ++ es.map Prod.fst) o := by
  induction g with
  | stop na => exact ⟨[], by simp, True.intro, by rw [List.map_nil, List.append_nil]; exact na⟩
  | fail hr d na op => exact ⟨[], by simp, True.intro, _, hr, by simpa using (due_any d).1, by simpa using op, by simpa using na⟩
  | @step lg lg' hs r t k a o hr d na op g ih =>
    obtain ⟨es, e1, e2, e3⟩ := ih
    have h1 := due_any d
    have et : t = [] := by
      have := h1.2
      rw [op] at this
      cases t with
      | nil => rfl
      | cons x y => simp at this
    subst et
    refine ⟨(a, (k : Int)) :: es, by rw [e1, List.append_assoc]; rfl, ⟨⟨k, r, rfl, hr, h1.1, op, na⟩, e2⟩, ?_⟩
    rw [List.append_assoc] at e3
    exact e3
theorem Forc.drop {Rs : List (List Int)} : ∀ {es : List (Int × Int)} {hs : List Int} {i : Nat} {t : Int × Int}, Forc Rs hs es → es[i]? = some t → (∃ k r, t.2 = (k : Nat) ∧ Rs[k]? = some r ∧ (r.any fun p => decide (p ∈ hs ++ (es.take i).map Prod.fst)) = false ∧ opn r (hs ++ (es.take i).map Prod.fst) = [t.1] ∧ NoneAhead Rs (hs ++ (es.take i).map Prod.fst) k)
  | (a, y) :: es, hs, 0, t, h, e => by
    cases e
    simpa using h.1
  | (a, y) :: es, hs, i + 1, t, h, e => by
    have := Forc.drop h.2 (i := i) (t := t) e
    simpa [List.append_assoc] using this
end L2

/-! OWN: growing again gives the same. Behind Gr. -/
namespace L2
open PySem
def In40 (hs : List Int) : Prop := ∀ x ∈ hs, -40 ≤ x ∧ x ≤ 40
end L2

/-! OWN: sep.join(list of texts); texts of numbers; reversed(list) in a for. Behind Ext7. -/
namespace L2
open PySem PySem.Spec PyProof.Rows
def lenS (xs : List Str) : Nat := (xs.map Str.length).sum
section
variable {X : Cx}
def rJoin (K : PySem.W.Frag) : V → List V → Hp → VK → Prop := fun x vs H Q => ∃ sep p xs, x = .str sep ∧ vs = [.ref p] ∧ SqL K H p (xs.map V.str) ∧ lenS xs + xs.length * sep.length ≤ sizeLine ∧ Q (.str (Builtin.Str.glued sep xs)) H
end
end L2

/-! OWN: reversed(list) and zip(list, list) in a for; a walk of a dict's keys (the dict is frozen while it is walked); dict.update(dict). Behind Ext8. -/
namespace L2
open PySem PySem.Spec PyProof.Rows
/-! ### reversed(list) -/
def Itv (K : PySem.W.Frag) (a : Addr) (n : Nat) : It :=
  ⟨fun i H => i < n ∧ ∃ xs, SqL K H a xs ∧ xs.length = n, fun i H x H' => H' = H ∧ ∀ xs, SqL K H a xs → xs[n - 1 - i]? = some x, fun i H => n ≤ i⟩
theorem wk_rev {K : PySem.W.Frag} {a : Addr} {xs : List V} : Wk (Itv K a xs.length) xs.length (fun H => SqL K H a xs) := ⟨fun _ _ _ hi => hi, fun _ _ h hi => ⟨hi, xs, h, rfl⟩⟩
theorem turn_rev {P : Program} {w : World} {K : PySem.W.Frag} {tg : Expr} (a it : Addr) (n : Nat) : Turn P w K tg (Itv K a n) [it] it (fun i h => i ≤ n ∧ h.IsRevIter it a ((n : Int) - 1 - (i : Int))) where
  mem := by simp
  obj := fun i h st b hb => by
    have e : b = it := by simpa using hb
    subst e
    obtain ⟨_, o, e, c, d⟩ := st
    exact ⟨o, e, fun v z => by rw [d] at z; cases z⟩
  keep := fun i h h' st k => ⟨st.1, st.2.at fun o e => k it (by simp) o e⟩
  item := by
    intro X hP hw hK hc i pins s σ H E I hf st hg
    subst hP hw hK
    obtain ⟨hi, xs, hq, hl⟩ := hg
    obtain ⟨its, rv, p, hz⟩ := I.list hq
    have hlt : n - 1 - i < xs.length := by omega
    obtain ⟨u, hu, ru⟩ := rv.get (List.getElem?_eq_getElem hlt)
    obtain ⟨f0, f1, f2, f3, f4, f5⟩ := hf it (by simp)
    have e : (n : Int) - 1 - (i : Int) = ((n - 1 - i : Nat) : Int) := by omega
    have hit := st.2
    rw [e] at hit
    refine wpAny_pyNext_rev_item hit p.isList (x := u) (by simpa using hu) fun h' st' sb => ?_
    have I1 : Inv X pins σ H { s with heap := h' } := I.turned (t' := s.toks) (fun b o hb e => (sb.2 b hb).trans e) f0 f1 f3 f4 f5
    obtain ⟨o, e1, c, d⟩ := id st'
    refine ⟨u, rfl, go_of (s := { s with heap := h' }) e1 c d (by decide) ⟨xs[n - 1 - i], H, I1, ru, ⟨rfl, fun ys hy => by rw [I.list_inj hy hq]; exact List.getElem?_eq_getElem hlt⟩, ⟨by omega, ?_⟩, fun b hb => (hf b hb).1⟩⟩
    have e2 : (n : Int) - 1 - ((i + 1 : Nat) : Int) = ((n - 1 - i : Nat) : Int) - 1 := by omega
    rw [e2]
    exact st'
  done := by
    intro X hP hw hK hc i pins s σ H E I hf st hg
    subst hP hw hK
    obtain ⟨f0, f1, f2, f3, f4, f5⟩ := hf it (by simp)
    have hi : i = n := Nat.le_antisymm st.1 hg
    have hit := st.2
    have e : (n : Int) - 1 - (i : Int) = -1 := by omega
    rw [e] at hit
    exact wpAny_pyNext_rev_end (I.ok.hd hc) hit fun h' eb => ⟨rfl, I.turned (t' := s.toks) (fun b o hb e => eb b o hb e) f0 f1 f3 f4 f5⟩
  self := fun _ _ _ _ _ st h => wpAny_pyIter_revIter st.2 h
/-! ### zip(list, list) -/
def Itz (K : PySem.W.Frag) (a b : Addr) : It :=
  ⟨fun i H => ∃ xs ys x y, SqL K H a xs ∧ SqL K H b ys ∧ xs[i]? = some x ∧ ys[i]? = some y, fun i H x H' => ∃ p y z, x = .ref p ∧ H p = none ∧ H' = upd H p (.tup [y, z]) ∧ (∀ xs, SqL K H a xs → xs[i]? = some y) ∧ ∀ ys, SqL K H b ys → ys[i]? = some z,
    fun i H => ∃ xs ys, SqL K H a xs ∧ SqL K H b ys ∧ (xs.length ≤ i ∨ ys.length ≤ i)⟩
theorem wk_zip {K : PySem.W.Frag} {a b : Addr} {xs ys : List V} (h : xs.length = ys.length) : Wk (Itz K a b) xs.length (fun H => SqL K H a xs ∧ SqL K H b ys) :=
  ⟨fun _ _ q hi => ⟨xs, ys, q.1, q.2, .inl hi⟩, fun i _ q hi => ⟨xs, ys, xs[i], ys[i]'(by omega), q.1, q.2, by simp [hi], by simp⟩⟩
theorem turn_zip {P : Program} {w : World} {K : PySem.W.Frag} {elts : List Expr} {x1 : Nat} {pos : Pos} (a b z TI TO i1 i2 : Addr) (D : ZipApart z TI TO i1 i2 a b) : Turn P w K (.Tuple elts x1 pos) (Itz K a b) [z, TI, TO, i1, i2] z
    (fun i h => IsZip h z TI TO .none ∧ IsPair h TI (.ref i1) (.ref i2) ∧ (∃ u v, IsPair h TO u v) ∧ h.IsListIter i1 a i ∧ h.IsListIter i2 b i) where
  mem := by simp
  obj := fun i h st c hc => by
    obtain ⟨h1, h2, ⟨u, v, h3⟩, ⟨o4, h4, c4, d4⟩, ⟨o5, h5, c5, d5⟩⟩ := st
    simp only [List.mem_cons, List.not_mem_nil, or_false] at hc
    rcases hc with rfl | rfl | rfl | rfl | rfl
    · exact ⟨_, h1, fun v q => by have q' : Data.fields _ = Data.cell v := q; cases q'⟩
    · exact ⟨_, h2, fun v q => by have q' : Data.seq _ _ = Data.cell v := q; cases q'⟩
    · exact ⟨_, h3, fun v q => by have q' : Data.seq _ _ = Data.cell v := q; cases q'⟩
    · exact ⟨o4, h4, fun v q => by rw [d4] at q; cases q⟩
    · exact ⟨o5, h5, fun v q => by rw [d5] at q; cases q⟩
  keep := fun i h h' st k => by
    obtain ⟨h1, h2, ⟨u, v, h3⟩, h4, h5⟩ := st
    exact ⟨k z (by simp) _ h1, k TI (by simp) _ h2, ⟨u, v, k TO (by simp) _ h3⟩, h4.at fun o q => k i1 (by simp) o q, h5.at fun o q => k i2 (by simp) o q⟩
  item := by
    intro X hP hw hK hc i pins s σ H E I hf st hg
    subst hP hw hK
    obtain ⟨xs, ys, x, y, hq, hq2, hx, hy⟩ := hg
    obtain ⟨its, rv, p, hz⟩ := I.list hq
    obtain ⟨its2, rv2, p2, hz2⟩ := I.list hq2
    obtain ⟨u, hu, ru⟩ := rv.get hx
    obtain ⟨v, hv, rw'⟩ := rv2.get hy
    obtain ⟨h1, h2, ⟨u0, v0, h3⟩, h4, h5⟩ := st
    have lz : z < s.heap.objs.size := Heap.lt_size h1
    have lTI : TI < s.heap.objs.size := Heap.lt_size h2
    have lTO : TO < s.heap.objs.size := Heap.lt_size h3
    have l1 : i1 < s.heap.objs.size := by obtain ⟨o, e, _⟩ := id h4; exact Heap.lt_size e
    have l2 : i2 < s.heap.objs.size := by obtain ⟨o, e, _⟩ := id h5; exact Heap.lt_size e
    refine wpAny_pyNext_zip_item D h1 h2 h3 h4 h5 p.isList p2.isList (x := u) (y := v) (by simpa using hu) (by simpa using hv) fun h' g1 g3 g4 g5 gT gz gk => ?_
    refine ⟨_, rfl, wpAny_letOwnedTupleGo_zip g1 fun h6 g6 hs => ?_⟩
    replace hs : Heap.SameBut z h' h6 := hs
    have hT : h6.get? s.heap.objs.size = some { cls := .type "tuple", data := .seq #[u, v] } := (hs.2 _ (Nat.ne_of_gt lz)).trans gT
    have kk : ∀ c o, c ∉ [z, TI, TO, i1, i2] → s.heap.get? c = some o → h6.get? c = some o := fun c o hc q => by
      have n1 : c ≠ z := fun e => hc (by simp [e])
      have n3 : c ≠ TO := fun e => hc (by simp [e])
      have n4 : c ≠ i1 := fun e => hc (by simp [e])
      have n5 : c ≠ i2 := fun e => hc (by simp [e])
      exact (hs.2 c n1).trans (gk c o n1 n3 n4 n5 q)
    have new : ObjOk X.prog X.w (upd H s.heap.objs.size (.tup [x, y])) h6 s.heap.objs.size (.tup [x, y]) :=
      ⟨Nat.le_of_lt (small1000 (show 2 ≤ 1000 by decide)), [u, v], .cons ru (.cons rw' .nil), _, hT, rfl, _, rfl⟩
    have gTI : h6.get? TI = some _ := (hs.2 TI D.TIz).trans (gk TI _ D.TIz D.TITO D.TIi1 D.TIi2 h2)
    refine ⟨.ref s.heap.objs.size, _, I.turnedLaid (t' := s.toks) hf kk (Nat.le_refl _) new, rfl, ⟨_, x, y, rfl, I.fresh, rfl, fun zs hzs => by rw [I.list_inj hzs hq]; exact hx, fun zs hzs => by rw [I.list_inj hzs hq2]; exact hy⟩, ⟨g6, gTI, ⟨_, _, (hs.2 TO D.TOz).trans g3⟩, g4.at fun o q => (hs.2 i1 D.i1z).trans q, g5.at fun o q => (hs.2 i2 D.i2z).trans q⟩, fun c hc => ?_⟩
    have lc : c < s.heap.objs.size := by
      have hc' := hc
      simp only [List.mem_cons, List.not_mem_nil, or_false] at hc'
      rcases hc' with rfl | rfl | rfl | rfl | rfl <;> assumption
    rw [upd_ne (Nat.ne_of_lt lc)]
    exact (hf c hc).1
  done := by
    intro X hP hw hK hc i pins s σ H E I hf st hg
    subst hP hw hK
    obtain ⟨xs, ys, hq, hq2, hx⟩ := hg
    obtain ⟨its, rv, p, hz⟩ := I.list hq
    obtain ⟨its2, rv2, p2, hz2⟩ := I.list hq2
    obtain ⟨h1, h2, ⟨u0, v0, h3⟩, h4, h5⟩ := st
    have hl := rv.length
    have hl2 := rv2.length
    refine wpAny_pyNext_zip_end (I.ok.hd hc) D h1 h2 h3 h4 h5 p.isList p2.isList (hx.elim (fun q => .inl (by simp; omega)) fun q => .inr (by simp; omega)) fun h' gk => ⟨rfl, ?_⟩
    have un : Un (frs X.stack) [z, TI, TO, i1, i2] H H s.heap h' := ⟨fun c o q _ _ hc => gk c o (fun e => hc (by simp [e])) (fun e => hc (by simp [e])) (fun e => hc (by simp [e])) (fun e => hc (by simp [e])) q,
      fun c o q _ _ hc => ⟨o.slots, gk c o (fun e => hc (by simp [e])) (fun e => hc (by simp [e])) (fun e => hc (by simp [e])) (fun e => hc (by simp [e])) q⟩, fun _ _ _ n _ => n,
      fun c o q hc => ⟨o, gk c o (fun e => hc (by simp [e])) (fun e => hc (by simp [e])) (fun e => hc (by simp [e])) (fun e => hc (by simp [e])) q⟩, fun _ _ q => q, fun _ _ _ q => q, fun _ ps q => ⟨#[], by rw [q]; simp⟩⟩
    have nfp : ∀ c u, H c = some u → c ∉ [z, TI, TO, i1, i2] := fun c u e q => by rw [(hf c q).1] at e; cases e
    have hok : HOk X.prog X.w H h' := fun c u e => by
      refine (I.hok c u e).stay (fun d v hd q => ?_) (fun _ q => q) fun _ _ q => q
      have nd : d ∉ [z, TI, TO, i1, i2] := by
        rcases hd with r | r
        · rw [r]; exact nfp c u e
        · exact nfp d _ r
      exact gk d v (fun e => nd (by simp [e])) (fun e => nd (by simp [e])) (fun e => nd (by simp [e])) (fun e => nd (by simp [e])) q
    exact I.call (g' := s.gens) (d' := s.drawn) (t' := s.toks) (ch := [z, TI, TO, i1, i2]) un hok I.bare fun c hc => ⟨(hf c hc).2.2.2.1, (hf c hc).2.1, (hf c hc).2.2.2.2.1, (hf c hc).2.2.2.2.2⟩
  self := fun _ _ _ _ _ st h => wpAny_pyIter_zip st.1 h
/-! ### a dict, frozen while it is walked -/
theorem Inv.freeze {X : Cx} {pins : List (Addr × Obj)} {σ : St} {H : Hp} {s : Shared} {d : Addr} {o : Obj} {kvs : List (Key × V)} (I : Inv X pins σ H s) (h : H d = some (.dK kvs)) (ho : s.heap.get? d = some o) : Inv X pins σ (upd H d (.frz o (.dK kvs))) s := by
  have nd : ∀ b u, H b = some u → u ≠ .dK kvs → b ≠ d := fun b u e n z => by rw [z, h] at e; cases e; exact n rfl
  have u : Un X.fs [] H (upd H d (.frz o (.dK kvs))) s.heap s.heap := ⟨fun b ob q _ _ _ => q, fun b ob q _ _ _ => ⟨ob.slots, q⟩, fun b ob q n _ => by rw [upd_ne (fun z => by rw [z, h] at n; cases n)]; exact n, fun b ob q _ => ⟨ob, q⟩,
    fun b xs q => by rw [upd_ne (nd b _ q (by intro z; cases z))]; exact q, fun b ob xs q => by rw [upd_ne (nd b _ q (by intro z; cases z))]; exact q, fun b ps q => ⟨#[], by rw [upd_ne (nd b _ q (by intro z; cases z)), q]; simp⟩⟩
  have hok : HOk X.prog X.w (upd H d (.frz o (.dK kvs))) s.heap := fun b ub e => by
    by_cases hb : b = d
    · subst hb
      rw [upd_same] at e
      cases e
      exact ⟨ho, I.hok b _ h⟩
    · rw [upd_ne hb] at e
      exact (I.hok b ub e).stay (fun c w' _ q => q) (fun c q => by rw [upd_ne (nd c _ q (by intro z; cases z))]; exact q) fun c xs q => by rw [upd_ne (nd c _ q (by intro z; cases z))]; exact q
  exact I.un (t' := s.toks) (h' := s.heap) u hok
theorem Inv.thaw {X : Cx} {pins : List (Addr × Obj)} {σ : St} {H : Hp} {s : Shared} {d : Addr} {o : Obj} {kvs : List (Key × V)} (I : Inv X pins σ H s) (h : H d = some (.frz o (.dK kvs))) (h0 : ∀ o u, X.H₀ d ≠ some (.frz o u)) : Inv X pins σ (upd H d (.dK kvs)) s := by
  have nd : ∀ b u, H b = some u → u ≠ .frz o (.dK kvs) → b ≠ d := fun b u e n z => by rw [z, h] at e; cases e; exact n rfl
  have nn : ∀ b, H b = none → b ≠ d := fun b e z => by rw [z, h] at e; cases e
  refine ⟨I.ok, I.os, I.bare, ⟨I.base.keep, I.base.slot, fun b ob q n hx => by rw [upd_ne (nn b (I.base.free b ob q n hx))]; exact I.base.free b ob q n hx, I.base.there, fun b xs q => by rw [upd_ne (nd b _ (I.base.tups b xs q) (by intro z; cases z))]; exact I.base.tups b xs q, fun b ob u q => ?_, fun b ps q => ?_⟩, I.loc, I.cell, by rw [upd_ne (nn _ I.free)]; exact I.free, fun x c e => by rw [upd_ne (nn _ (I.freeC x c e))]; exact I.freeC x c e, fun p hp => ?_, fun b ub e => ?_, I.len⟩
  · have nb : b ≠ d := fun z => h0 ob u (by rw [← z]; exact q)
    rw [upd_ne nb]
    exact I.base.frzs b ob u q
  · obtain ⟨m, e⟩ := I.base.tbls b ps q
    exact ⟨m, by rw [upd_ne (nd b _ e (by intro z; cases z))]; exact e⟩
  · obtain ⟨a1, a2, a3⟩ := I.pin p hp
    exact ⟨a1, by rw [upd_ne (nn _ a2)]; exact a2, a3⟩
  · by_cases hb : b = d
    · subst hb
      rw [upd_same] at e
      cases e
      have q := I.hok b _ h
      exact q.2.stay (fun c w' _ q => q) (fun c q => by rw [upd_ne (nd c _ q (by intro z; cases z))]; exact q) fun c xs q => by rw [upd_ne (nd c _ q (by intro z; cases z))]; exact q
    · rw [upd_ne hb] at e
      exact (I.hok b ub e).stay (fun c w' _ q => q) (fun c q => by rw [upd_ne (nd c _ q (by intro z; cases z))]; exact q) fun c xs q => by rw [upd_ne (nd c _ q (by intro z; cases z))]; exact q
def Itd (d : Addr) (o : Obj) (kvs : List (Key × V)) : It :=
  ⟨fun i H => i < kvs.length ∧ H d = some (.frz o (.dK kvs)), fun i H x H' => H' = H ∧ ∃ k v, kvs[i]? = some (k, v) ∧ x = kV k, fun i H => kvs.length ≤ i ∧ H d = some (.frz o (.dK kvs))⟩
theorem wk_dict {d : Addr} {o : Obj} {kvs : List (Key × V)} : Wk (Itd d o kvs) kvs.length (fun H => H d = some (.frz o (.dK kvs))) := ⟨fun _ _ h hi => ⟨hi, h⟩, fun _ _ h hi => ⟨hi, h⟩⟩
theorem key_rel {k : Key} {u : Value} (h : keyIs k u = true) : RelV (kV k) u := by
  rcases keyIs_shape h with ⟨i, t, rfl, rfl⟩ | ⟨x, t, rfl, rfl⟩
  · exact ⟨t, rfl⟩
  · exact ⟨t, rfl⟩
theorem turn_dict {P : Program} {w : World} {K : PySem.W.Frag} {tg : Expr} (d it : Addr) (o : Obj) (kvs : List (Key × V)) (ep : Nat) (hep : ∃ es, o.data = .dict es ep) : Turn P w K tg (Itd d o kvs) [it] it (fun i h => h.IsKeyIter it d i kvs.length ep) where
  mem := by simp
  obj := fun i h st b hb => by
    have e : b = it := by simpa using hb
    subst e
    obtain ⟨ob, e, c, dd⟩ := st
    exact ⟨ob, e, fun v z => by rw [dd] at z; cases z⟩
  keep := fun i h h' st k => st.at fun ob e => k it (by simp) ob e
  item := by
    intro X hP hw hK hc i pins s σ H E I hf st hg
    subst hP hw hK
    obtain ⟨hi, hq⟩ := hg
    obtain ⟨ho, zl, hsys, vs, rel, dd⟩ := (show ObjOk X.prog X.w H s.heap d (.frz o (.dK kvs)) from I.hok d _ hq)
    obtain ⟨ep', da⟩ := dd.dictAt
    obtain ⟨ob, es, e1, e2, e3, e4⟩ := id da
    obtain ⟨es0, he0⟩ := hep
    have eo : ob = o := Option.some.inj (e1.symm.trans ho)
    subst eo
    have eep : ep' = ep := by
      rw [he0] at e3
      cases e3
      rfl
    subst eep
    have hlen := rel.length
    obtain ⟨f0, f1, f2, f3, f4, f5⟩ := hf it (by simp)
    have hk := rel.keys
    have hv : vs[i]? = some vs[i] := List.getElem?_eq_getElem (by omega)
    have hkv : kvs[i]? = some kvs[i] := List.getElem?_eq_getElem hi
    have ek : kvs[i].1 = (vs[i]'(by omega)).1 := by
      have h1 : (kvs.map (·.1))[i]? = some kvs[i].1 := by rw [List.getElem?_map, hkv]; rfl
      have h2 : (vs.map (·.1))[i]? = some (vs[i]'(by omega)).1 := by rw [List.getElem?_map, hv]; rfl
      rw [hk, h2] at h1
      exact (Option.some.inj h1).symm
    rw [hlen] at st
    refine wpAny_pyNext_dict_item st da (k := (vs[i]'(by omega)).1) (v := (vs[i]'(by omega)).2) hv fun key h' hkey st' sb => ?_
    have I1 : Inv X pins σ H { s with heap := h' } := I.turned (t' := s.toks) (fun b ob hb e => (sb.2 b hb).trans e) f0 f1 f3 f4 f5
    obtain ⟨oi, q1, q2, q3⟩ := id st'
    refine ⟨key, rfl, go_of (s := { s with heap := h' }) q1 q2 q3 (by decide) ⟨kV kvs[i].1, H, I1, ?_, ⟨rfl, kvs[i].1, kvs[i].2, hkv, rfl⟩, by rw [hlen]; exact st', fun b hb => (hf b hb).1⟩⟩
    rw [ek]
    exact key_rel hkey
  done := by
    intro X hP hw hK hc i pins s σ H E I hf st hg
    subst hP hw hK
    obtain ⟨hi, hq⟩ := hg
    obtain ⟨ho, zl, hsys, vs, rel, dd⟩ := (show ObjOk X.prog X.w H s.heap d (.frz o (.dK kvs)) from I.hok d _ hq)
    obtain ⟨ep', da⟩ := dd.dictAt
    obtain ⟨ob, es, e1, e2, e3, e4⟩ := id da
    obtain ⟨es0, he0⟩ := hep
    have eo : ob = o := Option.some.inj (e1.symm.trans ho)
    subst eo
    have eep : ep' = ep := by
      rw [he0] at e3
      cases e3
      rfl
    subst eep
    have hlen := rel.length
    rw [hlen] at st
    obtain ⟨f0, f1, f2, f3, f4, f5⟩ := hf it (by simp)
    exact wpAny_pyNext_dict_end (I.ok.hd hc) st da (List.getElem?_eq_none (by omega)) fun h' eb => ⟨rfl, I.turned (t' := s.toks) (fun b ob hb e => eb b ob hb e) f0 f1 f3 f4 f5⟩
  self := fun _ _ _ _ _ st h => wpAny_pyIter_keyiter st h
section
variable {X : Cx} {tg : Expr}
def iRev (K : PySem.W.Frag) (ta : TA) : TI := fun σ H R => ta σ H fun vs H1 => ∃ a xs, vs = [.ref a] ∧ SqL K H1 a xs ∧ R (Itv K a xs.length) H1
theorem pi_rev {a : Expr} {ta : TA} {p pos : Pos} (hg : Gl X "reversed") (hm : X.mg "reversed" = none) (ha : PA X [a] ta) (hs : starEach [a] X.env = [(false, eval a X.env)] := by rfl) : PI X tg (.Call (.Name "reversed" p) [a] [] pos) (iRev X.K ta) := by
  intro pins s σ H R I h
  refine Call_ (ld_blt I hg hm boot_reversed (PyProof.Rows.callWith_type1 (thn (ha pos pins s σ H _ I h) fun us s1 ⟨vs, H1, I1, r1, q1⟩ => ?_) hs rfl))
  obtain ⟨a, xs, e, hq, q⟩ := q1
  subst e
  obtain ⟨u, rfl, ru⟩ := r1.one
  cases ru
  obtain ⟨its, rv, pl, hz⟩ := I1.list hq
  have hl := rv.length
  refine call_reversed_list pl.isList ?_
  have hit : Heap.IsRevIter (s1.heap.push (revObj a ((its.toArray.size : Int) - 1))) s1.heap.objs.size a ((its.toArray.size : Int) - 1) := ⟨_, Heap.get?_push_size _ rfl, rfl, rfl⟩
  refine wpAny_pyIter_revIter hit ?_
  have I2 : Inv X pins σ H1 { s1 with heap := s1.heap.push (revObj a ((its.toArray.size : Int) - 1)) } := I1.kept (t' := s1.toks) fun b o e => Heap.get?_push_of_some _ e
  refine ⟨_, [s1.heap.objs.size], _, Itv X.K a xs.length, H1, rfl, I2, turn_rev a s1.heap.objs.size xs.length, ⟨Nat.zero_le _, ?_⟩, fun b hb => ?_, q⟩
  · have e : ((xs.length : Nat) : Int) - 1 - ((0 : Nat) : Int) = (its.toArray.size : Int) - 1 := by simp; omega
    rw [e]
    exact hit
  · rw [List.mem_singleton.mp hb]
    exact I1.fpOk (Nat.le_refl _) I1.fresh
def iZip (K : PySem.W.Frag) (ta : TA) : TI := fun σ H R => ta σ H fun vs H1 => ∃ a b, vs = [.ref a, .ref b] ∧ (∃ xs, SqL K H1 a xs) ∧ (∃ ys, SqL K H1 b ys) ∧ R (Itz K a b) H1
theorem pi_zip {elts : List Expr} {x1 : Nat} {pt : Pos} {a b : Expr} {ta : TA} {p pos : Pos} (hg : Gl X "zip") (hm : X.mg "zip" = none) (ha : PA X [a, b] ta) (hs : starEach [a, b] X.env = [(false, eval a X.env), (false, eval b X.env)] := by rfl) (hs2 : starEach [b] X.env = [(false, eval b X.env)] := by rfl) : PI X (.Tuple elts x1 pt) (.Call (.Name "zip" p) [a, b] [] pos) (iZip X.K ta) := by
  intro pins s σ H R I h
  refine Call_ (ld_blt I hg hm boot_zip (PyProof.Rows.callWith_type1 (thn (ha pos pins s σ H _ I h) fun us s1 ⟨vs, H1, I1, r1, q1⟩ => ?_) (by rw [hs, hs2]) (by rw [hs2]; rfl)))
  obtain ⟨a, b, e, ⟨xs, hq⟩, ⟨ys, hq2⟩, q⟩ := q1
  subst e
  obtain ⟨u, v, rfl, ru, rv'⟩ := r1.two
  cases ru
  cases rv'
  obtain ⟨its, rv, pl, hz⟩ := I1.list hq
  obtain ⟨its2, rv2, pl2, hz2⟩ := I1.list hq2
  have la : a < s1.heap.objs.size := by obtain ⟨o, e, _⟩ := pl.isList; exact Heap.lt_size e
  have lb : b < s1.heap.objs.size := by obtain ⟨o, e, _⟩ := pl2.isList; exact Heap.lt_size e
  refine call_zip_2 pl.isList pl2.isList fun h' h1 h2 h3 h4 h5 hz' kk => ?_
  refine wpAny_pyIter_zip h1 ?_
  have I2 : Inv X pins σ H1 { s1 with heap := h' } := I1.kept (t' := s1.toks) kk
  refine ⟨_, _, _, Itz X.K a b, H1, rfl, I2, turn_zip a b _ _ _ _ _ (zipApart_new la lb), ⟨h1, h2, ⟨_, _, h3⟩, h4, h5⟩, fun c hc => ?_, q⟩
  have hle : s1.heap.objs.size ≤ c := by
    simp only [List.mem_cons, List.not_mem_nil, or_false] at hc
    rcases hc with rfl | rfl | rfl | rfl | rfl
    · exact Nat.le_add_right _ _
    · exact Nat.le_add_right _ _
    · exact Nat.le_add_right _ _
    · exact Nat.le_refl _
    · exact Nat.le_add_right _ _
  exact I1.fpOk hle (I1.hok.fresh hle)
def iDict (tl : TE) : TI := fun σ H R => tl σ H fun x H1 => ∃ d kvs, x = .ref d ∧ H1 d = some (.dK kvs) ∧ ∀ o, R (Itd d o kvs) (upd H1 d (.frz o (.dK kvs)))
theorem pi_dict {l : Expr} {tl : TE} (hl : PE X l tl) : PI X tg l (iDict tl) := by
  intro pins s σ H R I h
  refine thn (hl pins s σ H _ I h) fun v s1 ⟨x, H1, I1, r1, q1⟩ => ?_
  obtain ⟨d, kvs, e, hd, q⟩ := q1
  subst e
  cases r1
  obtain ⟨zl, hsys, vs, rel, dd⟩ := dk_of I1.hok hd
  obtain ⟨ep, da⟩ := dd.dictAt
  obtain ⟨o, es, e1, e2, e3, e4⟩ := id da
  have hlen := rel.length
  have If := I1.freeze hd e1
  refine wpAny_pyIter_dict hsys da ?_
  have I2 : Inv X pins σ (upd H1 d (.frz o (.dK kvs))) { s1 with heap := s1.heap.push { cls := .type "dict_keyiterator", data := .fields #[.ref d, .int 0 0, .int vs.length 0, .int ep 0] } } := If.kept (t' := s1.toks) fun b ob e => Heap.get?_push_of_some _ e
  refine ⟨_, [s1.heap.objs.size], _, Itd d o kvs, _, rfl, I2, turn_dict d s1.heap.objs.size o kvs ep ⟨es, e3⟩, ?_, fun b hb => ?_, q o⟩
  · exact ⟨_, Heap.get?_push_size _ rfl, rfl, by rw [hlen]; rfl⟩
  · rw [List.mem_singleton.mp hb]
    exact If.fpOk (Nat.le_refl _) If.fresh
/-- what was walked may be written again -/
theorem pe_thaw {e : Expr} {te : TE} (h : PE X e te) : PE X e (fun σ H Q => te σ H fun x H1 => ∃ d o kvs, H1 d = some (.frz o (.dK kvs)) ∧ (∀ o u, X.H₀ d ≠ some (.frz o u)) ∧ Q x (upd H1 d (.dK kvs))) := by
  intro pins s σ H Q I hw
  refine thn (h pins s σ H _ I hw) fun v s1 ⟨x, H1, I1, r1, d, o, kvs, h1, h2, q⟩ => ?_
  exact ⟨x, _, I1.thaw h1 h2, r1, q⟩
def rUpdate : V → List V → Hp → VK → Prop := fun x vs H Q => ∃ d b kvs more, x = .ref d ∧ vs = [.ref b] ∧ d ≠ b ∧ H d = some (.dK kvs) ∧ H b = some (.dK more) ∧ kvs.length + more.length ≤ sizeLine ∧ Q .non (upd H d (.dK (mergeK kvs more)))
theorem mt_update : MtR X "dict.update" rUpdate := by
  intro pins s σ H x vs v us Q I rx rv h
  obtain ⟨d, b, kvs, more, rfl, rfl, hne, hd, hb, hz, q⟩ := h
  cases rx
  obtain ⟨u, rfl, ru⟩ := rv.one
  cases ru
  obtain ⟨z1, sy1, vs1, rel1, dd1⟩ := dk_of I.hok hd
  obtain ⟨z2, sy2, vs2, rel2, dd2⟩ := dk_of I.hok hb
  have l1 := rel1.length
  have l2 := rel2.length
  refine call_meetsIn PySem.F.slot_dict_update dd1.typeIs PySem.F.entry_dict_update (PySem.F.args_dict_update_2 _ _) (meets_dict_update (mixKind X.prog X.w) d b hne sy2) ⟨vs1, vs2, dd1, dd2, by omega, fun h' g1 g2 hs => ?_⟩
  have lm := length_mergeK more kvs
  have new := dk_new (H' := upd H d (.dK (mergeK kvs more))) (h' := h') (by omega) sy1 (rel2.merge rel1) g1
  have he : ∃ q, h'.get? d = some q := let ⟨q, _, _, hq, _⟩ := g1; ⟨q, hq⟩
  exact ⟨.non, _, d_write I (by rw [hd]; exact True.intro) hs he new, rfl, q⟩
end
end L2

/-! OWN: tuple(reversed(list)); max of a list with default. Behind Ext9. -/
namespace L2
open PySem PySem.Spec PyProof.Rows
set_option maxRecDepth 100000
theorem rv_nolen : typeLookup (.type "list_reverseiterator") "__len__" = pure none := by rw [typeLookup_type, builtinLookup_eq_fast]; kernel_rfl
theorem rv_hint : typeLookup (.type "list_reverseiterator") "__length_hint__" = pure (some (.builtin "list_reverseiterator.__length_hint__")) := by rw [typeLookup_type, builtinLookup_eq_fast]; kernel_rfl
section
variable {prog : Program} {w : World} {A : Around} {E : Value → Shared → Prop} {s : Shared} {J : Addr} {fp wr : List Addr} {G : Array GenState → Array GenState → Prop} {n : Nat} {P : Nat → Value → Prop} {St : Nat → Shared → Prop}
theorem collect_rev {Q : List Value → Shared → Prop} (W : WalksS prog w A.in1 J fp wr G n P St) (ty : ∀ i u, St i u → u.TypeIs (.ref J) "list_reverseiterator") (st0 : St 0 s) (low : ∀ b ∈ fp, b < s.heap.objs.size) (mem : J ∈ fp)
    (q : ∀ s' acc, Moved wr G s s' → ItemsOf P acc n → Q acc.toList s') (fits : n ≤ sizeLine) : wpAny (model prog w) A (collect (.ref J)) Q E s := by
  have out : s.heap.objs.size ∉ fp := fun z => Nat.lt_irrefl _ (low _ z)
  have apart : s.heap.objs.size ≠ J := fun e => out (by rw [e]; exact mem)
  unfold collect
  refine wpAny_bind (wpAny_runValue (codeAny_builtin PySem.F.entry_proto_collect ?_))
  rw [Around.under_plainId PySem.F.plain_proto_collect _]
  show wpAny _ A.in1 (newList [] >>= fun a => again (.builtin "list.__iadd__" ⟨[a, .ref J], []⟩)) _ _ s
  refine wpAny_bind (wpAny_newObj_type ?_)
  refine wpAny_pure ⟨plainId_quiet PySem.F.plain_list_iadd _, codeAny_builtin PySem.F.entry_list_iadd ?_⟩
  rw [Around.under_plainId PySem.F.plain_list_iadd _]
  have st1 := W.frame 0 s (s.heap.push { cls := .type "list", data := .seq ([] : List Value).toArray }) s.toks st0 (Nat.le_refl _) fun b _ o e => Heap.get?_push_of_some _ e
  have new1 : Heap.get? (s.heap.push { cls := .type "list", data := .seq ([] : List Value).toArray }) s.heap.objs.size = some { cls := .type "list", data := .seq ([] : List Value).toArray } := Heap.get?_push_size _ rfl
  have unlike : Builtin.List.listSameRef (.ref s.heap.objs.size) (.ref J) = false := by simp [Builtin.List.listSameRef, apart]
  show wpAny _ A.in1 (Builtin.List.listExtendWith (.ref s.heap.objs.size) (.ref J) (.ref s.heap.objs.size)) _ _ _
  unfold Builtin.List.listExtendWith
  refine wpAny_bind (wpAny_typeOf (ty 0 _ st1) ?_)
  rw [if_neg (by rw [unlike]; decide)]
  refine wpAny_bind (W.self 0 _ _ _ st1 (wpAny_bind (wpAny_holding ?_)))
  unfold Builtin.List.listLengthHint
  refine wpAny_bind (wpAny_specialOf (ty 0 _ st1) rv_nolen ?_)
  show wpAny _ A.in1 (specialOf (Value.ref J) (Str.ofString "__length_hint__") >>= _) _ _ _
  refine wpAny_bind (wpAny_specialOf (ty 0 _ st1) rv_hint ?_)
  generalize idh : ("list_reverseiterator.__length_hint__" : String) = idx
  wp_delta
  rw [show splitId idx = some ("list_reverseiterator", "__length_hint__") from by subst idh; decide +kernel]
  subst idh
  refine wpAny_bind (wpAny_isInstance (b := true) (ty 0 _ st1) (by rw [isSubtype_type]; kernel_rfl) (wpAny_pure ?_))
  rw [if_neg (by decide)]
  refine wpAny_pure ⟨plainId_quiet PySem.F.plain_extend_loop _, codeAny_extend_loopS W fits _ out _ n 0 _ _ _ rfl (Nat.zero_le _) st1 new1 (ItemsOf.nil P) fun s' acc c m newS its => ?_⟩
  show wpAny _ A (load s.heap.objs.size >>= _) _ _ s'
  refine wpAny_bind (wpAny_load newS (wpAny_pure (q s' acc (Moved.drop_new (o := { cls := .type "list", data := .seq ([] : List Value).toArray }) (tk := s.toks) m (Nat.le_refl _)) its)))
theorem code_tuple_rev {Q₁ : Value → Shared → Prop} (W : WalksS prog w A.in1.in1 J fp wr G n P St) (ty : ∀ i u, St i u → u.TypeIs (.ref J) "list_reverseiterator") (st0 : St 0 s) (low : ∀ b ∈ fp, b < s.heap.objs.size) (mem : J ∈ fp)
    (q : ∀ s' acc, Moved wr G s s' → ItemsOf P acc n → Q₁ (.ref s'.heap.objs.size) { s' with heap := s'.heap.push { cls := .type "tuple", data := .seq acc } }) (fits : n ≤ sizeLine) :
    codeAny (model prog w) A (.call (.builtin "tuple.__new__") ⟨[.type "tuple", .ref J], []⟩) (wants Q₁ E) s := by
  refine codeAny_of_tree ?_
  show wpAny _ A.in1 (do checkBuiltinCall "tuple.__new__" ⟨[.type "tuple", .ref J], []⟩; again (.builtin "tuple.__new__" ⟨[.type "tuple", .ref J], []⟩)) _ _ s
  refine wpAny_bind (wpAny_of_eq (PySem.F.newCall_tuple_1 _) (wpAny_pure ⟨plainId_quiet PySem.F.plain_tuple_new _, codeAny_builtin PySem.F.entry_tuple_new ?_⟩))
  rw [Around.under_plainId PySem.F.plain_tuple_new _]
  have a1 := sub_tuple_self
  have a2 := init_tuple_lookup
  have a3 := madeHere_tuple
  have a4 := ty 0 s st0
  wp_walk using wpAny_typeOf a4, collect_rev (fits := fits) W ty st0 low mem
  intro s' acc m its
  show wpAny _ _ (Builtin.Tuple.tupleExact acc.toList.toArray >>= fun u => ret u) _ _ _
  unfold Builtin.Tuple.tupleExact
  refine wpAny_bind (wpAny_newObj_type (wpAny_pure ?_) (by show acc.toList.toArray.size ≤ sizeLine; simp only [Array.toArray_toList]; rw [its.1]; exact fits))
  rw [show acc.toList.toArray = acc by simp]
  exact q s' acc m its
theorem call_tuple_rev {Q : Value → Shared → Prop} (W : WalksS prog w A.in1.in1.in1 J fp wr G n P St) (ty : ∀ i u, St i u → u.TypeIs (.ref J) "list_reverseiterator") (st0 : St 0 s) (low : ∀ b ∈ fp, b < s.heap.objs.size) (mem : J ∈ fp)
    (q : ∀ s' acc, Moved wr G s s' → ItemsOf P acc n → Q (.ref s'.heap.objs.size) { s' with heap := s'.heap.push { cls := .type "tuple", data := .seq acc } }) (fits : n ≤ sizeLine) : wpAny (model prog w) A (call (.type "tuple") [.ref J]) Q E s := by
  refine callType_codes (Q₁ := fun obj u => u.TypeIs obj "tuple" ∧ Q obj u) PySem.F.called_tuple (PySem.F.typeCall_tuple_1 _) PySem.F.entry_object_init
    (code_tuple_rev (fits := fits) W ty st0 low mem fun s' acc m its => ⟨⟨_, Heap.get?_push_size _ rfl, rfl⟩, q s' acc m its⟩) fun obj u z => ?_
  exact ⟨z.1, PySem.F.args_object_init_2 obj _, object_init_meets PySem.F.called_tuple.init.lookup PySem.F.called_tuple.made (by decide) prog w A.in1 _ u ⟨z.1, rfl, z.2⟩⟩
end
end L2

/-! OWN: tuple(reversed(list)) as an expression; max(list, default=d). Behind Ext10. -/
namespace L2
open PySem PySem.Spec PyProof.Rows
set_option maxRecDepth 100000
theorem args_maxd (a v : Value) : argsOk "max" ⟨[a], [(Str.ofString "default", v)]⟩ := by unfold argsOk; kernel_rfl
section
variable {prog : Program} {w : World} {A : Around} {R : Result → Shared → Prop} {J : Addr} {fp wr : List Addr} {n : Nat} {P : Nat → Value → Prop} {St : Nat → Heap → Prop} {kw : List (Str × Value)}
theorem loop_name : (toString "max" ++ toString ".loop" : String) = "max.loop" := by decide
theorem maxd_loop (W : Walks prog w A.in1 J fp wr n P St) (bt : Nat → Nat → Bool) (cmp : CmpOf prog w A.in1 .Gt P bt) (B : Addr) (out : B ∉ fp) :
    ∀ (k j : Nat) (s : Shared) (vb : Value) (c : Nat), n - (j + 1) = k → j + 1 ≤ n → St (j + 1) s.heap → P (argBest bt j) vb →
    s.heap.get? B = some { cls := .type "list", dict := none, data := .seq #[vb, vb] c, slots := #[] } →
    (∀ v h' tk, P (argBest bt (n - 1)) v → (∀ b o, b ∉ wr → b ≠ B → s.heap.get? b = some o → h'.get? b = some o) → R (.ok (.ret v)) { s with heap := h', toks := tk }) →
    codeAny (model prog w) A (.builtin "max.loop" ⟨[.ref J, .none, .ref B], kw⟩) R s := by
  have outw : B ∉ wr := fun z => out (W.sub _ z)
  intro k
  induction k with
  | zero =>
    intro j s vb c ek ej st pb best fin
    have en : j + 1 = n := by omega
    refine codeAny_builtin PySem.F.entry_max_loop ?_
    rw [Around.under_plainId PySem.F.plain_max_loop _]
    show wpAny _ A.in1 (seqItems? (.ref B) >>= _) _ _ s
    refine wpAny_bind (wpAny_seqItems best rfl ?_)
    show wpAny _ A.in1 (tryCatch (pyNext (.ref J)) _ >>= _) _ _ s
    refine wpAny_bind (wpAny_tryCatch (W.done s _ _ (en ▸ st) fun h' tk kept => ?_))
    have best' := kept B _ outw best
    show wpAny _ A.in1 (updateSeq B (fun _ => #[]) >>= _) _ _ _
    refine wpAny_bind (wpAny_updateSeq best' rfl (wpAny_bind (wpAny_letGo (wpAny_pure ?_))))
    exact fin vb _ tk (by rw [← en]; exact pb) fun b o bw bB e => (Heap.get?_update_other _ _ (Ne.symm bB)).trans (kept b o bw e)
  | succ k ih =>
    intro j s vb c ek ej st pb best fin
    have lt : j + 1 < n := by omega
    refine codeAny_builtin PySem.F.entry_max_loop ?_
    rw [Around.under_plainId PySem.F.plain_max_loop _]
    show wpAny _ A.in1 (seqItems? (.ref B) >>= _) _ _ s
    refine wpAny_bind (wpAny_seqItems best rfl ?_)
    show wpAny _ A.in1 (tryCatch (pyNext (.ref J)) _ >>= _) _ _ s
    refine wpAny_bind (wpAny_tryCatch (W.item (j + 1) s _ _ lt st fun v h' tk pv st' kept => ?_))
    have best' := kept B _ outw best
    show wpAny _ A.in1 (tryCatch (holding [v, v] (richCompare .Gt v vb >>= _)) _ >>= _) _ _ _
    refine wpAny_bind (wpAny_tryCatch (wpAny_holding (wpAny_bind (cmp (j + 1) (argBest bt j) v vb _ _ _ pv pb ?_))))
    refine wpAny_bind (wpAny_holding (wpAny_truthy_bool (wpAny_bind (wpAny_letGo (wpAny_pure ?_)))))
    cases eb : bt (j + 1) (argBest bt j) with
    | true =>
      simp only [if_true]
      refine wpAny_bind (wpAny_updateSeq best' rfl (wpAny_bind (wpAny_letGo ?_)))
      rw [loop_name]
      refine wpAny_pure ⟨plainId_quiet PySem.F.plain_max_loop _, ih (j + 1) _ v _ (by omega) lt (W.frame _ _ _ st' fun b bf o e => (Heap.get?_update_other _ _ (fun z : B = b => out (by rw [z]; exact bf))).trans e) (by simp only [argBest, eb, if_true]; exact pv) (Heap.get?_update_self _ best' rfl) fun v' h'' tk'' pv' kept' => ?_⟩
      exact fin v' h'' tk'' pv' fun b o bw bB e => kept' b o bw bB ((Heap.get?_update_other _ _ (Ne.symm bB)).trans (kept b o bw e))
    | false =>
      simp only [Bool.false_eq_true, if_false]
      refine wpAny_bind (wpAny_letGo ?_)
      rw [loop_name]
      refine wpAny_pure ⟨plainId_quiet PySem.F.plain_max_loop _, ih (j + 1) _ vb c (by omega) lt st' (by simp only [argBest, eb, Bool.false_eq_true, if_false]; exact pb) best' fun v' h'' tk'' pv' kept' => ?_⟩
      exact fin v' h'' tk'' pv' fun b o bw bB e => kept' b o bw bB (kept b o bw e)
theorem maxd_first (W : Walks prog w A.in1 J fp wr n P St) (bt : Nat → Nat → Bool) (cmp : CmpOf prog w A.in1 .Gt P bt) (B : Addr) (out : B ∉ fp) (some' : 0 < n) {s : Shared} {c : Nat} (st : St 0 s.heap)
    (best : s.heap.get? B = some { cls := .type "list", dict := none, data := .seq #[] c, slots := #[] })
    (fin : ∀ v h' tk, P (argBest bt (n - 1)) v → (∀ b o, b ∉ wr → b ≠ B → s.heap.get? b = some o → h'.get? b = some o) → R (.ok (.ret v)) { s with heap := h', toks := tk }) :
    codeAny (model prog w) A (.builtin "max.loop" ⟨[.ref J, .none, .ref B], kw⟩) R s := by
  have outw : B ∉ wr := fun z => out (W.sub _ z)
  refine codeAny_builtin PySem.F.entry_max_loop ?_
  rw [Around.under_plainId PySem.F.plain_max_loop _]
  show wpAny _ A.in1 (seqItems? (.ref B) >>= _) _ _ s
  refine wpAny_bind (wpAny_seqItems best rfl ?_)
  show wpAny _ A.in1 (tryCatch (pyNext (.ref J)) _ >>= _) _ _ s
  refine wpAny_bind (wpAny_tryCatch (W.item 0 s _ _ some' st fun v h' tk pv st' kept => ?_))
  have best' := kept B _ outw best
  show wpAny _ A.in1 (updateSeq B (fun _ => #[v, v]) >>= _) _ _ _
  refine wpAny_bind (wpAny_updateSeq best' rfl ?_)
  rw [loop_name]
  refine wpAny_pure ⟨plainId_quiet PySem.F.plain_max_loop _, maxd_loop W bt cmp B out _ 0 _ v _ rfl some' (W.frame _ _ _ st' fun b bf o e => (Heap.get?_update_other _ _ (fun z : B = b => out (by rw [z]; exact bf))).trans e) pv (Heap.get?_update_self _ best' rfl) fun v' h'' tk'' pv' kept' => ?_⟩
  exact fin v' h'' tk'' pv' fun b o bw bB e => kept' b o bw bB ((Heap.get?_update_other _ _ (Ne.symm bB)).trans (kept b o bw e))
theorem maxd_none (W : Walks prog w A.in1 J fp wr 0 P St) (B : Addr) (out : B ∉ fp) {s : Shared} {c : Nat} {nm : Str} {d : Value} (st : St 0 s.heap)
    (best : s.heap.get? B = some { cls := .type "list", dict := none, data := .seq #[] c, slots := #[] })
    (fin : ∀ h' tk, (∀ b o, b ∉ wr → b ≠ B → s.heap.get? b = some o → h'.get? b = some o) → R (.ok (.ret d)) { s with heap := h', toks := tk }) :
    codeAny (model prog w) A (.builtin "max.loop" ⟨[.ref J, .none, .ref B], [(nm, d)]⟩) R s := by
  refine codeAny_builtin PySem.F.entry_max_loop ?_
  rw [Around.under_plainId PySem.F.plain_max_loop _]
  show wpAny _ A.in1 (seqItems? (.ref B) >>= _) _ _ s
  refine wpAny_bind (wpAny_seqItems best rfl ?_)
  show wpAny _ A.in1 (tryCatch (pyNext (.ref J)) _ >>= _) _ _ s
  refine wpAny_bind (wpAny_tryCatch (W.done s _ _ st fun h' tk kept => ?_))
  refine wpAny_bind (wpAny_rule (wpAny_pure ?_))
  exact fin h' tk fun b o bw _ e => kept b o bw e
end
section
variable {prog : Program} {w : World} {A : Around} {E : Value → Shared → Prop} {s : Shared}
theorem call_maxd {x d : Value} {Q : Value → Shared → Prop}
    (h : wpAny (model prog w) A.in1 (pyIter x) (fun it s₂ => ∃ J fp wr n P St bt, it = .ref J ∧ Walks prog w A.in1 J fp wr n P St ∧ St 0 s₂.heap ∧ (∀ b ∈ fp, b < s₂.heap.objs.size) ∧ CmpOf prog w A.in1 .Gt P bt ∧
      (n = 0 → ∀ h' tk, (∀ b o, b ∉ wr → s₂.heap.get? b = some o → h'.get? b = some o) → Q d { s₂ with heap := h', toks := tk }) ∧
      (0 < n → ∀ v h' tk, P (argBest bt (n - 1)) v → (∀ b o, b ∉ wr → s₂.heap.get? b = some o → h'.get? b = some o) → Q v { s₂ with heap := h', toks := tk })) E s) :
    wpAny (model prog w) A (call (.builtin "max") [x] [(Str.ofString "default", d)]) Q E s := by
  refine PyProof.Rows.kmk_tree PySem.F.kind_max PySem.F.plain_max PySem.F.entry_max (args_maxd _ _) ?_
  show wpAny _ A.in1 (Builtin.Builtins.bindParams "max" ["key", "default"] 0 ⟨[], [(Str.ofString "default", d)]⟩ >>= _) _ _ s
  refine wpAny_bind (wpAny_of_eq (show Builtin.Builtins.bindParams "max" ["key", "default"] 0 ⟨[], [(Str.ofString "default", d)]⟩ = pure [none, some d] from rfl) (wpAny_bind (wpAny_pure ?_)))
  refine wpAny_bind (wpAny_mono h (fun it s₂ h₂ => ?_) fun _ _ e => e)
  obtain ⟨J, fp, wr, n, P, St, bt, rfl, W, st, low, cmp, q0, q1⟩ := h₂
  refine wpAny_bind (wpAny_newObj_type ?_)
  have out : s₂.heap.objs.size ∉ fp := fun z => Nat.lt_irrefl _ (low _ z)
  rw [loop_name]
  have st' := W.frame _ _ (s₂.heap.push { cls := .type "list", data := .seq ([] : List Value).toArray }) st fun b _ o e => Heap.get?_push_of_some _ e
  rcases Nat.eq_zero_or_pos n with z | z
  · subst z
    exact wpAny_pure ⟨plainId_quiet PySem.F.plain_max_loop _, maxd_none W s₂.heap.objs.size out st' (Heap.get?_push_size _ rfl) fun h' tk kept => q0 rfl h' tk fun b o bw e => kept b o bw (Nat.ne_of_lt (Heap.lt_size e)) (Heap.get?_push_of_some _ e)⟩
  · exact wpAny_pure ⟨plainId_quiet PySem.F.plain_max_loop _, maxd_first W bt cmp s₂.heap.objs.size out z st' (Heap.get?_push_size _ rfl) fun v h' tk pv kept => q1 z v h' tk pv fun b o bw e => kept b o bw (Nat.ne_of_lt (Heap.lt_size e)) (Heap.get?_push_of_some _ e)⟩
end
section
variable {X : Cx}
def tMaxd (K : PySem.W.Frag) (ta tk : TA) : TE := fun σ H Q => ta σ H fun vs H1 => tk σ H1 fun zs H2 => ∃ (p : Addr) (ns : List Int) (dv : Int), vs = [.ref p] ∧ zs = [.int dv] ∧ SqInt K H2 p ns ∧ (ns = [] → Q (.int dv) H2) ∧ ∀ m ∈ ns, (∀ n ∈ ns, n ≤ m) → Q (.int m) H2
theorem pe_maxd {e d : Expr} {ta tk : TA} {p pos kp : Pos} (hc : X.calm = true) (hg : Gl X "max") (hm : X.mg "max" = none) (ha : PA X [e] ta) (hk : PK X [⟨some "default", d, kp⟩] tk)
    (he : starEach [e] X.env = (false, eval e X.env) :: [] := by rfl) (hpl : (backTo pos (starEach [e] X.env)).any (·.1) = false := by rfl) (hkn : (backToKw pos (keywordEach [⟨some "default", d, kp⟩] X.env)).any (·.1.isNone) = false := by rfl)
    (hall : (backToKw pos (keywordEach [⟨some "default", d, kp⟩] X.env)).all (·.1.isSome) = true := by rfl) (hks : (backToKw pos (keywordEach [⟨some "default", d, kp⟩] X.env)).filterMap (·.1) = [Str.ofString "default"] := by rfl) :
    PE X (.Call (.Name "max" p) [e] [⟨some "default", d, kp⟩] pos) (tMaxd X.K ta tk) := by
  intro pins s σ H Q I h
  refine wpAny_Call_Name_kw (ld_blt I hg hm PyProof.Rows.Boot.max ?_)
  refine PyProof.Rows.callWith_builtin_kwB hpl hkn ?_
  have hA := ha pos pins s σ H _ I h
  rw [he] at hA ⊢
  refine evalArgs_kw hall (thn hA fun us s1 ⟨vs, H1, I1, r1, q1⟩ => thn (hk pos pins s1 σ H1 _ I1 q1) fun ws s2 ⟨zs, H2, I2, r2, pp, ns, dv, ev, ez, hq, q0, q⟩ => ?_)
  subst ev ez
  obtain ⟨u, rfl, ru⟩ := r1.one
  cases ru
  obtain ⟨v, rfl, t, rfl⟩ := r2.one
  rw [hks]
  show wpAny _ _ (call (.builtin "max") [Value.ref pp] [(Str.ofString "default", Value.int dv t)]) _ _ s2
  have keep : ∀ {it : Addr} {obj : Obj} {h' : Heap}, (∀ b o, b ∉ [s2.heap.objs.size] → (s2.heap.push obj).get? b = some o → h'.get? b = some o) → ∀ b o, s2.heap.get? b = some o → h'.get? b = some o := fun {it obj h'} hk b o e => hk b o (fun z => by
    have : b = s2.heap.objs.size := by simpa using z
    exact absurd (Heap.lt_size e) (by rw [this]; exact Nat.lt_irrefl _)) (Heap.get?_push_of_some _ e)
  have low : ∀ {obj : Obj}, pp < s2.heap.objs.size → ∀ b ∈ [s2.heap.objs.size, pp], b < (s2.heap.push obj).objs.size := fun {obj} lp b hb => by
    rw [Heap.size_push]
    simp only [List.mem_cons, List.not_mem_nil, or_false] at hb
    rcases hb with rfl | rfl
    · exact Nat.lt_succ_self _
    · exact Nat.lt_succ_of_lt lp
  have fin0 : ∀ {h' : Heap} {tk : Nat}, ns = [] → (∀ b o, s2.heap.get? b = some o → h'.get? b = some o) → EP X pins σ Q (.int dv t) { s2 with heap := h', toks := tk } := fun {h' tk} en hk => ⟨.int dv, H2, I2.kept (t' := tk) hk, ⟨t, rfl⟩, q0 en⟩
  have fin : ∀ {its : List Value} {v : Value} {h' : Heap} {tk : Nat}, Vals (ns.map V.int) its → 0 < its.toArray.size → its.toArray[argBest (fun i j => decide (ns.getD i 0 > ns.getD j 0)) (its.toArray.size - 1)]? = some v → (∀ b o, s2.heap.get? b = some o → h'.get? b = some o) → EP X pins σ Q v { s2 with heap := h', toks := tk } := fun {its v h' tk} rv z0 hP hk => by
    obtain ⟨t, rfl⟩ := valsInt rv _ _ hP
    have hl := rv.length
    rw [List.length_map] at hl
    have n0 : 0 < ns.length := by simp only [List.size_toArray] at z0; omega
    have es : its.toArray.size - 1 = ns.length - 1 := by simp only [List.size_toArray]; omega
    rw [es]
    obtain ⟨b1, b2⟩ := best_gt (fun i => ns.getD i 0) (ns.length - 1)
    exact ⟨.int _, H2, I2.kept (t' := tk) hk, ⟨t, rfl⟩, q _ (getD_mem (by omega)) fun n hn => by
      obtain ⟨i, hi, e⟩ := mem_getD hn
      rw [← e]
      exact b2 i (by omega)⟩
  rcases hq with hq | hq
  · obtain ⟨its, rv, pl, hz⟩ := I2.list hq
    have hl := rv.length
    rw [List.length_map] at hl
    have lp : pp < s2.heap.objs.size := by
      obtain ⟨o, ho, _⟩ := pl.isList
      exact Heap.lt_size ho
    refine call_maxd (wpAny_pyIter_list pl.isList ?_)
    exact ⟨s2.heap.objs.size, [s2.heap.objs.size, pp], [s2.heap.objs.size], its.toArray.size, _, _, fun i j => decide (ns.getD i 0 > ns.getD j 0), rfl, Walks.list (show X.A.in1.handled = none from I2.ok.hd hc) _ pp (Nat.ne_of_lt lp) its.toArray, ⟨⟨_, Heap.get?_push_size _ rfl, rfl, rfl⟩, pl.isList.push _⟩, low lp, CmpOf.ints_gt (fun i => ns.getD i 0) (valsInt rv),
      fun z h' tk hk => fin0 (List.length_eq_zero_iff.mp (by simp only [List.size_toArray] at z; omega)) (keep (it := pp) hk), fun z v h' tk hP hk => fin rv z hP (keep (it := pp) hk)⟩
  · obtain ⟨its, rv, pl, hz⟩ := I2.tuple hq
    have hl := rv.length
    rw [List.length_map] at hl
    have pt : s2.heap.IsTuple pp its.toArray := pl
    have lp : pp < s2.heap.objs.size := by
      obtain ⟨o, ho, _⟩ := id pt
      exact Heap.lt_size ho
    refine call_maxd (wpAny_pyIter_tuple pt ?_)
    exact ⟨s2.heap.objs.size, [s2.heap.objs.size, pp], [s2.heap.objs.size], its.toArray.size, _, _, fun i j => decide (ns.getD i 0 > ns.getD j 0), rfl, Walks.tuple (show X.A.in1.handled = none from I2.ok.hd hc) _ pp (Nat.ne_of_lt lp) its.toArray, ⟨⟨_, Heap.get?_push_size _ rfl, rfl, rfl⟩, pt.push _⟩, low lp, CmpOf.ints_gt (fun i => ns.getD i 0) (valsInt rv),
      fun z h' tk hk => fin0 (List.length_eq_zero_iff.mp (by simp only [List.size_toArray] at z; omega)) (keep (it := pp) hk), fun z v h' tk hP hk => fin rv z hP (keep (it := pp) hk)⟩
/-- tuple(reversed(xs)) -/
def tTupRev (K : PySem.W.Frag) (ta : TA) : TE := fun σ H Q => ta σ H fun vs H1 => ∃ (a : Addr) (xs : List V), vs = [.ref a] ∧ SqL K H1 a xs ∧ ∀ l, H1 l = none → Q (.ref l) (upd H1 l (.tup xs.reverse))
theorem pe_tuprev {a : Expr} {ta : TA} {p p2 pos pos2 : Pos} (hc : X.calm = true) (hg : Gl X "tuple") (hm : X.mg "tuple" = none) (hg2 : Gl X "reversed") (hm2 : X.mg "reversed" = none) (ha : PA X [a] ta) (hs : starEach [a] X.env = [(false, eval a X.env)] := by rfl)
    (ho : starEach [.Call (.Name "reversed" p2) [a] [] pos2] X.env = [(false, eval (.Call (.Name "reversed" p2) [a] [] pos2) X.env)] := by rfl) :
    PE X (.Call (.Name "tuple" p) [.Call (.Name "reversed" p2) [a] [] pos2] [] pos) (tTupRev X.K ta) := by
  intro pins s σ H Q I h
  refine wpAny_Call_Name_kw (ld_blt I hg hm PyProof.Rows.Boot.tuple (PyProof.Rows.callWith_type1 ?_ ho rfl))
  rw [ho]
  show wpAny _ _ (spliced [(false, eval (.Call (.Name "reversed" p2) [a] [] pos2) X.env)]) _ _ s
  refine Calls.spliced_cons (Call_ (ld_blt I hg2 hm2 boot_reversed (PyProof.Rows.callWith_type1 (thn (ha pos2 pins s σ H _ I h) fun us s1 ⟨vs, H1, I1, r1, q1⟩ => ?_) hs rfl)))
  obtain ⟨a, xs, e, hq, q⟩ := q1
  subst e
  obtain ⟨u, rfl, ru⟩ := r1.one
  cases ru
  obtain ⟨its, rv, pl, hz⟩ := I1.list hq
  have hl := rv.length
  have la : a < s1.heap.objs.size := by
    obtain ⟨o, ho, _⟩ := pl.isList
    exact Heap.lt_size ho
  refine call_reversed_list pl.isList (Calls.spliced_nil ?_)
  have W := Walks.listRev (prog := X.prog) (w := X.w) (A := X.A.in1.in1.in1) (I1.ok.hd hc) s1.heap.objs.size a (Nat.ne_of_lt la) its.toArray
  have hit : Heap.IsRevIter (s1.heap.push (revObj a ((its.toArray.size : Int) - 1))) s1.heap.objs.size a ((its.toArray.size : Int) - 1) := ⟨_, Heap.get?_push_size _ rfl, rfl, rfl⟩
  refine call_tuple_rev W.toS (fun i u st => st.2.1.typeIs) ⟨Nat.zero_le _, by simpa using hit, pl.isList.push _⟩ (fun b hb => ?_) (by simp) (fun s' acc mv its' => ?_) (by simp only [List.size_toArray]; omega)
  · show b < (s1.heap.push _).objs.size
    rw [Heap.size_push]
    simp only [List.mem_cons, List.not_mem_nil, or_false] at hb
    rcases hb with rfl | rfl
    · exact Nat.lt_succ_self _
    · exact Nat.lt_succ_of_lt la
  · have kept : ∀ b o, s1.heap.get? b = some o → s'.heap.get? b = some o := fun b o e => mv.heap b o (fun z => by
      have : b = s1.heap.objs.size := by simpa using z
      exact absurd (Heap.lt_size e) (by rw [this]; exact Nat.lt_irrefl _)) (Heap.get?_push_of_some _ e)
    have e1 : s' = { s1 with heap := s'.heap, toks := s'.toks } := by
      obtain ⟨hp, g, d, t, os⟩ := s'
      have a1 : g = s1.gens := mv.gens
      have a2 : d = s1.drawn := mv.drawn
      have a3 : os = s1.os := mv.os
      subst a1 a2 a3
      rfl
    have eacc : acc = its.reverse.toArray := by
      apply Array.ext'
      apply List.ext_getElem?
      intro j
      have hsz := its'.1
      simp only [List.size_toArray] at hsz
      rcases Nat.lt_or_ge j its.length with lj | lj
      · have ha : acc[j]? = some (acc[j]'(by omega)) := Array.getElem?_eq_getElem (by omega)
        have hp := its'.2 j _ ha
        rw [Array.getElem?_toList, ha, ← hp]
        simp only [List.size_toArray]
        rw [List.getElem?_toArray, List.getElem?_reverse lj]
      · rw [List.getElem?_eq_none (by simp; omega), List.getElem?_eq_none (by simp; omega)]
    have I2 : Inv X pins σ H1 s' := by
      rw [e1]
      exact I1.kept (t' := s'.toks) kept
    have I3 : Inv X pins σ (upd H1 s'.heap.objs.size (.tup xs.reverse)) { s' with heap := s'.heap.push { cls := .type "tuple", data := .seq acc } } :=
      I2.laid (t' := s'.toks) (fun b o e => Heap.get?_push_of_some _ e) (Nat.le_refl _) (show ObjOk X.prog X.w _ _ _ (.tup xs.reverse) from ⟨by rw [List.length_reverse]; exact hz, its.reverse, rv.reverse, by rw [eacc]; exact IsTup.new _ _⟩)
    exact ⟨.ref s'.heap.objs.size, _, I3, rfl, q _ I2.fresh⟩
end
end L2

/-! OWN: t[lo:hi] where it is the whole of t. Behind Ext11. -/
namespace HT
open PySem PyProof.Rows
section
variable {prog : Program} {w : World} {A : Around} {E : Value → Shared → Prop} {s : Shared}
theorem getItem_tuple_whole {t sl : Addr} {items : Array Value} {vl vu : Value} {lo hi : Option Int} {Q : Value → Shared → Prop} (ht : IsTup s.heap t items) (hs : s.heap.IsSliceOf sl vl vu .none) (pl : IsPart vl lo) (pu : IsPart vu hi)
    (hw : sIx items.size 0 lo = 0 ∧ sIx items.size items.size hi = items.size) (h : Q (.ref t) s) : wpAny (model prog w) A (getItem (.ref t) (.ref sl)) Q E s := by
  obtain ⟨os, hos, hcs, hds⟩ := id hs
  have hTs : s.TypeIs (.ref sl) "slice" := ⟨os, hos, hcs⟩
  unfold getItem
  try with_reducible refine wpAny_holding ?_
  first | refine wpAny_bind (wpAny_pure ?_) | skip
  refine wpAny_bind (wpAny_sequenceKey ht.typeIs (by decide) ?_)
  refine wpAny_bind (wpAny_callSpecial?_slot (name := Str.ofString "__getitem__") ht.typeIs PyProof.Rows.slot_tuple_getitem
    (wpAny_call_entry PyProof.Rows.slot_tuple_getitem ht.typeIs entry_tuple_getitem ?_ (args_tuple_getitem _ _)))
  show wpAny _ _ (Builtin.Tuple.tupleItemsOf (.ref t) >>= _) _ _ s
  refine wpAny_bind (tupleItemsOf_ ht ?_)
  refine wpAny_bind (wpAny_typeOf hTs ?_)
  rw [if_pos (by decide)]
  refine wpAny_bind (sliceApplied_gen hs pl pu ?_)
  have yes : (((sIx items.size 0 lo : Nat) : Int) == 0 && (1 : Int) == 1 && (sIx items.size items.size hi - sIx items.size 0 lo) == items.size) = true := by
    rw [hw.1, hw.2]
    simp
  show wpAny _ _ (if (((sIx items.size 0 lo : Nat) : Int) == 0 && (1 : Int) == 1 && (sIx items.size items.size hi - sIx items.size 0 lo) == items.size) = true then _ else _) _ _ s
  rw [if_pos yes]
  refine wpAny_bind ?_
  unfold Builtin.Tuple.tupleIsExact
  refine wpAny_bind (wpAny_typeOf ht.typeIs (wpAny_pure ?_))
  rw [if_pos (by decide)]
  exact wpAny_bind (wpAny_rule (wpAny_pure ⟨_, rfl, wpAny_pure h⟩))
end
end HT
namespace L2
open PySem PySem.Spec PyProof.Rows
section
variable {X : Cx}
def rSlTW (K : PySem.W.Frag) : V → Option Int → Option Int → Hp → VK → Prop := fun x lo hi H Q => ∃ a xs, x = .ref a ∧ SqT K H a xs ∧ (HT.sIx xs.length 0 lo = 0 ∧ HT.sIx xs.length xs.length hi = xs.length) ∧ Q (.ref a) H
theorem sl_tupW : SlR X (rSlTW X.K) := by
  intro pins s σ H x v vl vu lo hi sl Q I rx hs pl pu h
  obtain ⟨a, xs, rfl, hx, hw, q⟩ := h
  cases rx
  obtain ⟨its, r, ht, hz⟩ := I.tuple hx
  have hlen : its.toArray.size = xs.length := by rw [List.size_toArray]; exact r.length.symm
  refine ⟨"tuple", _, PyProof.Rows.slot_tuple_getitem.lookup, ht.typeIs, ?_⟩
  exact HT.getItem_tuple_whole ht hs pl pu (by rw [hlen]; exact hw) ⟨.ref a, H, I, rfl, q⟩
/-- either way: a tuple of the items that were cut -/
def rSlTA (K : PySem.W.Frag) : V → Option Int → Option Int → Hp → VK → Prop := fun x lo hi H Q => rSlT K x lo hi H Q ∨ rSlTW K x lo hi H Q
theorem sl_tupA : SlR X (rSlTA X.K) := sl_tup.or sl_tupW
end
end L2

/-! OWN: range with the step -1. Behind Ext12. -/
namespace L2
open PySem PySem.Spec PyProof.Rows
/-- hi, hi - 1, ..: n numbers -/
def Itdn (hi : Int) (n : Nat) : It := ⟨fun i _ => i < n, fun i H x H' => H' = H ∧ x = .int (hi - i), fun i _ => n ≤ i⟩
section
variable {X : Cx} {tg : Expr}
def iDown (ta : TA) : TI := fun σ H R => ta σ H fun vs H1 => ∃ i j : Int, vs = [.int i, .int j, .int (-1)] ∧ (-(2 ^ 62) ≤ i ∧ i < 2 ^ 62 ∧ -(2 ^ 62) ≤ j ∧ j < 2 ^ 62) ∧ R (Itdn i (i - j).toNat) H1
end
end L2

/-! OWN: d.values(), list(d.values()), list(d). Behind Ext13. -/
namespace L2
open PySem PySem.Spec PyProof.Rows
set_option maxRecDepth 100000
/-- the view of a dict's values -/
def VView (d v : Addr) : HO := .ext fun h => h.IsValuesView v d
section
variable {X : Cx}
def rValues : V → List V → Hp → VK → Prop := fun x vs H Q => ∃ d kvs, x = .ref d ∧ vs = [] ∧ H d = some (.dK kvs) ∧ ∀ v, H v = none → Q (.ref v) (upd H v (VView d v))
theorem mt_values : MtR X "dict.values" rValues := by
  intro pins s σ H x vs v us Q I rx rv h
  obtain ⟨d, kvs, rfl, rfl, hd, q⟩ := h
  cases rx
  have hus := rv.zero
  subst hus
  obtain ⟨z1, sy1, vs1, rel1, dd1⟩ := dk_of I.hok hd
  refine call_meetsIn PySem.F.slot_dict_values dd1.typeIs PySem.F.entry_dict_values (PySem.F.args_dict_values_1 _) (meets_dict_values (mixKind X.prog X.w) d sy1) ⟨⟨vs1, dd1⟩, ?_⟩
  refine ⟨.ref s.heap.objs.size, _, I.laid (t' := s.toks) (o := VView d s.heap.objs.size) (fun b ob e => Heap.get?_push_of_some _ e) (Nat.le_refl _) ?_, rfl, q _ (I.hok.fresh (Nat.le_refl _))⟩
  refine ⟨⟨_, Heap.get?_push_size _ rfl, rfl, rfl⟩, ⟨_, Heap.get?_push_size _ rfl⟩, fun h1 h2 z k => ?_⟩
  obtain ⟨o, e1, e2⟩ := z
  exact ⟨o, k o e1, e2⟩
theorem call_list_vals (hc : X.calm = true) : CallR X (.type "list") (fun xs H Q => ∃ v d kvs, xs = [.ref v] ∧ H v = some (VView d v) ∧ H d = some (.dK kvs) ∧ ∀ l, H l = none → Q (.ref l) (upd H l (.lst (kvs.map (·.2))))) := by
  intro pins s σ H xs us Q I r h
  obtain ⟨v, d, kvs, rfl, hv, hd, q⟩ := h
  obtain ⟨u, rfl, rx⟩ := vals1 r
  cases rx
  obtain ⟨z1, sy1, vs1, rel1, dd1⟩ := dk_of I.hok hd
  obtain ⟨ep, da⟩ := dd1.dictAt
  obtain ⟨hview, _⟩ := I.hok v _ hv
  have l1 := rel1.length
  refine PySem.W.kdl_call (PySem.W.kdl_values (r := v) (d := d) (kvs := vs1) (ep := ep)) (I.ok.hd hc) ⟨hview, da⟩ (by rw [← l1]; exact z1) fun h' tk acc c kp e its => ?_
  have hits : acc.toList = vs1.map (·.2) := PySem.W.kdl_vals_eq acc.toList (by rw [Array.length_toList]; exact its.1) fun j x ej => its.2 j x (by rw [← Array.getElem?_toList]; exact ej)
  have rel : Vals (kvs.map (·.2)) acc.toList := by
    rw [hits]
    clear hits its e kp z1 l1 da dd1 q hd hview hv
    induction rel1 with
    | nil => exact .nil
    | cons a _ ih => exact .cons a.2 ih
  refine ⟨.ref s.heap.objs.size, _, I.laid (t' := tk) kp (Nat.le_refl _) (show ObjOk X.prog X.w _ h' _ (.lst (kvs.map (·.2))) from ⟨by rw [List.length_map]; exact z1, acc.toList, c, rel, by rw [Array.toArray_toList]; exact e⟩), rfl, q _ (I.hok.fresh (Nat.le_refl _))⟩
end
end L2

/-! OWN: what is learnt from a trail: the mathematics. Behind Gr2 and Ext12. -/
namespace L2
open PySem
def chosenB (t : Int × Int) : Int := if t.2 = -1 then 1 else 0
def cnt : List (Int × Int) → Int
  | [] => 0
  | t :: ts => chosenB t + cnt ts
theorem cnt_app : ∀ (as bs : List (Int × Int)), cnt (as ++ bs) = cnt as + cnt bs
  | [], bs => by simp [cnt]
  | a :: as, bs => by
    simp only [List.cons_append, cnt, cnt_app as bs]
    omega
theorem cnt_snoc {ts : List (Int × Int)} {i : Nat} {t : Int × Int} (h : ts[i]? = some t) : cnt (ts.take (i + 1)) = cnt (ts.take i) + chosenB t := by
  rw [take_snoc h, cnt_app]
  simp [cnt]
theorem cnt_nn : ∀ ts : List (Int × Int), 0 ≤ cnt ts
  | [] => Int.le_refl _
  | t :: ts => by
    have := cnt_nn ts
    simp only [cnt, chosenB]
    split <;> omega
def levs (ts : List (Int × Int)) (n : Nat) : List Int := (List.range n).map fun i => cnt (ts.take (i + 1))
theorem levs_succ (ts : List (Int × Int)) (n : Nat) : levs ts (n + 1) = levs ts n ++ [cnt (ts.take (n + 1))] := by
  unfold levs
  rw [List.range_succ, List.map_append]
  rfl
theorem levs_len (ts : List (Int × Int)) (n : Nat) : (levs ts n).length = n := by simp [levs]
theorem levs_get (ts : List (Int × Int)) {n i : Nat} (h : i < n) : (levs ts n)[i]? = some (cnt (ts.take (i + 1))) := by
  unfold levs
  rw [List.getElem?_map, List.getElem?_range h]
  rfl
/-- the opposites of a trail's parts -/
def negs (ts : List (Int × Int)) : List Int := ts.map fun t => -t.1
theorem negs_get {ts : List (Int × Int)} {i : Nat} {t : Int × Int} (h : ts[i]? = some t) : (negs ts)[i]? = some (-t.1) := by
  unfold negs
  rw [List.getElem?_map, h]
  rfl
theorem negs_len (ts : List (Int × Int)) : (negs ts).length = ts.length := List.length_map _
theorem mem_negs {ts : List (Int × Int)} {p : Int} : p ∈ negs ts ↔ -p ∈ ts.map Prod.fst := by
  unfold negs
  rw [List.mem_map, List.mem_map]
  constructor
  · rintro ⟨t, ht, e⟩
    exact ⟨t, ht, by omega⟩
  · rintro ⟨t, ht, e⟩
    exact ⟨t, ht, by omega⟩
/-- the level of a part whose opposite the trail has -/
def lvF (ts : List (Int × Int)) (p : Int) : Int := cnt (ts.take ((negs ts).idxOf p + 1))
theorem lvF_at {ts : List (Int × Int)} {i : Nat} {t : Int × Int} (nd : (negs ts).Nodup) (h : ts[i]? = some t) : lvF ts (-t.1) = cnt (ts.take (i + 1)) := by
  have h1 := negs_get h
  obtain ⟨hi, e⟩ := List.getElem?_eq_some_iff.mp h1
  unfold lvF
  rw [← e, List.Nodup.idxOf_getElem nd i hi]
/-- a dict of levels -/
def Lev (H : Hp) (d : Addr) (ts : List (Int × Int)) : Prop := ∃ kvs : List (Key × V), H d = some (.dK kvs) ∧ ∀ p : Int, valV kvs (Sum.inl p) = if p ∈ negs ts then some (.int (lvF ts p)) else none
theorem Lev.same {H H' : Hp} {d : Addr} {ts : List (Int × Int)} (h : Lev H d ts) (s : Same H H') : Lev H' d ts := by
  obtain ⟨kvs, h1, h2⟩ := h
  exact ⟨kvs, s _ _ h1, h2⟩
/-- a dict as a set of parts, with a bound of its size -/
def Kst (H : Hp) (d : Addr) (ks : List Int) (n : Nat) : Prop := ∃ kvs : List (Key × V), H d = some (.dK kvs) ∧ (∀ m : Int, (valV kvs (Sum.inl m)).isSome = decide (m ∈ ks)) ∧ kvs.length ≤ n ∧ ∀ kv ∈ kvs, ∃ m : Int, kv.1 = Sum.inl m
theorem Kst.same {H H' : Hp} {d : Addr} {ks : List Int} {n : Nat} (h : Kst H d ks n) (s : Same H H') : Kst H' d ks n := by
  obtain ⟨kvs, h1, h2⟩ := h
  exact ⟨kvs, s _ _ h1, h2⟩
theorem drop_val (kvs : List (Key × V)) (k j : Key) : valV (dropK kvs k) j = if j = k then none else valV kvs j := by
  unfold dropK
  induction kvs with
  | nil => simp [valV]
  | cons kv kvs ih =>
    rw [List.filter_cons]
    by_cases e : kv.1 = k
    · rw [if_neg (by simp [e]), ih]
      by_cases ej : j = k
      · rw [if_pos ej, if_pos ej]
      · rw [if_neg ej, if_neg ej, valV_neg (fun z => ej (z.symm.trans e))]
    · rw [if_pos (by simp [e])]
      by_cases ej : kv.1 = j
      · have : j ≠ k := fun z => e (ej.trans z)
        rw [valV_pos ej, if_neg this, valV_pos ej]
      · rw [valV_neg ej, ih]
        by_cases ek : j = k
        · rw [if_pos ek, if_pos ek]
        · rw [if_neg ek, if_neg ek, valV_neg ej]
theorem Kst.pop {H : Hp} {d : Addr} {ks : List Int} {n : Nat} {kvs : List (Key × V)} {p : Int} (h2 : ∀ m : Int, (valV kvs (Sum.inl m)).isSome = decide (m ∈ ks)) (h3 : kvs.length ≤ n) (h4 : ∀ kv ∈ kvs, ∃ m : Int, kv.1 = Sum.inl m) : Kst (upd H d (.dK (dropK kvs (Sum.inl p)))) d (ks.filter fun m => decide (m ≠ p)) n := by
  refine ⟨_, upd_same, fun m => ?_, Nat.le_trans (List.length_filter_le _ _) h3, fun kv hkv => h4 kv ((List.mem_filter.mp hkv).1)⟩
  rw [drop_val]
  by_cases e : m = p
  · subst e
    rw [if_pos rfl]
    simp
  · rw [if_neg (fun z => e (by cases z; rfl)), h2]
    simp [e]
theorem merge_val : ∀ (ps : List Int) (kvs : List (Key × V)) (m : Int), (valV (mergeK kvs (mergeK [] (tkv ps))) (Sum.inl m)).isSome = ((valV kvs (Sum.inl m)).isSome || decide (m ∈ ps)) := by
  have key : ∀ (more kvs : List (Key × V)) (m : Int), (valV (mergeK kvs more) (Sum.inl m)).isSome = ((valV kvs (Sum.inl m)).isSome || (valV more (Sum.inl m)).isSome) := by
    intro more
    induction more with
    | nil => intro kvs m; simp [mergeK, valV]
    | cons kv more ih =>
      intro kvs m
      show (valV (mergeK (putK kvs kv.1 kv.2) more) (Sum.inl m)).isSome = _
      rw [ih, valV_put]
      by_cases e : kv.1 = Sum.inl m
      · rw [if_pos e.symm, valV_pos e]
        simp
      · rw [if_neg (Ne.symm e), valV_neg e]
  intro ps kvs m
  rw [key, (tkv_ok ps).1]
theorem merge_len (more kvs : List (Key × V)) : (mergeK kvs more).length ≤ kvs.length + more.length := by
  induction more generalizing kvs with
  | nil => exact Nat.le_refl _
  | cons kv more ih =>
    have h1 := ih (putK kvs kv.1 kv.2)
    have h2 := putK_len kvs kv.1 kv.2
    show (mergeK (putK kvs kv.1 kv.2) more).length ≤ _
    rw [List.length_cons]
    omega
theorem put_keys {kvs : List (Key × V)} {k : Key} {v : V} (h : ∀ kv ∈ kvs, ∃ m : Int, kv.1 = Sum.inl m) (hk : ∃ m : Int, k = Sum.inl m) : ∀ kv ∈ putK kvs k v, ∃ m : Int, kv.1 = Sum.inl m := by
  unfold putK
  split
  · intro kv hkv
    obtain ⟨q, hq, e⟩ := List.mem_map.mp hkv
    split at e
    · rw [← e]; exact h q hq
    · rw [← e]; exact h q hq
  · intro kv hkv
    rcases List.mem_append.mp hkv with q | q
    · exact h kv q
    · rw [List.mem_singleton.mp q]; exact hk
theorem merge_keys {more : List (Key × V)} (hm : ∀ kv ∈ more, ∃ m : Int, kv.1 = Sum.inl m) : ∀ {kvs : List (Key × V)}, (∀ kv ∈ kvs, ∃ m : Int, kv.1 = Sum.inl m) → ∀ kv ∈ mergeK kvs more, ∃ m : Int, kv.1 = Sum.inl m := by
  induction more with
  | nil => exact fun h => h
  | cons kv more ih =>
    intro kvs h
    exact ih (fun q hq => hm q (List.mem_cons_of_mem _ hq)) (put_keys h (hm kv List.mem_cons_self))
theorem tkv_keys (ps : List Int) : ∀ kv ∈ mergeK [] (tkv ps), ∃ m : Int, kv.1 = Sum.inl m :=
  merge_keys (fun kv hkv => by
    unfold tkv at hkv
    obtain ⟨p, _, e⟩ := List.mem_map.mp hkv
    exact ⟨p, by rw [← e]⟩) (fun _ h => absurd h (by simp))
theorem Kst.of {H : Hp} {d : Addr} {ps : List Int} : Kst (upd H d (.dK (mergeK [] (tkv ps)))) d ps ps.length := ⟨_, upd_same, (tkv_ok ps).1, (tkv_ok ps).2, tkv_keys ps⟩
def replB (ts : List (Int × Int)) (ks : List Int) (last p y : Int) : Bool := decide (p ∈ ks) && (decide (y ≠ -1) && (decide (lvF ts p = 0) || (decide (lvF ts p = last) && ks.any fun o => decide (o ≠ p) && decide (lvF ts o = last))))
def stepL (Rs : List (List Int)) (ts : List (Int × Int)) (last : Int) (st : List Int × List Int) (t : Int × Int) : List Int × List Int :=
  if replB ts st.1 last (-t.1) t.2 = true then ((st.1.filter fun m => decide (m ≠ -t.1)) ++ (rowAt Rs t.2).filter (fun m => decide (m ≠ t.1)), st.2 ++ [t.2]) else st
def lrn (Rs : List (List Int)) (ts : List (Int × Int)) (f : Int) (i : Nat) : List Int × List Int := (ts.reverse.take i).foldl (stepL Rs ts (cnt ts)) (rowAt Rs f, [f])
theorem lrn_succ {Rs : List (List Int)} {ts : List (Int × Int)} {f : Int} {i : Nat} {t : Int × Int} (h : ts.reverse[i]? = some t) : lrn Rs ts f (i + 1) = stepL Rs ts (cnt ts) (lrn Rs ts f i) t := by
  unfold lrn
  rw [take_snoc h, List.foldl_append]
  rfl
def keptF (Rs : List (List Int)) (ts : List (Int × Int)) (f : Int) : List Int := (lrn Rs ts f ts.length).1
def hintF (Rs : List (List Int)) (ts : List (Int × Int)) (f : Int) : List Int := (lrn Rs ts f ts.length).2
def partF (Rs : List (List Int)) (ts : List (Int × Int)) (f : Int) : List Int := (negs ts).reverse.filter fun p => decide (p ∈ keptF Rs ts f)
def IsMaxD (l : List Int) (m : Int) : Prop := (l = [] → m = 0) ∧ (l ≠ [] → m ∈ l ∧ ∀ n ∈ l, n ≤ m)
/-- all that is needed of rows, a trail and the row that fails -/
structure LnOk (Rs : List (List Int)) (ts : List (Int × Int)) (f : Int) : Prop where
  nd : (negs ts).Nodup
  f0 : 0 ≤ f
  f1 : f < (Rs.length : Int)
  fp : ∀ p ∈ rowAt Rs f, p ∈ negs ts
  why : ∀ t ∈ ts, t.2 ≠ -1 → 0 ≤ t.2 ∧ t.2 < (Rs.length : Int) ∧ ∀ p ∈ rowAt Rs t.2, p ≠ t.1 → p ∈ negs ts
theorem kept_in {Rs : List (List Int)} {ts : List (Int × Int)} {f : Int} (ok : LnOk Rs ts f) : ∀ i, ∀ p ∈ (lrn Rs ts f i).1, p ∈ negs ts := by
  intro i
  induction i with
  | zero => exact ok.fp
  | succ i ih =>
    rcases Nat.lt_or_ge i ts.reverse.length with hi | hi
    · rw [lrn_succ (List.getElem?_eq_getElem hi)]
      have ht : ts.reverse[i] ∈ ts := List.mem_reverse.mp (List.getElem_mem hi)
      unfold stepL
      split
      · rename_i e
        intro p hp
        rcases List.mem_append.mp hp with q | q
        · exact ih p ((List.mem_filter.mp q).1)
        · have y : ts.reverse[i].2 ≠ -1 := by
            unfold replB at e
            rw [Bool.and_eq_true, Bool.and_eq_true] at e
            exact of_decide_eq_true e.2.1
          have := List.mem_filter.mp q
          exact (ok.why _ ht y).2.2 p this.1 (of_decide_eq_true this.2)
      · exact ih
    · have e : lrn Rs ts f (i + 1) = lrn Rs ts f i := by
        unfold lrn
        rw [List.take_of_length_le (by omega), List.take_of_length_le hi]
      rw [e]
      exact ih
theorem hint_len (Rs : List (List Int)) (ts : List (Int × Int)) (f : Int) : ∀ i, (lrn Rs ts f i).2.length ≤ 1 + i := by
  intro i
  induction i with
  | zero => exact Nat.le_refl _
  | succ i ih =>
    rcases Nat.lt_or_ge i ts.reverse.length with hi | hi
    · rw [lrn_succ (List.getElem?_eq_getElem hi)]
      unfold stepL
      split
      · rw [List.length_append]
        simp only [List.length_singleton]
        omega
      · omega
    · have e : lrn Rs ts f (i + 1) = lrn Rs ts f i := by
        unfold lrn
        rw [List.take_of_length_le (by omega), List.take_of_length_le hi]
      rw [e]
      omega
theorem slice_from1 {K : PySem.W.Frag} {H : Hp} {a : Addr} {ps : List Int} {Q : VK} (h : SqT K H a (ps.map V.int)) (q : ∀ H' t, Same H H' → SqT K H' t ((ps.drop 1).map V.int) → Q (.ref t) H') : rSlTA K (.ref a) (some 1) none H Q := by
  have e1 : HT.sIx (ps.map V.int).length 0 (some 1) = min 1 (ps.map V.int).length := HT.sIx_nat _ _ 1
  have e2 : HT.sIx (ps.map V.int).length (ps.map V.int).length none = (ps.map V.int).length := HT.sIx_none _ _
  cases ps with
  | nil => exact .inr ⟨a, _, rfl, h, ⟨rfl, rfl⟩, q H a (Same.refl _) h⟩
  | cons p ps =>
    refine .inl ⟨a, _, rfl, h, fun z => ?_, fun t ht => q _ t (sameNew ht _) ?_⟩
    · have z1 := z.1
      rw [e1, List.length_map, List.length_cons] at z1
      omega
    · have e : cutV ((p :: ps).map V.int) (some 1) none = ((p :: ps).drop 1).map V.int := by
        unfold cutV
        rw [e1, e2, List.length_map, List.length_cons, Nat.min_eq_left (by omega), ← List.map_drop, List.take_of_length_le (by rw [List.length_map, List.length_drop, List.length_cons]; exact Nat.le_refl _)]
      rw [e]
      exact SqT.of upd_same
theorem rev_get {ts : List (Int × Int)} {i : Nat} (h : i < ts.length) : ts.reverse[i]? = ts[ts.length - 1 - i]? := by rw [List.getElem?_reverse h]
theorem negs_rev (ts : List (Int × Int)) : (negs ts).reverse = ts.reverse.map fun t => -t.1 := by unfold negs; rw [List.map_reverse]
theorem Kst.ne {H : Hp} {d l : Addr} {ks : List Int} {n : Nat} {xs : List V} (h : Kst H d ks n) (hl : H l = some (.lst xs)) : l ≠ d := fun e => by
  obtain ⟨kvs, hk, _⟩ := h
  rw [e, hk] at hl
  cases hl
theorem Lev.ne {H : Hp} {d l : Addr} {ts : List (Int × Int)} {xs : List V} (h : Lev H d ts) (hl : H l = some (.lst xs)) : l ≠ d := fun e => by
  obtain ⟨kvs, hk, _⟩ := h
  rw [e, hk] at hl
  cases hl
theorem cnt_all (ts : List (Int × Int)) : cnt (ts.take ts.length) = cnt ts := by rw [List.take_of_length_le (Nat.le_refl _)]
end L2

/-! OWN: a trail that is played: rows, choices, what is forced. The mathematics. Behind Ln. -/
namespace L2
open PySem
/-- a row that is drawn -/
def RowD (r : List Int) : Prop := r.length ≤ 100 ∧ ∀ p ∈ r, p ≠ 0 ∧ -60 ≤ p ∧ p ≤ 60
theorem RowD.in60 {r : List Int} (h : RowD r) : ∀ p ∈ r, -60 ≤ p ∧ p ≤ 60 := fun p hp => (h.2 p hp).2
theorem RowD.snoc {r : List Int} {n : Nat} {p : Int} (h : ∀ q ∈ r, q ≠ 0 ∧ -60 ≤ q ∧ q ≤ 60) (hp : p ≠ 0 ∧ -60 ≤ p ∧ p ≤ 60) : ∀ q ∈ r ++ [p], q ≠ 0 ∧ -60 ≤ q ∧ q ≤ 60 := fun q hq => by
  rcases List.mem_append.mp hq with e | e
  · exact h q e
  · cases List.mem_singleton.mp e
    exact hp
/-- a trail as it is played over rows: forced, then chosen and forced again -/
inductive Play (m : Int) (Rs : List (List Int)) : List (Int × Int) → List (Int × Int) → Option Nat → Prop
  | force {ts lg : List (Int × Int)} {o : Option Nat} : Grown Rs ts (ts.map Prod.fst) lg o → Play m Rs ts lg o
  | turn {ts lg lg' : List (Int × Int)} {p : Int} {o : Option Nat} : Play m Rs ts lg none → p ≠ 0 → -m ≤ p → p ≤ m → p ∉ lg.map Prod.fst → -p ∉ lg.map Prod.fst → Grown Rs (lg ++ [(p, -1)]) ((lg ++ [(p, -1)]).map Prod.fst) lg' o → Play m Rs ts lg' o
/-- distinct atoms, and each forced part by a row whose other parts are lost ahead -/
def TOk (Rs : List (List Int)) (ts : List (Int × Int)) : Prop := ∀ (i : Nat) (t : Int × Int), ts[i]? = some t →
  t.1 ≠ 0 ∧ (-60 ≤ t.1 ∧ t.1 ≤ 60) ∧ t.1 ∉ (ts.take i).map Prod.fst ∧ -t.1 ∉ (ts.take i).map Prod.fst ∧
  (t.2 = -1 ∨ ∃ (k : Nat) (r : List Int), t.2 = (k : Int) ∧ Rs[k]? = some r ∧ t.1 ∈ r ∧ ∀ p ∈ r, p ≠ t.1 → -p ∈ (ts.take i).map Prod.fst)
theorem TOk.nil (Rs : List (List Int)) : TOk Rs [] := fun i t h => by cases h
theorem take_app {α : Type} {xs ys : List α} {i : Nat} (h : i ≤ xs.length) : (xs ++ ys).take i = xs.take i := by
  rw [List.take_append, show i - xs.length = 0 by omega]
  simp
theorem TOk.snoc {Rs : List (List Int)} {ts : List (Int × Int)} {t : Int × Int} (h : TOk Rs ts) (h0 : t.1 ≠ 0) (h6 : -60 ≤ t.1 ∧ t.1 ≤ 60) (n1 : t.1 ∉ ts.map Prod.fst) (n2 : -t.1 ∉ ts.map Prod.fst)
    (y : t.2 = -1 ∨ ∃ (k : Nat) (r : List Int), t.2 = (k : Int) ∧ Rs[k]? = some r ∧ t.1 ∈ r ∧ ∀ p ∈ r, p ≠ t.1 → -p ∈ ts.map Prod.fst) : TOk Rs (ts ++ [t]) := fun i u e => by
  rcases Nat.lt_or_ge i ts.length with q | q
  · rw [List.getElem?_append_left q] at e
    rw [take_app (Nat.le_of_lt q)]
    exact h i u e
  · rw [List.getElem?_append_right q] at e
    have e0 : i - ts.length = 0 := by
      obtain ⟨z, _⟩ := List.getElem?_eq_some_iff.mp e
      simp only [List.length_singleton] at z
      omega
    rw [e0] at e
    cases e
    have ei : i = ts.length := by omega
    subst ei
    rw [take_app (Nat.le_refl _), List.take_length]
    exact ⟨h0, h6, n1, n2, y⟩
theorem opn_one {r hs : List Int} {a : Int} (e : opn r hs = [a]) (na : (r.any fun p => decide (p ∈ hs)) = false) : a ∈ r ∧ a ∉ hs ∧ -a ∉ hs ∧ ∀ p ∈ r, p ≠ a → -p ∈ hs := by
  have ha : a ∈ opn r hs := by rw [e]; exact List.mem_cons_self
  obtain ⟨a1, a2, a3⟩ := opn_mem.mp ha
  refine ⟨a1, a2, a3, fun p hp hne => ?_⟩
  apply Decidable.byContradiction
  intro hn
  have pn : p ∉ hs := fun q => by
    have : (r.any fun p => decide (p ∈ hs)) = true := List.any_eq_true.mpr ⟨p, hp, decide_eq_true q⟩
    rw [na] at this
    cases this
  have : p ∈ opn r hs := opn_mem.mpr ⟨hp, pn, hn⟩
  rw [e] at this
  exact hne (List.mem_singleton.mp this)
theorem opn_none {r hs : List Int} (e : opn r hs = []) (na : (r.any fun p => decide (p ∈ hs)) = false) : ∀ p ∈ r, -p ∈ hs := fun p hp => by
  apply Decidable.byContradiction
  intro hn
  have pn : p ∉ hs := fun q => by
    have : (r.any fun p => decide (p ∈ hs)) = true := List.any_eq_true.mpr ⟨p, hp, decide_eq_true q⟩
    rw [na] at this
    cases this
  have : p ∈ opn r hs := opn_mem.mpr ⟨hp, pn, hn⟩
  rw [e] at this
  cases this
theorem TOk.grown {Rs : List (List Int)} (hR : ∀ r ∈ Rs, RowD r) {ts lg : List (Int × Int)} {hs : List Int} {o : Option Nat} (g : Grown Rs ts hs lg o) : hs = ts.map Prod.fst → TOk Rs ts → TOk Rs lg := by
  induction g with
  | stop na => exact fun _ h => h
  | fail hr d na op => exact fun _ h => h
  | @step lg lg' hs r t k a o hr d na op g ih =>
    intro eh h
    have h1 := due_any d
    have et : t = [] := by
      have := h1.2
      rw [op] at this
      cases t with
      | nil => rfl
      | cons x y => simp at this
    subst et
    obtain ⟨a1, a2, a3, a4⟩ := opn_one op h1.1
    subst eh
    refine ih (by rw [List.map_append]; rfl) (h.snoc ((hR r (List.mem_of_getElem? hr)).2 a a1).1 ((hR r (List.mem_of_getElem? hr)).2 a a1).2 a2 a3 (.inr ⟨k, r, rfl, hr, a1, a4⟩))
theorem TOk.play {m : Int} (m60 : m ≤ 60) {Rs : List (List Int)} (hR : ∀ r ∈ Rs, RowD r) {ts lg : List (Int × Int)} {o : Option Nat} (g : Play m Rs ts lg o) (h : TOk Rs ts) : TOk Rs lg := by
  induction g with
  | force g => exact TOk.grown hR g rfl h
  | @turn lg lg' p o _ p0 p1 p2 n1 n2 g ih => exact TOk.grown hR g rfl ((ih).snoc (t := (p, -1)) p0 ⟨by show -60 ≤ p; omega, by show p ≤ 60; omega⟩ n1 n2 (.inl rfl))
theorem TOk.nd {Rs : List (List Int)} {ts : List (Int × Int)} (h : TOk Rs ts) : ∀ i j : Nat, i < j → ∀ t u : Int × Int, ts[i]? = some t → ts[j]? = some u → t.1 ≠ u.1 ∧ t.1 ≠ -u.1 := fun i j hij t u ht hu => by
  have q := h j u hu
  have mt : t.1 ∈ (ts.take j).map Prod.fst := by
    refine List.mem_map.mpr ⟨t, ?_, rfl⟩
    refine List.mem_of_getElem? (i := i) ?_
    rw [List.getElem?_take, if_pos hij]
    exact ht
  exact ⟨fun e => q.2.2.1 (by rw [← e]; exact mt), fun e => q.2.2.2.1 (by rw [← e]; exact mt)⟩
theorem TOk.negs {Rs : List (List Int)} {ts : List (Int × Int)} (h : TOk Rs ts) : (L2.negs ts).Nodup := by
  rw [List.nodup_iff_pairwise_ne, List.pairwise_iff_getElem]
  intro i j hi hj hij e
  rw [negs_len] at hi hj
  have q := (h.nd i j hij _ _ (List.getElem?_eq_getElem hi) (List.getElem?_eq_getElem hj)).1
  have ei := negs_get (List.getElem?_eq_getElem hi)
  have ej := negs_get (List.getElem?_eq_getElem hj)
  rw [List.getElem?_eq_getElem (by rw [negs_len]; exact hi)] at ei
  rw [List.getElem?_eq_getElem (by rw [negs_len]; exact hj)] at ej
  have ei' := Option.some.inj ei
  have ej' := Option.some.inj ej
  rw [ei', ej'] at e
  omega
theorem TOk.atoms {Rs : List (List Int)} {ts : List (Int × Int)} (h : TOk Rs ts) : (ts.map fun t => t.1.natAbs).Nodup := by
  rw [List.nodup_iff_pairwise_ne, List.pairwise_iff_getElem]
  intro i j hi hj hij e
  rw [List.length_map] at hi hj
  have q := h.nd i j hij _ _ (List.getElem?_eq_getElem hi) (List.getElem?_eq_getElem hj)
  rw [List.getElem_map, List.getElem_map] at e
  have q1 := q.1
  have q2 := q.2
  omega
theorem nodup_len : ∀ (n : Nat) {xs : List Nat}, xs.Nodup → (∀ x ∈ xs, x < n) → xs.length ≤ n
  | 0, [], _, _ => Nat.le_refl _
  | 0, x :: xs, _, h => absurd (h x List.mem_cons_self) (Nat.not_lt_zero _)
  | n + 1, xs, nd, h => by
    have q := nodup_len n (nd.erase n) (fun x hx => by
      have z := (List.Nodup.mem_erase_iff nd).mp hx
      have := h x z.2
      have := z.1
      omega)
    rw [List.length_erase] at q
    split at q <;> omega
theorem TOk.len {Rs : List (List Int)} {ts : List (Int × Int)} (h : TOk Rs ts) : ts.length ≤ 61 := by
  have q := nodup_len 61 h.atoms (fun x hx => by
    obtain ⟨t, ht, e⟩ := List.mem_map.mp hx
    obtain ⟨k, hk⟩ := List.mem_iff_getElem?.mp ht
    have := (h k t hk).2.1
    omega)
  rw [List.length_map] at q
  exact q
/-- the row that fails: its parts are all lost -/
def Fails (Rs : List (List Int)) (ts : List (Int × Int)) (f : Nat) : Prop := ∃ r, Rs[f]? = some r ∧ ∀ p ∈ r, -p ∈ ts.map Prod.fst
theorem grown_fails {Rs : List (List Int)} {ts lg : List (Int × Int)} {hs : List Int} {o : Option Nat} {k : Nat} (g : Grown Rs ts hs lg o) : hs = ts.map Prod.fst → o = some k → Fails Rs lg k := by
  induction g with
  | stop na => exact fun _ h => by cases h
  | fail hr d na op => exact fun e h => by cases h; subst e; exact ⟨_, hr, opn_none op (due_any d).1⟩
  | step hr d na op g ih => exact fun e h => by subst e; exact ih (by rw [List.map_append]; rfl) h
theorem play_fails {m : Int} {Rs : List (List Int)} {ts lg : List (Int × Int)} {k : Nat} (g : Play m Rs ts lg (some k)) : Fails Rs lg k := by
  cases g with
  | force g => exact grown_fails g rfl rfl
  | turn _ _ _ _ _ _ g => exact grown_fails g rfl rfl
theorem rowAt_of {Rs : List (List Int)} {k : Nat} {r : List Int} (h : Rs[k]? = some r) : rowAt Rs (k : Int) = r := by
  unfold rowAt
  rw [Int.toNat_natCast, List.getD_eq_getElem?_getD, h]
  rfl
theorem TOk.ln {Rs : List (List Int)} {ts : List (Int × Int)} {f : Nat} (h : TOk Rs ts) (hf : Fails Rs ts f) : LnOk Rs ts (f : Int) := by
  obtain ⟨r, hr, hp⟩ := hf
  have fl : f < Rs.length := (List.getElem?_eq_some_iff.mp hr).1
  refine ⟨h.negs, by omega, by omega, fun p q => ?_, fun t ht y => ?_⟩
  · rw [rowAt_of hr] at q
    exact mem_negs.mpr (hp p q)
  · obtain ⟨i, hi⟩ := List.mem_iff_getElem?.mp ht
    rcases (h i t hi).2.2.2.2 with z | ⟨k, r', e1, e2, e3, e4⟩
    · exact absurd z y
    · have kl : k < Rs.length := (List.getElem?_eq_some_iff.mp e2).1
      refine ⟨by omega, by omega, fun p hp' hne => ?_⟩
      rw [e1, rowAt_of e2] at hp'
      have q := e4 p hp' hne
      refine mem_negs.mpr ?_
      obtain ⟨u, hu, eu⟩ := List.mem_map.mp q
      exact List.mem_map.mpr ⟨u, List.mem_of_mem_take hu, eu⟩
theorem TOk.more {Rs Qs : List (List Int)} {ts : List (Int × Int)} (h : TOk Rs ts) : TOk (Rs ++ Qs) ts := fun i t e => by
  obtain ⟨h1, h2, h3, h4, h5⟩ := h i t e
  refine ⟨h1, h2, h3, h4, ?_⟩
  rcases h5 with z | ⟨k, r, e1, e2, e3⟩
  · exact .inl z
  · exact .inr ⟨k, r, e1, by rw [List.getElem?_append_left (List.getElem?_eq_some_iff.mp e2).1]; exact e2, e3⟩
end L2

/-! OWN: atoms that are free, parts that fail: the mathematics. Behind Dr. -/
namespace L2
open PySem
def absI (i : Int) : Int := if i < 0 then -i else i
def freeF (n : Nat) (hs : List Int) : List Int := ((List.range n).map fun j : Nat => 1 + (j : Int)).filter fun a => decide (a ∉ hs)
theorem freeF_succ (n : Nat) (hs : List Int) : freeF (n + 1) hs = if 1 + (n : Int) ∈ hs then freeF n hs else freeF n hs ++ [1 + (n : Int)] := by
  unfold freeF
  rw [List.range_succ, List.map_append, List.filter_append]
  by_cases e : 1 + (n : Int) ∈ hs
  · rw [if_pos e]
    simp [e]
  · rw [if_neg e]
    simp [e]
theorem freeF_mem {n : Nat} {hs : List Int} {a : Int} (h : a ∈ freeF n hs) : 1 ≤ a ∧ a ≤ (n : Int) ∧ a ∉ hs := by
  obtain ⟨h1, h2⟩ := List.mem_filter.mp h
  obtain ⟨j, hj, e⟩ := List.mem_map.mp h1
  have := List.mem_range.mp hj
  exact ⟨by omega, by omega, of_decide_eq_true h2⟩
theorem abs_free {ts : List (Int × Int)} {a : Int} (h1 : 1 ≤ a) (h : a ∉ (ts.map Prod.fst).map absI) : a ∉ ts.map Prod.fst ∧ -a ∉ ts.map Prod.fst := by
  constructor
  · intro q
    refine h (List.mem_map.mpr ⟨a, q, ?_⟩)
    unfold absI
    rw [if_neg (by omega)]
  · intro q
    refine h (List.mem_map.mpr ⟨-a, q, ?_⟩)
    unfold absI
    rw [if_pos (by omega)]
    omega
theorem pick_at {fs : List Int} {i : Int} (h0 : 0 ≤ i) (h1 : i < (fs.length : Int)) : ∃ a, a ∈ fs ∧ atI (fs.map V.int) i = some (.int a) := atI_pick h0 h1
/-- what a trail's slice gives: a part of it -/
theorem cut_has {K : PySem.W.Frag} {H : Hp} {ts : List (Int × Int)} {zs : List V} (h : HasL K H (ts.map dP) zs) (lo hi : Option Int) : ∃ us : List (Int × Int), HasL K H (us.map dP) (cutV zs lo hi) ∧ us.length ≤ ts.length ∧ (∀ u ∈ us, u ∈ ts) ∧ us = (ts.drop (HT.sIx zs.length 0 lo)).take (HT.sIx zs.length zs.length hi - HT.sIx zs.length 0 lo) := by
  have hd : ∀ (n : Nat) {ds : List Dt} {vs : List V}, HasL K H ds vs → HasL K H (ds.drop n) (vs.drop n) := by
    intro n
    induction n with
    | zero => intro ds vs h; exact h
    | succ n ih =>
      intro ds vs h
      match ds, vs, h with
      | [], [], _ => exact .nil
      | d :: ds, v :: vs, h =>
        obtain ⟨v', r, e, h1, h2⟩ := h
        cases e
        exact ih h2
      | [], v :: vs, h => exact absurd h (by simp [HasL])
      | d :: ds, [], h => exact absurd h (by simp [HasL])
  have ht : ∀ (n : Nat) {ds : List Dt} {vs : List V}, HasL K H ds vs → HasL K H (ds.take n) (vs.take n) := by
    intro n
    induction n with
    | zero => intro ds vs h; exact .nil
    | succ n ih =>
      intro ds vs h
      match ds, vs, h with
      | [], [], _ => exact .nil
      | d :: ds, v :: vs, h =>
        obtain ⟨v', r, e, h1, h2⟩ := h
        cases e
        exact .cons h1 (ih h2)
      | [], v :: vs, h => exact absurd h (by simp [HasL])
      | d :: ds, [], h => exact absurd h (by simp [HasL])
  refine ⟨_, ?_, ?_, ?_, rfl⟩
  · rw [List.map_take, List.map_drop]
    exact ht _ (hd _ h)
  · rw [List.length_take, List.length_drop]
    omega
  · intro u hu
    exact List.mem_of_mem_drop (List.mem_of_mem_take hu)
theorem Same.ofX {H H1 H2 : Hp} {d : Addr} (s : Same H H1) (n : H d = none) (x : SameX d H1 H2) : Same H H2 := fun b o hb => x b o (fun e => by rw [e, n] at hb; cases hb) (s b o hb)
theorem sIx_m1 (n : Nat) : HT.sIx n 0 (some (-1)) = n - 1 := by
  simp only [HT.sIx]
  split <;> omega
theorem cut_last {K : PySem.W.Frag} {H : Hp} {ts : List (Int × Int)} {zs : List V} (h : HasL K H (ts.map dP) zs) : HasL K H ((ts.drop (ts.length - 1)).map dP) (cutV zs (some (-1)) none) := by
  obtain ⟨us, h1, _, _, e⟩ := cut_has h (some (-1)) none
  have zl : zs.length = ts.length := by rw [← h.length, List.length_map]
  have e2 : us = ts.drop (ts.length - 1) := by
    rw [e, sIx_m1, zl]
    refine List.take_of_length_le ?_
    rw [List.length_drop]
    simp only [HT.sIx]
    omega
  rw [← e2]
  exact h1
theorem last_mem {ts : List (Int × Int)} {t : Int × Int} (h : ts.getLast? = some t) : ts.drop (ts.length - 1) = [t] := by
  obtain ⟨ys, e⟩ := List.getLast?_eq_some_iff.mp h
  subst e
  rw [List.length_append]
  simp
/-- the row that is made of parts that fail -/
structure FRow (ts : List (Int × Int)) (row : List Int) (n : Nat) : Prop where
  le : row.length ≤ n
  neg : ∀ p ∈ row, -p ∈ ts.map Prod.fst
  last : ∀ t, ts.getLast? = some t → -t.1 ∈ row
theorem FRow.first (ts : List (Int × Int)) : FRow ts ((ts.drop (ts.length - 1)).map fun t => -t.1) 1 := by
  refine ⟨?_, fun p hp => ?_, fun t ht => ?_⟩
  · rw [List.length_map, List.length_drop]
    omega
  · obtain ⟨t, ht, e⟩ := List.mem_map.mp hp
    refine List.mem_map.mpr ⟨t, List.mem_of_mem_drop ht, ?_⟩
    omega
  · rw [last_mem ht]
    simp
theorem FRow.ins {ts : List (Int × Int)} {row : List Int} {n : Nat} (h : FRow ts row n) {t : Int × Int} (ht : t ∈ ts) (i : Nat) : FRow ts (L2.ins row i (-t.1)) (n + 1) := by
  refine ⟨by rw [len_ins]; exact Nat.succ_le_succ h.le, fun p hp => ?_, fun u hu => mem_ins.mpr (.inr (h.last u hu))⟩
  rcases mem_ins.mp hp with e | e
  · rw [e, Int.neg_neg]
    exact List.mem_map.mpr ⟨t, ht, rfl⟩
  · exact h.neg p e
theorem FRow.mono {ts : List (Int × Int)} {row : List Int} {n m : Nat} (h : FRow ts row n) (l : n ≤ m) : FRow ts row m := ⟨Nat.le_trans h.le l, h.neg, h.last⟩
end L2

/-! OWN: what is due of a trail, by a plain list: the mathematics. Behind Dr2. -/
namespace L2
open PySem
theorem cnt_mono {ts : List (Int × Int)} {i : Nat} : cnt (ts.take i) ≤ cnt ts := by
  have e : cnt ts = cnt (ts.take i) + cnt (ts.drop i) := by rw [← cnt_app, List.take_append_drop]
  have := cnt_nn (ts.drop i)
  omega
theorem lvF_le {ts : List (Int × Int)} (p : Int) : lvF ts p ≤ cnt ts := cnt_mono
theorem lvF_nn {ts : List (Int × Int)} (p : Int) : 0 ≤ lvF ts p := cnt_nn _
/-- a dict from the trail's parts to their levels -/
def Plc (H : Hp) (d : Addr) (ts : List (Int × Int)) : Prop := ∃ kvs : List (Key × V), H d = some (.dK kvs) ∧ ∀ p : Int, valV kvs (Sum.inl p) = if p ∈ ts.map Prod.fst then some (.int (lvF ts (-p))) else none
theorem Plc.same {H H' : Hp} {d : Addr} {ts : List (Int × Int)} (h : Plc H d ts) (s : Same H H') : Plc H' d ts := by
  obtain ⟨kvs, h1, h2⟩ := h
  exact ⟨kvs, s _ _ h1, h2⟩
theorem Plc.get {H : Hp} {d : Addr} {ts : List (Int × Int)} (h : Plc H d ts) {p : Int} (hp : p ∈ ts.map Prod.fst) : ∃ kvs, H d = some (.dK kvs) ∧ valV kvs (Sum.inl p) = some (.int (lvF ts (-p))) := by
  obtain ⟨kvs, h1, h2⟩ := h
  exact ⟨kvs, h1, by rw [h2, if_pos hp]⟩
theorem max_levels {ts : List (Int × Int)} (nd : (negs ts).Nodup) {m : Int} (h1 : m ∈ 0 :: ts.map fun t => lvF ts (-t.1)) (h2 : ∀ n ∈ 0 :: ts.map fun t => lvF ts (-t.1), n ≤ m) : m = cnt ts := by
  have a : m ≤ cnt ts := by
    rcases List.mem_cons.mp h1 with e | e
    · rw [e]; exact cnt_nn ts
    · obtain ⟨t, _, e⟩ := List.mem_map.mp e
      rw [← e]; exact lvF_le _
  have b : cnt ts ≤ m := by
    by_cases e : ts = []
    · subst e
      exact h2 0 List.mem_cons_self
    · have hl : ts[ts.length - 1]? = some (ts.getLast e) := by
        rw [← List.getLast?_eq_some_getLast e, List.getLast?_eq_getElem?]
      have q := lvF_at nd hl
      have hp : 0 < ts.length := List.length_pos_iff.mpr e
      rw [show ts.length - 1 + 1 = ts.length by omega, cnt_all] at q
      rw [← q]
      exact h2 _ (List.mem_cons_of_mem _ (List.mem_map.mpr ⟨_, List.getLast_mem e, rfl⟩))
  omega
theorem isMax_of {l : List Int} {m : Int} (nn : ∀ n ∈ l, 0 ≤ n) (h1 : m ∈ 0 :: l) (h2 : ∀ n ∈ 0 :: l, n ≤ m) : IsMaxD l m := by
  refine ⟨fun e => ?_, fun e => ⟨?_, fun n hn => h2 n (List.mem_cons_of_mem _ hn)⟩⟩
  · subst e
    simpa using h1
  · rcases List.mem_cons.mp h1 with q | q
    · match l, e with
      | a :: r, _ =>
        have h3 := h2 a (by simp)
        have h4 := nn a (by simp)
        have : a = m := by omega
        rw [← this]
        simp
    · exact q
theorem isMax_inj {l : List Int} {m n : Int} (h : IsMaxD l m) (h' : IsMaxD l n) : m = n := by
  by_cases e : l = []
  · rw [h.1 e, h'.1 e]
  · have a := h.2 e
    have b := h'.2 e
    have c := a.2 n b.1
    have d := b.2 m a.1
    omega
def gF (ts : List (Int × Int)) (ks : List Int) (last p : Int) : Bool := decide (lvF ts p = 0) || (decide (lvF ts p = last) && !(((ks.filter fun m => decide (m ≠ p)).filter fun o => decide (lvF ts o = last)).isEmpty))
theorem TOk.y {Rs : List (List Int)} {ts : List (Int × Int)} (h : TOk Rs ts) : ∀ t ∈ ts, -1 ≤ t.2 := fun t ht => by
  obtain ⟨i, hi⟩ := List.mem_iff_getElem?.mp ht
  rcases (h i t hi).2.2.2.2 with z | ⟨k, _, z, _⟩ <;> omega
theorem rowAt_get {Rs : List (List Int)} {y : Int} (h0 : 0 ≤ y) (h1 : y < (Rs.length : Int)) : Rs[y.toNat]? = some (rowAt Rs y) := by
  unfold rowAt
  rw [List.getD_eq_getElem?_getD, List.getElem?_eq_getElem (by omega)]
  rfl
end L2

/-! OWN: of what is learnt one part alone is of the last level, and none of level 0. Behind Ln3. -/
namespace L2
open PySem
theorem cnt_take_le {ts : List (Int × Int)} {i j : Nat} (h : i ≤ j) : cnt (ts.take i) ≤ cnt (ts.take j) := by
  have e : ts.take j = ts.take i ++ (ts.take j).drop i := by
    have := List.take_append_drop i (ts.take j)
    rw [List.take_take, Nat.min_eq_left h] at this
    exact this.symm
  rw [e, cnt_app]
  have := cnt_nn ((ts.take j).drop i)
  omega
theorem negs_ix {ts : List (Int × Int)} {q : Int} (h : q ∈ negs ts) : ∃ (i : Nat) (t : Int × Int), ts[i]? = some t ∧ q = -t.1 := by
  unfold negs at h
  obtain ⟨t, ht, e⟩ := List.mem_map.mp h
  obtain ⟨i, hi⟩ := List.mem_iff_getElem?.mp ht
  exact ⟨i, t, hi, e.symm⟩
theorem TOk.same_ix {Rs : List (List Int)} {ts : List (Int × Int)} (tok : TOk Rs ts) {i j : Nat} {t u : Int × Int} (hi : ts[i]? = some t) (hj : ts[j]? = some u) (e : t.1 = u.1) : i = j := by
  rcases Nat.lt_trichotomy i j with h | h | h
  · exact absurd e (tok.nd i j h t u hi hj).1
  · exact h
  · exact absurd e.symm (tok.nd j i h u t hj hi).1
theorem replB_true {ts : List (Int × Int)} {ks : List Int} {last p y : Int} (h : replB ts ks last p y = true) : p ∈ ks ∧ y ≠ -1 ∧ (lvF ts p = 0 ∨ (lvF ts p = last ∧ ∃ o ∈ ks, o ≠ p ∧ lvF ts o = last)) := by
  unfold replB at h
  rw [Bool.and_eq_true, Bool.and_eq_true, Bool.or_eq_true, Bool.and_eq_true, List.any_eq_true] at h
  refine ⟨of_decide_eq_true h.1, of_decide_eq_true h.2.1, ?_⟩
  rcases h.2.2 with z | ⟨z1, o, ho, z2⟩
  · exact .inl (of_decide_eq_true z)
  · rw [Bool.and_eq_true] at z2
    exact .inr ⟨of_decide_eq_true z1, o, ho, of_decide_eq_true z2.1, of_decide_eq_true z2.2⟩
theorem replB_of {ts : List (Int × Int)} {ks : List Int} {last p y : Int} (h1 : p ∈ ks) (h2 : y ≠ -1) (h3 : lvF ts p = 0 ∨ (lvF ts p = last ∧ ∃ o ∈ ks, o ≠ p ∧ lvF ts o = last)) : replB ts ks last p y = true := by
  unfold replB
  rw [Bool.and_eq_true, Bool.and_eq_true, Bool.or_eq_true, Bool.and_eq_true, List.any_eq_true]
  refine ⟨decide_eq_true h1, decide_eq_true h2, ?_⟩
  rcases h3 with z | ⟨z1, o, ho, z2, z3⟩
  · exact .inl (decide_eq_true z)
  · exact .inr ⟨decide_eq_true z1, o, ho, by rw [decide_eq_true z2, decide_eq_true z3]; rfl⟩
/-- one step back: the place, and what is kept behind it -/
theorem step_mem {Rs : List (List Int)} {ts : List (Int × Int)} {f : Int} (tok : TOk Rs ts) {i : Nat} (hi : i < ts.length) : ∃ t : Int × Int, ts[ts.length - 1 - i]? = some t ∧ lrn Rs ts f (i + 1) = stepL Rs ts (cnt ts) (lrn Rs ts f i) t ∧
    ∀ q : Int, q ∈ (lrn Rs ts f (i + 1)).1 → q ∈ (lrn Rs ts f i).1 ∨ ∃ (j : Nat) (u : Int × Int), j < ts.length - 1 - i ∧ ts[j]? = some u ∧ q = -u.1 ∧ replB ts (lrn Rs ts f i).1 (cnt ts) (-t.1) t.2 = true ∧ q ∈ rowAt Rs t.2 := by
  obtain ⟨t, ht⟩ : ∃ t, ts[ts.length - 1 - i]? = some t := ⟨_, List.getElem?_eq_getElem (by omega)⟩
  have hr := rev_get hi
  rw [ht] at hr
  have e := lrn_succ (Rs := Rs) (f := f) hr
  refine ⟨t, ht, e, fun q hq => ?_⟩
  rw [e] at hq
  unfold stepL at hq
  by_cases r : replB ts (lrn Rs ts f i).1 (cnt ts) (-t.1) t.2 = true
  · rw [if_pos r] at hq
    rcases List.mem_append.mp hq with z | z
    · exact .inl (List.mem_filter.mp z).1
    · obtain ⟨z1, z2⟩ := List.mem_filter.mp z
      have z3 := of_decide_eq_true z2
      have hy := (replB_true r).2.1
      rcases (tok _ t ht).2.2.2.2 with w | ⟨k, row, e1, e2, _, e4⟩
      · exact absurd w hy
      · have z1' := z1
        rw [e1, rowAt_of e2] at z1'
        have w := e4 q z1' z3
        obtain ⟨u, hu, eu⟩ := List.mem_map.mp w
        obtain ⟨j, hj⟩ := List.mem_iff_getElem?.mp hu
        have hlt : j < ts.length - 1 - i := by
          have := (List.getElem?_eq_some_iff.mp hj).1
          rw [List.length_take] at this
          omega
        rw [List.getElem?_take, if_pos hlt] at hj
        exact .inr ⟨j, u, hlt, hj, by omega, r, z1⟩
  · rw [if_neg r] at hq
    exact .inl hq
theorem step_far {Rs : List (List Int)} {ts : List (Int × Int)} {f : Int} (tok : TOk Rs ts) {i j : Nat} {u : Int × Int} (hi : i < ts.length) (hj : ts[j]? = some u) (h : ts.length - 1 - i ≤ j) (hm : -u.1 ∈ (lrn Rs ts f (i + 1)).1) : -u.1 ∈ (lrn Rs ts f i).1 := by
  obtain ⟨t, ht, e, hq⟩ := step_mem (Rs := Rs) (f := f) tok hi
  rcases hq _ hm with z | ⟨j', u', h1, h2, h3, _⟩
  · exact z
  · have := tok.same_ix hj h2 (by omega)
    omega
theorem step_gone {Rs : List (List Int)} {ts : List (Int × Int)} {f : Int} (tok : TOk Rs ts) {i : Nat} {t : Int × Int} (hi : i < ts.length) (ht : ts[ts.length - 1 - i]? = some t) (r : replB ts (lrn Rs ts f i).1 (cnt ts) (-t.1) t.2 = true) : -t.1 ∉ (lrn Rs ts f (i + 1)).1 := fun hm => by
  obtain ⟨t', ht', e, hq⟩ := step_mem (Rs := Rs) (f := f) tok hi
  rw [ht] at ht'
  cases ht'
  have hm' := hm
  rw [e] at hm'
  unfold stepL at hm'
  rw [if_pos r] at hm'
  rcases List.mem_append.mp hm' with z | z
  · exact (of_decide_eq_true (List.mem_filter.mp z).2) rfl
  · obtain ⟨z1, z2⟩ := List.mem_filter.mp z
    have hy := (replB_true r).2.1
    rcases (tok _ t ht).2.2.2.2 with w | ⟨k, row, e1, e2, _, e4⟩
    · exact hy w
    · rw [e1, rowAt_of e2] at z1
      have w := e4 _ z1 (of_decide_eq_true z2)
      rw [Int.neg_neg] at w
      exact (tok _ t ht).2.2.1 w
theorem step_stay {Rs : List (List Int)} {ts : List (Int × Int)} {f : Int} (tok : TOk Rs ts) {i : Nat} {t : Int × Int} {q : Int} (hi : i < ts.length) (ht : ts[ts.length - 1 - i]? = some t) (hq : q ∈ (lrn Rs ts f i).1) (n : q ≠ -t.1 ∨ replB ts (lrn Rs ts f i).1 (cnt ts) (-t.1) t.2 = false) : q ∈ (lrn Rs ts f (i + 1)).1 := by
  obtain ⟨t', ht', e, _⟩ := step_mem (Rs := Rs) (f := f) tok hi
  rw [ht] at ht'
  cases ht'
  rw [e]
  unfold stepL
  by_cases r : replB ts (lrn Rs ts f i).1 (cnt ts) (-t.1) t.2 = true
  · rw [if_pos r]
    rcases n with n | n
    · exact List.mem_append_left _ (List.mem_filter.mpr ⟨hq, decide_eq_true n⟩)
    · rw [n] at r; cases r
  · rw [if_neg r]
    exact hq
theorem none_zero {Rs : List (List Int)} {ts : List (Int × Int)} {f : Int} (tok : TOk Rs ts) : ∀ i, i ≤ ts.length → ∀ (j : Nat) (t : Int × Int), ts[j]? = some t → ts.length - i ≤ j → -t.1 ∈ (lrn Rs ts f i).1 → lvF ts (-t.1) ≠ 0 := by
  intro i
  induction i with
  | zero =>
    intro _ j t hj h
    have := (List.getElem?_eq_some_iff.mp hj).1
    omega
  | succ i ih =>
    intro hi j t hj h hm
    have hm0 := step_far tok (by omega) hj (by omega) hm
    rcases Nat.lt_or_ge j (ts.length - i) with q | q
    · have ej : j = ts.length - 1 - i := by omega
      subst ej
      intro z
      have r : replB ts (lrn Rs ts f i).1 (cnt ts) (-t.1) t.2 = true := by
        refine replB_of hm0 (fun y => ?_) (.inl z)
        rw [lvF_at tok.negs hj, cnt_snoc hj] at z
        have := cnt_nn (ts.take (ts.length - 1 - i))
        unfold chosenB at z
        rw [if_pos y] at z
        omega
      exact step_gone tok (by omega) hj r hm
    · exact ih (by omega) j t hj q hm0
theorem last_one {Rs : List (List Int)} {ts : List (Int × Int)} {f : Int} (tok : TOk Rs ts) (ok : LnOk Rs ts f) (hL : 1 ≤ cnt ts) (h0 : ∃ q ∈ rowAt Rs f, lvF ts q = cnt ts) : ∀ i, i ≤ ts.length → (∃ q ∈ (lrn Rs ts f i).1, lvF ts q = cnt ts) ∧
    ∀ (j : Nat) (t : Int × Int), ts[j]? = some t → ts.length - i ≤ j → -t.1 ∈ (lrn Rs ts f i).1 → lvF ts (-t.1) = cnt ts → ∀ q ∈ (lrn Rs ts f i).1, lvF ts q = cnt ts → q = -t.1 := by
  intro i
  induction i with
  | zero =>
    intro _
    refine ⟨h0, fun j t hj h => ?_⟩
    have := (List.getElem?_eq_some_iff.mp hj).1
    omega
  | succ i ih =>
    intro hi
    obtain ⟨⟨q0, hq0, l0⟩, un⟩ := ih (by omega)
    obtain ⟨t, ht, e, hmem⟩ := step_mem (Rs := Rs) (f := f) tok (show i < ts.length by omega)
    have hi' : i < ts.length := by omega
    have lt0 := lvF_at tok.negs ht
    by_cases r : replB ts (lrn Rs ts f i).1 (cnt ts) (-t.1) t.2 = true
    · obtain ⟨r1, r2, r3⟩ := replB_true r
      have gone := step_gone tok hi' ht r
      rcases r3 with z | ⟨z, o, ho, no, lo⟩
      · refine ⟨⟨q0, step_stay tok hi' ht hq0 (.inl (fun w => by rw [w] at l0; omega)), l0⟩, fun j u hj h hm lu q hq lq => ?_⟩
        have hm0 := step_far tok hi' hj (by omega) hm
        rcases Nat.lt_or_ge j (ts.length - i) with w | w
        · have ej : j = ts.length - 1 - i := by omega
          subst ej
          rw [ht] at hj
          cases hj
          omega
        · rcases hmem q hq with v | ⟨j', u', h1, h2, h3, _⟩
          · exact un j u hj w hm0 lu q v lq
          · have l' := lvF_at tok.negs h2
            rw [← h3] at l'
            have := cnt_take_le (ts := ts) (show j' + 1 ≤ ts.length - 1 - i + 1 by omega)
            omega
      · refine ⟨⟨o, step_stay tok hi' ht ho (.inl no), lo⟩, fun j u hj h hm lu q hq lq => ?_⟩
        have hm0 := step_far tok hi' hj (by omega) hm
        rcases Nat.lt_or_ge j (ts.length - i) with w | w
        · have ej : j = ts.length - 1 - i := by omega
          subst ej
          rw [ht] at hj
          cases hj
          exact absurd hm gone
        · have e1 := un j u hj w hm0 lu (-t.1) r1 z
          have := tok.same_ix ht hj (by omega)
          omega
    · have r' : replB ts (lrn Rs ts f i).1 (cnt ts) (-t.1) t.2 = false := by
        cases h : replB ts (lrn Rs ts f i).1 (cnt ts) (-t.1) t.2 with
        | true => exact absurd h r
        | false => rfl
      have e' : (lrn Rs ts f (i + 1)).1 = (lrn Rs ts f i).1 := by
        rw [e]
        unfold stepL
        rw [if_neg r]
      rw [e']
      refine ⟨⟨q0, hq0, l0⟩, fun j u hj h hm lu q hq lq => ?_⟩
      rcases Nat.lt_or_ge j (ts.length - i) with w | w
      · have ej : j = ts.length - 1 - i := by omega
        subst ej
        rw [ht] at hj
        cases hj
        apply Decidable.byContradiction
        intro nq
        by_cases y : t.2 = -1
        · obtain ⟨jq, u, hu, eq⟩ := negs_ix (kept_in ok i q hq)
          subst eq
          have lq' := lvF_at tok.negs hu
          rcases Nat.lt_trichotomy jq (ts.length - 1 - i) with c | c | c
          · have c1 := cnt_take_le (ts := ts) (show jq + 1 ≤ ts.length - 1 - i by omega)
            have c2 := cnt_snoc ht
            unfold chosenB at c2
            rw [if_pos y] at c2
            omega
          · subst c
            rw [ht] at hu
            cases hu
            exact nq rfl
          · have e1 := un jq u hu (by omega) hq lq (-t.1) hm lu
            exact nq e1.symm
        · exact r (replB_of hm y (.inr ⟨lu, q, hq, nq, lq⟩))
      · exact un j u hj w hm lu q hq lq
theorem part_mem {Rs : List (List Int)} {ts : List (Int × Int)} {f q : Int} (h : q ∈ partF Rs ts f) : q ∈ negs ts ∧ q ∈ (lrn Rs ts f ts.length).1 := by
  obtain ⟨h1, h2⟩ := List.mem_filter.mp h
  exact ⟨List.mem_reverse.mp h1, of_decide_eq_true h2⟩
theorem part_nz {Rs : List (List Int)} {ts : List (Int × Int)} {f q : Int} (tok : TOk Rs ts) (h : q ∈ partF Rs ts f) : lvF ts q ≠ 0 := by
  obtain ⟨h1, h2⟩ := part_mem h
  obtain ⟨j, t, hj, e⟩ := negs_ix h1
  subst e
  exact none_zero tok ts.length (Nat.le_refl _) j t hj (by omega) h2
theorem part_zero {Rs : List (List Int)} {ts : List (Int × Int)} {f : Int} (tok : TOk Rs ts) (h : cnt ts = 0) : partF Rs ts f = [] := by
  rw [List.eq_nil_iff_forall_not_mem]
  intro q hq
  have h1 := part_nz tok hq
  have h2 := lvF_le (ts := ts) q
  have h3 := lvF_nn (ts := ts) q
  omega
theorem part_one {Rs : List (List Int)} {ts : List (Int × Int)} {f : Int} (tok : TOk Rs ts) (ok : LnOk Rs ts f) (hL : 1 ≤ cnt ts) (h0 : ∃ q ∈ rowAt Rs f, lvF ts q = cnt ts) : ∃ a rest, partF Rs ts f = a :: rest ∧ lvF ts a = cnt ts ∧ ∀ r ∈ rest, lvF ts r ≠ cnt ts := by
  obtain ⟨⟨q, hq, lq⟩, un⟩ := last_one tok ok hL h0 ts.length (Nat.le_refl _)
  have hn := kept_in ok ts.length q hq
  have hp : q ∈ partF Rs ts f := List.mem_filter.mpr ⟨List.mem_reverse.mpr hn, decide_eq_true hq⟩
  have only : ∀ r ∈ partF Rs ts f, lvF ts r = cnt ts → r = q := fun r hr lr => by
    obtain ⟨j, t, hj, e⟩ := negs_ix hn
    subst e
    exact un j t hj (by omega) hq lq r (part_mem hr).2 lr
  have pw : (partF Rs ts f).Pairwise fun a b => lvF ts b ≤ lvF ts a := by
    refine List.Pairwise.filter _ ?_
    rw [List.pairwise_reverse, List.pairwise_iff_getElem]
    intro i j hi hj hij
    rw [negs_len] at hi hj
    have ei := negs_get (List.getElem?_eq_getElem hi)
    have ej := negs_get (List.getElem?_eq_getElem hj)
    rw [List.getElem?_eq_getElem (by rw [negs_len]; exact hi)] at ei
    rw [List.getElem?_eq_getElem (by rw [negs_len]; exact hj)] at ej
    have ei' := Option.some.inj ei
    have ej' := Option.some.inj ej
    show lvF ts ((negs ts)[i]'_) ≤ lvF ts ((negs ts)[j]'_)
    rw [ei', ej', lvF_at tok.negs (List.getElem?_eq_getElem hi), lvF_at tok.negs (List.getElem?_eq_getElem hj)]
    exact cnt_take_le (by omega)
  have nd : (partF Rs ts f).Nodup := List.Pairwise.filter _ (by rw [List.pairwise_reverse]; exact List.Pairwise.imp (fun h => Ne.symm h) tok.negs)
  generalize partF Rs ts f = ps at hp only pw nd
  match ps, hp, only, pw, nd with
  | a :: rest, hp, only, pw, nd =>
    have la : lvF ts a = cnt ts := by
      rcases List.mem_cons.mp hp with e | e
      · rw [← e]; exact lq
      · have h1 := (List.pairwise_cons.mp pw).1 q e
        have h2 := lvF_le (ts := ts) a
        omega
    refine ⟨a, rest, rfl, la, fun r hr lr => ?_⟩
    have e1 := only r (List.mem_cons_of_mem _ hr) lr
    have e2 := only a List.mem_cons_self la
    rw [e1, ← e2] at hr
    exact (List.nodup_cons.mp nd).1 hr
theorem grown_end {Rs : List (List Int)} {lg lg' : List (Int × Int)} {hs : List Int} {o : Option Nat} (g : Grown Rs lg hs lg' o) : hs = lg.map Prod.fst → FinO Rs (lg'.map Prod.fst) o := fun e => by
  obtain ⟨es, e1, _, h⟩ := grown_forc g
  rw [e1, List.map_append, ← e]
  exact h
theorem play_rest {m : Int} {Rs : List (List Int)} {ts lg : List (Int × Int)} (g : Play m Rs ts lg none) : NoneAhead Rs (lg.map Prod.fst) Rs.length := by
  cases g with
  | force g => exact grown_end g rfl
  | turn _ _ _ _ _ _ g => exact grown_end g rfl
theorem last_row {Rs : List (List Int)} {ts : List (Int × Int)} {row : List Int} {n : Nat} (tok : TOk Rs ts) (fr : FRow ts row n) (hL : 1 ≤ cnt ts) : ∃ q ∈ row, lvF ts q = cnt ts := by
  have ne : ts ≠ [] := fun e => by rw [e] at hL; exact absurd hL (by decide)
  have hl := List.getLast?_eq_some_getLast ne
  refine ⟨_, fr.last _ hl, ?_⟩
  have h2 : ts[ts.length - 1]? = some (ts.getLast ne) := by rw [← hl, List.getLast?_eq_getElem?]
  have hp : 0 < ts.length := List.length_pos_iff.mpr ne
  rw [lvF_at tok.negs h2, show ts.length - 1 + 1 = ts.length by omega, cnt_all]
end L2

/-! OWN: the line that is learnt goes well. Behind Ln4. -/
namespace L2
open PySem
/-- the places that were replaced, in the order of going back -/
def reps (Rs : List (List Int)) (ts : List (Int × Int)) (f : Int) : Nat → List (Int × Int)
  | 0 => []
  | i + 1 => match ts.reverse[i]? with
    | some t => if replB ts (lrn Rs ts f i).1 (cnt ts) (-t.1) t.2 = true then reps Rs ts f i ++ [t] else reps Rs ts f i
    | none => reps Rs ts f i
theorem reps_succ {Rs : List (List Int)} {ts : List (Int × Int)} {f : Int} {i : Nat} {t : Int × Int} (h : ts.reverse[i]? = some t) : reps Rs ts f (i + 1) = if replB ts (lrn Rs ts f i).1 (cnt ts) (-t.1) t.2 = true then reps Rs ts f i ++ [t] else reps Rs ts f i := by
  show (match ts.reverse[i]? with | some t => _ | none => _) = _
  rw [h]
theorem reps_hint {Rs : List (List Int)} {ts : List (Int × Int)} {f : Int} : ∀ i, i ≤ ts.length → (lrn Rs ts f i).2 = f :: (reps Rs ts f i).map Prod.snd := by
  intro i
  induction i with
  | zero => intro _; rfl
  | succ i ih =>
    intro hi
    obtain ⟨t, ht⟩ : ∃ t, ts.reverse[i]? = some t := ⟨_, List.getElem?_eq_getElem (by rw [List.length_reverse]; omega)⟩
    rw [lrn_succ ht, reps_succ ht]
    unfold stepL
    split
    · show (lrn Rs ts f i).2 ++ [t.2] = _
      rw [ih (by omega), List.map_append]
      rfl
    · exact ih (by omega)
theorem reps_pre {Rs : List (List Int)} {ts : List (Int × Int)} {f : Int} : ∀ {i j : Nat}, i ≤ j → j ≤ ts.length → ∃ more, reps Rs ts f j = reps Rs ts f i ++ more := by
  intro i j h
  induction h with
  | refl => exact fun _ => ⟨[], (List.append_nil _).symm⟩
  | @step j _ ih =>
    intro hj
    obtain ⟨more, e⟩ := ih (by omega)
    obtain ⟨t, ht⟩ : ∃ t, ts.reverse[j]? = some t := ⟨_, List.getElem?_eq_getElem (by rw [List.length_reverse]; omega)⟩
    rw [reps_succ ht]
    split
    · exact ⟨more ++ [t], by rw [e, List.append_assoc]⟩
    · exact ⟨more, e⟩
/-- at which stage a place was replaced -/
theorem reps_at {Rs : List (List Int)} {ts : List (Int × Int)} {f : Int} : ∀ (n : Nat), n ≤ ts.length → ∀ (l : Nat) (t : Int × Int), (reps Rs ts f n)[l]? = some t → ∃ i, i < n ∧ ts[ts.length - 1 - i]? = some t ∧ replB ts (lrn Rs ts f i).1 (cnt ts) (-t.1) t.2 = true ∧ (reps Rs ts f (i + 1)).length = l + 1 := by
  intro n
  induction n with
  | zero => intro _ l t h; cases h
  | succ n ih =>
    intro hn l t h
    obtain ⟨u, hu⟩ : ∃ u, ts.reverse[n]? = some u := ⟨_, List.getElem?_eq_getElem (by rw [List.length_reverse]; omega)⟩
    have er := reps_succ (Rs := Rs) (f := f) hu
    by_cases r : replB ts (lrn Rs ts f n).1 (cnt ts) (-u.1) u.2 = true
    · rw [if_pos r] at er
      rw [er] at h
      rcases Nat.lt_or_ge l (reps Rs ts f n).length with q | q
      · rw [List.getElem?_append_left q] at h
        obtain ⟨i, h1, h2, h3, h4⟩ := ih (by omega) l t h
        exact ⟨i, by omega, h2, h3, h4⟩
      · rw [List.getElem?_append_right q] at h
        have e0 : l - (reps Rs ts f n).length = 0 := by
          have := (List.getElem?_eq_some_iff.mp h).1
          simp only [List.length_singleton] at this
          omega
        rw [e0] at h
        cases h
        refine ⟨n, by omega, ?_, r, by rw [er, List.length_append]; simp only [List.length_singleton]; omega⟩
        rw [← rev_get (by omega)]
        exact hu
    · rw [if_neg r] at er
      rw [er] at h
      obtain ⟨i, h1, h2, h3, h4⟩ := ih (by omega) l t h
      exact ⟨i, by omega, h2, h3, h4⟩
theorem reps_in {Rs : List (List Int)} {ts : List (Int × Int)} {f : Int} {t : Int × Int} (h : t ∈ reps Rs ts f ts.length) : t ∈ ts := by
  obtain ⟨l, hl⟩ := List.mem_iff_getElem?.mp h
  obtain ⟨i, _, h2, _⟩ := reps_at ts.length (Nat.le_refl _) l t hl
  exact List.mem_of_getElem? h2
/-- what is kept at a stage is kept in the end, or gave way later -/
theorem kept_or {Rs : List (List Int)} {ts : List (Int × Int)} {f : Int} (tok : TOk Rs ts) (ok : LnOk Rs ts f) : ∀ (d i : Nat), i + d = ts.length → ∀ q ∈ (lrn Rs ts f i).1, q ∈ partF Rs ts f ∨ -q ∈ ((reps Rs ts f ts.length).drop (reps Rs ts f i).length).map Prod.fst := by
  intro d
  induction d with
  | zero =>
    intro i e q hq
    have ei : i = ts.length := by omega
    subst ei
    exact .inl (List.mem_filter.mpr ⟨List.mem_reverse.mpr (kept_in ok _ q hq), decide_eq_true hq⟩)
  | succ d ih =>
    intro i e q hq
    have hi : i < ts.length := by omega
    obtain ⟨t, ht, _, _⟩ := step_mem (Rs := Rs) (f := f) tok hi
    have hr := rev_get hi
    rw [ht] at hr
    have er := reps_succ (Rs := Rs) (f := f) hr
    obtain ⟨more, em⟩ := reps_pre (Rs := Rs) (ts := ts) (f := f) (show i + 1 ≤ ts.length by omega) (Nat.le_refl _)
    by_cases r : replB ts (lrn Rs ts f i).1 (cnt ts) (-t.1) t.2 = true
    · rw [if_pos r] at er
      have dr : (reps Rs ts f ts.length).drop (reps Rs ts f i).length = t :: more := by
        rw [em, er, List.append_assoc, List.drop_left]
        rfl
      by_cases z : q = -t.1
      · right
        rw [dr, z, Int.neg_neg]
        exact List.mem_map.mpr ⟨t, List.mem_cons_self, rfl⟩
      · rcases ih (i + 1) (by omega) q (step_stay tok hi ht hq (.inl z)) with w | w
        · exact .inl w
        · right
          have dr' : (reps Rs ts f ts.length).drop (reps Rs ts f (i + 1)).length = more := by rw [em, List.drop_left]
          rw [dr'] at w
          rw [dr]
          rw [List.map_cons]
          exact List.mem_cons_of_mem _ w
    · have r' : replB ts (lrn Rs ts f i).1 (cnt ts) (-t.1) t.2 = false := by
        cases h : replB ts (lrn Rs ts f i).1 (cnt ts) (-t.1) t.2 with
        | true => exact absurd h r
        | false => rfl
      rw [if_neg r] at er
      have := ih (i + 1) (by omega) q (step_stay tok hi ht hq (.inr r'))
      rw [er] at this
      exact this
theorem gone_ever {Rs : List (List Int)} {ts : List (Int × Int)} {f : Int} (tok : TOk Rs ts) {i : Nat} {t : Int × Int} (hi : i < ts.length) (ht : ts[ts.length - 1 - i]? = some t) (r : replB ts (lrn Rs ts f i).1 (cnt ts) (-t.1) t.2 = true) : ∀ d, i + 1 + d ≤ ts.length → -t.1 ∉ (lrn Rs ts f (i + 1 + d)).1 := by
  intro d
  induction d with
  | zero => exact fun _ => step_gone tok hi ht r
  | succ d ih =>
    intro h hm
    exact ih (by omega) (step_far tok (i := i + 1 + d) (by omega) ht (by omega) hm)
/-- what is held ahead of the k-th hint -/
def heldK (Rs : List (List Int)) (ts : List (Int × Int)) (f : Int) (k : Nat) : List Int := (partF Rs ts f).map (fun p => -p) ++ ((reps Rs ts f ts.length).reverse.take k).map Prod.fst
theorem TOk.cons {Rs : List (List Int)} {ts : List (Int × Int)} (tok : TOk Rs ts) {q : Int} (h1 : q ∈ ts.map Prod.fst) (h2 : -q ∈ ts.map Prod.fst) : False := by
  obtain ⟨u, hu, eu⟩ := List.mem_map.mp h1
  obtain ⟨v, hv, ev⟩ := List.mem_map.mp h2
  obtain ⟨i, hi⟩ := List.mem_iff_getElem?.mp hu
  obtain ⟨j, hj⟩ := List.mem_iff_getElem?.mp hv
  have u0 := (tok i u hi).1
  rcases Nat.lt_trichotomy i j with c | c | c
  · exact (tok.nd i j c u v hi hj).2 (by omega)
  · subst c
    rw [hi] at hj
    cases hj
    omega
  · exact (tok.nd j i c v u hj hi).2 (by omega)
theorem heldK_in {Rs : List (List Int)} {ts : List (Int × Int)} {f : Int} {k : Nat} {q : Int} (h : q ∈ heldK Rs ts f k) : q ∈ ts.map Prod.fst := by
  rcases List.mem_append.mp h with z | z
  · obtain ⟨p, hp, e⟩ := List.mem_map.mp z
    rw [← e]
    exact mem_negs.mp (part_mem hp).1
  · obtain ⟨t, ht, e⟩ := List.mem_map.mp z
    exact List.mem_map.mpr ⟨t, reps_in (List.mem_reverse.mp (List.mem_of_mem_take ht)), e⟩
theorem once_same {a : Int} : ∀ l : List Int, (∀ x ∈ l, x = a) → once [a] l = [a]
  | [], _ => rfl
  | x :: l, h => by
    have e := h x List.mem_cons_self
    subst e
    have : once [x] (x :: l) = once [x] l := by simp [once]
    rw [this]
    exact once_same l fun y hy => h y (List.mem_cons_of_mem _ hy)
theorem opn_only {row hs : List Int} {a : Int} (h1 : a ∈ row) (h2 : a ∉ hs) (h3 : -a ∉ hs) (h4 : ∀ q ∈ row, q ≠ a → -q ∈ hs) : opn row hs = [a] := by
  unfold opn
  have hm : a ∈ row.filter fun p => decide (p ∉ hs) && decide (-p ∉ hs) := List.mem_filter.mpr ⟨h1, by simp [h2, h3]⟩
  have hall : ∀ x ∈ row.filter (fun p => decide (p ∉ hs) && decide (-p ∉ hs)), x = a := fun x hx => by
    obtain ⟨x1, x2⟩ := List.mem_filter.mp hx
    rw [Bool.and_eq_true] at x2
    apply Decidable.byContradiction
    intro n
    exact (of_decide_eq_true x2.2) (h4 x x1 n)
  generalize (row.filter fun p => decide (p ∉ hs) && decide (-p ∉ hs)) = l at hm hall
  match l, hm, hall with
  | x :: l, _, hall =>
    have e := hall x List.mem_cons_self
    subst e
    have : once [] (x :: l) = once [x] l := by simp [once]
    rw [this]
    exact once_same l fun y hy => hall y (List.mem_cons_of_mem _ hy)
theorem opn_no {row hs : List Int} (h : ∀ q ∈ row, -q ∈ hs) : opn row hs = [] := by
  rw [List.eq_nil_iff_forall_not_mem]
  intro q hq
  obtain ⟨h1, _, h3⟩ := opn_mem.mp hq
  exact h3 (h q h1)
theorem rep_held {Rs : List (List Int)} {ts : List (Int × Int)} {f : Int} {k : Nat} (hk : k ≤ (reps Rs ts f ts.length).length) {q : Int} (h : q ∈ partF Rs ts f ∨ -q ∈ ((reps Rs ts f ts.length).drop ((reps Rs ts f ts.length).length - k)).map Prod.fst) : -q ∈ heldK Rs ts f k := by
  rcases h with z | z
  · exact List.mem_append_left _ (List.mem_map.mpr ⟨q, z, rfl⟩)
  · refine List.mem_append_right _ ?_
    obtain ⟨t, ht, e⟩ := List.mem_map.mp z
    refine List.mem_map.mpr ⟨t, ?_, e⟩
    have : (reps Rs ts f ts.length).reverse.take k = ((reps Rs ts f ts.length).drop ((reps Rs ts f ts.length).length - k)).reverse := by
      rw [List.take_reverse]
    rw [this]
    exact List.mem_reverse.mpr ht
/-- a hint that is not the last leaves one part -/
theorem hint_goes {Rs : List (List Int)} {ts : List (Int × Int)} {f : Int} (tok : TOk Rs ts) (ok : LnOk Rs ts f) {k : Nat} {t : Int × Int} (h : (reps Rs ts f ts.length).reverse[k]? = some t) : (0 ≤ t.2 ∧ t.2 < (Rs.length : Int)) ∧ ((rowAt Rs t.2).any fun q => decide (q ∈ heldK Rs ts f k)) = false ∧ opn (rowAt Rs t.2) (heldK Rs ts f k) = [t.1] ∧ heldK Rs ts f (k + 1) = heldK Rs ts f k ++ [t.1] := by
  have hk : k < (reps Rs ts f ts.length).length := by
    have := (List.getElem?_eq_some_iff.mp h).1
    rw [List.length_reverse] at this
    exact this
  have hR : (reps Rs ts f ts.length)[(reps Rs ts f ts.length).length - 1 - k]? = some t := by
    rw [← List.getElem?_reverse (by omega)]
    exact h
  obtain ⟨i, h1, h2, h3, h4⟩ := reps_at ts.length (Nat.le_refl _) _ t hR
  have htm : t ∈ ts := List.mem_of_getElem? h2
  have hy := (replB_true h3).2.1
  have bd := ok.why t htm hy
  have nofst : -t.1 ∉ ts.map Prod.fst := fun z => tok.cons (List.mem_map.mpr ⟨t, htm, rfl⟩) z
  obtain ⟨kk, row, e1, e2, e3, e4⟩ : ∃ (k : Nat) (r : List Int), t.2 = (k : Int) ∧ Rs[k]? = some r ∧ t.1 ∈ r ∧ ∀ p ∈ r, p ≠ t.1 → -p ∈ (ts.take (ts.length - 1 - i)).map Prod.fst := by
    rcases (tok _ t h2).2.2.2.2 with w | w
    · exact absurd w hy
    · exact w
  have er : rowAt Rs t.2 = row := by rw [e1, rowAt_of e2]
  have oth : ∀ q ∈ row, q ≠ t.1 → -q ∈ heldK Rs ts f k := fun q hq n => by
    refine rep_held (by omega) ?_
    have hin : q ∈ (lrn Rs ts f (i + 1)).1 := by
      obtain ⟨t', ht', e, _⟩ := step_mem (Rs := Rs) (f := f) tok h1
      rw [h2] at ht'
      cases ht'
      rw [e]
      unfold stepL
      rw [if_pos h3]
      exact List.mem_append_right _ (List.mem_filter.mpr ⟨by rw [er]; exact hq, decide_eq_true n⟩)
    have := kept_or tok ok (ts.length - (i + 1)) (i + 1) (by omega) q hin
    rw [h4] at this
    rw [show (reps Rs ts f ts.length).length - k = (reps Rs ts f ts.length).length - 1 - k + 1 by omega]
    exact this
  have tn : t.1 ∉ heldK Rs ts f k := fun z => by
    rcases List.mem_append.mp z with z | z
    · obtain ⟨p, hp, e⟩ := List.mem_map.mp z
      have ep : p = -t.1 := by omega
      rw [ep] at hp
      have g := gone_ever tok h1 h2 h3 (ts.length - (i + 1)) (by omega)
      rw [show i + 1 + (ts.length - (i + 1)) = ts.length by omega] at g
      exact g (part_mem hp).2
    · obtain ⟨u, hu, eu⟩ := List.mem_map.mp z
      obtain ⟨j, hj⟩ := List.mem_iff_getElem?.mp hu
      have hjk : j < k := by
        have := (List.getElem?_eq_some_iff.mp hj).1
        rw [List.length_take] at this
        omega
      rw [List.getElem?_take, if_pos hjk] at hj
      have hjR : (reps Rs ts f ts.length)[(reps Rs ts f ts.length).length - 1 - j]? = some u := by
        rw [← List.getElem?_reverse (by omega)]
        exact hj
      obtain ⟨i', _, w2, _, w4⟩ := reps_at ts.length (Nat.le_refl _) _ u hjR
      have ei := tok.same_ix h2 w2 eu.symm
      have : i = i' := by omega
      subst this
      omega
  have tn2 : -t.1 ∉ heldK Rs ts f k := fun z => nofst (heldK_in z)
  refine ⟨⟨bd.1, bd.2.1⟩, ?_, ?_, ?_⟩
  · rw [er, List.any_eq_false]
    intro q hq z
    have z1 := of_decide_eq_true z
    by_cases n : q = t.1
    · rw [n] at z1
      exact tn z1
    · exact tok.cons (heldK_in z1) (heldK_in (oth q hq n))
  · rw [er]
    exact opn_only e3 tn tn2 oth
  · unfold heldK
    rw [take_snoc h, List.map_append, List.append_assoc]
    rfl
/-- the last hint leaves none -/
theorem hint_ends {Rs : List (List Int)} {ts : List (Int × Int)} {f : Int} (tok : TOk Rs ts) (ok : LnOk Rs ts f) : ((rowAt Rs f).any fun q => decide (q ∈ heldK Rs ts f (reps Rs ts f ts.length).length)) = false ∧ opn (rowAt Rs f) (heldK Rs ts f (reps Rs ts f ts.length).length) = [] := by
  have oth : ∀ q ∈ rowAt Rs f, -q ∈ heldK Rs ts f (reps Rs ts f ts.length).length := fun q hq => by
    refine rep_held (Nat.le_refl _) ?_
    have := kept_or tok ok ts.length 0 (by omega) q hq
    rw [Nat.sub_self]
    exact this
  refine ⟨?_, opn_no oth⟩
  rw [List.any_eq_false]
  intro q hq z
  exact tok.cons (heldK_in (of_decide_eq_true z)) (heldK_in (oth q hq))
theorem hints_are {Rs : List (List Int)} {ts : List (Int × Int)} {f : Int} : (hintF Rs ts f).reverse = (reps Rs ts f ts.length).reverse.map Prod.snd ++ [f] := by
  unfold hintF
  rw [reps_hint _ (Nat.le_refl _), List.reverse_cons, List.map_reverse]
end L2

/-! OWN: what the drawing of a trail leaves. Behind Ln5. -/
namespace L2
open PySem
structure Got (K : PySem.W.Frag) (H : Hp) (rl tl : Addr) (xs zs : List V) (Rs : List (List Int)) (ts : List (Int × Int)) (fl : Int) : Prop where
  r : H rl = some (.lst xs)
  rh : HasL K H (Rs.map dRow) xs
  t : H tl = some (.lst zs)
  th : HasL K H (ts.map dP) zs
  ne : rl ≠ tl
  tok : TOk Rs ts
  ok : LnOk Rs ts fl
  last : 1 ≤ cnt ts → ∃ q ∈ rowAt Rs fl, lvF ts q = cnt ts
  t61 : ts.length ≤ 61
  r20 : ∀ r ∈ Rs, r.length ≤ 100
  R300 : Rs.length ≤ 300
theorem Got.same {K : PySem.W.Frag} {H H' : Hp} {rl tl : Addr} {xs zs : List V} {Rs : List (List Int)} {ts : List (Int × Int)} {fl : Int} (g : Got K H rl tl xs zs Rs ts fl) (s : Same H H') : Got K H' rl tl xs zs Rs ts fl :=
  ⟨s _ _ g.r, HasL.keep s.kt (nols_rows _) g.rh, s _ _ g.t, HasL.keep s.kt (nols_dPs _) g.th, g.ne, g.tok, g.ok, g.last, g.t61, g.r20, g.R300⟩
theorem Got.r100 {K : PySem.W.Frag} {H : Hp} {rl tl : Addr} {xs zs : List V} {Rs : List (List Int)} {ts : List (Int × Int)} {fl : Int} (g : Got K H rl tl xs zs Rs ts fl) : ∀ r ∈ Rs, r.length ≤ 100 := g.r20
theorem Got.zl {K : PySem.W.Frag} {H : Hp} {rl tl : Addr} {xs zs : List V} {Rs : List (List Int)} {ts : List (Int × Int)} {fl : Int} (g : Got K H rl tl xs zs Rs ts fl) : zs.length = ts.length := by rw [← g.th.length, List.length_map]
theorem Got.xl {K : PySem.W.Frag} {H : Hp} {rl tl : Addr} {xs zs : List V} {Rs : List (List Int)} {ts : List (Int × Int)} {fl : Int} (g : Got K H rl tl xs zs Rs ts fl) : xs.length = Rs.length := by rw [← g.rh.length, List.length_map]
theorem cut_from1 (ps : List Int) : cutV (ps.map V.int) (some 1) none = (ps.drop 1).map V.int := by
  unfold cutV
  rw [show HT.sIx (ps.map V.int).length 0 (some 1) = min 1 (ps.map V.int).length from HT.sIx_nat _ 0 1]
  show ((ps.map V.int).drop (min 1 (ps.map V.int).length)).take ((ps.map V.int).length - min 1 (ps.map V.int).length) = _
  rw [← List.length_drop, List.take_length, List.map_drop]
  cases ps with
  | nil => rfl
  | cons a r => rw [show min 1 ((a :: r).map V.int).length = 1 by simp only [List.map_cons, List.length_cons]; omega]
end L2

/-! OWN: rounds: the learnt row put behind, the trail cut. Behind Dr3, Ext14. -/
namespace L2
open PySem
/-- no row of which all parts fail -/
def NoF (Rs : List (List Int)) (hs : List Int) : Prop := ∀ r ∈ Rs, ∃ q ∈ r, -q ∉ hs
/-- ahead of each chosen part no row fails -/
def Comp (Rs : List (List Int)) (ts : List (Int × Int)) : Prop := ∀ (i : Nat) (t : Int × Int), ts[i]? = some t → t.2 = -1 → NoF Rs ((ts.take i).map Prod.fst)
theorem nof_none {Rs : List (List Int)} {ts : List (Int × Int)} (tok : TOk Rs ts) (na : NoneAhead Rs (ts.map Prod.fst) Rs.length) : NoF Rs (ts.map Prod.fst) := fun r hr => by
  apply Decidable.byContradiction
  intro hno
  have all0 : ∀ q ∈ r, -q ∈ ts.map Prod.fst := fun q hq => by
    apply Decidable.byContradiction
    exact fun hn => hno ⟨q, hq, hn⟩
  obtain ⟨k, hk⟩ := List.mem_iff_getElem?.mp hr
  have nd := na k (List.getElem?_eq_some_iff.mp hk).1 r hk
  have noheld : (r.any fun q => decide (q ∈ ts.map Prod.fst)) = false := by
    rw [List.any_eq_false]
    intro q hq z
    exact tok.cons (of_decide_eq_true z) (all0 q hq)
  have : isDue r (ts.map Prod.fst) = true := by
    unfold isDue
    rw [noheld, opn_no all0]
    rfl
  rw [nd] at this
  cases this
theorem Comp.nil (Rs : List (List Int)) : Comp Rs [] := fun i t h => by cases h
theorem Comp.grown {Rs : List (List Int)} {ts lg : List (Int × Int)} {hs : List Int} {o : Option Nat} (c : Comp Rs ts) (g : Grown Rs ts hs lg o) : Comp Rs lg := fun i t h y => by
  obtain ⟨es, e, fo, _⟩ := grown_forc g
  subst e
  rcases Nat.lt_or_ge i ts.length with z | z
  · rw [List.getElem?_append_left z] at h
    rw [take_app (Nat.le_of_lt z)]
    exact c i t h y
  · rw [List.getElem?_append_right z] at h
    obtain ⟨k, _, ek, _⟩ := fo.drop h
    omega
theorem Comp.snoc {Rs : List (List Int)} {ts : List (Int × Int)} {p : Int} (c : Comp Rs ts) (na : NoF Rs (ts.map Prod.fst)) : Comp Rs (ts ++ [(p, -1)]) := fun i t h y => by
  rcases Nat.lt_or_ge i ts.length with z | z
  · rw [List.getElem?_append_left z] at h
    rw [take_app (Nat.le_of_lt z)]
    exact c i t h y
  · have : i = ts.length := by
      have := (List.getElem?_eq_some_iff.mp h).1
      rw [List.length_append] at this
      simp only [List.length_singleton] at this
      omega
    rw [this, take_app (Nat.le_refl _), List.take_length]
    exact na
theorem Comp.play {m : Int} (m60 : m ≤ 60) {Rs : List (List Int)} (hR : ∀ r ∈ Rs, RowD r) {ts lg : List (Int × Int)} {o : Option Nat} (tok : TOk Rs ts) (c : Comp Rs ts) (g : Play m Rs ts lg o) : Comp Rs lg := by
  induction g with
  | force g => exact c.grown g
  | @turn lg lg' p o pl p0 p1 p2 n1 n2 g ih => exact (ih.snoc (nof_none (TOk.play m60 hR pl tok) (play_rest pl))).grown g
theorem Comp.take {Rs : List (List Int)} {ts : List (Int × Int)} (c : Comp Rs ts) (j : Nat) : Comp Rs (ts.take j) := fun i t h y => by
  have hi : i < j := by
    have := (List.getElem?_eq_some_iff.mp h).1
    rw [List.length_take] at this
    omega
  rw [List.getElem?_take, if_pos hi] at h
  rw [List.take_take, Nat.min_eq_left (Nat.le_of_lt hi)]
  exact c i t h y
theorem TOk.take {Rs : List (List Int)} {ts : List (Int × Int)} (h : TOk Rs ts) (j : Nat) : TOk Rs (ts.take j) := fun i t e => by
  have hi : i < j := by
    have := (List.getElem?_eq_some_iff.mp e).1
    rw [List.length_take] at this
    omega
  rw [List.getElem?_take, if_pos hi] at e
  rw [List.take_take, Nat.min_eq_left (Nat.le_of_lt hi)]
  exact h i t e
theorem last_chosen : ∀ (ts : List (Int × Int)), 1 ≤ cnt ts → ∃ (i : Nat) (t : Int × Int), ts[i]? = some t ∧ t.2 = -1 ∧ cnt (ts.take i) + 1 = cnt ts := by
  intro ts
  generalize hn : ts.length = n
  induction n generalizing ts with
  | zero =>
    intro h
    rw [List.length_eq_zero_iff.mp hn] at h
    exact absurd h (by decide)
  | succ n ih =>
    intro h
    obtain ⟨xs, t, rfl⟩ : ∃ xs t, ts = xs ++ [t] := ⟨ts.dropLast, ts.getLast (by intro e; rw [e] at hn; cases hn), (List.dropLast_concat_getLast _).symm⟩
    rw [List.length_append] at hn
    simp only [List.length_singleton] at hn
    have e1 : cnt (xs ++ [t]) = cnt xs + chosenB t := by rw [cnt_app]; simp [cnt]
    by_cases y : t.2 = -1
    · refine ⟨xs.length, t, by rw [List.getElem?_append_right (Nat.le_refl _), Nat.sub_self]; rfl, y, ?_⟩
      rw [take_app (Nat.le_refl _), List.take_length, e1]
      unfold chosenB
      rw [if_pos y]
    · have e2 : cnt (xs ++ [t]) = cnt xs := by
        rw [e1]
        unfold chosenB
        rw [if_neg y]
        omega
      rw [e2] at h
      obtain ⟨i, u, h1, h2, h3⟩ := ih xs (by omega) h
      have hi := (List.getElem?_eq_some_iff.mp h1).1
      exact ⟨i, u, by rw [List.getElem?_append_left hi]; exact h1, h2, by rw [take_app (Nat.le_of_lt hi), e2]; exact h3⟩
theorem comp_last {Rs : List (List Int)} {lg : List (Int × Int)} {k : Nat} (tok : TOk Rs lg) (c : Comp Rs lg) (f : Fails Rs lg k) (hL : 1 ≤ cnt lg) : ∃ q ∈ rowAt Rs (k : Int), lvF lg q = cnt lg := by
  obtain ⟨r, hr, hf⟩ := f
  rw [rowAt_of hr]
  obtain ⟨i, t, hi, y, ec⟩ := last_chosen lg hL
  obtain ⟨q, hq, hn⟩ := c i t hi y r (List.mem_of_getElem? hr)
  refine ⟨q, hq, ?_⟩
  obtain ⟨u, hu, eu⟩ := List.mem_map.mp (hf q hq)
  obtain ⟨j, hj⟩ := List.mem_iff_getElem?.mp hu
  have hge : i ≤ j := by
    apply Decidable.byContradiction
    intro w
    refine hn (List.mem_map.mpr ⟨u, ?_, eu⟩)
    refine List.mem_of_getElem? (i := j) ?_
    rw [List.getElem?_take, if_pos (by omega)]
    exact hj
  have eq : q = -u.1 := by omega
  have l1 := lvF_at tok.negs hj
  rw [← eq] at l1
  have c2 := cnt_snoc hi
  unfold chosenB at c2
  rw [if_pos y] at c2
  have c3 := cnt_take_le (ts := lg) (show i + 1 ≤ j + 1 by omega)
  have c4 := cnt_mono (ts := lg) (i := j + 1)
  omega
theorem Comp.fail {Rs : List (List Int)} {ts : List (Int × Int)} {row : List Int} {n : Nat} (tok : TOk Rs ts) (c : Comp Rs ts) (fr : FRow ts row n) : Comp (Rs ++ [row]) ts := fun i t h y r hr => by
  rcases List.mem_append.mp hr with z | z
  · exact c i t h y r z
  · cases List.mem_singleton.mp z
    have hi := (List.getElem?_eq_some_iff.mp h).1
    have ne : ts ≠ [] := fun e => by rw [e] at hi; exact absurd hi (Nat.not_lt_zero _)
    have hl := List.getLast?_eq_some_getLast ne
    refine ⟨_, fr.last _ hl, fun z => ?_⟩
    rw [Int.neg_neg] at z
    have h2 : ts[ts.length - 1]? = some (ts.getLast ne) := by rw [← hl, List.getLast?_eq_getElem?]
    obtain ⟨u, hu, eu⟩ := List.mem_map.mp z
    obtain ⟨k, hk⟩ := List.mem_iff_getElem?.mp hu
    have hki : k < i := by
      have := (List.getElem?_eq_some_iff.mp hk).1
      rw [List.length_take] at this
      omega
    rw [List.getElem?_take, if_pos hki] at hk
    have := tok.same_ix hk h2 eu
    omega
/-- the trail's first j places are those of a level at most lv -/
structure IsCut (ts : List (Int × Int)) (lv : Int) (j : Nat) : Prop where
  le : j ≤ ts.length
  low : ∀ m, m < j → cnt (ts.take (m + 1)) ≤ lv
  high : j < ts.length → lv < cnt (ts.take (j + 1))
theorem IsCut.inj {ts : List (Int × Int)} {lv : Int} {j k : Nat} (a : IsCut ts lv j) (b : IsCut ts lv k) : j = k := by
  rcases Nat.lt_trichotomy j k with h | h | h
  · have h1 := b.low j h
    have h2 := a.high (by have := b.le; omega)
    omega
  · exact h
  · have h1 := a.low k h
    have h2 := b.high (by have := a.le; omega)
    omega
/-- what the learnt row is by the cut trail -/
structure Round (Rs : List (List Int)) (ts : List (Int × Int)) (f n : Int) (j : Nat) : Prop where
  tok : TOk Rs ts
  ok : LnOk Rs ts f
  last : 1 ≤ cnt ts → ∃ q ∈ rowAt Rs f, lvF ts q = cnt ts
  mx : IsMaxD (((partF Rs ts f).drop 1).map (lvF ts)) n
  cut : IsCut ts n j
theorem Round.n0 {Rs : List (List Int)} {ts : List (Int × Int)} {f n : Int} {j : Nat} (R : Round Rs ts f n j) : 0 ≤ n := by
  by_cases e : ((partF Rs ts f).drop 1).map (lvF ts) = []
  · rw [R.mx.1 e]
    decide
  · obtain ⟨a, _, e2⟩ := List.mem_map.mp (R.mx.2 e).1
    rw [← e2]
    exact lvF_nn a
theorem Round.split {Rs : List (List Int)} {ts : List (Int × Int)} {f n : Int} {j : Nat} (R : Round Rs ts f n j) (ne : partF Rs ts f ≠ []) : ∃ a rest, partF Rs ts f = a :: rest ∧ lvF ts a = cnt ts ∧ n < cnt ts ∧ (∀ r ∈ rest, lvF ts r ≤ n) ∧ (1 ≤ n → ∃ r ∈ rest, lvF ts r = n) := by
  have hL : 1 ≤ cnt ts := by
    apply Decidable.byContradiction
    intro z
    have := cnt_nn ts
    exact ne (part_zero R.tok (by omega))
  obtain ⟨a, rest, e, la, hr⟩ := part_one R.tok R.ok hL (R.last hL)
  have mx := R.mx
  rw [e] at mx
  have mx' : IsMaxD (rest.map (lvF ts)) n := mx
  refine ⟨a, rest, e, la, ?_, fun r hr' => ?_, fun h1 => ?_⟩
  · by_cases z : rest.map (lvF ts) = []
    · rw [mx'.1 z]
      omega
    · obtain ⟨r, hr1, er⟩ := List.mem_map.mp (mx'.2 z).1
      have h1 := hr r hr1
      have h2 := lvF_le (ts := ts) r
      omega
  · have z : rest.map (lvF ts) ≠ [] := fun z => by
      rw [List.map_eq_nil_iff] at z
      rw [z] at hr'
      cases hr'
    exact (mx'.2 z).2 _ (List.mem_map.mpr ⟨r, hr', rfl⟩)
  · have z : rest.map (lvF ts) ≠ [] := fun z => by
      have := mx'.1 z
      omega
    obtain ⟨r, hr1, er⟩ := List.mem_map.mp (mx'.2 z).1
    exact ⟨r, hr1, er⟩
theorem part_ix {Rs : List (List Int)} {ts : List (Int × Int)} {f q : Int} (tok : TOk Rs ts) (h : q ∈ partF Rs ts f) : ∃ (i : Nat) (t : Int × Int), ts[i]? = some t ∧ q = -t.1 ∧ lvF ts q = cnt (ts.take (i + 1)) := by
  obtain ⟨i, t, hi, e⟩ := negs_ix (part_mem h).1
  exact ⟨i, t, hi, e, by rw [e]; exact lvF_at tok.negs hi⟩
theorem pre_mem {Rs : List (List Int)} {ts : List (Int × Int)} (tok : TOk Rs ts) {i m : Nat} {t : Int × Int} (hi : ts[i]? = some t) : t.1 ∈ (ts.take m).map Prod.fst ↔ i < m := by
  constructor
  · intro h
    obtain ⟨u, hu, eu⟩ := List.mem_map.mp h
    obtain ⟨k, hk⟩ := List.mem_iff_getElem?.mp hu
    have hkm : k < m := by
      have := (List.getElem?_eq_some_iff.mp hk).1
      rw [List.length_take] at this
      omega
    rw [List.getElem?_take, if_pos hkm] at hk
    rw [tok.same_ix hi hk eu.symm]
    exact hkm
  · intro h
    refine List.mem_map.mpr ⟨t, List.mem_of_getElem? (i := i) ?_, rfl⟩
    rw [List.getElem?_take, if_pos h]
    exact hi
theorem not_pos {Rs : List (List Int)} {ts : List (Int × Int)} (tok : TOk Rs ts) {i m : Nat} {t : Int × Int} (hi : ts[i]? = some t) : -t.1 ∉ (ts.take m).map Prod.fst := fun h => by
  obtain ⟨u, hu, eu⟩ := List.mem_map.mp h
  exact tok.cons (q := t.1) (List.mem_map.mpr ⟨t, List.mem_of_getElem? hi, rfl⟩) (List.mem_map.mpr ⟨u, List.mem_of_mem_take hu, eu⟩)
theorem Round.left {Rs : List (List Int)} {ts : List (Int × Int)} {f n : Int} {j : Nat} (R : Round Rs ts f n j) {a : Int} {rest : List Int} (e : partF Rs ts f = a :: rest) (la : lvF ts a = cnt ts) (nl : n < cnt ts) (hr : ∀ r ∈ rest, lvF ts r ≤ n) :
    ((partF Rs ts f).any fun p => decide (p ∈ (ts.take j).map Prod.fst)) = false ∧ opn (partF Rs ts f) ((ts.take j).map Prod.fst) = [a] := by
  have npos : ∀ q ∈ partF Rs ts f, q ∉ (ts.take j).map Prod.fst := fun q hq z => by
    obtain ⟨i, t, hi, eq, _⟩ := part_ix R.tok hq
    rw [eq] at z
    exact not_pos R.tok hi z
  have ha : a ∈ partF Rs ts f := by rw [e]; exact List.mem_cons_self
  refine ⟨?_, opn_only ha (npos a ha) (fun z => ?_) fun q hq n => ?_⟩
  · rw [List.any_eq_false]
    intro q hq z
    exact npos q hq (of_decide_eq_true z)
  · obtain ⟨i, t, hi, eq, lv⟩ := part_ix R.tok ha
    rw [eq, Int.neg_neg, pre_mem R.tok hi] at z
    have := R.cut.low i z
    omega
  · rw [e] at hq
    rcases List.mem_cons.mp hq with z | z
    · exact absurd z n
    · have hq' : q ∈ partF Rs ts f := by rw [e]; exact List.mem_cons_of_mem _ z
      obtain ⟨i, t, hi, eq, lv⟩ := part_ix R.tok hq'
      have h1 := hr q z
      rw [eq, Int.neg_neg, pre_mem R.tok hi]
      apply Decidable.byContradiction
      intro w
      have hil := (List.getElem?_eq_some_iff.mp hi).1
      have h2 := R.cut.high (by omega)
      have h3 := cnt_take_le (ts := ts) (show j + 1 ≤ i + 1 by omega)
      omega
theorem Round.next {Rs : List (List Int)} {ts : List (Int × Int)} {f n : Int} {j : Nat} (R : Round Rs ts f n j) (c : Comp Rs ts) (ne : partF Rs ts f ≠ []) : Comp (Rs ++ [partF Rs ts f]) (ts.take j) := by
  obtain ⟨a, rest, e, la, nl, hr, hx⟩ := R.split ne
  intro i t h y r hr'
  have hij : i < j := by
    have := (List.getElem?_eq_some_iff.mp h).1
    rw [List.length_take] at this
    omega
  rcases List.mem_append.mp hr' with z | z
  · exact (c.take j) i t h y r z
  · cases List.mem_singleton.mp z
    have ha : a ∈ partF Rs ts f := by rw [e]; exact List.mem_cons_self
    refine ⟨a, ha, fun z => ?_⟩
    obtain ⟨ia, ta, hia, ea, lv⟩ := part_ix R.tok ha
    rw [List.take_take, Nat.min_eq_left (Nat.le_of_lt hij), ea, Int.neg_neg, pre_mem R.tok hia] at z
    have := R.cut.low ia (by omega)
    omega
theorem part_row {Rs : List (List Int)} {ts : List (Int × Int)} {f : Int} (tok : TOk Rs ts) : RowD (partF Rs ts f) := by
  refine ⟨?_, fun p hp => ?_⟩
  · refine Nat.le_trans (List.length_filter_le _ _) ?_
    rw [List.length_reverse, negs_len]
    have := tok.len
    omega
  · obtain ⟨i, t, hi, e, _⟩ := part_ix tok hp
    have h1 := (tok i t hi).1
    have h2 := (tok i t hi).2.1
    omega
/-! ### the dict of places, as it stands -/
def pkv (ts : List (Int × Int)) (n : Nat) : List (Key × V) := (ts.take n).map fun t => (Sum.inl t.1, V.int (lvF ts (-t.1)))
theorem put_new {kvs : List (Key × V)} {k : Key} {v : V} (h : ∀ kv ∈ kvs, kv.1 ≠ k) : putK kvs k v = kvs ++ [(k, v)] := by
  unfold putK
  rw [if_neg]
  intro z
  obtain ⟨kv, h1, h2⟩ := List.any_eq_true.mp z
  exact h kv h1 (of_decide_eq_true h2)
theorem pkv_put {Rs : List (List Int)} {ts : List (Int × Int)} (tok : TOk Rs ts) {i : Nat} {t : Int × Int} (h : ts[i]? = some t) : putK (pkv ts i) (Sum.inl t.1) (V.int (cnt (ts.take (i + 1)))) = pkv ts (i + 1) := by
  rw [put_new]
  · unfold pkv
    rw [← lvF_at tok.negs h, take_snoc h, List.map_append]
    rfl
  · intro kv hkv z
    obtain ⟨u, hu, e⟩ := List.mem_map.mp hkv
    rw [← e] at z
    have z' : u.1 = t.1 := by injection z
    exact (tok i t h).2.2.1 (List.mem_map.mpr ⟨u, hu, z'⟩)
theorem pkv_val {Rs : List (List Int)} {ts : List (Int × Int)} (tok : TOk Rs ts) (p : Int) : valV (pkv ts ts.length) (Sum.inl p) = if p ∈ ts.map Prod.fst then some (.int (lvF ts (-p))) else none := by
  unfold pkv
  rw [List.take_length]
  have key : ∀ us : List (Int × Int), valV (us.map fun t => ((Sum.inl t.1 : Key), V.int (lvF ts (-t.1)))) (Sum.inl p) = if p ∈ us.map Prod.fst then some (.int (lvF ts (-p))) else none := by
    intro us
    induction us with
    | nil => rfl
    | cons u us ih =>
      rw [List.map_cons, List.map_cons]
      by_cases e : u.1 = p
      · rw [valV_pos (by show Sum.inl u.1 = Sum.inl p; rw [e]), if_pos (by rw [e]; exact List.mem_cons_self)]
        show some (V.int (lvF ts (-u.1))) = _
        rw [e]
      · rw [valV_neg (fun z => e (by injection z)), ih]
        by_cases e2 : p ∈ us.map Prod.fst
        · rw [if_pos e2, if_pos (List.mem_cons_of_mem _ e2)]
        · rw [if_neg e2, if_neg (fun z => by
            rcases List.mem_cons.mp z with z | z
            · exact e z.symm
            · exact e2 z)]
  exact key ts
theorem pkv_plc {Rs : List (List Int)} {ts : List (Int × Int)} (tok : TOk Rs ts) {H : Hp} {d : Addr} (h : H d = some (.dK (pkv ts ts.length))) : Plc H d ts := ⟨_, h, pkv_val tok⟩
theorem pkv_vals (ts : List (Int × Int)) : (pkv ts ts.length).map (·.2) = (ts.map fun t : Int × Int => lvF ts (-t.1)).map V.int := by
  unfold pkv
  rw [List.take_length, List.map_map, List.map_map]
  rfl
end L2

/-! law k45, first part. Behind Dr3. -/
namespace K45
open PySem L2
def top (i : Nat) : Stmt := PySem.Challenge.pw_yesorno_k45_whole_rounds.main.body.getD i (.Pass ⟨0, 0, 0, 0⟩)
abbrev s_levels : Stmt := top 1
abbrev s_part_levels : Stmt := top 3
abbrev s_is_replaced : Stmt := top 4
abbrev s_learnt : Stmt := top 5
abbrev s__law_mix : Stmt := top 7
abbrev s__law_whole : Stmt := top 8
abbrev s__law_cell_at : Stmt := top 9
abbrev s__law_sign : Stmt := top 10
abbrev s__law_row : Stmt := top 11
abbrev s__law_many : Stmt := top 12
abbrev s__law_long : Stmt := top 13
abbrev s__law_rows : Stmt := top 14
abbrev s__law_left : Stmt := top 15
abbrev s__law_is_short : Stmt := top 16
abbrev s__law_force : Stmt := top 17
abbrev s__law_choose : Stmt := top 18
abbrev s__law_play : Stmt := top 19
abbrev s__law_failing : Stmt := top 20
abbrev s__law_numbers : Stmt := top 21
abbrev s__law_form : Stmt := top 22
abbrev s__law_goes : Stmt := top 23
abbrev s__law_places : Stmt := top 24
abbrev s__law_cut : Stmt := top 25
abbrev s__law_round : Stmt := top 26
abbrev s__law_onward : Stmt := top 27
abbrev s_law : Stmt := top 28
structure Txt (K : PySem.W.Frag) (mg : Str → Option Value) : Prop where
  len : mg "len" = none
  dict : mg "dict" = none
  range : mg "range" = none
  tuple : mg "tuple" = none
  list : mg "list" = none
  any : mg "any" = none
  zip : mg "zip" = none
  reversed : mg "reversed" = none
  max : mg "max" = none
  isinstance : mg "isinstance" = none
  int : mg "int" = none
  bool : mg "bool" = none
  abs : mg "abs" = none
  ib : PySem.W.kitOne K (.type "int") (.type "bool") = some false
/-! levels, part_levels, is_replaced, learnt -/
def sp_levels (K : PySem.W.Frag) : Sp := fun vs H Q _ => ∃ (a : Addr) (xs : List V) (ts : List (Int × Int)), vs = [.ref a] ∧ SqL K H a xs ∧ HasL K H (ts.map dP) xs ∧ ts.length ≤ 100 ∧
  ∀ H' l, Same H H' → H l = none → H' l = some (.lst ((levs ts ts.length).map V.int)) → Q (.ref l) H'
theorem sc_levels : FnScope ["trail", "found", "level", "step"] ["trail"] (defScope s_levels) := ⟨rfl, rfl, rfl, by decide +kernel, rfl, by decide +kernel, by decide +kernel⟩
theorem ok_levels {P : Program} {w : World} {K : PySem.W.Frag} {mg : Str → Option Value} {base : Heap} {f : Addr} {fd : FuncData} (F : Fun K "levels" "levels" s_levels f fd) : FnOk P w K mg base CX0 1 f fd ["trail"] (sp_levels K) := by
  refine F.ok sc_levels (fun vs H Q E h => ?_) (fun cdv A outer s H vs Q E hr h => ?_)
  · obtain ⟨a, xs, ts, rfl, _⟩ := h
    rfl
  obtain ⟨a, xs, ts, rfl, hS, hL, hn, q⟩ := h
  have hlen : xs.length = ts.length := by rw [← hL.length, List.length_map]
  refine ⟨_, (pss_cons (ps_set (i := 1) sc_levels.nd rfl (Or.inl rfl) (pe_lst pa_nil))
    (pss_cons (ps_set (i := 2) sc_levels.nd rfl (Or.inl rfl) pe_int)
    (pss_cons (ps_for PassesOwn.never rfl (pi_list (pv 0)) (pg_name (i := 3) sc_levels.nd rfl (Or.inl rfl))
      (pss_cons (ps_if (pt_cmpR op_eq (pe_ix ix_tup (pv 3) pe_int (fun _ _ => rfl)) (pe_un un_neg pe_int) (nomark _))
          (pss_one (ps_aug (i := 2) sc_levels.nd rfl (Or.inl rfl) pe_int ip_add))
          pss_nil)
        (pss_one (ps_expr (pe_bm PySem.F.plainAttrs_list PySem.F.slot_list_append PySem.F.type_list_append mt_append (pv 1) (pa_cons (pv 2) pa_nil))))))
    (pss_one (ps_ret (pv 1)))))), ?_⟩
  refine ⟨Nat.zero_le _, fun l hl => ⟨_, rfl, a, rfl, ⟨xs, (sameNew hl _).seq hS⟩, for_list (xs := xs) (fun i σ H' => ∃ (c : Int) (st : Option V) (ys : List V), σ = [some (.ref a), some (.ref l), some (.int c), st] ∧ c = cnt (ts.take i) ∧ Same H H' ∧ H' l = some (.lst ys) ∧ ys = (levs ts i).map V.int)
    ⟨0, none, [], rfl, rfl, sameNew hl _, upd_same, rfl⟩ ?_ ?_ ?_⟩⟩
  · rintro i σ H' _ ⟨c, st, ys, _, _, s, _⟩
    exact s.seq hS
  · rintro i x σ H' hx ⟨c, st, ys, rfl, rfl, s, hl', rfl⟩
    obtain ⟨t, p, ht, rfl, hp⟩ := hasl_at hL hx
    have hi : i < xs.length := (List.getElem?_eq_some_iff.mp hx).1
    have hp' := s.tup hp
    have e1 := cnt_snoc ht
    have e2 := levs_succ ts i
    have hy : ((levs ts i).map V.int).length < sizeLine := by
      rw [List.length_map, levs_len]
      exact small1000 (by omega)
    refine ⟨_, rfl, p, _, _, _, rfl, rfl, hp', rfl, _, rfl, rfl, _, rfl, ite2 (fun c => ?_) (fun c => ?_)⟩
    · have e3 : t.2 = -1 := by
        have := of_decide_eq_true c
        injection this
      have e4 : chosenB t = 1 := by unfold chosenB; rw [if_pos e3]
      refine ⟨_, rfl, _, _, rfl, rfl, _, rfl, .inl ⟨rfl, _, SqL.of hl'⟩, _, rfl, l, _, _, rfl, rfl, hl', hy, _, _, _, rfl, ?_, s.upd hl, upd_same, ?_⟩
      · rw [e1, e4]
      · rw [e2, e1, e4, List.map_append]
        rfl
    · have e3 : ¬ t.2 = -1 := fun z => c (decide_eq_true (by rw [z]))
      have e4 : chosenB t = 0 := by unfold chosenB; rw [if_neg e3]
      refine ⟨_, rfl, .inl ⟨rfl, _, SqL.of hl'⟩, _, rfl, l, _, _, rfl, rfl, hl', hy, _, _, _, rfl, ?_, s.upd hl, upd_same, ?_⟩
      · rw [e1, e4, Int.add_zero]
      · rw [e2, e1, e4, Int.add_zero, List.map_append]
        rfl
  · rintro σ H' ⟨c, st, ys, rfl, rfl, s, hl', rfl⟩
    refine ⟨_, rfl, q H' l s hl ?_⟩
    rw [hl', hlen]
def sp_part_levels (K : PySem.W.Frag) : Sp := fun vs H Q _ => ∃ (a : Addr) (xs : List V) (ts : List (Int × Int)), vs = [.ref a] ∧ SqL K H a xs ∧ HasL K H (ts.map dP) xs ∧ ts.length ≤ 100 ∧ (negs ts).Nodup ∧
  ∀ H' d, Same H H' → H d = none → Lev H' d ts → Q (.ref d) H'
theorem sc_part_levels : FnScope ["trail", "found", "step", "level"] ["trail"] (defScope s_part_levels) := ⟨rfl, rfl, rfl, by decide +kernel, rfl, by decide +kernel, by decide +kernel⟩
theorem ok_part_levels {P : Program} {w : World} {K : PySem.W.Frag} {mg : Str → Option Value} {base : Heap} {f fL : Addr} {fd dL : FuncData} (F : Fun K "part_levels" "part_levels" s_part_levels f fd) (T : Txt K mg) (Blevels : FB P w K mg base CX0 1 "levels" fL dL ["trail"] (sp_levels K)) : FnOk P w K mg base CX0 2 f fd ["trail"] (sp_part_levels K) := by
  refine F.ok sc_part_levels (fun vs H Q E h => ?_) (fun cdv A outer s H vs Q E hr h => ?_)
  · obtain ⟨a, xs, ts, rfl, _⟩ := h
    rfl
  obtain ⟨a, xs, ts, rfl, hS, hL, hn, nd, q⟩ := h
  have hu := hu_of hr
  have hlen : xs.length = ts.length := by rw [← hL.length, List.length_map]
  refine ⟨_, (pss_cons (ps_set (i := 1) sc_part_levels.nd rfl (Or.inl rfl) pe_dnewK)
    (pss_cons (ps_for PassesOwn.never rfl (pi_zip rfl T.zip (pa_cons (pv 0) (pa_cons (pe_call Blevels.ok hr rfl Blevels.m Blevels.kp Blevels.b .nil pass0 (pa_cons (pv 0) pa_nil)) pa_nil))) (pg_tup rfl (pgs_cons (pg_name (i := 2) sc_part_levels.nd rfl (Or.inl rfl)) (pgs_cons (pg_name (i := 3) sc_part_levels.nd rfl (Or.inl rfl)) pgs_nil)))
      (pss_one (ps_dput hu (pv 1) (pe_un un_neg (pe_ix ix_tup (pv 2) pe_int (fun _ _ => rfl))) (pv 3) rfl)))
    (pss_one (ps_ret (pv 1))))), ?_⟩
  refine fun d hd => ?_
  have s0 : Same H (upd H d (.dK [])) := sameNew hd _
  have hd0 := upd_same (H := H) (a := d) (o := .dK [])
  generalize upd H d (.dK []) = H0 at s0 hd0
  refine ⟨_, rfl, _, rfl, a, xs, ts, rfl, s0.seq hS, HasL.keep s0.kt (nols_dPs _) hL, hn, fun H1 l s1 hl hl1 => ?_⟩
  have s01 := s0.trans s1
  have hd1 := s1 _ _ hd0
  have el : ((levs ts ts.length).map V.int).length = xs.length := by rw [List.length_map, levs_len, hlen]
  refine ⟨a, l, rfl, ⟨_, s01.seq hS⟩, ⟨_, SqL.of hl1⟩, for_by (wk_zip (xs := xs) (ys := (levs ts ts.length).map V.int) el.symm) (fun i σ H' => ∃ (v2 v3 : Option V) (kvs : List (Key × V)), σ = [some (.ref a), some (.ref d), v2, v3] ∧ Same H H' ∧ H' l = some (.lst ((levs ts ts.length).map V.int)) ∧ H' d = some (.dK kvs) ∧ kvs.length ≤ i ∧ ∀ p : Int, valV kvs (Sum.inl p) = if p ∈ negs (ts.take i) then some (.int (lvF ts p)) else none) (fun i σ H' ⟨_, _, _, _, s2, h2, _⟩ => ⟨s2.seq hS, SqL.of h2⟩) ⟨none, none, [], rfl, s01, hl1, hd1, Nat.le_refl _, fun p => by simp [valV, negs]⟩ ?_ ?_⟩
  · rintro i σ H' x H'' hi ⟨v2, v3, kvs, rfl, s2, h2, hd2, lk, hv⟩ ⟨p, y, z, rfl, hp, rfl, hy, hz⟩
    obtain ⟨t, tp, ht, rfl, htp⟩ := hasl_at hL (hy _ (s2.seq hS))
    have hz1 := hz _ (SqL.of h2)
    obtain ⟨c, hc, rfl⟩ := ints_at hz1
    rw [levs_get ts (by omega)] at hc
    cases hc
    have s3 : Same H' (upd H' p (.tup [.ref tp, .int (cnt (ts.take (i + 1)))])) := sameNew hp _
    refine ⟨p, _, rfl, SqT.of upd_same, rfl, _, _, rfl, _, _, rfl, rfl, ?_⟩
    have nd2 : l ≠ d := fun e => by rw [e, hd2] at h2; cases h2
    refine ⟨_, rfl, _, rfl, _, rfl, tp, _, _, _, rfl, rfl, (s2.trans s3).tup htp, rfl, _, rfl, d, _, rfl, DPut.k (k := Sum.inl (-t.1)) (s3 _ _ hd2) (small1000 (by omega)), ?_⟩
    refine ⟨_, _, _, rfl, (s2.trans s3).upd hd, ?_, upd_same, ?_, fun q => ?_⟩
    · rw [upd_ne nd2]
      exact s3 _ _ h2
    · have := putK_len kvs (Sum.inl (-t.1)) (.int (cnt (ts.take (i + 1))))
      omega
    · rw [valV_put, hv]
      have em : negs (ts.take (i + 1)) = negs (ts.take i) ++ [-t.1] := by
        unfold negs
        rw [take_snoc ht, List.map_append]
        rfl
      rw [em]
      by_cases e : q = -t.1
      · subst e
        rw [if_pos rfl, if_pos (List.mem_append_right _ (by simp)), lvF_at nd ht]
      · rw [if_neg (fun z => e (by cases z; rfl))]
        by_cases e2 : q ∈ negs (ts.take i)
        · rw [if_pos e2, if_pos (List.mem_append_left _ e2)]
        · rw [if_neg e2, if_neg (fun z => by
            rcases List.mem_append.mp z with z | z
            · exact e2 z
            · exact e (List.mem_singleton.mp z))]
  · rintro σ H' ⟨v2, v3, kvs, rfl, s2, h2, hd2, lk, hv⟩
    rw [hlen, List.take_of_length_le (Nat.le_refl _)] at hv
    exact ⟨_, rfl, q H' d s2 hd ⟨kvs, hd2, hv⟩⟩
def lvK (ts : List (Int × Int)) : Key → Int
  | .inl m => lvF ts m
  | .inr _ => 0
def sp_is_replaced (K : PySem.W.Frag) : Sp := fun vs H Q _ => ∃ (p y last : Int) (kd ld : Addr) (ks : List Int) (n : Nat) (ts : List (Int × Int)), vs = [.int p, .int y, .ref kd, .ref ld, .int last] ∧ Kst H kd ks n ∧ Lev H ld ts ∧ kd ≠ ld ∧ n ≤ 100000 ∧ (∀ m ∈ ks, m ∈ negs ts) ∧ ∀ H', Same H H' → Q (.bl (replB ts ks last p y)) H'
theorem sc_is_replaced : FnScope ["part", "why", "kept", "level_of", "last"] ["part", "why", "kept", "level_of", "last"] (defScope s_is_replaced) := ⟨rfl, rfl, rfl, by decide +kernel, rfl, by decide +kernel, by decide +kernel⟩
theorem any_ks {ts : List (Int × Int)} {ks : List Int} {kvs : List (Key × V)} {p last : Int} (h2 : ∀ m : Int, (valV kvs (Sum.inl m)).isSome = decide (m ∈ ks)) (h4 : ∀ kv ∈ kvs, ∃ m : Int, kv.1 = Sum.inl m) :
    (((kvs.filter fun kv => decide (kv.1 ≠ Sum.inl p)).map fun kv => decide (lvK ts kv.1 = last)).any id) = ks.any fun o => decide (o ≠ p) && decide (lvF ts o = last) := by
  rw [Bool.eq_iff_iff, List.any_eq_true, List.any_eq_true]
  constructor
  · rintro ⟨b, hb, eb⟩
    obtain ⟨kv, hkv, e⟩ := List.mem_map.mp hb
    obtain ⟨h5, h6⟩ := List.mem_filter.mp hkv
    obtain ⟨m, em⟩ := h4 kv h5
    have hm : m ∈ ks := by
      have : (valV kvs (Sum.inl m)).isSome = true := by
        rw [← valV_any]
        exact List.any_eq_true.mpr ⟨kv, h5, decide_eq_true em⟩
      rw [h2] at this
      exact of_decide_eq_true this
    refine ⟨m, hm, ?_⟩
    have n1 := of_decide_eq_true h6
    rw [em] at n1 e
    have n2 : m ≠ p := fun z => n1 (by rw [z])
    have e3 : decide (lvF ts m = last) = true := by
      have : decide (lvK ts (Sum.inl m) = last) = true := by rw [e]; exact eb
      exact this
    rw [decide_eq_true n2, e3]
    rfl
  · rintro ⟨m, hm, e⟩
    rw [Bool.and_eq_true] at e
    have : (valV kvs (Sum.inl m)).isSome = true := by rw [h2]; exact decide_eq_true hm
    rw [← valV_any] at this
    obtain ⟨kv, h5, em⟩ := List.any_eq_true.mp this
    have em' := of_decide_eq_true em
    refine ⟨true, List.mem_map.mpr ⟨kv, List.mem_filter.mpr ⟨h5, decide_eq_true fun z => (of_decide_eq_true e.1) ?_⟩, ?_⟩, rfl⟩
    · rw [em'] at z
      cases z
      rfl
    · rw [em']
      exact e.2
theorem ok_is_replaced {P : Program} {w : World} {K : PySem.W.Frag} {mg : Str → Option Value} {base : Heap} {f : Addr} {fd : FuncData} (F : Fun K "is_replaced" "is_replaced" s_is_replaced f fd) (T : Txt K mg) : FnOk P w K mg base CX0 1 f fd ["part", "why", "kept", "level_of", "last"] (sp_is_replaced K) := by
  refine F.ok sc_is_replaced (fun vs H Q E h => ?_) (fun cdv A outer s H vs Q E hr h => ?_)
  · obtain ⟨p, y, last, kd, ld, ks, n, ts, rfl, _⟩ := h
    rfl
  obtain ⟨p, y, last, kd, ld, ks, n, ts, rfl, hk, hl, ne, n5, sub, q⟩ := h
  have hu := hu_of hr
  obtain ⟨kvs, k1, k2, k3, k4⟩ := id hk
  obtain ⟨lvs, l1, l2⟩ := id hl
  refine ⟨_, (pss_cons (ps_if (PW.pt (pw_or (pt_cmp (pc_dnotin hu (pv 0) (pv 2))) (pw_or1 (pt_cmpR op_eq (pv 1) (pe_un un_neg pe_int) (nomark _)))))
      (pss_one (ps_ret pe_bl))
      pss_nil)
    (pss_cons (ps_if (pt_cmpR op_eq (pe_dget hu (pv 3) (pv 0) (fun _ _ => rfl)) pe_int (nomark _))
      (pss_one (ps_ret pe_bl))
      pss_nil)
    (pss_cons (ps_if (pt_cmpR op_ne (pe_dget hu (pv 3) (pv 0) (fun _ _ => rfl)) (pv 4) (nomark _))
      (pss_one (ps_ret pe_bl))
      pss_nil)
    (pss_one (ps_ret (pe_callB (call_any_bools rfl) rfl T.any PyProof.Rows.Boot.any (pa_cons (pe_thaw (pe_lci (N' := ["other", "last", "level_of", "part"]) (ix := [4, 3, 0]) rfl rfl (by decide +kernel) (by decide +kernel) rfl (fun ok => clo_of (sc := defScope s_is_replaced) ok rfl (by decide +kernel) (by decide +kernel)) (by decide +kernel) rfl rfl (fun j i h => match j, h with | 0, h => by cases h; exact ⟨_, rfl, rfl, .inl rfl, .inl rfl⟩ | 1, h => by cases h; exact ⟨_, rfl, rfl, .inl rfl, .inl rfl⟩ | 2, h => by cases h; exact ⟨_, rfl, rfl, .inl rfl, .inl rfl⟩ | n + 3, h => by simp at h) (pi_dict (pv 2)) (fun _ _ _ _ => (pt_cmpR op_ne (pv 0) (pv 3) (nomark _))) (fun _ _ _ _ => (pe_cmpR op_eq (pe_dget hu (pv 2) (pv 0) (fun _ _ => rfl)) (pv 1) (nomark _))))) pa_nil))))))), ?_⟩
  refine ⟨_, rfl, _, rfl, kd, _, rfl, DGet.k (k := Sum.inl p) k1, _, rfl, ?_⟩
  rw [k2]
  have q0 := q H (Same.refl _)
  unfold replB at q0
  by_cases e : p ∈ ks
  · rw [decide_eq_true e] at q0 ⊢
    refine iteF ⟨_, rfl, _, rfl, rfl, _, rfl, ite2 (fun c => ?_) (fun c => ?_)⟩
    · have ey : y = -1 := by
        have := of_decide_eq_true c
        injection this
      rw [decide_eq_false (fun z => z ey)] at q0
      exact q0
    · have ey : y ≠ -1 := fun z => c (decide_eq_true (by rw [z]))
      rw [decide_eq_true ey] at q0
      have hp : valV lvs (Sum.inl p) = some (.int (lvF ts p)) := by rw [l2, if_pos (sub p e)]
      have g := DGet.k (k := Sum.inl p) l1
      rw [hp] at g
      refine ⟨_, rfl, _, rfl, ld, _, rfl, g, rfl, _, rfl, ite2 (fun c0 => ?_) (fun c0 => ?_)⟩
      · have e0 : lvF ts p = 0 := by
          have := of_decide_eq_true c0
          injection this
        rw [decide_eq_true e0] at q0
        exact q0
      · have e0 : lvF ts p ≠ 0 := fun z => c0 (decide_eq_true (by rw [z]))
        rw [decide_eq_false e0] at q0
        refine ⟨_, rfl, _, rfl, ld, _, rfl, g, _, rfl, rfl, _, rfl, ite2 (fun c1 => ?_) (fun c1 => ?_)⟩
        · have e1 : lvF ts p ≠ last := fun z => by
            rw [z] at c1
            rw [decide_eq_true (rfl : V.int last = V.int last)] at c1
            cases c1
          rw [decide_eq_false e1] at q0
          exact q0
        · have e1 : lvF ts p = last := by
            by_cases z : lvF ts p = last
            · exact z
            · refine absurd ?_ c1
              rw [decide_eq_false (fun z' => z (by injection z'))]
              rfl
          rw [decide_eq_true e1] at q0
          refine ⟨_, rfl, kd, kvs, rfl, k1, fun o D hD => lci_by wk_dict (fun i ys H' => H' kd = some (.frz o (.dK kvs)) ∧ (∀ b u, b ≠ kd → H b = some u → H' b = some u) ∧ ys = (((kvs.take i).filter fun kv => decide (kv.1 ≠ Sum.inl p)).map fun kv => decide (lvK ts kv.1 = last)).map V.bl) (fun i ys H' ⟨h1, _⟩ => h1) ?_ ?_ ?_⟩
          · have nD : kd ≠ D := fun z => by rw [← z, upd_same] at hD; cases hD
            refine ⟨?_, fun b u nb hb => ?_, rfl⟩
            · rw [upd_ne nD]
              exact upd_same
            · have nbD : b ≠ D := fun z => by
                rw [z] at hb
                rw [upd_ne (fun z' => nb (z.trans z')), hb] at hD
                cases hD
              rw [upd_ne nbD, upd_ne nb]
              exact hb
          · rintro i ys H' x H'' hi hly hDs ⟨h1, h2, rfl⟩ ⟨rfl, k, v, hkv, rfl⟩
            obtain ⟨m, em⟩ := k4 _ (List.mem_of_getElem? hkv)
            have em' : k = Sum.inl m := em
            subst em'
            have hm : m ∈ ks := by
              have : (valV kvs (Sum.inl m)).isSome = true := by
                rw [← valV_any]
                exact List.any_eq_true.mpr ⟨_, List.mem_of_getElem? hkv, decide_eq_true rfl⟩
              rw [k2] at this
              exact of_decide_eq_true this
            have et : ((kvs.take (i + 1)).filter fun kv => decide (kv.1 ≠ Sum.inl p)) = if m ≠ p then ((kvs.take i).filter fun kv => decide (kv.1 ≠ Sum.inl p)) ++ [(Sum.inl m, v)] else (kvs.take i).filter fun kv => decide (kv.1 ≠ Sum.inl p) := by
              rw [take_snoc hkv, List.filter_append]
              by_cases z : m = p
              · rw [if_neg (fun h => h z), List.filter_cons, if_neg (by simp [z]), List.filter_nil, List.append_nil]
              · rw [if_pos z, List.filter_cons, if_pos (by
                  refine decide_eq_true fun z' => z ?_
                  cases z'
                  rfl), List.filter_nil]
            refine ⟨_, rfl, _, rfl, rfl, _, rfl, ?_⟩
            by_cases z : m = p
            · subst z
              rw [show (!decide (kV (Sum.inl m) = V.int m)) = false by
                have z : kV (Sum.inl m) = V.int m := rfl
                rw [z, decide_eq_true rfl]
                rfl]
              refine iteF (lc_skip hi hly hDs ⟨h1, h2, ?_⟩)
              rw [et, if_neg (fun h => h rfl)]
            · rw [show (!decide (kV (Sum.inl m) = V.int p)) = true by
                have z2 : ¬ (kV (Sum.inl m) = V.int p) := fun z' => z (by injection (show V.int m = V.int p from z'))
                rw [decide_eq_false z2]
                rfl]
              have hl2 : H'' ld = some (.dK lvs) := h2 ld _ (Ne.symm ne) l1
              have g2 := DGet.k (k := Sum.inl m) hl2
              rw [l2, if_pos (sub m hm)] at g2
              refine iteT ⟨_, rfl, _, rfl, ld, _, rfl, g2, _, rfl, rfl, lc_post (Nat.le_trans k3 (by rw [sizeLine_eq]; omega)) hi hly hDs ⟨?_, fun b u nb hb => ?_, ?_⟩⟩
              · have nD : kd ≠ D := fun z => by rw [z, hDs] at h1; cases h1
                rw [upd_ne nD]
                exact h1
              · have nbD : b ≠ D := fun z => by
                  rw [z] at hb
                  have := hD
                  rw [upd_ne (fun z' => nb (z.trans z')), hb] at this
                  cases this
                rw [upd_ne nbD]
                exact h2 b u nb hb
              · rw [et, if_pos z, List.map_append, List.map_append]
                have e5 : decide (V.int (lvF ts m) = V.int last) = decide (lvF ts m = last) := decide_eq_decide.mpr ⟨fun z => by injection z, fun z => by rw [z]⟩
                rw [e5]
                rfl
          · rintro ys H' hDs ⟨h1, h2, rfl⟩
            rw [List.take_of_length_le (Nat.le_refl _)] at hDs
            refine ⟨kd, o, kvs, h1, fun o' u' z => ?_, ?_⟩
            · have z' : H kd = some (.frz o' u') := z
              rw [k1] at z'
              cases z'
            · have nD : D ≠ kd := fun z => by rw [z, h1] at hDs; cases hDs
              have s1 : Same H (upd H' kd (.dK kvs)) := fun b u hb => by
                by_cases z : b = kd
                · subst z
                  rw [upd_same, ← k1]
                  exact hb
                · rw [upd_ne z]
                  exact h2 b u z hb
              refine ⟨D, _, rfl, SqL.of (by rw [upd_ne nD]; exact hDs), ?_⟩
              have q1 := q _ s1
              unfold replB at q1
              rw [decide_eq_true e, decide_eq_true ey, decide_eq_false e0, decide_eq_true e1, ← any_ks (kvs := kvs) k2 k4] at q1
              exact q1
  · rw [decide_eq_false e] at q0 ⊢
    exact iteT (iteT q0)
end K45

/-! law k45: learnt2. Behind K45a. -/
namespace K45
open PySem L2
/-! learnt -/
def sp_learnt (K : PySem.W.Frag) : Sp := fun vs H Q _ => ∃ (rl tl : Addr) (f : Int) (xs zs : List V) (Rs : List (List Int)) (ts : List (Int × Int)), vs = [.ref rl, .ref tl, .int f] ∧ SqL K H rl xs ∧ HasL K H (Rs.map dRow) xs ∧ SqL K H tl zs ∧ HasL K H (ts.map dP) zs ∧ LnOk Rs ts f ∧ ts.length ≤ 100 ∧ (∀ r ∈ Rs, r.length ≤ 100) ∧
  ∀ (H' : Hp) (t tp th : Addr) (m : Int), Same H H' → H t = none → H' t = some (.tup [.ref tp, .ref th, .int m]) → H' tp = some (.tup ((partF Rs ts f).map V.int)) → H' th = some (.tup ((hintF Rs ts f).reverse.map V.int)) → IsMaxD (((partF Rs ts f).drop 1).map (lvF ts)) m → Q (.ref t) H'
theorem sc_learnt : FnScope ["rows", "trail", "fails", "level_of", "last", "kept", "hints", "step", "parts", "level"] ["rows", "trail", "fails"] (defScope s_learnt) := ⟨rfl, rfl, rfl, by decide +kernel, rfl, by decide +kernel, by decide +kernel⟩
abbrev NLn : List Str := ["rows", "trail", "fails", "level_of", "last", "kept", "hints", "step", "parts", "level"]
section
variable {P : Program} {w : World} {K : PySem.W.Frag} {mg : Str → Option Value} {base : Heap} {f fP fR : Addr} {dP' dR' : FuncData}
theorem learnt5 (T : Txt K mg)
    {cdv : Value} {A : Around} {outer : List Env} {s : Shared} {H0 : Hp} {E : XK} (hr : Room 2 (A.deeper (PyProof.Rows.envOfC "learnt" (defScope s_learnt) s.heap.objs.size f cdv))) :
    ∃ t, PSs (cxOf CX0 P w K mg base NLn "learnt" (defScope s_learnt) f cdv A outer s H0 E).nox ((defBody s_learnt).drop 5) t ∧
      ∀ (D : Ends) (Hb H : Hp) (tl ld kd hl : Addr) (zs : List V) (Rs : List (List Int)) (ts : List (Int × Int)) (fl : Int) (n : Nat) (v0 v2 v4 v7 : Option V), Same Hb H → SqL K H tl zs → HasL K H (ts.map dP) zs → LnOk Rs ts fl → ts.length ≤ 100 → Kst H kd (keptF Rs ts fl) n → Lev H ld ts → H hl = some (.lst ((hintF Rs ts fl).map V.int)) →
        (∀ (H' : Hp) (t tp th : Addr) (m : Int), Same Hb H' → Hb t = none → H' t = some (.tup [.ref tp, .ref th, .int m]) → H' tp = some (.tup ((partF Rs ts fl).map V.int)) → H' th = some (.tup ((hintF Rs ts fl).reverse.map V.int)) → IsMaxD (((partF Rs ts fl).drop 1).map (lvF ts)) m → D.rt (.ref t) H') →
        t D [v0, some (.ref tl), v2, some (.ref ld), v4, some (.ref kd), some (.ref hl), v7, none, none] H := by
  have hu := hu_of hr
  refine ⟨_, (pss_cons (ps_set (i := 8) sc_learnt.nd rfl (Or.inl rfl) (pe_callTy call_tuple_of rfl T.tuple PyProof.Rows.Boot.tuple (pa_cons (pe_lci (N' := ["step", "kept"]) (ix := [5]) rfl rfl (by decide +kernel) (by decide +kernel) rfl (fun ok => clo_of (sc := defScope s_learnt) ok rfl (by decide +kernel) (by decide +kernel)) (by decide +kernel) rfl rfl (fun j i h => match j, h with | 0, h => by cases h; exact ⟨_, rfl, rfl, .inl rfl, .inl rfl⟩ | n + 1, h => by simp at h) (pi_rev rfl T.reversed (pa_cons (pv 1) pa_nil)) (fun _ _ _ _ => (pt_cmp (pc_din hu (pe_un un_neg (pe_ix (r := rIxT K) ix_tup (pv 0) pe_int (fun _ _ => rfl))) (pv 1)))) (fun _ _ _ _ => (pe_un un_neg (pe_ix (r := rIxT K) ix_tup (pv 0) pe_int (fun _ _ => rfl))))) pa_nil)))
    (pss_cons (ps_set (i := 9) sc_learnt.nd rfl (Or.inl rfl) (pe_maxd rfl rfl T.max (pa_cons (pe_lc (N' := ["part", "level_of"]) (ix := [3]) rfl rfl (by decide +kernel) (by decide +kernel) rfl (fun ok => clo_of (sc := defScope s_learnt) ok rfl (by decide +kernel) (by decide +kernel)) (by decide +kernel) rfl rfl (fun j i h => match j, h with | 0, h => by cases h; exact ⟨_, rfl, rfl, .inl rfl, .inl rfl⟩ | n + 1, h => by simp at h) (pi_tup (pe_slice sl_tupA (pv 8) (po_some pe_int) po_none)) (fun _ _ _ _ => (pe_dget hu (pv 1) (pv 0) (fun _ _ => rfl)))) pa_nil) (pk_cons pe_int pk_nil)))
    (pss_one (ps_ret (pe_tup (pa_cons (pv 8) (pa_cons (pe_tuprev rfl rfl T.tuple rfl T.reversed (pa_cons (pv 6) pa_nil)) (pa_cons (pv 9) pa_nil)))))))), ?_⟩
  rintro D Hb H tl ld kd hl zs Rs ts fl n v0 v2 v4 v7 sb hS hL ok l100 hk hv hh q
  have zl : zs.length = ts.length := by rw [← hL.length, List.length_map]
  obtain ⟨kvs, k1, k2, k3, k4⟩ := id hk
  obtain ⟨lvs, l1, l2⟩ := id hv
  have np : (negs ts).reverse.length = ts.length := by rw [List.length_reverse, negs_len]
  refine ⟨_, rfl, tl, zs, rfl, hS, fun Dl hDl => lci_by wk_rev (fun i ys H' => Same H H' ∧ ys = (((negs ts).reverse.take i).filter fun p => decide (p ∈ keptF Rs ts fl)).map V.int) (fun i ys H' ⟨s1, _⟩ => s1.seq hS) ⟨sameNew hDl _, rfl⟩ ?_ ?_⟩
  · rintro i ys H' x H'' hi hly hDs ⟨s1, rfl⟩ ⟨rfl, hx⟩
    obtain ⟨t, p, ht, rfl, hp⟩ := hasl_at hL (hx _ (s1.seq hS))
    have e0 : zs.length - 1 - i = ts.length - 1 - i := by rw [zl]
    rw [e0] at ht
    have hr' : (negs ts).reverse[i]? = some (-t.1) := by
      rw [negs_rev, List.getElem?_map, rev_get (by omega), ht]
      rfl
    have et : (((negs ts).reverse.take (i + 1)).filter fun p => decide (p ∈ keptF Rs ts fl)) = if -t.1 ∈ keptF Rs ts fl then (((negs ts).reverse.take i).filter fun p => decide (p ∈ keptF Rs ts fl)) ++ [-t.1] else ((negs ts).reverse.take i).filter fun p => decide (p ∈ keptF Rs ts fl) := by
      rw [take_snoc hr', List.filter_append]
      by_cases e : -t.1 ∈ keptF Rs ts fl
      · rw [if_pos e, List.filter_cons, if_pos (decide_eq_true e)]
        rfl
      · rw [if_neg e, List.filter_cons, if_neg (by simp [e]), List.filter_nil, List.append_nil]
    refine ⟨_, rfl, p, _, _, _, rfl, rfl, s1.tup hp, rfl, _, rfl, _, rfl, kd, _, rfl, DGet.k (k := Sum.inl (-t.1)) (s1 _ _ k1), _, rfl, ?_⟩
    rw [k2]
    by_cases e : -t.1 ∈ keptF Rs ts fl
    · rw [decide_eq_true e]
      refine iteT ⟨_, rfl, p, _, _, _, rfl, rfl, s1.tup hp, rfl, _, rfl, lc_post (bsz _ (by omega)) hi hly hDs ⟨s1.upd hDl, ?_⟩⟩
      rw [et, if_pos e, List.map_append]
      rfl
    · rw [decide_eq_false e]
      refine iteF (lc_skip hi hly hDs ⟨s1, ?_⟩)
      rw [et, if_neg e]
  rintro ys H1 hDs ⟨s1, rfl⟩
  rw [zl, List.take_of_length_le (by omega)] at hDs
  refine ⟨Dl, _, rfl, .inl ⟨SqL.of hDs, fun tp htp => ?_⟩⟩
  have s2 : Same H1 (upd H1 tp (.tup ((partF Rs ts fl).map V.int))) := sameNew htp _
  have ntp0 : Hb tp = none := (sb.trans s1).free htp
  have s02 := s1.trans s2
  have psub : ∀ p ∈ (partF Rs ts fl).drop 1, p ∈ negs ts := fun p hp => List.mem_reverse.mp (List.mem_filter.mp (List.mem_of_mem_drop hp)).1
  have plen : ((partF Rs ts fl).drop 1).length ≤ 100 := by
    have h1 : (partF Rs ts fl).length ≤ (negs ts).reverse.length := List.length_filter_le _ _
    rw [List.length_drop]
    omega
  refine ⟨_, rfl, _, rfl, slice_from1 (ps := partF Rs ts fl) (SqT.of upd_same) fun H3 tq s3 hq => ?_⟩
  generalize hpt : (partF Rs ts fl).drop 1 = pt at hq psub plen q
  refine ⟨tq, rfl, ⟨_, hq⟩, fun De hDe => lc_by wk_tup (fun i ys H' => Same H3 H' ∧ ys = ((pt.take i).map (lvF ts)).map V.int) (fun i ys H' ⟨s4, _⟩ => s4.tup hq) ⟨sameNew hDe _, rfl⟩ ?_ ?_⟩
  · rintro i ys H' x H'' hi hly hDs' ⟨s4, rfl⟩ ⟨rfl, hx⟩
    obtain ⟨p, hp, rfl⟩ := ints_at (hx _ (s4.tup hq))
    have g := DGet.k (k := Sum.inl p) (((s02.trans s3).trans s4) _ _ l1)
    rw [l2, if_pos (psub p (List.mem_of_getElem? hp))] at g
    refine ⟨_, rfl, _, rfl, ld, _, rfl, g, lc_post (by rw [List.length_map]; exact bsz _ (by omega)) hi hly hDs' ⟨s4.upd hDe, ?_⟩⟩
    rw [take_snoc hp, List.map_append, List.map_append]
    rfl
  rintro ys H4 hDs' ⟨s4, rfl⟩
  rw [List.length_map, List.take_of_length_le (Nat.le_refl _)] at hDs'
  have s04 := (s02.trans s3).trans s4
  refine ⟨De, pt.map (lvF ts), 0, rfl, rfl, .inl (SqL.of hDs'), fun e => ?_, fun m hm hmax => ?_⟩
  · refine ⟨_, rfl, _, rfl, hl, _, rfl, SqL.of (s04 _ _ hh), fun th hth => ?_⟩
    have s5 : Same H4 (upd H4 th (.tup ((hintF Rs ts fl).map V.int).reverse)) := sameNew hth _
    refine ⟨_, rfl, (by show 3 ≤ sizeLine; decide), fun t ht => ?_⟩
    have s6 : Same (upd H4 th (.tup ((hintF Rs ts fl).map V.int).reverse)) (upd (upd H4 th (.tup ((hintF Rs ts fl).map V.int).reverse)) t (.tup [.ref tp, .ref th, .int 0])) := sameNew ht _
    refine q _ t tp th 0 (sb.trans ((s04.trans s5).trans s6)) ((sb.trans (s04.trans s5)).free ht) upd_same ?_ ?_ ⟨fun _ => rfl, fun z => absurd e z⟩
    · exact s6 _ _ (s5 _ _ (s4 _ _ (s3 _ _ upd_same)))
    · rw [List.map_reverse]
      exact s6 _ _ upd_same
  · refine ⟨_, rfl, _, rfl, hl, _, rfl, SqL.of (s04 _ _ hh), fun th hth => ?_⟩
    have s5 : Same H4 (upd H4 th (.tup ((hintF Rs ts fl).map V.int).reverse)) := sameNew hth _
    refine ⟨_, rfl, (by show 3 ≤ sizeLine; decide), fun t ht => ?_⟩
    have s6 : Same (upd H4 th (.tup ((hintF Rs ts fl).map V.int).reverse)) (upd (upd H4 th (.tup ((hintF Rs ts fl).map V.int).reverse)) t (.tup [.ref tp, .ref th, .int m])) := sameNew ht _
    refine q _ t tp th m (sb.trans ((s04.trans s5).trans s6)) ((sb.trans (s04.trans s5)).free ht) upd_same ?_ ?_ ⟨fun z => (by rw [z] at hm; cases hm), fun _ => ⟨hm, hmax⟩⟩
    · exact s6 _ _ (s5 _ _ (s4 _ _ (s3 _ _ upd_same)))
    · rw [List.map_reverse]
      exact s6 _ _ upd_same
end
end K45

/-! law k45: learnt3. Behind K45b. -/
namespace K45
open PySem L2
section
variable {P : Program} {w : World} {K : PySem.W.Frag} {mg : Str → Option Value} {base : Heap} {f fP fR : Addr} {dP' dR' : FuncData}
theorem row_get' {Rs : List (List Int)} {h : Int} (h0 : 0 ≤ h) (h1 : h < (Rs.length : Int)) : Rs[h.toNat]? = some (rowAt Rs h) := by
  unfold rowAt
  rw [List.getD_eq_getElem?_getD, List.getElem?_eq_getElem (by omega)]
  rfl
theorem atI_row {K : PySem.W.Frag} {H : Hp} {Rs : List (List Int)} {xs : List V} {h : Int} (hL : HasL K H (Rs.map dRow) xs) (h0 : 0 ≤ h) (h1 : h < (Rs.length : Int)) : ∃ q, atI xs h = some (.ref q) ∧ SqT K H q ((rowAt Rs h).map V.int) := by
  obtain ⟨q, e1, e2⟩ := rows_get hL (row_get' h0 h1)
  have e : h = ((h.toNat : Nat) : Int) := by omega
  refine ⟨q, ?_, e2⟩
  rw [e]
  exact atI_nat e1
/-- what stands while the trail is gone back -/
structure LnW (K : PySem.W.Frag) (Hb H : Hp) (rl tl ld kd hl : Addr) (xs zs : List V) (Rs : List (List Int)) (ts : List (Int × Int)) (fl : Int) (i : Nat) : Prop where
  sb : Same Hb H
  k : Kst H kd (lrn Rs ts fl i).1 (100 + 100 * i)
  v : Lev H ld ts
  h : H hl = some (.lst ((lrn Rs ts fl i).2.map V.int))
  nk : Hb kd = none
  nv : Hb ld = none
  nh : Hb hl = none
  kv : kd ≠ ld
theorem LnW.same {K : PySem.W.Frag} {Hb H H' : Hp} {rl tl ld kd hl : Addr} {xs zs : List V} {Rs : List (List Int)} {ts : List (Int × Int)} {fl : Int} {i : Nat} (W : LnW K Hb H rl tl ld kd hl xs zs Rs ts fl i) (s : Same H H') : LnW K Hb H' rl tl ld kd hl xs zs Rs ts fl i :=
  ⟨W.sb.trans s, W.k.same s, W.v.same s, s _ _ W.h, W.nk, W.nv, W.nh, W.kv⟩
theorem learnt4 (T : Txt K mg) (Bis_replaced : FB P w K mg base CX0 1 "is_replaced" fR dR' ["part", "why", "kept", "level_of", "last"] (sp_is_replaced K))
    {cdv : Value} {A : Around} {outer : List Env} {s : Shared} {H0 : Hp} {E : XK} (hr : Room 2 (A.deeper (PyProof.Rows.envOfC "learnt" (defScope s_learnt) s.heap.objs.size f cdv))) :
    ∃ t, PSs (cxOf CX0 P w K mg base NLn "learnt" (defScope s_learnt) f cdv A outer s H0 E).nox ((defBody s_learnt).drop 4) t ∧
      ∀ (D : Ends) (Hb H : Hp) (rl tl ld kd hl : Addr) (xs zs : List V) (Rs : List (List Int)) (ts : List (Int × Int)) (fl : Int), SqL K Hb rl xs → HasL K Hb (Rs.map dRow) xs → SqL K Hb tl zs → HasL K Hb (ts.map dP) zs → LnOk Rs ts fl → ts.length ≤ 100 → (∀ r ∈ Rs, r.length ≤ 100) → LnW K Hb H rl tl ld kd hl xs zs Rs ts fl 0 →
        (∀ (H' : Hp) (t tp th : Addr) (m : Int), Same Hb H' → Hb t = none → H' t = some (.tup [.ref tp, .ref th, .int m]) → H' tp = some (.tup ((partF Rs ts fl).map V.int)) → H' th = some (.tup ((hintF Rs ts fl).reverse.map V.int)) → IsMaxD (((partF Rs ts fl).drop 1).map (lvF ts)) m → D.rt (.ref t) H') →
        t D [some (.ref rl), some (.ref tl), some (.int fl), some (.ref ld), some (.int (cnt ts)), some (.ref kd), some (.ref hl), none, none, none] H := by
  have hu := hu_of hr
  have hr1 : Room 1 _ := hr.mono (by decide)
  obtain ⟨t5, h5, q5⟩ := learnt5 (P := P) (w := w) (base := base) (f := f) (outer := outer) (H0 := H0) (E := E) T hr
  refine ⟨_, (pss_cons (ps_for PassesOwn.never rfl (pi_rev rfl T.reversed (pa_cons (pv 1) pa_nil)) (pg_name (i := 7) sc_learnt.nd rfl (Or.inr rfl))
      (pss_one (ps_if (pt_val (pe_call Bis_replaced.ok hr1 rfl Bis_replaced.m Bis_replaced.kp Bis_replaced.b .nil pass0 (pa_cons (pe_un un_neg (pe_ix ix_tup (pv 7) pe_int (fun _ _ => rfl))) (pa_cons (pe_ix ix_tup (pv 7) pe_int (fun _ _ => rfl)) (pa_cons (pv 5) (pa_cons (pv 3) (pa_cons (pv 4) pa_nil)))))))
          (pss_cons (ps_expr (pe_dpop1 (pv 5) (pe_un un_neg (pe_ix ix_tup (pv 7) pe_int (fun _ _ => rfl))) ⟨rfl, rfl, rfl, rfl⟩))
            (pss_cons (ps_expr (pe_bm PySem.F.plainAttrs_dict PySem.F.slot_dict_update PySem.F.type_dict_update mt_update (pv 5) (pa_cons (pe_callTy (call_dict_of rfl) rfl T.dict PyProof.Rows.Boot.dict (pa_cons (pe_lci (N' := ["part", "step"]) (ix := [7]) rfl rfl (by decide +kernel) (by decide +kernel) rfl (fun ok => clo_of (sc := defScope s_learnt) ok rfl (by decide +kernel) (by decide +kernel)) (by decide +kernel) rfl rfl (fun j i h => match j, h with | 0, h => by cases h; exact ⟨_, rfl, rfl, .inl rfl, .inl rfl⟩ | n + 1, h => by simp at h) (pi_tup (pe_ix ix_list (pv 0) (pe_ix ix_tup (pv 7) pe_int (fun _ _ => rfl)) (fun _ _ => rfl))) (fun _ _ _ _ => (pt_cmpR op_ne (pv 0) (pe_ix (r := rIxT K) ix_tup (pv 1) pe_int (fun _ _ => rfl)) (nomark _))) (fun _ _ _ _ => (pe_tup (pa_cons (pv 0) (pa_cons pe_bl pa_nil))))) pa_nil)) pa_nil)))
            (pss_one (ps_expr (pe_bm PySem.F.plainAttrs_list PySem.F.slot_list_append PySem.F.type_list_append mt_append (pv 6) (pa_cons (pe_ix ix_tup (pv 7) pe_int (fun _ _ => rfl)) pa_nil))))))
          pss_nil))) h5), ?_⟩
  rintro D Hb H rl tl ld kd hl xs zs Rs ts fl hS hL hZ hT ok l100 r100 W0 q
  have zl : zs.length = ts.length := by rw [← hT.length, List.length_map]
  refine ⟨_, rfl, tl, zs, rfl, W0.sb.seq hZ, for_by wk_rev (fun i σ H' => ∃ v7, σ = [some (.ref rl), some (.ref tl), some (.int fl), some (.ref ld), some (.int (cnt ts)), some (.ref kd), some (.ref hl), v7, none, none] ∧ LnW K Hb H' rl tl ld kd hl xs zs Rs ts fl i) (fun i σ H' ⟨_, _, W⟩ => W.sb.seq hZ) ⟨none, rfl, W0⟩ ?_ ?_⟩
  · rintro i σ H' x H'' hi ⟨v7, rfl, W⟩ ⟨rfl, hx⟩
    have hi' : i < ts.length := by omega
    obtain ⟨t, p, ht, rfl, hp⟩ := hasl_at hT (hx _ (W.sb.seq hZ))
    rw [zl] at ht
    have hr' : ts.reverse[i]? = some t := by rw [rev_get hi']; exact ht
    have es := lrn_succ (Rs := Rs) (f := fl) hr'
    have hp1 := W.sb.tup hp
    have tm : t ∈ ts := List.mem_of_getElem? ht
    refine ⟨_, rfl, p, _, _, _, rfl, rfl, hp1, rfl, _, rfl, _, rfl, p, _, _, _, rfl, rfl, hp1, rfl, _, rfl, _, rfl, _, rfl, -t.1, t.2, cnt ts, kd, ld, _, _, ts, rfl, W.k, W.v, W.kv, by omega, kept_in ok i, fun H3 s3 => ⟨_, rfl, ?_⟩⟩
    have W3 := W.same s3
    have hp3 := s3.tup hp1
    cases eb : replB ts (lrn Rs ts fl i).1 (cnt ts) (-t.1) t.2 with
    | false =>
      have e2 : lrn Rs ts fl (i + 1) = lrn Rs ts fl i := by rw [es]; unfold stepL; rw [eb]; rfl
      obtain ⟨kvs, k1, k2, k3, k4⟩ := W3.k
      exact iteF ⟨_, rfl, ⟨W3.sb, ⟨kvs, k1, by rw [e2]; exact k2, by omega, k4⟩, W3.v, by rw [e2]; exact W3.h, W.nk, W.nv, W.nh, W.kv⟩⟩
    | true =>
      have e2 : lrn Rs ts fl (i + 1) = (((lrn Rs ts fl i).1.filter fun m => decide (m ≠ -t.1)) ++ (rowAt Rs t.2).filter (fun m => decide (m ≠ t.1)), (lrn Rs ts fl i).2 ++ [t.2]) := by rw [es]; unfold stepL; rw [eb]; rfl
      have eb' := eb
      unfold replB at eb'
      rw [Bool.and_eq_true, Bool.and_eq_true] at eb'
      have pin : -t.1 ∈ (lrn Rs ts fl i).1 := of_decide_eq_true eb'.1
      have yn : t.2 ≠ -1 := of_decide_eq_true eb'.2.1
      obtain ⟨y0, y1, _⟩ := ok.why t tm yn
      obtain ⟨kvs, k1, k2, k3, k4⟩ := W3.k
      obtain ⟨v, hv⟩ : ∃ v, valV kvs (Sum.inl (-t.1)) = some v := by
        have := k2 (-t.1)
        rw [decide_eq_true pin] at this
        exact Option.isSome_iff_exists.mp this
      refine iteT ⟨_, rfl, kd, rfl, .inl ⟨kvs, .inl k1⟩, _, rfl, p, _, _, _, rfl, rfl, hp3, rfl, _, rfl, kvs, Sum.inl (-t.1), v, k1, rfl, hv, ?_⟩
      have hK4 : Kst (upd H3 kd (.dK (dropK kvs (Sum.inl (-t.1))))) kd _ _ := Kst.pop (p := -t.1) k2 k3 k4
      have x34 : SameX kd H3 (upd H3 kd (.dK (dropK kvs (Sum.inl (-t.1))))) := SameX.put _ _
      have kt34 := x34.kt k1
      have sb4 : Same Hb (upd H3 kd (.dK (dropK kvs (Sum.inl (-t.1))))) := W3.sb.upd W.nk
      have v4 : Lev (upd H3 kd (.dK (dropK kvs (Sum.inl (-t.1))))) ld ts := by
        obtain ⟨lvs, l1, l2⟩ := W3.v
        exact ⟨lvs, x34 _ _ (Ne.symm W.kv) l1, l2⟩
      have nhk : hl ≠ kd := fun e => by rw [← e, W3.h] at k1; cases k1
      have h4 : (upd H3 kd (.dK (dropK kvs (Sum.inl (-t.1))))) hl = _ := x34 _ _ nhk W3.h
      have hp4 := kt34.sq hp3
      generalize upd H3 kd (.dK (dropK kvs (Sum.inl (-t.1)))) = H4 at hK4 sb4 v4 h4 hp4
      obtain ⟨kv4, j1, j2, j3, j4⟩ := hK4
      obtain ⟨q', hq1, hq2⟩ := atI_row (HasL.keep sb4.kt (nols_rows _) hL) y0 y1
      have rl100 : (rowAt Rs t.2).length ≤ 100 := r100 _ (List.mem_of_getElem? (row_get' y0 y1))
      refine ⟨_, rfl, .inr (.inr (.inl ⟨rfl, .inl ⟨kv4, j1⟩⟩)), _, rfl, _, rfl, p, _, _, _, rfl, rfl, hp4, rfl, rl, _, _, _, rfl, rfl, sb4.seq hS, hq1, q', rfl, ⟨_, hq2⟩, fun Dl hDl => lci_by wk_tup (fun j ys H' => Same H4 H' ∧ HasL K H' ((((rowAt Rs t.2).take j).filter fun m => decide (m ≠ t.1)).map dQT) ys) (fun j ys H' ⟨s5, _⟩ => s5.tup hq2) ⟨sameNew hDl _, .nil⟩ ?_ ?_⟩
      · rintro j ys H5 x H6 hj hly hDs ⟨s5, hy⟩ ⟨rfl, hx'⟩
        obtain ⟨m, hm, rfl⟩ := ints_at (hx' _ (s5.tup hq2))
        have et : (((rowAt Rs t.2).take (j + 1)).filter fun m => decide (m ≠ t.1)) = if m ≠ t.1 then (((rowAt Rs t.2).take j).filter fun m => decide (m ≠ t.1)) ++ [m] else ((rowAt Rs t.2).take j).filter fun m => decide (m ≠ t.1) := by
          rw [take_snoc hm, List.filter_append]
          by_cases z : m = t.1
          · rw [if_neg (fun h => h z), List.filter_cons, if_neg (by simp [z]), List.filter_nil, List.append_nil]
          · rw [if_pos z, List.filter_cons, if_pos (decide_eq_true z), List.filter_nil]
        refine ⟨_, rfl, _, rfl, p, _, _, _, rfl, rfl, s5.tup hp4, rfl, rfl, _, rfl, ?_⟩
        by_cases z : m = t.1
        · rw [show (!decide (V.int m = V.int t.1)) = false by rw [decide_eq_true (by rw [z])]; rfl]
          refine iteF (lc_skip hj hly hDs ⟨s5, ?_⟩)
          rw [et, if_neg (fun h => h z)]
          exact hy
        · rw [show (!decide (V.int m = V.int t.1)) = true by rw [decide_eq_false (fun z' => z (by injection z'))]; rfl]
          refine iteT ⟨_, rfl, (by show 2 ≤ sizeLine; decide), fun u hu' => ?_⟩
          have s6 : Same H6 (upd H6 u (.tup [.int m, .bl true])) := sameNew hu' _
          have hD6 := s6 _ _ hDs
          refine lc_post (by rw [List.length_map]; exact bsz _ (by omega)) hj hly hD6 ⟨(s5.trans s6).upd hDl, ?_⟩
          rw [et, if_pos z, List.map_append]
          exact HasL.append (HasL.keep (s6.kt.trans (KeepT.lst hD6)) (nols_dQT _) hy) (HasL.one (of_dQT ((KeepT.lst hD6).sq (SqT.of upd_same))))
      rintro ys H5 hDs ⟨s5, hy⟩
      rw [List.length_map, List.take_of_length_le (Nat.le_refl _)] at hy
      obtain ⟨pl, pp⟩ := qt_pairs hy
      generalize hpt : ((rowAt Rs t.2).filter fun m => decide (m ≠ t.1)) = pt at pl pp hy e2
      have lpt : pt.length ≤ 100 := by
        rw [← hpt]
        exact Nat.le_trans (List.length_filter_le _ _) rl100
      refine ⟨Dl, ys, tkv pt, rfl, SqL.of hDs, pl, pp, fun b hb => ?_⟩
      have s6 : Same H5 (upd H5 b (.dK (mergeK [] (tkv pt)))) := sameNew hb _
      have j1' := s5 _ _ j1
      have nkb : kd ≠ b := ne_of_none j1' hb
      have lm : (mergeK [] (tkv pt)).length ≤ pt.length := (tkv_ok pt).2
      refine ⟨kd, b, kv4, mergeK [] (tkv pt), rfl, rfl, nkb, s6 _ _ j1', upd_same, by rw [sizeLine_eq]; omega, ?_⟩
      have s46 := s5.trans s6
      have x7 : SameX kd (upd H5 b (.dK (mergeK [] (tkv pt)))) (upd (upd H5 b (.dK (mergeK [] (tkv pt)))) kd (.dK (mergeK kv4 (mergeK [] (tkv pt))))) := SameX.put _ _
      have hp7 := (x7.kt (s6 _ _ j1')).sq (s46.tup hp4)
      have h7 := x7 _ _ nhk (s46 _ _ h4)
      have v7' : Lev (upd (upd H5 b (.dK (mergeK [] (tkv pt)))) kd (.dK (mergeK kv4 (mergeK [] (tkv pt))))) ld ts := by
        obtain ⟨lvs, l1, l2⟩ := v4
        exact ⟨lvs, x7 _ _ (Ne.symm W.kv) (s46 _ _ l1), l2⟩
      have hl2 := hint_len Rs ts fl i
      refine ⟨_, rfl, .inl ⟨rfl, _, SqL.of h7⟩, _, rfl, p, _, _, _, rfl, rfl, hp7, rfl, hl, _, _, rfl, rfl, h7, small1000 (by rw [List.length_map]; omega), ?_⟩
      refine ⟨_, rfl, ⟨((sb4.trans s46).upd W.nk).upd W.nh, ⟨mergeK kv4 (mergeK [] (tkv pt)), ?_, fun m => ?_, ?_, merge_keys (tkv_keys pt) j4⟩, ?_, ?_, W.nk, W.nv, W.nh, W.kv⟩⟩
      · rw [upd_ne (Ne.symm nhk)]
        exact upd_same
      · rw [merge_val, j2, e2]
        show (decide (m ∈ _) || decide (m ∈ pt)) = decide (m ∈ _ ++ pt)
        by_cases z1 : m ∈ (lrn Rs ts fl i).1.filter fun m => decide (m ≠ -t.1)
        · rw [decide_eq_true z1, decide_eq_true (List.mem_append_left _ z1)]
          rfl
        · rw [decide_eq_false z1, Bool.false_or]
          exact decide_eq_decide.mpr ⟨fun z => List.mem_append_right _ z, fun z => (List.mem_append.mp z).resolve_left z1⟩
      · have := merge_len (mergeK [] (tkv pt)) kv4
        omega
      · obtain ⟨lvs, l1, l2⟩ := v7'
        refine ⟨lvs, ?_, l2⟩
        rw [upd_ne (Lev.ne ⟨lvs, l1, l2⟩ h7).symm]
        exact l1
      · rw [e2]
        show _ = some (HO.lst (List.map V.int (_ ++ [t.2])))
        rw [List.map_append]
        exact upd_same
  · rintro σ H' ⟨v7, rfl, W⟩
    rw [zl] at W
    exact q5 D Hb H' tl ld kd hl zs Rs ts fl _ _ _ _ v7 W.sb (W.sb.seq hZ) (HasL.keep W.sb.kt (nols_dPs _) hT) ok l100 W.k W.v W.h q
theorem learnt2 (T : Txt K mg) (Bis_replaced : FB P w K mg base CX0 1 "is_replaced" fR dR' ["part", "why", "kept", "level_of", "last"] (sp_is_replaced K))
    {cdv : Value} {A : Around} {outer : List Env} {s : Shared} {H0 : Hp} {E : XK} (hr : Room 2 (A.deeper (PyProof.Rows.envOfC "learnt" (defScope s_learnt) s.heap.objs.size f cdv))) :
    ∃ t, PSs (cxOf CX0 P w K mg base NLn "learnt" (defScope s_learnt) f cdv A outer s H0 E).nox ((defBody s_learnt).drop 2) t ∧
      ∀ (D : Ends) (Hb H : Hp) (rl tl ld : Addr) (xs zs : List V) (Rs : List (List Int)) (ts : List (Int × Int)) (fl : Int), SqL K Hb rl xs → HasL K Hb (Rs.map dRow) xs → SqL K Hb tl zs → HasL K Hb (ts.map dP) zs → LnOk Rs ts fl → ts.length ≤ 100 → (∀ r ∈ Rs, r.length ≤ 100) → Same Hb H → Hb ld = none → Lev H ld ts →
        (∀ (H' : Hp) (t tp th : Addr) (m : Int), Same Hb H' → Hb t = none → H' t = some (.tup [.ref tp, .ref th, .int m]) → H' tp = some (.tup ((partF Rs ts fl).map V.int)) → H' th = some (.tup ((hintF Rs ts fl).reverse.map V.int)) → IsMaxD (((partF Rs ts fl).drop 1).map (lvF ts)) m → D.rt (.ref t) H') →
        t D [some (.ref rl), some (.ref tl), some (.int fl), some (.ref ld), some (.int (cnt ts)), none, none, none, none, none] H := by
  obtain ⟨t4, h4, q4⟩ := learnt4 (f := f) (outer := outer) (H0 := H0) (E := E) T Bis_replaced hr
  refine ⟨_, (pss_cons (ps_set (i := 5) sc_learnt.nd rfl (Or.inr rfl) (pe_callTy (call_dict_of rfl) rfl T.dict PyProof.Rows.Boot.dict (pa_cons (pe_lc (N' := ["part"]) (ix := []) rfl rfl (by decide +kernel) (by decide +kernel) rfl (fun _ => ⟨[], clo_none (by decide +kernel) (by decide +kernel)⟩) (by decide +kernel) rfl rfl (fun j i h => by simp at h) (pi_tup (pe_ix ix_list (pv 0) (pv 2) (fun _ _ => rfl))) (fun _ _ _ _ => (pe_tup (pa_cons (pv 0) (pa_cons pe_bl pa_nil))))) pa_nil)))
    (pss_cons (ps_set (i := 6) sc_learnt.nd rfl (Or.inl rfl) (pe_lst (pa_cons (pv 2) pa_nil))) h4)), ?_⟩
  rintro D Hb H rl tl ld xs zs Rs ts fl hS hL hZ hT ok l100 r100 sb nld hv q
  obtain ⟨q', hq1, hq2⟩ := atI_row (HasL.keep sb.kt (nols_rows _) hL) ok.f0 ok.f1
  have rl100 : (rowAt Rs fl).length ≤ 100 := r100 _ (List.mem_of_getElem? (row_get' ok.f0 ok.f1))
  refine ⟨_, rfl, _, rfl, rl, _, _, _, rfl, rfl, sb.seq hS, hq1, q', rfl, ⟨_, hq2⟩, fun Dl hDl => lc_by wk_tup (fun j ys H' => Same H H' ∧ HasL K H' (((rowAt Rs fl).take j).map dQT) ys) (fun j ys H' ⟨s5, _⟩ => s5.tup hq2) ⟨sameNew hDl _, .nil⟩ ?_ ?_⟩
  · rintro j ys H5 x H6 hj hly hDs ⟨s5, hy⟩ ⟨rfl, hx'⟩
    obtain ⟨m, hm, rfl⟩ := ints_at (hx' _ (s5.tup hq2))
    refine ⟨_, rfl, (by show 2 ≤ sizeLine; decide), fun u hu' => ?_⟩
    have s6 : Same H6 (upd H6 u (.tup [.int m, .bl true])) := sameNew hu' _
    have hD6 := s6 _ _ hDs
    refine lc_post (by rw [List.length_map]; exact bsz _ (by omega)) hj hly hD6 ⟨(s5.trans s6).upd hDl, ?_⟩
    rw [take_snoc hm, List.map_append]
    exact HasL.append (HasL.keep (s6.kt.trans (KeepT.lst hD6)) (nols_dQT _) hy) (HasL.one (of_dQT ((KeepT.lst hD6).sq (SqT.of upd_same))))
  rintro ys H5 hDs ⟨s5, hy⟩
  rw [List.length_map, List.take_of_length_le (Nat.le_refl _)] at hy
  obtain ⟨pl, pp⟩ := qt_pairs hy
  refine ⟨Dl, ys, tkv (rowAt Rs fl), rfl, SqL.of hDs, pl, pp, fun kd hkd => ?_⟩
  have s6 : Same H5 (upd H5 kd (.dK (mergeK [] (tkv (rowAt Rs fl))))) := sameNew hkd _
  have hk : Kst (upd H5 kd (.dK (mergeK [] (tkv (rowAt Rs fl))))) kd (rowAt Rs fl) (rowAt Rs fl).length := Kst.of
  have hv6 := (hv.same s5).same s6
  have sb6 := (sb.trans s5).trans s6
  have nkd : Hb kd = none := (sb.trans s5).free hkd
  have kv : kd ≠ ld := fun e => by
    obtain ⟨lvs, l1, _⟩ := hv.same s5
    rw [e, l1] at hkd
    cases hkd
  generalize upd H5 kd (.dK (mergeK [] (tkv (rowAt Rs fl)))) = H6 at hk hv6 sb6
  refine ⟨_, rfl, (by show 1 ≤ sizeLine; decide), fun hl hhl => ?_⟩
  have s7 : Same H6 (upd H6 hl (.lst [.int fl])) := sameNew hhl _
  obtain ⟨kvs, k1, k2, k3, k4⟩ := hk.same s7
  exact q4 D Hb _ rl tl ld kd hl xs zs Rs ts fl hS hL hZ hT ok l100 r100 ⟨sb6.trans s7, ⟨kvs, k1, k2, by omega, k4⟩, hv6.same s7, upd_same, nkd, nld, sb6.free hhl, kv⟩ q
theorem ok_learnt {fd : FuncData} (F : Fun K "learnt" "learnt" s_learnt f fd) (T : Txt K mg) (Bpart_levels : FB P w K mg base CX0 2 "part_levels" fP dP' ["trail"] (sp_part_levels K)) (Bis_replaced : FB P w K mg base CX0 1 "is_replaced" fR dR' ["part", "why", "kept", "level_of", "last"] (sp_is_replaced K)) : FnOk P w K mg base CX0 3 f fd ["rows", "trail", "fails"] (sp_learnt K) := by
  refine F.ok sc_learnt (fun vs H Q E h => ?_) (fun cdv A outer s H vs Q E hr h => ?_)
  · obtain ⟨rl, tl, fl, xs, zs, Rs, ts, rfl, _⟩ := h
    rfl
  obtain ⟨rl, tl, fl, xs, zs, Rs, ts, rfl, hS, hL, hZ, hT, ok, l100, r100, q⟩ := h
  have hu := hu_of hr
  obtain ⟨t2, h2, q2⟩ := learnt2 (f := f) (outer := outer) (H0 := H) (E := E) T Bis_replaced hr
  have zl : zs.length = ts.length := by rw [← hT.length, List.length_map]
  refine ⟨_, (pss_cons (ps_set (i := 3) sc_learnt.nd rfl (Or.inr rfl) (pe_call Bpart_levels.ok hr rfl Bpart_levels.m Bpart_levels.kp Bpart_levels.b .nil pass0 (pa_cons (pv 1) pa_nil)))
    (pss_cons (ps_set (i := 4) sc_learnt.nd rfl (Or.inl rfl) (pe_ifExp (pt_cmpR op_gt (pe_callB call_len_seq rfl T.len PySem.boot_len (pa_cons (pv 1) pa_nil)) pe_int (nomark _)) (pe_dget hu (pv 3) (pe_un un_neg (pe_ix ix_tup (pe_ix ix_list (pv 1) (pe_un un_neg pe_int) (fun _ _ => rfl)) pe_int (fun _ _ => rfl))) (fun _ _ => rfl)) pe_int)) h2)), ?_⟩
  refine ⟨_, rfl, tl, zs, ts, rfl, hZ, hT, l100, ok.nd, fun H1 ld s1 nld hld => ?_⟩
  have fin := fun D' => q2 D' H H1 rl tl ld xs zs Rs ts fl hS hL hZ hT ok l100 r100 s1 nld hld
  refine ⟨_, rfl, tl, zs, rfl, .inl (s1.seq hZ), _, _, rfl, rfl, _, rfl, ite2 (fun c => ?_) (fun c => ?_)⟩
  · have c0 : (0 : Int) < ((zs.length : Nat) : Int) := of_decide_eq_true c
    have ne : ts ≠ [] := fun z => by rw [z] at zl; simp at zl; rw [zl] at c0; simp at c0
    obtain ⟨ini, t, rfl⟩ : ∃ ini t, ts = ini ++ [t] := ⟨ts.dropLast, ts.getLast ne, (List.dropLast_concat_getLast ne).symm⟩
    have hT1 := HasL.keep s1.kt (nols_dPs _) hT
    have ht : (ini ++ [t])[ini.length]? = some t := by rw [List.getElem?_append_right (Nat.le_refl _), Nat.sub_self]; rfl
    rw [List.length_append] at zl
    simp only [List.length_singleton] at zl
    obtain ⟨zi, z, ez⟩ : ∃ zi z, zs = zi ++ [z] := by
      have nz : zs ≠ [] := fun e => by rw [e] at zl; simp at zl
      exact ⟨zs.dropLast, zs.getLast nz, (List.dropLast_concat_getLast nz).symm⟩
    have lz : zi.length = ini.length := by rw [ez, List.length_append] at zl; simp only [List.length_singleton] at zl; omega
    have hz : zs[ini.length]? = some z := by rw [ez, ← lz, List.getElem?_append_right (Nat.le_refl _), Nat.sub_self]; rfl
    obtain ⟨t', p, ht', rfl, hp⟩ := hasl_at hT1 hz
    rw [ht] at ht'
    cases ht'
    have hat : atI zs (-1) = some (.ref p) := by rw [ez]; exact atI_last _ _
    obtain ⟨lvs, l1, l2⟩ := id hld
    have g := DGet.k (k := Sum.inl (-t.1)) l1
    have mem : -t.1 ∈ negs (ini ++ [t]) := List.mem_of_getElem? (negs_get ht)
    have lv : lvF (ini ++ [t]) (-t.1) = cnt (ini ++ [t]) := by
      rw [lvF_at ok.nd ht, List.take_of_length_le (by rw [List.length_append]; exact Nat.le_refl _)]
    rw [l2, if_pos mem, lv] at g
    exact ⟨_, rfl, _, rfl, _, rfl, tl, _, _, _, rfl, rfl, s1.seq hZ, hat, p, _, _, _, rfl, rfl, hp, rfl, _, rfl, ld, _, rfl, g, fin _ q⟩
  · have e0 : ts = [] := by
      have h1 : ¬ ((0 : Int) < ((zs.length : Nat) : Int)) := fun z => c (decide_eq_true z)
      exact List.length_eq_zero_iff.mp (by omega)
    subst e0
    exact fin _ q
end
end K45

/-! law k45: lawbase. Behind K45c. -/
namespace K45
open PySem L2
/-! _law_mix, _law_cell_at -/
def sp_mix : Sp := fun vs H Q _ => ∃ c k : Int, vs = [.int c, .int k] ∧ Q (.int (mixF c k)) H
theorem sc__law_mix : FnScope ["_law_cell", "_law_k", "_law_number"] ["_law_cell", "_law_k"] (defScope s__law_mix) := ⟨rfl, rfl, rfl, by decide +kernel, rfl, by decide +kernel, by decide +kernel⟩
theorem ok_mix {P : Program} {w : World} {K : PySem.W.Frag} {mg : Str → Option Value} {base : Heap} {f : Addr} {fd : FuncData} (F : Fun K "_law_mix" "_law_mix" s__law_mix f fd) : FnOk P w K mg base CX0 1 f fd ["_law_cell", "_law_k"] sp_mix := by
  refine F.ok sc__law_mix (fun vs H Q E h => ?_) (fun cdv A outer s H vs Q E hr h => ?_)
  · obtain ⟨c, k, rfl, _⟩ := h
    rfl
  obtain ⟨c, k, rfl, q⟩ := h
  refine ⟨_, (pss_cons (ps_set (i := 2) sc__law_mix.nd rfl (Or.inl rfl) (pe_op op_mod (pe_op op_mul (pe_op op_add (pe_op op_add (pv 0) (pe_op op_mul pe_int (pv 1))) pe_int) pe_int) pe_int))
    (pss_one (ps_ret (pe_op op_mod (pe_op op_mul (pv 2) (pv 2)) pe_int)))), ?_⟩
  have b := modR ((c + 7919 * k + 1) * 48271) (show (0 : Int) < 1000003 by decide)
  exact ⟨_, rfl, _, rfl, _, _, rfl, rfl, .inl ⟨by decide, by decide⟩, _, _, rfl, rfl, _, _, rfl, rfl, _, _, rfl, rfl, .inr ⟨by decide, by decide⟩, _, _, rfl, rfl, (by show (0 : Int) < 1000003; decide), _, rfl, _, rfl, _, _, rfl, rfl, .inl ⟨by omega, by omega⟩, _, _, rfl, rfl, (by show (0 : Int) < 999983; decide), q⟩
def sp_cell (K : PySem.W.Frag) : Sp := fun vs H Q _ => ∃ (a : Addr) (ns : List Int) (k : Nat), vs = [.ref a, .int (k : Int)] ∧ SqL K H a (ns.map V.int) ∧ Q (.int (ns.getD k 0)) H
theorem sc__law_cell_at : FnScope ["_law_script", "_law_k"] ["_law_script", "_law_k"] (defScope s__law_cell_at) := ⟨rfl, rfl, rfl, by decide +kernel, rfl, by decide +kernel, by decide +kernel⟩
theorem ok_cell {P : Program} {w : World} {K : PySem.W.Frag} {mg : Str → Option Value} {base : Heap} {f : Addr} {fd : FuncData} (F : Fun K "_law_cell_at" "_law_cell_at" s__law_cell_at f fd) (T : Txt K mg) : FnOk P w K mg base CX0 1 f fd ["_law_script", "_law_k"] (sp_cell K) := by
  refine F.ok sc__law_cell_at (fun vs H Q E h => ?_) (fun cdv A outer s H vs Q E hr h => ?_)
  · obtain ⟨a, ns, k, rfl, _⟩ := h
    rfl
  obtain ⟨a, ns, k, rfl, hS, q⟩ := h
  refine ⟨_, (pss_cons (ps_if (pt_cmpR op_lt (pv 1) (pe_callB call_len_seq rfl T.len PySem.boot_len (pa_cons (pv 0) pa_nil)) (nomark _))
      (pss_one (ps_ret (pe_ix ix_list (pv 0) (pv 1) (fun _ _ => rfl))))
      pss_nil)
    (pss_one (ps_ret pe_int))), ?_⟩
  refine ⟨_, rfl, _, rfl, a, _, rfl, .inl hS, _, _, rfl, rfl, _, rfl, ite2 (fun c => ?_) (fun c => ?_)⟩
  · have hc : (k : Int) < ((ns.map V.int).length : Nat) := of_decide_eq_true c
    rw [List.length_map] at hc
    have hn : ns[k]? = some (ns.getD k 0) := by
      rw [List.getD_eq_getElem?_getD, List.getElem?_eq_getElem (by omega)]
      rfl
    exact ⟨_, rfl, _, rfl, a, _, _, _, rfl, rfl, hS, atI_ints hn, q⟩
  · have hc : ¬ ((k : Int) < ((ns.map V.int).length : Nat)) := fun z => c (decide_eq_true z)
    rw [List.length_map] at hc
    have e : ns.getD k 0 = 0 := by
      rw [List.getD_eq_getElem?_getD, List.getElem?_eq_none (by omega)]
      rfl
    rw [e] at q
    exact q
def sp_whole : Sp := fun vs H Q _ => ∃ n : Int, vs = [.int n] ∧ Q (.bl true) H
theorem sc__law_whole : FnScope ["_law_found"] ["_law_found"] (defScope s__law_whole) := ⟨rfl, rfl, rfl, by decide +kernel, rfl, by decide +kernel, by decide +kernel⟩
theorem ok_whole {P : Program} {w : World} {K : PySem.W.Frag} {mg : Str → Option Value} {base : Heap} {f : Addr} {fd : FuncData} (F : Fun K "_law_whole" "_law_whole" s__law_whole f fd) (T : Txt K mg) : FnOk P w K mg base CX0 1 f fd ["_law_found"] sp_whole := by
  refine F.ok sc__law_whole (fun vs H Q E h => ?_) (fun cdv A outer s H vs Q E hr h => ?_)
  · obtain ⟨n, rfl, _⟩ := h
    rfl
  obtain ⟨n, rfl, q⟩ := h
  refine ⟨_, (pss_one (ps_ret (pe_and (pe_callB call_isinst rfl T.isinstance PyProof.Rows.Boot.isinstance (pa_cons (pv 0) (pa_cons (pe_bltn (v := .ty "int") rfl T.int PyProof.Rows.Boot.int rfl) pa_nil))) (pe_one (pe_not (pe_callB call_isinst rfl T.isinstance PyProof.Rows.Boot.isinstance (pa_cons (pv 0) (pa_cons (pe_bltn (v := .ty "bool") rfl T.bool PyProof.Rows.Boot.bool rfl) pa_nil)))))))), ?_⟩
  exact ⟨_, rfl, _, .type "int", "int", true, rfl, TyOf.int _, kitSelf K "int", _, rfl, iteT ⟨_, rfl, _, .type "int", "bool", false, rfl, TyOf.int _, T.ib, _, rfl, q⟩⟩
/-! _law_numbers, _law_form -/
def sp_numbers (K : PySem.W.Frag) : Sp := fun vs H Q _ => ∃ (p : Addr) (ns : List Int), vs = [.ref p] ∧ SqT K H p (ns.map V.int) ∧ Q (.bl true) H
theorem sc__law_numbers : FnScope ["_law_found", "_law_number"] ["_law_found"] (defScope s__law_numbers) := ⟨rfl, rfl, rfl, by decide +kernel, rfl, by decide +kernel, by decide +kernel⟩
theorem ok_numbers {P : Program} {w : World} {K : PySem.W.Frag} {mg : Str → Option Value} {base : Heap} {f fW : Addr} {fd dW : FuncData} (F : Fun K "_law_numbers" "_law_numbers" s__law_numbers f fd) (T : Txt K mg) (B_law_whole : FB P w K mg base CX0 1 "_law_whole" fW dW ["_law_found"] sp_whole) : FnOk P w K mg base CX0 2 f fd ["_law_found"] (sp_numbers K) := by
  refine F.ok sc__law_numbers (fun vs H Q E h => ?_) (fun cdv A outer s H vs Q E hr h => ?_)
  · obtain ⟨p, ns, rfl, _⟩ := h
    rfl
  obtain ⟨p, ns, rfl, hS, q⟩ := h
  refine ⟨_, (pss_cons (ps_if (pt_not (pt_val (pe_callB call_isinstT rfl T.isinstance PyProof.Rows.Boot.isinstance (pa_cons (pv 0) (pa_cons (pe_bltn (v := .ty "tuple") rfl T.tuple PyProof.Rows.Boot.tuple rfl) pa_nil)))))
      (pss_one (ps_ret pe_bl))
      pss_nil)
    (pss_cons (ps_for PassesOwn.never rfl (pi_tup (pv 0)) (pg_name (i := 1) sc__law_numbers.nd rfl (Or.inl rfl))
      (pss_one (ps_if (pt_not (pt_val (pe_call B_law_whole.ok hr rfl B_law_whole.m B_law_whole.kp B_law_whole.b .nil pass0 (pa_cons (pv 1) pa_nil))))
          (pss_one (ps_ret pe_bl))
          pss_nil)))
    (pss_one (ps_ret pe_bl)))), ?_⟩
  refine ⟨_, rfl, p, _, "tuple", true, rfl, hS, kitSelf K "tuple", _, rfl, iteF ⟨_, rfl, p, rfl, ⟨_, hS⟩, for_by wk_tup (fun i σ H' => H' = H ∧ ∃ v, σ = [some (.ref p), v]) (fun i σ H' ⟨e, _⟩ => by rw [e]; exact hS) ⟨rfl, none, rfl⟩ ?_ ?_⟩⟩
  · rintro i σ H' x H'' hi ⟨rfl, v, rfl⟩ ⟨rfl, hx⟩
    obtain ⟨k, hk', rfl⟩ := ints_at (hx _ hS)
    exact ⟨_, rfl, k, rfl, _, rfl, iteF ⟨rfl, _, rfl⟩⟩
  · rintro σ H' ⟨rfl, v, rfl⟩
    exact q
def sp_form (K : PySem.W.Frag) : Sp := fun vs H Q _ => ∃ (t p q : Addr) (ms ns : List Int) (n : Int), vs = [.ref t] ∧ SqT K H t [.ref p, .ref q, .int n] ∧ SqT K H p (ms.map V.int) ∧ SqT K H q (ns.map V.int) ∧ Q (.bl true) H
theorem sc__law_form : FnScope ["_law_found"] ["_law_found"] (defScope s__law_form) := ⟨rfl, rfl, rfl, by decide +kernel, rfl, by decide +kernel, by decide +kernel⟩
theorem ok_form {P : Program} {w : World} {K : PySem.W.Frag} {mg : Str → Option Value} {base : Heap} {f fW fN : Addr} {fd dW dN : FuncData} (F : Fun K "_law_form" "_law_form" s__law_form f fd) (T : Txt K mg) (B_law_whole : FB P w K mg base CX0 1 "_law_whole" fW dW ["_law_found"] sp_whole) (B_law_numbers : FB P w K mg base CX0 2 "_law_numbers" fN dN ["_law_found"] (sp_numbers K)) : FnOk P w K mg base CX0 3 f fd ["_law_found"] (sp_form K) := by
  refine F.ok sc__law_form (fun vs H Q E h => ?_) (fun cdv A outer s H vs Q E hr h => ?_)
  · obtain ⟨t, p, q, ms, ns, n, rfl, _⟩ := h
    rfl
  obtain ⟨t, p, q, ms, ns, n, rfl, ht, hp, hq, z⟩ := h
  have hr1 : Room 1 _ := hr.mono (by decide)
  refine ⟨_, (pss_cons (ps_if (PW.pt (pw_or (pt_not (pt_val (pe_callB call_isinstT rfl T.isinstance PyProof.Rows.Boot.isinstance (pa_cons (pv 0) (pa_cons (pe_bltn (v := .ty "tuple") rfl T.tuple PyProof.Rows.Boot.tuple rfl) pa_nil))))) (pw_or1 (pt_cmpR op_ne (pe_callB call_len_seq rfl T.len PySem.boot_len (pa_cons (pv 0) pa_nil)) pe_int (nomark _)))))
      (pss_one (ps_ret pe_bl))
      pss_nil)
    (pss_one (ps_ret (pe_and (pe_call B_law_numbers.ok hr rfl B_law_numbers.m B_law_numbers.kp B_law_numbers.b .nil pass0 (pa_cons (pe_ix ix_tup (pv 0) pe_int (fun _ _ => rfl)) pa_nil)) (pe_and (pe_call B_law_numbers.ok hr rfl B_law_numbers.m B_law_numbers.kp B_law_numbers.b .nil pass0 (pa_cons (pe_ix ix_tup (pv 0) pe_int (fun _ _ => rfl)) pa_nil)) (pe_one (pe_call B_law_whole.ok hr1 rfl B_law_whole.m B_law_whole.kp B_law_whole.b .nil pass0 (pa_cons (pe_ix ix_tup (pv 0) pe_int (fun _ _ => rfl)) pa_nil)))))))), ?_⟩
  refine ⟨_, rfl, t, _, "tuple", true, rfl, ht, kitSelf K "tuple", _, rfl, iteF ⟨_, rfl, t, _, rfl, .inr ht, rfl, _, rfl, iteNS rfl ?_⟩⟩
  exact ⟨_, rfl, t, _, _, _, rfl, rfl, ht, rfl, p, ms, rfl, hp, _, rfl, iteT ⟨_, rfl, t, _, _, _, rfl, rfl, ht, rfl, q, ns, rfl, hq, _, rfl, iteT ⟨_, rfl, t, _, _, _, rfl, rfl, ht, rfl, n, rfl, z⟩⟩⟩
end K45

/-! law k45: draw1. Behind K45d. -/
namespace K45
open PySem L2
/-! _law_sign, _law_row, _law_many, _law_long -/
theorem pick3 {x y z e : Int} (h0 : 0 ≤ e) (h1 : e < 3) : ∃ u : Int, (u = x ∨ u = y ∨ u = z) ∧ atI [V.int x, V.int y, V.int z] e = some (.int u) := by
  obtain ⟨n, hn, e1⟩ := atI_pick (ns := [x, y, z]) h0 (by show e < 3; exact h1)
  refine ⟨n, ?_, e1⟩
  simpa using hn
theorem pick2 {x y e : Int} (h0 : 0 ≤ e) (h1 : e < 2) : ∃ u : Int, (u = x ∨ u = y) ∧ atI [V.int x, V.int y] e = some (.int u) := by
  obtain ⟨n, hn, e1⟩ := atI_pick (ns := [x, y]) h0 (by show e < 2; exact h1)
  refine ⟨n, ?_, e1⟩
  simpa using hn
def sp_sign : Sp := fun vs H Q _ => ∃ c k : Int, vs = [.int c, .int k] ∧ 0 ≤ k ∧ k ≤ 60 ∧ ∀ (H' : Hp) (s : Int), Same H H' → (s = 1 ∨ s = -1) → Q (.int s) H'
theorem sc__law_sign : FnScope ["_law_first", "_law_atom"] ["_law_first", "_law_atom"] (defScope s__law_sign) := ⟨rfl, rfl, rfl, by decide +kernel, rfl, by decide +kernel, by decide +kernel⟩
theorem ok_sign {P : Program} {w : World} {K : PySem.W.Frag} {mg : Str → Option Value} {base : Heap} {f : Addr} {fd : FuncData} (F : Fun K "_law_sign" "_law_sign" s__law_sign f fd) : FnOk P w K mg base CX0 1 f fd ["_law_first", "_law_atom"] sp_sign := by
  refine F.ok sc__law_sign (fun vs H Q E h => ?_) (fun cdv A outer s H vs Q E hr h => ?_)
  · obtain ⟨c, k, rfl, _⟩ := h
    rfl
  obtain ⟨c, k, rfl, k0, k6, q⟩ := h
  refine ⟨_, (pss_one (ps_ret (pe_ix ix_list (pe_lst (pa_cons pe_int (pa_cons pe_int (pa_cons (pe_un un_neg pe_int) pa_nil)))) (pe_op op_mod (pe_op op_add (pe_op op_fdiv (pv 0) pe_int) (pe_op op_mul (pv 1) (pv 1))) pe_int) (fun _ _ => rfl)))), ?_⟩
  refine ⟨_, rfl, (by show 3 ≤ sizeLine; decide), fun l hl => ?_⟩
  have b := modR (c / 90 + k * k) (show (0 : Int) < 3 by decide)
  obtain ⟨u, hu, eu⟩ := pick3 (x := 1) (y := 1) (z := -1) b.1 b.2
  exact ⟨_, rfl, _, _, rfl, rfl, ⟨by decide, by decide⟩, _, rfl, _, rfl, _, _, rfl, rfl, .inl ⟨by omega, by omega⟩, _, _, rfl, rfl, _, _, rfl, rfl, (by show (0 : Int) < 3; decide), l, _, _, _, rfl, rfl, SqL.of upd_same, eu, q _ u (sameNew hl _) (by omega)⟩
def sp_row (K : PySem.W.Frag) : Sp := fun vs H Q _ => ∃ c m : Int, vs = [.int c, .int m] ∧ 1 ≤ m ∧ m ≤ 40 ∧ ∀ (H' : Hp) (l : Addr) (row : List Int), Same H H' → H l = none → H' l = some (.tup (row.map V.int)) → RowD row → Q (.ref l) H'
theorem sc__law_row : FnScope ["_law_cell", "_law_many_here", "_law_made", "_law_k", "_law_number", "_law_atom"] ["_law_cell", "_law_many_here"] (defScope s__law_row) := ⟨rfl, rfl, rfl, by decide +kernel, rfl, by decide +kernel, by decide +kernel⟩
set_option maxHeartbeats 2000000 in
theorem ok_row {P : Program} {w : World} {K : PySem.W.Frag} {mg : Str → Option Value} {base : Heap} {f fM : Addr} {fd dM : FuncData} (F : Fun K "_law_row" "_law_row" s__law_row f fd) (T : Txt K mg) (B_law_mix : FB P w K mg base CX0 1 "_law_mix" fM dM ["_law_cell", "_law_k"] sp_mix) : FnOk P w K mg base CX0 2 f fd ["_law_cell", "_law_many_here"] (sp_row K) := by
  refine F.ok sc__law_row (fun vs H Q E h => ?_) (fun cdv A outer s H vs Q E hr h => ?_)
  · obtain ⟨c, m, rfl, _⟩ := h
    rfl
  obtain ⟨c, m, rfl, m1, m2, h⟩ := h
  refine ⟨_, (pss_cons (ps_set (i := 2) sc__law_row.nd rfl (Or.inl rfl) (pe_lst pa_nil))
    (pss_cons (ps_for PassesOwn.never rfl (pi_range1 rfl T.range (pa_cons (pe_ix ix_list (pe_lst (pa_cons pe_int (pa_cons pe_int (pa_cons pe_int (pa_cons pe_int (pa_cons pe_int (pa_cons pe_int (pa_cons pe_int (pa_cons pe_int pa_nil))))))))) (pe_op op_mod (pv 0) pe_int) (fun _ _ => rfl)) pa_nil)) (pg_name (i := 3) sc__law_row.nd rfl (Or.inl rfl))
      (pss_cons (ps_set (i := 4) sc__law_row.nd rfl (Or.inl rfl) (pe_call B_law_mix.ok hr rfl B_law_mix.m B_law_mix.kp B_law_mix.b .nil pass0 (pa_cons (pv 0) (pa_cons (pv 3) pa_nil))))
        (pss_cons (ps_set (i := 5) sc__law_row.nd rfl (Or.inl rfl) (pe_op op_add pe_int (pe_op op_mod (pv 4) (pv 1))))
        (pss_one (ps_expr (pe_bm PySem.F.plainAttrs_list PySem.F.slot_list_append PySem.F.type_list_append mt_append (pv 2) (pa_cons (pe_ifExp (pt_cmpR op_eq (pe_op op_mod (pe_op op_fdiv (pv 4) (pv 1)) pe_int) pe_int (nomark _)) (pv 5) (pe_un un_neg (pv 5))) pa_nil)))))))
    (pss_one (ps_ret (pe_callTy call_tuple_of rfl T.tuple PyProof.Rows.Boot.tuple (pa_cons (pv 2) pa_nil)))))), ?_⟩
  refine ⟨Nat.zero_le _, fun l hl => ?_⟩
  have s0 : Same H (upd H l (.lst [])) := sameNew hl _
  have hl0 := upd_same (H := H) (a := l) (o := .lst [])
  generalize upd H l (.lst []) = H1 at s0 hl0
  refine ⟨(by show 8 ≤ sizeLine; decide), fun q hq => ?_⟩
  have b8 := modR c (show (0 : Int) < 8 by decide)
  obtain ⟨z, hz, hz4'⟩ := atI_pick (ns := [2, 2, 3, 1, 3, 2, 4, 5]) b8.1 (show c % 8 < ((([2, 2, 3, 1, 3, 2, 4, 5] : List Int).length : Nat) : Int) from b8.2)
  have hz4 : atI [V.int 2, .int 2, .int 3, .int 1, .int 3, .int 2, .int 4, .int 5] (c % 8) = some (.int z) := hz4'
  have zr : 0 ≤ z ∧ z ≤ 5 := by
    simp only [List.mem_cons, List.not_mem_nil, or_false] at hz
    omega
  have s1 : Same H1 (upd H1 q (.lst [.int 2, .int 2, .int 3, .int 1, .int 3, .int 2, .int 4, .int 5])) := sameNew hq _
  refine ⟨_, rfl, _, _, rfl, rfl, (by show (0 : Int) < 8; decide), q, _, _, _, rfl, rfl, SqL.of upd_same, hz4, ?_⟩
  have s01 := s0.trans s1
  have hl1 := s1 _ _ hl0
  generalize upd H1 q (.lst [.int 2, .int 2, .int 3, .int 1, .int 3, .int 2, .int 4, .int 5]) = H2 at s01 hl1
  refine ⟨_, rfl, by omega, by omega, ?_⟩
  refine for_by wk_range (fun i σ H' => ∃ (row : List Int) (v3 v4 v5 : Option V), σ = [some (.int c), some (.int m), some (.ref l), v3, v4, v5] ∧ Same H H' ∧ H' l = some (.lst (row.map V.int)) ∧ row.length = i ∧ ∀ p ∈ row, p ≠ 0 ∧ -60 ≤ p ∧ p ≤ 60) (fun _ _ _ _ => trivial) ⟨[], none, none, none, rfl, s01, hl1, rfl, fun _ h => absurd h (by simp)⟩ ?_ ?_
  · rintro i σ H' x H'' hi ⟨row, v3, v4, v5, rfl, s1, hl1, rl, rp⟩ ⟨rfl, rfl⟩
    refine ⟨_, rfl, _, rfl, _, _, rfl, ?_⟩
    generalize mixF c (0 + (i : Int)) = y
    have bz := modR y (show (0 : Int) < m by omega)
    have step : ∀ b : Int, (b = 1 + y % m ∨ b = -(1 + y % m)) → (∀ p ∈ row ++ [b], p ≠ 0 ∧ -60 ≤ p ∧ p ≤ 60) ∧ (row ++ [b]).length = i + 1 := fun b hb =>
      ⟨RowD.snoc (n := i) rp (by omega), by rw [List.length_append, rl]; rfl⟩
    refine ⟨_, rfl, _, rfl, _, _, rfl, rfl, (by show (0 : Int) < m; omega), _, _, rfl, rfl, ?_⟩
    refine ⟨_, rfl, .inl ⟨rfl, _, SqL.of hl1⟩, _, rfl, _, rfl, _, _, rfl, rfl, ⟨by show (0 : Int) < m; omega, by show m < 1073741824; omega⟩, _, _, rfl, rfl, (by show (0 : Int) < 2; decide), rfl, _, rfl, ite2 (fun _ => ?_) (fun _ => ?_)⟩
    · obtain ⟨q1, q2⟩ := step _ (.inl rfl)
      refine ⟨_, rfl, l, _, _, rfl, rfl, hl1, small1000 (by rw [List.length_map]; omega), _, _, _, _, rfl, s1.upd hl, ?_, q2, q1⟩
      rw [List.map_append]
      exact upd_same
    · obtain ⟨q1, q2⟩ := step _ (.inr rfl)
      refine ⟨_, rfl, _, rfl, l, _, _, rfl, rfl, hl1, small1000 (by rw [List.length_map]; omega), _, _, _, _, rfl, s1.upd hl, ?_, q2, q1⟩
      rw [List.map_append]
      exact upd_same
  · rintro σ H' ⟨row, v3, v4, v5, rfl, s1, hl1, rl, rp⟩
    exact ⟨_, rfl, l, _, rfl, .inl ⟨SqL.of hl1, fun t ht => h _ t row (s1.trans (sameNew ht _)) (s1.free ht) upd_same ⟨by omega, rp⟩⟩⟩
def sp_many (K : PySem.W.Frag) : Sp := fun vs H Q _ => ∃ (a : Addr) (ns : List Int), vs = [.ref a] ∧ SqL K H a (ns.map V.int) ∧ ∀ (H' : Hp) (m : Int), Same H H' → 1 ≤ m → m ≤ 40 → Q (.int m) H'
theorem sc__law_many : FnScope ["_law_script"] ["_law_script"] (defScope s__law_many) := ⟨rfl, rfl, rfl, by decide +kernel, rfl, by decide +kernel, by decide +kernel⟩
theorem ok_many {P : Program} {w : World} {K : PySem.W.Frag} {mg : Str → Option Value} {base : Heap} {f fC : Addr} {fd dC : FuncData} (F : Fun K "_law_many" "_law_many" s__law_many f fd) (B_law_cell_at : FB P w K mg base CX0 1 "_law_cell_at" fC dC ["_law_script", "_law_k"] (sp_cell K)) : FnOk P w K mg base CX0 2 f fd ["_law_script"] (sp_many K) := by
  refine F.ok sc__law_many (fun vs H Q E h => ?_) (fun cdv A outer s H vs Q E hr h => ?_)
  · obtain ⟨a, ns, rfl, _⟩ := h
    rfl
  obtain ⟨a, ns, rfl, hS, h⟩ := h
  refine ⟨_, (pss_one (ps_ret (pe_op op_add pe_int (pe_op op_mod (pe_op op_mod (pe_op op_mul (pe_call B_law_cell_at.ok hr rfl B_law_cell_at.m B_law_cell_at.kp B_law_cell_at.b .nil pass0 (pa_cons (pv 0) (pa_cons pe_int pa_nil))) pe_int) pe_int) (pe_ix ix_list (pe_lst (pa_cons pe_int (pa_cons pe_int (pa_cons pe_int pa_nil)))) (pe_op op_mod (pe_call B_law_cell_at.ok hr rfl B_law_cell_at.m B_law_cell_at.kp B_law_cell_at.b .nil pass0 (pa_cons (pv 0) (pa_cons pe_int pa_nil))) pe_int) (fun _ _ => rfl)))))), ?_⟩
  refine ⟨_, rfl, a, ns, 0, rfl, hS, _, _, rfl, rfl, .inr ⟨by decide, by decide⟩, _, _, rfl, rfl, (by show (0 : Int) < 1000003; decide), (by show 3 ≤ sizeLine; decide), fun l hl => ?_⟩
  have s1 : Same H (upd H l (.lst [.int 20, .int 20, .int 40])) := sameNew hl _
  have b := modR (ns.getD 0 0) (show (0 : Int) < 3 by decide)
  obtain ⟨u, hu, eu⟩ := pick3 (x := 20) (y := 20) (z := 40) b.1 b.2
  have b2 := modR (ns.getD 0 0 * 48271 % 1000003) (show (0 : Int) < u by omega)
  exact ⟨_, rfl, a, ns, 0, rfl, s1.seq hS, _, _, rfl, rfl, (by show (0 : Int) < 3; decide), l, _, _, _, rfl, rfl, SqL.of upd_same, eu, _, _, rfl, rfl, (by show (0 : Int) < u; omega), _, _, rfl, rfl, h _ _ s1 (by omega) (by omega)⟩
def sp_long (K : PySem.W.Frag) : Sp := fun vs H Q _ => ∃ c m : Int, vs = [.int c, .int m] ∧ 4 ≤ m ∧ m ≤ 40 ∧ ∀ (H' : Hp) (l : Addr) (row : List Int), Same H H' → H l = none → H' l = some (.tup (row.map V.int)) → RowD row → Q (.ref l) H'
theorem sc__law_long : FnScope ["_law_first", "_law_at", "_law_row_here", "_law_atom"] ["_law_first", "_law_at"] (defScope s__law_long) := ⟨rfl, rfl, rfl, by decide +kernel, rfl, by decide +kernel, by decide +kernel⟩
theorem ok_long {P : Program} {w : World} {K : PySem.W.Frag} {mg : Str → Option Value} {base : Heap} {f fS : Addr} {fd dS : FuncData} (F : Fun K "_law_long" "_law_long" s__law_long f fd) (T : Txt K mg) (B_law_sign : FB P w K mg base CX0 1 "_law_sign" fS dS ["_law_first", "_law_atom"] sp_sign) : FnOk P w K mg base CX0 2 f fd ["_law_first", "_law_at"] (sp_long K) := by
  refine F.ok sc__law_long (fun vs H Q E h => ?_) (fun cdv A outer s H vs Q E hr h => ?_)
  · obtain ⟨c, m, rfl, _⟩ := h
    rfl
  obtain ⟨c, m, rfl, m1, m2, h⟩ := h
  refine ⟨_, (pss_cons (ps_set (i := 2) sc__law_long.nd rfl (Or.inl rfl) (pe_lst pa_nil))
    (pss_cons (ps_for PassesOwn.never rfl (pi_range2 rfl T.range (pa_cons (pe_callB (call_max2 rfl) rfl T.max PyProof.Rows.Boot.max (pa_cons pe_int (pa_cons (pe_op op_sub (pe_op op_sub (pv 1) pe_int) (pe_op op_mod (pe_op op_add (pe_op op_fdiv (pv 0) pe_int) (pv 1)) pe_int)) pa_nil))) (pa_cons (pv 1) pa_nil))) (pg_name (i := 3) sc__law_long.nd rfl (Or.inl rfl))
      (pss_one (ps_expr (pe_bm PySem.F.plainAttrs_list PySem.F.slot_list_append PySem.F.type_list_append mt_append (pv 2) (pa_cons (pe_op op_mul (pe_un un_neg (pv 3)) (pe_call B_law_sign.ok hr rfl B_law_sign.m B_law_sign.kp B_law_sign.b .nil pass0 (pa_cons (pv 0) (pa_cons (pv 3) pa_nil)))) pa_nil)))))
    (pss_cons (ps_expr (pe_bm PySem.F.plainAttrs_list PySem.F.slot_list_insert PySem.F.type_list_insert mt_insert (pv 2) (pa_cons (pe_op op_mod (pe_op op_mul (pv 1) pe_int) (pe_op op_add (pe_callB call_len_seq rfl T.len PySem.boot_len (pa_cons (pv 2) pa_nil)) pe_int)) (pa_cons (pe_op op_mul (pv 1) (pe_call B_law_sign.ok hr rfl B_law_sign.m B_law_sign.kp B_law_sign.b .nil pass0 (pa_cons (pv 0) (pa_cons (pv 1) pa_nil)))) pa_nil))))
    (pss_one (ps_ret (pe_callTy call_tuple_of rfl T.tuple PyProof.Rows.Boot.tuple (pa_cons (pv 2) pa_nil))))))), ?_⟩
  refine ⟨Nat.zero_le _, fun l hl => ?_⟩
  have s0 : Same H (upd H l (.lst [])) := sameNew hl _
  have hl0 := upd_same (H := H) (a := l) (o := .lst [])
  generalize upd H l (.lst []) = H1 at s0 hl0
  have b15 := modR (c / 3 + m) (show (0 : Int) < 15 by decide)
  refine ⟨_, rfl, _, _, rfl, rfl, _, rfl, _, _, rfl, rfl, ⟨by decide, by decide⟩, _, rfl, _, _, rfl, rfl, _, _, rfl, rfl, (by show (0 : Int) < 15; decide), _, _, rfl, rfl, _, _, rfl, _, rfl, ?_⟩
  obtain ⟨lo, elo⟩ : ∃ lo : Int, (if m - 5 - (c / 3 + m) % 15 > 1 then m - 5 - (c / 3 + m) % 15 else 1) = lo := ⟨_, rfl⟩
  have blo : 1 ≤ lo ∧ lo ≤ m ∧ m - lo ≤ 19 := by
    rw [← elo]
    split <;> omega
  refine ⟨_, _, rfl, ?_, ?_⟩
  · show _ ∧ _ ∧ _ ∧ _
    rw [elo]
    omega
  refine for_by wk_range (fun i σ H' => ∃ (row : List Int) (v3 : Option V), σ = [some (.int c), some (.int m), some (.ref l), v3] ∧ Same H H' ∧ H' l = some (.lst (row.map V.int)) ∧ row.length = i ∧ ∀ p ∈ row, p ≠ 0 ∧ -60 ≤ p ∧ p ≤ 60) (fun _ _ _ _ => trivial) ⟨[], none, rfl, s0, hl0, rfl, fun _ h => absurd h (by simp)⟩ ?_ ?_
  · rintro i σ H' x H'' hi ⟨row, v3, rfl, s1, hl1, rl, rp⟩ ⟨rfl, rfl⟩
    have hi' : i < (m - lo).toNat := by rw [← elo]; exact hi
    refine ⟨_, rfl, .inl ⟨rfl, _, SqL.of hl1⟩, _, rfl, _, rfl, _, rfl, _, rfl, c, _, rfl, ?_, ?_, fun H3 u s3 hu => ?_⟩
    · show 0 ≤ (if m - 5 - (c / 3 + m) % 15 > 1 then m - 5 - (c / 3 + m) % 15 else 1) + (i : Int)
      rw [elo]
      omega
    · show (if m - 5 - (c / 3 + m) % 15 > 1 then m - 5 - (c / 3 + m) % 15 else 1) + (i : Int) ≤ 60
      rw [elo]
      omega
    have hl3 := s3 _ _ hl1
    refine ⟨_, _, rfl, rfl, .inr ⟨by omega, by omega⟩, l, _, _, rfl, rfl, hl3, small1000 (by rw [List.length_map]; omega), row ++ [-((if m - 5 - (c / 3 + m) % 15 > 1 then m - 5 - (c / 3 + m) % 15 else 1) + (i : Int)) * u], _, rfl, (s1.trans s3).upd hl, ?_, by rw [List.length_append, rl]; rfl, RowD.snoc (n := i) rp ?_⟩
    · rw [List.map_append]
      exact upd_same
    · rw [elo]
      rcases hu with rfl | rfl <;> omega
  · rintro σ H' ⟨row, v3, rfl, s1, hl1, rl, rp⟩
    have rl' : row.length ≤ 19 := by
      rw [rl, elo]
      omega
    have hL : (row.map V.int).length = row.length := List.length_map _
    have b1 := modR (m * 7) (show (0 : Int) < (((row.map V.int).length : Nat) : Int) + 1 by omega)
    refine ⟨_, rfl, .inl ⟨rfl, _, SqL.of hl1⟩, _, rfl, _, _, rfl, rfl, .inr ⟨by decide, by decide⟩, _, rfl, l, _, rfl, .inl (SqL.of hl1), _, _, rfl, rfl, _, _, rfl, rfl, (by show (0 : Int) < (((row.map V.int).length : Nat) : Int) + 1; omega), _, rfl, _, rfl, _, rfl, c, m, rfl, by omega, by omega, fun H3 u s3 hu => ?_⟩
    have hl3 := s3 _ _ hl1
    refine ⟨_, _, rfl, rfl, .inr ⟨by omega, by omega⟩, l, _, (m * 7 % ((((row.map V.int).length : Nat) : Int) + 1)).toNat, .int (m * u), rfl, by rw [Int.toNat_of_nonneg b1.1], hl3, by omega, small1000 (by omega), ?_⟩
    rw [ins_map]
    refine ⟨_, rfl, l, _, rfl, .inl ⟨SqL.of upd_same, fun t ht => h _ t _ (((s1.trans s3).upd hl).trans (sameNew ht _)) (((s1.trans s3).upd hl).free ht) upd_same ⟨by rw [len_ins]; omega, fun p hp => ?_⟩⟩⟩
    rcases mem_ins.mp hp with z | z
    · rw [z]
      rcases hu with rfl | rfl <;> omega
    · exact rp p z
end K45

/-! law k45: draw2. Behind K45e. -/
namespace K45
open PySem L2
/-! _law_rows -/
def sp_rows (K : PySem.W.Frag) : Sp := fun vs H Q _ => ∃ (a : Addr) (ns : List Int) (m : Int), vs = [.ref a, .int m] ∧ SqL K H a (ns.map V.int) ∧ ns.length ≤ 63 ∧ 1 ≤ m ∧ m ≤ 40 ∧ ∀ (H' : Hp) (l : Addr) (xs : List V) (Rs : List (List Int)), Same H H' → H l = none → H' l = some (.lst xs) → HasL K H' (Rs.map dRow) xs → Rs.length ≤ 250 → (∀ r ∈ Rs, RowD r) → Q (.ref l) H'
theorem sc__law_rows : FnScope ["_law_script", "_law_many_here", "_law_made", "_law_first", "_law_sign_here", "_law_k", "_law_at", "_law_cell"] ["_law_script", "_law_many_here"] (defScope s__law_rows) := ⟨rfl, rfl, rfl, by decide +kernel, rfl, by decide +kernel, by decide +kernel⟩
abbrev NRs : List Str := ["_law_script", "_law_many_here", "_law_made", "_law_first", "_law_sign_here", "_law_k", "_law_at", "_law_cell"]
/-- rows under way -/
structure RwU (K : PySem.W.Frag) (H0 H : Hp) (l : Addr) (xs : List V) (Rs : List (List Int)) (n : Nat) : Prop where
  sm : Same H0 H
  fr : H0 l = none
  hl : H l = some (.lst xs)
  hx : HasL K H (Rs.map dRow) xs
  le : Rs.length ≤ n
  ok : ∀ r ∈ Rs, RowD r
theorem RwU.same {K : PySem.W.Frag} {H0 H H' : Hp} {l : Addr} {xs : List V} {Rs : List (List Int)} {n : Nat} (d : RwU K H0 H l xs Rs n) (s : Same H H') : RwU K H0 H' l xs Rs n :=
  ⟨d.sm.trans s, d.fr, s _ _ d.hl, HasL.keep s.kt (nols_rows _) d.hx, d.le, d.ok⟩
theorem RwU.mono {K : PySem.W.Frag} {H0 H : Hp} {l : Addr} {xs : List V} {Rs : List (List Int)} {n n' : Nat} (d : RwU K H0 H l xs Rs n) (h : n ≤ n') : RwU K H0 H l xs Rs n' := ⟨d.sm, d.fr, d.hl, d.hx, Nat.le_trans d.le h, d.ok⟩
theorem RwU.len {K : PySem.W.Frag} {H0 H : Hp} {l : Addr} {xs : List V} {Rs : List (List Int)} {n : Nat} (d : RwU K H0 H l xs Rs n) : xs.length ≤ n := by
  have := d.hx.length
  rw [List.length_map] at this
  have := d.le
  omega
theorem RwU.add {K : PySem.W.Frag} {H0 H : Hp} {l t : Addr} {xs : List V} {Rs : List (List Int)} {n : Nat} {r : List Int} (d : RwU K H0 H l xs Rs n) (ht : SqT K H t (r.map V.int)) (hr : RowD r) : RwU K H0 (upd H l (.lst (xs ++ [.ref t]))) l (xs ++ [.ref t]) (Rs ++ [r]) (n + 1) := by
  have k := KeepT.lst (ys := xs ++ [.ref t]) d.hl
  refine ⟨d.sm.upd d.fr, d.fr, upd_same, ?_, ?_, fun q hq => ?_⟩
  · rw [List.map_append]
    exact HasL.append (HasL.keep k (nols_rows _) d.hx) (HasL.one (of_dRow (k.sq ht)))
  · rw [List.length_append]
    exact Nat.succ_le_succ d.le
  · rcases List.mem_append.mp hq with e | e
    · exact d.ok q e
    · cases List.mem_singleton.mp e
      exact hr
section
variable {P : Program} {w : World} {K : PySem.W.Frag} {mg : Str → Option Value} {base : Heap} {f fC fR fL : Addr} {dC dR' dL : FuncData}
theorem rows5 (T : Txt K mg) (B_law_row : FB P w K mg base CX0 2 "_law_row" fR dR' ["_law_cell", "_law_many_here"] (sp_row K))
    {cdv : Value} {A : Around} {outer : List Env} {s : Shared} {H0 : Hp} {E : XK} (hr : Room 2 (A.deeper (PyProof.Rows.envOfC "_law_rows" (defScope s__law_rows) s.heap.objs.size f cdv))) :
    ∃ t, PSs (cxOf CX0 P w K mg base NRs "_law_rows" (defScope s__law_rows) f cdv A outer s H0 E).nox ((defBody s__law_rows).drop 5) t ∧
      ∀ (D : Ends) (H0 H : Hp) (a l : Addr) (ns : List Int) (m c : Int) (xs : List V) (Rs : List (List Int)) (v4 v5 v6 : Option V), RwU K H0 H l xs Rs 180 → SqL K H a (ns.map V.int) → ns.length ≤ 63 → 1 ≤ m → m ≤ 40 → (∀ (H' : Hp) (l : Addr) (xs : List V) (Rs : List (List Int)), Same H0 H' → H0 l = none → H' l = some (.lst xs) → HasL K H' (Rs.map dRow) xs → Rs.length ≤ 250 → (∀ r ∈ Rs, RowD r) → D.rt (.ref l) H') →
        t D [some (.ref a), some (.int m), some (.ref l), some (.int c), v4, v5, v6, none] H := by
  refine ⟨_, (pss_cons (ps_for PassesOwn.never rfl (pi_list (pe_slice sl_list (pv 0) (po_some pe_int) (po_some pe_int))) (pg_name (i := 7) sc__law_rows.nd rfl (Or.inl rfl))
      (pss_one (ps_if (PW.pt (pw_or (pt_cmpR op_lt (pe_op op_mod (pv 3) pe_int) pe_int (nomark _)) (pw_or1 (pt_cmpR op_eq (pe_op op_mod (pv 7) pe_int) pe_int (nomark _)))))
          (pss_one (ps_expr (pe_bm PySem.F.plainAttrs_list PySem.F.slot_list_append PySem.F.type_list_append mt_append (pv 2) (pa_cons (pe_call B_law_row.ok hr rfl B_law_row.m B_law_row.kp B_law_row.b .nil pass0 (pa_cons (pv 7) (pa_cons (pv 1) pa_nil))) pa_nil))))
          pss_nil)))
    (pss_one (ps_ret (pv 2)))), ?_⟩
  rintro D H0 H a l ns m c xs Rs v4 v5 v6 d hS h63 m1 m2 h
  obtain ⟨ms, ec, lms⟩ := cut_ints ns (some 3) (some 27)
  refine ⟨_, rfl, _, rfl, _, rfl, a, _, rfl, hS, fun p hp => ?_⟩
  rw [ec]
  have s2 : Same H (upd H p (.lst (ms.map V.int))) := sameNew hp _
  have np := upd_same (H := H) (a := p) (o := .lst (ms.map V.int))
  have npl : p ≠ l := Ne.symm (ne_of_none d.hl hp)
  have d2 := d.same s2
  generalize upd H p (.lst (ms.map V.int)) = H2 at s2 np d2
  refine ⟨p, rfl, ⟨_, SqL.of np⟩, for_by wk_list (fun i σ H' => ∃ (Rs' : List (List Int)) (ys : List V) (v7 : Option V), σ = [some (.ref a), some (.int m), some (.ref l), some (.int c), v4, v5, v6, v7] ∧ H' p = some (.lst (ms.map V.int)) ∧ RwU K H0 H' l ys Rs' (180 + i)) (fun i σ H' ⟨_, _, _, _, q, _⟩ => SqL.of q) ⟨Rs, xs, none, rfl, np, d2⟩ ?_ ?_⟩
  · rintro i σ H' x H'' hi ⟨Rs', ys, v7, rfl, hp3, d3⟩ ⟨rfl, hx'⟩
    obtain ⟨e, he, rfl⟩ := ints_at (hx' _ (SqL.of hp3))
    rw [List.length_map] at hi
    have yl := d3.len
    refine ⟨_, rfl, _, _, rfl, rfl, (by show (0 : Int) < 3; decide), _, _, rfl, rfl, _, rfl, ite2 (fun _ => ?_) (fun _ => ⟨_, rfl, _, _, rfl, rfl, (by show (0 : Int) < 5; decide), rfl, _, rfl, ite2 (fun _ => ?_) (fun _ => ⟨Rs', ys, _, rfl, hp3, d3.mono (by omega)⟩)⟩)⟩
    · refine ⟨_, rfl, .inl ⟨rfl, _, SqL.of d3.hl⟩, _, rfl, _, rfl, e, m, rfl, m1, m2, fun H4 t row s4 ht hrow rk => ?_⟩
      have d4 := d3.same s4
      exact ⟨l, _, _, rfl, rfl, d4.hl, small1000 (by omega), _, _, _, rfl, by rw [upd_ne npl]; exact s4 _ _ hp3, d4.add (SqT.of hrow) rk⟩
    · refine ⟨_, rfl, .inl ⟨rfl, _, SqL.of d3.hl⟩, _, rfl, _, rfl, e, m, rfl, m1, m2, fun H4 t row s4 ht hrow rk => ?_⟩
      have d4 := d3.same s4
      exact ⟨l, _, _, rfl, rfl, d4.hl, small1000 (by omega), _, _, _, rfl, by rw [upd_ne npl]; exact s4 _ _ hp3, d4.add (SqT.of hrow) rk⟩
  · rintro σ H' ⟨Rs', ys, v7, rfl, hp3, d3⟩
    have le := d3.le
    rw [List.length_map] at le
    exact ⟨_, rfl, h H' l ys Rs' d3.sm d3.fr d3.hl d3.hx (by omega) d3.ok⟩
theorem rows4 (T : Txt K mg) (B_law_row : FB P w K mg base CX0 2 "_law_row" fR dR' ["_law_cell", "_law_many_here"] (sp_row K))
    {cdv : Value} {A : Around} {outer : List Env} {s : Shared} {H0 : Hp} {E : XK} (hr : Room 2 (A.deeper (PyProof.Rows.envOfC "_law_rows" (defScope s__law_rows) s.heap.objs.size f cdv))) :
    ∃ t, PSs (cxOf CX0 P w K mg base NRs "_law_rows" (defScope s__law_rows) f cdv A outer s H0 E).nox ((defBody s__law_rows).drop 4) t ∧
      ∀ (D : Ends) (H0 H : Hp) (a l : Addr) (ns : List Int) (m c : Int) (xs : List V) (Rs : List (List Int)) (v4 v5 v6 : Option V), RwU K H0 H l xs Rs 100 → SqL K H a (ns.map V.int) → ns.length ≤ 63 → 1 ≤ m → m ≤ 40 → (∀ (H' : Hp) (l : Addr) (xs : List V) (Rs : List (List Int)), Same H0 H' → H0 l = none → H' l = some (.lst xs) → HasL K H' (Rs.map dRow) xs → Rs.length ≤ 250 → (∀ r ∈ Rs, RowD r) → D.rt (.ref l) H') →
        t D [some (.ref a), some (.int m), some (.ref l), some (.int c), v4, v5, v6, none] H := by
  obtain ⟨t5, h5, q5⟩ := rows5 (f := f) (outer := outer) (H0 := H0) (E := E) T B_law_row hr
  refine ⟨_, (pss_cons (ps_if (pt_cmpR op_eq (pe_op op_mod (pe_op op_fdiv (pv 3) pe_int) pe_int) pe_int (nomark _))
      (pss_one (ps_set (i := 2) sc__law_rows.nd rfl (Or.inl rfl) (pe_op op_cat (pe_op op_rep (pe_lst (pa_cons (pe_tup (pa_cons pe_int (pa_cons pe_int pa_nil))) pa_nil)) pe_int) (pv 2))))
      pss_nil) h5), ?_⟩
  rintro D H0 H a l ns m c xs Rs v4 v5 v6 d hS h63 m1 m2 h
  refine ⟨_, rfl, _, _, rfl, rfl, ⟨by decide, by decide⟩, _, _, rfl, rfl, (by show (0 : Int) < 8; decide), rfl, _, rfl, ite2 (fun _ => ?_) (fun _ => q5 D H0 H a l ns m c xs Rs v4 v5 v6 (d.mono (by decide)) hS h63 m1 m2 h)⟩
  refine ⟨(by show 2 ≤ sizeLine; decide), fun t ht => ?_⟩
  have s1 : Same H (upd H t (.tup [.int 50, .int 51])) := sameNew ht _
  have n1 := upd_same (H := H) (a := t) (o := .tup [.int 50, .int 51])
  generalize upd H t (.tup [.int 50, .int 51]) = H1 at s1 n1
  refine ⟨(by show 1 ≤ sizeLine; decide), fun q hq => ?_⟩
  have s2 : Same H1 (upd H1 q (.lst [.ref t])) := sameNew hq _
  have n2 := upd_same (H := H1) (a := q) (o := .lst [.ref t])
  have n12 := s2 _ _ n1
  have s02 := s1.trans s2
  generalize upd H1 q (.lst [.ref t]) = H2 at s02 n2 n12
  refine ⟨q, 70, _, rfl, rfl, n2, by decide, by decide, bsz _ (by show 70 ≤ 1000; decide), fun l3 hl3 => ?_⟩
  rw [flat_one]
  have s3 : Same H2 (upd H2 l3 (.lst (List.replicate (70 : Int).toNat (.ref t)))) := sameNew hl3 _
  have n3 := upd_same (H := H2) (a := l3) (o := .lst (List.replicate (70 : Int).toNat (.ref t)))
  have s03 := s02.trans s3
  have n13 := s3 _ _ n12
  generalize upd H2 l3 (.lst (List.replicate (70 : Int).toNat (.ref t))) = H3 at s03 n3 n13
  have d3 := d.same s03
  have xl := d.len
  refine ⟨_, rfl, l3, l, _, _, rfl, rfl, n3, d3.hl, bsz _ (by rw [List.length_replicate]; show 70 + _ ≤ 1000; omega), fun l4 hl4 => ?_⟩
  have s4 : Same H3 (upd H3 l4 (.lst (List.replicate (70 : Int).toNat (.ref t) ++ xs))) := sameNew hl4 _
  have d4 := d3.same s4
  refine q5 D H0 _ a l4 ns m c _ (List.replicate (70 : Int).toNat [50, 51] ++ Rs) v4 v5 v6 ⟨d4.sm, d3.sm.free hl4, upd_same, ?_, ?_, fun r hr => ?_⟩ ((s03.trans s4).seq hS) h63 m1 m2 h
  · rw [List.map_append, List.map_replicate]
    exact HasL.append (HasL.rep (of_dRow (r := [50, 51]) (SqT.of (s4 _ _ n13))) _) d4.hx
  · rw [List.length_append, List.length_replicate]
    have := d.le
    show 70 + _ ≤ 180
    omega
  · rcases List.mem_append.mp hr with e | e
    · cases List.eq_of_mem_replicate e
      refine ⟨by decide, fun p hp => ?_⟩
      simp only [List.mem_cons, List.not_mem_nil, or_false] at hp
      omega
    · exact d.ok r e
theorem rows3 (T : Txt K mg) (B_law_row : FB P w K mg base CX0 2 "_law_row" fR dR' ["_law_cell", "_law_many_here"] (sp_row K)) (B_law_long : FB P w K mg base CX0 2 "_law_long" fL dL ["_law_first", "_law_at"] (sp_long K))
    {cdv : Value} {A : Around} {outer : List Env} {s : Shared} {H0 : Hp} {E : XK} (hr : Room 2 (A.deeper (PyProof.Rows.envOfC "_law_rows" (defScope s__law_rows) s.heap.objs.size f cdv))) :
    ∃ t, PSs (cxOf CX0 P w K mg base NRs "_law_rows" (defScope s__law_rows) f cdv A outer s H0 E).nox ((defBody s__law_rows).drop 3) t ∧
      ∀ (D : Ends) (H0 H : Hp) (a l : Addr) (ns : List Int) (m c : Int) (xs : List V) (Rs : List (List Int)) (v4 v5 : Option V), RwU K H0 H l xs Rs 50 → SqL K H0 a (ns.map V.int) → ns.length ≤ 63 → 1 ≤ m → m ≤ 40 → (∀ (H' : Hp) (l : Addr) (xs : List V) (Rs : List (List Int)), Same H0 H' → H0 l = none → H' l = some (.lst xs) → HasL K H' (Rs.map dRow) xs → Rs.length ≤ 250 → (∀ r ∈ Rs, RowD r) → D.rt (.ref l) H') →
        t D [some (.ref a), some (.int m), some (.ref l), some (.int c), v4, v5, none, none] H := by
  obtain ⟨t4, h4, q4⟩ := rows4 (f := f) (outer := outer) (H0 := H0) (E := E) T B_law_row hr
  refine ⟨_, (pss_cons (ps_if (pt_cmpR op_eq (pe_op op_mod (pv 3) pe_int) pe_int (nomark _))
      (pss_one (ps_for PassesOwn.never rfl (pi_range2 rfl T.range (pa_cons pe_int (pa_cons (pe_op op_add (pv 1) pe_int) pa_nil))) (pg_name (i := 6) sc__law_rows.nd rfl (Or.inl rfl))
          (pss_one (ps_if (pt_cmpR op_gt (pe_op op_mod (pe_op op_add (pv 6) (pe_op op_fdiv (pv 3) pe_int)) pe_int) pe_int (nomark _))
              (pss_one (ps_expr (pe_bm PySem.F.plainAttrs_list PySem.F.slot_list_append PySem.F.type_list_append mt_append (pv 2) (pa_cons (pe_call B_law_long.ok hr rfl B_law_long.m B_law_long.kp B_law_long.b .nil pass0 (pa_cons (pv 3) (pa_cons (pv 6) pa_nil))) pa_nil))))
              pss_nil))))
      pss_nil) h4), ?_⟩
  rintro D H0 H a l ns m c xs Rs v4 v5 d hS h63 m1 m2 h
  refine ⟨_, rfl, _, _, rfl, rfl, (by show (0 : Int) < 3; decide), rfl, _, rfl, ite2 (fun _ => ?_) (fun _ => q4 D H0 H a l ns m c xs Rs v4 v5 none (d.mono (by decide)) (d.sm.seq hS) h63 m1 m2 h)⟩
  refine ⟨_, rfl, _, _, rfl, rfl, _, _, rfl, ⟨by omega, by omega, by omega, by omega⟩, ?_⟩
  refine for_by wk_range (fun i σ H' => ∃ (Rs' : List (List Int)) (ys : List V) (v6 : Option V), σ = [some (.ref a), some (.int m), some (.ref l), some (.int c), v4, v5, v6, none] ∧ RwU K H0 H' l ys Rs' (50 + i)) (fun _ _ _ _ => trivial) ⟨Rs, xs, none, rfl, d⟩ ?_ ?_
  · rintro i σ H' x H'' hi ⟨Rs', ys, v6, rfl, d3⟩ ⟨rfl, rfl⟩
    have yl := d3.len
    have hi' : i < (m + 1 - 4).toNat := hi
    refine ⟨_, rfl, _, rfl, _, _, rfl, rfl, ⟨by decide, by decide⟩, _, _, rfl, rfl, _, _, rfl, rfl, (by show (0 : Int) < 3; decide), _, _, rfl, rfl, _, rfl, ite2 (fun _ => ?_) (fun _ => ⟨Rs', ys, _, rfl, d3.mono (by omega)⟩)⟩
    refine ⟨_, rfl, .inl ⟨rfl, _, SqL.of d3.hl⟩, _, rfl, _, rfl, c, _, rfl, by omega, by omega, fun H4 t row s4 ht hrow rk => ?_⟩
    have d4 := d3.same s4
    exact ⟨l, _, _, rfl, rfl, d4.hl, small1000 (by omega), _, _, _, rfl, d4.add (SqT.of hrow) rk⟩
  · rintro σ H' ⟨Rs', ys, v6, rfl, d3⟩
    have d3' : RwU K H0 H' l ys Rs' (50 + (m + 1 - 4).toNat) := d3
    exact q4 D H0 H' a l ns m c ys Rs' v4 v5 v6 (d3'.mono (by omega)) (d3.sm.seq hS) h63 m1 m2 h
theorem ok_rows {fd : FuncData} (F : Fun K "_law_rows" "_law_rows" s__law_rows f fd) (T : Txt K mg) (B_law_row : FB P w K mg base CX0 2 "_law_row" fR dR' ["_law_cell", "_law_many_here"] (sp_row K)) (B_law_cell_at : FB P w K mg base CX0 1 "_law_cell_at" fC dC ["_law_script", "_law_k"] (sp_cell K)) (B_law_long : FB P w K mg base CX0 2 "_law_long" fL dL ["_law_first", "_law_at"] (sp_long K)) : FnOk P w K mg base CX0 3 f fd ["_law_script", "_law_many_here"] (sp_rows K) := by
  refine F.ok sc__law_rows (fun vs H Q E h => ?_) (fun cdv A outer s H vs Q E hr h => ?_)
  · obtain ⟨a, ns, m, rfl, _⟩ := h
    rfl
  obtain ⟨a, ns, m, rfl, hS, h63, m1, m2, h⟩ := h
  have hr1 : Room 1 _ := hr.mono (by decide)
  obtain ⟨t3, h3, q3⟩ := rows3 (f := f) (outer := outer) (H0 := H) (E := E) T B_law_row B_law_long hr
  refine ⟨_, (pss_cons (ps_set (i := 2) sc__law_rows.nd rfl (Or.inl rfl) (pe_lst pa_nil))
    (pss_cons (ps_set (i := 3) sc__law_rows.nd rfl (Or.inl rfl) (pe_call B_law_cell_at.ok hr1 rfl B_law_cell_at.m B_law_cell_at.kp B_law_cell_at.b .nil pass0 (pa_cons (pv 0) (pa_cons pe_int pa_nil))))
    (pss_cons (ps_if (pt_cmpR op_eq (pe_op op_mod (pv 3) pe_int) pe_int (nomark _))
      (pss_cons (ps_set (i := 4) sc__law_rows.nd rfl (Or.inl rfl) (pe_ix ix_list (pe_lst (pa_cons pe_int (pa_cons (pe_un un_neg pe_int) pa_nil))) (pe_op op_mod (pe_op op_fdiv (pv 3) pe_int) pe_int) (fun _ _ => rfl)))
        (pss_one (ps_for PassesOwn.never rfl (pi_range2 rfl T.range (pa_cons pe_int (pa_cons (pv 1) pa_nil))) (pg_name (i := 5) sc__law_rows.nd rfl (Or.inl rfl))
          (pss_one (ps_expr (pe_bm PySem.F.plainAttrs_list PySem.F.slot_list_append PySem.F.type_list_append mt_append (pv 2) (pa_cons (pe_tup (pa_cons (pe_op op_mul (pv 4) (pe_op op_add (pv 5) pe_int)) (pa_cons (pe_op op_mul (pe_un un_neg (pv 4)) (pv 5)) pa_nil))) pa_nil)))))))
      pss_nil) h3))), ?_⟩
  refine ⟨Nat.zero_le _, fun l hl => ?_⟩
  have d0 : RwU K H (upd H l (.lst [])) l [] [] 0 := ⟨sameNew hl _, hl, upd_same, .nil, Nat.le_refl _, fun _ h => absurd h (by simp)⟩
  generalize upd H l (.lst []) = H1 at d0
  refine ⟨_, rfl, a, ns, 0, rfl, d0.sm.seq hS, ?_⟩
  generalize ns.getD 0 0 = c
  refine ⟨_, rfl, _, _, rfl, rfl, (by show (0 : Int) < 3; decide), rfl, _, rfl, ite2 (fun _ => ?_) (fun _ => q3 _ H H1 a l ns m c [] [] none none (d0.mono (by decide)) hS h63 m1 m2 h)⟩
  refine ⟨_, rfl, (by show 2 ≤ sizeLine; decide), fun q hq => ?_⟩
  have b := modR (c / 3) (show (0 : Int) < 2 by decide)
  obtain ⟨u, hu, eu⟩ := pick2 (x := 1) (y := -1) b.1 b.2
  have s1 : Same H1 (upd H1 q (.lst [.int 1, .int (-1)])) := sameNew hq _
  have d1 := d0.same s1
  refine ⟨_, rfl, _, _, rfl, rfl, ⟨by decide, by decide⟩, _, _, rfl, rfl, (by show (0 : Int) < 2; decide), q, _, _, _, rfl, rfl, SqL.of upd_same, eu, ?_⟩
  refine ⟨_, rfl, _, _, rfl, ⟨by omega, by omega, by omega, by omega⟩, ?_⟩
  refine for_by wk_range (fun i σ H' => ∃ (Rs' : List (List Int)) (ys : List V) (v5 : Option V), σ = [some (.ref a), some (.int m), some (.ref l), some (.int c), some (.int u), v5, none, none] ∧ RwU K H H' l ys Rs' i) (fun _ _ _ _ => trivial) ⟨[], [], none, rfl, d1⟩ ?_ ?_
  · rintro i σ H' x H'' hi ⟨Rs', ys, v5, rfl, d3⟩ ⟨rfl, rfl⟩
    have yl := d3.len
    have hi' : i < (m - 1).toNat := hi
    refine ⟨_, rfl, .inl ⟨rfl, _, SqL.of d3.hl⟩, _, rfl, _, rfl, _, _, rfl, rfl, _, _, rfl, rfl, .inl ⟨by omega, by omega⟩, _, rfl, _, rfl, _, rfl, _, _, rfl, rfl, .inl ⟨by omega, by omega⟩, (by show 2 ≤ sizeLine; decide), fun t ht => ?_⟩
    have s4 : Same H'' (upd H'' t (.tup [.int (u * (1 + (i : Int) + 1)), .int (-u * (1 + (i : Int)))])) := sameNew ht _
    have d4 := d3.same s4
    refine ⟨l, _, _, rfl, rfl, d4.hl, small1000 (by omega), _, _, _, rfl, d4.add (r := [u * (1 + (i : Int) + 1), -u * (1 + (i : Int))]) (SqT.of upd_same) ⟨by show 2 ≤ 100; decide, fun p hp => ?_⟩⟩
    simp only [List.mem_cons, List.not_mem_nil, or_false] at hp
    rcases hu with rfl | rfl <;> omega
  · rintro σ H' ⟨Rs', ys, v5, rfl, d3⟩
    have d3' : RwU K H H' l ys Rs' (m - 1).toNat := d3
    exact q3 _ H H' a l ns m c ys Rs' _ v5 (d3'.mono (by omega)) hS h63 m1 m2 h
end
end K45

/-! law k45: draw3. Behind K45f. -/
namespace K45
open PySem L2
/-! _law_left, _law_force -/
theorem filter_snoc {ks : List Int} {i : Nat} {k : Int} (p : Int → Bool) (h : ks[i]? = some k) : (ks.take (i + 1)).filter p = if p k = true then (ks.take i).filter p ++ [k] else (ks.take i).filter p := by
  rw [take_snoc h, List.filter_append]
  by_cases e : p k = true
  · rw [if_pos e, List.filter_cons, if_pos e]
    rfl
  · rw [if_neg e, List.filter_cons, if_neg e, List.filter_nil, List.append_nil]
def leftO (row hs : List Int) : Option (List Int) := if row.any (fun p => decide (p ∈ hs)) = true then none else some (opn row hs)
def sp_left (K : PySem.W.Frag) : Sp := fun vs H Q _ => ∃ (q d : Addr) (row held : List Int), vs = [.ref q, .ref d] ∧ SqT K H q (row.map V.int) ∧ Dset H d held ∧ row.length ≤ 1000 ∧ (∀ H', Same H H' → (row.any fun p => decide (p ∈ held)) = true → Q .non H') ∧ ∀ (H' : Hp) (l : Addr), Same H H' → H l = none → (row.any fun p => decide (p ∈ held)) = false → H' l = some (.lst ((opn row held).map V.int)) → Q (.ref l) H'
theorem sc__law_left : FnScope ["_law_row_here", "_law_held", "_law_found", "_law_part"] ["_law_row_here", "_law_held"] (defScope s__law_left) := ⟨rfl, rfl, rfl, by decide +kernel, rfl, by decide +kernel, by decide +kernel⟩
theorem opn_take {row hs : List Int} {i : Nat} {k : Int} (h : row[i]? = some k) (n : k ∉ hs) : opn (row.take (i + 1)) hs = if -k ∉ hs ∧ k ∉ opn (row.take i) hs then opn (row.take i) hs ++ [k] else opn (row.take i) hs := by
  have et := filter_snoc (fun p => decide (p ∉ hs) && decide (-p ∉ hs)) h
  unfold opn
  rw [et]
  by_cases e : -k ∈ hs
  · rw [if_neg (by simp [e]), if_neg (fun q => q.1 e)]
  · rw [if_pos (by simp [n, e])]
    have key : ∀ (ps acc : List Int) (k : Int), once acc (ps ++ [k]) = if k ∈ once acc ps then once acc ps else once acc ps ++ [k] := fun ps acc k => by
      have h1 : (ps ++ [k])[ps.length]? = some k := by
        rw [List.getElem?_append_right (Nat.le_refl _), Nat.sub_self]
        rfl
      have h2 := once_take (acc := acc) h1
      have e1 : (ps ++ [k]).take (ps.length + 1) = ps ++ [k] := List.take_of_length_le (by rw [List.length_append]; exact Nat.le_refl _)
      have e2 : (ps ++ [k]).take ps.length = ps := List.take_left
      rw [e1, e2] at h2
      exact h2
    rw [key]
    by_cases q : k ∈ once [] ((row.take i).filter fun p => decide (p ∉ hs) && decide (-p ∉ hs))
    · rw [if_pos q, if_neg (fun z => z.2 q)]
    · rw [if_neg q, if_pos ⟨e, q⟩]
theorem ok_left {P : Program} {w : World} {K : PySem.W.Frag} {mg : Str → Option Value} {base : Heap} {f : Addr} {fd : FuncData} (F : Fun K "_law_left" "_law_left" s__law_left f fd) : FnOk P w K mg base CX0 1 f fd ["_law_row_here", "_law_held"] (sp_left K) := by
  refine F.ok sc__law_left (fun vs H Q E h => ?_) (fun cdv A outer s H vs Q E hr h => ?_)
  · obtain ⟨q, d, row, held, rfl, _⟩ := h
    rfl
  obtain ⟨q, d, row, held, rfl, hq, hd, len, hn, hs⟩ := h
  have hu := hu_of hr
  obtain ⟨kvs, hk, hv, _⟩ := id hd.ex
  refine ⟨_, (pss_cons (ps_set (i := 2) sc__law_left.nd rfl (Or.inl rfl) (pe_lst pa_nil))
    (pss_cons (ps_for PassesOwn.never rfl (pi_tup (pv 0)) (pg_name (i := 3) sc__law_left.nd rfl (Or.inl rfl))
      (pss_cons (ps_if (pt_cmp (pc_din hu (pv 3) (pv 1)))
          (pss_one (ps_ret pe_non))
          pss_nil)
        (pss_one (ps_if (PW.pt (pw_and (pt_cmp (pc_dnotin hu (pe_un un_neg (pv 3)) (pv 1))) (pw_and1 (pt_cmpR op_notIn_seq (pv 3) (pv 2) rfl))))
          (pss_one (ps_expr (pe_bm PySem.F.plainAttrs_list PySem.F.slot_list_append PySem.F.type_list_append mt_append (pv 2) (pa_cons (pv 3) pa_nil))))
          pss_nil))))
    (pss_one (ps_ret (pv 2))))), ?_⟩
  refine ⟨Nat.zero_le _, fun l hl => ?_⟩
  have s0 : Same H (upd H l (.lst [])) := sameNew hl _
  refine ⟨_, rfl, q, rfl, ⟨_, s0.tup hq⟩, for_by wk_tup (fun i σ H' => (∃ v, σ = [some (.ref q), some (.ref d), some (.ref l), v]) ∧ Same H H' ∧ H' l = some (.lst ((opn (row.take i) held).map V.int)) ∧ ((row.take i).any fun p => decide (p ∈ held)) = false) (fun i σ H' ⟨_, s1, _⟩ => s1.tup hq) ⟨⟨none, rfl⟩, s0, upd_same, rfl⟩ ?_ ?_⟩
  · rintro i σ H' x H'' hi ⟨⟨v, rfl⟩, s1, hl1, na⟩ ⟨rfl, hx⟩
    obtain ⟨k, hk', rfl⟩ := ints_at (hx _ (s1.tup hq))
    have hk2 := s1 _ _ hk
    have ea : ((row.take (i + 1)).any fun p => decide (p ∈ held)) = decide (k ∈ held) := by
      rw [take_snoc hk', List.any_append, na, Bool.false_or]
      simp
    refine ⟨_, rfl, _, rfl, d, _, rfl, DGet.k (k := Sum.inl k) hk2, _, rfl, ?_⟩
    rw [hv]
    by_cases e : k ∈ held
    · rw [decide_eq_true e]
      refine iteT (hn H'' s1 ?_)
      exact List.any_eq_true.mpr ⟨k, List.mem_of_getElem? hk', decide_eq_true e⟩
    · rw [decide_eq_false e]
      have et := opn_take hk' e
      have ea' : ((row.take (i + 1)).any fun p => decide (p ∈ held)) = false := by rw [ea]; exact decide_eq_false e
      refine iteF ⟨_, rfl, _, rfl, _, rfl, d, _, rfl, DGet.k (k := Sum.inl (-k)) hk2, _, rfl, ?_⟩
      rw [hv]
      by_cases e' : -k ∈ held
      · rw [decide_eq_true e']
        refine iteF (iteF ⟨⟨_, rfl⟩, s1, ?_, ea'⟩)
        rw [et, if_neg (fun z => z.1 e')]
        exact hl1
      · rw [decide_eq_false e']
        refine iteT ⟨_, rfl, _, rfl, l, _, rfl, .inl (SqL.of hl1), rfl, flat_ints _, _, rfl, ?_⟩
        rw [inV_ints]
        by_cases e3 : k ∈ opn (row.take i) held
        · rw [decide_eq_true e3]
          refine iteF ⟨⟨_, rfl⟩, s1, ?_, ea'⟩
          rw [et, if_neg (fun z => z.2 e3)]
          exact hl1
        · rw [decide_eq_false e3]
          have lo : (opn (row.take i) held).length ≤ 1000 := by
            have h1 := once_len ((row.take i).filter fun p => decide (p ∉ held) && decide (-p ∉ held)) []
            have h2 := List.length_filter_le (fun p => decide (p ∉ held) && decide (-p ∉ held)) (row.take i)
            have h3 : (row.take i).length ≤ row.length := by rw [List.length_take]; omega
            unfold opn
            simp only [List.length_nil] at h1
            omega
          refine iteT ⟨_, rfl, .inl ⟨rfl, _, SqL.of hl1⟩, _, rfl, l, _, _, rfl, rfl, hl1, small1000 (by rw [List.length_map]; exact lo), ⟨_, rfl⟩, s1.upd hl, ?_, ea'⟩
          rw [et, if_pos ⟨e', e3⟩, List.map_append]
          exact upd_same
  · rintro σ H' ⟨⟨v, rfl⟩, s1, hl1, na⟩
    rw [List.length_map, List.take_of_length_le (Nat.le_refl _)] at hl1 na
    exact ⟨_, rfl, hs H' l s1 hl na hl1⟩
theorem ktL {d : Addr} {H H' : Hp} {xs : List V} (s : SameX d H H') (h : H d = some (.lst xs)) : KeepT H H' := fun b us z => by
  have nb : b ≠ d := fun e => by
    rw [e] at z
    rcases z with z | ⟨o, z⟩
    · rw [h] at z; cases z
    · rw [h] at z; cases z
  rcases z with z | ⟨o, z⟩
  · exact .inl (s _ _ nb z)
  · exact .inr ⟨o, s _ _ nb z⟩
def sp_force (K : PySem.W.Frag) : Sp := fun vs H Q _ => ∃ (rl tl : Addr) (xs zs : List V) (Rs : List (List Int)) (ts : List (Int × Int)), vs = [.ref rl, .ref tl] ∧ H rl = some (.lst xs) ∧ HasL K H (Rs.map dRow) xs ∧ H tl = some (.lst zs) ∧ HasL K H (ts.map dP) zs ∧ rl ≠ tl ∧ (∀ r ∈ Rs, RowD r) ∧ Rs.length ≤ 500 ∧ TOk Rs ts ∧
  ∀ (H' : Hp) (lg : List (Int × Int)) (o : Option Nat) (ys : List V), SameX tl H H' → H' tl = some (.lst ys) → HasL K H' (lg.map dP) ys → Grown Rs ts (ts.map Prod.fst) lg o → Q (oV o) H'
theorem sc__law_force : FnScope ["_law_rows_here", "_law_trail", "_law_held", "_law_part", "_law_why", "_law_again", "_law_number", "_law_some"] ["_law_rows_here", "_law_trail"] (defScope s__law_force) := ⟨rfl, rfl, rfl, by decide +kernel, rfl, by decide +kernel, by decide +kernel⟩
/-- what stands while the trail is forced on -/
structure FW (K : PySem.W.Frag) (Hb H : Hp) (tl d : Addr) (Rs : List (List Int)) (ts lg : List (Int × Int)) (ys : List V) : Prop where
  sx : SameX tl Hb H
  nd : Hb d = none
  ds : Dset H d (lg.map Prod.fst)
  hl : H tl = some (.lst ys)
  has : HasL K H (lg.map dP) ys
  tok : TOk Rs lg
  back : ∀ lg' o, Grown Rs lg (lg.map Prod.fst) lg' o → Grown Rs ts (ts.map Prod.fst) lg' o
theorem FW.same {K : PySem.W.Frag} {Hb H H' : Hp} {tl d : Addr} {Rs : List (List Int)} {ts lg : List (Int × Int)} {ys : List V} (W : FW K Hb H tl d Rs ts lg ys) (s : Same H H') : FW K Hb H' tl d Rs ts lg ys :=
  ⟨W.sx.trans (s.x tl), W.nd, W.ds.same s, s _ _ W.hl, HasL.keep s.kt (nols_dPs _) W.has, W.tok, W.back⟩
theorem isDue_any {r hs : List Int} (h : (r.any fun p => decide (p ∈ hs)) = true) : isDue r hs = false := by
  unfold isDue
  rw [h]
  rfl
theorem isDue_no {r hs : List Int} (h : (r.any fun p => decide (p ∈ hs)) = false) : isDue r hs = decide ((opn r hs).length ≤ 1) := by
  unfold isDue
  rw [h]
  rfl
theorem FW.step {K : PySem.W.Frag} {Hb H : Hp} {tl d u : Addr} {Rs : List (List Int)} {ts lg : List (Int × Int)} {ys : List V} {r : List Int} {k : Nat} {a : Int} {kvs : List (Key × V)} (W : FW K Hb H tl d Rs ts lg ys) (hR : ∀ r ∈ Rs, RowD r) (hr : Rs[k]? = some r) (na : NoneAhead Rs (lg.map Prod.fst) k) (an : (r.any fun p => decide (p ∈ lg.map Prod.fst)) = false) (op : opn r (lg.map Prod.fst) = [a])
    (hu : SqT K H u [.int a, .int (k : Int)]) (hk : H d = some (.dK kvs)) (hv : ∀ n : Int, (valV kvs (Sum.inl n)).isSome = decide (n ∈ lg.map Prod.fst)) (hn : kvs.length ≤ (lg.map Prod.fst).length) (ne : d ≠ tl) :
    FW K Hb (upd (upd H tl (.lst (ys ++ [.ref u]))) d (.dK (putK kvs (Sum.inl a) (.bl true)))) tl d Rs ts (lg ++ [(a, (k : Int))]) (ys ++ [.ref u]) := by
  have k1 := KeepT.lst (ys := ys ++ [.ref u]) W.hl
  have hk6 : (upd H tl (.lst (ys ++ [.ref u]))) d = some (.dK kvs) := by rw [upd_ne ne]; exact hk
  have kd : KeepT (upd H tl (.lst (ys ++ [.ref u]))) (upd (upd H tl (.lst (ys ++ [.ref u]))) d (.dK (putK kvs (Sum.inl a) (.bl true)))) := (SameX.put (d := d) _ _).kt hk6
  obtain ⟨a1, a2, a3, a4⟩ := opn_one op an
  refine ⟨fun b o nb h => ?_, W.nd, ?_, by rw [upd_ne (Ne.symm ne)]; exact upd_same, ?_, W.tok.snoc (t := (a, (k : Int))) ((hR r (List.mem_of_getElem? hr)).2 a a1).1 ((hR r (List.mem_of_getElem? hr)).2 a a1).2 a2 a3 (.inr ⟨k, r, rfl, hr, a1, a4⟩), fun lg' o g => W.back lg' o (.step hr (by rw [isDue_no an, op]; rfl) na op (by rw [List.map_append] at g; exact g))⟩
  · have nbd : b ≠ d := fun e => by rw [e, W.nd] at h; cases h
    rw [upd_ne nbd, upd_ne nb]
    exact W.sx b o nb h
  · rw [List.map_append]
    exact Dset.put hv hn
  · rw [List.map_append]
    exact HasL.append (HasL.keep (k1.trans kd) (nols_dPs _) W.has) (HasL.one (of_dP (t := (a, (k : Int))) ((k1.trans kd).sq hu)))
set_option maxHeartbeats 1000000 in
theorem ok_force {P : Program} {w : World} {K : PySem.W.Frag} {mg : Str → Option Value} {base : Heap} {f fL : Addr} {fd dL : FuncData} (F : Fun K "_law_force" "_law_force" s__law_force f fd) (T : Txt K mg) (B_law_left : FB P w K mg base CX0 1 "_law_left" fL dL ["_law_row_here", "_law_held"] (sp_left K)) : FnOk P w K mg base CX0 2 f fd ["_law_rows_here", "_law_trail"] (sp_force K) := by
  refine F.ok sc__law_force (fun vs H Q E h => ?_) (fun cdv A outer s H vs Q E hr h => ?_)
  · obtain ⟨rl, tl, xs, zs, Rs, ts, rfl, _⟩ := h
    rfl
  obtain ⟨rl, tl, xs, zs, Rs, ts, rfl, hrl, hL, htl, hT, ne, hR, R5, tok, h⟩ := h
  have hu := hu_of hr
  refine ⟨_, (pss_cons (ps_set (i := 2) sc__law_force.nd rfl (Or.inl rfl) pe_dnewK)
    (pss_cons (ps_for PassesOwn.never rfl (pi_list (pv 1)) (pg_tup rfl (pgs_cons (pg_name (i := 3) sc__law_force.nd rfl (Or.inl rfl)) (pgs_cons (pg_name (i := 4) sc__law_force.nd rfl (Or.inl rfl)) pgs_nil)))
      (pss_one (ps_dput hu (pv 2) (pv 3) pe_bl rfl)))
    (pss_cons (ps_set (i := 5) sc__law_force.nd rfl (Or.inl rfl) pe_bl)
    (pss_cons (ps_while PassesOwn.never (pt_val (pv 5))
      (pss_cons (ps_set (i := 5) sc__law_force.nd rfl (Or.inl rfl) pe_bl)
        (pss_one (ps_for PassesOwn.never rfl (pi_range1 rfl T.range (pa_cons (pe_callB call_len_seq rfl T.len PySem.boot_len (pa_cons (pv 0) pa_nil)) pa_nil)) (pg_name (i := 6) sc__law_force.nd rfl (Or.inl rfl))
          (pss_cons (ps_set (i := 7) sc__law_force.nd rfl (Or.inl rfl) (pe_call B_law_left.ok hr rfl B_law_left.m B_law_left.kp B_law_left.b .nil pass0 (pa_cons (pe_ix ix_list (pv 0) (pv 6) (fun _ _ => rfl)) (pa_cons (pv 2) pa_nil))))
            (pss_cons (ps_if (PW.pt (pw_and (pt_not (pt_val (pv 5))) (pw_and (pt_cmpR op_notN (pv 7) pe_non (nomark _)) (pw_and1 (pt_cmpR op_eq (pe_callB call_len_seq rfl T.len PySem.boot_len (pa_cons (pv 7) pa_nil)) pe_int (nomark _))))))
              (pss_one (ps_ret (pv 6)))
              pss_nil)
            (pss_one (ps_if (PW.pt (pw_and (pt_not (pt_val (pv 5))) (pw_and (pt_cmpR op_notN (pv 7) pe_non (nomark _)) (pw_and1 (pt_cmpR op_eq (pe_callB call_len_seq rfl T.len PySem.boot_len (pa_cons (pv 7) pa_nil)) pe_int (nomark _))))))
              (pss_cons (ps_expr (pe_bm PySem.F.plainAttrs_list PySem.F.slot_list_append PySem.F.type_list_append mt_append (pv 1) (pa_cons (pe_tup (pa_cons (pe_ix ix_list (pv 7) pe_int (fun _ _ => rfl)) (pa_cons (pv 6) pa_nil))) pa_nil)))
                (pss_cons (ps_dput hu (pv 2) (pe_ix ix_list (pv 7) pe_int (fun _ _ => rfl)) pe_bl rfl)
                (pss_one (ps_set (i := 5) sc__law_force.nd rfl (Or.inl rfl) pe_bl))))
              pss_nil))))))))
    (pss_one (ps_ret pe_non)))))), ?_⟩
  have zl : zs.length = ts.length := by rw [← hT.length, List.length_map]
  have xl : xs.length = Rs.length := by rw [← hL.length, List.length_map]
  have tl61 := tok.len
  refine fun d hd => ?_
  have s1 : Same H (upd H d (.dK [])) := sameNew hd _
  have ds1 : Dset (upd H d (.dK [])) d [] := Dset.of (ps := [])
  have htl1 := s1 _ _ htl
  have hT1 := HasL.keep s1.kt (nols_dPs _) hT
  have nd' : d ≠ tl := fun e => by rw [e, htl] at hd; cases hd
  generalize upd H d (.dK []) = H1 at s1 ds1 htl1 hT1
  refine ⟨_, rfl, tl, rfl, ⟨_, SqL.of htl1⟩, for_by wk_list (fun i σ H' => ∃ v3 v4, σ = [some (.ref rl), some (.ref tl), some (.ref d), v3, v4, none, none, none] ∧ SameX d H1 H' ∧ Dset H' d ((ts.take i).map Prod.fst)) (fun i σ H' ⟨_, _, _, s2, _⟩ => SqL.of (s2.lst ds1 htl1)) ⟨none, none, rfl, SameX.refl _ _, by simpa using ds1⟩ ?_ ?_⟩
  · rintro i σ H' x H'' hi ⟨v3, v4, rfl, s2, ds⟩ ⟨rfl, hx⟩
    have kt := s2.ktD ds1
    obtain ⟨t, p, ht, rfl, hp⟩ := hasl_at (HasL.keep kt (nols_dPs _) hT1) (hx _ (SqL.of (s2.lst ds1 htl1)))
    refine ⟨p, _, rfl, hp, rfl, _, _, rfl, _, _, rfl, rfl, ?_⟩
    obtain ⟨kvs, hk5, hv5, hn5⟩ := id ds.ex
    have lk : kvs.length ≤ 61 := by
      rw [List.length_map, List.length_take] at hn5
      omega
    refine ⟨_, rfl, _, rfl, d, _, rfl, DPut.k (k := Sum.inl t.1) hk5 (small1000 (by omega)), _, _, rfl, s2.trans (SameX.put _ _), ?_⟩
    rw [take_snoc ht, List.map_append]
    exact Dset.put hv5 hn5
  · rintro σ H2 ⟨v3, v4, rfl, s2, ds⟩
    rw [zl, List.take_of_length_le (Nat.le_refl _)] at ds
    have W0 : FW K H H2 tl d Rs ts ts zs := ⟨fun b o nb hb => s2 b o (fun e => by rw [e, hd] at hb; cases hb) (s1 _ _ hb), hd, ds, s2.lst ds1 htl1, HasL.keep (s2.ktD ds1) (nols_dPs _) hT1, tok, fun _ _ g => g⟩
    refine ⟨fun m σ H' => ∃ (b : Bool) (lg : List (Int × Int)) (ys : List V) (v6 v7 : Option V), σ = [some (.ref rl), some (.ref tl), some (.ref d), v3, v4, some (.bl b), v6, v7] ∧ m = (if b = true then left U40 (lg.map Prod.fst) + 1 else 0) ∧ FW K H H' tl d Rs ts lg ys ∧ (b = false → NoneAhead Rs (lg.map Prod.fst) Rs.length), ⟨_, true, ts, zs, none, none, rfl, rfl, W0, (fun z => nomatch z)⟩, ?_⟩
    rintro m σ H' ⟨b, lg, ys, v6, v7, rfl, rfl, W, na⟩
    refine ⟨_, rfl, _, rfl, ?_⟩
    cases b with
    | false => exact iteF (h H' lg none ys W.sx W.hl W.has (W.back _ _ (.stop (na rfl))))
    | true =>
      refine iteT ⟨fun σ' H2 => ∃ (b : Bool) (lg' : List (Int × Int)) (ys : List V) (v6 v7 : Option V), σ' = [some (.ref rl), some (.ref tl), some (.ref d), v3, v4, some (.bl b), v6, v7] ∧ FW K H H2 tl d Rs ts lg' ys ∧ (b = false → NoneAhead Rs (lg'.map Prod.fst) Rs.length) ∧ (b = true → left U40 (lg'.map Prod.fst) < left U40 (lg.map Prod.fst)), fun σ' H2 ⟨b, lg', ys, v6, v7, e1, W', n1, n2⟩ => ⟨_, ?_, b, lg', ys, v6, v7, e1, rfl, W', n1⟩, ?_⟩
      · rw [if_pos rfl]
        cases b with
        | false => rw [if_neg (by decide)]; omega
        | true => rw [if_pos rfl]; have := n2 rfl; omega
      refine ⟨_, rfl, rl, _, rfl, .inl (SqL.of (W.sx _ _ ne hrl)), _, rfl, by omega, by omega, ?_⟩
      refine for_by wk_range (fun i σ H2 => ∃ (b : Bool) (lg' : List (Int × Int)) (ys : List V) (v6 v7 : Option V), σ = [some (.ref rl), some (.ref tl), some (.ref d), v3, v4, some (.bl b), v6, v7] ∧ FW K H H2 tl d Rs ts lg' ys ∧ (b = false → NoneAhead Rs (lg'.map Prod.fst) i ∧ lg' = lg) ∧ (b = true → left U40 (lg'.map Prod.fst) < left U40 (lg.map Prod.fst))) (fun _ _ _ _ => trivial) ⟨false, lg, ys, v6, v7, rfl, W, fun _ => ⟨fun j hj => absurd hj (Nat.not_lt_zero _), rfl⟩, (fun z => nomatch z)⟩ ?_ ?_
      · rintro i σ H3 x H4 hi ⟨b, lg', ys', v6', v7', rfl, W3, n1, n2⟩ ⟨rfl, rfl⟩
        have hi' : i < Rs.length := by omega
        have ei : (0 : Int) + (i : Nat) = ((i : Nat) : Int) := by omega
        rw [ei]
        obtain ⟨r, hr'⟩ : ∃ r, Rs[i]? = some r := ⟨_, List.getElem?_eq_getElem hi'⟩
        have kt3 := ktL W3.sx htl
        obtain ⟨p, hp1, hp2⟩ := rows_get (HasL.keep kt3 (nols_rows _) hL) hr'
        have rk := hR r (List.mem_of_getElem? hr')
        refine ⟨_, rfl, _, rfl, rl, _, _, _, rfl, rfl, SqL.of (W3.sx _ _ ne hrl), atI_nat hp1, _, rfl, p, d, r, lg'.map Prod.fst, rfl, hp2, W3.ds, by have := rk.1; omega, fun H5 s5 an => ?_, fun H5 l s5 hl an hl5 => ?_⟩
        · have W5 := W3.same s5
          cases b with
          | true => exact ⟨_, rfl, _, rfl, iteF (iteF ⟨_, rfl, _, rfl, iteF (iteF ⟨true, lg', ys', _, _, rfl, W5, (fun z => nomatch z), fun _ => n2 rfl⟩)⟩)⟩
          | false =>
            refine ⟨_, rfl, _, rfl, iteT ⟨_, rfl, rfl, _, rfl, iteF (iteF ⟨_, rfl, _, rfl, iteT ⟨_, rfl, rfl, _, rfl, iteF (iteF ⟨false, lg', ys', _, _, rfl, W5, fun _ => ⟨firstDue_next (n1 rfl).1 hr' (isDue_any an), (n1 rfl).2⟩, (fun z => nomatch z)⟩)⟩⟩)⟩⟩
        · have W5 := W3.same s5
          cases b with
          | true => exact ⟨_, rfl, _, rfl, iteF (iteF ⟨_, rfl, _, rfl, iteF (iteF ⟨true, lg', ys', _, _, rfl, W5, (fun z => nomatch z), fun _ => n2 rfl⟩)⟩)⟩
          | false =>
            obtain ⟨na', rfl⟩ := n1 rfl
            have due := isDue_no an
            refine ⟨_, rfl, _, rfl, iteT ⟨_, rfl, rfl, _, rfl, iteT ⟨_, rfl, l, _, rfl, .inl (SqL.of hl5), rfl, _, rfl, ?_⟩⟩⟩
            cases eo : opn r (lg'.map Prod.fst) with
            | nil =>
              rw [eo] at due
              exact iteT ⟨_, rfl, h H5 lg' (some i) ys' W5.sx W5.hl W5.has (W5.back _ _ (.fail hr' due na' eo))⟩
            | cons a t =>
              rw [eo] at hl5 due
              have ne0 : ¬ (V.int (((a :: t).map V.int).length : Nat) = V.int 0) := fun z => by
                injection z with z
                rw [List.length_map] at z
                simp only [List.length_cons] at z
                omega
              rw [decide_eq_false ne0]
              refine iteF ⟨_, rfl, _, rfl, iteT ⟨_, rfl, rfl, _, rfl, iteT ⟨_, rfl, l, _, rfl, .inl (SqL.of hl5), rfl, _, rfl, ?_⟩⟩⟩
              cases t with
              | cons a' t' =>
                have ne1 : ¬ (V.int (((a :: a' :: t').map V.int).length : Nat) = V.int 1) := fun z => by
                  injection z with z
                  rw [List.length_map] at z
                  simp only [List.length_cons] at z
                  omega
                rw [decide_eq_false ne1]
                refine iteF ⟨false, lg', ys', _, _, rfl, W5, fun _ => ⟨firstDue_next na' hr' ?_, rfl⟩, (fun z => nomatch z)⟩
                rw [due]
                exact decide_eq_false (by simp only [List.length_cons]; omega)
              | nil =>
                have yl : ys'.length = lg'.length := by rw [← W5.has.length, List.length_map]
                have l61 := W5.tok.len
                have a0 : atI ([a].map V.int) 0 = some (.int a) := atI_nat (j := 0) rfl
                refine iteT ⟨_, rfl, .inl ⟨rfl, _, SqL.of W5.hl⟩, _, rfl, l, _, _, _, rfl, rfl, SqL.of hl5, a0, _, rfl, (by show 2 ≤ sizeLine; decide), fun u hu' => ?_⟩
                have s6 : Same H5 (upd H5 u (.tup [.int a, .int (i : Int)])) := sameNew hu' _
                have n6 := upd_same (H := H5) (a := u) (o := .tup [.int a, .int (i : Int)])
                have W6 := W5.same s6
                have hl6 := s6 _ _ hl5
                generalize upd H5 u (.tup [.int a, .int (i : Int)]) = H6 at n6 W6 hl6
                refine ⟨tl, _, _, rfl, rfl, W6.hl, small1000 (by omega), ?_⟩
                obtain ⟨kvs, hk6, hv6, hn6⟩ := id W6.ds.ex
                have hk7 : (upd H6 tl (.lst (ys' ++ [.ref u]))) d = some (.dK kvs) := by rw [upd_ne nd']; exact hk6
                have nl : l ≠ tl := fun e => by rw [e, W3.hl] at hl; cases hl
                have hl7 : (upd H6 tl (.lst (ys' ++ [.ref u]))) l = some (.lst ([a].map V.int)) := by rw [upd_ne nl]; exact hl6
                have lk : kvs.length ≤ 61 := by rw [List.length_map] at hn6; omega
                refine ⟨_, rfl, _, rfl, l, _, _, _, rfl, rfl, SqL.of hl7, a0, d, _, rfl, DPut.k (k := Sum.inl a) hk7 (small1000 (by omega)), ?_⟩
                have W7 := W6.step hR hr' na' an eo (SqT.of n6) hk6 hv6 hn6 nd'
                obtain ⟨a1, a2, a3, a4⟩ := opn_one eo an
                exact ⟨true, _, _, _, _, rfl, W7, (fun z => nomatch z), fun _ => by rw [List.map_append]; exact left_snoc (mem_U40 (rk.2 a a1).2) a2⟩
      · rintro σ H3 ⟨b, lg', ys', v6', v7', rfl, W3, n1, n2⟩
        have e : ((xs.length : Nat) : Int).toNat = Rs.length := by omega
        rw [e] at n1
        exact ⟨b, lg', ys', _, _, rfl, W3, fun z => (n1 z).1, n2⟩
end K45

/-! law k45: draw4. Behind K45g. -/
namespace K45
open PySem L2
/-! _law_choose -/
abbrev NCh : List Str := ["_law_trail", "_law_many_here", "_law_first", "_law_number", "_law_held", "_law_free", "_law_atom", "_law_sign_here"]
def sp_choose (K : PySem.W.Frag) : Sp := fun vs H Q _ => ∃ (tl : Addr) (m c n : Int) (zs : List V) (ts : List (Int × Int)), vs = [.ref tl, .int m, .int c, .int n] ∧ H tl = some (.lst zs) ∧ HasL K H (ts.map dP) zs ∧ ts.length ≤ 61 ∧ 1 ≤ m ∧ m ≤ 40 ∧ (∀ H', Same H H' → Q (.bl false) H') ∧
  ∀ (H' : Hp) (p : Int) (u : Addr), SameX tl H H' → H' tl = some (.lst (zs ++ [.ref u])) → SqT K H' u [.int p, .int (-1)] → p ≠ 0 → -m ≤ p → p ≤ m → p ∉ ts.map Prod.fst → -p ∉ ts.map Prod.fst → Q (.bl true) H'
theorem sc__law_choose : FnScope ["_law_trail", "_law_many_here", "_law_first", "_law_number", "_law_held", "_law_free", "_law_atom", "_law_sign_here"] ["_law_trail", "_law_many_here", "_law_first", "_law_number"] (defScope s__law_choose) := ⟨rfl, rfl, rfl, by decide +kernel, rfl, by decide +kernel, by decide +kernel⟩
section
variable {P : Program} {w : World} {K : PySem.W.Frag} {mg : Str → Option Value} {base : Heap} {f fS : Addr} {dS : FuncData}
theorem choose6 {cdv : Value} {A : Around} {outer : List Env} {s : Shared} {H0 : Hp} {E : XK} :
    ∃ t, PSs (cxOf CX0 P w K mg base NCh "_law_choose" (defScope s__law_choose) f cdv A outer s H0 E).nox ((defBody s__law_choose).drop 6) t ∧
      ∀ (D : Ends) (H : Hp) (tl : Addr) (zs : List V) (a u : Int) (v1 v2 v3 v4 v5 : Option V), H tl = some (.lst zs) → zs.length ≤ 61 → 1 ≤ a → a ≤ 40 → (u = 1 ∨ u = -1) → (∀ (H' : Hp) (t : Addr), SameX tl H H' → H' tl = some (.lst (zs ++ [.ref t])) → SqT K H' t [.int (a * u), .int (-1)] → D.rt (.bl true) H') →
        t D [some (.ref tl), v1, v2, v3, v4, v5, some (.int a), some (.int u)] H := by
  refine ⟨_, (pss_cons (ps_expr (pe_bm PySem.F.plainAttrs_list PySem.F.slot_list_append PySem.F.type_list_append mt_append (pv 0) (pa_cons (pe_tup (pa_cons (pe_op op_mul (pv 6) (pv 7)) (pa_cons (pe_un un_neg pe_int) pa_nil))) pa_nil)))
    (pss_one (ps_ret pe_bl))), ?_⟩
  rintro D H tl zs a u v1 v2 v3 v4 v5 htl z61 a1 a2 hu q
  refine ⟨_, rfl, .inl ⟨rfl, _, SqL.of htl⟩, _, rfl, _, rfl, _, _, rfl, rfl, .inl ⟨by omega, by omega⟩, _, rfl, (by show 2 ≤ sizeLine; decide), fun t ht => ?_⟩
  have s1 : Same H (upd H t (.tup [.int (a * u), .int (-1)])) := sameNew ht _
  have n1 := upd_same (H := H) (a := t) (o := .tup [.int (a * u), .int (-1)])
  have h1 := s1 _ _ htl
  have nt : t ≠ tl := Ne.symm (ne_of_none htl ht)
  generalize upd H t (.tup [.int (a * u), .int (-1)]) = H1 at s1 n1 h1
  exact ⟨tl, _, _, rfl, rfl, h1, small1000 (by omega), q _ t ((s1.x tl).trans (SameX.put _ _)) upd_same (SqT.of (by rw [upd_ne nt]; exact n1))⟩
set_option maxHeartbeats 1000000 in
theorem ok_choose {fd : FuncData} (F : Fun K "_law_choose" "_law_choose" s__law_choose f fd) (T : Txt K mg) (B_law_sign : FB P w K mg base CX0 1 "_law_sign" fS dS ["_law_first", "_law_atom"] sp_sign) : FnOk P w K mg base CX0 2 f fd ["_law_trail", "_law_many_here", "_law_first", "_law_number"] (sp_choose K) := by
  refine F.ok sc__law_choose (fun vs H Q E h => ?_) (fun cdv A outer s H vs Q E hr h => ?_)
  · obtain ⟨tl, m, c, n, zs, ts, rfl, _⟩ := h
    rfl
  obtain ⟨tl, m, c, n, zs, ts, rfl, htl, hz, t61, m1, m2, q0, q⟩ := h
  have hu := units64 hr
  have zl : zs.length = ts.length := by rw [← hz.length, List.length_map]
  obtain ⟨t6, h6, q6⟩ := choose6 (P := P) (w := w) (K := K) (mg := mg) (base := base) (f := f) (cdv := cdv) (A := A) (outer := outer) (s := s) (H0 := H) (E := E)
  refine ⟨_, (pss_cons (ps_set (i := 4) sc__law_choose.nd rfl (Or.inr rfl) (pe_lcg (N' := ["_law_part", "_law_why"]) (L := 2) (ix := []) rfl rfl (by decide +kernel) (by decide +kernel) (fun _ => ⟨[], clo_none (by decide +kernel) (by decide +kernel)⟩) rfl (fun j i h => by simp at h) (pi_list (pv 0)) (fun _ _ _ _ => (pg_tupK 2 K rfl rfl (pgs_cons (pg_name (i := 0) (show (["_law_part", "_law_why"] : List Str).Nodup by decide +kernel) rfl (Or.inl rfl)) (pgs_cons (pg_name (i := 1) (show (["_law_part", "_law_why"] : List Str).Nodup by decide +kernel) rfl (Or.inl rfl)) pgs_nil)))) (fun _ _ _ _ => (pe_callB call_abs rfl T.abs PyProof.Rows.Boot.abs (pa_cons (pv 0) pa_nil)))))
    (pss_cons (ps_setLCI (i := 5) (N' := ["_law_atom", "_law_held"]) (ix := [4]) sc__law_choose.nd rfl (Or.inl rfl) rfl rfl (by decide +kernel) (by decide +kernel) rfl (fun ok => clo_of (sc := defScope s__law_choose) ok rfl (by decide +kernel) (by decide +kernel)) (by decide +kernel) rfl rfl (fun j i h => match j, h with | 0, h => by cases h; exact ⟨_, rfl, rfl, .inl rfl, .inl rfl⟩ | n + 1, h => by simp at h) (pi_range2 rfl T.range (pa_cons pe_int (pa_cons (pe_op op_add (pv 1) pe_int) pa_nil))) (fun _ _ _ _ => (pt_cmpR (r := rIn K true) op_notIn_seq (pv 0) (pv 1) rfl)) (fun _ _ _ _ => (pv 0)))
    (pss_cons (ps_if (pt_cmpR (op_eqD hu) (pv 5) (pe_lst pa_nil) rfl)
      (pss_one (ps_ret pe_bl))
      pss_nil)
    (pss_cons (ps_set (i := 6) sc__law_choose.nd rfl (Or.inl rfl) (pe_ix ix_list (pv 5) (pe_op op_mod (pv 3) (pe_callB call_len_seq rfl T.len PySem.boot_len (pa_cons (pv 5) pa_nil))) (fun _ _ => rfl)))
    (pss_cons (ps_set (i := 7) sc__law_choose.nd rfl (Or.inl rfl) (pe_ix ix_list (pe_lst (pa_cons pe_int (pa_cons (pe_un un_neg pe_int) pa_nil))) (pe_op op_mod (pe_op op_fdiv (pv 3) pe_int) pe_int) (fun _ _ => rfl)))
    (pss_cons (ps_if (pt_cmpR op_eq (pe_op op_mod (pv 2) pe_int) pe_int (nomark _))
      (pss_cons (ps_set (i := 6) sc__law_choose.nd rfl (Or.inl rfl) (pe_ix ix_list (pv 5) (pe_ix ix_list (pe_lst (pa_cons pe_int (pa_cons pe_int (pa_cons pe_int (pa_cons (pe_op op_mod (pv 3) (pe_callB call_len_seq rfl T.len PySem.boot_len (pa_cons (pv 5) pa_nil))) pa_nil))))) (pe_op op_mod (pv 3) pe_int) (fun _ _ => rfl)) (fun _ _ => rfl)))
        (pss_one (ps_set (i := 7) sc__law_choose.nd rfl (Or.inl rfl) (pe_call B_law_sign.ok hr rfl B_law_sign.m B_law_sign.kp B_law_sign.b .nil pass0 (pa_cons (pv 2) (pa_cons (pv 6) pa_nil))))))
      pss_nil) h6)))))), ?_⟩
  refine ⟨_, rfl, tl, rfl, ⟨_, SqL.of htl⟩, fun D hD => lcg_by wk_list (fun i ys H' => Same H H' ∧ ys = (((ts.take i).map Prod.fst).map absI).map V.int) (fun i ys H' ⟨s1, _⟩ => s1.seq (SqL.of htl)) ⟨sameNew hD _, rfl⟩ ?_ ?_⟩
  · rintro j ys H3 x H4 hj hly hDs ⟨s3, rfl⟩ ⟨rfl, hx⟩ σ0 hσ0
    obtain ⟨t, p, ht, rfl, hp⟩ := hasl_at hz (hx _ (s3.seq (SqL.of htl)))
    match σ0, hσ0 with
    | [w0, w1], _ =>
      refine ⟨p, _, rfl, s3.tup hp, rfl, _, _, rfl, _, _, rfl, rfl, [some (.int t.1), some (.int t.2)], rfl, rfl, ?_⟩
      refine ⟨_, rfl, _, rfl, lc_post (bsz _ (by omega)) hj hly hDs ⟨s3.upd hD, ?_⟩⟩
      rw [take_snoc ht, List.map_append, List.map_append, List.map_append]
      rfl
  rintro ys H3 hDs ⟨s3, rfl⟩
  rw [zl, List.take_of_length_le (Nat.le_refl _)] at hDs
  obtain ⟨hs, ehs⟩ : ∃ hs, hs = (ts.map Prod.fst).map absI := ⟨_, rfl⟩
  rw [← ehs] at hDs
  refine ⟨_, rfl, _, _, rfl, rfl, _, _, rfl, ⟨by omega, by omega, by omega, by omega⟩, fun D2 hD2 => lci_by wk_range (fun i ys H' => Same H3 H' ∧ ys = (freeF i hs).map V.int) (fun _ _ _ _ => trivial) ⟨sameNew hD2 _, rfl⟩ ?_ ?_⟩
  · rintro i ys H4 x H5 hi hly hDs2 ⟨s4, rfl⟩ ⟨rfl, rfl⟩
    have hi' : i < (m + 1 - 1).toNat := hi
    refine ⟨_, rfl, _, rfl, D, _, rfl, .inl (SqL.of (s4 _ _ hDs)), rfl, flat_ints _, _, rfl, ?_⟩
    rw [inV_ints]
    by_cases e : 1 + (i : Int) ∈ hs
    · rw [decide_eq_true e]
      refine iteF (lc_skip hi hly hDs2 ⟨s4, ?_⟩)
      rw [freeF_succ, if_pos e]
    · rw [decide_eq_false e]
      refine iteT ⟨_, rfl, lc_post (bsz _ (by omega)) hi hly hDs2 ⟨s4.upd hD2, ?_⟩⟩
      rw [freeF_succ, if_neg e, List.map_append]
      rfl
  rintro ys H4 hDs2 ⟨s4, rfl⟩
  have em : (m + 1 - 1).toNat = m.toNat := by omega
  rw [em] at hDs2
  have s14 := s3.trans s4
  have fm : ∀ a ∈ freeF m.toNat hs, 1 ≤ a ∧ a ≤ m ∧ a ∉ ts.map Prod.fst ∧ -a ∉ ts.map Prod.fst := fun a ha => by
    obtain ⟨h1, h2, h3⟩ := freeF_mem ha
    rw [ehs] at h3
    have h4 := abs_free h1 h3
    exact ⟨h1, by omega, h4.1, h4.2⟩
  generalize freeF m.toNat hs = fs at hDs2 fm
  refine ⟨_, rfl, (by show 0 ≤ sizeLine; decide), fun e he => ?_⟩
  have s5 : Same H4 (upd H4 e (.lst [])) := sameNew he _
  have n5 := upd_same (H := H4) (a := e) (o := .lst [])
  have s15 := s14.trans s5
  have hf5 := s5 _ _ hDs2
  generalize upd H4 e (.lst []) = H5 at s5 n5 s15 hf5
  refine ⟨.lst (fs.map Dt.int), .lst [], Has.lst' (SqL.of hf5) (HasL.ints _), Has.lst' (SqL.of n5) .nil, ?_, _, rfl, ?_⟩
  · simp only [dep, depsInts]
    decide
  have epq : peq (.lst (fs.map Dt.int)) (.lst []) = fs.isEmpty := by simp only [peq, peqs_nil_ints]
  rw [epq]
  by_cases ef : fs = []
  · rw [ef]
    exact iteT (q0 _ s15)
  have e1 : fs.isEmpty = false := by cases fs with | nil => exact absurd rfl ef | cons _ _ => rfl
  rw [e1]
  have fl : 0 < fs.length := List.length_pos_iff.mpr ef
  have bl := modR n (show (0 : Int) < (((fs.map V.int).length : Nat) : Int) by rw [List.length_map]; omega)
  have bl2 : n % (((fs.map V.int).length : Nat) : Int) < (fs.length : Int) := by have := bl.2; rw [List.length_map] at this ⊢; exact this
  obtain ⟨a, ha, ea⟩ := pick_at (fs := fs) bl.1 bl2
  refine iteF ⟨_, rfl, _, rfl, _, rfl, D2, _, rfl, .inl (SqL.of hf5), _, _, rfl, rfl, (by show (0 : Int) < (((fs.map V.int).length : Nat) : Int); rw [List.length_map]; omega), D2, _, _, _, rfl, rfl, SqL.of hf5, ea, ?_⟩
  refine ⟨_, rfl, (by show 2 ≤ sizeLine; decide), fun g hg => ?_⟩
  have s6 : Same H5 (upd H5 g (.lst [.int 1, .int (-1)])) := sameNew hg _
  have n6 := upd_same (H := H5) (a := g) (o := .lst [.int 1, .int (-1)])
  have s16 := s15.trans s6
  have hf6 := s6 _ _ hf5
  generalize upd H5 g (.lst [.int 1, .int (-1)]) = H6 at s6 n6 s16 hf6
  have b2 := modR (n / 40) (show (0 : Int) < 2 by decide)
  obtain ⟨u, hu2, eu⟩ := pick2 (x := 1) (y := -1) b2.1 b2.2
  refine ⟨_, rfl, _, _, rfl, rfl, ⟨by decide, by decide⟩, _, _, rfl, rfl, (by show (0 : Int) < 2; decide), g, _, _, _, rfl, rfl, SqL.of n6, eu, ?_⟩
  have fin : ∀ (Hx : Hp) (a u : Int) (D' : Ends), D'.rt = Q → Same H Hx → a ∈ fs → (u = 1 ∨ u = -1) → ∀ v1 v2 v3 v4 v5 : Option V, t6 D' [some (.ref tl), v1, v2, v3, v4, v5, some (.int a), some (.int u)] Hx := fun Hx a u D' eD sx ha hu' v1 v2 v3 v4 v5 => by
    obtain ⟨f1, f2, f3, f4⟩ := fm a ha
    refine q6 D' Hx tl zs a u v1 v2 v3 v4 v5 (sx _ _ htl) (by omega) f1 (by omega) hu' fun H' t sX hl' ht' => ?_
    rw [eD]
    refine q H' (a * u) t ((sx.x tl).trans sX) hl' ht' ?_ ?_ ?_ ?_ ?_
    · rcases hu' with rfl | rfl <;> omega
    · rcases hu' with rfl | rfl <;> omega
    · rcases hu' with rfl | rfl <;> omega
    · rcases hu' with rfl | rfl
      · rw [Int.mul_one]; exact f3
      · rw [show a * -1 = -a by omega]; exact f4
    · rcases hu' with rfl | rfl
      · rw [Int.mul_one]; exact f4
      · rw [show -(a * -1) = a by omega]; exact f3
  refine ⟨_, rfl, _, _, rfl, rfl, (by show (0 : Int) < 3; decide), rfl, _, rfl, ite2 (fun _ => ?_) (fun _ => fin H6 a u _ rfl s16 ha hu2 _ _ _ _ _)⟩
  refine ⟨_, rfl, _, rfl, _, rfl, D2, _, rfl, .inl (SqL.of hf6), _, _, rfl, rfl, (by show (0 : Int) < (((fs.map V.int).length : Nat) : Int); rw [List.length_map]; omega), (by show 4 ≤ sizeLine; decide), fun k hk => ?_⟩
  have s7 : Same H6 (upd H6 k (.lst [.int 0, .int 0, .int 0, .int (n % (((fs.map V.int).length : Nat) : Int))])) := sameNew hk _
  have n7 := upd_same (H := H6) (a := k) (o := .lst [.int 0, .int 0, .int 0, .int (n % (((fs.map V.int).length : Nat) : Int))])
  have s17 := s16.trans s7
  have hf7 := s7 _ _ hf6
  generalize upd H6 k (.lst [.int 0, .int 0, .int 0, .int (n % (((fs.map V.int).length : Nat) : Int))]) = H7 at s7 n7 s17 hf7
  have b4 := modR n (show (0 : Int) < 4 by decide)
  obtain ⟨z, hz4, ez'⟩ := atI_pick (ns := [0, 0, 0, n % (((fs.map V.int).length : Nat) : Int)]) b4.1 (show n % 4 < ((([0, 0, 0, n % (((fs.map V.int).length : Nat) : Int)] : List Int).length : Nat) : Int) from b4.2)
  have ez : atI [V.int 0, .int 0, .int 0, .int (n % (((fs.map V.int).length : Nat) : Int))] (n % 4) = some (.int z) := ez'
  have zr : 0 ≤ z ∧ z < (fs.length : Int) := by
    simp only [List.mem_cons, List.not_mem_nil, or_false] at hz4
    have := bl.1
    omega
  obtain ⟨a', ha', ea'⟩ := pick_at (fs := fs) zr.1 zr.2
  refine ⟨_, rfl, _, _, rfl, rfl, (by show (0 : Int) < 4; decide), k, _, _, _, rfl, rfl, SqL.of n7, ez, D2, _, _, _, rfl, rfl, SqL.of hf7, ea', ?_⟩
  obtain ⟨f1, f2, _⟩ := fm a' ha'
  exact ⟨_, rfl, _, rfl, c, a', rfl, by omega, by omega, fun H8 u' s8 hu8 => fin H8 a' u' _ rfl (s17.trans s8) ha' hu8 _ _ _ _ _⟩
end
end K45

/-! law k45: draw5. Behind K45h. -/
namespace K45
open PySem L2
/-! _law_play, _law_failing -/
def sp_play (K : PySem.W.Frag) : Sp := fun vs H Q _ => ∃ (rl : Addr) (m c c0 : Int) (xs : List V) (Rs : List (List Int)), vs = [.ref rl, .int m, .int c, .int c0] ∧ H rl = some (.lst xs) ∧ HasL K H (Rs.map dRow) xs ∧ (∀ r ∈ Rs, RowD r) ∧ Rs.length ≤ 500 ∧ 1 ≤ m ∧ m ≤ 40 ∧
  ∀ (H' : Hp) (t tl : Addr) (ys : List V) (lg : List (Int × Int)) (o : Option Nat), Same H H' → H t = none → H' t = some (.tup [.ref tl, oV o]) → H tl = none → H' tl = some (.lst ys) → HasL K H' (lg.map dP) ys → Play m Rs [] lg o → Q (.ref t) H'
theorem sc__law_play : FnScope ["_law_rows_here", "_law_many_here", "_law_cell", "_law_first", "_law_trail", "_law_fails", "_law_turn", "_law_number"] ["_law_rows_here", "_law_many_here", "_law_cell", "_law_first"] (defScope s__law_play) := ⟨rfl, rfl, rfl, by decide +kernel, rfl, by decide +kernel, by decide +kernel⟩
theorem ok_play {P : Program} {w : World} {K : PySem.W.Frag} {mg : Str → Option Value} {base : Heap} {f fF fM fC : Addr} {fd dF dM dC : FuncData} (F : Fun K "_law_play" "_law_play" s__law_play f fd) (T : Txt K mg) (B_law_mix : FB P w K mg base CX0 1 "_law_mix" fM dM ["_law_cell", "_law_k"] sp_mix) (B_law_force : FB P w K mg base CX0 2 "_law_force" fF dF ["_law_rows_here", "_law_trail"] (sp_force K)) (B_law_choose : FB P w K mg base CX0 2 "_law_choose" fC dC ["_law_trail", "_law_many_here", "_law_first", "_law_number"] (sp_choose K)) : FnOk P w K mg base CX0 3 f fd ["_law_rows_here", "_law_many_here", "_law_cell", "_law_first"] (sp_play K) := by
  refine F.ok sc__law_play (fun vs H Q E h => ?_) (fun cdv A outer s H vs Q E hr h => ?_)
  · obtain ⟨rl, m, c, c0, xs, Rs, rfl, _⟩ := h
    rfl
  obtain ⟨rl, m, c, c0, xs, Rs, rfl, hrl, hL, hR, R5, m1, m2, q⟩ := h
  have hr1 : Room 1 _ := hr.mono (by decide)
  refine ⟨_, (pss_cons (ps_set (i := 4) sc__law_play.nd rfl (Or.inl rfl) (pe_lst pa_nil))
    (pss_cons (ps_set (i := 5) sc__law_play.nd rfl (Or.inl rfl) (pe_call B_law_force.ok hr rfl B_law_force.m B_law_force.kp B_law_force.b .nil pass0 (pa_cons (pv 0) (pa_cons (pv 4) pa_nil))))
    (pss_cons (ps_for PassesOwn.never rfl (pi_range1 rfl T.range (pa_cons (pe_op op_mod (pv 2) pe_int) pa_nil)) (pg_name (i := 6) sc__law_play.nd rfl (Or.inl rfl))
      (pss_cons (ps_set (i := 7) sc__law_play.nd rfl (Or.inl rfl) (pe_call B_law_mix.ok hr1 rfl B_law_mix.m B_law_mix.kp B_law_mix.b .nil pass0 (pa_cons (pv 2) (pa_cons (pe_op op_add (pv 6) pe_int) pa_nil))))
        (pss_one (ps_if (PW.pt (pw_and (pt_cmpR op_isN (pv 5) pe_non (nomark _)) (pw_and1 (pt_val (pe_call B_law_choose.ok hr rfl B_law_choose.m B_law_choose.kp B_law_choose.b .nil pass0 (pa_cons (pv 4) (pa_cons (pv 1) (pa_cons (pv 3) (pa_cons (pv 7) pa_nil)))))))))
          (pss_one (ps_set (i := 5) sc__law_play.nd rfl (Or.inl rfl) (pe_call B_law_force.ok hr rfl B_law_force.m B_law_force.kp B_law_force.b .nil pass0 (pa_cons (pv 0) (pa_cons (pv 4) pa_nil)))))
          pss_nil))))
    (pss_one (ps_ret (pe_tup (pa_cons (pv 4) (pa_cons (pv 5) pa_nil)))))))), ?_⟩
  refine ⟨Nat.zero_le _, fun tl htl => ?_⟩
  have s0 : Same H (upd H tl (.lst [])) := sameNew htl _
  have n0 := upd_same (H := H) (a := tl) (o := .lst [])
  have nrt : rl ≠ tl := ne_of_none hrl htl
  generalize upd H tl (.lst []) = H0 at s0 n0
  refine ⟨_, rfl, _, rfl, rl, tl, xs, [], Rs, [], rfl, s0 _ _ hrl, HasL.keep s0.kt (nols_rows _) hL, n0, .nil, nrt, hR, R5, TOk.nil Rs, fun H1 lg o ys sx hl1 has1 g => ?_⟩
  have s1 : Same H H1 := s0.ofX htl sx
  have b26 := modR c (show (0 : Int) < 26 by decide)
  refine ⟨_, rfl, _, _, rfl, rfl, (by show (0 : Int) < 26; decide), _, rfl, by omega, by omega, ?_⟩
  refine for_by wk_range (fun i σ H' => ∃ (lg : List (Int × Int)) (o : Option Nat) (ys : List V) (v6 v7 : Option V), σ = [some (.ref rl), some (.int m), some (.int c), some (.int c0), some (.ref tl), some (oV o), v6, v7] ∧ Same H H' ∧ H' tl = some (.lst ys) ∧ HasL K H' (lg.map dP) ys ∧ Play m Rs [] lg o) (fun _ _ _ _ => trivial) ⟨lg, o, ys, none, none, rfl, s1, hl1, has1, .force g⟩ ?_ ?_
  · rintro i σ H2 x H3 hi ⟨lg, o, ys, v6, v7, rfl, s2, hl2, has2, pl⟩ ⟨rfl, rfl⟩
    refine ⟨_, rfl, _, rfl, _, _, rfl, rfl, _, _, rfl, ?_⟩
    generalize mixF c (0 + (i : Int) + 100) = y
    cases o with
    | some k => exact ⟨_, rfl, rfl, _, rfl, iteF (iteF ⟨lg, some k, ys, _, _, rfl, s2, hl2, has2, pl⟩)⟩
    | none =>
      have tok := TOk.play (show m ≤ 60 by omega) hR pl (TOk.nil Rs)
      refine ⟨_, rfl, rfl, _, rfl, iteT ⟨_, rfl, _, rfl, _, rfl, _, rfl, tl, m, c0, y, ys, lg, rfl, hl2, has2, tok.len, m1, m2, fun H4 s4 => ?_, fun H4 p u s4 hl4 hu4 p0 p1 p2 n1 n2 => ?_⟩⟩
      · exact ⟨_, rfl, iteF ⟨lg, none, ys, _, _, rfl, s2.trans s4, s4 _ _ hl2, HasL.keep s4.kt (nols_dPs _) has2, pl⟩⟩
      · have s14 := s2.ofX htl s4
        have kt := ktL s4 hl2
        have has4 : HasL K H4 ((lg ++ [(p, -1)]).map dP) (ys ++ [.ref u]) := by
          rw [List.map_append]
          exact HasL.append (HasL.keep kt (nols_dPs _) has2) (HasL.one (of_dP (t := (p, -1)) hu4))
        have tok4 : TOk Rs (lg ++ [(p, -1)]) := tok.snoc (t := (p, -1)) p0 ⟨by show -60 ≤ p; omega, by show p ≤ 60; omega⟩ n1 n2 (.inl rfl)
        refine ⟨_, rfl, iteT ⟨_, rfl, _, rfl, rl, tl, xs, _, Rs, _, rfl, s14 _ _ hrl, HasL.keep s14.kt (nols_rows _) hL, hl4, has4, nrt, hR, R5, tok4, fun H5 lg' o' ys' s5 hl5 has5 g' => ?_⟩⟩
        exact ⟨lg', o', ys', _, _, rfl, s14.ofX htl s5, hl5, has5, .turn pl p0 p1 p2 n1 n2 g'⟩
  · rintro σ H2 ⟨lg, o, ys, v6, v7, rfl, s2, hl2, has2, pl⟩
    refine ⟨_, rfl, _, rfl, (by show 2 ≤ sizeLine; decide), fun t ht => ?_⟩
    have s3 : Same H2 (upd H2 t (.tup [.ref tl, oV o])) := sameNew ht _
    exact q _ t tl ys lg o (s2.trans s3) (s2.free ht) upd_same htl (s3 _ _ hl2) (HasL.keep s3.kt (nols_dPs _) has2) pl
def sp_failing (K : PySem.W.Frag) : Sp := fun vs H Q _ => ∃ (tl : Addr) (c : Int) (zs : List V) (ts : List (Int × Int)), vs = [.ref tl, .int c] ∧ H tl = some (.lst zs) ∧ HasL K H (ts.map dP) zs ∧ ts.length ≤ 61 ∧
  ∀ (H' : Hp) (l : Addr) (row : List Int), Same H H' → H l = none → H' l = some (.tup (row.map V.int)) → FRow ts row 20 → Q (.ref l) H'
theorem sc__law_failing : FnScope ["_law_trail", "_law_cell", "_law_row_here", "_law_turn", "_law_at", "_law_part", "_law_why"] ["_law_trail", "_law_cell"] (defScope s__law_failing) := ⟨rfl, rfl, rfl, by decide +kernel, rfl, by decide +kernel, by decide +kernel⟩
theorem ok_failing {P : Program} {w : World} {K : PySem.W.Frag} {mg : Str → Option Value} {base : Heap} {f fM : Addr} {fd dM : FuncData} (F : Fun K "_law_failing" "_law_failing" s__law_failing f fd) (T : Txt K mg) (B_law_mix : FB P w K mg base CX0 1 "_law_mix" fM dM ["_law_cell", "_law_k"] sp_mix) : FnOk P w K mg base CX0 2 f fd ["_law_trail", "_law_cell"] (sp_failing K) := by
  refine F.ok sc__law_failing (fun vs H Q E h => ?_) (fun cdv A outer s H vs Q E hr h => ?_)
  · obtain ⟨tl, c, zs, ts, rfl, _⟩ := h
    rfl
  obtain ⟨tl, c, zs, ts, rfl, htl, hz, t61, q⟩ := h
  have zl : zs.length = ts.length := by rw [← hz.length, List.length_map]
  refine ⟨_, (pss_cons (ps_setLCG (i := 2) (N' := ["_law_part", "_law_why"]) (L := 2) (ix := []) sc__law_failing.nd rfl (Or.inl rfl) rfl rfl (by decide +kernel) (by decide +kernel) (fun _ => ⟨[], clo_none (by decide +kernel) (by decide +kernel)⟩) rfl (fun j i h => by simp at h) (pi_list (pe_slice sl_list (pv 0) (po_some (pe_un un_neg pe_int)) po_none)) (fun _ _ _ _ => (pg_tupK 2 K rfl rfl (pgs_cons (pg_name (i := 0) (show (["_law_part", "_law_why"] : List Str).Nodup by decide +kernel) rfl (Or.inl rfl)) (pgs_cons (pg_name (i := 1) (show (["_law_part", "_law_why"] : List Str).Nodup by decide +kernel) rfl (Or.inl rfl)) pgs_nil)))) (fun _ _ _ _ => (pe_un un_neg (pv 0))))
    (pss_cons (ps_for PassesOwn.never rfl (pi_range1 rfl T.range (pa_cons (pe_ix ix_list (pe_lst (pa_cons (pe_op op_mod (pv 1) pe_int) (pa_cons (pe_op op_mod (pv 1) pe_int) pa_nil))) (pe_op op_mod (pe_op op_fdiv (pv 1) pe_int) pe_int) (fun _ _ => rfl)) pa_nil)) (pg_name (i := 3) sc__law_failing.nd rfl (Or.inl rfl))
      (pss_cons (ps_set (i := 4) sc__law_failing.nd rfl (Or.inl rfl) (pe_op op_mod (pe_call B_law_mix.ok hr rfl B_law_mix.m B_law_mix.kp B_law_mix.b .nil pass0 (pa_cons (pv 1) (pa_cons (pv 3) pa_nil))) (pe_callB (call_max2 rfl) rfl T.max PyProof.Rows.Boot.max (pa_cons pe_int (pa_cons (pe_callB call_len_seq rfl T.len PySem.boot_len (pa_cons (pv 0) pa_nil)) pa_nil)))))
        (pss_one (ps_for PassesOwn.never rfl (pi_list (pe_slice sl_list (pv 0) (po_some (pv 4)) (po_some (pe_op op_add (pv 4) pe_int)))) (pg_tup rfl (pgs_cons (pg_name (i := 5) sc__law_failing.nd rfl (Or.inl rfl)) (pgs_cons (pg_name (i := 6) sc__law_failing.nd rfl (Or.inl rfl)) pgs_nil)))
          (pss_one (ps_expr (pe_bm PySem.F.plainAttrs_list PySem.F.slot_list_insert PySem.F.type_list_insert mt_insert (pv 2) (pa_cons (pe_op op_mod (pe_op op_fdiv (pv 1) pe_int) (pe_op op_add (pe_callB call_len_seq rfl T.len PySem.boot_len (pa_cons (pv 2) pa_nil)) pe_int)) (pa_cons (pe_un un_neg (pv 5)) pa_nil)))))))))
    (pss_one (ps_ret (pe_callTy call_tuple_of rfl T.tuple PyProof.Rows.Boot.tuple (pa_cons (pv 2) pa_nil)))))), ?_⟩
  have hc := cut_last hz
  refine ⟨_, rfl, _, rfl, _, rfl, tl, _, rfl, SqL.of htl, fun p hp => ?_⟩
  have s0 : Same H (upd H p (.lst (cutV zs (some (-1)) none))) := sameNew hp _
  have n0 := upd_same (H := H) (a := p) (o := .lst (cutV zs (some (-1)) none))
  generalize upd H p (.lst (cutV zs (some (-1)) none)) = H0 at s0 n0
  have cl : (cutV zs (some (-1)) none).length = (ts.drop (ts.length - 1)).length := by rw [← hc.length, List.length_map]
  refine ⟨p, rfl, ⟨_, SqL.of n0⟩, fun D hD => lcg_by wk_list (fun i ys H' => Same H0 H' ∧ ys = (((ts.drop (ts.length - 1)).take i).map fun t => -t.1).map V.int) (fun i ys H' ⟨s1, _⟩ => s1.seq (SqL.of n0)) ⟨sameNew hD _, rfl⟩ ?_ ?_⟩
  · rintro j ys H3 x H4 hj hly hDs ⟨s3, rfl⟩ ⟨rfl, hx⟩ σ0 hσ0
    obtain ⟨t, p', ht, rfl, hp'⟩ := hasl_at hc (hx _ (s3.seq (SqL.of n0)))
    match σ0, hσ0 with
    | [w0, w1], _ =>
      refine ⟨p', _, rfl, (s0.trans s3).tup hp', rfl, _, _, rfl, _, _, rfl, rfl, [some (.int t.1), some (.int t.2)], rfl, rfl, ?_⟩
      refine ⟨_, rfl, _, rfl, lc_post (bsz _ (by rw [cl, List.length_drop]; omega)) hj hly hDs ⟨s3.upd hD, ?_⟩⟩
      rw [take_snoc ht, List.map_append, List.map_append]
      rfl
  rintro ys H1 hDs ⟨s1, rfl⟩
  rw [cl, List.take_of_length_le (Nat.le_refl _)] at hDs
  have fr := FRow.first ts
  generalize ((ts.drop (ts.length - 1)).map fun t => -t.1) = row at hDs fr
  have s01 := s0.trans s1
  have nD : H D = none := s0.free hD
  refine ⟨_, rfl, _, _, rfl, rfl, (by show (0 : Int) < 5; decide), _, rfl, _, _, rfl, rfl, (by show (0 : Int) < 20; decide), (by show 2 ≤ sizeLine; decide), fun l hl => ?_⟩
  have s2 : Same H1 (upd H1 l (.lst [.int (c % 5), .int (c % 20)])) := sameNew hl _
  have n2 := upd_same (H := H1) (a := l) (o := .lst [.int (c % 5), .int (c % 20)])
  have hD2 := s2 _ _ hDs
  have s02 := s01.trans s2
  generalize upd H1 l (.lst [.int (c % 5), .int (c % 20)]) = H2 at s2 n2 hD2 s02
  have b2 := modR (c / 20) (show (0 : Int) < 2 by decide)
  obtain ⟨u, hu2, eu⟩ := pick2 (x := c % 5) (y := c % 20) b2.1 b2.2
  have b5 := modR c (show (0 : Int) < 5 by decide)
  have b20 := modR c (show (0 : Int) < 20 by decide)
  refine ⟨_, rfl, _, _, rfl, rfl, ⟨by decide, by decide⟩, _, _, rfl, rfl, (by show (0 : Int) < 2; decide), l, _, _, _, rfl, rfl, SqL.of n2, eu, _, rfl, by omega, by omega, ?_⟩
  refine for_by wk_range (fun i σ H' => ∃ (row : List Int) (v3 v4 v5 v6 : Option V), σ = [some (.ref tl), some (.int c), some (.ref D), v3, v4, v5, v6] ∧ Same H H' ∧ H' D = some (.lst (row.map V.int)) ∧ FRow ts row (1 + i)) (fun _ _ _ _ => trivial) ⟨row, none, none, none, none, rfl, s02, hD2, fr⟩ ?_ ?_
  · rintro i σ H3 x H4 hi ⟨row, v3, v4, v5, v6, rfl, s3, hD3, fr3⟩ ⟨rfl, rfl⟩
    have hi' : i < u.toNat := hi
    have pos : (0 : Int) < (if ((zs.length : Nat) : Int) > 1 then ((zs.length : Nat) : Int) else 1) := by split <;> omega
    refine ⟨_, rfl, _, rfl, _, _, rfl, _, rfl, tl, _, rfl, .inl (SqL.of (s3 _ _ htl)), _, _, rfl, _, _, rfl, rfl, pos, ?_⟩
    have at0 : 0 ≤ (mixF c (0 + (i : Int)) % (if ((zs.length : Nat) : Int) > 1 then ((zs.length : Nat) : Int) else 1)) := (modR _ pos).1
    refine ⟨_, rfl, _, rfl, _, rfl, _, rfl, _, _, rfl, rfl, _, rfl, tl, _, rfl, SqL.of (s3 _ _ htl), fun p2 hp2 => ?_⟩
    obtain ⟨us, hus, ul, um, eus⟩ := cut_has (HasL.keep s3.kt (nols_dPs _) hz) (some (mixF c (0 + (i : Int)) % (if ((zs.length : Nat) : Int) > 1 then ((zs.length : Nat) : Int) else 1))) (some ((mixF c (0 + (i : Int)) % (if ((zs.length : Nat) : Int) > 1 then ((zs.length : Nat) : Int) else 1)) + 1))
    have ul1 : us.length ≤ 1 := by
      rw [eus, List.length_take]
      generalize mixF c (0 + (i : Int)) % (if ((zs.length : Nat) : Int) > 1 then ((zs.length : Nat) : Int) else 1) = at' at at0
      simp only [HT.sIx]
      rw [if_neg (by omega), if_neg (by omega)]
      omega
    have s4 : Same H4 (upd H4 p2 (.lst (cutV zs (some (mixF c (0 + (i : Int)) % (if ((zs.length : Nat) : Int) > 1 then ((zs.length : Nat) : Int) else 1))) (some ((mixF c (0 + (i : Int)) % (if ((zs.length : Nat) : Int) > 1 then ((zs.length : Nat) : Int) else 1)) + 1))))) := sameNew hp2 _
    have n4 := upd_same (H := H4) (a := p2) (o := .lst (cutV zs (some (mixF c (0 + (i : Int)) % (if ((zs.length : Nat) : Int) > 1 then ((zs.length : Nat) : Int) else 1))) (some ((mixF c (0 + (i : Int)) % (if ((zs.length : Nat) : Int) > 1 then ((zs.length : Nat) : Int) else 1)) + 1))))
    have hD4 := s4 _ _ hD3
    have s14 := s3.trans s4
    have hus4 := HasL.keep s4.kt (nols_dPs _) hus
    have npD : p2 ≠ D := Ne.symm (ne_of_none hD3 hp2)
    generalize upd H4 p2 (.lst (cutV zs (some (mixF c (0 + (i : Int)) % (if ((zs.length : Nat) : Int) > 1 then ((zs.length : Nat) : Int) else 1))) (some ((mixF c (0 + (i : Int)) % (if ((zs.length : Nat) : Int) > 1 then ((zs.length : Nat) : Int) else 1)) + 1)))) = H5 at s4 n4 hD4 s14 hus4
    have cul : (cutV zs (some (mixF c (0 + (i : Int)) % (if ((zs.length : Nat) : Int) > 1 then ((zs.length : Nat) : Int) else 1))) (some ((mixF c (0 + (i : Int)) % (if ((zs.length : Nat) : Int) > 1 then ((zs.length : Nat) : Int) else 1)) + 1))).length = us.length := by rw [← hus.length, List.length_map]
    refine ⟨p2, rfl, ⟨_, SqL.of n4⟩, for_by wk_list (fun k σ H' => ∃ (row : List Int) (v5 v6 : Option V), σ = [some (.ref tl), some (.int c), some (.ref D), some (.int (0 + (i : Int))), some (.int (mixF c (0 + (i : Int)) % (if ((zs.length : Nat) : Int) > 1 then ((zs.length : Nat) : Int) else 1))), v5, v6] ∧ Same H H' ∧ SameX D H5 H' ∧ H' D = some (.lst (row.map V.int)) ∧ FRow ts row (1 + i + k)) (fun k σ H' ⟨_, _, _, _, _, sx, _⟩ => SqL.of (sx _ _ npD n4)) ⟨row, v5, v6, rfl, s14, SameX.refl _ _, hD4, fr3⟩ ?_ ?_⟩
    · rintro k σ H6 x H7 hk ⟨row, v5, v6, rfl, s6, sx6, hD6, fr6⟩ ⟨rfl, hx⟩
      have kt6 := ktL sx6 hD4
      obtain ⟨t, p3, ht, rfl, hp3⟩ := hasl_at (HasL.keep kt6 (nols_dPs _) hus4) (hx _ (SqL.of (sx6 _ _ npD n4)))
      have hm := um t (List.mem_of_getElem? ht)
      have rl6 : (row.map V.int).length = row.length := List.length_map _
      have rle := fr6.le
      have b1 := modR (c / 5) (show (0 : Int) < (((row.map V.int).length : Nat) : Int) + 1 by omega)
      refine ⟨p3, _, rfl, hp3, rfl, _, _, rfl, _, _, rfl, rfl, ?_⟩
      refine ⟨_, rfl, .inl ⟨rfl, _, SqL.of hD6⟩, _, rfl, _, _, rfl, rfl, ⟨by decide, by decide⟩, _, rfl, D, _, rfl, .inl (SqL.of hD6), _, _, rfl, rfl, _, _, rfl, rfl, (by show (0 : Int) < (((row.map V.int).length : Nat) : Int) + 1; omega), _, rfl, _, rfl, D, _, (c / 5 % ((((row.map V.int).length : Nat) : Int) + 1)).toNat, .int (-t.1), rfl, by rw [Int.toNat_of_nonneg b1.1], hD6, by omega, small1000 (by omega), ?_⟩
      rw [ins_map]
      exact ⟨_, _, _, rfl, s6.upd nD, sx6.trans (SameX.put _ _), upd_same, fr6.ins hm _⟩
    · rintro σ H6 ⟨row, v5, v6, rfl, s6, sx6, hD6, fr6⟩
      rw [cul] at fr6
      exact ⟨row, _, _, _, _, rfl, s6, hD6, fr6.mono (by omega)⟩
  · rintro σ H3 ⟨row, v3, v4, v5, v6, rfl, s3, hD3, fr3⟩
    refine ⟨_, rfl, D, _, rfl, .inl ⟨SqL.of hD3, fun t ht => ?_⟩⟩
    have fr20 : FRow ts row 20 := fr3.mono (by show 1 + u.toNat ≤ 20; omega)
    exact q _ t row (s3.trans (sameNew ht _)) (s3.free ht) upd_same fr20
end K45

/-! law k45: lawplaces2. Behind K45i. -/
namespace K45
open PySem L2
/-! _law_places, _law_cut -/
theorem chosen_add {ts : List (Int × Int)} {i : Nat} {t : Int × Int} (ht : ts[i]? = some t) : cnt (ts.take i) + (if decide (V.int t.2 = V.int (-1)) = true then 1 else 0) = cnt (ts.take (i + 1)) := by
  rw [cnt_snoc ht]
  unfold chosenB
  by_cases e : t.2 = -1
  · rw [if_pos e, e]
    simp
  · rw [if_neg e, if_neg]
    intro z
    have z' := of_decide_eq_true z
    injection z' with z'
    exact e z'
def sp_places (K : PySem.W.Frag) : Sp := fun vs H Q _ => ∃ (a : Addr) (xs : List V) (Rs : List (List Int)) (ts : List (Int × Int)), vs = [.ref a] ∧ SqL K H a xs ∧ HasL K H (ts.map dP) xs ∧ TOk Rs ts ∧
  ∀ H' d, Same H H' → H d = none → H' d = some (.dK (pkv ts ts.length)) → Q (.ref d) H'
theorem sc__law_places : FnScope ["_law_trail", "_law_made", "_law_many_here", "_law_part", "_law_why"] ["_law_trail"] (defScope s__law_places) := ⟨rfl, rfl, rfl, by decide +kernel, rfl, by decide +kernel, by decide +kernel⟩
theorem ok_places {P : Program} {w : World} {K : PySem.W.Frag} {mg : Str → Option Value} {base : Heap} {f : Addr} {fd : FuncData} (F : Fun K "_law_places" "_law_places" s__law_places f fd) (T : Txt K mg) : FnOk P w K mg base CX0 1 f fd ["_law_trail"] (sp_places K) := by
  refine F.ok sc__law_places (fun vs H Q E h => ?_) (fun cdv A outer s H vs Q E hr h => ?_)
  · obtain ⟨a, xs, Rs, ts, rfl, _⟩ := h
    rfl
  obtain ⟨a, xs, Rs, ts, rfl, hS, hL, tok, q⟩ := h
  have hu := hu_of hr
  have hlen : xs.length = ts.length := by rw [← hL.length, List.length_map]
  have t61 := tok.len
  refine ⟨_, (pss_cons (ps_set (i := 1) sc__law_places.nd rfl (Or.inl rfl) pe_dnewK)
    (pss_cons (ps_set (i := 2) sc__law_places.nd rfl (Or.inl rfl) pe_int)
    (pss_cons (ps_for PassesOwn.never rfl (pi_list (pv 0)) (pg_tup rfl (pgs_cons (pg_name (i := 3) sc__law_places.nd rfl (Or.inl rfl)) (pgs_cons (pg_name (i := 4) sc__law_places.nd rfl (Or.inl rfl)) pgs_nil)))
      (pss_cons (ps_set (i := 2) sc__law_places.nd rfl (Or.inl rfl) (pe_op op_add (pv 2) (pe_callTy call_int1 rfl T.int PyProof.Rows.Boot.int (pa_cons (pe_cmpR op_eq (pv 4) (pe_un un_neg pe_int) (nomark _)) pa_nil))))
        (pss_one (ps_dput hu (pv 1) (pv 3) (pv 2) rfl))))
    (pss_one (ps_ret (pv 1)))))), ?_⟩
  refine fun d hd => ?_
  have s0 : Same H (upd H d (.dK [])) := sameNew hd _
  have hd0 := upd_same (H := H) (a := d) (o := .dK [])
  generalize upd H d (.dK []) = H0 at s0 hd0
  refine ⟨_, rfl, a, rfl, ⟨_, s0.seq hS⟩, for_by (wk_list (xs := xs)) (fun i σ H' => ∃ (v3 v4 : Option V), σ = [some (.ref a), some (.ref d), some (.int (cnt (ts.take i))), v3, v4] ∧ Same H H' ∧ H' d = some (.dK (pkv ts i))) (fun i σ H' ⟨_, _, _, s2, _⟩ => s2.seq hS) ⟨none, none, rfl, s0, hd0⟩ ?_ ?_⟩
  · rintro i σ H' x H'' hi ⟨v3, v4, rfl, s2, hd2⟩ ⟨rfl, hx⟩
    obtain ⟨t, tp, ht, rfl, htp⟩ := hasl_at hL (hx _ (s2.seq hS))
    refine ⟨tp, _, rfl, s2.tup htp, rfl, _, _, rfl, _, _, rfl, rfl, ?_⟩
    have ec := chosen_add ht
    have pl : (pkv ts i).length ≤ 61 := by
      unfold pkv
      rw [List.length_map, List.length_take]
      omega
    refine ⟨_, rfl, _, rfl, _, rfl, rfl, .inr ⟨_, rfl, _, _, rfl, rfl, _, rfl, _, rfl, _, rfl, d, _, rfl, DPut.k (k := Sum.inl t.1) hd2 (small1000 (by omega)), ?_⟩⟩
    refine ⟨some (.int t.1), some (.int t.2), ?_, s2.upd hd, ?_⟩
    · rw [← ec]
      rfl
    · rw [← pkv_put tok ht, ← ec]
      exact upd_same
  · rintro σ H' ⟨v3, v4, rfl, s2, hd2⟩
    rw [hlen] at hd2
    exact ⟨_, rfl, q H' d s2 hd hd2⟩
def sp_cut (K : PySem.W.Frag) : Sp := fun vs H Q _ => ∃ (a : Addr) (lv : Int) (xs : List V) (ts : List (Int × Int)), vs = [.ref a, .int lv] ∧ SqL K H a xs ∧ HasL K H (ts.map dP) xs ∧ ts.length ≤ 61 ∧
  ∀ (H' : Hp) (l : Addr) (ys : List V) (j : Nat), Same H H' → H l = none → H' l = some (.lst ys) → HasL K H' ((ts.take j).map dP) ys → IsCut ts lv j → Q (.ref l) H'
theorem sc__law_cut : FnScope ["_law_trail", "_law_level", "_law_made", "_law_many_here", "_law_part", "_law_why"] ["_law_trail", "_law_level"] (defScope s__law_cut) := ⟨rfl, rfl, rfl, by decide +kernel, rfl, by decide +kernel, by decide +kernel⟩
theorem ok_cut {P : Program} {w : World} {K : PySem.W.Frag} {mg : Str → Option Value} {base : Heap} {f : Addr} {fd : FuncData} (F : Fun K "_law_cut" "_law_cut" s__law_cut f fd) (T : Txt K mg) : FnOk P w K mg base CX0 1 f fd ["_law_trail", "_law_level"] (sp_cut K) := by
  refine F.ok sc__law_cut (fun vs H Q E h => ?_) (fun cdv A outer s H vs Q E hr h => ?_)
  · obtain ⟨a, lv, xs, ts, rfl, _⟩ := h
    rfl
  obtain ⟨a, lv, xs, ts, rfl, hS, hL, t61, q⟩ := h
  have hlen : xs.length = ts.length := by rw [← hL.length, List.length_map]
  refine ⟨_, (pss_cons (ps_set (i := 2) sc__law_cut.nd rfl (Or.inl rfl) (pe_lst pa_nil))
    (pss_cons (ps_set (i := 3) sc__law_cut.nd rfl (Or.inl rfl) pe_int)
    (pss_cons (ps_for PassesOwn.never rfl (pi_list (pv 0)) (pg_tup rfl (pgs_cons (pg_name (i := 4) sc__law_cut.nd rfl (Or.inl rfl)) (pgs_cons (pg_name (i := 5) sc__law_cut.nd rfl (Or.inl rfl)) pgs_nil)))
      (pss_cons (ps_set (i := 3) sc__law_cut.nd rfl (Or.inl rfl) (pe_op op_add (pv 3) (pe_callTy call_int1 rfl T.int PyProof.Rows.Boot.int (pa_cons (pe_cmpR op_eq (pv 5) (pe_un un_neg pe_int) (nomark _)) pa_nil))))
        (pss_one (ps_if (pt_cmpR op_le (pv 3) (pv 1) (nomark _))
          (pss_one (ps_expr (pe_bm PySem.F.plainAttrs_list PySem.F.slot_list_append PySem.F.type_list_append mt_append (pv 2) (pa_cons (pe_tup (pa_cons (pv 4) (pa_cons (pv 5) pa_nil))) pa_nil))))
          pss_nil))))
    (pss_one (ps_ret (pv 2)))))), ?_⟩
  refine ⟨Nat.zero_le _, fun l hl => ?_⟩
  have s0 : Same H (upd H l (.lst [])) := sameNew hl _
  have hl0 := upd_same (H := H) (a := l) (o := .lst [])
  generalize upd H l (.lst []) = H0 at s0 hl0
  refine ⟨_, rfl, a, rfl, ⟨_, s0.seq hS⟩, for_by (wk_list (xs := xs)) (fun i σ H' => ∃ (v4 v5 : Option V) (ys : List V) (j : Nat), σ = [some (.ref a), some (.int lv), some (.ref l), some (.int (cnt (ts.take i))), v4, v5] ∧ Same H H' ∧ H' l = some (.lst ys) ∧ HasL K H' ((ts.take j).map dP) ys ∧ j ≤ i ∧ (∀ m, m < j → cnt (ts.take (m + 1)) ≤ lv) ∧ (j < i → lv < cnt (ts.take (j + 1)))) (fun i σ H' ⟨_, _, _, _, _, s2, _⟩ => s2.seq hS) ⟨none, none, [], 0, rfl, s0, hl0, .nil, Nat.le_refl _, fun m h => absurd h (Nat.not_lt_zero _), fun h => absurd h (Nat.lt_irrefl _)⟩ ?_ ?_⟩
  · rintro i σ H1 x H2 hi ⟨v4, v5, ys, j, rfl, s1, hl1, has1, ji, lo, hh⟩ ⟨rfl, hx⟩
    obtain ⟨t, tp, ht, rfl, htp⟩ := hasl_at hL (hx _ (s1.seq hS))
    have ec := chosen_add ht
    have yl : ys.length = (ts.take j).length := by rw [← has1.length, List.length_map]
    rw [List.length_take] at yl
    refine ⟨tp, _, rfl, s1.tup htp, rfl, _, _, rfl, _, _, rfl, rfl, ?_⟩
    refine ⟨_, rfl, _, rfl, _, rfl, rfl, .inr ⟨_, rfl, _, _, rfl, rfl, ?_⟩⟩
    refine ⟨_, rfl, _, rfl, _, _, rfl, rfl, _, rfl, ?_⟩
    show if decide (cnt (ts.take i) + (if decide (V.int t.2 = V.int (-1)) = true then 1 else 0) ≤ lv) = true then _ else _
    rw [ec]
    by_cases c : cnt (ts.take (i + 1)) ≤ lv
    · have ji' : j = i := by
        apply Decidable.byContradiction
        intro z
        have h1 := hh (by omega)
        have h2 := cnt_take_le (ts := ts) (show j + 1 ≤ i + 1 by omega)
        omega
      subst ji'
      rw [decide_eq_true c]
      refine iteT ⟨_, rfl, .inl ⟨rfl, _, SqL.of hl1⟩, _, rfl, _, rfl, (by show 2 ≤ sizeLine; decide), fun u hu => ?_⟩
      have s2 : Same H2 (upd H2 u (.tup [.int t.1, .int t.2])) := sameNew hu _
      have n2 := upd_same (H := H2) (a := u) (o := .tup [.int t.1, .int t.2])
      have hl2 := s2 _ _ hl1
      have has2 := HasL.keep s2.kt (nols_dPs _) has1
      have s12 := s1.trans s2
      generalize upd H2 u (.tup [.int t.1, .int t.2]) = H3 at s2 n2 hl2 has2 s12
      have kt := KeepT.lst (ys := ys ++ [.ref u]) hl2
      refine ⟨l, _, _, rfl, rfl, hl2, small1000 (by omega), some (.int t.1), some (.int t.2), ys ++ [.ref u], j + 1, ?_, s12.upd hl, upd_same, ?_, Nat.le_refl _, fun m hm => ?_, fun z => absurd z (Nat.lt_irrefl _)⟩
      · rw [← ec]
        rfl
      · rw [take_snoc ht, List.map_append]
        exact HasL.append (HasL.keep kt (nols_dPs _) has2) (HasL.one (of_dP (kt.sq (SqT.of n2))))
      · rcases Nat.lt_or_ge m j with z | z
        · exact lo m z
        · rw [show m = j by omega]
          exact c
    · rw [decide_eq_false c]
      refine iteF ⟨some (.int t.1), some (.int t.2), ys, j, ?_, s1, hl1, has1, by omega, lo, fun _ => ?_⟩
      · rw [← ec]
        rfl
      · rcases Nat.lt_or_ge j i with z | z
        · exact hh z
        · rw [show j = i by omega]
          omega
  · rintro σ H1 ⟨v4, v5, ys, j, rfl, s1, hl1, has1, ji, lo, hh⟩
    rw [hlen] at ji hh
    exact ⟨_, rfl, q H1 l ys j s1 hl hl1 has1 ⟨ji, lo, hh⟩⟩
end K45

/-! law k45: lawgoes. Behind K45j. -/
namespace K45
open PySem L2
/-! _law_goes -/
def sp_goes (K : PySem.W.Frag) : Sp := fun vs H Q _ => ∃ (rl pp hp : Addr) (xs : List V) (Rs : List (List Int)) (ts : List (Int × Int)) (f : Int), vs = [.ref rl, .ref pp, .ref hp] ∧ SqL K H rl xs ∧ HasL K H (Rs.map dRow) xs ∧ SqT K H pp ((partF Rs ts f).map V.int) ∧ SqT K H hp ((hintF Rs ts f).reverse.map V.int) ∧ TOk Rs ts ∧ LnOk Rs ts f ∧ (∀ r ∈ Rs, r.length ≤ 100) ∧ ∀ H', Same H H' → Q (.bl true) H'
theorem sc__law_goes : FnScope ["_law_rows_here", "_law_parts", "_law_hints", "_law_held", "_law_part", "_law_k", "_law_some"] ["_law_rows_here", "_law_parts", "_law_hints"] (defScope s__law_goes) := ⟨rfl, rfl, rfl, by decide +kernel, rfl, by decide +kernel, by decide +kernel⟩
set_option maxHeartbeats 1000000 in
theorem ok_goes {P : Program} {w : World} {K : PySem.W.Frag} {mg : Str → Option Value} {base : Heap} {f fL : Addr} {fd dL : FuncData} (F : Fun K "_law_goes" "_law_goes" s__law_goes f fd) (T : Txt K mg) (B_law_left : FB P w K mg base CX0 1 "_law_left" fL dL ["_law_row_here", "_law_held"] (sp_left K)) : FnOk P w K mg base CX0 2 f fd ["_law_rows_here", "_law_parts", "_law_hints"] (sp_goes K) := by
  refine F.ok sc__law_goes (fun vs H Q E h => ?_) (fun cdv A outer s H vs Q E hr h => ?_)
  · obtain ⟨rl, pp, hp, xs, Rs, ts, fl, rfl, _⟩ := h
    rfl
  obtain ⟨rl, pp, hp, xs, Rs, ts, fl, rfl, hrl, hL, hpp, hhp, tok, ok, r100, q⟩ := h
  have hu64 := units64 hr
  have hu := hu_of hr
  have xl : xs.length = Rs.length := by rw [← hL.length, List.length_map]
  have t61 := tok.len
  refine ⟨_, (pss_cons (ps_set (i := 3) sc__law_goes.nd rfl (Or.inl rfl) pe_dnewK)
    (pss_cons (ps_for PassesOwn.never rfl (pi_tup (pv 1)) (pg_name (i := 4) sc__law_goes.nd rfl (Or.inl rfl))
      (pss_one (ps_dput hu (pv 3) (pe_un un_neg (pv 4)) pe_bl rfl)))
    (pss_cons (ps_for PassesOwn.never rfl (pi_range1 rfl T.range (pa_cons (pe_callB call_len_seq rfl T.len PySem.boot_len (pa_cons (pv 2) pa_nil)) pa_nil)) (pg_name (i := 5) sc__law_goes.nd rfl (Or.inl rfl))
      (pss_cons (ps_if (PW.pt (pw_or (pt_cmpR op_lt (pe_ix ix_tup (pv 2) (pv 5) (fun _ _ => rfl)) pe_int (nomark _)) (pw_or1 (pt_cmpR op_ge (pe_ix ix_tup (pv 2) (pv 5) (fun _ _ => rfl)) (pe_callB call_len_seq rfl T.len PySem.boot_len (pa_cons (pv 0) pa_nil)) (nomark _)))))
          (pss_one (ps_ret pe_bl))
          pss_nil)
        (pss_cons (ps_set (i := 6) sc__law_goes.nd rfl (Or.inl rfl) (pe_call B_law_left.ok hr rfl B_law_left.m B_law_left.kp B_law_left.b .nil pass0 (pa_cons (pe_ix ix_list (pv 0) (pe_ix ix_tup (pv 2) (pv 5) (fun _ _ => rfl)) (fun _ _ => rfl)) (pa_cons (pv 3) pa_nil))))
        (pss_cons (ps_if (pt_cmpR op_eq (pv 5) (pe_op op_sub (pe_callB call_len_seq rfl T.len PySem.boot_len (pa_cons (pv 2) pa_nil)) pe_int) (nomark _))
          (pss_one (ps_ret (pe_cmpR (op_eqD hu64) (pv 6) (pe_lst pa_nil) rfl)))
          pss_nil)
        (pss_cons (ps_if (PW.pt (pw_or (pt_cmpR op_isN (pv 6) pe_non (nomark _)) (pw_or1 (pt_cmpR op_ne (pe_callB call_len_seq rfl T.len PySem.boot_len (pa_cons (pv 6) pa_nil)) pe_int (nomark _)))))
          (pss_one (ps_ret pe_bl))
          pss_nil)
        (pss_one (ps_dput hu (pv 3) (pe_ix ix_list (pv 6) pe_int (fun _ _ => rfl)) pe_bl rfl)))))))
    (pss_one (ps_ret pe_bl))))), ?_⟩
  refine fun d hd => ?_
  have s0 : Same H (upd H d (.dK [])) := sameNew hd _
  have d0 : Dset (upd H d (.dK [])) d [] := Dset.of (ps := [])
  generalize upd H d (.dK []) = H0 at s0 d0
  have plen : (partF Rs ts fl).length ≤ 61 := by
    refine Nat.le_trans (List.length_filter_le _ _) ?_
    rw [List.length_reverse, negs_len]
    exact t61
  refine ⟨_, rfl, pp, rfl, ⟨_, s0.tup hpp⟩, for_by wk_tup (fun i σ H' => ∃ v4, σ = [some (.ref rl), some (.ref pp), some (.ref hp), some (.ref d), v4, none, none] ∧ Same H H' ∧ Dset H' d (((partF Rs ts fl).take i).map fun p => -p)) (fun i σ H' ⟨_, _, s1, _⟩ => s1.tup hpp) ⟨none, rfl, s0, d0⟩ ?_ ?_⟩
  · rintro i σ H1 x H2 hi ⟨v4, rfl, s1, d1⟩ ⟨rfl, hx⟩
    obtain ⟨k, hk, rfl⟩ := ints_at (hx _ (s1.tup hpp))
    obtain ⟨kvs, hk1, hk2, hk3⟩ := id d1.ex
    have lk : kvs.length ≤ 61 := by
      rw [List.length_map, List.length_take] at hk3
      omega
    refine ⟨_, rfl, _, rfl, _, rfl, d, _, rfl, DPut.k (k := Sum.inl (-k)) hk1 (small1000 (by omega)), _, rfl, s1.upd hd, ?_⟩
    rw [take_snoc hk, List.map_append]
    exact Dset.put hk2 hk3
  rintro σ H1 ⟨v4, rfl, s1, d1⟩
  rw [List.length_map, List.take_of_length_le (Nat.le_refl _)] at d1
  have eh := hints_are (Rs := Rs) (ts := ts) (f := fl)
  rw [eh] at hhp
  generalize hR : (reps Rs ts fl ts.length).length = r at *
  have rl' : (reps Rs ts fl ts.length).reverse.length = r := by rw [List.length_reverse]; exact hR
  have rle : r ≤ 61 := by
    have h1 := hint_len Rs ts fl ts.length
    rw [reps_hint _ (Nat.le_refl _), List.length_cons, List.length_map, hR] at h1
    omega
  have hsl : (((reps Rs ts fl ts.length).reverse.map Prod.snd ++ [fl]).map V.int).length = r + 1 := by
    rw [List.length_map, List.length_append, List.length_map, rl']
    rfl
  have d1' : Dset H1 d (heldK Rs ts fl 0) := by
    unfold heldK
    rw [List.take_zero, List.map_nil, List.append_nil]
    exact d1
  refine ⟨_, rfl, hp, _, rfl, .inr (s1.tup hhp), _, rfl, by omega, by omega, ?_⟩
  refine for_by wk_range (fun i σ H' => ∃ v4 v5 v6, σ = [some (.ref rl), some (.ref pp), some (.ref hp), some (.ref d), v4, v5, v6] ∧ Same H H' ∧ Dset H' d (heldK Rs ts fl i) ∧ i ≤ r) (fun _ _ _ _ => trivial) ⟨v4, none, none, rfl, s1, d1', Nat.zero_le _⟩ ?_ ?_
  · rintro i σ H2 x H3 hi ⟨v4, v5, v6, rfl, s2, d2, ir⟩ ⟨rfl, rfl⟩
    have ei : (0 : Int) + (i : Nat) = ((i : Nat) : Int) := by omega
    rw [ei]
    obtain ⟨y, hy, hcase⟩ : ∃ y : Int, ((reps Rs ts fl ts.length).reverse.map Prod.snd ++ [fl])[i]? = some y ∧ ((i < r ∧ ∃ t, (reps Rs ts fl ts.length).reverse[i]? = some t ∧ y = t.2) ∨ (i = r ∧ y = fl)) := by
      rcases Nat.lt_or_ge i r with z | z
      · obtain ⟨t, ht⟩ : ∃ t, (reps Rs ts fl ts.length).reverse[i]? = some t := ⟨_, List.getElem?_eq_getElem (by omega)⟩
        refine ⟨t.2, ?_, .inl ⟨z, t, ht, rfl⟩⟩
        rw [List.getElem?_append_left (by rw [List.length_map, rl']; exact z), List.getElem?_map, ht]
        rfl
      · have e : i = r := by omega
        refine ⟨fl, ?_, .inr ⟨e, rfl⟩⟩
        rw [List.getElem?_append_right (by rw [List.length_map, rl']; exact z), List.length_map, rl', e, Nat.sub_self]
        rfl
    have hat : atI (((reps Rs ts fl ts.length).reverse.map Prod.snd ++ [fl]).map V.int) (i : Int) = some (.int y) := atI_ints hy
    have yb : 0 ≤ y ∧ y < (Rs.length : Int) := by
      rcases hcase with ⟨_, t, ht, e⟩ | ⟨_, e⟩
      · rw [e]
        exact (hint_goes tok ok ht).1
      · rw [e]
        exact ⟨ok.f0, ok.f1⟩
    have an : ((rowAt Rs y).any fun p => decide (p ∈ heldK Rs ts fl i)) = false := by
      rcases hcase with ⟨_, t, ht, e⟩ | ⟨e0, e⟩
      · rw [e]
        exact (hint_goes tok ok ht).2.1
      · rw [e, e0, ← hR]
        exact (hint_ends tok ok).1
    have hrow := rowAt_get yb.1 yb.2
    obtain ⟨rp, hp1, hp2⟩ := rows_get hL hrow
    have har : atI xs y = some (.ref rp) := by
      rw [show y = ((y.toNat : Nat) : Int) by omega]
      exact atI_nat hp1
    have rl100 : (rowAt Rs y).length ≤ 100 := r100 _ (List.mem_of_getElem? hrow)
    refine ⟨_, rfl, _, rfl, hp, _, _, _, rfl, rfl, s2.tup hhp, hat, _, _, rfl, rfl, _, rfl, ?_⟩
    rw [decide_eq_false (show ¬ y < 0 by omega)]
    refine iteF ⟨_, rfl, _, rfl, hp, _, _, _, rfl, rfl, s2.tup hhp, hat, _, rfl, rl, _, rfl, .inl (s2.seq hrl), _, _, rfl, rfl, _, rfl, ?_⟩
    rw [decide_eq_false (show ¬ ((xs.length : Nat) : Int) ≤ y by omega)]
    refine iteF ⟨_, rfl, _, rfl, _, rfl, hp, _, _, _, rfl, rfl, s2.tup hhp, hat, rl, _, _, _, rfl, rfl, s2.seq hrl, har, _, rfl, rp, d, _, _, rfl, s2.tup hp2, d2, by omega, fun H4 s4 an' => ?_, fun H4 l s4 hl _ hl4 => ?_⟩
    · rw [an] at an'
      cases an'
    have s24 := s2.trans s4
    have d4 := d2.same s4
    refine ⟨_, rfl, _, rfl, hp, _, rfl, .inr (s24.tup hhp), _, _, rfl, rfl, rfl, _, rfl, ?_⟩
    rw [hsl]
    rcases hcase with ⟨z, t, ht, e⟩ | ⟨e0, e⟩
    · obtain ⟨_, _, op, hk1⟩ := hint_goes tok ok ht
      rw [e, op] at hl4
      rw [decide_eq_false (show ¬ V.int (i : Int) = V.int (((r + 1 : Nat) : Int) - 1) from fun z' => by injection z' with z'; omega)]
      refine iteF ⟨_, rfl, rfl, _, rfl, iteF ⟨_, rfl, l, _, rfl, .inl (SqL.of hl4), rfl, _, rfl, ?_⟩⟩
      refine iteF ?_
      obtain ⟨kvs, k1, k2, k3⟩ := id d4.ex
      have lk : kvs.length ≤ 200 := by
        have h1 : (heldK Rs ts fl i).length ≤ 61 + 61 := by
          unfold heldK
          rw [List.length_append, List.length_map, List.length_map, List.length_take]
          omega
        omega
      have a0 : atI ([t.1].map V.int) 0 = some (.int t.1) := atI_nat (j := 0) rfl
      refine ⟨_, rfl, _, rfl, l, _, _, _, rfl, rfl, SqL.of hl4, a0, d, _, rfl, DPut.k (k := Sum.inl t.1) k1 (small1000 (by omega)), _, _, _, rfl, s24.upd hd, ?_, z⟩
      rw [hk1]
      exact Dset.put k2 k3
    · have op := (hint_ends tok ok).2
      rw [hR, ← e0] at op
      rw [e, op] at hl4
      rw [decide_eq_true (show V.int (i : Int) = V.int (((r + 1 : Nat) : Int) - 1) by congr 1; omega)]
      refine iteT ⟨_, rfl, (by show 0 ≤ sizeLine; decide), fun g hg => ?_⟩
      have s5 : Same H4 (upd H4 g (.lst [])) := sameNew hg _
      refine ⟨.lst [], .lst [], Has.lst' (SqL.of (s5 _ _ hl4)) .nil, Has.lst' (SqL.of upd_same) .nil, by decide, ?_⟩
      rw [peq_refl]
      exact q _ (s24.trans s5)
  · rintro σ H2 ⟨v4, v5, v6, rfl, s2, d2, ir⟩
    have : ((((reps Rs ts fl ts.length).reverse.map Prod.snd ++ [fl]).map V.int).length : Int).toNat ≤ r := ir
    omega
end K45

/-! law k45: a round. Behind K45k. -/
namespace K45
open PySem L2
/-- the levels of the parts -/
structure Lv (ps ls : List Int) (L n : Int) : Prop where
  zero : L = 0 → ps = []
  one : L ≠ 0 → ∃ a rest, ls = a :: rest ∧ a = L ∧ L ∉ rest
  nz : (0 : Int) ∉ ls
  mx : IsMaxD (ls.drop 1) n
  nn : ∀ r ∈ ls, 0 ≤ r
  len : ls.length ≤ 100
  emp : ps = [] → ls = []
  l0 : 0 ≤ L
theorem Lv.of {Rs : List (List Int)} {ts : List (Int × Int)} {fl n : Int} (tok : TOk Rs ts) (ok : LnOk Rs ts fl) (last : 1 ≤ cnt ts → ∃ q ∈ rowAt Rs fl, lvF ts q = cnt ts) (mx : IsMaxD (((partF Rs ts fl).drop 1).map (lvF ts)) n) : Lv (partF Rs ts fl) ((partF Rs ts fl).map (lvF ts)) (cnt ts) n := by
  refine ⟨part_zero tok, fun z => ?_, fun z => ?_, by rw [← List.map_drop]; exact mx, fun r hr' => ?_, by rw [List.length_map]; exact (part_row tok).1, fun e => by rw [e]; rfl, cnt_nn ts⟩
  · have c0 := cnt_nn ts
    obtain ⟨a, rest, e, la, hrest⟩ := part_one tok ok (by omega) (last (by omega))
    refine ⟨lvF ts a, rest.map (lvF ts), by rw [e]; rfl, la, fun hm => ?_⟩
    obtain ⟨r, hr', er⟩ := List.mem_map.mp hm
    exact hrest r hr' er
  · obtain ⟨r, hr', er⟩ := List.mem_map.mp z
    exact part_nz tok hr' er
  · obtain ⟨a, _, e⟩ := List.mem_map.mp hr'
    rw [← e]
    exact lvF_nn a
def sp_round (K : PySem.W.Frag) : Sp := fun vs H Q _ => ∃ (rl tl : Addr) (f : Int) (xs zs : List V) (Rs : List (List Int)) (ts : List (Int × Int)), vs = [.ref rl, .ref tl, .int f] ∧ Got K H rl tl xs zs Rs ts f ∧
  ∀ (H' : Hp) (ft tp th : Addr) (n : Int), Same H H' → SqT K H' ft [.ref tp, .ref th, .int n] → SqT K H' tp ((partF Rs ts f).map V.int) → IsMaxD (((partF Rs ts f).drop 1).map (lvF ts)) n → Q (.ref ft) H'
abbrev NRo : List Str := ["_law_rows_here", "_law_trail", "_law_fails", "_law_kept", "_law_found", "_law_held", "_law_part", "_law_why", "_law_places_here", "_law_some"]
theorem sc__law_round : FnScope ["_law_rows_here", "_law_trail", "_law_fails", "_law_kept", "_law_found", "_law_held", "_law_part", "_law_why", "_law_places_here", "_law_some"] ["_law_rows_here", "_law_trail", "_law_fails"] (defScope s__law_round) := ⟨rfl, rfl, rfl, by decide +kernel, rfl, by decide +kernel, by decide +kernel⟩
theorem cut_to1 (ps : List Int) : cutV (ps.map V.int) none (some 1) = (ps.take 1).map V.int := by
  unfold cutV
  rw [show HT.sIx (ps.map V.int).length (ps.map V.int).length (some 1) = min 1 (ps.map V.int).length from HT.sIx_nat _ _ 1]
  show ((ps.map V.int).drop 0).take (min 1 (ps.map V.int).length - 0) = _
  cases ps with
  | nil => rfl
  | cons a r =>
    rw [show min 1 ((a :: r).map V.int).length = 1 by simp only [List.map_cons, List.length_cons]; omega]
    rfl
section
variable {P : Program} {w : World} {K : PySem.W.Frag} {mg : Str → Option Value} {base : Heap} {f fL fF fG fC fE fP : Addr} {dL dF dG dC dE dP' : FuncData}
theorem round7 (T : Txt K mg) (B_law_places : FB P w K mg base CX0 1 "_law_places" fP dP' ["_law_trail"] (sp_places K)) {cdv : Value} {A : Around} {outer : List Env} {s : Shared} {H0 : Hp} {E : XK} (hr : Room 3 (A.deeper (PyProof.Rows.envOfC "_law_round" (defScope s__law_round) s.heap.objs.size f cdv))) :
    ∃ t, PSs (cxOf CX0 P w K mg base NRo "_law_round" (defScope s__law_round) f cdv A outer s H0 E).nox ((defBody s__law_round).drop 7) t ∧
      ∀ (D : Ends) (H : Hp) (ft tp th tl : Addr) (zs : List V) (Rs : List (List Int)) (ts : List (Int × Int)) (ps : List Int) (n : Int) (v0 v2 v3 v5 v6 v7 : Option V), SqT K H ft [.ref tp, .ref th, .int n] → SqT K H tp (ps.map V.int) → SqL K H tl zs → HasL K H (ts.map dP) zs → TOk Rs ts → (∀ p ∈ ps, -p ∈ ts.map Prod.fst) → Lv ps (ps.map (lvF ts)) (cnt ts) n → (∀ H', Same H H' → D.rt (.ref ft) H') →
        t D [v0, some (.ref tl), v2, v3, some (.ref ft), v5, v6, v7, none, none] H := by
  have hu64 := units64 hr
  have hu := hu_of hr
  have hr1 : Room 1 _ := hr.mono (by decide)
  refine ⟨_, (pss_cons (ps_set (i := 8) sc__law_round.nd rfl (Or.inr rfl) (pe_call B_law_places.ok hr1 rfl B_law_places.m B_law_places.kp B_law_places.b .nil pass0 (pa_cons (pv 1) pa_nil)))
    (pss_cons (ps_setLC (i := 9) (N' := ["_law_part", "_law_places_here"]) (ix := [8]) sc__law_round.nd rfl (Or.inl rfl) rfl rfl (by decide +kernel) (by decide +kernel) rfl (fun ok => clo_of (sc := defScope s__law_round) ok rfl (by decide +kernel) (by decide +kernel)) (by decide +kernel) rfl rfl (fun j i h => match j, h with | 0, h => by cases h; exact ⟨_, rfl, rfl, .inl rfl, .inl rfl⟩ | n + 1, h => by simp at h) (pi_tup (pe_ix ix_tup (pv 4) pe_int (fun _ _ => rfl))) (fun _ _ _ _ => (pe_dget hu (pv 1) (pe_un un_neg (pv 0)) (fun _ _ => rfl))))
    (pss_cons (ps_if (PW.pt (pw_or (pt_cmpR op_in_seq pe_int (pv 9) rfl) (pw_or1 (pt_cmpR op_ne (pe_ix ix_tup (pv 4) pe_int (fun _ _ => rfl)) (pe_callB (call_maxL rfl) rfl T.max PyProof.Rows.Boot.max (pa_cons (pe_op op_cat (pe_lst (pa_cons pe_int pa_nil)) (pe_slice sl_list (pv 9) (po_some pe_int) po_none)) pa_nil)) (nomark _)))))
      (pss_one (ps_ret pe_non))
      pss_nil)
    (pss_cons (ps_if (pt_cmpR (op_neD hu64) (pe_slice sl_list (pv 9) po_none (po_some pe_int)) (pe_lci (N' := ["_law_last"]) (ix := []) rfl rfl (by decide +kernel) (by decide +kernel) rfl (fun _ => ⟨[], clo_none (by decide +kernel) (by decide +kernel)⟩) (by decide +kernel) rfl rfl (fun j i h => by simp at h) (pi_list (pe_lst (pa_cons (pe_callB (call_maxL rfl) rfl T.max PyProof.Rows.Boot.max (pa_cons (pe_op op_cat (pe_lst (pa_cons pe_int pa_nil)) (pe_callTy (call_list_vals rfl) rfl T.list PyProof.Rows.Boot.list (pa_cons (pe_bm0 PySem.F.plainAttrs_dict PySem.F.slot_dict_values PySem.F.type_dict_values mt_values (pv 8)) pa_nil))) pa_nil)) pa_nil))) (fun _ _ _ _ => (pt_cmpR op_gt (pv 0) pe_int (nomark _))) (fun _ _ _ _ => (pv 0))) rfl)
      (pss_one (ps_ret pe_non))
      pss_nil)
    (pss_one (ps_ret (pv 4))))))), ?_⟩
  rintro D H ft tp th tl zs Rs ts ps n v0 v2 v3 v5 v6 v7 hft htp hS hL tok psub lv q
  have a0 : atI [V.ref tp, V.ref th, V.int n] 0 = some (.ref tp) := atI_nat (j := 0) rfl
  have a2 : atI [V.ref tp, V.ref th, V.int n] 2 = some (.int n) := atI_nat (j := 2) rfl
  have t61 := tok.len
  have plen : ps.length ≤ 100 := by have := lv.len; rw [List.length_map] at this; exact this
  refine ⟨_, rfl, tl, zs, Rs, ts, rfl, hS, hL, tok, fun H1 pd s1 hpd hp1 => ?_⟩
  have pl1 := pkv_plc tok hp1
  refine ⟨_, rfl, ft, _, _, _, rfl, rfl, s1.tup hft, a0, tp, rfl, ⟨_, s1.tup htp⟩, fun D2 hD2 => lc_by wk_tup (fun i ys H' => Same H1 H' ∧ ys = ((ps.take i).map (lvF ts)).map V.int) (fun i ys H' ⟨s2, _⟩ => (s1.trans s2).tup htp) ⟨sameNew hD2 _, rfl⟩ ?_ ?_⟩
  · rintro i ys H2 x H3 hi hly hDs ⟨s2, rfl⟩ ⟨rfl, hx⟩
    obtain ⟨k, hk', rfl⟩ := ints_at (hx _ ((s1.trans s2).tup htp))
    obtain ⟨kvs, hk1, hk2⟩ := (pl1.same s2).get (psub k (List.mem_of_getElem? hk'))
    have gg := DGet.k (k := Sum.inl (-k)) hk1
    rw [hk2, Int.neg_neg] at gg
    refine ⟨_, rfl, _, rfl, _, rfl, pd, _, rfl, gg, lc_post (by rw [List.length_map]; exact bsz _ (by omega)) hi hly hDs ⟨s2.upd hD2, ?_⟩⟩
    rw [take_snoc hk', List.map_append, List.map_append]
    rfl
  rintro ys H2 hDs ⟨s2, rfl⟩
  rw [List.length_map, List.take_of_length_le (Nat.le_refl _)] at hDs
  have s12 := s1.trans s2
  have hp2 := s2 _ _ hp1
  generalize hls : ps.map (lvF ts) = ls at hDs lv
  have llen := lv.len
  refine ⟨_, rfl, D2, _, rfl, .inl (SqL.of hDs), rfl, flat_ints _, _, rfl, ?_⟩
  rw [inV_ints, decide_eq_false lv.nz]
  refine iteF ⟨_, rfl, ft, _, _, _, rfl, rfl, s12.tup hft, a2, (by show 1 ≤ sizeLine; decide), fun u hu' => ?_⟩
  have s3 : Same H2 (upd H2 u (.lst [.int 0])) := sameNew hu' _
  have n3 := upd_same (H := H2) (a := u) (o := .lst [.int 0])
  have s13 := s12.trans s3
  have hDs3 := s3 _ _ hDs
  have hp3 := s3 _ _ hp2
  generalize upd H2 u (.lst [.int 0]) = H3 at s3 n3 s13 hDs3 hp3
  refine ⟨_, rfl, _, rfl, D2, _, rfl, SqL.of hDs3, fun p hp => ?_⟩
  rw [cut_from1]
  have s4 : Same H3 (upd H3 p (.lst ((ls.drop 1).map V.int))) := sameNew hp _
  have n4 := upd_same (H := H3) (a := p) (o := .lst ((ls.drop 1).map V.int))
  have s14 := s13.trans s4
  have n34 := s4 _ _ n3
  have hDs4 := s4 _ _ hDs3
  have hp4 := s4 _ _ hp3
  generalize upd H3 p (.lst ((ls.drop 1).map V.int)) = H4 at s4 n4 s14 n34 hDs4 hp4
  refine ⟨u, p, _, _, rfl, rfl, n34, n4, bsz _ (by rw [List.length_map, List.length_drop]; show 1 + _ ≤ 1000; omega), fun e he => ?_⟩
  have s5 : Same H4 (upd H4 e (.lst ([.int 0] ++ (ls.drop 1).map V.int))) := sameNew he _
  have n5 := upd_same (H := H4) (a := e) (o := .lst ([.int 0] ++ (ls.drop 1).map V.int))
  have s15 := s14.trans s5
  have hDs5 := s5 _ _ hDs4
  have hp5 := s5 _ _ hp4
  generalize upd H4 e (.lst ([.int 0] ++ (ls.drop 1).map V.int)) = H5 at s5 n5 s15 hDs5 hp5
  refine ⟨e, (0 :: ls.drop 1 : List Int), rfl, .inl (SqL.of n5), by simp, fun m hm1 hm2 => ?_⟩
  have mx := isMax_of (fun r hr' => lv.nn r (List.mem_of_mem_drop hr')) hm1 hm2
  cases isMax_inj mx lv.mx
  refine ⟨rfl, _, rfl, ?_⟩
  rw [show (!decide (V.int n = V.int n)) = false by rw [decide_eq_true rfl]; rfl]
  refine iteF ⟨_, rfl, _, rfl, D2, _, rfl, SqL.of hDs5, fun c hc => ?_⟩
  rw [cut_to1]
  have s6 : Same H5 (upd H5 c (.lst ((ls.take 1).map V.int))) := sameNew hc _
  have n6 := upd_same (H := H5) (a := c) (o := .lst ((ls.take 1).map V.int))
  have s16 := s15.trans s6
  have hp6 := s6 _ _ hp5
  generalize upd H5 c (.lst ((ls.take 1).map V.int)) = H6 at s6 n6 s16 hp6
  refine ⟨(by show 1 ≤ sizeLine; decide), fun z hz => ?_⟩
  have s7 : Same H6 (upd H6 z (.lst [.int 0])) := sameNew hz _
  have n7 := upd_same (H := H6) (a := z) (o := .lst [.int 0])
  have s17 := s16.trans s7
  have hp7 := s7 _ _ hp6
  have n67 := s7 _ _ n6
  generalize upd H6 z (.lst [.int 0]) = H7 at s7 n7 s17 hp7 n67
  refine ⟨_, rfl, .inr (.inr (.inl ⟨rfl, .inl ⟨_, hp7⟩⟩)), pd, _, rfl, rfl, hp7, fun vw hvw => ?_⟩
  have s8 : Same H7 (upd H7 vw (VView pd vw)) := sameNew hvw _
  have n8 := upd_same (H := H7) (a := vw) (o := VView pd vw)
  have s18 := s17.trans s8
  have hp8 := s8 _ _ hp7
  have n68 := s8 _ _ n67
  have n78 := s8 _ _ n7
  generalize upd H7 vw (VView pd vw) = H8 at s8 n8 s18 hp8 n68 n78
  refine ⟨vw, pd, _, rfl, n8, hp8, fun l hl => ?_⟩
  rw [pkv_vals]
  have s9 : Same H8 (upd H8 l (.lst ((ts.map fun t : Int × Int => lvF ts (-t.1)).map V.int))) := sameNew hl _
  have n9 := upd_same (H := H8) (a := l) (o := .lst ((ts.map fun t : Int × Int => lvF ts (-t.1)).map V.int))
  have s19 := s18.trans s9
  have n69 := s9 _ _ n68
  have n79 := s9 _ _ n78
  generalize upd H8 l (.lst ((ts.map fun t : Int × Int => lvF ts (-t.1)).map V.int)) = H9 at s9 n9 s19 n69 n79
  refine ⟨z, l, _, _, rfl, rfl, n79, n9, bsz _ (by rw [List.length_map, List.length_map]; show 1 + _ ≤ 1000; omega), fun y hy => ?_⟩
  have sA : Same H9 (upd H9 y (.lst ([.int 0] ++ (ts.map fun t : Int × Int => lvF ts (-t.1)).map V.int))) := sameNew hy _
  have nA := upd_same (H := H9) (a := y) (o := .lst ([.int 0] ++ (ts.map fun t : Int × Int => lvF ts (-t.1)).map V.int))
  have s1A := s19.trans sA
  have n6A := sA _ _ n69
  generalize upd H9 y (.lst ([.int 0] ++ (ts.map fun t : Int × Int => lvF ts (-t.1)).map V.int)) = HA at sA nA s1A n6A
  refine ⟨y, (0 :: ts.map (fun t : Int × Int => lvF ts (-t.1)) : List Int), rfl, .inl (SqL.of nA), by simp, fun m hm3 hm4 => ?_⟩
  cases max_levels tok.negs hm3 hm4
  refine ⟨(by show 1 ≤ sizeLine; decide), fun o ho => ?_⟩
  have sB : Same HA (upd HA o (.lst [.int (cnt ts)])) := sameNew ho _
  have nB : (upd HA o (.lst [.int (cnt ts)])) o = some (.lst ([cnt ts].map V.int)) := upd_same
  have s1B := s1A.trans sB
  have n6B := sB _ _ n6A
  generalize upd HA o (.lst [.int (cnt ts)]) = HB at sB nB s1B n6B
  refine ⟨o, rfl, ⟨_, SqL.of nB⟩, fun DC hDC => lci_by wk_list (fun i ys H' => Same HB H' ∧ ys = (([cnt ts].take i).filter fun x => decide (0 < x)).map V.int) (fun i ys H' ⟨sC, _⟩ => sC.seq (SqL.of nB)) ⟨sameNew hDC _, rfl⟩ ?_ ?_⟩
  · rintro i ys HC x HD hi hly hDsC ⟨sC, rfl⟩ ⟨rfl, hx⟩
    obtain ⟨k, hk', rfl⟩ := ints_at (hx _ (sC.seq (SqL.of nB)))
    have et := filter_snoc (fun x => decide (0 < x)) hk'
    refine ⟨_, rfl, _, _, rfl, rfl, _, rfl, ?_⟩
    by_cases z : 0 < k
    · rw [decide_eq_true z]
      refine iteT ⟨_, rfl, lc_post (bsz _ (by show 1 ≤ 1000; decide)) hi hly hDsC ⟨sC.upd hDC, ?_⟩⟩
      rw [et, if_pos (decide_eq_true z), List.map_append]
      rfl
    · rw [decide_eq_false z]
      refine iteF (lc_skip hi hly hDsC ⟨sC, ?_⟩)
      rw [et, if_neg (by simp [z])]
  rintro ys HC hDsC ⟨sC, rfl⟩
  have hDsC' : HC DC = some (.lst (([cnt ts].filter fun x => decide (0 < x)).map V.int)) := hDsC
  have eL : [cnt ts].filter (fun x => decide (0 < x)) = ls.take 1 := by
    have l0 := lv.l0
    by_cases z : cnt ts = 0
    · have := lv.emp (lv.zero z)
      rw [this, z]
      rfl
    · obtain ⟨a, rest, e1, e2, _⟩ := lv.one z
      rw [e1, e2, List.filter_cons, if_pos (decide_eq_true (by omega))]
      rfl
  rw [eL] at hDsC'
  refine ⟨.lst ((ls.take 1).map Dt.int), .lst ((ls.take 1).map Dt.int), Has.lst' (SqL.of (sC _ _ n6B)) (HasL.ints _), Has.lst' (SqL.of hDsC') (HasL.ints _), ?_, _, rfl, ?_⟩
  · simp only [dep, depsInts]
    decide
  rw [peq_refl]
  exact iteF ⟨_, rfl, q _ (s1B.trans sC)⟩
set_option maxHeartbeats 1000000 in
theorem ok_round {fd : FuncData} (F : Fun K "_law_round" "_law_round" s__law_round f fd) (T : Txt K mg) (Blearnt : FB P w K mg base CX0 3 "learnt" fL dL ["rows", "trail", "fails"] (sp_learnt K)) (B_law_form : FB P w K mg base CX0 3 "_law_form" fF dF ["_law_found"] (sp_form K)) (B_law_goes : FB P w K mg base CX0 2 "_law_goes" fG dG ["_law_rows_here", "_law_parts", "_law_hints"] (sp_goes K)) (B_law_cut : FB P w K mg base CX0 1 "_law_cut" fC dC ["_law_trail", "_law_level"] (sp_cut K)) (B_law_left : FB P w K mg base CX0 1 "_law_left" fE dE ["_law_row_here", "_law_held"] (sp_left K)) (B_law_places : FB P w K mg base CX0 1 "_law_places" fP dP' ["_law_trail"] (sp_places K)) : FnOk P w K mg base CX0 4 f fd ["_law_rows_here", "_law_trail", "_law_fails"] (sp_round K) := by
  refine F.ok sc__law_round (fun vs H Q E h => ?_) (fun cdv A outer s H vs Q E hr h => ?_)
  · obtain ⟨rl, tl, fl, xs, zs, Rs, ts, rfl, _⟩ := h
    rfl
  obtain ⟨rl, tl, fl, xs, zs, Rs, ts, rfl, g, q⟩ := h
  have hu64 := units64 hr
  have hu := hu_of hr
  have hr2 : Room 2 _ := hr.mono (by decide)
  have hr1 : Room 1 _ := hr.mono (by decide)
  obtain ⟨t7, h7, q7⟩ := round7 (f := f) (outer := outer) (H0 := H) (E := E) T B_law_places hr
  refine ⟨_, (pss_cons (ps_set (i := 3) sc__law_round.nd rfl (Or.inl rfl) (pe_tup (pa_cons (pe_callTy call_list_of rfl T.list PyProof.Rows.Boot.list (pa_cons (pv 0) pa_nil)) (pa_cons (pe_callTy call_list_of rfl T.list PyProof.Rows.Boot.list (pa_cons (pv 1) pa_nil)) pa_nil))))
    (pss_cons (ps_set (i := 4) sc__law_round.nd rfl (Or.inl rfl) (pe_call Blearnt.ok hr rfl Blearnt.m Blearnt.kp Blearnt.b .nil pass0 (pa_cons (pv 0) (pa_cons (pv 1) (pa_cons (pv 2) pa_nil)))))
    (pss_cons (ps_if (PW.pt (pw_or (pt_not (pt_val (pe_call B_law_form.ok hr rfl B_law_form.m B_law_form.kp B_law_form.b .nil pass0 (pa_cons (pv 4) pa_nil)))) (pw_or1 (pt_cmpR (op_neD hu64) (pv 3) (pe_tup (pa_cons (pv 0) (pa_cons (pv 1) pa_nil))) rfl))))
      (pss_one (ps_ret pe_non))
      pss_nil)
    (pss_cons (ps_if (pt_not (pt_val (pe_call B_law_goes.ok hr2 rfl B_law_goes.m B_law_goes.kp B_law_goes.b .nil pass0 (pa_cons (pv 0) (pa_cons (pe_ix ix_tup (pv 4) pe_int (fun _ _ => rfl)) (pa_cons (pe_ix ix_tup (pv 4) pe_int (fun _ _ => rfl)) pa_nil))))))
      (pss_one (ps_ret pe_non))
      pss_nil)
    (pss_cons (ps_set (i := 5) sc__law_round.nd rfl (Or.inl rfl) pe_dnewK)
    (pss_cons (ps_for PassesOwn.never rfl (pi_list (pe_call B_law_cut.ok hr1 rfl B_law_cut.m B_law_cut.kp B_law_cut.b .nil pass0 (pa_cons (pv 1) (pa_cons (pe_ix ix_tup (pv 4) pe_int (fun _ _ => rfl)) pa_nil)))) (pg_tup rfl (pgs_cons (pg_name (i := 6) sc__law_round.nd rfl (Or.inl rfl)) (pgs_cons (pg_name (i := 7) sc__law_round.nd rfl (Or.inl rfl)) pgs_nil)))
      (pss_one (ps_dput hu (pv 5) (pv 6) pe_bl rfl)))
    (pss_cons (ps_if (PW.pt (pw_and (pt_cmpR (op_neD hu64) (pe_ix ix_tup (pv 4) pe_int (fun _ _ => rfl)) (pe_tup pa_nil) rfl) (pw_and1 (pt_cmpR (op_neD hu64) (pe_call B_law_left.ok hr1 rfl B_law_left.m B_law_left.kp B_law_left.b .nil pass0 (pa_cons (pe_ix ix_tup (pv 4) pe_int (fun _ _ => rfl)) (pa_cons (pv 5) pa_nil))) (pe_lst (pa_cons (pe_ix ix_tup (pe_ix ix_tup (pv 4) pe_int (fun _ _ => rfl)) pe_int (fun _ _ => rfl)) pa_nil)) rfl))))
      (pss_one (ps_ret pe_non))
      pss_nil) h7))))))), ?_⟩
  refine ⟨_, rfl, rl, _, rfl, .inl (SqL.of g.r), fun l1 hl1 => ?_⟩
  have s1 : Same H (upd H l1 (.lst xs)) := sameNew hl1 _
  have n1 := upd_same (H := H) (a := l1) (o := .lst xs)
  have g1 := g.same s1
  generalize upd H l1 (.lst xs) = H1 at s1 n1 g1
  refine ⟨_, rfl, tl, _, rfl, .inl (SqL.of g1.t), fun l2 hl2 => ?_⟩
  have s2 : Same H1 (upd H1 l2 (.lst zs)) := sameNew hl2 _
  have n2 := upd_same (H := H1) (a := l2) (o := .lst zs)
  have n12 := s2 _ _ n1
  have g2 := g1.same s2
  have s02 := s1.trans s2
  generalize upd H1 l2 (.lst zs) = H2 at s2 n2 n12 g2 s02
  refine ⟨(by show 2 ≤ sizeLine; decide), fun l3 hl3 => ?_⟩
  have s3 : Same H2 (upd H2 l3 (.tup [.ref l1, .ref l2])) := sameNew hl3 _
  have n3 := upd_same (H := H2) (a := l3) (o := .tup [.ref l1, .ref l2])
  have n13 := s3 _ _ n12
  have n23 := s3 _ _ n2
  have g3 := g2.same s3
  have s03 := s02.trans s3
  generalize upd H2 l3 (.tup [.ref l1, .ref l2]) = H3 at s3 n3 n13 n23 g3 s03
  have t61 := g.t61
  refine ⟨_, rfl, _, rfl, _, rfl, rl, tl, fl, xs, zs, Rs, ts, rfl, SqL.of g3.r, g3.rh, SqL.of g3.t, g3.th, g.ok, by omega, g.r100, fun H4 ft tp th n s4 hft hft4 htp4 hth4 mx => ?_⟩
  have g4 := g3.same s4
  have f0 : atI [V.ref tp, V.ref th, V.int n] 0 = some (.ref tp) := atI_nat (j := 0) rfl
  have f1 : atI [V.ref tp, V.ref th, V.int n] 1 = some (.ref th) := atI_nat (j := 1) rfl
  have f2 : atI [V.ref tp, V.ref th, V.int n] 2 = some (.int n) := atI_nat (j := 2) rfl
  refine ⟨_, rfl, ft, tp, th, _, _, n, rfl, SqT.of hft4, SqT.of htp4, SqT.of hth4, _, rfl, iteF ⟨_, rfl, _, rfl, _, rfl, (by show 2 ≤ sizeLine; decide), fun l5 hl5 => ?_⟩⟩
  have s5 : Same H4 (upd H4 l5 (.tup [.ref rl, .ref tl])) := sameNew hl5 _
  have n5 := upd_same (H := H4) (a := l5) (o := .tup [.ref rl, .ref tl])
  have g5 := g4.same s5
  have s35 := s4.trans s5
  have s05 := s03.trans s35
  have hft5 := s5 _ _ hft4
  have htp5 := s5 _ _ htp4
  have hth5 := s5 _ _ hth4
  generalize upd H4 l5 (.tup [.ref rl, .ref tl]) = H5 at s5 n5 g5 s35 s05 hft5 htp5 hth5
  have dp2 : dep (.tup [.lst (Rs.map dRow), .lst (ts.map dP)]) ≤ 60 := by
    have q1 := deps_dPs ts
    have q2 := deps_rows Rs
    simp only [dep, deps]
    omega
  refine ⟨.tup [.lst (Rs.map dRow), .lst (ts.map dP)], .tup [.lst (Rs.map dRow), .lst (ts.map dP)], Has.tup' (SqT.of (s35 _ _ n3)) (.cons (Has.lst' (SqL.of (s35 _ _ n13)) g5.rh) (.cons (Has.lst' (SqL.of (s35 _ _ n23)) g5.th) .nil)), Has.tup' (SqT.of n5) (.cons (Has.lst' (SqL.of g5.r) g5.rh) (.cons (Has.lst' (SqL.of g5.t) g5.th) .nil)), dp2, _, rfl, ?_⟩
  rw [peq_refl]
  refine iteF ⟨_, rfl, _, rfl, ft, _, _, _, rfl, rfl, SqT.of hft5, f0, _, rfl, ft, _, _, _, rfl, rfl, SqT.of hft5, f1, rl, tp, th, xs, Rs, ts, fl, rfl, SqL.of g5.r, g5.rh, SqT.of htp5, SqT.of hth5, g.tok, g.ok, g.r100, fun H6 s6 => ?_⟩
  refine ⟨_, rfl, iteF (fun d hd => ?_)⟩
  have s7 : Same H6 (upd H6 d (.dK [])) := sameNew hd _
  have d7 : Dset (upd H6 d (.dK [])) d [] := Dset.of (ps := [])
  have s57 := s6.trans s7
  have hd6 := hd
  generalize upd H6 d (.dK []) = H7 at s7 d7 s57
  have g7 := g5.same s57
  have hft7 := s57 _ _ hft5
  have htp7 := s57 _ _ htp5
  have hth7 := s57 _ _ hth5
  refine ⟨_, rfl, _, rfl, ft, _, _, _, rfl, rfl, SqT.of hft7, f2, tl, n, zs, ts, rfl, SqL.of g7.t, g7.th, t61, fun H8 l8 ys8 j s8 hl8 hl88 has8 cut => ?_⟩
  have s68 := s7.trans s8
  have yl : ys8.length = (ts.take j).length := by rw [← has8.length, List.length_map]
  refine ⟨l8, rfl, ⟨_, SqL.of hl88⟩, for_by wk_list (fun i σ H' => ∃ v6 v7, σ = [some (.ref rl), some (.ref tl), some (.int fl), some (.ref l3), some (.ref ft), some (.ref d), v6, v7, none, none] ∧ Same H6 H' ∧ H' l8 = some (.lst ys8) ∧ HasL K H' ((ts.take j).map dP) ys8 ∧ Dset H' d (((ts.take j).take i).map Prod.fst)) (fun i σ H' ⟨_, _, _, _, h8, _⟩ => SqL.of h8) ⟨none, none, rfl, s68, hl88, has8, by simpa using d7.same s8⟩ ?_ ?_⟩
  · rintro i σ H9 x H10 hi ⟨v6, v7, rfl, s9, hl9, has9, ds⟩ ⟨rfl, hx⟩
    obtain ⟨t, p, ht, rfl, hp⟩ := hasl_at has9 (hx _ (SqL.of hl9))
    obtain ⟨kvs, hk5, hv5, hn5⟩ := id ds.ex
    have lk : kvs.length ≤ 61 := by
      rw [List.length_map, List.length_take, List.length_take] at hn5
      omega
    have nl : l8 ≠ d := ds.ne hl9
    have kt := (SameX.put (d := d) H10 (.dK (putK kvs (Sum.inl t.1) (.bl true)))).kt hk5
    refine ⟨p, _, rfl, hp, rfl, _, _, rfl, _, _, rfl, rfl, ?_⟩
    refine ⟨_, rfl, _, rfl, d, _, rfl, DPut.k (k := Sum.inl t.1) hk5 (small1000 (by omega)), _, _, rfl, s9.upd hd6, by rw [upd_ne nl]; exact hl9, HasL.keep kt (nols_dPs _) has9, ?_⟩
    rw [take_snoc ht, List.map_append]
    exact Dset.put hv5 hn5
  rintro σ H9 ⟨v6, v7, rfl, s9, hl9, has9, ds⟩
  rw [yl, List.take_of_length_le (Nat.le_refl _)] at ds
  have s59 := s6.trans s9
  have g9 := g5.same s59
  have hft9 := s59 _ _ hft5
  have htp9 := s59 _ _ htp5
  have s09 := s05.trans s59
  have R : Round Rs ts fl n j := ⟨g.tok, g.ok, g.last, mx, cut⟩
  have lvs := Lv.of g.tok g.ok g.last mx
  have psub : ∀ p ∈ partF Rs ts fl, -p ∈ ts.map Prod.fst := fun p hp => mem_negs.mp (part_mem hp).1
  have plen := (part_row (Rs := Rs) (f := fl) g.tok).1
  have fin : ∀ (Hx : Hp) (D' : Ends), D'.rt = Q → Same H9 Hx → ∀ v0 v2 v3 v5 v6 v7 : Option V, t7 D' [v0, some (.ref tl), v2, v3, some (.ref ft), v5, v6, v7, none, none] Hx := fun Hx D' eD sx v0 v2 v3 v5 v6 v7 => by
    have gx := g9.same sx
    refine q7 D' Hx ft tp th tl zs Rs ts (partF Rs ts fl) n v0 v2 v3 v5 v6 v7 (SqT.of (sx _ _ hft9)) (SqT.of (sx _ _ htp9)) (SqL.of gx.t) gx.th g.tok psub lvs fun H' s' => ?_
    rw [eD]
    have sz := (s09.trans sx).trans s'
    exact q H' ft tp th n sz (SqT.of (s' _ _ (sx _ _ hft9))) (SqT.of (s' _ _ (sx _ _ htp9))) mx
  refine ⟨_, rfl, ft, _, _, _, rfl, rfl, SqT.of hft9, f0, (by show 0 ≤ sizeLine; decide), fun e he => ?_⟩
  have sA : Same H9 (upd H9 e (.tup [])) := sameNew he _
  have nA := upd_same (H := H9) (a := e) (o := .tup [])
  have hftA := sA _ _ hft9
  have htpA := sA _ _ htp9
  have dA := ds.same sA
  generalize upd H9 e (.tup []) = HA at sA nA hftA htpA dA
  refine ⟨dRow (partF Rs ts fl), dRow [], of_dRow (SqT.of htpA), of_dRow (r := []) (SqT.of nA), by rw [dep_dRow]; decide, _, rfl, ?_⟩
  by_cases ne : partF Rs ts fl = []
  · rw [ne, peq_refl]
    exact iteF (iteF (fin HA _ rfl sA _ _ _ _ _ _))
  · obtain ⟨a, rest, ep, la, nl, hrs, _⟩ := R.split ne
    have pf : peq (dRow (partF Rs ts fl)) (dRow []) = false := by
      rw [ep]
      simp only [dRow, peq, List.map_cons, List.map_nil, peqs]
    rw [pf]
    obtain ⟨an, op⟩ := R.left ep la nl hrs
    refine iteT ⟨_, rfl, ft, _, _, _, rfl, rfl, SqT.of hftA, f0, _, rfl, tp, d, _, _, rfl, SqT.of htpA, dA, by omega, fun HB sB an' => ?_, fun HB lB sB hlB _ hlBB => ?_⟩
    · rw [an] at an'
      cases an'
    rw [op] at hlBB
    have hftB := sB _ _ hftA
    have htpB := sB _ _ htpA
    have at0 : atI ((partF Rs ts fl).map V.int) 0 = some (.int a) := atI_ints (i := 0) (by rw [ep]; rfl)
    refine ⟨_, rfl, ft, _, _, _, rfl, rfl, SqT.of hftB, f0, tp, _, _, _, rfl, rfl, SqT.of htpB, at0, (by show 1 ≤ sizeLine; decide), fun lC hlC => ?_⟩
    have sC : Same HB (upd HB lC (.lst [.int a])) := sameNew hlC _
    refine ⟨.lst ([a].map Dt.int), .lst ([a].map Dt.int), Has.lst' (SqL.of (sC _ _ hlBB)) (HasL.ints _), Has.lst' (SqL.of (xs := [a].map V.int) upd_same) (HasL.ints _), ?_, _, rfl, ?_⟩
    · simp only [dep, depsInts]
      decide
    rw [peq_refl]
    exact iteF (fin _ _ rfl ((sA.trans sB).trans sC) _ _ _ _ _ _)
end
end K45

/-! law k45: onward. Behind K45l. -/
namespace K45
open PySem L2
def sp_onward (K : PySem.W.Frag) : Sp := fun vs H Q _ => ∃ (rl tl : Addr) (m c c0 : Int) (xs zs : List V) (Rs : List (List Int)) (ts : List (Int × Int)), vs = [.ref rl, .ref tl, .int m, .int c, .int c0] ∧ H rl = some (.lst xs) ∧ HasL K H (Rs.map dRow) xs ∧ H tl = some (.lst zs) ∧ HasL K H (ts.map dP) zs ∧ rl ≠ tl ∧ (∀ r ∈ Rs, RowD r) ∧ Rs.length ≤ 500 ∧ TOk Rs ts ∧ 1 ≤ m ∧ m ≤ 40 ∧
  ∀ (H' : Hp) (lg : List (Int × Int)) (o : Option Nat) (ys : List V), SameX tl H H' → H' tl = some (.lst ys) → HasL K H' (lg.map dP) ys → Play m Rs ts lg o → Q (oV o) H'
theorem sc__law_onward : FnScope ["_law_rows_here", "_law_trail", "_law_many_here", "_law_cell", "_law_first", "_law_fails", "_law_turn", "_law_number"] ["_law_rows_here", "_law_trail", "_law_many_here", "_law_cell", "_law_first"] (defScope s__law_onward) := ⟨rfl, rfl, rfl, by decide +kernel, rfl, by decide +kernel, by decide +kernel⟩
theorem ok_onward {P : Program} {w : World} {K : PySem.W.Frag} {mg : Str → Option Value} {base : Heap} {f fF fM fC : Addr} {fd dF dM dC : FuncData} (F : Fun K "_law_onward" "_law_onward" s__law_onward f fd) (T : Txt K mg) (B_law_mix : FB P w K mg base CX0 1 "_law_mix" fM dM ["_law_cell", "_law_k"] sp_mix) (B_law_force : FB P w K mg base CX0 2 "_law_force" fF dF ["_law_rows_here", "_law_trail"] (sp_force K)) (B_law_choose : FB P w K mg base CX0 2 "_law_choose" fC dC ["_law_trail", "_law_many_here", "_law_first", "_law_number"] (sp_choose K)) : FnOk P w K mg base CX0 3 f fd ["_law_rows_here", "_law_trail", "_law_many_here", "_law_cell", "_law_first"] (sp_onward K) := by
  refine F.ok sc__law_onward (fun vs H Q E h => ?_) (fun cdv A outer s H vs Q E hr h => ?_)
  · obtain ⟨rl, tl, m, c, c0, xs, zs, Rs, ts, rfl, _⟩ := h
    rfl
  obtain ⟨rl, tl, m, c, c0, xs, zs, Rs, ts, rfl, hrl, hL, htl, hT, nrt, hR, R5, tok, m1, m2, q⟩ := h
  have hr1 : Room 1 _ := hr.mono (by decide)
  refine ⟨_, (pss_cons (ps_set (i := 5) sc__law_onward.nd rfl (Or.inl rfl) (pe_call B_law_force.ok hr rfl B_law_force.m B_law_force.kp B_law_force.b .nil pass0 (pa_cons (pv 0) (pa_cons (pv 1) pa_nil))))
    (pss_cons (ps_for PassesOwn.never rfl (pi_range1 rfl T.range (pa_cons (pv 2) pa_nil)) (pg_name (i := 6) sc__law_onward.nd rfl (Or.inl rfl))
      (pss_cons (ps_set (i := 7) sc__law_onward.nd rfl (Or.inl rfl) (pe_call B_law_mix.ok hr1 rfl B_law_mix.m B_law_mix.kp B_law_mix.b .nil pass0 (pa_cons (pv 3) (pa_cons (pe_op op_add (pv 6) pe_int) pa_nil))))
        (pss_one (ps_if (PW.pt (pw_and (pt_cmpR op_isN (pv 5) pe_non (nomark _)) (pw_and1 (pt_val (pe_call B_law_choose.ok hr rfl B_law_choose.m B_law_choose.kp B_law_choose.b .nil pass0 (pa_cons (pv 1) (pa_cons (pv 2) (pa_cons (pv 4) (pa_cons (pv 7) pa_nil)))))))))
          (pss_one (ps_set (i := 5) sc__law_onward.nd rfl (Or.inl rfl) (pe_call B_law_force.ok hr rfl B_law_force.m B_law_force.kp B_law_force.b .nil pass0 (pa_cons (pv 0) (pa_cons (pv 1) pa_nil)))))
          pss_nil))))
    (pss_one (ps_ret (pv 5))))), ?_⟩
  refine ⟨_, rfl, _, rfl, rl, tl, xs, zs, Rs, ts, rfl, hrl, hL, htl, hT, nrt, hR, R5, tok, fun H1 lg o ys sx hl1 has1 g => ?_⟩
  refine ⟨_, rfl, _, rfl, by omega, by omega, ?_⟩
  refine for_by wk_range (fun i σ H' => ∃ (lg : List (Int × Int)) (o : Option Nat) (ys : List V) (v6 v7 : Option V), σ = [some (.ref rl), some (.ref tl), some (.int m), some (.int c), some (.int c0), some (oV o), v6, v7] ∧ SameX tl H H' ∧ H' tl = some (.lst ys) ∧ HasL K H' (lg.map dP) ys ∧ Play m Rs ts lg o) (fun _ _ _ _ => trivial) ⟨lg, o, ys, none, none, rfl, sx, hl1, has1, .force g⟩ ?_ ?_
  · rintro i σ H2 x H3 hi ⟨lg, o, ys, v6, v7, rfl, s2, hl2, has2, pl⟩ ⟨rfl, rfl⟩
    refine ⟨_, rfl, _, rfl, _, _, rfl, rfl, _, _, rfl, ?_⟩
    generalize mixF c (0 + (i : Int) + 200) = y
    cases o with
    | some k => exact ⟨_, rfl, rfl, _, rfl, iteF (iteF ⟨lg, some k, ys, _, _, rfl, s2, hl2, has2, pl⟩)⟩
    | none =>
      have tok2 := TOk.play (show m ≤ 60 by omega) hR pl tok
      refine ⟨_, rfl, rfl, _, rfl, iteT ⟨_, rfl, _, rfl, _, rfl, _, rfl, tl, m, c0, y, ys, lg, rfl, hl2, has2, tok2.len, m1, m2, fun H4 s4 => ?_, fun H4 p u s4 hl4 hu4 p0 p1 p2 n1 n2 => ?_⟩⟩
      · exact ⟨_, rfl, iteF ⟨lg, none, ys, _, _, rfl, s2.trans (s4.x tl), s4 _ _ hl2, HasL.keep s4.kt (nols_dPs _) has2, pl⟩⟩
      · have s14 := s2.trans s4
        have kt := ktL s4 hl2
        have has4 : HasL K H4 ((lg ++ [(p, -1)]).map dP) (ys ++ [.ref u]) := by
          rw [List.map_append]
          exact HasL.append (HasL.keep kt (nols_dPs _) has2) (HasL.one (of_dP (t := (p, -1)) hu4))
        have tok4 : TOk Rs (lg ++ [(p, -1)]) := tok2.snoc (t := (p, -1)) p0 ⟨by show -60 ≤ p; omega, by show p ≤ 60; omega⟩ n1 n2 (.inl rfl)
        refine ⟨_, rfl, iteT ⟨_, rfl, _, rfl, rl, tl, xs, _, Rs, _, rfl, s14 _ _ nrt hrl, HasL.keep (ktL s14 htl) (nols_rows _) hL, hl4, has4, nrt, hR, R5, tok4, fun H5 lg' o' ys' s5 hl5 has5 g' => ?_⟩⟩
        exact ⟨lg', o', ys', _, _, rfl, s14.trans s5, hl5, has5, .turn pl p0 p1 p2 n1 n2 g'⟩
  · rintro σ H2 ⟨lg, o, ys, v6, v7, rfl, s2, hl2, has2, pl⟩
    exact ⟨_, rfl, q H2 lg o ys s2 hl2 has2 pl⟩
end K45

/-! law k45: the law. Behind K45m. -/
namespace K45
open PySem L2
def sp_law (K : PySem.W.Frag) : Sp := fun vs H Q _ => ∃ (a : Addr) (ns : List Int), vs = [.ref a] ∧ SqL K H a (ns.map V.int) ∧ ns.length ≤ 63 ∧ ∀ H', Q (.bl true) H'
abbrev NL : List Str := ["_law_script", "_law_many_here", "_law_rows_here", "_law_first", "_law_trail", "_law_fails", "_law_turn", "_law_found", "_law_number"]
theorem sc_law : FnScope ["_law_script", "_law_many_here", "_law_rows_here", "_law_first", "_law_trail", "_law_fails", "_law_turn", "_law_found", "_law_number"] ["_law_script"] (defScope s_law) := ⟨rfl, rfl, rfl, by decide +kernel, rfl, by decide +kernel, by decide +kernel⟩
/-- what stands between two rounds -/
structure Stand (K : PySem.W.Frag) (H : Hp) (rl tl : Addr) (k : Nat) (b : Nat) (xs zs : List V) (Rs : List (List Int)) (ts : List (Int × Int)) : Prop where
  got : Got K H rl tl xs zs Rs ts (k : Int)
  comp : Comp Rs ts
  rows : ∀ r ∈ Rs, RowD r
  le : Rs.length ≤ b
section
variable {P : Program} {w : World} {K : PySem.W.Frag} {mg : Str → Option Value} {base : Heap} {f fC fM fR fP fA fD fU fO : Addr} {dC dM dR' dP' dA dD dU dO : FuncData}
set_option maxHeartbeats 1000000 in
theorem law5 (T : Txt K mg) (B_law_round : FB P w K mg base CX0 4 "_law_round" fD dD ["_law_rows_here", "_law_trail", "_law_fails"] (sp_round K)) (B_law_cut : FB P w K mg base CX0 1 "_law_cut" fU dU ["_law_trail", "_law_level"] (sp_cut K)) (B_law_cell_at : FB P w K mg base CX0 1 "_law_cell_at" fC dC ["_law_script", "_law_k"] (sp_cell K)) (B_law_onward : FB P w K mg base CX0 3 "_law_onward" fO dO ["_law_rows_here", "_law_trail", "_law_many_here", "_law_cell", "_law_first"] (sp_onward K))
    {cdv : Value} {A : Around} {outer : List Env} {s : Shared} {H0 : Hp} {E : XK} (hr : Room 4 (A.deeper (PyProof.Rows.envOfC "law" (defScope s_law) s.heap.objs.size f cdv))) :
    ∃ t, PSs (cxOf CX0 P w K mg base NL "law" (defScope s_law) f cdv A outer s H0 E).nox ((defBody s_law).drop 5) t ∧
      ∀ (D : Ends) (Hi H : Hp) (a rl tl : Addr) (ns : List Int) (m c0 : Int) (o : Option Nat), SqL K Hi a (ns.map V.int) → Hi rl = none → Hi tl = none → Same Hi H → 1 ≤ m → m ≤ 40 → (∀ k, o = some k → ∃ xs zs Rs ts, Stand K H rl tl k 251 xs zs Rs ts) → (∀ H', D.rt (.bl true) H') →
        t D [some (.ref a), some (.int m), some (.ref rl), some (.int c0), some (.ref tl), some (oV o), none, none, none] H := by
  have hu := units64 hr
  have hr3 : Room 3 _ := hr.mono (by decide)
  have hr1 : Room 1 _ := hr.mono (by decide)
  refine ⟨_, (pss_cons (ps_for PassesOwn.never rfl (pi_range1 rfl T.range (pa_cons pe_int pa_nil)) (pg_name (i := 6) sc_law.nd rfl (Or.inl rfl))
      (pss_one (ps_if (pt_cmpR op_notN (pv 5) pe_non (nomark _))
          (pss_cons (ps_set (i := 7) sc_law.nd rfl (Or.inl rfl) (pe_call B_law_round.ok hr rfl B_law_round.m B_law_round.kp B_law_round.b .nil pass0 (pa_cons (pv 2) (pa_cons (pv 4) (pa_cons (pv 5) pa_nil)))))
            (pss_cons (ps_if (pt_cmpR op_isN (pv 7) pe_non (nomark _))
              (pss_one (ps_ret pe_bl))
              pss_nil)
            (pss_cons (ps_if (pt_cmpR (op_eqD hu) (pe_ix ix_tup (pv 7) pe_int (fun _ _ => rfl)) (pe_tup pa_nil) rfl)
              (pss_one (ps_ret pe_bl))
              pss_nil)
            (pss_cons (ps_expr (pe_bm PySem.F.plainAttrs_list PySem.F.slot_list_append PySem.F.type_list_append mt_append (pv 2) (pa_cons (pe_ix ix_tup (pv 7) pe_int (fun _ _ => rfl)) pa_nil)))
            (pss_cons (ps_set (i := 4) sc_law.nd rfl (Or.inl rfl) (pe_call B_law_cut.ok hr1 rfl B_law_cut.m B_law_cut.kp B_law_cut.b .nil pass0 (pa_cons (pv 4) (pa_cons (pe_ix ix_tup (pv 7) pe_int (fun _ _ => rfl)) pa_nil))))
            (pss_cons (ps_set (i := 8) sc_law.nd rfl (Or.inl rfl) (pe_op op_add (pe_call B_law_cell_at.ok hr1 rfl B_law_cell_at.m B_law_cell_at.kp B_law_cell_at.b .nil pass0 (pa_cons (pv 0) (pa_cons pe_int pa_nil))) (pv 6)))
            (pss_one (ps_set (i := 5) sc_law.nd rfl (Or.inl rfl) (pe_call B_law_onward.ok hr3 rfl B_law_onward.m B_law_onward.kp B_law_onward.b .nil pass0 (pa_cons (pv 2) (pa_cons (pv 4) (pa_cons (pv 1) (pa_cons (pv 8) (pa_cons (pv 3) pa_nil))))))))))))))
          pss_nil)))
    (pss_one (ps_ret pe_bl))), ?_⟩
  rintro D Hi H a rl tl ns m c0 o hS nrl ntl sH m1 m2 st q
  refine ⟨_, rfl, by decide, by decide, ?_⟩
  refine for_by wk_range (fun i σ H' => ∃ (tl : Addr) (o : Option Nat) (v6 v7 v8 : Option V), σ = [some (.ref a), some (.int m), some (.ref rl), some (.int c0), some (.ref tl), some (oV o), v6, v7, v8] ∧ Hi tl = none ∧ Same Hi H' ∧ (∀ k, o = some k → ∃ xs zs Rs ts, Stand K H' rl tl k (251 + i) xs zs Rs ts)) (fun _ _ _ _ => trivial) ⟨tl, o, none, none, none, rfl, ntl, sH, st⟩ ?_ ?_
  · rintro i σ H1 x H2 hi ⟨tl, o, v6, v7, v8, rfl, ntl, s1, st1⟩ ⟨rfl, rfl⟩
    have hi5 : i < 5 := hi
    cases o with
    | none => exact ⟨_, rfl, rfl, _, rfl, iteF ⟨tl, none, _, _, _, rfl, ntl, s1, fun k e => nomatch e⟩⟩
    | some k =>
      obtain ⟨xs, zs, Rs, ts, S⟩ := st1 k rfl
      have g := S.got
      refine ⟨_, rfl, rfl, _, rfl, iteT ⟨_, rfl, _, rfl, _, rfl, rl, tl, (k : Int), xs, zs, Rs, ts, rfl, g, fun H3 ft tp th n s3 hft htp mx => ?_⟩⟩
      have f0 : atI [V.ref tp, V.ref th, V.int n] 0 = some (.ref tp) := atI_nat (j := 0) rfl
      have f2 : atI [V.ref tp, V.ref th, V.int n] 2 = some (.int n) := atI_nat (j := 2) rfl
      have s13 := s1.trans s3
      have g3 := g.same s3
      refine ⟨_, rfl, rfl, _, rfl, iteF ⟨_, rfl, ft, _, _, _, rfl, rfl, hft, f0, (by show 0 ≤ sizeLine; decide), fun e he => ?_⟩⟩
      have s4 : Same H3 (upd H3 e (.tup [])) := sameNew he _
      have n4 := upd_same (H := H3) (a := e) (o := .tup [])
      have s14 := s13.trans s4
      have g4 := g3.same s4
      have hft4 := s4.tup hft
      have htp4 := s4.tup htp
      generalize upd H3 e (.tup []) = H4 at s4 n4 s14 g4 hft4 htp4
      refine ⟨dRow (partF Rs ts (k : Int)), dRow [], of_dRow htp4, of_dRow (r := []) (SqT.of n4), by rw [dep_dRow]; decide, _, rfl, ?_⟩
      by_cases ne : partF Rs ts (k : Int) = []
      · rw [ne, peq_refl]
        exact iteT (q _)
      have pf : peq (dRow (partF Rs ts (k : Int))) (dRow []) = false := by
        cases ep : partF Rs ts (k : Int) with
        | nil => exact absurd ep ne
        | cons a r => simp only [dRow, peq, List.map_cons, List.map_nil, peqs]
      rw [pf]
      have xl := g.xl
      have Rb := S.le
      refine iteF ⟨_, rfl, .inl ⟨rfl, _, SqL.of g4.r⟩, _, rfl, ft, _, _, _, rfl, rfl, hft4, f0, rl, _, _, rfl, rfl, g4.r, small1000 (by omega), ?_⟩
      have kt := KeepT.lst (ys := xs ++ [.ref tp]) g4.r
      have sx5 : SameX rl H4 (upd H4 rl (.lst (xs ++ [.ref tp]))) := SameX.put _ _
      have n5 := upd_same (H := H4) (a := rl) (o := .lst (xs ++ [.ref tp]))
      have s15 : Same Hi (upd H4 rl (.lst (xs ++ [.ref tp]))) := s14.ofX nrl sx5
      have hrows : HasL K (upd H4 rl (.lst (xs ++ [.ref tp]))) ((Rs ++ [partF Rs ts (k : Int)]).map dRow) (xs ++ [.ref tp]) := by
        rw [List.map_append]
        exact HasL.append (HasL.keep kt (nols_rows _) g4.rh) (HasL.one (of_dRow (kt.sq htp4)))
      have htr := HasL.keep kt (nols_dPs _) g4.th
      have htl5 := sx5 _ _ (Ne.symm g.ne) g4.t
      have hft5 := kt.sq hft4
      generalize upd H4 rl (.lst (xs ++ [.ref tp])) = H5 at n5 s15 hrows htr htl5 hft5
      refine ⟨_, rfl, _, rfl, ft, _, _, _, rfl, rfl, hft5, f2, tl, n, zs, ts, rfl, SqL.of htl5, htr, g.t61, fun H6 l6 ys6 j s6 hl6 hl66 has6 cut => ?_⟩
      have s16 := s15.trans s6
      have nl6 : Hi l6 = none := s15.free hl6
      have nrl6 : rl ≠ l6 := ne_of_none n5 hl6
      have R : Round Rs ts (k : Int) n j := ⟨g.tok, g.ok, g.last, mx, cut⟩
      have comp' := R.next S.comp ne
      have rows' : ∀ r ∈ Rs ++ [partF Rs ts (k : Int)], RowD r := fun r hr' => by
        rcases List.mem_append.mp hr' with z | z
        · exact S.rows r z
        · cases List.mem_singleton.mp z
          exact part_row g.tok
      have tok' : TOk (Rs ++ [partF Rs ts (k : Int)]) (ts.take j) := (g.tok.take j).more
      have len' : (Rs ++ [partF Rs ts (k : Int)]).length = Rs.length + 1 := by rw [List.length_append]; rfl
      refine ⟨_, rfl, a, ns, 2, rfl, s16.seq hS, _, rfl, _, _, rfl, rfl, ?_⟩
      refine ⟨_, rfl, _, rfl, _, rfl, _, rfl, _, rfl, rl, l6, m, _, c0, _, ys6, _, ts.take j, rfl, s6 _ _ n5, HasL.keep s6.kt (nols_rows _) hrows, hl66, has6, nrl6, rows', by omega, tok', m1, m2, fun H7 lg o7 ys7 s7 hl7 has7 pl => ?_⟩
      have s17 := s16.ofX nl6 s7
      refine ⟨l6, o7, _, _, _, rfl, nl6, s17, fun k7 e7 => ?_⟩
      subst e7
      have tok7 := TOk.play (show m ≤ 60 by omega) rows' pl tok'
      have comp7 := Comp.play (show m ≤ 60 by omega) rows' tok' comp' pl
      exact ⟨_, ys7, _, lg, ⟨s7 _ _ nrl6 (s6 _ _ n5), HasL.keep ((s6.kt).trans (ktL s7 hl66)) (nols_rows _) hrows, hl7, has7, nrl6, tok7, tok7.ln (play_fails pl), comp_last tok7 comp7 (play_fails pl), tok7.len, fun r hr' => (rows' r hr').1, by omega⟩, comp7, rows', by omega⟩
  · rintro σ H1 ⟨tl, o, v6, v7, v8, rfl, ntl, s1, st1⟩
    exact q _
theorem ok_law {fd : FuncData} (F : Fun K "law" "law" s_law f fd) (T : Txt K mg) (B_law_round : FB P w K mg base CX0 4 "_law_round" fD dD ["_law_rows_here", "_law_trail", "_law_fails"] (sp_round K)) (B_law_cut : FB P w K mg base CX0 1 "_law_cut" fU dU ["_law_trail", "_law_level"] (sp_cut K)) (B_law_onward : FB P w K mg base CX0 3 "_law_onward" fO dO ["_law_rows_here", "_law_trail", "_law_many_here", "_law_cell", "_law_first"] (sp_onward K))
    (B_law_many : FB P w K mg base CX0 2 "_law_many" fM dM ["_law_script"] (sp_many K)) (B_law_rows : FB P w K mg base CX0 3 "_law_rows" fR dR' ["_law_script", "_law_many_here"] (sp_rows K)) (B_law_play : FB P w K mg base CX0 3 "_law_play" fP dP' ["_law_rows_here", "_law_many_here", "_law_cell", "_law_first"] (sp_play K)) (B_law_cell_at : FB P w K mg base CX0 1 "_law_cell_at" fC dC ["_law_script", "_law_k"] (sp_cell K)) (B_law_failing : FB P w K mg base CX0 2 "_law_failing" fA dA ["_law_trail", "_law_cell"] (sp_failing K)) : FnOk P w K mg base CX0 5 f fd ["_law_script"] (sp_law K) := by
  refine F.ok sc_law (fun vs H Q E h => ?_) (fun cdv A outer s H vs Q E hr h => ?_)
  · obtain ⟨a, ns, rfl, _⟩ := h
    rfl
  obtain ⟨a, ns, rfl, hS, h63, q⟩ := h
  have hr3 : Room 3 _ := hr.mono (by decide)
  have hr2 : Room 2 _ := hr.mono (by decide)
  have hr1 : Room 1 _ := hr.mono (by decide)
  obtain ⟨t5, h5, q5⟩ := law5 (f := f) (outer := outer) (H0 := H) (E := E) T B_law_round B_law_cut B_law_cell_at B_law_onward hr
  refine ⟨_, (pss_cons (ps_set (i := 1) sc_law.nd rfl (Or.inl rfl) (pe_call B_law_many.ok hr2 rfl B_law_many.m B_law_many.kp B_law_many.b .nil pass0 (pa_cons (pv 0) pa_nil)))
    (pss_cons (ps_set (i := 2) sc_law.nd rfl (Or.inl rfl) (pe_call B_law_rows.ok hr3 rfl B_law_rows.m B_law_rows.kp B_law_rows.b .nil pass0 (pa_cons (pv 0) (pa_cons (pv 1) pa_nil))))
    (pss_cons (ps_set (i := 3) sc_law.nd rfl (Or.inl rfl) (pe_call B_law_cell_at.ok hr1 rfl B_law_cell_at.m B_law_cell_at.kp B_law_cell_at.b .nil pass0 (pa_cons (pv 0) (pa_cons pe_int pa_nil))))
    (pss_cons (ps_asg (pe_call B_law_play.ok hr3 rfl B_law_play.m B_law_play.kp B_law_play.b .nil pass0 (pa_cons (pv 2) (pa_cons (pv 1) (pa_cons (pe_call B_law_cell_at.ok hr1 rfl B_law_cell_at.m B_law_cell_at.kp B_law_cell_at.b .nil pass0 (pa_cons (pv 0) (pa_cons pe_int pa_nil))) (pa_cons (pv 3) pa_nil))))) (pg_tup rfl (pgs_cons (pg_name (i := 4) sc_law.nd rfl (Or.inl rfl)) (pgs_cons (pg_name (i := 5) sc_law.nd rfl (Or.inl rfl)) pgs_nil))))
    (pss_cons (ps_if (pt_cmpR op_isN (pv 5) pe_non (nomark _))
      (pss_cons (ps_set (i := 5) sc_law.nd rfl (Or.inl rfl) (pe_callB call_len_seq rfl T.len PySem.boot_len (pa_cons (pv 2) pa_nil)))
        (pss_one (ps_expr (pe_bm PySem.F.plainAttrs_list PySem.F.slot_list_append PySem.F.type_list_append mt_append (pv 2) (pa_cons (pe_call B_law_failing.ok hr2 rfl B_law_failing.m B_law_failing.kp B_law_failing.b .nil pass0 (pa_cons (pv 4) (pa_cons (pe_call B_law_cell_at.ok hr1 rfl B_law_cell_at.m B_law_cell_at.kp B_law_cell_at.b .nil pass0 (pa_cons (pv 0) (pa_cons pe_int pa_nil))) pa_nil))) pa_nil)))))
      pss_nil) h5))))), ?_⟩
  refine ⟨_, rfl, a, ns, rfl, hS, fun H1 m s1 m1 m2 => ?_⟩
  refine ⟨_, rfl, _, rfl, a, ns, m, rfl, s1.seq hS, h63, m1, m2, fun H2 rl xs Rs s2 hrl0 hrl hx R250 hR => ?_⟩
  have s12 := s1.trans s2
  have nrl : H rl = none := s1.free hrl0
  refine ⟨_, rfl, a, ns, 0, rfl, s12.seq hS, ?_⟩
  refine ⟨_, rfl, _, rfl, _, rfl, a, ns, 1, rfl, s12.seq hS, _, rfl, rl, m, _, _, xs, Rs, rfl, hrl, hx, hR, by omega, m1, m2, fun H3 t tl ys lg o s3 ht ht3 htl htl3 has3 pl => ?_⟩
  have s13 := s12.trans s3
  have hrl3 := s3 _ _ hrl
  have hx3 := HasL.keep s3.kt (nols_rows _) hx
  have tok := TOk.play (show m ≤ 60 by omega) hR pl (TOk.nil Rs)
  have comp := Comp.play (show m ≤ 60 by omega) hR (TOk.nil Rs) (Comp.nil Rs) pl
  have t61 := tok.len
  have xl : xs.length = Rs.length := by rw [← hx.length, List.length_map]
  have ntl : rl ≠ tl := fun e => by rw [← e, hrl] at htl; cases htl
  have ntl0 : H tl = none := s12.free htl
  refine ⟨t, _, rfl, SqT.of ht3, rfl, _, _, rfl, _, _, rfl, rfl, ?_⟩
  cases o with
  | some k =>
    refine ⟨_, rfl, rfl, _, rfl, iteF (q5 _ H H3 a rl tl ns m _ (some k) hS nrl ntl0 s13 m1 m2 (fun k' e => ?_) q)⟩
    cases e
    exact ⟨xs, ys, Rs, lg, ⟨hrl3, hx3, htl3, has3, ntl, tok, tok.ln (play_fails pl), comp_last tok comp (play_fails pl), t61, fun r hr' => (hR r hr').1, by omega⟩, comp, hR, by omega⟩
  | none =>
    refine ⟨_, rfl, rfl, _, rfl, iteT ⟨_, rfl, rl, _, rfl, .inl (SqL.of hrl3), ?_⟩⟩
    refine ⟨_, rfl, .inl ⟨rfl, _, SqL.of hrl3⟩, _, rfl, _, rfl, a, ns, 2, rfl, s13.seq hS, tl, _, ys, lg, rfl, htl3, has3, t61, fun H4 l row s4 hl hl4 fr => ?_⟩
    have hrl4 := s4 _ _ hrl3
    have kt := KeepT.lst (ys := xs ++ [.ref l]) hrl4
    have hx4 := HasL.keep s4.kt (nols_rows _) hx3
    have has4 := HasL.keep s4.kt (nols_dPs _) has3
    have hrow : (Rs ++ [row])[Rs.length]? = some row := by rw [List.getElem?_append_right (Nat.le_refl _), Nat.sub_self]; rfl
    have tok4 := TOk.more (Qs := [row]) tok
    have ok := tok4.ln (f := Rs.length) ⟨row, hrow, fr.neg⟩
    have s14 : Same H (upd H4 rl (.lst (xs ++ [.ref l]))) := (s13.trans s4).ofX nrl (SameX.put _ _)
    have rows' : ∀ r ∈ Rs ++ [row], RowD r := fun r hr' => by
      rcases List.mem_append.mp hr' with z | z
      · exact hR r z
      · cases List.mem_singleton.mp z
        refine ⟨Nat.le_trans fr.le (by decide), fun p hp => ?_⟩
        obtain ⟨u, hu, eu⟩ := List.mem_map.mp (fr.neg p hp)
        obtain ⟨iu, hiu⟩ := List.mem_iff_getElem?.mp hu
        have b1 := (tok iu u hiu).1
        have b2 := (tok iu u hiu).2.1
        omega
    refine ⟨rl, _, _, rfl, rfl, hrl4, small1000 (by omega), q5 _ H _ a rl tl ns m _ (some xs.length) hS nrl ntl0 s14 m1 m2 (fun k' e => ?_) q⟩
    cases e
    have len' : (Rs ++ [row]).length = Rs.length + 1 := by rw [List.length_append]; rfl
    refine ⟨xs ++ [.ref l], ys, Rs ++ [row], lg, ⟨upd_same, ?_, (by rw [upd_ne (Ne.symm ntl)]; exact s4 _ _ htl3), HasL.keep kt (nols_dPs _) has4, ntl, tok4, (by rw [xl]; exact ok), fun hL => ?_, t61, fun r hr' => (rows' r hr').1, by omega⟩, Comp.fail tok comp fr, rows', by omega⟩
    · rw [List.map_append]
      exact HasL.append (HasL.keep kt (nols_rows _) hx4) (HasL.one (of_dRow (kt.sq (SqT.of hl4))))
    · rw [xl, rowAt_of hrow]
      exact last_row tok fr hL
end
end K45

/-! law k45, last part: what the top has written, and the law. Behind K45n. -/
namespace K45
open PySem L2
theorem all_mk {l : PySem.W.OpenLaw} {w : World} {K : PySem.W.Frag} {h : Heap} {mg : Str → Option Value} {fa  f1 f2 f3 f4 f5 f6 f7 f8 f9 f10 f11 f12 f13 f14 f15 f16 f17 f18 f19 f20 f21 f22 f23 f24 f25 : Addr} (X : K.In h) (G : h.Ns mainGlobals mg) (hfa : mg "law" = some (.ref fa))
    {od1 an1 od2 an2 od3 an3 od4 an4 od5 an5 od6 an6 od7 an7 od8 an8 od9 an9 od10 an10 od11 an11 od12 an12 od13 an13 od14 an14 od15 an15 od16 an16 od17 an17 od18 an18 od19 an19 od20 an20 od21 an21 od22 an22 od23 an23 od24 an24 od25 an25 : Option Addr} {sl1 sl2 sl3 sl4 sl5 sl6 sl7 sl8 sl9 sl10 sl11 sl12 sl13 sl14 sl15 sl16 sl17 sl18 sl19 sl20 sl21 sl22 sl23 sl24 sl25 : Array (Option Value)} {oc1 kV1 dc1 pm1 cd1 ct1 oc2 kV2 dc2 pm2 cd2 ct2 oc3 kV3 dc3 pm3 cd3 ct3 oc4 kV4 dc4 pm4 cd4 ct4 oc5 kV5 dc5 pm5 cd5 ct5 oc6 kV6 dc6 pm6 cd6 ct6 oc7 kV7 dc7 pm7 cd7 ct7 oc8 kV8 dc8 pm8 cd8 ct8 oc9 kV9 dc9 pm9 cd9 ct9 oc10 kV10 dc10 pm10 cd10 ct10 oc11 kV11 dc11 pm11 cd11 ct11 oc12 kV12 dc12 pm12 cd12 ct12 oc13 kV13 dc13 pm13 cd13 ct13 oc14 kV14 dc14 pm14 cd14 ct14 oc15 kV15 dc15 pm15 cd15 ct15 oc16 kV16 dc16 pm16 cd16 ct16 oc17 kV17 dc17 pm17 cd17 ct17 oc18 kV18 dc18 pm18 cd18 ct18 oc19 kV19 dc19 pm19 cd19 ct19 oc20 kV20 dc20 pm20 cd20 ct20 oc21 kV21 dc21 pm21 cd21 ct21 oc22 kV22 dc22 pm22 cd22 ct22 oc23 kV23 dc23 pm23 cd23 ct23 oc24 kV24 dc24 pm24 cd24 ct24 oc25 kV25 dc25 pm25 cd25 ct25 : Value} 
    (a1 : PySem.W.nsIn K mainGlobals "levels" = some (some (.ref f1)))
    (l1 : K.lookup f1 = some ⟨oc1, od1, .func (PySem.W.fnOf "levels" "levels" (defArgs s_levels) (defBody s_levels) (defScope s_levels) .none kV1 dc1 pm1 an1 cd1 ct1), sl1⟩)
    (c1 : PySem.W.codeIn K cd1 "levels" = true)
    (k1 : PySem.W.keepIn K (.ref f1) = true)
    (a2 : PySem.W.nsIn K mainGlobals "part_levels" = some (some (.ref f2)))
    (l2 : K.lookup f2 = some ⟨oc2, od2, .func (PySem.W.fnOf "part_levels" "part_levels" (defArgs s_part_levels) (defBody s_part_levels) (defScope s_part_levels) .none kV2 dc2 pm2 an2 cd2 ct2), sl2⟩)
    (c2 : PySem.W.codeIn K cd2 "part_levels" = true)
    (k2 : PySem.W.keepIn K (.ref f2) = true)
    (a3 : PySem.W.nsIn K mainGlobals "is_replaced" = some (some (.ref f3)))
    (l3 : K.lookup f3 = some ⟨oc3, od3, .func (PySem.W.fnOf "is_replaced" "is_replaced" (defArgs s_is_replaced) (defBody s_is_replaced) (defScope s_is_replaced) .none kV3 dc3 pm3 an3 cd3 ct3), sl3⟩)
    (c3 : PySem.W.codeIn K cd3 "is_replaced" = true)
    (k3 : PySem.W.keepIn K (.ref f3) = true)
    (a4 : PySem.W.nsIn K mainGlobals "learnt" = some (some (.ref f4)))
    (l4 : K.lookup f4 = some ⟨oc4, od4, .func (PySem.W.fnOf "learnt" "learnt" (defArgs s_learnt) (defBody s_learnt) (defScope s_learnt) .none kV4 dc4 pm4 an4 cd4 ct4), sl4⟩)
    (c4 : PySem.W.codeIn K cd4 "learnt" = true)
    (k4 : PySem.W.keepIn K (.ref f4) = true)
    (a5 : PySem.W.nsIn K mainGlobals "_law_mix" = some (some (.ref f5)))
    (l5 : K.lookup f5 = some ⟨oc5, od5, .func (PySem.W.fnOf "_law_mix" "_law_mix" (defArgs s__law_mix) (defBody s__law_mix) (defScope s__law_mix) .none kV5 dc5 pm5 an5 cd5 ct5), sl5⟩)
    (c5 : PySem.W.codeIn K cd5 "_law_mix" = true)
    (k5 : PySem.W.keepIn K (.ref f5) = true)
    (a6 : PySem.W.nsIn K mainGlobals "_law_whole" = some (some (.ref f6)))
    (l6 : K.lookup f6 = some ⟨oc6, od6, .func (PySem.W.fnOf "_law_whole" "_law_whole" (defArgs s__law_whole) (defBody s__law_whole) (defScope s__law_whole) .none kV6 dc6 pm6 an6 cd6 ct6), sl6⟩)
    (c6 : PySem.W.codeIn K cd6 "_law_whole" = true)
    (k6 : PySem.W.keepIn K (.ref f6) = true)
    (a7 : PySem.W.nsIn K mainGlobals "_law_cell_at" = some (some (.ref f7)))
    (l7 : K.lookup f7 = some ⟨oc7, od7, .func (PySem.W.fnOf "_law_cell_at" "_law_cell_at" (defArgs s__law_cell_at) (defBody s__law_cell_at) (defScope s__law_cell_at) .none kV7 dc7 pm7 an7 cd7 ct7), sl7⟩)
    (c7 : PySem.W.codeIn K cd7 "_law_cell_at" = true)
    (k7 : PySem.W.keepIn K (.ref f7) = true)
    (a8 : PySem.W.nsIn K mainGlobals "_law_sign" = some (some (.ref f8)))
    (l8 : K.lookup f8 = some ⟨oc8, od8, .func (PySem.W.fnOf "_law_sign" "_law_sign" (defArgs s__law_sign) (defBody s__law_sign) (defScope s__law_sign) .none kV8 dc8 pm8 an8 cd8 ct8), sl8⟩)
    (c8 : PySem.W.codeIn K cd8 "_law_sign" = true)
    (k8 : PySem.W.keepIn K (.ref f8) = true)
    (a9 : PySem.W.nsIn K mainGlobals "_law_row" = some (some (.ref f9)))
    (l9 : K.lookup f9 = some ⟨oc9, od9, .func (PySem.W.fnOf "_law_row" "_law_row" (defArgs s__law_row) (defBody s__law_row) (defScope s__law_row) .none kV9 dc9 pm9 an9 cd9 ct9), sl9⟩)
    (c9 : PySem.W.codeIn K cd9 "_law_row" = true)
    (k9 : PySem.W.keepIn K (.ref f9) = true)
    (a10 : PySem.W.nsIn K mainGlobals "_law_many" = some (some (.ref f10)))
    (l10 : K.lookup f10 = some ⟨oc10, od10, .func (PySem.W.fnOf "_law_many" "_law_many" (defArgs s__law_many) (defBody s__law_many) (defScope s__law_many) .none kV10 dc10 pm10 an10 cd10 ct10), sl10⟩)
    (c10 : PySem.W.codeIn K cd10 "_law_many" = true)
    (k10 : PySem.W.keepIn K (.ref f10) = true)
    (a11 : PySem.W.nsIn K mainGlobals "_law_long" = some (some (.ref f11)))
    (l11 : K.lookup f11 = some ⟨oc11, od11, .func (PySem.W.fnOf "_law_long" "_law_long" (defArgs s__law_long) (defBody s__law_long) (defScope s__law_long) .none kV11 dc11 pm11 an11 cd11 ct11), sl11⟩)
    (c11 : PySem.W.codeIn K cd11 "_law_long" = true)
    (k11 : PySem.W.keepIn K (.ref f11) = true)
    (a12 : PySem.W.nsIn K mainGlobals "_law_rows" = some (some (.ref f12)))
    (l12 : K.lookup f12 = some ⟨oc12, od12, .func (PySem.W.fnOf "_law_rows" "_law_rows" (defArgs s__law_rows) (defBody s__law_rows) (defScope s__law_rows) .none kV12 dc12 pm12 an12 cd12 ct12), sl12⟩)
    (c12 : PySem.W.codeIn K cd12 "_law_rows" = true)
    (k12 : PySem.W.keepIn K (.ref f12) = true)
    (a13 : PySem.W.nsIn K mainGlobals "_law_left" = some (some (.ref f13)))
    (l13 : K.lookup f13 = some ⟨oc13, od13, .func (PySem.W.fnOf "_law_left" "_law_left" (defArgs s__law_left) (defBody s__law_left) (defScope s__law_left) .none kV13 dc13 pm13 an13 cd13 ct13), sl13⟩)
    (c13 : PySem.W.codeIn K cd13 "_law_left" = true)
    (k13 : PySem.W.keepIn K (.ref f13) = true)
    (a14 : PySem.W.nsIn K mainGlobals "_law_force" = some (some (.ref f14)))
    (l14 : K.lookup f14 = some ⟨oc14, od14, .func (PySem.W.fnOf "_law_force" "_law_force" (defArgs s__law_force) (defBody s__law_force) (defScope s__law_force) .none kV14 dc14 pm14 an14 cd14 ct14), sl14⟩)
    (c14 : PySem.W.codeIn K cd14 "_law_force" = true)
    (k14 : PySem.W.keepIn K (.ref f14) = true)
    (a15 : PySem.W.nsIn K mainGlobals "_law_choose" = some (some (.ref f15)))
    (l15 : K.lookup f15 = some ⟨oc15, od15, .func (PySem.W.fnOf "_law_choose" "_law_choose" (defArgs s__law_choose) (defBody s__law_choose) (defScope s__law_choose) .none kV15 dc15 pm15 an15 cd15 ct15), sl15⟩)
    (c15 : PySem.W.codeIn K cd15 "_law_choose" = true)
    (k15 : PySem.W.keepIn K (.ref f15) = true)
    (a16 : PySem.W.nsIn K mainGlobals "_law_play" = some (some (.ref f16)))
    (l16 : K.lookup f16 = some ⟨oc16, od16, .func (PySem.W.fnOf "_law_play" "_law_play" (defArgs s__law_play) (defBody s__law_play) (defScope s__law_play) .none kV16 dc16 pm16 an16 cd16 ct16), sl16⟩)
    (c16 : PySem.W.codeIn K cd16 "_law_play" = true)
    (k16 : PySem.W.keepIn K (.ref f16) = true)
    (a17 : PySem.W.nsIn K mainGlobals "_law_failing" = some (some (.ref f17)))
    (l17 : K.lookup f17 = some ⟨oc17, od17, .func (PySem.W.fnOf "_law_failing" "_law_failing" (defArgs s__law_failing) (defBody s__law_failing) (defScope s__law_failing) .none kV17 dc17 pm17 an17 cd17 ct17), sl17⟩)
    (c17 : PySem.W.codeIn K cd17 "_law_failing" = true)
    (k17 : PySem.W.keepIn K (.ref f17) = true)
    (a18 : PySem.W.nsIn K mainGlobals "_law_numbers" = some (some (.ref f18)))
    (l18 : K.lookup f18 = some ⟨oc18, od18, .func (PySem.W.fnOf "_law_numbers" "_law_numbers" (defArgs s__law_numbers) (defBody s__law_numbers) (defScope s__law_numbers) .none kV18 dc18 pm18 an18 cd18 ct18), sl18⟩)
    (c18 : PySem.W.codeIn K cd18 "_law_numbers" = true)
    (k18 : PySem.W.keepIn K (.ref f18) = true)
    (a19 : PySem.W.nsIn K mainGlobals "_law_form" = some (some (.ref f19)))
    (l19 : K.lookup f19 = some ⟨oc19, od19, .func (PySem.W.fnOf "_law_form" "_law_form" (defArgs s__law_form) (defBody s__law_form) (defScope s__law_form) .none kV19 dc19 pm19 an19 cd19 ct19), sl19⟩)
    (c19 : PySem.W.codeIn K cd19 "_law_form" = true)
    (k19 : PySem.W.keepIn K (.ref f19) = true)
    (a20 : PySem.W.nsIn K mainGlobals "_law_goes" = some (some (.ref f20)))
    (l20 : K.lookup f20 = some ⟨oc20, od20, .func (PySem.W.fnOf "_law_goes" "_law_goes" (defArgs s__law_goes) (defBody s__law_goes) (defScope s__law_goes) .none kV20 dc20 pm20 an20 cd20 ct20), sl20⟩)
    (c20 : PySem.W.codeIn K cd20 "_law_goes" = true)
    (k20 : PySem.W.keepIn K (.ref f20) = true)
    (a21 : PySem.W.nsIn K mainGlobals "_law_places" = some (some (.ref f21)))
    (l21 : K.lookup f21 = some ⟨oc21, od21, .func (PySem.W.fnOf "_law_places" "_law_places" (defArgs s__law_places) (defBody s__law_places) (defScope s__law_places) .none kV21 dc21 pm21 an21 cd21 ct21), sl21⟩)
    (c21 : PySem.W.codeIn K cd21 "_law_places" = true)
    (k21 : PySem.W.keepIn K (.ref f21) = true)
    (a22 : PySem.W.nsIn K mainGlobals "_law_cut" = some (some (.ref f22)))
    (l22 : K.lookup f22 = some ⟨oc22, od22, .func (PySem.W.fnOf "_law_cut" "_law_cut" (defArgs s__law_cut) (defBody s__law_cut) (defScope s__law_cut) .none kV22 dc22 pm22 an22 cd22 ct22), sl22⟩)
    (c22 : PySem.W.codeIn K cd22 "_law_cut" = true)
    (k22 : PySem.W.keepIn K (.ref f22) = true)
    (a23 : PySem.W.nsIn K mainGlobals "_law_round" = some (some (.ref f23)))
    (l23 : K.lookup f23 = some ⟨oc23, od23, .func (PySem.W.fnOf "_law_round" "_law_round" (defArgs s__law_round) (defBody s__law_round) (defScope s__law_round) .none kV23 dc23 pm23 an23 cd23 ct23), sl23⟩)
    (c23 : PySem.W.codeIn K cd23 "_law_round" = true)
    (k23 : PySem.W.keepIn K (.ref f23) = true)
    (a24 : PySem.W.nsIn K mainGlobals "_law_onward" = some (some (.ref f24)))
    (l24 : K.lookup f24 = some ⟨oc24, od24, .func (PySem.W.fnOf "_law_onward" "_law_onward" (defArgs s__law_onward) (defBody s__law_onward) (defScope s__law_onward) .none kV24 dc24 pm24 an24 cd24 ct24), sl24⟩)
    (c24 : PySem.W.codeIn K cd24 "_law_onward" = true)
    (k24 : PySem.W.keepIn K (.ref f24) = true)
    (a25 : PySem.W.nsIn K mainGlobals "law" = some (some (.ref f25)))
    (l25 : K.lookup f25 = some ⟨oc25, od25, .func (PySem.W.fnOf "law" "law" (defArgs s_law) (defBody s_law) (defScope s_law) .none kV25 dc25 pm25 an25 cd25 ct25), sl25⟩)
    (c25 : PySem.W.codeIn K cd25 "law" = true)
    (k25 : PySem.W.keepIn K (.ref f25) = true)
    (z_len : PySem.W.nsIn K mainGlobals "len" = some none)
    (z_dict : PySem.W.nsIn K mainGlobals "dict" = some none)
    (z_range : PySem.W.nsIn K mainGlobals "range" = some none)
    (z_tuple : PySem.W.nsIn K mainGlobals "tuple" = some none)
    (z_list : PySem.W.nsIn K mainGlobals "list" = some none)
    (z_any : PySem.W.nsIn K mainGlobals "any" = some none)
    (z_zip : PySem.W.nsIn K mainGlobals "zip" = some none)
    (z_reversed : PySem.W.nsIn K mainGlobals "reversed" = some none)
    (z_max : PySem.W.nsIn K mainGlobals "max" = some none)
    (z_isinstance : PySem.W.nsIn K mainGlobals "isinstance" = some none)
    (z_int : PySem.W.nsIn K mainGlobals "int" = some none)
    (z_bool : PySem.W.nsIn K mainGlobals "bool" = some none)
    (z_abs : PySem.W.nsIn K mainGlobals "abs" = some none)
    (z_ib : PySem.W.kitOne K (.type "int") (.type "bool") = some false)
    : ∃ fd : FuncData, (∀ (s : Shared) (v : Value), BindsTo s fd ⟨[v], []⟩ [("_law_script", v)]) ∧ ∀ base : Heap, K.In base → base.Ns mainGlobals mg → FnOk l.prog w K mg base CX0 5 fa fd ["_law_script"] (sp_law K) := by
  have e := hfa.symm.trans (PySem.W.mg_of X G a25)
  cases e
  have T : Txt K mg := ⟨PySem.W.mg_none_of X G z_len, PySem.W.mg_none_of X G z_dict, PySem.W.mg_none_of X G z_range, PySem.W.mg_none_of X G z_tuple, PySem.W.mg_none_of X G z_list, PySem.W.mg_none_of X G z_any, PySem.W.mg_none_of X G z_zip, PySem.W.mg_none_of X G z_reversed, PySem.W.mg_none_of X G z_max, PySem.W.mg_none_of X G z_isinstance, PySem.W.mg_none_of X G z_int, PySem.W.mg_none_of X G z_bool, PySem.W.mg_none_of X G z_abs, z_ib⟩
  have F1 := fun_mk (st := s_levels) l1 c1 k1
  have b1 := F1.binds (ps := ["trail"]) fun _ _ _ _ _ _ us hl => match us, hl with | [_], _ => rfl
  have m1 := PySem.W.mg_of X G a1
  have F2 := fun_mk (st := s_part_levels) l2 c2 k2
  have b2 := F2.binds (ps := ["trail"]) fun _ _ _ _ _ _ us hl => match us, hl with | [_], _ => rfl
  have m2 := PySem.W.mg_of X G a2
  have F3 := fun_mk (st := s_is_replaced) l3 c3 k3
  have b3 := F3.binds (ps := ["part", "why", "kept", "level_of", "last"]) fun _ _ _ _ _ _ us hl => match us, hl with | [_, _, _, _, _], _ => rfl
  have m3 := PySem.W.mg_of X G a3
  have F4 := fun_mk (st := s_learnt) l4 c4 k4
  have b4 := F4.binds (ps := ["rows", "trail", "fails"]) fun _ _ _ _ _ _ us hl => match us, hl with | [_, _, _], _ => rfl
  have m4 := PySem.W.mg_of X G a4
  have F5 := fun_mk (st := s__law_mix) l5 c5 k5
  have b5 := F5.binds (ps := ["_law_cell", "_law_k"]) fun _ _ _ _ _ _ us hl => match us, hl with | [_, _], _ => rfl
  have m5 := PySem.W.mg_of X G a5
  have F6 := fun_mk (st := s__law_whole) l6 c6 k6
  have b6 := F6.binds (ps := ["_law_found"]) fun _ _ _ _ _ _ us hl => match us, hl with | [_], _ => rfl
  have m6 := PySem.W.mg_of X G a6
  have F7 := fun_mk (st := s__law_cell_at) l7 c7 k7
  have b7 := F7.binds (ps := ["_law_script", "_law_k"]) fun _ _ _ _ _ _ us hl => match us, hl with | [_, _], _ => rfl
  have m7 := PySem.W.mg_of X G a7
  have F8 := fun_mk (st := s__law_sign) l8 c8 k8
  have b8 := F8.binds (ps := ["_law_first", "_law_atom"]) fun _ _ _ _ _ _ us hl => match us, hl with | [_, _], _ => rfl
  have m8 := PySem.W.mg_of X G a8
  have F9 := fun_mk (st := s__law_row) l9 c9 k9
  have b9 := F9.binds (ps := ["_law_cell", "_law_many_here"]) fun _ _ _ _ _ _ us hl => match us, hl with | [_, _], _ => rfl
  have m9 := PySem.W.mg_of X G a9
  have F10 := fun_mk (st := s__law_many) l10 c10 k10
  have b10 := F10.binds (ps := ["_law_script"]) fun _ _ _ _ _ _ us hl => match us, hl with | [_], _ => rfl
  have m10 := PySem.W.mg_of X G a10
  have F11 := fun_mk (st := s__law_long) l11 c11 k11
  have b11 := F11.binds (ps := ["_law_first", "_law_at"]) fun _ _ _ _ _ _ us hl => match us, hl with | [_, _], _ => rfl
  have m11 := PySem.W.mg_of X G a11
  have F12 := fun_mk (st := s__law_rows) l12 c12 k12
  have b12 := F12.binds (ps := ["_law_script", "_law_many_here"]) fun _ _ _ _ _ _ us hl => match us, hl with | [_, _], _ => rfl
  have m12 := PySem.W.mg_of X G a12
  have F13 := fun_mk (st := s__law_left) l13 c13 k13
  have b13 := F13.binds (ps := ["_law_row_here", "_law_held"]) fun _ _ _ _ _ _ us hl => match us, hl with | [_, _], _ => rfl
  have m13 := PySem.W.mg_of X G a13
  have F14 := fun_mk (st := s__law_force) l14 c14 k14
  have b14 := F14.binds (ps := ["_law_rows_here", "_law_trail"]) fun _ _ _ _ _ _ us hl => match us, hl with | [_, _], _ => rfl
  have m14 := PySem.W.mg_of X G a14
  have F15 := fun_mk (st := s__law_choose) l15 c15 k15
  have b15 := F15.binds (ps := ["_law_trail", "_law_many_here", "_law_first", "_law_number"]) fun _ _ _ _ _ _ us hl => match us, hl with | [_, _, _, _], _ => rfl
  have m15 := PySem.W.mg_of X G a15
  have F16 := fun_mk (st := s__law_play) l16 c16 k16
  have b16 := F16.binds (ps := ["_law_rows_here", "_law_many_here", "_law_cell", "_law_first"]) fun _ _ _ _ _ _ us hl => match us, hl with | [_, _, _, _], _ => rfl
  have m16 := PySem.W.mg_of X G a16
  have F17 := fun_mk (st := s__law_failing) l17 c17 k17
  have b17 := F17.binds (ps := ["_law_trail", "_law_cell"]) fun _ _ _ _ _ _ us hl => match us, hl with | [_, _], _ => rfl
  have m17 := PySem.W.mg_of X G a17
  have F18 := fun_mk (st := s__law_numbers) l18 c18 k18
  have b18 := F18.binds (ps := ["_law_found"]) fun _ _ _ _ _ _ us hl => match us, hl with | [_], _ => rfl
  have m18 := PySem.W.mg_of X G a18
  have F19 := fun_mk (st := s__law_form) l19 c19 k19
  have b19 := F19.binds (ps := ["_law_found"]) fun _ _ _ _ _ _ us hl => match us, hl with | [_], _ => rfl
  have m19 := PySem.W.mg_of X G a19
  have F20 := fun_mk (st := s__law_goes) l20 c20 k20
  have b20 := F20.binds (ps := ["_law_rows_here", "_law_parts", "_law_hints"]) fun _ _ _ _ _ _ us hl => match us, hl with | [_, _, _], _ => rfl
  have m20 := PySem.W.mg_of X G a20
  have F21 := fun_mk (st := s__law_places) l21 c21 k21
  have b21 := F21.binds (ps := ["_law_trail"]) fun _ _ _ _ _ _ us hl => match us, hl with | [_], _ => rfl
  have m21 := PySem.W.mg_of X G a21
  have F22 := fun_mk (st := s__law_cut) l22 c22 k22
  have b22 := F22.binds (ps := ["_law_trail", "_law_level"]) fun _ _ _ _ _ _ us hl => match us, hl with | [_, _], _ => rfl
  have m22 := PySem.W.mg_of X G a22
  have F23 := fun_mk (st := s__law_round) l23 c23 k23
  have b23 := F23.binds (ps := ["_law_rows_here", "_law_trail", "_law_fails"]) fun _ _ _ _ _ _ us hl => match us, hl with | [_, _, _], _ => rfl
  have m23 := PySem.W.mg_of X G a23
  have F24 := fun_mk (st := s__law_onward) l24 c24 k24
  have b24 := F24.binds (ps := ["_law_rows_here", "_law_trail", "_law_many_here", "_law_cell", "_law_first"]) fun _ _ _ _ _ _ us hl => match us, hl with | [_, _, _, _, _], _ => rfl
  have m24 := PySem.W.mg_of X G a24
  have F25 := fun_mk (st := s_law) l25 c25 k25
  refine ⟨PySem.W.fnOf "law" "law" (defArgs s_law) (defBody s_law) (defScope s_law) .none kV25 dc25 pm25 an25 cd25 ct25, fun s v => .of_eq rfl, fun base _ _ => ?_⟩
  have Blevels : FB l.prog w K mg base CX0 1 "levels" f1 _ ["trail"] (sp_levels K) := ⟨ok_levels F1, b1, k1, m1⟩
  have Bpart_levels : FB l.prog w K mg base CX0 2 "part_levels" f2 _ ["trail"] (sp_part_levels K) := ⟨ok_part_levels F2 T Blevels, b2, k2, m2⟩
  have Bis_replaced : FB l.prog w K mg base CX0 1 "is_replaced" f3 _ ["part", "why", "kept", "level_of", "last"] (sp_is_replaced K) := ⟨ok_is_replaced F3 T, b3, k3, m3⟩
  have Blearnt : FB l.prog w K mg base CX0 3 "learnt" f4 _ ["rows", "trail", "fails"] (sp_learnt K) := ⟨ok_learnt F4 T Bpart_levels Bis_replaced, b4, k4, m4⟩
  have B_law_mix : FB l.prog w K mg base CX0 1 "_law_mix" f5 _ ["_law_cell", "_law_k"] (sp_mix) := ⟨ok_mix F5, b5, k5, m5⟩
  have B_law_whole : FB l.prog w K mg base CX0 1 "_law_whole" f6 _ ["_law_found"] (sp_whole) := ⟨ok_whole F6 T, b6, k6, m6⟩
  have B_law_cell_at : FB l.prog w K mg base CX0 1 "_law_cell_at" f7 _ ["_law_script", "_law_k"] (sp_cell K) := ⟨ok_cell F7 T, b7, k7, m7⟩
  have B_law_sign : FB l.prog w K mg base CX0 1 "_law_sign" f8 _ ["_law_first", "_law_atom"] (sp_sign) := ⟨ok_sign F8, b8, k8, m8⟩
  have B_law_row : FB l.prog w K mg base CX0 2 "_law_row" f9 _ ["_law_cell", "_law_many_here"] (sp_row K) := ⟨ok_row F9 T B_law_mix, b9, k9, m9⟩
  have B_law_many : FB l.prog w K mg base CX0 2 "_law_many" f10 _ ["_law_script"] (sp_many K) := ⟨ok_many F10 B_law_cell_at, b10, k10, m10⟩
  have B_law_long : FB l.prog w K mg base CX0 2 "_law_long" f11 _ ["_law_first", "_law_at"] (sp_long K) := ⟨ok_long F11 T B_law_sign, b11, k11, m11⟩
  have B_law_rows : FB l.prog w K mg base CX0 3 "_law_rows" f12 _ ["_law_script", "_law_many_here"] (sp_rows K) := ⟨ok_rows F12 T B_law_row B_law_cell_at B_law_long, b12, k12, m12⟩
  have B_law_left : FB l.prog w K mg base CX0 1 "_law_left" f13 _ ["_law_row_here", "_law_held"] (sp_left K) := ⟨ok_left F13, b13, k13, m13⟩
  have B_law_force : FB l.prog w K mg base CX0 2 "_law_force" f14 _ ["_law_rows_here", "_law_trail"] (sp_force K) := ⟨ok_force F14 T B_law_left, b14, k14, m14⟩
  have B_law_choose : FB l.prog w K mg base CX0 2 "_law_choose" f15 _ ["_law_trail", "_law_many_here", "_law_first", "_law_number"] (sp_choose K) := ⟨ok_choose F15 T B_law_sign, b15, k15, m15⟩
  have B_law_play : FB l.prog w K mg base CX0 3 "_law_play" f16 _ ["_law_rows_here", "_law_many_here", "_law_cell", "_law_first"] (sp_play K) := ⟨ok_play F16 T B_law_mix B_law_force B_law_choose, b16, k16, m16⟩
  have B_law_failing : FB l.prog w K mg base CX0 2 "_law_failing" f17 _ ["_law_trail", "_law_cell"] (sp_failing K) := ⟨ok_failing F17 T B_law_mix, b17, k17, m17⟩
  have B_law_numbers : FB l.prog w K mg base CX0 2 "_law_numbers" f18 _ ["_law_found"] (sp_numbers K) := ⟨ok_numbers F18 T B_law_whole, b18, k18, m18⟩
  have B_law_form : FB l.prog w K mg base CX0 3 "_law_form" f19 _ ["_law_found"] (sp_form K) := ⟨ok_form F19 T B_law_whole B_law_numbers, b19, k19, m19⟩
  have B_law_goes : FB l.prog w K mg base CX0 2 "_law_goes" f20 _ ["_law_rows_here", "_law_parts", "_law_hints"] (sp_goes K) := ⟨ok_goes F20 T B_law_left, b20, k20, m20⟩
  have B_law_places : FB l.prog w K mg base CX0 1 "_law_places" f21 _ ["_law_trail"] (sp_places K) := ⟨ok_places F21 T, b21, k21, m21⟩
  have B_law_cut : FB l.prog w K mg base CX0 1 "_law_cut" f22 _ ["_law_trail", "_law_level"] (sp_cut K) := ⟨ok_cut F22 T, b22, k22, m22⟩
  have B_law_round : FB l.prog w K mg base CX0 4 "_law_round" f23 _ ["_law_rows_here", "_law_trail", "_law_fails"] (sp_round K) := ⟨ok_round F23 T Blearnt B_law_form B_law_goes B_law_cut B_law_left B_law_places, b23, k23, m23⟩
  have B_law_onward : FB l.prog w K mg base CX0 3 "_law_onward" f24 _ ["_law_rows_here", "_law_trail", "_law_many_here", "_law_cell", "_law_first"] (sp_onward K) := ⟨ok_onward F24 T B_law_mix B_law_force B_law_choose, b24, k24, m24⟩
  exact ok_law F25 T B_law_round B_law_cut B_law_onward B_law_many B_law_rows B_law_play B_law_cell_at B_law_failing
theorem walk {l : PySem.W.OpenLaw} {q : Program} {loose : List Str} {XP : (Str → Option Value) → Heap → Prop} {YP : World → Heap → Prop} {d : DefRec} {K : Params → PySem.W.Frag} (hn : l.most = some 63) (hdf : d.params.defaults = [])
    (hY : ∀ (w : World) (h : Heap), YP w h → (K w.params).In h)
    (F : ∀ (w : World) (mg : Str → Option Value) (fa : Addr) (h : Heap), (K w.params).In h → h.Ns mainGlobals mg → mg d.name = some (.ref fa) →
      ∃ fd : FuncData, (∀ (s : Shared) (u : Value), BindsTo s fd ⟨[u], []⟩ [("_law_script", u)]) ∧ ∀ base : Heap, (K w.params).In base → base.Ns mainGlobals mg → FnOk l.prog w (K w.params) mg base CX0 5 fa fd ["_law_script"] (sp_law (K w.params))) :
    PySem.W.WalkO q loose XP YP l.row.toRowW d [] (fun f vs => PySem.call f vs) :=
  L2.walk_of (n := 63) (k := 5) (x := "_law_script") (CX := fun _ => CX0) (sp := fun w => sp_law (K w.params)) hn (by decide) hdf ⟨rfl, by decide, by decide⟩ hY F (fun _ _ a ns hl _ hS => ⟨a, ns, rfl, hS, hl, fun _ => rfl⟩) fun _ _ _ _ _ z => z
end K45
open PySem PySem.W PyProof.Rows
set_option maxRecDepth 100000 in
set_option maxHeartbeats 0 in
theorem PySem.Challenge.cw_yesorno_k45_whole_rounds_holds : PySem.Challenge.rw_yesorno_k45_whole_rounds.Holds := by
  w_on; o_law; k_head; (case hw => w_witness2)
  k_fill
  refine K45.walk (l := PySem.Challenge.rw_yesorno_k45_whole_rounds) rfl rfl (fun w h Y => PySem.W.kIn_of Y) ?F
  case F =>
    intro w mg fa h KX G hmg
    refine' K45.all_mk KX G hmg ?a1 ?l1 ?c1 ?k1 ?a2 ?l2 ?c2 ?k2 ?a3 ?l3 ?c3 ?k3 ?a4 ?l4 ?c4 ?k4 ?a5 ?l5 ?c5 ?k5 ?a6 ?l6 ?c6 ?k6 ?a7 ?l7 ?c7 ?k7 ?a8 ?l8 ?c8 ?k8 ?a9 ?l9 ?c9 ?k9 ?a10 ?l10 ?c10 ?k10 ?a11 ?l11 ?c11 ?k11 ?a12 ?l12 ?c12 ?k12 ?a13 ?l13 ?c13 ?k13 ?a14 ?l14 ?c14 ?k14 ?a15 ?l15 ?c15 ?k15 ?a16 ?l16 ?c16 ?k16 ?a17 ?l17 ?c17 ?k17 ?a18 ?l18 ?c18 ?k18 ?a19 ?l19 ?c19 ?k19 ?a20 ?l20 ?c20 ?k20 ?a21 ?l21 ?c21 ?k21 ?a22 ?l22 ?c22 ?k22 ?a23 ?l23 ?c23 ?k23 ?a24 ?l24 ?c24 ?k24 ?a25 ?l25 ?c25 ?k25 ?z_len ?z_dict ?z_range ?z_tuple ?z_list ?z_any ?z_zip ?z_reversed ?z_max ?z_isinstance ?z_int ?z_bool ?z_abs ?z_ib
    (case a1 => k_is)
    (case l1 => k_is)
    (case c1 => k_is)
    (case k1 => k_is)
    (case a2 => k_is)
    (case l2 => k_is)
    (case c2 => k_is)
    (case k2 => k_is)
    (case a3 => k_is)
    (case l3 => k_is)
    (case c3 => k_is)
    (case k3 => k_is)
    (case a4 => k_is)
    (case l4 => k_is)
    (case c4 => k_is)
    (case k4 => k_is)
    (case a5 => k_is)
    (case l5 => k_is)
    (case c5 => k_is)
    (case k5 => k_is)
    (case a6 => k_is)
    (case l6 => k_is)
    (case c6 => k_is)
    (case k6 => k_is)
    (case a7 => k_is)
    (case l7 => k_is)
    (case c7 => k_is)
    (case k7 => k_is)
    (case a8 => k_is)
    (case l8 => k_is)
    (case c8 => k_is)
    (case k8 => k_is)
    (case a9 => k_is)
    (case l9 => k_is)
    (case c9 => k_is)
    (case k9 => k_is)
    (case a10 => k_is)
    (case l10 => k_is)
    (case c10 => k_is)
    (case k10 => k_is)
    (case a11 => k_is)
    (case l11 => k_is)
    (case c11 => k_is)
    (case k11 => k_is)
    (case a12 => k_is)
    (case l12 => k_is)
    (case c12 => k_is)
    (case k12 => k_is)
    (case a13 => k_is)
    (case l13 => k_is)
    (case c13 => k_is)
    (case k13 => k_is)
    (case a14 => k_is)
    (case l14 => k_is)
    (case c14 => k_is)
    (case k14 => k_is)
    (case a15 => k_is)
    (case l15 => k_is)
    (case c15 => k_is)
    (case k15 => k_is)
    (case a16 => k_is)
    (case l16 => k_is)
    (case c16 => k_is)
    (case k16 => k_is)
    (case a17 => k_is)
    (case l17 => k_is)
    (case c17 => k_is)
    (case k17 => k_is)
    (case a18 => k_is)
    (case l18 => k_is)
    (case c18 => k_is)
    (case k18 => k_is)
    (case a19 => k_is)
    (case l19 => k_is)
    (case c19 => k_is)
    (case k19 => k_is)
    (case a20 => k_is)
    (case l20 => k_is)
    (case c20 => k_is)
    (case k20 => k_is)
    (case a21 => k_is)
    (case l21 => k_is)
    (case c21 => k_is)
    (case k21 => k_is)
    (case a22 => k_is)
    (case l22 => k_is)
    (case c22 => k_is)
    (case k22 => k_is)
    (case a23 => k_is)
    (case l23 => k_is)
    (case c23 => k_is)
    (case k23 => k_is)
    (case a24 => k_is)
    (case l24 => k_is)
    (case c24 => k_is)
    (case k24 => k_is)
    (case a25 => k_is)
    (case l25 => k_is)
    (case c25 => k_is)
    (case k25 => k_is)
    (case z_len => k_is)
    (case z_dict => k_is)
    (case z_range => k_is)
    (case z_tuple => k_is)
    (case z_list => k_is)
    (case z_any => k_is)
    (case z_zip => k_is)
    (case z_reversed => k_is)
    (case z_max => k_is)
    (case z_isinstance => k_is)
    (case z_int => k_is)
    (case z_bool => k_is)
    (case z_abs => k_is)
    (case z_ib => kit_is)

