import PyProof.Rows.All
import Wide.All
import OpenK.AllK
import Wide.FinOn
import Lean
import PyProof.EqAt
import PyProof.EqKinds
import PyProof.TupleCall
import PySem.Challenge.RW_yesorno_k12_each_link_right
set_option Elab.async false
set_option linter.all false
set_option maxRecDepth 100000
/-! THE HAND LAYER, for ints, bools, texts, own classes, LISTS and tuples (index, slices, in, append, pop ..), calls, loops. Paste it whole ahead of your own text; what your proof does not reach may be deleted. -/
namespace L2
open PySem PySem.Spec PyProof.Rows

/-- a key: an int or a str -/
abbrev Key := Sum Int Str
def keyIs : Key → Value → Bool
  | .inl k, v => Value.isInt k v
  | .inr x, v => Value.isStrOf x v
def keyH (w : World) : Key → Int
  | .inl k => hashInt k
  | .inr x => hashStr w x
theorem keyIs_shape : ∀ {k : Key} {v : Value}, keyIs k v = true → (∃ i t, k = Sum.inl i ∧ v = Value.int i t) ∨ (∃ x t, k = Sum.inr x ∧ v = Value.str x t)
  | .inl i, v, h => by
    obtain ⟨t, e⟩ := Value.isInt_shape (k := i) (v := v) h
    exact .inl ⟨i, t, rfl, e⟩
  | .inr x, v, h => by
    obtain ⟨t, e⟩ := Value.isStrOf_shape (x := x) (v := v) h
    exact .inr ⟨x, t, rfl, e⟩
theorem keyIs_int (i : Int) (t : Tok) : keyIs (.inl i) (.int i t) = true := by simp [keyIs, Value.isInt]
theorem keyIs_str (x : Str) (t : Tok) : keyIs (.inr x) (.str x t) = true := by simp [keyIs, Value.isStrOf]
theorem key_ll (a b : Int) : decide ((Sum.inl a : Key) = Sum.inl b) = (a == b) := by
  by_cases e : a = b
  · subst e; simp
  · have h : ¬ (Sum.inl a : Key) = Sum.inl b := fun q => e (Sum.inl.inj q)
    rw [decide_eq_false h]
    exact (beq_eq_false_iff_ne.mpr e).symm
theorem key_rr (a b : Str) : decide ((Sum.inr a : Key) = Sum.inr b) = decide (a = b) := by
  by_cases e : a = b
  · subst e; simp
  · have h : ¬ (Sum.inr a : Key) = Sum.inr b := fun q => e (Sum.inr.inj q)
    rw [decide_eq_false h, decide_eq_false e]
theorem key_lr (a : Int) (b : Str) : decide ((Sum.inl a : Key) = Sum.inr b) = false := decide_eq_false (fun q => nomatch q)
theorem key_rl (a : Str) (b : Int) : decide ((Sum.inr a : Key) = Sum.inl b) = false := decide_eq_false (fun q => nomatch q)

def mixKind (prog : Program) (w : World) : PySem.KeyKind prog w Key where
  is := keyIs
  hash := keyH w
  inj := fun v a b ha hb => by
    rcases keyIs_shape ha with ⟨i, t, rfl, rfl⟩ | ⟨x, t, rfl, rfl⟩
    · rcases keyIs_shape hb with ⟨j, u, rfl, e⟩ | ⟨y, u, rfl, e⟩
      · injection e with e1 _; rw [e1]
      · exact nomatch e
    · rcases keyIs_shape hb with ⟨j, u, rfl, e⟩ | ⟨y, u, rfl, e⟩
      · exact nomatch e
      · injection e with e1 _; rw [e1]
  byValue := fun k v h => by
    rcases keyIs_shape h with ⟨i, t, rfl, rfl⟩ | ⟨x, t, rfl, rfl⟩ <;> rfl
  pyHash := fun hv h => by
    rcases keyIs_shape hv with ⟨i, t, rfl, rfl⟩ | ⟨x, t, rfl, rfl⟩
    · exact wpAny_pyHash_int h
    · exact wpAny_pyHash_str h
  eqBool := fun hu hv h => by
    rcases keyIs_shape hu with ⟨i, t, rfl, rfl⟩ | ⟨x, t, rfl, rfl⟩
    · rcases keyIs_shape hv with ⟨j, u, rfl, rfl⟩ | ⟨y, u, rfl, rfl⟩
      · rw [key_ll] at h; exact wpAny_eqBool_int h
      · rw [key_lr] at h; exact SeqAt.EqAt.int_str i t y u _ _ _ _ h
    · rcases keyIs_shape hv with ⟨j, u, rfl, rfl⟩ | ⟨y, u, rfl, rfl⟩
      · rw [key_rl] at h; exact SeqAt.EqAt.str_int x t j u _ _ _ _ h
      · rw [key_rr] at h; exact wpAny_eqBool_str h
  «strs» := fun k x t v h => by
    rcases keyIs_shape h with ⟨i, u, rfl, e⟩ | ⟨y, u, rfl, e⟩
    · exact nomatch e
    · injection e with e1 _
      subst e1
      cases v <;> rfl

theorem mixKind_int (prog : Program) (w : World) (i : Int) (t : Tok) : (mixKind prog w).is (.inl i) (.int i t) = true := keyIs_int i t
theorem mixKind_str (prog : Program) (w : World) (x : Str) (t : Tok) : (mixKind prog w).is (.inr x) (.str x t) = true := keyIs_str x t
end L2

namespace L2
open PySem PySem.Spec PyProof.Rows

/-- a value, without the heap -/
inductive V where
  | non | bl (b : Bool) | int (i : Int) | str (x : Str) | byt (b : Array UInt8) | flt (b : UInt64) | ref (a : Addr) | ty (n : String)
  deriving DecidableEq

def RelV : V → Value → Prop
  | .non, u => u = Value.none
  | .bl b, u => u = Value.bool b
  | .int i, u => ∃ t, u = Value.int i t
  | .str x, u => ∃ t, u = Value.str x t
  | .byt b, u => ∃ t, u = Value.bytes b t
  | .flt b, u => ∃ t, u = Value.float b t
  | .ref a, u => u = Value.ref a
  | .ty n, u => u = Value.type n

abbrev Vals : List V → List Value → Prop := Paired RelV
theorem Vals.length {xs : List V} {us : List Value} (r : Vals xs us) : xs.length = us.length := Paired.length r
theorem Vals.get : ∀ {xs : List V} {us : List Value} {i : Nat} {x : V}, Vals xs us → xs[i]? = some x → ∃ u, us[i]? = some u ∧ RelV x u
  | _, _, _, _, .nil, e => by simp at e
  | _, _, 0, _, .cons r _, e => by simp at e; subst e; exact ⟨_, rfl, r⟩
  | _, _, i + 1, x, .cons _ t, e => by
    obtain ⟨u, h1, h2⟩ := Vals.get (i := i) (x := x) t (by simpa using e)
    exact ⟨u, by simpa using h1, h2⟩
theorem Vals.set {x : V} {u : Value} (r : RelV x u) : ∀ {xs : List V} {us : List Value} (i : Nat), Vals xs us → Vals (xs.set i x) (us.set i u)
  | _, _, _, .nil => .nil
  | _, _, 0, .cons _ t => .cons r t
  | _, _, i + 1, .cons q t => .cons q (Vals.set r i t)
theorem Vals.append : ∀ {xs ys : List V} {us ws : List Value}, Vals xs us → Vals ys ws → Vals (xs ++ ys) (us ++ ws)
  | _, _, _, _, .nil, s => s
  | _, _, _, _, .cons r t, s => .cons r (Vals.append t s)
theorem Vals.take : ∀ {xs : List V} {us : List Value} (n : Nat), Vals xs us → Vals (xs.take n) (us.take n)
  | _, _, 0, _ => .nil
  | _, _, _ + 1, .nil => .nil
  | _, _, n + 1, .cons r t => .cons r (Vals.take n t)
theorem Vals.drop : ∀ {xs : List V} {us : List Value} (n : Nat), Vals xs us → Vals (xs.drop n) (us.drop n)
  | _, _, 0, r => r
  | _, _, _ + 1, .nil => .nil
  | _, _, n + 1, .cons _ t => Vals.drop n t
theorem Vals.none_of : ∀ {xs : List V} {us : List Value} {i : Nat}, Vals xs us → xs[i]? = none → us[i]? = none := fun {xs us i} r e => by
  have h1 := r.length
  have h2 : xs.length ≤ i := List.getElem?_eq_none_iff.mp e
  exact List.getElem?_eq_none_iff.mpr (by omega)

def RelO : Option V → Option Value → Prop
  | some v, some u => RelV v u
  | none, none => True
  | _, _ => False
def KV {κ : Type} : List (κ × V) → List (κ × Value) → Prop := Paired fun (p : κ × V) (q : κ × Value) => p.1 = q.1 ∧ RelV p.2 q.2

/-- a key of a dict (00_mix): an int or a text -/
def kV : Key → V
  | .inl i => .int i
  | .inr x => .str x

/-- what stands at a tracked address -/
inductive HO where
  /-- a list -/
  | lst (xs : List V)
  /-- a tuple (never changes) -/
  | tup (xs : List V)
  /-- a dict whose keys are ints and texts; one whose keys are tuples of ints and texts (the empty one is both) -/
  | dK (kvs : List (Key × V)) | dT (kvs : List (List Key × V))
  /-- a set of ints: its members, its size -/
  | set (S : Int → Bool) (n : Nat)
  /-- an instance of the class at C, its dict at dx, its attributes -/
  | ins (C dx : Addr) (fs : List (Str × V))
  /-- the dict of the instance at x -/
  | own (x : Addr)
  /-- the dict of an exception -/
  | xd (fs : List (Str × V))
  /-- a bound method, f of x -/
  | met (f x : Addr)
  /-- a range object lo, lo + 1, .. below hi -/
  | rng (lo hi : Int)
  /-- a thing that is known to the object (the script; a dict while a loop walks it): read, never written while it is so -/
  | frz (o : Obj) (u : HO)
  /-- a code object's table -/
  | tbl (ps : Array Value)
  /-- any other thing, by what is true of its one object (a def of one's own: SetO a S n := HO.ext fun h => ..) -/
  | ext (φ : Heap → Prop)

abbrev Hp := Addr → Option HO
def upd (H : Hp) (a : Addr) (o : HO) : Hp := fun b => if b = a then some o else H b
theorem upd_same {H : Hp} {a : Addr} {o : HO} : upd H a o a = some o := by unfold upd; rw [if_pos rfl]
theorem upd_ne {H : Hp} {a b : Addr} {o : HO} (h : b ≠ a) : upd H a o b = H b := by unfold upd; rw [if_neg h]
/-- two objects of different content stand apart -/
theorem ne_of {H : Hp} {a b : Addr} {o u : HO} (h : H a = some o) (h' : H b = some u) (d : o ≠ u) : a ≠ b := by
  intro e; subst e; rw [h] at h'; exact d (Option.some.inj h')
theorem ne_of_none {H : Hp} {a b : Addr} {o : HO} (h : H a = some o) (h' : H b = none) : a ≠ b := by
  intro e; subst e; rw [h] at h'; cases h'

section
variable (P : Program) (w : World)
def ObjOk (H : Hp) (h : Heap) (a : Addr) : HO → Prop
  | .lst xs => xs.length ≤ sizeLine ∧ ∃ (its : List Value) (n : Nat), Vals xs its ∧ h.get? a = some { cls := .type "list", data := .seq its.toArray n }
  | .tup xs => xs.length ≤ sizeLine ∧ ∃ its : List Value, Vals xs its ∧ IsTup h a its.toArray
  | .dK kvs => kvs.length ≤ sizeLine ∧ (a == sysModules) = false ∧ ∃ vs, KV kvs vs ∧ h.DictOf (mixKind P w) a vs
  | .dT kvs => kvs.length ≤ sizeLine ∧ (a == sysModules) = false ∧ ∃ xs : List (List Key × Addr × Value),
      Paired (fun (p : List Key × V) (q : List Key × Addr × Value) => p.1 = q.1 ∧ H q.2.1 = some (.tup (p.1.map kV)) ∧ RelV p.2 q.2.2) kvs xs ∧
      ∃ o es ep, h.get? a = some o ∧ o.ExactDict ∧ o.data = .dict es ep ∧ es.toList = xs.map (entryOfKey (tupleKind (mixKind P w))) ∧ (xs.map (·.1)).Nodup
  | .set S n => h.SetOf (intKind P w) a S n
  | .ins C dx fs => H dx = some (.own a) ∧ fs.length ≤ 1000 ∧ dx ≠ a ∧ h.get? a = some (PySem.W.instObj C dx) ∧
      ∃ mA, h.Ns1 dx mA ∧ (∀ f, RelO (fs.lookup f) (mA f)) ∧ PySem.Within mA (fs.map (·.1))
  | .own _ => ∃ o, h.get? a = some o
  | .xd fs => ∃ mA, h.Ns1 a mA ∧ ∀ f, RelO (fs.lookup f) (mA f)
  | .rng lo hi => ∃ t u v, h.get? a = some { cls := .type "range", data := .fields #[.int lo t, .int hi u, .int 1 v] }
  | .frz o u => h.get? a = some o ∧ ObjOk H h a u
  | .tbl ps => h.get? a = some { cls := .none, data := .fields ps }
  | .met f x => h.get? a = some (PySem.W.methodObj (.ref f) (.ref x))
  | .ext φ => φ h ∧ (∃ o, h.get? a = some o) ∧ ∀ h1 h2 : Heap, φ h1 → (∀ o, h1.get? a = some o → h2.get? a = some o) → φ h2
/-- the abstract heap is held -/
def HOk (H : Hp) (h : Heap) : Prop := ∀ a o, H a = some o → ObjOk P w H h a o
end

section
variable {P : Program} {w : World} {H H' : Hp} {h h' : Heap} {a : Addr} {o : HO}
theorem ObjOk.lt (x : ObjOk P w H h a o) : a < h.objs.size := by
  cases o with
  | lst xs => obtain ⟨_, _, _, _, e⟩ := x; exact Heap.lt_size e
  | tup xs => obtain ⟨_, _, _, p⟩ := x; exact p.lt
  | dK kvs => obtain ⟨_, _, _, _, o, _, _, e, _⟩ := x; exact Heap.lt_size e
  | dT kvs => obtain ⟨_, _, _, _, o, _, _, e, _⟩ := x; exact Heap.lt_size e
  | set S n => obtain ⟨o, _, _, _, e, _⟩ := x; exact Heap.lt_size e
  | ins C dx fs => obtain ⟨_, _, _, e, _⟩ := x; exact Heap.lt_size e
  | own y => obtain ⟨_, e⟩ := x; exact Heap.lt_size e
  | xd fs => obtain ⟨_, ⟨_, _, _, e, _⟩, _⟩ := x; exact Heap.lt_size e
  | rng lo hi => obtain ⟨_, _, _, e⟩ := x; exact Heap.lt_size e
  | frz ob u => obtain ⟨e, _⟩ := x; exact Heap.lt_size e
  | tbl ps => exact Heap.lt_size (show h.get? a = some _ from x)
  | met f y => exact Heap.lt_size (show h.get? a = some _ from x)
  | ext φ => obtain ⟨_, ⟨_, e⟩, _⟩ := x; exact Heap.lt_size e
theorem Paired.mapP {α β : Type} {F G : α → β → Prop} : ∀ {l₁ : List α} {l₂ : List β}, Paired F l₁ l₂ → (∀ a b, F a b → G a b) → Paired G l₁ l₂
  | _, _, .nil, _ => .nil
  | _, _, .cons r t, f => .cons (f _ _ r) (Paired.mapP t f)
/-- what an object's description leans on: its own object, its own dict, the tuples -/
theorem ObjOk.stay (x : ObjOk P w H h a o) (k : ∀ b u, (b = a ∨ H b = some (.own a)) → h.get? b = some u → h'.get? b = some u)
    (ho : ∀ b, H b = some (.own a) → H' b = some (.own a)) (ht : ∀ b xs, H b = some (.tup xs) → H' b = some (.tup xs)) : ObjOk P w H' h' a o := by
  induction o with
  | lst xs => obtain ⟨z, its, n, r, e⟩ := x; exact ⟨z, its, n, r, k _ _ (.inl rfl) e⟩
  | tup xs => obtain ⟨z, its, r, ob, e, c⟩ := x; exact ⟨z, its, r, ob, k _ _ (.inl rfl) e, c⟩
  | dK kvs => obtain ⟨z, y, vs, r, ob, es, ep, e, c⟩ := x; exact ⟨z, y, vs, r, ob, es, ep, k _ _ (.inl rfl) e, c⟩
  | dT kvs =>
    obtain ⟨z, y, xs, r, ob, es, ep, e, c⟩ := x
    exact ⟨z, y, xs, Paired.mapP r fun p q z => ⟨z.1, ht _ _ z.2.1, z.2.2⟩, ob, es, ep, k _ _ (.inl rfl) e, c⟩
  | set S n => obtain ⟨ob, es, ep, t, e, c⟩ := x; exact ⟨ob, es, ep, t, k _ _ (.inl rfl) e, c⟩
  | ins C dx fs =>
    obtain ⟨d, z, ne, e, mA, ⟨od, es, ep, e2, c⟩, r⟩ := x
    exact ⟨ho _ d, z, ne, k _ _ (.inl rfl) e, mA, ⟨od, es, ep, k _ _ (.inr d) e2, c⟩, r⟩
  | own y => obtain ⟨ob, e⟩ := x; exact ⟨ob, k _ _ (.inl rfl) e⟩
  | xd fs => obtain ⟨mA, ⟨od, es, ep, e, c⟩, r⟩ := x; exact ⟨mA, ⟨od, es, ep, k _ _ (.inl rfl) e, c⟩, r⟩
  | rng lo hi => obtain ⟨t, u, v, e⟩ := x; exact ⟨t, u, v, k _ _ (.inl rfl) e⟩
  | frz ob u ih => obtain ⟨e, q⟩ := x; exact ⟨k _ _ (.inl rfl) e, ih q⟩
  | tbl ps =>
    have e : h.get? a = some { cls := .none, data := .fields ps } := x
    show h'.get? a = some { cls := .none, data := .fields ps }
    exact k a _ (.inl rfl) e
  | met f y =>
    have e : h.get? a = some (PySem.W.methodObj (.ref f) (.ref y)) := x
    show h'.get? a = some (PySem.W.methodObj (.ref f) (.ref y))
    exact k a _ (.inl rfl) e
  | ext φ => obtain ⟨p, ⟨o, e⟩, st⟩ := x; exact ⟨st _ _ p fun o q => k _ _ (.inl rfl) q, ⟨o, k _ _ (.inl rfl) e⟩, st⟩
theorem HOk.lt (x : HOk P w H h) (e : H a = some o) : a < h.objs.size := (x a o e).lt
theorem HOk.fresh (x : HOk P w H h) (e : h.objs.size ≤ a) : H a = none := by
  cases q : H a with
  | none => rfl
  | some u => exact absurd (Nat.lt_of_lt_of_le (x.lt q) e) (Nat.lt_irrefl _)
/-- every object of the heap is kept -/
theorem HOk.kept (x : HOk P w H h) (k : ∀ b u, h.get? b = some u → h'.get? b = some u) : HOk P w H h' := fun a o e =>
  (x a o e).stay (fun b u _ q => k b u q) (fun _ q => q) fun _ _ q => q
/-- a new object is laid and tracked -/
theorem HOk.laid (x : HOk P w H h) (k : ∀ b u, h.get? b = some u → h'.get? b = some u) (hp : h.objs.size ≤ a) (new : ObjOk P w (upd H a o) h' a o) : HOk P w (upd H a o) h' := fun b u e => by
  have hn := x.fresh hp
  by_cases hb : b = a
  · subst hb; rw [upd_same] at e; cases e; exact new
  · rw [upd_ne hb] at e
    exact (x b u e).stay (fun c v _ q => k c v q) (fun c q => by rw [upd_ne (ne_of_none q hn)]; exact q) fun c xs q => by rw [upd_ne (ne_of_none q hn)]; exact q
end

/-- what may be read as u: it is u, or a known u -/
def Rd (H : Hp) (a : Addr) (u : HO) : Prop := H a = some u ∨ ∃ o, H a = some (.frz o u)
theorem Rd.of {H : Hp} {a : Addr} {u : HO} (h : H a = some u) : Rd H a u := .inl h
theorem Rd.ok {P : Program} {w : World} {H : Hp} {h : Heap} {a : Addr} {u : HO} (r : Rd H a u) (x : HOk P w H h) : ObjOk P w H h a u := by
  rcases r with r | ⟨o, r⟩
  · exact x a u r
  · obtain ⟨_, q⟩ := x a _ r
    exact q
/-- what may be written -/
def Mut : Option HO → Prop
  | some (.lst _) => True
  | some (.dK _) => True
  | some (.dT _) => True
  | some (.set _ _) => True
  | some (.ins _ _ _) => True
  | some (.ext _) => True
  | _ => False
section
variable {P : Program} {w : World} {H : Hp} {h h' : Heap} {x e : Addr} {o' : HO}
/-- the object at e is changed: x itself, or the dict of the instance x -/
theorem HOk.write (ok : HOk P w H h) (mu : Mut (H x)) (he : e = x ∨ H e = some (.own x)) (k : ∀ b u, b ≠ e → h.get? b = some u → h'.get? b = some u) (heo : ∃ u, h'.get? e = some u)
    (new : ObjOk P w (upd H x o') h' x o') : HOk P w (upd H x o') h' := fun b u q => by
  have nown : ∀ c y, H c = some (.own y) → c ≠ x := fun c y r z => by subst z; rw [r] at mu; exact mu
  have ntup : ∀ c xs, H c = some (.tup xs) → c ≠ x := fun c xs r z => by subst z; rw [r] at mu; exact mu
  by_cases hb : b = x
  · subst hb; rw [upd_same] at q; cases q; exact new
  · rw [upd_ne hb] at q
    by_cases hbe : b = e
    · have q' : H b = some (.own x) := by
        rcases he with z | z
        · exact absurd (hbe.trans z) hb
        · rw [hbe]; exact z
      rw [q] at q'; cases q'
      obtain ⟨v, hv⟩ := heo
      exact ⟨v, by rw [hbe]; exact hv⟩
    · refine (ok b u q).stay (fun c v hc r => k c v ?_ r) (fun c r => by rw [upd_ne (nown c b r)]; exact r) fun c xs r => by rw [upd_ne (ntup c xs r)]; exact r
      rcases hc with rfl | hc
      · exact hbe
      · rintro rfl
        rcases he with z | z
        · exact nown c b hc z
        · rw [hc] at z; cases z; exact hb rfl
end

/-! ### kept unless tracked; of the frames at fs (the callers') the slots may change (an exception that passes writes there); of the records at ex (iterators) nothing is said -/
structure Un (fs ex : List Addr) (H H' : Hp) (h h' : Heap) : Prop where
  keep : ∀ b o, h.get? b = some o → H b = none → b ∉ fs → b ∉ ex → h'.get? b = some o
  slot : ∀ b o, h.get? b = some o → H b = none → b ∈ fs → b ∉ ex → ∃ sl, h'.get? b = some { o with slots := sl }
  free : ∀ b o, h.get? b = some o → H b = none → b ∉ ex → H' b = none
  there : ∀ b o, h.get? b = some o → b ∉ ex → ∃ o', h'.get? b = some o'
  tups : ∀ b xs, H b = some (.tup xs) → H' b = some (.tup xs)
  frzs : ∀ b o u, H b = some (.frz o u) → H' b = some (.frz o u)
  tbls : ∀ b ps, H b = some (.tbl ps) → ∃ more, H' b = some (.tbl (ps ++ more))
section
variable {fs fs' ex ex' : List Addr} {H H1 H2 : Hp} {h h1 h2 h' : Heap} {a x e : Addr} {o : HO}
theorem Un.any (u : Un fs ex H H1 h h1) {b : Addr} {ob : Obj} (q : h.get? b = some ob) (n : H b = none) (hx : b ∉ ex) : ∃ sl, h1.get? b = some { ob with slots := sl } := by
  by_cases hb : b ∈ fs
  · exact u.slot b ob q n hb hx
  · exact ⟨ob.slots, u.keep b ob q n hb hx⟩
theorem Un.trans (a : Un fs ex H H1 h h1) (b : Un fs ex H1 H2 h1 h2) : Un fs ex H H2 h h2 where
  keep := fun c ob q n hc hx => b.keep c ob (a.keep c ob q n hc hx) (a.free c ob q n hx) hc hx
  slot := fun c ob q n hc hx => by
    obtain ⟨sl, e1⟩ := a.slot c ob q n hc hx
    obtain ⟨sl', e2⟩ := b.slot c _ e1 (a.free c ob q n hx) hc hx
    exact ⟨sl', e2⟩
  free := fun c ob q n hx => by
    obtain ⟨o', e1⟩ := a.there c ob q hx
    exact b.free c o' e1 (a.free c ob q n hx) hx
  there := fun c ob q hx => by
    obtain ⟨o', e1⟩ := a.there c ob q hx
    exact b.there c o' e1 hx
  tups := fun c xs q => b.tups c xs (a.tups c xs q)
  frzs := fun c ob xs q => b.frzs c ob xs (a.frzs c ob xs q)
  tbls := fun c ps q => by
    obtain ⟨m1, e1⟩ := a.tbls c ps q
    obtain ⟨m2, e2⟩ := b.tbls c _ e1
    exact ⟨m1 ++ m2, by rw [e2, Array.append_assoc]⟩
theorem Un.kept (k : ∀ b u, h.get? b = some u → h'.get? b = some u) : Un fs ex H H h h' :=
  ⟨fun b ob q _ _ _ => k b ob q, fun b ob q _ _ _ => ⟨ob.slots, k b ob q⟩, fun _ _ _ n _ => n, fun b ob q _ => ⟨ob, k b ob q⟩, fun _ _ q => q, fun _ _ _ q => q, fun _ ps q => ⟨#[], by rw [q]; simp⟩⟩
theorem Un.refl : Un fs ex H H h h := Un.kept fun _ _ q => q
theorem Un.laid (k : ∀ b u, h.get? b = some u → h'.get? b = some u) (hp : h.objs.size ≤ a) (hn : H a = none) : Un fs ex H (upd H a o) h h' where
  keep := fun b u q _ _ _ => k b u q
  slot := fun b u q _ _ _ => ⟨u.slots, k b u q⟩
  free := fun b u q n _ => by rw [upd_ne (Nat.ne_of_lt (Nat.lt_of_lt_of_le (Heap.lt_size q) hp))]; exact n
  there := fun b u q _ => ⟨u, k b u q⟩
  tups := fun b xs q => by rw [upd_ne (ne_of_none q hn)]; exact q
  frzs := fun b u xs q => by rw [upd_ne (ne_of_none q hn)]; exact q
  tbls := fun b ps q => ⟨#[], by rw [upd_ne (ne_of_none q hn), q]; simp⟩
theorem Un.write (mu : Mut (H x)) (he : e = x ∨ H e = some (.own x)) (k : ∀ b u, b ≠ e → h.get? b = some u → h'.get? b = some u) (heo : ∃ u, h'.get? e = some u) : Un fs ex H (upd H x o) h h' := by
  have hx : ∀ b, H b = none → b ≠ x := fun b n z => by subst z; rw [n] at mu; exact mu
  have hb : ∀ b, H b = none → b ≠ e := fun b n z => by
    subst z
    rcases he with r | r
    · exact hx b n r
    · rw [n] at r; cases r
  have hm : ∀ b u, H b = some u → ¬ Mut (some u) → b ≠ x := fun b u q nm z => by subst z; rw [q] at mu; exact nm mu
  refine ⟨fun b u q n _ _ => k b u (hb b n) q, fun b u q n _ _ => ⟨u.slots, k b u (hb b n) q⟩, fun b u q n _ => by rw [upd_ne (hx b n)]; exact n, fun b u q _ => ?_,
    fun b xs q => by rw [upd_ne (hm b _ q fun z => z)]; exact q, fun b u xs q => by rw [upd_ne (hm b _ q fun z => z)]; exact q, fun b ps q => ⟨#[], by rw [upd_ne (hm b _ q fun z => z), q]; simp⟩⟩
  by_cases hbe : b = e
  · subst hbe; exact heo
  · exact ⟨u, k b u hbe q⟩
theorem Un.mono (u : Un fs ex H H1 h h1) (hs : ∀ b ∈ fs, b ∈ fs') (hx : ∀ b ∈ ex, b ∈ ex') : Un fs' ex' H H1 h h1 :=
  ⟨fun b ob q n hb he => u.keep b ob q n (fun z => hb (hs b z)) fun z => he (hx b z), fun _ _ q n _ he => u.any q n fun z => he (hx _ z), fun b ob q n he => u.free b ob q n fun z => he (hx b z), fun b ob q he => u.there b ob q fun z => he (hx b z), u.tups, u.frzs, u.tbls⟩
end

/-! ### the heap without what is tracked -/
def trk (h : Heap) (H : Hp) : List Addr := (List.range h.objs.size).filter fun a => (H a).isSome
def hidT (h : Heap) (H : Hp) : Heap := PySem.W.hideAll h (trk h H)
theorem hidT_size (h : Heap) (H : Hp) : (hidT h H).objs.size = h.objs.size := PySem.W.hideAll_size _ _
theorem hidT_get {h : Heap} {H : Hp} {b : Addr} {o : Obj} (e : h.get? b = some o) (n : H b = none) : (hidT h H).get? b = some o :=
  PySem.W.hideAll_get _ e fun hm => by
    have q : (H b).isSome = true := (List.mem_filter.mp hm).2
    rw [n] at q; simp at q
theorem of_hidT {h : Heap} {H : Hp} {b : Addr} {o : Obj} (e : (hidT h H).get? b = some o) : h.get? b = some o ∧ H b = none := by
  have e' : h.get? b = some o := PySem.W.of_hideAll (trk h H) e
  refine ⟨e', ?_⟩
  cases q : H b with
  | none => rfl
  | some x =>
    have hm : b ∈ trk h H := List.mem_filter.mpr ⟨List.mem_range.mpr (Heap.lt_size e'), by simp [q]⟩
    have z : (hidT h H).get? b = none := PySem.W.hideAll_none (trk h H) hm
    rw [z] at e; cases e

/-! ### OpenK's ledger, filled with every new object but one -/
def allNews (g h : Heap) (L : Addr) : List (Addr × Obj) := (List.range h.objs.size).filterMap fun a => if a = L ∨ (g.get? a).isSome = true then none else (h.get? a).map fun o => (a, o)
def rest (g h : Heap) (L d : Addr) : List (Addr × Obj) := (allNews g h L).filter fun p => decide (p.1 ≠ d)
end L2

namespace L2
open PySem PySem.Spec PyProof.Rows

/-- the module's facts, over the base: the heap at the law's entry without what is tracked there -/
structure Mod (K : PySem.W.Frag) (mg : Str → Option Value) (base : Heap) : Prop where
  kin : K.In base
  glob : base.Ns mainGlobals mg
  blt : ∃ mb, base.Ns builtinsNs mb ∧ ∀ x : Str, x ≠ "__name__" → mb x = bootBuiltins x
  nolimit : base.NoLimit

/-- the context: a def's body (or a comprehension's block) running. base: fixed through the whole law; s₀, H₀: the entry; outer: the frames whose slots others may change (a def's callers); stack: all frames that run;
   ex: iterators that were made ahead of the entry and are walked here (a comprehension's); fn: the names whose cells were made at the entry (a def: all; a comprehension's block: its own); calm: not within an except suite; pn: pins that every state bears; xe: what is wanted of an exception that leaves the code -/
structure Cx where
  prog : Program
  w : World
  K : PySem.W.Frag
  mg : Str → Option Value
  base : Heap
  A : Around
  N : List Str
  s₀ : Shared
  H₀ : Hp
  env : Env
  outer : List Env
  stack : List Env
  ex : List Addr
  fn : Str → Bool
  calm : Bool
  pn : List (Addr × Obj)
  xe : Value → Shared → Prop
/-- the callers' frames -/
def frs (l : List Env) : List Addr := l.filterMap (·.frame)
abbrev Cx.fs (X : Cx) : List Addr := frs X.outer

def Vis (sc : Scope) (x : Str) : Prop := sc.names.lookup x = some .local ∨ sc.names.lookup x = some .cell ∨ sc.names.lookup x = some .free
def Loc (sc : Scope) (x : Str) : Prop := sc.names.lookup x = some .local ∨ sc.names.lookup x = some .cell
def Look (env : Env) (h : Heap) (m : Str → Option Value) (x : Str) (u : Value) : Prop :=
  (env.kindOf x = some .local ∧ m x = some u) ∨ ((env.kindOf x = some .cell ∨ env.kindOf x = some .free) ∧ ∃ c, env.cells.lookup x = some c ∧ h.IsCell c (some u))

structure Cx.Ok (X : Cx) : Prop where
  mod : Mod X.K X.mg X.base
  kind : X.env.scope.kind = .function
  glob : X.env.globals = mainGlobals
  blt : X.env.builtins = builtinsNs
  above : X.s₀.heap.objs.size ≤ X.env.locals
  inj : ∀ x y c, X.env.cells.lookup x = some c → X.env.cells.lookup y = some c → x = y
  has : ∀ x, (X.env.kindOf x = some .cell ∨ X.env.kindOf x = some .free) → ∃ c, X.env.cells.lookup x = some c
  cab : ∀ x c, X.fn x = true → X.env.cells.lookup x = some c → X.s₀.heap.objs.size ≤ c
  hd : X.calm = true → X.A.handled = none
  frames : X.A.frames = some X.stack
  stk : X.stack = X.outer ∨ (X.stack = X.env :: X.outer ∧ X.env.frame = some X.env.locals)
  exf : ∀ b ∈ X.ex, b ≠ X.env.locals ∧ ∀ x c, X.env.cells.lookup x = some c → c ≠ b
  bs : ∀ b o, X.base.get? b = some o → X.s₀.heap.get? b = some o ∧ X.H₀ b = none
  bsz : X.base.objs.size ≤ X.s₀.heap.objs.size
  noex : ∀ b o, X.base.get? b = some o → b ∉ X.ex
  exfs : ∀ b ∈ X.ex, b ∉ X.fs
  funs : X.s₀.heap.FunFrames X.base X.outer
  frf : ∀ b ∈ X.fs, X.H₀ b = none

structure Inv (X : Cx) (pins : List (Addr × Obj)) (σ : List (Option V)) (H : Hp) (s : Shared) : Prop where
  ok : X.Ok
  os : s.os = X.s₀.os
  bare : AllBare s.gens
  base : Un X.fs X.ex X.H₀ H X.s₀.heap s.heap
  loc : ∃ m, s.heap.Ns X.env.locals m ∧ ∀ (i : Nat) (x : Str) (v : V), X.N[i]? = some x → σ[i]? = some (some v) → Vis X.env.scope x → ∃ u, RelV v u ∧ Look X.env s.heap m x u
  cell : ∀ x c, X.env.cells.lookup x = some c → ∃ v, s.heap.IsCell c v
  free : H X.env.locals = none
  freeC : ∀ x c, X.env.cells.lookup x = some c → H c = none
  pin : ∀ p ∈ X.pn ++ pins, s.heap.get? p.1 = some p.2 ∧ H p.1 = none ∧ p.1 ≠ X.env.locals ∧ p.1 ∉ X.fs ∧ ∀ v, p.2.data ≠ .cell v
  hok : HOk X.prog X.w H s.heap
  len : σ.length = X.N.length

section
variable {X : Cx} {pins : List (Addr × Obj)} {σ : List (Option V)} {H H' : Hp} {s : Shared} {h' : Heap}

theorem Cx.Ok.nofr (ok : X.Ok) {b : Addr} {o : Obj} (e : X.base.get? b = some o) : b ∉ X.fs := fun hb => by
  have := (ok.funs.mem hb).1
  rw [e] at this; cases this
theorem Inv.bs (I : Inv X pins σ H s) : ∀ b o, X.base.get? b = some o → s.heap.get? b = some o ∧ H b = none := fun b o e =>
  ⟨I.base.keep b o (I.ok.bs b o e).1 (I.ok.bs b o e).2 (I.ok.nofr e) (I.ok.noex b o e), I.base.free b o (I.ok.bs b o e).1 (I.ok.bs b o e).2 (I.ok.noex b o e)⟩
theorem Inv.bk (I : Inv X pins σ H s) : ∀ b o, X.base.get? b = some o → s.heap.get? b = some o := fun b o e => (I.bs b o e).1
theorem Inv.mod (I : Inv X pins σ H s) : Mod X.K X.mg X.base := I.ok.mod
theorem Inv.kIn (I : Inv X pins σ H s) : X.K.In s.heap := I.ok.mod.kin.keeps I.bk
theorem Inv.nolimit (I : Inv X pins σ H s) : s.heap.NoLimit := I.ok.mod.nolimit.keeps I.bk
theorem Inv.lt (I : Inv X pins σ H s) : X.env.locals < s.heap.objs.size := let ⟨_, hn, _⟩ := I.loc; hn.lt
theorem Inv.sz (I : Inv X pins σ H s) : X.s₀.heap.objs.size ≤ s.heap.objs.size := Nat.le_trans I.ok.above (Nat.le_of_lt I.lt)
theorem Inv.nofs (I : Inv X pins σ H s) {a : Addr} (h : s.heap.objs.size ≤ a) : a ∉ X.fs := fun hb => by
  obtain ⟨_, o, ho, _⟩ := I.ok.funs.mem hb
  exact absurd (Nat.lt_of_lt_of_le (Heap.lt_size ho) (Nat.le_trans I.sz h)) (Nat.lt_irrefl _)
theorem Inv.cne (I : Inv X pins σ H s) : ∀ x c, X.env.cells.lookup x = some c → c ≠ X.env.locals := fun x c e z => by
  obtain ⟨v, o, ho, hd⟩ := I.cell x c e
  obtain ⟨m, ⟨o', es, ep, ho', hd', _⟩, _⟩ := I.loc
  rw [z, ho'] at ho; cases ho; rw [hd'] at hd; cases hd
theorem Inv.funs (I : Inv X pins σ H s) : s.heap.FunFrames X.base X.outer := by
  have all : ∀ (l : List Env), (∀ b ∈ frs l, b ∈ X.fs) → X.s₀.heap.FunFrames X.base l → s.heap.FunFrames X.base l := by
    intro l
    induction l with
    | nil => intro _ _; trivial
    | cons env r ih =>
      intro hs hl
      obtain ⟨hk, ⟨L, o, hf, hn, ho, hd⟩, hr⟩ := hl
      have hL : L ∈ X.fs := hs L (by unfold frs; rw [List.filterMap_cons, hf]; exact List.mem_cons_self)
      obtain ⟨sl, e⟩ := I.base.slot L o ho (I.ok.frf L hL) hL fun z => I.ok.exfs L z hL
      exact ⟨hk, ⟨L, _, hf, hn, e, hd⟩, ih (fun b hb => hs b (by unfold frs; rw [List.filterMap_cons, hf]; exact List.mem_cons_of_mem _ hb)) hr⟩
  exact all X.outer (fun _ hb => hb) I.ok.funs

/-- the frames that run, for a call -/
theorem Inv.stack (I : Inv X pins σ H s) : s.heap.FunFrames X.base X.stack := by
  rcases I.ok.stk with e | ⟨e, hf⟩
  · rw [e]; exact I.funs
  · rw [e]
    obtain ⟨m, hn, _⟩ := I.loc
    refine .cons (by rw [I.ok.kind]; decide) hf hn ?_ I.funs
    exact Heap.get?_none_of_le (Nat.le_trans I.ok.bsz I.ok.above)
theorem Inv.stkSub (I : Inv X pins σ H s) : ∀ b ∈ frs X.stack, b ∈ X.env.locals :: X.fs := fun b hb => by
  rcases I.ok.stk with e | ⟨e, hf⟩
  · rw [e] at hb; exact List.mem_cons_of_mem _ hb
  · rw [e] at hb
    unfold frs at hb
    rw [List.filterMap_cons, hf] at hb
    exact hb
theorem Inv.stkFree (I : Inv X pins σ H s) : ∀ b ∈ frs X.stack, H b = none := fun b hb => by
  rcases List.mem_cons.mp (I.stkSub b hb) with e | hb
  · rw [e]; exact I.free
  · obtain ⟨_, o, ho, _⟩ := I.ok.funs.mem hb
    exact I.base.free b o ho (I.ok.frf b hb) fun z => I.ok.exfs b z hb

/-- THE STEP: the untracked objects but the frame and the records at ch are kept (the callers' frames up to slots), the frame's map is kept, the new abstract heap is held -/
theorem Inv.step {g' : Array GenState} {t' : Nat} {d' : Drawn} {ch : List Addr} (I : Inv X pins σ H s)
    (hch : ∀ b ∈ ch, (b ∈ X.ex ∨ X.s₀.heap.objs.size ≤ b) ∧ b ≠ X.env.locals ∧ (∀ x c, X.env.cells.lookup x = some c → c ≠ b) ∧ ∀ p ∈ X.pn ++ pins, p.1 ≠ b)
    (keep : ∀ b o, b ≠ X.env.locals → b ∉ X.fs → b ∉ ch → s.heap.get? b = some o → H b = none → h'.get? b = some o)
    (slot : ∀ b o, b ≠ X.env.locals → b ∈ X.fs → b ∉ ch → s.heap.get? b = some o → H b = none → ∃ sl, h'.get? b = some { o with slots := sl }) (free : ∀ b o, b ∉ ch → s.heap.get? b = some o → H b = none → H' b = none)
    (there : ∀ b o, b ∉ ch → s.heap.get? b = some o → ∃ o', h'.get? b = some o')
    (tups : ∀ b xs, H b = some (.tup xs) → H' b = some (.tup xs)) (frzs : ∀ b o u, H b = some (.frz o u) → H' b = some (.frz o u)) (tbls : ∀ b ps, H b = some (.tbl ps) → ∃ more, H' b = some (.tbl (ps ++ more)))
    (ns : ∀ m, s.heap.Ns X.env.locals m → h'.Ns X.env.locals m) (hok : HOk X.prog X.w H' h') (hg : AllBare g') :
    Inv X pins σ H' { s with heap := h', gens := g', drawn := d', toks := t' } := by
  have neL : ∀ b o, X.s₀.heap.get? b = some o → b ≠ X.env.locals := fun b o e => Nat.ne_of_lt (Nat.lt_of_lt_of_le (Heap.lt_size e) I.ok.above)
  have neC : ∀ b o, X.s₀.heap.get? b = some o → b ∉ X.ex → b ∉ ch := fun b o e hx hb => by
    rcases (hch b hb).1 with z | z
    · exact hx z
    · exact absurd (Nat.lt_of_lt_of_le (Heap.lt_size e) z) (Nat.lt_irrefl _)
  have cellK : ∀ x c, X.env.cells.lookup x = some c → ∀ v, s.heap.IsCell c v → h'.IsCell c v := fun x c e v ⟨o, ho, hd⟩ => by
    have nch : c ∉ ch := fun z => (hch c z).2.2.1 x c e rfl
    by_cases hc : c ∈ X.fs
    · obtain ⟨sl, q⟩ := slot c o (I.cne x c e) hc nch ho (I.freeC x c e)
      exact ⟨_, q, hd⟩
    · exact ⟨o, keep c o (I.cne x c e) hc nch ho (I.freeC x c e), hd⟩
  refine ⟨I.ok, I.os, hg, ⟨fun b o e n hb hx => ?_, fun b o e n hb hx => ?_, fun b o e n hx => ?_, fun b o e hx => ?_, fun b xs e => tups b xs (I.base.tups b xs e), fun b o xs e => frzs b o xs (I.base.frzs b o xs e), fun b ps e => ?_⟩, ?_, fun x c e => ?_, ?_, fun x c e => ?_, fun p hp => ?_, hok, I.len⟩
  · exact keep b o (neL b o e) hb (neC b o e hx) (I.base.keep b o e n hb hx) (I.base.free b o e n hx)
  · obtain ⟨sl, e1⟩ := I.base.slot b o e n hb hx
    obtain ⟨sl', e2⟩ := slot b _ (neL b o e) hb (neC b o e hx) e1 (I.base.free b o e n hx)
    exact ⟨sl', e2⟩
  · obtain ⟨o', e1⟩ := I.base.there b o e hx
    exact free b o' (neC b o e hx) e1 (I.base.free b o e n hx)
  · obtain ⟨o', e1⟩ := I.base.there b o e hx
    exact there b o' (neC b o e hx) e1
  · obtain ⟨m1, e1⟩ := I.base.tbls b ps e
    obtain ⟨m2, e2⟩ := tbls b _ e1
    exact ⟨m1 ++ m2, by rw [e2, Array.append_assoc]⟩
  · obtain ⟨m, hn, hl⟩ := I.loc
    refine ⟨m, ns m hn, fun i x v e1 e2 e3 => ?_⟩
    obtain ⟨u, r, l⟩ := hl i x v e1 e2 e3
    refine ⟨u, r, ?_⟩
    rcases l with l | ⟨k, c, e, z⟩
    · exact .inl l
    · exact .inr ⟨k, c, e, cellK x c e _ z⟩
  · obtain ⟨v, z⟩ := I.cell x c e
    exact ⟨v, cellK x c e v z⟩
  · obtain ⟨m, ⟨o, _, _, ho, _⟩, _⟩ := I.loc
    exact free _ o (fun z => (hch _ z).2.1 rfl) ho I.free
  · obtain ⟨v, o, ho, hd⟩ := I.cell x c e
    exact free c o (fun z => (hch c z).2.2.1 x c e rfl) ho (I.freeC x c e)
  · obtain ⟨e, n, ne, nf, d⟩ := I.pin p hp
    have nch : p.1 ∉ ch := fun z => (hch p.1 z).2.2.2 p hp rfl
    exact ⟨keep p.1 p.2 ne nf nch e n, free p.1 p.2 nch e n, ne, nf, d⟩
/-- .. where the frame's own object is kept too -/
theorem Inv.un {t' : Nat} (I : Inv X pins σ H s) (u : Un X.fs [] H H' s.heap h') (hok : HOk X.prog X.w H' h') : Inv X pins σ H' { s with heap := h', toks := t' } := by
  obtain ⟨m, ⟨o, es, ep, ho, r⟩, _⟩ := id I.loc
  obtain ⟨sl, hL⟩ := u.any ho I.free (by simp)
  exact I.step (g' := s.gens) (d' := s.drawn) (ch := []) (fun _ z => nomatch z) (fun b o _ hb _ e n => u.keep b o e n hb (by simp)) (fun b o _ hb _ e n => u.slot b o e n hb (by simp)) (fun b o _ e n => u.free b o e n (by simp)) (fun b o _ e => u.there b o e (by simp)) u.tups u.frzs u.tbls (fun m' hm => by
    obtain ⟨o', es', ep', ho', r'⟩ := hm
    rw [ho] at ho'; cases ho'
    exact ⟨_, es', ep', hL, r'⟩) hok I.bare
/-- behind a call (or a comprehension's block): the slots of this frame may have changed too, the records at ch may have turned -/
theorem Inv.call {g' : Array GenState} {t' : Nat} {d' : Drawn} {ch : List Addr} (I : Inv X pins σ H s) (u : Un (frs X.stack) ch H H' s.heap h') (hok : HOk X.prog X.w H' h') (hg : AllBare g')
    (hch : ∀ b ∈ ch, (b ∈ X.ex ∨ X.s₀.heap.objs.size ≤ b) ∧ b ≠ X.env.locals ∧ (∀ x c, X.env.cells.lookup x = some c → c ≠ b) ∧ ∀ p ∈ X.pn ++ pins, p.1 ≠ b) :
    Inv X pins σ H' { s with heap := h', gens := g', drawn := d', toks := t' } := by
  obtain ⟨m, ⟨o, es, ep, ho, r⟩, _⟩ := id I.loc
  obtain ⟨sl, hL⟩ := u.any ho I.free fun z => (hch _ z).2.1 rfl
  exact I.step (ch := ch) hch (fun b o hL hb hc e n => u.keep b o e n (fun z => (List.mem_cons.mp (I.stkSub b z)).elim hL hb) hc) (fun b o _ _ hc e n => u.any e n hc) (fun b o hc e n => u.free b o e n hc) (fun b o hc e => u.there b o e hc) u.tups u.frzs u.tbls (fun m' hm => by
    obtain ⟨o', es', ep', ho', r'⟩ := hm
    rw [ho] at ho'; cases ho'
    exact ⟨_, es', ep', hL, r'⟩) hok hg
/-- an untracked record of ours (an iterator) has turned -/
theorem Inv.turned {t' : Nat} {it : Addr} (I : Inv X pins σ H s) (k : ∀ b o, b ≠ it → s.heap.get? b = some o → h'.get? b = some o) (hn : H it = none) (hL : it ≠ X.env.locals)
    (h1 : it ∈ X.ex ∨ X.s₀.heap.objs.size ≤ it) (h2 : ∀ x c, X.env.cells.lookup x = some c → c ≠ it) (h3 : ∀ p ∈ X.pn ++ pins, p.1 ≠ it) : Inv X pins σ H { s with heap := h', toks := t' } := by
  have nit : ∀ b u, H b = some u → b ≠ it := fun b u e z => by rw [z, hn] at e; cases e
  refine I.step (g' := s.gens) (d' := s.drawn) (ch := [it]) (fun b hb => ?_) (fun b o _ _ hc e _ => k b o (fun z => hc (by simp [z])) e) (fun b o _ _ hc e _ => ⟨o.slots, k b o (fun z => hc (by simp [z])) e⟩) (fun _ _ _ _ n => n)
    (fun b o hc e => ⟨o, k b o (fun z => hc (by simp [z])) e⟩) (fun _ _ e => e) (fun _ _ _ e => e) (fun b ps e => ⟨#[], by rw [e]; simp⟩) (fun m hm => ?_) (fun b u e => ?_) I.bare
  · have e : b = it := by simpa using hb
    subst e
    exact ⟨h1, hL, h2, h3⟩
  · obtain ⟨o, es, ep, ho, r⟩ := hm
    exact ⟨o, es, ep, k _ o (Ne.symm hL) ho, r⟩
  · refine (I.hok b u e).stay (fun c v hc q => k c v ?_ q) (fun _ q => q) fun _ _ q => q
    rcases hc with z | z
    · rw [z]; exact nit b u e
    · exact nit c _ z
theorem Inv.tok (I : Inv X pins σ H s) (t : Nat) : Inv X pins σ H { s with toks := t } := I.un (h' := s.heap) (t' := t) Un.refl I.hok
/-- all objects kept -/
theorem Inv.kept {t' : Nat} (I : Inv X pins σ H s) (k : ∀ b u, s.heap.get? b = some u → h'.get? b = some u) : Inv X pins σ H { s with heap := h', toks := t' } := I.un (Un.kept k) (I.hok.kept k)
/-- a new object laid and tracked -/
theorem Inv.laid {a : Addr} {o : HO} {t' : Nat} (I : Inv X pins σ H s) (k : ∀ b u, s.heap.get? b = some u → h'.get? b = some u) (hp : s.heap.objs.size ≤ a) (new : ObjOk X.prog X.w (upd H a o) h' a o) :
    Inv X pins σ (upd H a o) { s with heap := h', toks := t' } := I.un (Un.laid k hp (I.hok.fresh hp)) (I.hok.laid k hp new)
/-- an object written -/
theorem Inv.write {x e : Addr} {o : HO} {t' : Nat} (I : Inv X pins σ H s) (mu : Mut (H x)) (he : e = x ∨ H e = some (.own x)) (k : ∀ b u, b ≠ e → s.heap.get? b = some u → h'.get? b = some u) (heo : ∃ u, h'.get? e = some u)
    (new : ObjOk X.prog X.w (upd H x o) h' x o) : Inv X pins σ (upd H x o) { s with heap := h', toks := t' } := I.un (Un.write mu he k heo) (I.hok.write mu he k heo new)
theorem Inv.pins_of {pins' : List (Addr × Obj)} (I : Inv X pins σ H s) (h : ∀ p ∈ pins', s.heap.get? p.1 = some p.2 ∧ H p.1 = none ∧ p.1 ≠ X.env.locals ∧ p.1 ∉ X.fs ∧ ∀ v, p.2.data ≠ .cell v) : Inv X pins' σ H s :=
  ⟨I.ok, I.os, I.bare, I.base, I.loc, I.cell, I.free, I.freeC, fun p hp => (List.mem_append.mp hp).elim (fun z => I.pin p (List.mem_append_left _ z)) (h p), I.hok, I.len⟩

theorem nodup_ix {N : List Str} (hN : N.Nodup) {i j : Nat} {x : Str} (a : N[i]? = some x) (b : N[j]? = some x) : i = j := by
  obtain ⟨h1, e1⟩ := List.getElem?_eq_some_iff.mp a
  obtain ⟨h2, e2⟩ := List.getElem?_eq_some_iff.mp b
  exact (List.getElem_inj hN).mp (e1.trans e2.symm)

/-- a name is stored; what changed -/
theorem store_ok2 {M : Model} {A : Around} {E : Value → Shared → Prop} {i : Nat} {x : Str} {v : V} {u : Value} {Q : Unit → Shared → Prop} (I : Inv X pins σ H s) (hN : X.N.Nodup) (hi : X.N[i]? = some x) (hx : Loc X.env.scope x) (r : RelV v u)
    (h : ∀ s', Inv X pins (σ.set i (some v)) H s' → (∃ a, Heap.SameBut a s.heap s'.heap ∧ (a = X.env.locals ∨ X.env.cells.lookup x = some a)) → Q () s') (hf : X.fn x = true ∨ X.env.scope.names.lookup x = some .local := by first | exact .inl rfl | exact .inr rfl | assumption) : wpAny M A (storeName X.env x u) Q E s := by
  obtain ⟨m, hn, hl⟩ := id I.loc
  have hcls : (X.env.scope.kind == .class || (X.env.scope.kind == .module && X.env.locals != X.env.globals)) = false := by rw [I.ok.kind]; rfl
  have hiσ : i < σ.length := by rw [I.len]; exact (List.getElem?_eq_some_iff.mp hi).1
  have cne := I.cne
  have tracked : ∀ {a : Addr} {h' : Heap}, (∃ o, s.heap.get? a = some o ∧ H a = none) → Heap.SameBut a s.heap h' → HOk X.prog X.w H h' := fun {a h'} ha hs b ob e => by
    obtain ⟨_, _, hfree⟩ := ha
    refine (I.hok b ob e).stay (fun c w' hc q => (hs.2 c ?_).trans q) (fun _ q => q) fun _ _ q => q
    rintro rfl
    rcases hc with rfl | hc
    · rw [hfree] at e; cases e
    · rw [hfree] at hc; cases hc
  rcases hx with hk | hk
  · refine wpAny_storeName_local hk hn (fun h' hn' hs => ?_) hcls
    obtain ⟨oL, _, _, hoL, _⟩ := id hn
    refine h _ ⟨I.ok, I.os, I.bare, ⟨fun b o e n hb hx => ?_, fun b o e n hb hx => ?_, I.base.free, fun b o e hx => ?_, I.base.tups, I.base.frzs, I.base.tbls⟩, ⟨_, hn', fun j y v' e1 e2 e3 => ?_⟩, fun y c e => ?_, I.free, I.freeC, fun p hp => ?_, tracked ⟨oL, hoL, I.free⟩ hs, by simpa using I.len⟩ ⟨_, hs, .inl rfl⟩
    · exact (hs.2 b (Nat.ne_of_lt (Nat.lt_of_lt_of_le (Heap.lt_size e) I.ok.above))).trans (I.base.keep b o e n hb hx)
    · obtain ⟨sl, e1⟩ := I.base.slot b o e n hb hx
      exact ⟨sl, (hs.2 b (Nat.ne_of_lt (Nat.lt_of_lt_of_le (Heap.lt_size e) I.ok.above))).trans e1⟩
    · obtain ⟨o', e1⟩ := I.base.there b o e hx
      exact ⟨o', (hs.2 b (Nat.ne_of_lt (Nat.lt_of_lt_of_le (Heap.lt_size e) I.ok.above))).trans e1⟩
    · by_cases hj : j = i
      · subst hj
        rw [hi] at e1; cases e1
        rw [List.getElem?_set_self hiσ] at e2
        cases e2
        exact ⟨u, r, .inl ⟨hk, by simp⟩⟩
      · rw [List.getElem?_set_ne (Ne.symm hj)] at e2
        obtain ⟨u', r', q⟩ := hl j y v' e1 e2 e3
        refine ⟨u', r', ?_⟩
        rcases q with ⟨k, e⟩ | ⟨k, c, e, z⟩
        · refine .inl ⟨k, ?_⟩
          have : y ≠ x := fun e => hj (nodup_ix hN e1 (e ▸ hi))
          simp [this, e]
        · exact .inr ⟨k, c, e, z.sameBut hs (cne y c e)⟩
    · obtain ⟨w', z⟩ := I.cell y c e
      exact ⟨w', z.sameBut hs (cne y c e)⟩
    · obtain ⟨e, n, ne, nf, d⟩ := I.pin p hp
      exact ⟨(hs.2 p.1 ne).trans e, n, ne, nf, d⟩
  · have hfn : X.fn x = true := by
      rcases hf with z | z
      · exact z
      · rw [z] at hk; cases hk
    obtain ⟨c, hc⟩ := I.ok.has x (.inl hk)
    obtain ⟨w', z⟩ := I.cell x c hc
    refine wpAny_storeName_cell I.ok.kind hk hc z (fun h' hc' hs => ?_)
    obtain ⟨oc, hoc, hocd⟩ := id z
    refine h { s with heap := h' } ⟨I.ok, I.os, I.bare, ⟨fun b o e n hb hx => ?_, fun b o e n hb hx => ?_, I.base.free, fun b o e hx => ?_, I.base.tups, I.base.frzs, I.base.tbls⟩, ⟨m, hn.sameBut hs (Ne.symm (cne x c hc)), fun j y v' e1 e2 e3 => ?_⟩, fun y c' e => ?_, I.free, I.freeC, fun p hp => ?_, tracked ⟨oc, hoc, I.freeC x c hc⟩ hs, by simpa using I.len⟩ ⟨c, hs, .inr hc⟩
    · exact (hs.2 b (Nat.ne_of_lt (Nat.lt_of_lt_of_le (Heap.lt_size e) (I.ok.cab x c hfn hc)))).trans (I.base.keep b o e n hb hx)
    · obtain ⟨sl, e1⟩ := I.base.slot b o e n hb hx
      exact ⟨sl, (hs.2 b (Nat.ne_of_lt (Nat.lt_of_lt_of_le (Heap.lt_size e) (I.ok.cab x c hfn hc)))).trans e1⟩
    · obtain ⟨o', e1⟩ := I.base.there b o e hx
      exact ⟨o', (hs.2 b (Nat.ne_of_lt (Nat.lt_of_lt_of_le (Heap.lt_size e) (I.ok.cab x c hfn hc)))).trans e1⟩
    · by_cases hj : j = i
      · subst hj
        rw [hi] at e1; cases e1
        rw [List.getElem?_set_self hiσ] at e2
        cases e2
        exact ⟨u, r, .inr ⟨.inl hk, c, hc, hc'⟩⟩
      · rw [List.getElem?_set_ne (Ne.symm hj)] at e2
        obtain ⟨u', r', q⟩ := hl j y v' e1 e2 e3
        refine ⟨u', r', ?_⟩
        rcases q with q | ⟨k, c', e, z'⟩
        · exact .inl q
        · refine .inr ⟨k, c', e, z'.sameBut hs ?_⟩
          rintro rfl
          exact hj (nodup_ix hN e1 (I.ok.inj _ _ _ e hc ▸ hi))
    · by_cases hcc : c' = c
      · subst hcc; exact ⟨_, hc'⟩
      · obtain ⟨w2, z2⟩ := I.cell y c' e
        exact ⟨w2, z2.sameBut hs hcc⟩
    · obtain ⟨e, n, ne, nf, d⟩ := I.pin p hp
      refine ⟨(hs.2 p.1 ?_).trans e, n, ne, nf, d⟩
      intro q
      rw [q, hoc] at e
      have q' : oc = p.2 := Option.some.inj e
      exact d w' (by rw [← q']; exact hocd)
theorem store_ok {M : Model} {A : Around} {E : Value → Shared → Prop} {i : Nat} {x : Str} {v : V} {u : Value} {Q : Unit → Shared → Prop} (I : Inv X pins σ H s) (hN : X.N.Nodup) (hi : X.N[i]? = some x) (hx : Loc X.env.scope x) (r : RelV v u)
    (h : ∀ s', Inv X pins (σ.set i (some v)) H s' → Q () s') (hf : X.fn x = true ∨ X.env.scope.names.lookup x = some .local := by first | exact .inl rfl | exact .inr rfl | assumption) : wpAny M A (storeName X.env x u) Q E s :=
  store_ok2 I hN hi hx r (fun s' I' _ => h s' I') hf
/-- behind a call or a block, the state as it is -/
theorem Inv.call' {s' : Shared} {ch : List Addr} (I : Inv X pins σ H s) (ho : s'.os = s.os) (u : Un (frs X.stack) ch H H' s.heap s'.heap) (hok : HOk X.prog X.w H' s'.heap) (hg : AllBare s'.gens)
    (hch : ∀ b ∈ ch, (b ∈ X.ex ∨ X.s₀.heap.objs.size ≤ b) ∧ b ≠ X.env.locals ∧ (∀ x c, X.env.cells.lookup x = some c → c ≠ b) ∧ ∀ p ∈ X.pn ++ pins, p.1 ≠ b) : Inv X pins σ H' s' := by
  obtain ⟨h', g', d', t', o'⟩ := s'
  have e : o' = s.os := ho
  subst e
  exact I.call (g' := g') (t' := t') (d' := d') u hok hg hch
end

/-! ### the judgements -/
/-- an exception: its class, its own dict's address (where it has one), the abstract heap behind it -/
abbrev XK := Value → Option Addr → Hp → Prop
abbrev St := List (Option V)
abbrev VK := V → Hp → Prop
/-- an expression's reading; a test's; an argument list's -/
abbrev TE := St → Hp → VK → Prop
abbrev TT := St → Hp → (Bool → Hp → Prop) → Prop
abbrev TA := St → Hp → (List V → Hp → Prop) → Prop
/-- what is wanted behind a statement -/
structure Ends where
  nx : St → Hp → Prop
  rt : VK
  bk : St → Hp → Prop := fun _ _ => False
  ct : St → Hp → Prop := fun _ _ => False
abbrev TS := Ends → St → Hp → Prop

def EP (X : Cx) (pins : List (Addr × Obj)) (σ : St) (Q : VK) (u : Value) (s' : Shared) : Prop := ∃ v H', Inv X pins σ H' s' ∧ RelV v u ∧ Q v H'
def TP (X : Cx) (pins : List (Addr × Obj)) (σ : St) (Q : Bool → Hp → Prop) (b : Bool) (s' : Shared) : Prop := ∃ H', Inv X pins σ H' s' ∧ Q b H'
def AP (X : Cx) (pins : List (Addr × Obj)) (σ : St) (Q : List V → Hp → Prop) (us : List Value) (s' : Shared) : Prop := ∃ vs H', Inv X pins σ H' s' ∧ Vals vs us ∧ Q vs H'
def SP (X : Cx) (pins : List (Addr × Obj)) (D : Ends) (f : Flow) (s' : Shared) : Prop :=
  match f with
  | .next => ∃ σ' H', Inv X pins σ' H' s' ∧ D.nx σ' H'
  | .brk => ∃ σ' H', Inv X pins σ' H' s' ∧ D.bk σ' H'
  | .cont => ∃ σ' H', Inv X pins σ' H' s' ∧ D.ct σ' H'
  | .ret u => ∃ v σ' H', Inv X pins σ' H' s' ∧ RelV v u ∧ D.rt v H'

def PE (X : Cx) (e : Expr) (t : TE) : Prop :=
  ∀ (pins : List (Addr × Obj)) (s : Shared) (σ : St) (H : Hp) (Q : VK), Inv X pins σ H s → t σ H Q → wpAny (model X.prog X.w) X.A (eval e X.env) (EP X pins σ Q) X.xe s
def PT (X : Cx) (e : Expr) (t : TT) : Prop :=
  ∀ (pins : List (Addr × Obj)) (s : Shared) (σ : St) (H : Hp) (Q : Bool → Hp → Prop), Inv X pins σ H s → t σ H Q → wpAny (model X.prog X.w) X.A (isTrue e X.env (eval e X.env)) (TP X pins σ Q) X.xe s
/-- a test whatever its 'whole' is (and, or) -/
def PW (X : Cx) (e : Expr) (t : TT) : Prop :=
  ∀ (whole : Sem Value) (pins : List (Addr × Obj)) (s : Shared) (σ : St) (H : Hp) (Q : Bool → Hp → Prop), Inv X pins σ H s → t σ H Q → wpAny (model X.prog X.w) X.A (isTrue e X.env whole) (TP X pins σ Q) X.xe s
theorem PW.pt {X : Cx} {e : Expr} {t : TT} (h : PW X e t) : PT X e t := h _
/-- an argument list (no star), from the left -/
def PA (X : Cx) (es : List Expr) (t : TA) : Prop :=
  ∀ (pos : Pos) (pins : List (Addr × Obj)) (s : Shared) (σ : St) (H : Hp) (Q : List V → Hp → Prop), Inv X pins σ H s → t σ H Q → wpAny (model X.prog X.w) X.A (spliced (backTo pos (starEach es X.env))) (AP X pins σ Q) X.xe s
def PS (X : Cx) (st : Stmt) (t : TS) : Prop :=
  ∀ (pins : List (Addr × Obj)) (s : Shared) (σ : St) (H : Hp) (D : Ends), Inv X pins σ H s → t D σ H → wpAny (model X.prog X.w) X.A (exec st X.env) (SP X pins D) X.xe s
def PSs (X : Cx) (st : List Stmt) (t : TS) : Prop :=
  ∀ (pins : List (Addr × Obj)) (s : Shared) (σ : St) (H : Hp) (D : Ends), Inv X pins σ H s → t D σ H → wpAny (model X.prog X.w) X.A (execs st X.env) (SP X pins D) X.xe s
/-- weaken the end -/
theorem thn {α : Type} {t : Sem α} {Q Q' : α → Shared → Prop} {M : Model} {A : Around} {E : Value → Shared → Prop} {s : Shared} (h : wpAny M A t Q E s) (hQ : ∀ a s, Q a s → Q' a s) : wpAny M A t Q' E s := wpAny_mono h hQ fun _ _ x => x
end L2

namespace L2
open PySem PySem.Spec PyProof.Rows
section
variable {X : Cx}

/-! ### names and constants -/
def tVar (i : Nat) : TE := fun σ H Q => ∃ v, σ[i]? = some (some v) ∧ Q v H
def tC (v : V) : TE := fun _ H Q => Q v H
theorem pe_var {i : Nat} {x : Str} {pos : Pos} (hN : X.N[i]? = some x) (hv : Vis X.env.scope x) (hd : (x == ("__debug__" : Str)) = false := by decide) (hcd : (x == ("__classdict__" : Str)) = false := by decide) : PE X (.Name x pos) (tVar i) := by
  intro pins s σ H Q I h
  obtain ⟨v, e, h⟩ := h
  obtain ⟨m, hn, hl⟩ := I.loc
  obtain ⟨u, r, l⟩ := hl i x v hN e hv
  have fin : EP X pins σ Q u s := ⟨v, H, I, r, h⟩
  rcases l with ⟨hk, hm⟩ | ⟨hk, c, hc, hcell⟩
  · exact wpAny_Name (wpAny_loadName_local I.ok.kind hk hn hm fin) hd
  · rcases hk with hk | hk
    · exact wpAny_Name (wpAny_loadName_cell I.ok.kind hk hc hcell fin) hd
    · exact wpAny_Name (wpAny_loadName_free I.ok.kind hk hc hcell fin hcd) hd
theorem pe_int {i j pos} : PE X (.Constant (.int i) j pos) (tC (.int i)) := fun _ _ _ H _ I h => wpAny_Constant_int ⟨.int i, H, I.tok _, ⟨_, rfl⟩, h⟩
theorem pe_bl {b j pos} : PE X (.Constant (.bool b) j pos) (tC (.bl b)) := fun _ _ _ H _ I h => Constant_bool ⟨.bl b, H, I, rfl, h⟩
theorem pe_str {x j pos} : PE X (.Constant (.str x) j pos) (tC (.str x)) := fun _ _ _ H _ I h => Calls.Constant_str ⟨.str x, H, I.tok _, ⟨_, rfl⟩, h⟩

/-- a global name of the def -/
def Gl (X : Cx) (x : Str) : Prop := X.env.kindOf x = some .globalImplicit
theorem ld_glob {E : Value → Shared → Prop} {pins : List (Addr × Obj)} {s : Shared} {σ : St} {H : Hp} {x : Str} {u : Value} {pos : Pos} {Q : Value → Shared → Prop} (I : Inv X pins σ H s) (hg : Gl X x) (hm : X.mg x = some u) (h : Q u s)
    (hd : (x == ("__debug__" : Str)) = false := by decide) : wpAny (model X.prog X.w) X.A (eval (.Name x pos) X.env) Q E s :=
  Calls.Name_function_global I.ok.kind hg (Calls.loadGlobal_global (by rw [I.ok.glob]; exact I.mod.glob.keeps I.bk) hm h) hd
theorem ld_blt {E : Value → Shared → Prop} {pins : List (Addr × Obj)} {s : Shared} {σ : St} {H : Hp} {x : Str} {u : Value} {pos : Pos} {Q : Value → Shared → Prop} (I : Inv X pins σ H s) (hg : Gl X x) (hm : X.mg x = none) (hv : bootBuiltins x = some u) (h : Q u s)
    (hn : x ≠ "__name__" := by decide) (hd : (x == ("__debug__" : Str)) = false := by decide) : wpAny (model X.prog X.w) X.A (eval (.Name x pos) X.env) Q E s := by
  obtain ⟨mb, h1, h2⟩ := I.mod.blt
  exact Calls.Name_function_global I.ok.kind hg (Calls.loadGlobal_builtin (by rw [I.ok.glob]; exact I.mod.glob.keeps I.bk) hm (by rw [I.ok.blt]; exact h1.keeps I.bk) ((h2 x hn).trans hv) h) hd
theorem pe_bltn {x : Str} {v : V} {u : Value} {pos : Pos} (hg : Gl X x) (hm : X.mg x = none) (hv : bootBuiltins x = some u) (r : RelV v u) (hn : x ≠ "__name__" := by decide) (hd : (x == ("__debug__" : Str)) = false := by decide) : PE X (.Name x pos) (tC v) :=
  fun _ _ _ H _ I h => ld_blt I hg hm hv ⟨v, H, I, r, h⟩ hn hd

/-! ### arithmetic -/
/-- two ints -/
def t2I (ta tb : TE) (k : Int → Int → Hp → Prop) : St → Hp → Prop := fun σ H => ta σ H fun x H1 => tb σ H1 fun y H2 => ∃ i j, x = .int i ∧ y = .int j ∧ k i j H2
def tAdd (ta tb : TE) : TE := fun σ H Q => t2I ta tb (fun i j H2 => Q (.int (i + j)) H2) σ H
def tSub (ta tb : TE) : TE := fun σ H Q => t2I ta tb (fun i j H2 => Q (.int (i - j)) H2) σ H
/-- the left factor below 2^64 -/
def tMul (ta tb : TE) : TE := fun σ H Q => t2I ta tb (fun i j H2 => (-(2 ^ 64) < i ∧ i < 2 ^ 64) ∧ Q (.int (i * j)) H2) σ H
variable {a b : Expr} {ta tb : TE} {pos : Pos}
/-! ### comparisons -/
def PC (X : Cx) (op : CmpOp) (a b : Expr) (t : TE) : Prop :=
  ∀ (pins : List (Addr × Obj)) (s : Shared) (σ : St) (H : Hp) (Q : VK), Inv X pins σ H s → t σ H Q →
    wpAny (model X.prog X.w) X.A (eval a X.env) (fun v s₁ => wpAny (model X.prog X.w) X.A (eval b X.env) (fun u s₂ => wpAny (model X.prog X.w) X.A (compareOp op v u) (EP X pins σ Q) X.xe s₂) X.xe s₁) X.xe s
def tCmp (p : Int → Int → Bool) (ta tb : TE) : TE := fun σ H Q => t2I ta tb (fun i j H2 => Q (.bl (p i j)) H2) σ H
abbrev tLt : TE → TE → TE := tCmp fun i j => decide (i < j)
abbrev tLe : TE → TE → TE := tCmp fun i j => decide (i ≤ j)
abbrev tGt : TE → TE → TE := tCmp fun i j => decide (j < i)
abbrev tGe : TE → TE → TE := tCmp fun i j => decide (j ≤ i)
abbrev tEqI : TE → TE → TE := tCmp fun i j => decide (i = j)
abbrev tNeI : TE → TE → TE := tCmp fun i j => !decide (i = j)
/-- is None -/
def tIsN (ta : TE) : TE := fun σ H Q => ta σ H fun x H1 => Q (.bl (decide (x = .non))) H1
def tNotN (ta : TE) : TE := fun σ H Q => ta σ H fun x H1 => Q (.bl (!decide (x = .non))) H1
/-- a comparison as a value, as a test -/
def tB (t : TE) : TT := fun σ H Q => t σ H fun x H1 => ∃ c, x = .bl c ∧ Q c H1
/-- an expression whose value is a bool, as a test -/
theorem pt_val {e : Expr} {t : TE} (h : PE X e t) (he : ∀ whole, isTrue e X.env whole = (do let v ← whole; standAt e.pos; holding [v] (truthy v)) := by intro _; rfl) : PT X e (tB t) := by
  intro pins s σ H Q I hw
  refine isTrue_plain (thn (h pins s σ H _ I hw) fun v s1 ⟨x, H1, I1, r1, q1⟩ => ?_) (he _)
  obtain ⟨d, rfl, q⟩ := q1
  cases r1
  exact wpAny_truthy_bool ⟨H1, I1, q⟩

/-! ### and, or, not -/
variable {tA tB' : TT} {rest : List Expr}
def tAnd (t u : TT) : TT := fun σ H Q => t σ H fun c H1 => if c = true then u σ H1 Q else Q false H1
def tOr (t u : TT) : TT := fun σ H Q => t σ H fun c H1 => if c = true then Q true H1 else u σ H1 Q
def tNot (t : TT) : TT := fun σ H Q => t σ H fun c H1 => Q (!c) H1
theorem pw_and1 (ha : PT X a tA) : PW X (.BoolOp .And [a] pos) tA := by
  intro wh pins s σ H Q I h
  refine isTrue_and (thn (ha pins s σ H Q I h) fun c s1 e => ?_)
  cases c with
  | true => exact isTrue_and_nil e
  | false => exact e
theorem pw_or1 (ha : PT X a tA) : PW X (.BoolOp .Or [a] pos) tA := by
  intro wh pins s σ H Q I h
  refine isTrue_or (thn (ha pins s σ H Q I h) fun c s1 e => ?_)
  cases c with
  | false => exact isTrue_or_nil e
  | true => exact e
theorem pw_and (ha : PT X a tA) (hb : PW X (.BoolOp .And (b :: rest) pos) tB') : PW X (.BoolOp .And (a :: b :: rest) pos) (tAnd tA tB') := by
  intro wh pins s σ H Q I h
  refine isTrue_and (thn (ha pins s σ H _ I h) fun c s1 ⟨H1, I1, q1⟩ => ?_)
  cases c with
  | true => exact hb wh pins s1 σ H1 Q I1 q1
  | false => exact ⟨H1, I1, q1⟩
theorem pw_or (ha : PT X a tA) (hb : PW X (.BoolOp .Or (b :: rest) pos) tB') : PW X (.BoolOp .Or (a :: b :: rest) pos) (tOr tA tB') := by
  intro wh pins s σ H Q I h
  refine isTrue_or (thn (ha pins s σ H _ I h) fun c s1 ⟨H1, I1, q1⟩ => ?_)
  cases c with
  | true => exact ⟨H1, I1, q1⟩
  | false => exact hb wh pins s1 σ H1 Q I1 q1
theorem pt_not (ha : PT X a tA) : PT X (.UnaryOp .Not a pos) (tNot tA) := by
  intro pins s σ H Q I h
  exact isTrue_not (ha pins s σ H (fun c H1 => Q (!c) H1) I h)
/-- .. as values (bools) -/
def tAndV (ta tb : TE) : TE := fun σ H Q => ta σ H fun x H1 => ∃ c, x = .bl c ∧ if c = true then tb σ H1 Q else Q (.bl false) H1
def tOrV (ta tb : TE) : TE := fun σ H Q => ta σ H fun x H1 => ∃ c, x = .bl c ∧ if c = true then Q (.bl true) H1 else tb σ H1 Q
def tNotV (ta : TE) : TE := fun σ H Q => ta σ H fun x H1 => ∃ c, x = .bl c ∧ Q (.bl (!c)) H1
theorem pe_one {op} {t : TE} (h : PE X a t) : PE X (.BoolOp op [a] pos) t := fun pins s σ H Q I hw => BoolOp_one (h pins s σ H Q I hw)
theorem pe_and (ha : PE X a ta) (hb : PE X (.BoolOp .And (b :: rest) pos) tb) : PE X (.BoolOp .And (a :: b :: rest) pos) (tAndV ta tb) := by
  intro pins s σ H Q I h
  refine BoolOp_and (thn (ha pins s σ H _ I h) fun v s1 ⟨x, H1, I1, r1, q1⟩ => ?_)
  obtain ⟨c, rfl, q1⟩ := q1
  cases r1
  refine wpAny_truthy_bool ?_
  cases c with
  | true => exact hb pins s1 σ H1 Q I1 q1
  | false => exact ⟨.bl false, H1, I1, rfl, q1⟩
theorem pe_not (ha : PE X a ta) : PE X (.UnaryOp .Not a pos) (tNotV ta) := by
  intro pins s σ H Q I h
  refine UnaryOp_ (thn (ha pins s σ H _ I h) fun v s1 ⟨x, H1, I1, r1, q1⟩ => ?_)
  obtain ⟨c, rfl, q1⟩ := q1
  cases r1
  exact not_of (wpAny_truthy_bool ⟨.bl (!c), H1, I1, rfl, q1⟩)
/-- a if t else b -/
def tIf (t : TT) (ta tb : TE) : TE := fun σ H Q => t σ H fun c H1 => if c = true then ta σ H1 Q else tb σ H1 Q
end
end L2

namespace L2
open PySem PySem.Spec PyProof.Rows

/-! ### a list, a tuple that is read: tracked, frozen, or an object of the module -/
def SqL (K : PySem.W.Frag) (H : Hp) (a : Addr) (xs : List V) : Prop :=
  Rd H a (.lst xs) ∨
    ∃ (o : Obj) (its : Array Value) (n : Nat), K.lookup a = some o ∧ o.cls = .type "list" ∧ o.dict = none ∧ o.data = .seq its n ∧ its.size ≤ sizeLine ∧ Vals xs its.toList
def SqT (K : PySem.W.Frag) (H : Hp) (a : Addr) (xs : List V) : Prop :=
  Rd H a (.tup xs) ∨
    ∃ (o : Obj) (its : Array Value) (n : Nat), K.lookup a = some o ∧ o.cls = .type "tuple" ∧ o.data = .seq its n ∧ its.size ≤ sizeLine ∧ Vals xs its.toList
def absV : Value → Option V
  | .none => some .non
  | .bool b => some (.bl b)
  | .int i _ => some (.int i)
  | .str x _ => some (.str x)
  | .bytes b _ => some (.byt b)
  | .float b _ => some (.flt b)
  | .ref a => some (.ref a)
  | .type n => some (.ty n)
  | _ => none
theorem RelV.abs {x : V} {u : Value} (r : RelV x u) : absV u = some x := by
  cases x with
  | non => cases r; rfl
  | bl _ => cases r; rfl
  | int _ => obtain ⟨t, rfl⟩ := r; rfl
  | str _ => obtain ⟨t, rfl⟩ := r; rfl
  | byt _ => obtain ⟨t, rfl⟩ := r; rfl
  | flt _ => obtain ⟨t, rfl⟩ := r; rfl
  | ref _ => cases r; rfl
  | ty _ => cases r; rfl
theorem RelV.inj {x y : V} {u : Value} (r : RelV x u) (q : RelV y u) : x = y := Option.some.inj (r.abs.symm.trans q.abs)
theorem Vals.inj : ∀ {xs ys : List V} {us : List Value}, Vals xs us → Vals ys us → xs = ys
  | _, _, _, .nil, .nil => rfl
  | _, _, _, .cons r t, .cons r' t' => by rw [r.inj r', Vals.inj t t']
section
variable {X : Cx} {pins : List (Addr × Obj)} {σ : St} {H : Hp} {s : Shared} {a : Addr} {xs ys : List V}
theorem SqL.of {K : PySem.W.Frag} (h : H a = some (.lst xs)) : SqL K H a xs := .inl (.inl h)
theorem SqT.of {K : PySem.W.Frag} (h : H a = some (.tup xs)) : SqT K H a xs := .inl (.inl h)
theorem Inv.list (I : Inv X pins σ H s) (h : SqL X.K H a xs) : ∃ its : List Value, Vals xs its ∧ PlainL s.heap a its.toArray ∧ xs.length ≤ sizeLine := by
  rcases h with h | ⟨o, its, n, hk, hc, hd, hs, hz, r⟩
  · obtain ⟨z, its, n, r, e⟩ := h.ok I.hok
    exact ⟨its, r, ⟨_, n, e, rfl, rfl, rfl⟩, z⟩
  · refine ⟨its.toList, r, ⟨o, n, I.kIn a o hk, hc, hd, by simpa using hs⟩, ?_⟩
    have e := r.length
    simp only [Array.length_toList] at e
    omega
theorem Inv.tuple (I : Inv X pins σ H s) (h : SqT X.K H a xs) : ∃ its : List Value, Vals xs its ∧ IsTup s.heap a its.toArray ∧ xs.length ≤ sizeLine := by
  rcases h with h | ⟨o, its, n, hk, hc, hs, hz, r⟩
  · obtain ⟨z, its, r, p⟩ := h.ok I.hok
    exact ⟨its, r, p, z⟩
  · refine ⟨its.toList, r, ⟨o, I.kIn a o hk, hc, n, by simpa using hs⟩, ?_⟩
    have e := r.length
    simp only [Array.length_toList] at e
    omega
theorem Inv.list_inj (I : Inv X pins σ H s) (h : SqL X.K H a xs) (h' : SqL X.K H a ys) : xs = ys := by
  obtain ⟨its, r, ⟨o, n, e, _, _, d⟩, _⟩ := I.list h
  obtain ⟨its', r', ⟨o', n', e', _, _, d'⟩, _⟩ := I.list h'
  rw [e] at e'; cases e'
  rw [d] at d'
  injection d' with d1 _
  have : its = its' := by simpa using congrArg Array.toList d1
  subst this
  exact r.inj r'
theorem Inv.tuple_inj (I : Inv X pins σ H s) (h : SqT X.K H a xs) (h' : SqT X.K H a ys) : xs = ys := by
  obtain ⟨its, r, ⟨o, e, _, n, d⟩, _⟩ := I.tuple h
  obtain ⟨its', r', ⟨o', e', _, n', d'⟩, _⟩ := I.tuple h'
  rw [e] at e'; cases e'
  rw [d] at d'
  injection d' with d1 _
  have : its = its' := by simpa using congrArg Array.toList d1
  subst this
  exact r.inj r'
end

/-! ### another wish about exceptions -/
abbrev Cx.wish (X : Cx) (E : Value → Shared → Prop) : Cx := { X with xe := E }
/-- no exception leaves -/
abbrev Cx.nox (X : Cx) : Cx := X.wish fun _ _ => False
theorem Cx.Ok.wish {X : Cx} (ok : X.Ok) (E : Value → Shared → Prop) : (X.wish E).Ok :=
  ⟨ok.mod, ok.kind, ok.glob, ok.blt, ok.above, ok.inj, ok.has, ok.cab, ok.hd, ok.frames, ok.stk, ok.exf, ok.bs, ok.bsz, ok.noex, ok.exfs, ok.funs, ok.frf⟩
theorem Cx.Ok.unwish {X : Cx} {E : Value → Shared → Prop} (ok : (X.wish E).Ok) : X.Ok :=
  ⟨ok.mod, ok.kind, ok.glob, ok.blt, ok.above, ok.inj, ok.has, ok.cab, ok.hd, ok.frames, ok.stk, ok.exf, ok.bs, ok.bsz, ok.noex, ok.exfs, ok.funs, ok.frf⟩
section
variable {X : Cx} {pins : List (Addr × Obj)} {σ : St} {H : Hp} {s : Shared} {E : Value → Shared → Prop}
theorem Inv.wish (I : Inv X pins σ H s) (E : Value → Shared → Prop) : Inv (X.wish E) pins σ H s := ⟨I.ok.wish E, I.os, I.bare, I.base, I.loc, I.cell, I.free, I.freeC, I.pin, I.hok, I.len⟩
theorem Inv.unwish (I : Inv (X.wish E) pins σ H s) : Inv X pins σ H s := ⟨I.ok.unwish, I.os, I.bare, I.base, I.loc, I.cell, I.free, I.freeC, I.pin, I.hok, I.len⟩
theorem SP.unwish {D : Ends} {f : Flow} {s' : Shared} (h : SP (X.wish E) pins D f s') : SP X pins D f s' := by
  cases f with
  | next => obtain ⟨σ', H', I, q⟩ := h; exact ⟨σ', H', I.unwish, q⟩
  | brk => obtain ⟨σ', H', I, q⟩ := h; exact ⟨σ', H', I.unwish, q⟩
  | cont => obtain ⟨σ', H', I, q⟩ := h; exact ⟨σ', H', I.unwish, q⟩
  | ret u => obtain ⟨v, σ', H', I, r, q⟩ := h; exact ⟨v, σ', H', I.unwish, r, q⟩
theorem PE.nox {e : Expr} {t : TE} (h : PE X.nox e t) : PE X e t := fun pins s σ H Q I hw =>
  wpAny_mono (h pins s σ H Q (I.wish _) hw) (fun _ _ ⟨v, H', I', r, q⟩ => ⟨v, H', I'.unwish, r, q⟩) fun _ _ z => False.elim z
theorem PT.nox {e : Expr} {t : TT} (h : PT X.nox e t) : PT X e t := fun pins s σ H Q I hw =>
  wpAny_mono (h pins s σ H Q (I.wish _) hw) (fun _ _ ⟨H', I', q⟩ => ⟨H', I'.unwish, q⟩) fun _ _ z => False.elim z
theorem PSs.nox {st : List Stmt} {t : TS} (h : PSs X.nox st t) : PSs X st t := fun pins s σ H D I hw =>
  wpAny_mono (h pins s σ H D (I.wish _) hw) (fun _ _ q => q.unwish) fun _ _ z => False.elim z
end

/-! ### blocks and small statements -/
section
variable {X : Cx} {st : Stmt} {rest : List Stmt} {t u : TS} {e : Expr} {te : TE} {pos : Pos}
def tNext : TS := fun D σ H => D.nx σ H
def tSeq (t u : TS) : TS := fun D σ H => t { D with nx := u D } σ H
theorem pss_nil : PSs X [] tNext := fun _ _ σ H _ I h => wpAny_execs_nil ⟨σ, H, I, h⟩
theorem pss_cons (h1 : PS X st t) (h2 : PSs X rest u) : PSs X (st :: rest) (tSeq t u) := by
  intro pins s σ H D I h
  refine wpAny_execs_cons (thn (h1 pins s σ H { D with nx := u D } I h) fun f s1 q => ?_)
  cases f with
  | next =>
    obtain ⟨σ', H', I', q⟩ := q
    exact h2 pins s1 σ' H' D I' q
  | ret v => exact q
  | brk => exact q
  | cont => exact q
theorem pss_one (h1 : PS X st t) : PSs X [st] t := by
  intro pins s σ H D I h
  refine wpAny_execs_cons (thn (h1 pins s σ H D I h) fun f s1 q => ?_)
  cases f with
  | next => exact wpAny_execs_nil q
  | ret v => exact q
  | brk => exact q
  | cont => exact q
def tBreak : TS := fun D σ H => D.bk σ H
def tCont : TS := fun D σ H => D.ct σ H
/-- in a def's body nothing is shown -/
theorem Inv.quiet {pins : List (Addr × Obj)} {σ : St} {H : Hp} {s : Shared} (I : Inv X pins σ H s) : interactive X.env = false := by simp [interactive, I.ok.kind]
/-- an expression whose value is dropped -/
def tDrop (te : TE) : TS := fun D σ H => te σ H fun _ H1 => D.nx σ H1
theorem ps_expr (he : PE X e te) (hs : swapsWith e none pos.line X.env = pure false := by rfl) : PS X (.Expr e pos) (tDrop te) := by
  intro pins s σ H D I h
  exact wpAny_Expr_any (thn (he pins s σ H _ I h) fun v s1 ⟨x, H1, I1, r1, q1⟩ => ⟨σ, H1, I1, q1⟩) I.quiet hs
def tRet (te : TE) : TS := fun D σ H => te σ H D.rt
theorem ps_ret (he : PE X e te) : PS X (.Return (some e) pos) (tRet te) := by
  intro pins s σ H D I h
  exact wpAny_Return_some (thn (he pins s σ H _ I h) fun v s1 ⟨x, H1, I1, r1, q1⟩ => ⟨x, σ, H1, I1, r1, q1⟩)
def tRetN : TS := fun D _ H => D.rt .non H
theorem ps_retN : PS X (.Return none pos) tRetN := fun _ _ σ H _ I h => wpAny_Return_none ⟨.non, σ, H, I, rfl, h⟩
def tIfS (c : TT) (t u : TS) : TS := fun D σ H => c σ H fun b H1 => if b = true then t D σ H1 else u D σ H1
theorem ps_if {c : Expr} {a b : List Stmt} {tc : TT} (hc : PT X c tc) (ha : PSs X a t) (hb : PSs X b u) : PS X (.If c a b pos) (tIfS tc t u) := by
  intro pins s σ H D I h
  refine wpAny_If (thn (hc pins s σ H _ I h) fun d s1 ⟨H1, I1, q1⟩ => ?_)
  cases d with
  | true => exact ha pins s1 σ H1 D I1 q1
  | false => exact hb pins s1 σ H1 D I1 q1
/-- code that the proof never comes to -/
def tNever : TS := fun _ _ _ => False
end

/-! ### targets -/
abbrev TG := V → St → Hp → (St → Hp → Prop) → Prop
abbrev TGs := List V → St → Hp → (St → Hp → Prop) → Prop
def PG (X : Cx) (target : Expr) (t : TG) : Prop :=
  ∀ (pins : List (Addr × Obj)) (s : Shared) (σ : St) (H : Hp) (v : V) (u : Value) (Q : St → Hp → Prop), Inv X pins σ H s → RelV v u → t v σ H Q →
    wpAny (model X.prog X.w) X.A (assign target X.env u) (fun _ s' => ∃ σ' H', Inv X pins σ' H' s' ∧ Q σ' H') X.xe s
/-- several targets, one after another -/
def PGs (X : Cx) (ts : List Expr) (t : TGs) : Prop :=
  ∀ (pins : List (Addr × Obj)) (s : Shared) (σ : St) (H : Hp) (vs : List V) (us : List Value) (Q : St → Hp → Prop), Inv X pins σ H s → Vals vs us → t vs σ H Q →
    wpAny (model X.prog X.w) X.A (assignInOrder ((assignEach ts X.env).map (·.2)) us) (fun _ s' => ∃ σ' H', Inv X pins σ' H' s' ∧ Q σ' H') X.xe s
/-- o[i] = v, by values -/
abbrev TSet := V → V → V → Hp → (Hp → Prop) → Prop
def PSet (X : Cx) (t : TSet) : Prop :=
  ∀ (pins : List (Addr × Obj)) (s : Shared) (σ : St) (H : Hp) (o i v : V) (ov iv u : Value) (Q : Hp → Prop), Inv X pins σ H s → RelV o ov → RelV i iv → RelV v u → t o i v H Q →
    wpAny (model X.prog X.w) X.A (setItem ov iv u) (fun _ s' => ∃ H', Inv X pins σ H' s' ∧ Q H') X.xe s
/-- a op= b, by values -/
abbrev TIp := V → V → Hp → VK → Prop
def PIp (X : Cx) (op : Operator) (t : TIp) : Prop :=
  ∀ (pins : List (Addr × Obj)) (s : Shared) (σ : St) (H : Hp) (x y : V) (v u : Value) (Q : VK), Inv X pins σ H s → RelV x v → RelV y u → t x y H Q →
    wpAny (model X.prog X.w) X.A (inplaceOp op v u) (EP X pins σ Q) X.xe s
section
variable {X : Cx} {pos : Pos}
def gName (i : Nat) : TG := fun v σ H Q => Q (σ.set i (some v)) H
theorem pg_name {i : Nat} {x : Str} (hN : X.N.Nodup) (hi : X.N[i]? = some x) (hx : Loc X.env.scope x) (hf : X.fn x = true ∨ X.env.scope.names.lookup x = some .local := by first | exact .inl rfl | exact .inr rfl | assumption) : PG X (.Name x pos) (gName i) := by
  intro pins s σ H v u Q I r h
  exact wpAny_assign_Name (store_ok I hN hi hx r (fun s' I' => ⟨_, H, I', h⟩) hf)
def gNil : TGs := fun vs σ H Q => vs = [] ∧ Q σ H
def gCons (t : TG) (u : TGs) : TGs := fun vs σ H Q => ∃ v r, vs = v :: r ∧ t v σ H fun σ' H' => u r σ' H' Q
theorem pgs_nil : PGs X [] gNil := by
  intro pins s σ H vs us Q I r h
  obtain ⟨e, h⟩ := h
  subst e
  cases r
  exact assignInOrder_nil ⟨σ, H, I, h⟩
theorem pgs_cons {e : Expr} {es : List Expr} {t : TG} {u : TGs} (h1 : PG X e t) (h2 : PGs X es u)
    (hs : (assignEach (e :: es) X.env).map (·.2) = assign e X.env :: (assignEach es X.env).map (·.2) := by rfl) : PGs X (e :: es) (gCons t u) := by
  intro pins s σ H vs us Q I r h
  obtain ⟨v, vr, e1, h⟩ := h
  subst e1
  cases r with
  | cons r rr =>
    rw [hs]
    refine assignInOrder_cons (thn (h1 pins s σ H _ _ _ I r h) fun _ s1 ⟨σ1, H1, I1, q1⟩ => ?_)
    exact h2 pins s1 σ1 H1 _ _ Q I1 rr q1
/-- (a, b, ..) = a tuple of that length -/
def gTup (K : PySem.W.Frag) (n : Nat) (t : TGs) : TG := fun v σ H Q => ∃ a xs, v = .ref a ∧ SqT K H a xs ∧ xs.length = n ∧ t xs σ H Q
theorem pg_tup {es : List Expr} {k : Nat} {t : TGs} {n : Nat} (hc : X.calm = true) (h : PGs X es t)
    (hn : (assignEach es X.env).length = n := by rfl) (hst : (assignEach es X.env).findIdx? (·.1) = none := by rfl) : PG X (.Tuple es k pos) (gTup X.K n t) := by
  intro pins s σ H v u Q I r hw
  obtain ⟨a, xs, e1, hq, hl, hw⟩ := hw
  subst e1
  cases r
  obtain ⟨its, rv, ht, hz⟩ := I.tuple hq
  refine assign_Tuple_tuple (I.ok.hd hc) ht (by simp [hn, ← hl, rv.length]) hst fun h' hx => ?_
  have I1 : Inv X pins σ H { s with heap := h' } := I.kept (t' := s.toks) fun b o e => hx b o (Nat.ne_of_lt (Heap.lt_size e)) e
  exact h pins _ σ H xs _ Q I1 (by simpa using rv) hw
/-- o[i] = .. -/
def gSub (to ti : TE) (t : TSet) : TG := fun v σ H Q => to σ H fun o H1 => ti σ H1 fun i H2 => t o i v H2 fun H3 => Q σ H3
theorem pg_sub {o i : Expr} {to ti : TE} {t : TSet} (ho : PE X o to) (hi : PE X i ti) (hs : PSet X t)
    (ha : ∀ v, assign (.Subscript o i pos) X.env v = (do
      let ov ← holding [v] (eval o X.env)
      let iv ← holding [v, ov] (eval i X.env)
      standAt pos
      holding [v, ov, iv] (setItem ov iv v)
      release [v, ov, iv] []) := by intro _; rfl) : PG X (.Subscript o i pos) (gSub to ti t) := by
  intro pins s σ H v u Q I r h
  rw [ha]
  refine wpAny_bind (wpAny_holding (thn (ho pins s σ H _ I h) fun ov s1 ⟨x, H1, I1, r1, q1⟩ => ?_))
  refine wpAny_bind (wpAny_holding (thn (hi pins s1 σ H1 _ I1 q1) fun iv s2 ⟨y, H2, I2, r2, q2⟩ => ?_))
  refine wpAny_bind (wpAny_standAt (wpAny_bind (wpAny_holding (thn (hs pins s2 σ H2 x y v ov iv u _ I2 r1 r2 r q2) fun _ s3 ⟨H3, I3, q3⟩ => ?_))))
  exact wpAny_release ⟨σ, H3, I3, q3⟩
/-- target = value -/
def tAsg (te : TE) (g : TG) : TS := fun D σ H => te σ H fun x H1 => g x σ H1 D.nx
theorem ps_asg {tg e : Expr} {te : TE} {g : TG} (he : PE X e te) (hg : PG X tg g) (hs : swapsWithSole [tg] e pos.line X.env = pure false := by rfl) (hw : swappedStores [tg] e X.env = pure none := by rfl)
    (h1 : (assignEach [tg] X.env).map (·.2) = [assign tg X.env] := by rfl) : PS X (.Assign [tg] e pos) (tAsg te g) := by
  intro pins s σ H D I h
  refine wpAny_Assign_stores (thn (he pins s σ H _ I h) fun v s1 ⟨x, H1, I1, r1, q1⟩ => ?_) hs hw
  rw [h1]
  exact thn (hg pins s1 σ H1 x v _ I1 r1 q1) fun _ s2 q => q
/-- name = value -/
theorem ps_set {i : Nat} {x : Str} {e : Expr} {te : TE} {pos' : Pos} (hN : X.N.Nodup) (hi : X.N[i]? = some x) (hx : Loc X.env.scope x) (he : PE X e te) (hs : swapsWith e (some (.Name x pos')) pos.line X.env = pure false := by rfl) (hf : X.fn x = true ∨ X.env.scope.names.lookup x = some .local := by first | exact .inl rfl | exact .inr rfl | assumption) :
    PS X (.Assign [.Name x pos'] e pos) (tAsg te (gName i)) := by
  intro pins s σ H D I h
  refine wpAny_Assign_Name (thn (he pins s σ H _ I h) fun v s1 ⟨y, H1, I1, r1, q1⟩ => ?_) hs
  exact store_ok I1 hN hi hx r1 (fun s2 I2 => ⟨_, H1, I2, q1⟩) hf
/-- a, b = x, y with plain local names: stored from the right; the pair itself is not tracked (the opening rows as in PyProof/Rows/TupAssign.lean:23) -/
def tPar (i j : Nat) (ta : TA) : TS := fun D σ H => ta σ H fun vs H1 => ∃ v w, vs = [v, w] ∧ D.nx ((σ.set i (some v)).set j (some w)) H1
/-- name op= e -/
def tAug (i : Nat) (te : TE) (ti : TIp) : TS := fun D σ H => ∃ x, σ[i]? = some (some x) ∧ te σ H fun y H1 => ti x y H1 fun z H2 => D.nx (σ.set i (some z)) H2
/-- o[i] op= e -/
def tAugS (to ti te : TE) (tget : V → V → Hp → VK → Prop) (tip : TIp) (tset : TSet) : TS := fun D σ H => to σ H fun o H1 => ti σ H1 fun i H2 => tget o i H2 fun x H3 => te σ H3 fun y H4 => tip x y H4 fun z H5 => tset o i z H5 fun H6 => D.nx σ H6
/-- o[i], by values -/
def PGet (X : Cx) (t : V → V → Hp → VK → Prop) : Prop :=
  ∀ (pins : List (Addr × Obj)) (s : Shared) (σ : St) (H : Hp) (o i : V) (ov iv : Value) (Q : VK), Inv X pins σ H s → RelV o ov → RelV i iv → t o i H Q →
    wpAny (model X.prog X.w) X.A (getItem ov iv) (EP X pins σ Q) X.xe s
/-- ints -/
def ipI (f : Int → Int → Int) : TIp := fun x y H Q => ∃ i j, x = .int i ∧ y = .int j ∧ Q (.int (f i j)) H
end

/-! ### while -/
section
variable {X : Cx} {pos : Pos}
/-- the invariant W with its measure -/
def tWhile (c : TT) (tb : TS) : TS := fun D σ H => ∃ W : Nat → St → Hp → Prop, (∃ m, W m σ H) ∧ ∀ m σ H, W m σ H →
  c σ H fun b H1 => if b = true then ∃ N : St → Hp → Prop, (∀ σ' H', N σ' H' → ∃ m', m' < m ∧ W m' σ' H') ∧ tb { D with nx := N, ct := N, bk := D.nx } σ H1 else D.nx σ H1
theorem ps_while {c : Expr} {body : List Stmt} {tc : TT} {tb : TS} (hp : PassesOwn (model X.prog X.w) X.A X.env X.xe) (hc : PT X c tc) (hb : PSs X body tb) : PS X (.While c body [] pos) (tWhile tc tb) := by
  intro pins s σ H D I h
  obtain ⟨W, ⟨m0, w0⟩, turn⟩ := h
  refine wpAny_While (codeAny_whileLoop (fun n s' => ∃ σ' H', Inv X pins σ' H' s' ∧ W n σ' H') ?_ m0 ⟨σ, H, I, w0⟩)
  rintro n s1 ⟨σ1, H1, I1, w1⟩
  refine wpAny_passesOwn hp (thn (hc pins s1 σ1 H1 _ I1 (turn n σ1 H1 w1)) fun b s2 ⟨H2, I2, q2⟩ => ?_)
  cases b with
  | true =>
    obtain ⟨N, hN, q2⟩ := q2
    rw [if_pos rfl]
    refine wpAny_passesOwn hp (thn (hb pins s2 σ1 H2 _ I2 q2) fun f s3 q3 => ?_)
    cases f with
    | next =>
      obtain ⟨σ3, H3, I3, n3⟩ := q3
      obtain ⟨m', hm, w3⟩ := hN σ3 H3 n3
      exact ⟨m', hm, σ3, H3, I3, w3⟩
    | cont =>
      obtain ⟨σ3, H3, I3, n3⟩ := q3
      obtain ⟨m', hm, w3⟩ := hN σ3 H3 n3
      exact ⟨m', hm, σ3, H3, I3, w3⟩
    | brk => exact q3
    | ret v => exact q3
  | false =>
    rw [if_neg Bool.false_ne_true]
    exact wpAny_execs_nil ⟨σ1, H2, I2, q2⟩
end

/-! ### what a loop or a comprehension walks -/
/-- at turn i: it yields x (the heap may grow), or it stops -/
structure It where
  go : Nat → Hp → Prop
  yld : Nat → Hp → V → Hp → Prop
  stop : Nat → Hp → Prop
/-- the iterator's own objects may turn: they are not the frame's, not pinned, younger than the entry (or a comprehension's own) -/
def FpOk (X : Cx) (pins : List (Addr × Obj)) (H : Hp) (b : Addr) : Prop :=
  H b = none ∧ b ≠ X.env.locals ∧ b ∉ X.fs ∧ (b ∈ X.ex ∨ X.s₀.heap.objs.size ≤ b) ∧ (∀ x c, X.env.cells.lookup x = some c → c ≠ b) ∧ ∀ p ∈ X.pn ++ pins, p.1 ≠ b
theorem Inv.fpOk {X : Cx} {pins : List (Addr × Obj)} {σ : St} {H H' : Hp} {s : Shared} {b : Addr} (I : Inv X pins σ H s) (hb : s.heap.objs.size ≤ b) (hn : H' b = none) : FpOk X pins H' b := by
  refine ⟨hn, Nat.ne_of_gt (Nat.lt_of_lt_of_le I.lt hb), I.nofs hb, .inr (Nat.le_trans I.sz hb), fun x c e z => ?_, fun p hp z => ?_⟩
  · obtain ⟨v, q⟩ := I.cell x c e
    exact absurd (Nat.lt_of_lt_of_le q.lt (by rw [z]; exact hb)) (Nat.lt_irrefl _)
  · exact absurd (Nat.lt_of_lt_of_le (Heap.lt_size (I.pin p hp).1) (by rw [z]; exact hb)) (Nat.lt_irrefl _)
structure Turn (P : Program) (w : World) (K : PySem.W.Frag) (tg : Expr) (J : It) (fp : List Addr) (it : Addr) (tn : Nat → Heap → Prop) : Prop where
  mem : it ∈ fp
  obj : ∀ i h, tn i h → ∀ b ∈ fp, ∃ o, h.get? b = some o ∧ ∀ v, o.data ≠ .cell v
  keep : ∀ i h h', tn i h → (∀ b ∈ fp, ∀ o, h.get? b = some o → h'.get? b = some o) → tn i h'
  item : ∀ (X : Cx), X.prog = P → X.w = w → X.K = K → X.calm = true → ∀ (i : Nat) (pins : List (Addr × Obj)) (s : Shared) (σ : St) (H : Hp) (E : Value → Shared → Prop), Inv X pins σ H s → (∀ b ∈ fp, FpOk X pins H b) → tn i s.heap → J.go i H →
    wpAny (model P w) X.A (pyNext (.ref it)) (fun r s1 => ∃ u, r = some u ∧
      wpAny (model P w) X.A (letOwnedTupleGo tg (.ref it) u) (fun _ s2 => ∃ x H', Inv X pins σ H' s2 ∧ RelV x u ∧ J.yld i H x H' ∧ tn (i + 1) s2.heap ∧ ∀ b ∈ fp, H' b = none) E s1) E s
  done : ∀ (X : Cx), X.prog = P → X.w = w → X.K = K → X.calm = true → ∀ (i : Nat) (pins : List (Addr × Obj)) (s : Shared) (σ : St) (H : Hp) (E : Value → Shared → Prop), Inv X pins σ H s → (∀ b ∈ fp, FpOk X pins H b) → tn i s.heap → J.stop i H →
    wpAny (model P w) X.A (pyNext (.ref it)) (fun r s1 => r = none ∧ Inv X pins σ H s1) E s
  self : ∀ (A : Around) (i : Nat) (s : Shared) (Q : Value → Shared → Prop) (E : Value → Shared → Prop), tn i s.heap → Q (.ref it) s → wpAny (model P w) A (pyIter (.ref it)) Q E s
abbrev TI := St → Hp → (It → Hp → Prop) → Prop
/-- an iterator has come -/
def PIE (X : Cx) (pins : List (Addr × Obj)) (σ : St) (tg : Expr) (R : It → Hp → Prop) (itv : Value) (s2 : Shared) : Prop :=
  ∃ (it : Addr) (fp : List Addr) (tn : Nat → Heap → Prop) (J : It) (H' : Hp), itv = .ref it ∧ Inv X pins σ H' s2 ∧ Turn X.prog X.w X.K tg J fp it tn ∧ tn 0 s2.heap ∧ (∀ b ∈ fp, FpOk X pins H' b) ∧ R J H'
def PI (X : Cx) (tg iter : Expr) (wi : TI) : Prop :=
  ∀ (pins : List (Addr × Obj)) (s : Shared) (σ : St) (H : Hp) (R : It → Hp → Prop), Inv X pins σ H s → wi σ H R →
    wpAny (model X.prog X.w) X.A (eval iter X.env) (fun v s1 => wpAny (model X.prog X.w) X.A (pyIter v) (PIE X pins σ tg R) X.xe s1) X.xe s

/-- the step ahead of the store is nothing for an iterator that keeps no tuple -/
theorem go_of {M : Model} {A : Around} {E : Value → Shared → Prop} {s : Shared} {tg : Expr} {it : Addr} {u : Value} {o : Obj} {n : String} {vs : Array Value} {Q : Unit → Shared → Prop} (ho : s.heap.get? it = some o) (hc : o.cls = .type n) (hd : o.data = .fields vs)
    (hn : ["enumerate", "zip", "dict_itemiterator", "dict_reverseitemiterator", "odict_iterator", "itertools.zip_longest", "itertools.pairwise"].contains n = false) (hQ : Q () s) : wpAny M A (letOwnedTupleGo tg (.ref it) u) Q E s := by
  unfold letOwnedTupleGo
  cases tg <;> first
    | exact wpAny_pure hQ
    | (cases u <;> first
        | exact wpAny_pure hQ
        | (refine wpAny_bind (wpAny_load ho ?_)
           rw [hc, hd]
           show wpAny M A (if (["enumerate", "zip", "dict_itemiterator", "dict_reverseitemiterator", "odict_iterator", "itertools.zip_longest", "itertools.pairwise"].contains n && vs[0]? == some (rawInt _)) = true then _ else _) Q E s
           rw [if_neg (by intro h; rw [hn, Bool.false_and] at h; cases h)]
           exact wpAny_pure hQ))

/-- the list at a, as it stands at each turn (a loop may append to it) -/
def Itl (K : PySem.W.Frag) (a : Addr) : It :=
  ⟨fun i H => ∃ xs x, SqL K H a xs ∧ xs[i]? = some x, fun i H x H' => H' = H ∧ ∀ xs, SqL K H a xs → xs[i]? = some x, fun i H => ∃ xs, SqL K H a xs ∧ xs.length ≤ i⟩
def Itt (K : PySem.W.Frag) (a : Addr) : It :=
  ⟨fun i H => ∃ xs x, SqT K H a xs ∧ xs[i]? = some x, fun i H x H' => H' = H ∧ ∀ xs, SqT K H a xs → xs[i]? = some x, fun i H => ∃ xs, SqT K H a xs ∧ xs.length ≤ i⟩
/-- lo, lo + 1, .. (n of them) -/
def Itr (lo : Int) (n : Nat) : It := ⟨fun i _ => i < n, fun i H x H' => H' = H ∧ x = .int (lo + i), fun i _ => n ≤ i⟩
theorem turn_list {P : Program} {w : World} {K : PySem.W.Frag} {tg : Expr} (a it : Addr) : Turn P w K tg (Itl K a) [it] it (fun i h => h.IsListIter it a i) where
  mem := by simp
  obj := fun i h st b hb => by
    have e : b = it := by simpa using hb
    subst e
    obtain ⟨o, e, c, d⟩ := st
    exact ⟨o, e, fun v z => by rw [d] at z; cases z⟩
  keep := fun i h h' st k => st.at fun o e => k it (by simp) o e
  item := by
    intro X hP hw hK hc i pins s σ H E I hf st hg
    subst hP hw hK
    obtain ⟨xs, x, hq, hx⟩ := hg
    obtain ⟨its, rv, p, hz⟩ := I.list hq
    obtain ⟨u, hu, ru⟩ := rv.get hx
    obtain ⟨f0, f1, f2, f3, f4, f5⟩ := hf it (by simp)
    refine wpAny_pyNext_list_item st p.isList (x := u) (by simpa using hu) fun h' st' sb => ?_
    have I1 : Inv X pins σ H { s with heap := h' } := I.turned (t' := s.toks) (fun b o hb e => (sb.2 b hb).trans e) f0 f1 f3 f4 f5
    obtain ⟨o, e, c, d⟩ := id st'
    exact ⟨u, rfl, go_of (s := { s with heap := h' }) e c d (by decide) ⟨x, H, I1, ru, ⟨rfl, fun ys hy => by rw [I.list_inj hy hq]; exact hx⟩, st', fun b hb => (hf b hb).1⟩⟩
  done := by
    intro X hP hw hK hc i pins s σ H E I hf st hg
    subst hP hw hK
    obtain ⟨xs, hq, hx⟩ := hg
    obtain ⟨its, rv, p, hz⟩ := I.list hq
    obtain ⟨f0, f1, f2, f3, f4, f5⟩ := hf it (by simp)
    have hl := rv.length
    exact wpAny_pyNext_list_end (I.ok.hd hc) st p.isList (by simp; omega) fun h' eb => ⟨rfl, I.turned (t' := s.toks) (fun b o hb e => eb b o hb e) f0 f1 f3 f4 f5⟩
  self := fun _ _ _ _ _ st h => wpAny_pyIter_listiter st h
theorem turn_tuple {P : Program} {w : World} {K : PySem.W.Frag} {tg : Expr} (a it : Addr) : Turn P w K tg (Itt K a) [it] it (fun i h => h.IsTupleIter it a i) where
  mem := by simp
  obj := fun i h st b hb => by
    have e : b = it := by simpa using hb
    subst e
    obtain ⟨o, e, c, d⟩ := st
    exact ⟨o, e, fun v z => by rw [d] at z; cases z⟩
  keep := fun i h h' st k => st.at fun o e => k it (by simp) o e
  item := by
    intro X hP hw hK hc i pins s σ H E I hf st hg
    subst hP hw hK
    obtain ⟨xs, x, hq, hx⟩ := hg
    obtain ⟨its, rv, p, hz⟩ := I.tuple hq
    obtain ⟨u, hu, ru⟩ := rv.get hx
    obtain ⟨f0, f1, f2, f3, f4, f5⟩ := hf it (by simp)
    refine wpAny_pyNext_tuple_item st (show s.heap.IsTuple a its.toArray from p) (x := u) (by simpa using hu) fun h' st' sb => ?_
    have I1 : Inv X pins σ H { s with heap := h' } := I.turned (t' := s.toks) (fun b o hb e => (sb.2 b hb).trans e) f0 f1 f3 f4 f5
    obtain ⟨o, e, c, d⟩ := id st'
    exact ⟨u, rfl, go_of (s := { s with heap := h' }) e c d (by decide) ⟨x, H, I1, ru, ⟨rfl, fun ys hy => by rw [I.tuple_inj hy hq]; exact hx⟩, st', fun b hb => (hf b hb).1⟩⟩
  done := by
    intro X hP hw hK hc i pins s σ H E I hf st hg
    subst hP hw hK
    obtain ⟨xs, hq, hx⟩ := hg
    obtain ⟨its, rv, p, hz⟩ := I.tuple hq
    obtain ⟨f0, f1, f2, f3, f4, f5⟩ := hf it (by simp)
    have hl := rv.length
    exact wpAny_pyNext_tuple_end (I.ok.hd hc) st (show s.heap.IsTuple a its.toArray from p) (by simp; omega) fun h' eb => ⟨rfl, I.turned (t' := s.toks) (fun b o hb e => eb b o hb e) f0 f1 f3 f4 f5⟩
  self := fun _ _ _ _ _ st h => wpAny_pyIter_tupleiter st h
theorem turn_range {P : Program} {w : World} {K : PySem.W.Frag} {tg : Expr} (it : Addr) (lo : Int) (n : Nat) : Turn P w K tg (Itr lo n) [it] it (fun i h => IsRangeIter h it (lo + (i : Nat) * 1) ((n : Int) - (i : Nat)) 1) where
  mem := by simp
  obj := fun i h st b hb => by
    have e : b = it := by simpa using hb
    subst e
    exact ⟨_, st, fun v z => by
      have z' : Data.fields _ = Data.cell v := z
      cases z'⟩
  keep := fun i h h' st k => k it (by simp) _ st
  item := by
    intro X hP hw hK hc i pins s σ H E I hf st hg
    subst hP hw hK
    obtain ⟨f0, f1, f2, f3, f4, f5⟩ := hf it (by simp)
    have W := Walks.range (prog := X.prog) (w := X.w) (I.ok.hd hc) it lo 1 n
    refine W.item i s _ _ hg st fun v h' tk hv st' kk => ?_
    obtain ⟨t, rfl⟩ := hv
    have I1 : Inv X pins σ H { s with heap := h', toks := tk } := I.turned (fun b o hb e => kk b o (by simpa using hb) e) f0 f1 f3 f4 f5
    refine ⟨_, rfl, go_of (s := { s with heap := h', toks := tk }) (n := "range_iterator") st' rfl rfl (by decide) ⟨.int (lo + i), H, I1, ⟨t, ?_⟩, ⟨rfl, rfl⟩, st', fun b hb => (hf b hb).1⟩⟩
    rw [Int.mul_one]
  done := by
    intro X hP hw hK hc i pins s σ H E I hf st hg
    subst hP hw hK
    obtain ⟨f0, f1, f2, f3, f4, f5⟩ := hf it (by simp)
    exact wpAny_pyNext_range_end (I.ok.hd hc) st (by have : n ≤ i := hg; omega) fun h' eb => ⟨rfl, I.turned (t' := s.toks) (fun b o hb e => eb b o hb e) f0 f1 f3 f4 f5⟩
  self := fun _ _ _ _ _ st h => wpAny_pyIter_rangeiter st h
end L2

namespace L2
open PySem PySem.Spec PyProof.Rows
section
variable {X : Cx} {tg : Expr}
def iList (K : PySem.W.Frag) (tl : TE) : TI := fun σ H R => tl σ H fun x H1 => ∃ a, x = .ref a ∧ (∃ xs, SqL K H1 a xs) ∧ R (Itl K a) H1
def iTup (K : PySem.W.Frag) (tl : TE) : TI := fun σ H R => tl σ H fun x H1 => ∃ a, x = .ref a ∧ (∃ xs, SqT K H1 a xs) ∧ R (Itt K a) H1
theorem pi_list {l : Expr} {tl : TE} (hl : PE X l tl) : PI X tg l (iList X.K tl) := by
  intro pins s σ H R I h
  refine thn (hl pins s σ H _ I h) fun v s1 ⟨x, H1, I1, r1, q1⟩ => ?_
  obtain ⟨a, e, ⟨xs, hq⟩, q⟩ := q1
  subst e
  cases r1
  obtain ⟨its, rv, p, hz⟩ := I1.list hq
  refine wpAny_pyIter_list p.isList ?_
  refine ⟨s1.heap.objs.size, [s1.heap.objs.size], _, _, H1, rfl, I1.kept (t' := s1.toks) fun b o e => Heap.get?_push_of_some _ e, turn_list a _, ⟨_, Heap.get?_push_size _ rfl, rfl, rfl⟩, fun b hb => ?_, q⟩
  have e : b = s1.heap.objs.size := by simpa using hb
  subst e
  exact I1.fpOk (Nat.le_refl _) (I1.hok.fresh (Nat.le_refl _))
theorem pi_tup {l : Expr} {tl : TE} (hl : PE X l tl) : PI X tg l (iTup X.K tl) := by
  intro pins s σ H R I h
  refine thn (hl pins s σ H _ I h) fun v s1 ⟨x, H1, I1, r1, q1⟩ => ?_
  obtain ⟨a, e, ⟨xs, hq⟩, q⟩ := q1
  subst e
  cases r1
  obtain ⟨its, rv, p, hz⟩ := I1.tuple hq
  refine wpAny_pyIter_tuple (show s1.heap.IsTuple a its.toArray from p) ?_
  refine ⟨s1.heap.objs.size, [s1.heap.objs.size], _, _, H1, rfl, I1.kept (t' := s1.toks) fun b o e => Heap.get?_push_of_some _ e, turn_tuple a _, ⟨_, Heap.get?_push_size _ rfl, rfl, rfl⟩, fun b hb => ?_, q⟩
  have e : b = s1.heap.objs.size := by simpa using hb
  subst e
  exact I1.fpOk (Nat.le_refl _) (I1.hok.fresh (Nat.le_refl _))
/-- a range object just made, walked -/
theorem range_it {pins : List (Addr × Obj)} {σ : St} {H : Hp} {s : Shared} {R : It → Hp → Prop} {E : Value → Shared → Prop} {lo hi : Int} {t u v : Tok} {tk : Nat} (I : Inv X pins σ H s) (h1 : -(2 ^ 62) ≤ lo) (h2 : lo < 2 ^ 62) (h3 : -(2 ^ 62) ≤ hi) (h4 : hi < 2 ^ 62)
    (q : R (Itr lo (hi - lo).toNat) H) : wpAny (model X.prog X.w) X.A (pyIter (.ref s.heap.objs.size)) (PIE X pins σ tg R) E { s with heap := s.heap.push { cls := .type "range", data := .fields #[.int lo t, .int hi u, .int 1 v] }, toks := tk } := by
  refine wpAny_pyIter_range (IsRange.new ..) (small_one h1 h2 h3 h4) ?_
  have I1 : Inv X pins σ H { s with heap := s.heap.push { cls := .type "range", data := .fields #[.int lo t, .int hi u, .int 1 v] }, toks := tk } := I.kept fun b o e => Heap.get?_push_of_some _ e
  refine ⟨(s.heap.push { cls := .type "range", data := .fields #[.int lo t, .int hi u, .int 1 v] }).objs.size, [(s.heap.push { cls := .type "range", data := .fields #[.int lo t, .int hi u, .int 1 v] }).objs.size], _, _, H, rfl,
    I1.kept (t' := tk) fun b o e => Heap.get?_push_of_some _ e, turn_range _ lo (hi - lo).toNat, ?_, fun b hb => ?_, q⟩
  · have e1 : lo + ((0 : Nat) : Int) * 1 = lo := by simp
    have e2 : (((hi - lo).toNat : Nat) : Int) - ((0 : Nat) : Int) = Builtin.Range.rangeSize lo hi 1 := by rw [rangeSize_one]; split <;> omega
    show IsRangeIter _ _ (lo + ((0 : Nat) : Int) * 1) ((((hi - lo).toNat : Nat) : Int) - ((0 : Nat) : Int)) 1
    rw [e1, e2]
    exact Heap.get?_push_size _ rfl
  · have e : b = (s.heap.push { cls := .type "range", data := .fields #[.int lo t, .int hi u, .int 1 v] }).objs.size := by simpa using hb
    subst e
    exact I1.fpOk (Nat.le_refl _) (I1.hok.fresh (Nat.le_refl _))
def iRng1 (ta : TA) : TI := fun σ H R => ta σ H fun vs H1 => ∃ j : Int, vs = [.int j] ∧ -(2 ^ 62) ≤ j ∧ j < 2 ^ 62 ∧ R (Itr 0 j.toNat) H1
def iRng2 (ta : TA) : TI := fun σ H R => ta σ H fun vs H1 => ∃ i j : Int, vs = [.int i, .int j] ∧ (-(2 ^ 62) ≤ i ∧ i < 2 ^ 62 ∧ -(2 ^ 62) ≤ j ∧ j < 2 ^ 62) ∧ R (Itr i (j - i).toNat) H1
theorem pi_range1 {a : Expr} {ta : TA} {p pos : Pos} (hg : Gl X "range") (hm : X.mg "range" = none) (ha : PA X [a] ta) (hs : starEach [a] X.env = [(false, eval a X.env)] := by rfl) : PI X tg (.Call (.Name "range" p) [a] [] pos) (iRng1 ta) := by
  intro pins s σ H R I h
  refine Call_ (ld_blt I hg hm boot_range (PyProof.Rows.callWith_type1 (thn (ha pos pins s σ H _ I h) fun us s1 ⟨vs, H1, I1, r1, q1⟩ => ?_) hs rfl))
  obtain ⟨j, e, q1, q2, q⟩ := q1
  subst e
  cases r1 with
  | cons r rr =>
    cases rr
    obtain ⟨t, rfl⟩ := r
    exact call_range_1 (range_it I1 (by omega) (by omega) q1 q2 (by simpa using q))
/-! ### for -/
/-- W: the invariant by the turn and a measure; N: what the body is to reach -/
def tFor (wi : TI) (g : TG) (tb : TS) : TS := fun D σ H => wi σ H fun J H1 => ∃ W : Nat → Nat → St → Hp → Prop, (∃ m, W 0 m σ H1) ∧ ∀ i m σ H, W i m σ H →
  (J.stop i H ∧ D.nx σ H) ∨ (J.go i H ∧ ∃ N : St → Hp → Prop, (∀ σ' H', N σ' H' → ∃ m', m' < m ∧ W (i + 1) m' σ' H') ∧ ∀ x H', J.yld i H x H' → g x σ H' fun σ2 H2 => tb { D with nx := N, ct := N, bk := D.nx } σ2 H2)
/-- the records at fp as they stand -/
def pinsAt (fp : List Addr) (h : Heap) : List (Addr × Obj) := fp.filterMap fun b => (h.get? b).map fun o => (b, o)
theorem mem_pinsAt {fp : List Addr} {h : Heap} {b : Addr} {o : Obj} (hb : b ∈ fp) (e : h.get? b = some o) : (b, o) ∈ pinsAt fp h := List.mem_filterMap.mpr ⟨b, hb, by rw [e]; rfl⟩
theorem of_pinsAt {fp : List Addr} {h : Heap} {p : Addr × Obj} (hp : p ∈ pinsAt fp h) : p.1 ∈ fp ∧ h.get? p.1 = some p.2 := by
  obtain ⟨b, hb, e⟩ := List.mem_filterMap.mp hp
  cases q : h.get? b with
  | none => rw [q] at e; cases e
  | some o =>
    rw [q] at e
    have e' : (b, o) = p := Option.some.inj e
    subst e'
    exact ⟨hb, q⟩
theorem Inv.pinned {pins : List (Addr × Obj)} {σ : St} {H : Hp} {s : Shared} {fp : List Addr} (I : Inv X pins σ H s) (hf : ∀ b ∈ fp, FpOk X pins H b) (ho : ∀ b ∈ fp, ∃ o, s.heap.get? b = some o ∧ ∀ v, o.data ≠ .cell v) : Inv X (pins ++ pinsAt fp s.heap) σ H s :=
  I.pins_of fun p hp => (List.mem_append.mp hp).elim (fun z => I.pin p (List.mem_append_right _ z)) fun z => by
    obtain ⟨hb, e⟩ := of_pinsAt z
    obtain ⟨f0, f1, f2, _⟩ := hf p.1 hb
    obtain ⟨o, e', d⟩ := ho p.1 hb
    rw [e] at e'; cases e'
    exact ⟨e, f0, f1, f2, d⟩
theorem Inv.unpinned {pins pl : List (Addr × Obj)} {σ : St} {H : Hp} {s : Shared} (I : Inv X (pins ++ pl) σ H s) : Inv X pins σ H s := I.pins_of fun p hp => I.pin p (List.mem_append_right _ (List.mem_append_left _ hp))
theorem ps_for {iter : Expr} {body : List Stmt} {wi : TI} {g : TG} {tb : TS} {pos : Pos} (hp : PassesOwn (model X.prog X.w) X.A X.env X.xe) (hc : X.calm = true) (hi : PI X tg iter wi) (hg : PG X tg g) (hb : PSs X body tb)
    (hs : ∀ x, foldedSetIterable iter X.env x = pure x := by intro _; rfl) : PS X (.For tg iter body [] pos) (tFor wi g tb) := by
  intro pins s σ H D I h
  refine wpAny_For (thn (hi pins s σ H _ I h) fun v s1 h1 => thn h1 fun itv s2 h2 => ?_) hs
  obtain ⟨it, fp, tn, J, H2, e, I2, T, st2, f2, W, ⟨m0, w0⟩, turn⟩ := h2
  subst e
  -- what stays true of the iterator's objects through the loop
  have stat : ∀ {H' : Hp}, (∀ b ∈ fp, H' b = none) → ∀ b ∈ fp, FpOk X pins H' b := fun hn b hb => ⟨hn b hb, (f2 b hb).2⟩
  refine codeAny_forLoop_any (fun n s' => ∃ i σ' H', Inv X pins σ' H' s' ∧ tn i s'.heap ∧ (∀ b ∈ fp, H' b = none) ∧ W i n σ' H') ?_ m0 ⟨0, σ, H2, I2, st2, fun b hb => (f2 b hb).1, w0⟩
  rintro n s3 ⟨i, σ3, H3, I3, st3, fr3, w3⟩
  rcases turn i n σ3 H3 w3 with ⟨stop, qn⟩ | ⟨go, N, hN, step⟩
  · refine wpAny_passesOwn hp (thn (T.done X rfl rfl rfl hc i pins s3 σ3 H3 X.xe I3 (stat fr3) st3 stop) fun r s4 ⟨hr, I4⟩ => ?_)
    subst hr
    exact wpAny_execs_nil ⟨σ3, H3, I4, qn⟩
  · refine wpAny_passesOwn hp (thn (T.item X rfl rfl rfl hc i pins s3 σ3 H3 X.xe I3 (stat fr3) st3 go) fun r s4 ⟨u, hr, h4⟩ => ?_)
    subst hr
    refine wpAny_passesOwn hp (thn h4 fun _ s5 ⟨x, H5, I5, r5, y5, st5, fr5⟩ => ?_)
    have I5' := I5.pinned (stat fr5) (T.obj _ _ st5)
    refine wpAny_passesOwn hp (thn (hg _ s5 σ3 H5 x u _ I5' r5 (step x H5 y5)) fun _ s6 ⟨σ6, H6, I6, q6⟩ => ?_)
    refine wpAny_passesOwn hp (thn (hb _ s6 σ6 H6 _ I6 q6) fun f s7 q7 => ?_)
    have again : ∀ {σ7 : St} {H7 : Hp}, Inv X (pins ++ pinsAt fp s5.heap) σ7 H7 s7 → N σ7 H7 → ∃ m, m < n ∧ ∃ i σ' H', Inv X pins σ' H' s7 ∧ tn i s7.heap ∧ (∀ b ∈ fp, H' b = none) ∧ W i m σ' H' := fun {σ7 H7} I7 n7 => by
      obtain ⟨m', hm, w7⟩ := hN σ7 H7 n7
      refine ⟨m', hm, i + 1, σ7, H7, I7.unpinned, T.keep _ _ _ st5 fun b hb o e => (I7.pin (b, o) (List.mem_append_right _ (List.mem_append_right _ (mem_pinsAt hb e)))).1, fun b hb => ?_, w7⟩
      obtain ⟨o, e, d⟩ := T.obj _ _ st5 b hb
      exact (I7.pin (b, o) (List.mem_append_right _ (List.mem_append_right _ (mem_pinsAt hb e)))).2.1
    cases f with
    | next => obtain ⟨σ7, H7, I7, n7⟩ := q7; exact again I7 n7
    | cont => obtain ⟨σ7, H7, I7, n7⟩ := q7; exact again I7 n7
    | brk => obtain ⟨σ7, H7, I7, q7⟩ := q7; exact ⟨σ7, H7, I7.unpinned, q7⟩
    | ret v => obtain ⟨x7, σ7, H7, I7, r7, q7⟩ := q7; exact ⟨x7, σ7, H7, I7.unpinned, r7, q7⟩
end

/-! ### the forms one uses -/
theorem for_range {lo : Int} {n : Nat} {g : TG} {tb : TS} {D : Ends} {σ : St} {H : Hp} (Pv : Nat → St → Hp → Prop) (h0 : Pv 0 σ H)
    (hs : ∀ i σ H, i < n → Pv i σ H → g (.int (lo + i)) σ H fun σ2 H2 => tb { D with nx := Pv (i + 1), ct := Pv (i + 1), bk := D.nx } σ2 H2) (hd : ∀ σ H, Pv n σ H → D.nx σ H) :
    ∃ W : Nat → Nat → St → Hp → Prop, (∃ m, W 0 m σ H) ∧ ∀ i m σ H, W i m σ H →
      ((Itr lo n).stop i H ∧ D.nx σ H) ∨ ((Itr lo n).go i H ∧ ∃ N : St → Hp → Prop, (∀ σ' H', N σ' H' → ∃ m', m' < m ∧ W (i + 1) m' σ' H') ∧ ∀ x H', (Itr lo n).yld i H x H' → g x σ H' fun σ2 H2 => tb { D with nx := N, ct := N, bk := D.nx } σ2 H2) := by
  refine ⟨fun i m σ H => m = n - i ∧ i ≤ n ∧ Pv i σ H, ⟨n, by simp, Nat.zero_le _, h0⟩, ?_⟩
  rintro i m σ H ⟨rfl, hi, p⟩
  by_cases hlt : i < n
  · refine .inr ⟨hlt, Pv (i + 1), fun σ' H' p' => ⟨n - (i + 1), by omega, rfl, hlt, p'⟩, fun x H' y => ?_⟩
    obtain ⟨e, y⟩ := y
    subst e y
    exact hs i σ _ hlt p
  · have e : i = n := by omega
    subst e
    exact .inl ⟨Nat.le_refl _, hd σ H p⟩
end L2

namespace L2
open PySem PySem.Spec PyProof.Rows

abbrev R2 := V → V → Hp → VK → Prop
/-- a two-place operation on values: f is binaryOp op, inplaceOp op or compareOp op -/
def OpR (X : Cx) (f : Value → Value → Sem Value) (r : R2) : Prop :=
  ∀ (pins : List (Addr × Obj)) (s : Shared) (σ : St) (H : Hp) (x y : V) (v u : Value) (Q : VK), Inv X pins σ H s → RelV x v → RelV y u → r x y H Q →
    wpAny (model X.prog X.w) X.A (f v u) (EP X pins σ Q) X.xe s
/-- a one-place operation -/
def UnR (X : Cx) (f : Value → Sem Value) (r : V → Hp → VK → Prop) : Prop :=
  ∀ (pins : List (Addr × Obj)) (s : Shared) (σ : St) (H : Hp) (x : V) (v : Value) (Q : VK), Inv X pins σ H s → RelV x v → r x H Q →
    wpAny (model X.prog X.w) X.A (f v) (EP X pins σ Q) X.xe s
/-- a call of a value that is known (a builtin, a type) with values -/
def CallR (X : Cx) (f : Value) (r : List V → Hp → VK → Prop) : Prop :=
  ∀ (pins : List (Addr × Obj)) (s : Shared) (σ : St) (H : Hp) (xs : List V) (us : List Value) (Q : VK), Inv X pins σ H s → Vals xs us → r xs H Q →
    wpAny (model X.prog X.w) X.A (call f us) (EP X pins σ Q) X.xe s
/-- a value's truth -/
def TruR (X : Cx) (r : V → Hp → (Bool → Hp → Prop) → Prop) : Prop :=
  ∀ (pins : List (Addr × Obj)) (s : Shared) (σ : St) (H : Hp) (x : V) (v : Value) (Q : Bool → Hp → Prop), Inv X pins σ H s → RelV x v → r x H Q →
    wpAny (model X.prog X.w) X.A (truthy v) (TP X pins σ Q) X.xe s

def tOp (r : R2) (ta tb : TE) : TE := fun σ H Q => ta σ H fun x H1 => tb σ H1 fun y H2 => r x y H2 Q
def tUn (r : V → Hp → VK → Prop) (ta : TE) : TE := fun σ H Q => ta σ H fun x H1 => r x H1 Q
/-- ints in, under C, and a value out -/
def rI (C : Int → Int → Prop) (g : Int → Int → V) : R2 := fun x y H Q => ∃ i j, x = .int i ∧ y = .int j ∧ C i j ∧ Q (g i j) H
def rI0 (g : Int → Int → V) : R2 := fun x y H Q => ∃ i j, x = .int i ∧ y = .int j ∧ Q (g i j) H
def rU (g : Int → V) : V → Hp → VK → Prop := fun x H Q => ∃ i, x = .int i ∧ Q (g i) H

section
variable {X : Cx} {a b c : Expr} {ta tb tc : TE} {pos : Pos}

theorem binT (ha : PE X a ta) (hb : PE X b tb) {pins : List (Addr × Obj)} {s : Shared} {σ : St} {H : Hp} {R : V → V → Hp → Prop} (I : Inv X pins σ H s)
    (h : ta σ H fun x H1 => tb σ H1 fun y H2 => R x y H2) {Q : Value → Shared → Prop} {f : Value → Value → Sem Value}
    (hf : ∀ v u s2 x y H2, Inv X pins σ H2 s2 → RelV x v → RelV y u → R x y H2 → wpAny (model X.prog X.w) X.A (f v u) Q X.xe s2) :
    wpAny (model X.prog X.w) X.A (eval a X.env) (fun v s₁ => wpAny (model X.prog X.w) X.A (eval b X.env) (fun u s₂ => wpAny (model X.prog X.w) X.A (f v u) Q X.xe s₂) X.xe s₁) X.xe s := by
  refine thn (ha pins s σ H _ I h) fun v s1 ⟨x, H1, I1, r1, q1⟩ => ?_
  refine thn (hb pins s1 σ H1 _ I1 q1) fun u s2 ⟨y, H2, I2, r2, q2⟩ => ?_
  exact hf v u s2 x y H2 I2 r1 r2 q2

theorem pe_op {op : Operator} {r : R2} (ho : OpR X (binaryOp op) r) (ha : PE X a ta) (hb : PE X b tb) : PE X (.BinOp a op b pos) (tOp r ta tb) := by
  intro pins s σ H Q I h
  exact wpAny_BinOp (binT ha hb I h fun v u s2 x y H2 I2 rx ry q => ho pins s2 σ H2 x y v u Q I2 rx ry q)
theorem pe_un {op : UnaryOp} {r : V → Hp → VK → Prop} (ho : UnR X (unaryOp op) r) (ha : PE X a ta) : PE X (.UnaryOp op a pos) (tUn r ta) := by
  intro pins s σ H Q I h
  exact UnaryOp_ (thn (ha pins s σ H _ I h) fun v s1 ⟨x, H1, I1, r1, q1⟩ => ho pins s1 σ H1 x v Q I1 r1 q1)
/-! ### ints -/
theorem opI {f : Value → Value → Sem Value} {C : Int → Int → Prop} {g : Int → Int → Int}
    (rule : ∀ (i j : Int) (t u : Tok) (s : Shared) (Q : Value → Shared → Prop) (E : Value → Shared → Prop), C i j → Q (.int (g i j) s.toks) { s with toks := s.toks + 1 } → wpAny (model X.prog X.w) X.A (f (.int i t) (.int j u)) Q E s) :
    OpR X f (rI C fun i j => .int (g i j)) := by
  intro pins s σ H x y v u Q I rx ry h
  obtain ⟨i, j, rfl, rfl, hc, q⟩ := h
  obtain ⟨t, rfl⟩ := rx
  obtain ⟨t', rfl⟩ := ry
  exact rule i j t t' s _ _ hc ⟨.int (g i j), H, I.tok _, ⟨_, rfl⟩, q⟩
theorem opI0 {f : Value → Value → Sem Value} {g : Int → Int → Int}
    (rule : ∀ (i j : Int) (t u : Tok) (s : Shared) (Q : Value → Shared → Prop) (E : Value → Shared → Prop), Q (.int (g i j) s.toks) { s with toks := s.toks + 1 } → wpAny (model X.prog X.w) X.A (f (.int i t) (.int j u)) Q E s) :
    OpR X f (rI0 fun i j => .int (g i j)) := by
  intro pins s σ H x y v u Q I rx ry h
  obtain ⟨i, j, rfl, rfl, q⟩ := h
  obtain ⟨t, rfl⟩ := rx
  obtain ⟨t', rfl⟩ := ry
  exact rule i j t t' s _ _ ⟨.int (g i j), H, I.tok _, ⟨_, rfl⟩, q⟩
theorem opB0 {f : Value → Value → Sem Value} {g : Int → Int → Bool}
    (rule : ∀ (i j : Int) (t u : Tok) (s : Shared) (Q : Value → Shared → Prop) (E : Value → Shared → Prop), Q (.bool (g i j)) s → wpAny (model X.prog X.w) X.A (f (.int i t) (.int j u)) Q E s) :
    OpR X f (rI0 fun i j => .bl (g i j)) := by
  intro pins s σ H x y v u Q I rx ry h
  obtain ⟨i, j, rfl, rfl, q⟩ := h
  obtain ⟨t, rfl⟩ := rx
  obtain ⟨t', rfl⟩ := ry
  exact rule i j t t' s _ _ ⟨.bl (g i j), H, I, rfl, q⟩

def CDiv (i j : Int) : Prop := 0 < j ∧ j < 1073741824
def CDivN (i j : Int) : Prop := j ≠ 0 ∧ j.natAbs < 1073741824
def CPow (i j : Int) : Prop := 0 ≤ j ∧ j ≤ 1000000 ∧ i.natAbs < 2 ^ 64
def CMul (i j : Int) : Prop := (-(2 ^ 64) < i ∧ i < 2 ^ 64) ∨ (-(2 ^ 64) < j ∧ j < 2 ^ 64)
theorem CMul.ok {i j : Int} (h : CMul i j) : IntMulOk i j := by
  rcases h with ⟨h1, h2⟩ | ⟨h1, h2⟩
  · exact .of_left (intBits_le_64 h1 h2)
  · exact .of_right (intBits_le_64 h1 h2)
theorem op_add : OpR X (binaryOp .Add) (rI0 fun i j => .int (i + j)) := opI0 fun _ _ _ _ _ _ _ q => add_int q
theorem op_sub : OpR X (binaryOp .Sub) (rI0 fun i j => .int (i - j)) := opI0 fun _ _ _ _ _ _ _ q => sub_int q
theorem op_mul : OpR X (binaryOp .Mult) (rI CMul fun i j => .int (i * j)) := opI fun _ _ _ _ _ _ _ hc q => mul_int q hc.ok
/-- // by a positive divisor -/
theorem op_fdiv : OpR X (binaryOp .FloorDiv) (rI CDiv fun i j => .int (i / j)) := opI fun i j _ _ _ _ _ hc q => by
  have h1 : (0 : Int) < j := hc.1
  have h2 : j < 1073741824 := hc.2
  exact floordiv_int (by omega) (by rw [Int.fdiv_eq_ediv_of_nonneg i (by omega)]; exact q) (.inl (PyProof.noPylong_small (by omega)))
/-- % by a positive divisor of any size -/
theorem op_mod : OpR X (binaryOp .Mod) (rI (fun _ j => 0 < j) fun i j => .int (i % j)) := opI fun i j _ _ _ _ _ hc q => by
  have h1 : (0 : Int) < j := hc
  exact mod_int' (by omega) (by rw [Int.fmod_eq_emod_of_nonneg i (by omega)]; exact q)
theorem unI {f : Value → Sem Value} {g : Int → Int}
    (rule : ∀ (i : Int) (t : Tok) (s : Shared) (Q : Value → Shared → Prop) (E : Value → Shared → Prop), Q (.int (g i) s.toks) { s with toks := s.toks + 1 } → wpAny (model X.prog X.w) X.A (f (.int i t)) Q E s) :
    UnR X f (rU fun i => .int (g i)) := by
  intro pins s σ H x v Q I rx h
  obtain ⟨i, rfl, q⟩ := h
  obtain ⟨t, rfl⟩ := rx
  exact rule i t s _ _ ⟨.int (g i), H, I.tok _, ⟨_, rfl⟩, q⟩
theorem un_neg : UnR X (unaryOp .USub) (rU fun i => .int (-i)) := unI fun _ _ _ _ _ q => neg_int q
/-! ### bools among ints: n += (a < b) -/
end

/-! ### comparisons -/
/-- the scalars that == tells apart as data does -/
def scal : V → V → Bool
  | .non, .non => true | .non, .int _ => true | .int _, .non => true | .non, .bl _ => true | .bl _, .non => true | .non, .str _ => true | .str _, .non => true
  | .int _, .int _ => true | .bl _, .bl _ => true | .str _, .str _ => true | .byt _, .byt _ => true
  | .int _, .str _ => true | .str _, .int _ => true | .bl _, .str _ => true | .str _, .bl _ => true
  | _, _ => false
def rEq : R2 := fun x y H Q => scal x y = true ∧ Q (.bl (decide (x = y))) H
def rNe : R2 := fun x y H Q => scal x y = true ∧ Q (.bl (!decide (x = y))) H

theorem dec_int {i j : Int} : decide (V.int i = V.int j) = (i == j) := by
  rw [Bool.eq_iff_iff]
  simp
theorem dec_bl {i j : Bool} : decide (V.bl i = V.bl j) = (i == j) := by
  rw [Bool.eq_iff_iff]
  simp
theorem dec_str {i j : Str} : decide (V.str i = V.str j) = (i == j) := by
  rw [Bool.eq_iff_iff]
  simp
theorem dec_byt {i j : Array UInt8} : decide (V.byt i = V.byt j) = (i.toList == j.toList) := by
  rw [Bool.eq_iff_iff]
  cases i
  cases j
  simp

section
variable {X : Cx} {a b c : Expr} {ta tb tc : TE} {pos : Pos}
theorem fin_bl {pins : List (Addr × Obj)} {σ : St} {H : Hp} {s : Shared} {Q : VK} {k k' : Bool} (I : Inv X pins σ H s) (q : Q (.bl k) H) (e : k = k') : EP X pins σ Q (.bool k') s := by
  subst e
  exact ⟨.bl k, H, I, rfl, q⟩
theorem op_eq : OpR X (compareOp .Eq) rEq := by
  intro pins s σ H x y v u Q I rx ry h
  obtain ⟨hs, q⟩ := h
  cases x with
  | non =>
    cases rx
    cases y with
    | non => cases ry; exact PySem.EqNone.eq_none_none (fin_bl I q (by simp))
    | bl j => cases ry; exact PySem.EqNone.eq_none_bool (fin_bl I q (by simp))
    | int j => obtain ⟨t', rfl⟩ := ry; exact PySem.EqNone.eq_none_int (fin_bl I q (by simp))
    | str j => obtain ⟨t', rfl⟩ := ry; exact PySem.EqNone.eq_none_str (fin_bl I q (by simp))
    | _ => exact absurd (show false = true from hs) Bool.false_ne_true
  | bl i =>
    cases rx
    cases y with
    | non => cases ry; exact PySem.EqNone.eq_bool_none (fin_bl I q (by simp))
    | bl j => cases ry; exact eq_bool (fin_bl I q dec_bl)
    | str j => obtain ⟨t', rfl⟩ := ry; exact PySem.EqMixed.eq_bool_str (fin_bl I q (by simp))
    | _ => exact absurd (show false = true from hs) Bool.false_ne_true
  | int i =>
    obtain ⟨t, rfl⟩ := rx
    cases y with
    | non => cases ry; exact PySem.EqNone.eq_int_none (fin_bl I q (by simp))
    | int j => obtain ⟨t', rfl⟩ := ry; exact eq_int (fin_bl I q dec_int)
    | str j => obtain ⟨t', rfl⟩ := ry; exact PySem.EqMixed.eq_int_str (fin_bl I q (by simp))
    | _ => exact absurd (show false = true from hs) Bool.false_ne_true
  | str i =>
    obtain ⟨t, rfl⟩ := rx
    cases y with
    | non => cases ry; exact PySem.EqNone.eq_str_none (fin_bl I q (by simp))
    | bl j => cases ry; exact PySem.EqMixed.eq_str_bool (fin_bl I q (by simp))
    | int j => obtain ⟨t', rfl⟩ := ry; exact PySem.EqMixed.eq_str_int (fin_bl I q (by simp))
    | str j => obtain ⟨t', rfl⟩ := ry; exact eq_str (fin_bl I q dec_str)
    | _ => exact absurd (show false = true from hs) Bool.false_ne_true
  | byt i =>
    obtain ⟨t, rfl⟩ := rx
    cases y with
    | byt j => obtain ⟨t', rfl⟩ := ry; exact PySem.W.eq_bytes (fin_bl I q dec_byt)
    | _ => exact absurd (show false = true from hs) Bool.false_ne_true
  | _ => cases y <;> exact absurd (show false = true from hs) Bool.false_ne_true
theorem op_ne : OpR X (compareOp .NotEq) rNe := by
  intro pins s σ H x y v u Q I rx ry h
  obtain ⟨hs, q⟩ := h
  cases x with
  | non =>
    cases rx
    cases y with
    | non => cases ry; exact PySem.EqNone.ne_none_none (fin_bl I q (by simp))
    | bl j => cases ry; exact PySem.EqNone.ne_none_bool (fin_bl I q (by simp))
    | int j => obtain ⟨t', rfl⟩ := ry; exact PySem.EqNone.ne_none_int (fin_bl I q (by simp))
    | str j => obtain ⟨t', rfl⟩ := ry; exact PySem.EqNone.ne_none_str (fin_bl I q (by simp))
    | _ => exact absurd (show false = true from hs) Bool.false_ne_true
  | bl i =>
    cases rx
    cases y with
    | non => cases ry; exact PySem.EqNone.ne_bool_none (fin_bl I q (by simp))
    | bl j => cases ry; exact ne_bool (fin_bl I q (congrArg not dec_bl))
    | str j => obtain ⟨t', rfl⟩ := ry; exact PySem.EqMixed.ne_bool_str (fin_bl I q (by simp))
    | _ => exact absurd (show false = true from hs) Bool.false_ne_true
  | int i =>
    obtain ⟨t, rfl⟩ := rx
    cases y with
    | non => cases ry; exact PySem.EqNone.ne_int_none (fin_bl I q (by simp))
    | int j => obtain ⟨t', rfl⟩ := ry; exact ne_int (fin_bl I q (congrArg not dec_int))
    | str j => obtain ⟨t', rfl⟩ := ry; exact PySem.EqMixed.ne_int_str (fin_bl I q (by simp))
    | _ => exact absurd (show false = true from hs) Bool.false_ne_true
  | str i =>
    obtain ⟨t, rfl⟩ := rx
    cases y with
    | non => cases ry; exact PySem.EqNone.ne_str_none (fin_bl I q (by simp))
    | bl j => cases ry; exact PySem.EqMixed.ne_str_bool (fin_bl I q (by simp))
    | int j => obtain ⟨t', rfl⟩ := ry; exact PySem.EqMixed.ne_str_int (fin_bl I q (by simp))
    | str j => obtain ⟨t', rfl⟩ := ry; exact ne_str (fin_bl I q (congrArg not dec_str))
    | _ => exact absurd (show false = true from hs) Bool.false_ne_true
  | byt i =>
    obtain ⟨t, rfl⟩ := rx
    cases y with
    | byt j => obtain ⟨t', rfl⟩ := ry; exact PySem.W.ne_bytes (fin_bl I q (congrArg not dec_byt))
    | _ => exact absurd (show false = true from hs) Bool.false_ne_true
  | _ => cases y <;> exact absurd (show false = true from hs) Bool.false_ne_true

theorem op_lt : OpR X (compareOp .Lt) (rI0 fun i j => .bl (decide (i < j))) := opB0 fun _ _ _ _ _ _ _ q => lt_int q
theorem op_le : OpR X (compareOp .LtE) (rI0 fun i j => .bl (decide (i ≤ j))) := opB0 fun _ _ _ _ _ _ _ q => le_int q
theorem op_gt : OpR X (compareOp .Gt) (rI0 fun i j => .bl (decide (j < i))) := opB0 fun _ _ _ _ _ _ _ q => gt_int q
theorem op_ge : OpR X (compareOp .GtE) (rI0 fun i j => .bl (decide (j ≤ i))) := opB0 fun _ _ _ _ _ _ _ q => ge_int q
/-- is, is not of two objects that are tracked lists or instances -/
def isObj : HO → Bool
  | .lst _ => true
  | .ins _ _ _ => true
  | _ => false
/-- two rules for one operation: by cases -/
theorem OpR.or {f : Value → Value → Sem Value} {r r' : R2} (h : OpR X f r) (h' : OpR X f r') : OpR X f (fun x y H Q => r x y H Q ∨ r' x y H Q) := by
  intro pins s σ H x y v u Q I rx ry q
  rcases q with q | q
  · exact h pins s σ H x y v u Q I rx ry q
  · exact h' pins s σ H x y v u Q I rx ry q

theorem nomark (b : Expr) {op : CmpOp} (h : op ≠ .In := by decide) (h2 : op ≠ .NotIn := by decide) : behindInMarks op b = false := by
  have e1 : (op == CmpOp.In) = false := by cases op <;> first | rfl | exact absurd rfl h
  have e2 : (op == CmpOp.NotIn) = false := by cases op <;> first | rfl | exact absurd rfl h2
  cases b <;> simp [behindInMarks, e1, e2]
/-- a comparison as a value; hm: nomark b, or (for in, not in) by with_unfolding_all rfl -/
theorem pe_cmpR {op : CmpOp} {r : R2} (ho : OpR X (compareOp op) r) (ha : PE X a ta) (hb : PE X b tb) (hm : behindInMarks op b = false) : PE X (.Compare a [op] [b] pos) (tOp r ta tb) := by
  intro pins s σ H Q I h
  exact wpAny_Compare1 (binT ha hb I h fun v u s2 x y H2 I2 rx ry q => ho pins s2 σ H2 x y v u Q I2 rx ry q) hm
/-- a reading of a value as a test -/
def tTest (t : TE) : TT := fun σ H Q => t σ H fun x H' => ∃ k, x = .bl k ∧ Q k H'
theorem pt_cmpR {op : CmpOp} {r : R2} (ho : OpR X (compareOp op) r) (ha : PE X a ta) (hb : PE X b tb) (hm : behindInMarks op b = false) : PT X (.Compare a [op] [b] pos) (tTest (tOp r ta tb)) := by
  intro pins s σ H Q I h
  refine wpAny_isTrue_Compare1 (thn (ha pins s σ H _ I h) fun v s1 ⟨x, H1, I1, r1, q1⟩ => thn (hb pins s1 σ H1 _ I1 q1) fun u s2 ⟨y, H2, I2, r2, q2⟩ =>
    thn (ho pins s2 σ H2 x y v u _ I2 r1 r2 q2) fun c s3 ⟨z, H3, I3, r3, k, e, q3⟩ => ?_) hm
  subst e
  cases r3
  exact wpAny_truthy_bool ⟨H3, I3, q3⟩
/-- a op1 b op2 c -/
def tChain (r r' : R2) (ta tb tc : TE) : TE := fun σ H Q => ta σ H fun x H1 => tb σ H1 fun y H2 => r x y H2 fun z H3 => ∃ k, z = .bl k ∧
  (if k = true then tc σ H3 fun w' H4 => r' y w' H4 Q else Q (.bl false) H3)
theorem pt_chain {op op' : CmpOp} {r r' : R2} (ho : OpR X (compareOp op) r) (ho' : OpR X (compareOp op') r') (ha : PE X a ta) (hb : PE X b tb) (hc : PE X c tc)
    (hm : lastMarks [op, op'] [b, c] = false := by with_unfolding_all rfl) : PT X (.Compare a [op, op'] [b, c] pos) (tTest (tChain r r' ta tb tc)) := by
  intro pins s σ H Q I h
  refine isTrue_chain (thn (ha pins s σ H _ I h) fun v s1 ⟨x, H1, I1, r1, q1⟩ => test_link (thn (hb pins s1 σ H1 _ I1 q1) fun u s2 ⟨y, H2, I2, r2, q2⟩ =>
    thn (ho pins s2 σ H2 x y v u _ I2 r1 r2 q2) fun d s3 ⟨z, H3, I3, r3, k, e, q3⟩ => ?_)) hm
  subst e
  cases r3
  refine wpAny_truthy_bool ?_
  cases k with
  | false =>
    obtain ⟨k', e', q'⟩ := q3
    cases e'
    exact ite_ff ⟨H3, I3, q'⟩
  | true =>
    refine ite_tt (test_last (thn (hc pins s3 σ H3 _ I3 q3) fun w' s4 ⟨z', H4, I4, r4, q4⟩ => thn (ho' pins s4 σ H4 y z' u w' _ I4 r2 r4 q4) fun d' s5 ⟨z2, H5, I5, r5, k2, e2, q5⟩ => ?_))
    subst e2
    cases r5
    exact wpAny_truthy_bool ⟨H5, I5, q5⟩

/-! ### truth -/
/-- a value's truth by the abstract heap -/
def TruV (K : PySem.W.Frag) (x : V) (H : Hp) (k : Bool) : Prop :=
  match x with
  | .non => k = false
  | .bl b => k = b
  | .int i => k = (i != 0)
  | .str y => y.length ≤ sizeLine ∧ k = ((y.length : Int) != 0)
  | .byt y => y.size ≤ sizeLine ∧ k = ((y.size : Int) != 0)
  | .ref p => (∃ xs, SqL K H p xs ∧ k = !xs.isEmpty) ∨ (∃ xs, SqT K H p xs ∧ k = !xs.isEmpty) ∨ ∃ kvs, H p = some (.dK kvs) ∧ k = !kvs.isEmpty
  | _ => False
theorem line63 : (sizeLine : Nat) < 2 ^ 63 := by rw [sizeLine_eq]; decide
/-! ### strs and bytes -/
theorem op_add_str : OpR X (binaryOp .Add) (fun x y H Q => ∃ i j, x = .str i ∧ y = .str j ∧ i.length + j.length ≤ sizeLine ∧ Q (.str (i ++ j)) H) := by
  intro pins s σ H x y v u Q I rx ry h
  obtain ⟨i, j, rfl, rfl, hz, q⟩ := h
  obtain ⟨t, rfl⟩ := rx
  obtain ⟨t', rfl⟩ := ry
  exact add_str (fun t' tk => ⟨.str (i ++ j), H, I.tok _, ⟨_, rfl⟩, q⟩) hz
def PlainIxT (b : Expr) : Prop := ∀ o i, subscripted b false o i = operate [o, i] (getItem o i)
/-! ### scalar builtins, by CallR -/
theorem vals1 {x : V} {us : List Value} (r : Vals [x] us) : ∃ u, us = [u] ∧ RelV x u := by
  cases r with
  | cons r1 r2 => cases r2; exact ⟨_, rfl, r1⟩
theorem vals2 {x y : V} {us : List Value} (r : Vals [x, y] us) : ∃ u w', us = [u, w'] ∧ RelV x u ∧ RelV y w' := by
  cases r with
  | cons r1 r2 =>
    cases r2 with
    | cons r3 r4 => cases r4; exact ⟨_, _, rfl, r1, r3⟩
theorem call_max2 (hc : X.calm = true) : CallR X (.builtin "max") (fun xs H Q => ∃ i j, xs = [.int i, .int j] ∧ Q (.int (if j > i then j else i)) H) := by
  intro pins s σ H xs us Q I r h
  obtain ⟨i, j, rfl, q⟩ := h
  obtain ⟨u, w', rfl, ⟨t, rfl⟩, ⟨t', rfl⟩⟩ := vals2 r
  refine max_two_ints (I.ok.hd hc) fun h' tk k => ⟨_, H, I.kept k, ?_, q⟩
  by_cases hj : j > i
  · rw [if_pos hj, if_pos hj]; exact ⟨_, rfl⟩
  · rw [if_neg hj, if_neg hj]; exact ⟨_, rfl⟩
theorem call_min2 (hc : X.calm = true) : CallR X (.builtin "min") (fun xs H Q => ∃ i j, xs = [.int i, .int j] ∧ Q (.int (if j < i then j else i)) H) := by
  intro pins s σ H xs us Q I r h
  obtain ⟨i, j, rfl, q⟩ := h
  obtain ⟨u, w', rfl, ⟨t, rfl⟩, ⟨t', rfl⟩⟩ := vals2 r
  refine min_two_ints (I.ok.hd hc) fun h' tk k => ⟨_, H, I.kept k, ?_, q⟩
  by_cases hj : j < i
  · rw [if_pos hj, if_pos hj]; exact ⟨_, rfl⟩
  · rw [if_neg hj, if_neg hj]; exact ⟨_, rfl⟩
theorem call_int1 : CallR X (.type "int") (fun xs H Q => (∃ i, xs = [.int i] ∧ Q (.int i) H) ∨ ∃ k, xs = [.bl k] ∧ Q (.int (if k then 1 else 0)) H) := by
  intro pins s σ H xs us Q I r h
  rcases h with ⟨i, rfl, q⟩ | ⟨k, rfl, q⟩
  · obtain ⟨u, rfl, t, rfl⟩ := vals1 r
    exact call_int_int ⟨.int i, H, I, ⟨_, rfl⟩, q⟩
  · obtain ⟨u, rfl, r1⟩ := vals1 r
    cases r1
    exact call_int_bool ⟨.int (if k then 1 else 0), H, I.tok _, ⟨_, rfl⟩, q⟩
/-- len of a str, a bytes, a list, a tuple -/
def LenV (K : PySem.W.Frag) (x : V) (H : Hp) (n : Nat) : Prop :=
  match x with
  | .str y => y.length ≤ sizeLine ∧ n = y.length
  | .byt y => y.size ≤ sizeLine ∧ n = y.size
  | .ref p => (∃ xs, SqL K H p xs ∧ n = xs.length) ∨ ∃ xs, SqT K H p xs ∧ n = xs.length
  | _ => False
end
end L2

namespace L2
open PySem PySem.Spec PyProof.Rows

/-! ### an instance, its attributes a map -/
structure ObjM (h : Heap) (x dx C : Addr) (mA : Str → Option Value) : Prop where
  obj : h.get? x = some (PySem.W.instObj C dx)
  ns : h.Ns1 dx mA
  ne : dx ≠ x

theorem lookIn_ns {h : Heap} {dx : Addr} {mA : Str → Option Value} (n : h.Ns1 dx mA) : ∃ od, h.get? dx = some od ∧ ∀ name, PySem.W.lookIn name od = some (mA name) := by
  obtain ⟨o, es, ep, ho, hd, hk, _, hm⟩ := n
  refine ⟨o, ho, fun name => ?_⟩
  have e := hm name
  unfold nsFind findBy at e
  rw [← Array.find?_toList] at e
  unfold PySem.W.lookIn
  rw [hd]
  dsimp only
  split
  · rename_i y q
    rw [q] at e
    exact congrArg some e
  · rename_i q
    rw [q] at e
    have a : es.toList.any (·.refKey) = false := by
      rw [List.any_eq_false]
      intro y hy
      obtain ⟨z, t, hkey⟩ := hk y (Array.mem_toList_iff.mp hy)
      simp [DictEntry.refKey, hkey]
    have a' : ¬ es.toList.any (·.refKey) = true := by rw [a]; exact Bool.false_ne_true
    rw [if_neg a']
    exact congrArg some e

theorem ObjM.look {h : Heap} {x dx C : Addr} {mA : Str → Option Value} (I : ObjM h x dx C mA) : ∃ od, PySem.W.InstAt h x (PySem.W.instObj C dx) C (some od) ∧ ∀ name, PySem.W.lookIn name od = some (mA name) :=
  let ⟨od, ho, hl⟩ := lookIn_ns I.ns
  ⟨od, ⟨I.obj, rfl, rfl, ho⟩, hl⟩

section
variable {prog : Program} {w : World} {A : Around} {E : Value → Shared → Prop} {s : Shared} {K : PySem.W.Frag} {x dx C f : Addr} {mA : Str → Option Value} {name : Str} {v : Value}

theorem get_map {expr : Bool} {Q : Value → Shared → Prop} (X : K.In s.heap) (I : ObjM s.heap x dx C mA) (hg : PySem.W.plainGet K C name = true) (hh : PySem.W.hasDictIn K C = true)
    (ha : PySem.W.findIn K (.ref C) name = some none) (hv : mA name = some v) (hv' : PySem.W.handedIn v = true) (h : Q v { s with toks := s.toks + 1 }) :
    wpAny (model prog w) A (getAttr (.ref x) name expr) Q E s := by
  obtain ⟨od, J, hl⟩ := I.look
  exact PySem.W.get_value X J (PySem.W.plainGet_of hg).1 (PySem.W.findObj_own hh ha rfl (by rw [hl, hv])) hv' h

theorem get_meth {pl : Sem Bool} {Q : Value × List Value → Shared → Prop} (X : K.In s.heap) (I : ObjM s.heap x dx C mA) (hg : PySem.W.plainGet K C name = true)
    (hf : PySem.W.findIn K (.ref C) name = some (some (.ref f))) (ht : PySem.W.isFn K (.ref f) = true) (hv : mA name = none) (h : Q (.ref f, [.ref x]) s) :
    wpAny (model prog w) A (getMethod (.ref x) name pl) Q E s := by
  obtain ⟨od, J, hl⟩ := I.look
  exact PySem.W.method_fn X J (PySem.W.plainGet_of hg).1 (PySem.W.plainGet_of hg).2 hf (beq_iff_eq.mp ht) (by show (PySem.W.lookIn name od).map (·.isSome) = some false; rw [hl, hv]; rfl) h

theorem set_map {ns : List Str} {Q : Unit → Shared → Prop} (X : K.In s.heap) (I : ObjM s.heap x dx C mA)
    (hs : PySem.W.findIn K (.ref C) "__setattr__" = some (some (.builtin "object.__setattr__"))) (hp : PySem.W.plainOver K C = true) (ht : PySem.W.takerIn K C name = some none) (hh : PySem.W.hasDictIn K C = true)
    (hw : PySem.Within mA ns) (hsz : ns.length ≤ sizeLine)
    (h : ∀ h', ObjM h' x dx C (fun y => if y = name then some v else mA y) → Heap.SameBut dx s.heap h' → Q () { s with heap := h', toks := s.toks + 2 }) :
    wpAny (model prog w) A (setAttr (.ref x) name v) Q E s := by
  obtain ⟨od, J, hl⟩ := I.look
  refine PySem.W.set_plain X J hs (PySem.W.osa_open (s := { s with toks := s.toks + 1 }) (r := none) X J hp ht fun b => ?_)
  obtain ⟨cd, hc, hd'⟩ := PySem.W.any_some hh
  have hx : s.heap.get? x = some ⟨.ref C, some dx, .plain, #[]⟩ := I.obj
  refine wpAny_bind (wpAny_pure (wpAny_bind (wpAny_bind (wpAny_loadPart hx (wpAny_bind (PySem.W.Looks.here (s := { s with toks := s.toks + 1 }) (PySem.W.looks_clsIn X hc) ?_))))))
  rw [hd']
  refine wpAny_pure (a := some dx) (wpAny_bind (wpAny_pure (wpAny_bind ?_)))
  refine wpAny_nsSet1 (s := { s with toks := s.toks + 1 }) I.ns fun h' hn2 hs2 => ?_
  obtain ⟨oD, esD, epD, hoD, hdD, hcD⟩ := hn2.count (PySem.Within.cons name v hw)
  refine wpAny_bind (wpAny_lookBehind hoD (by rw [hdD]; exact pastItsLine_dict (Nat.le_trans hcD (by rw [List.length_cons]; omega))) ?_)
  exact wpAny_pure (h _ ⟨(hs2.2 _ (Ne.symm I.ne)).trans I.obj, hn2, I.ne⟩ hs2)

/-- C(..): the dict at the heap's end, the instance behind it; then its __init__ -/
theorem make_map {R : Result → Shared → Prop} {vs : List Value} {kw : List (Str × Value)} (X : K.In s.heap) (hm : PySem.W.makesIn K C = true)
    (hi : PySem.W.findIn K (.ref C) "__init__" = some (some (.ref f))) (hf : PySem.W.typeIn K (.ref f) = some (.type "function"))
    (h : codeAny (model prog w) (A.under (.builtin "type.__call__" ⟨.ref C :: vs, kw⟩)) (.call (.ref f) ⟨.ref (s.heap.objs.size + 1) :: vs, kw⟩) (PySem.W.InitBack (s.heap.objs.size + 1) R)
      { s with heap := (s.heap.push PySem.W.emptyDict).push (PySem.W.instObj C s.heap.objs.size) }) :
    codeAny (model prog w) A (.call (.ref C) ⟨vs, kw⟩) R s := by
  obtain ⟨hh, g, d, t, os⟩ := s
  exact PySem.W.make_core (PySem.W.makes_of X hm) (PySem.W.looks_findIn X hi) (fun self => PySem.W.bind_fn X self hf) (.inl rfl) h
end

/-! ### the attributes as a list of pairs -/
def putF (f : Str) (v : V) : List (Str × V) → List (Str × V)
  | [] => [(f, v)]
  | (g, x) :: r => if g = f then (g, v) :: r else (g, x) :: putF f v r
theorem lookup_putF (f g : Str) (v : V) : ∀ fs : List (Str × V), (putF f v fs).lookup g = if g = f then some v else fs.lookup g
  | [] => by
    show List.lookup g [(f, v)] = _
    by_cases h : g = f
    · have hb : (g == f) = true := beq_iff_eq.mpr h
      simp only [List.lookup, hb, if_pos h]
    · have hb : (g == f) = false := beq_eq_false_iff_ne.mpr h
      simp only [List.lookup, hb, if_neg h]
  | (k, x) :: r => by
    have ih := lookup_putF f g v r
    rw [show putF f v ((k, x) :: r) = (if k = f then (k, v) :: r else (k, x) :: putF f v r) from rfl]
    by_cases hk : k = f
    · rw [if_pos hk]
      by_cases h : g = k
      · have hb : (g == k) = true := beq_iff_eq.mpr h
        simp only [List.lookup, hb, if_pos (h.trans hk)]
      · have hb : (g == k) = false := beq_eq_false_iff_ne.mpr h
        simp only [List.lookup, hb, if_neg (fun e : g = f => h (e.trans hk.symm))]
    · rw [if_neg hk]
      by_cases h : g = k
      · have hb : (g == k) = true := beq_iff_eq.mpr h
        simp only [List.lookup, hb, if_neg (fun e : g = f => hk (h.symm.trans e))]
      · have hb : (g == k) = false := beq_eq_false_iff_ne.mpr h
        simp only [List.lookup, hb]
        exact ih
theorem keys_putF (f : Str) (v : V) : ∀ fs : List (Str × V), f ∈ (putF f v fs).map (·.1) ∧ ∀ g, g ∈ fs.map (·.1) → g ∈ (putF f v fs).map (·.1)
  | [] => ⟨by simp [putF], fun g h => by simp at h⟩
  | (k, x) :: r => by
    obtain ⟨i1, i2⟩ := keys_putF f v r
    rw [show putF f v ((k, x) :: r) = (if k = f then (k, v) :: r else (k, x) :: putF f v r) from rfl]
    by_cases hk : k = f
    · rw [if_pos hk]
      subst hk
      exact ⟨by simp, fun g h => by simpa using h⟩
    · rw [if_neg hk]
      refine ⟨?_, fun g h => ?_⟩
      · rw [List.map_cons]
        exact List.mem_cons_of_mem _ i1
      · rw [List.map_cons] at h ⊢
        rcases List.mem_cons.mp h with e | e
        · exact List.mem_cons.mpr (.inl e)
        · exact List.mem_cons_of_mem _ (i2 g e)
theorem length_putF (f : Str) (v : V) : ∀ fs : List (Str × V), (putF f v fs).length ≤ fs.length + 1
  | [] => by simp [putF]
  | (k, x) :: r => by
    have ih := length_putF f v r
    rw [show putF f v ((k, x) :: r) = (if k = f then (k, v) :: r else (k, x) :: putF f v r) from rfl]
    by_cases hk : k = f
    · rw [if_pos hk, List.length_cons, List.length_cons]; omega
    · rw [if_neg hk, List.length_cons, List.length_cons]; omega

theorem RelO.some_of {v : V} {o : Option Value} (r : RelO (some v) o) : ∃ u, o = some u ∧ RelV v u := by
  cases o with
  | none => exact (show False from r).elim
  | some u => exact ⟨u, rfl, r⟩
theorem RelO.none_of {o : Option Value} (r : RelO none o) : o = none := by
  cases o with
  | none => rfl
  | some u => exact (show False from r).elim
theorem handed_of {v : V} {u : Value} (r : RelV v u) : PySem.W.handedIn u = true := by
  cases v with
  | non => cases (show u = Value.none from r); rfl
  | bl b => cases (show u = Value.bool b from r); rfl
  | int i => obtain ⟨t, e⟩ := (show ∃ t, u = Value.int i t from r); cases e; rfl
  | str x => obtain ⟨t, e⟩ := (show ∃ t, u = Value.str x t from r); cases e; rfl
  | byt b => obtain ⟨t, e⟩ := (show ∃ t, u = Value.bytes b t from r); cases e; rfl
  | flt b => obtain ⟨t, e⟩ := (show ∃ t, u = Value.float b t from r); cases e; rfl
  | ref a => cases (show u = Value.ref a from r); rfl
  | ty n => cases (show u = Value.type n from r); rfl

section
variable {P : Program} {w : World} {H H' : Hp} {h h' : Heap} {a C dx : Addr} {fs fs' : List (Str × V)}
theorem ins_get (hok : HOk P w H h) (e : H a = some (.ins C dx fs)) : ∃ mA, ObjM h a dx C mA ∧ (∀ f, RelO (fs.lookup f) (mA f)) ∧ PySem.Within mA (fs.map (·.1)) ∧ fs.length ≤ 1000 ∧ H dx = some (.own a) := by
  obtain ⟨d, z, ne, ob, mA, n, r, q⟩ := (show ObjOk P w H h a (.ins C dx fs) from hok a _ e)
  exact ⟨mA, ⟨ob, n, ne⟩, r, q, z, d⟩
end

/-! ### what of the text a class must have -/
structure Cls (K : PySem.W.Frag) (C : Addr) : Prop where
  pg : PySem.W.plainGet K C Str.empty = true
  hd : PySem.W.hasDictIn K C = true
  po : PySem.W.plainOver K C = true
  sa : PySem.W.findIn K (.ref C) "__setattr__" = some (some (.builtin "object.__setattr__"))
theorem Cls.get {K : PySem.W.Frag} {C : Addr} (c : Cls K C) (f : Str) : PySem.W.plainGet K C f = true := c.pg
/-- no class of it has the name -/
def NoAttr (K : PySem.W.Frag) (C : Addr) (f : Str) : Prop := PySem.W.findIn K (.ref C) f = some none
theorem NoAttr.taker {K : PySem.W.Frag} {C : Addr} {f : Str} (n : NoAttr K C f) : PySem.W.takerIn K C f = some none := by
  unfold PySem.W.takerIn
  rw [show PySem.W.findIn K (.ref C) f = some none from n]
  rfl
/-- a constant of the class -/
structure Con (K : PySem.W.Frag) (C : Addr) (f : Str) (v : V) (u : Value) : Prop where
  at_ : PySem.W.findIn K (.ref C) f = some (some u)
  rel : RelV v u
  get : PySem.W.specialIn K u "__get__" = some none
  cp : PySem.W.copiedNames.contains f = false
/-- a method: a plain def of the class or of one above it -/
structure Meth (K : PySem.W.Frag) (C : Addr) (m : Str) (f : Addr) : Prop where
  at_ : PySem.W.findIn K (.ref C) m = some (some (.ref f))
  fn : PySem.W.isFn K (.ref f) = true
  kp : PySem.W.keepIn K (.ref f) = true

section
variable {X : Cx} {pins : List (Addr × Obj)} {σ : St} {H : Hp} {s : Shared} {a C dx : Addr} {fs : List (Str × V)} {f : Str} {v : V} {A : Around} {E : Value → Shared → Prop}

theorem getattr_ok {b : Bool} {Q : Value → Shared → Prop} (I : Inv X pins σ H s) (e : H a = some (.ins C dx fs)) (c : Cls X.K C) (n : NoAttr X.K C f) (l : fs.lookup f = some v)
    (h : ∀ u s', Inv X pins σ H s' → RelV v u → Q u s') : wpAny (model X.prog X.w) A (getAttr (.ref a) f b) Q E s := by
  obtain ⟨mA, O, r, _, _, _⟩ := ins_get I.hok e
  obtain ⟨u, hu, ru⟩ := RelO.some_of (v := v) (o := mA f) (by rw [← l]; exact r f)
  exact get_map I.kIn O (c.get f) c.hd n hu (handed_of ru) (h u _ (I.tok _) ru)

theorem getmeth_ok {m : Str} {g : Addr} {pl : Sem Bool} {Q : Value × List Value → Shared → Prop} (I : Inv X pins σ H s) (e : H a = some (.ins C dx fs)) (c : Cls X.K C) (k : Meth X.K C m g) (l : fs.lookup m = none)
    (h : Q (.ref g, [.ref a]) s) : wpAny (model X.prog X.w) A (getMethod (.ref a) m pl) Q E s := by
  obtain ⟨mA, O, r, _, _, _⟩ := ins_get I.hok e
  have hn : mA m = none := RelO.none_of (by rw [← l]; exact r m)
  exact get_meth I.kIn O (c.get m) k.at_ k.fn hn h

theorem setattr_ok {y : V} {u : Value} {Q : Unit → Shared → Prop} (I : Inv X pins σ H s) (e : H a = some (.ins C dx fs)) (c : Cls X.K C) (n : NoAttr X.K C f) (hl : fs.length < 1000) (ry : RelV y u)
    (h : ∀ s', Inv X pins σ (upd H a (.ins C dx (putF f y fs))) s' → Q () s') : wpAny (model X.prog X.w) A (setAttr (.ref a) f u) Q E s := by
  obtain ⟨mA, O, r, wi, _, ho⟩ := ins_get I.hok e
  have hz : (fs.map (·.1)).length ≤ sizeLine := by rw [List.length_map, sizeLine_eq]; omega
  refine set_map I.kIn O c.sa c.po n.taker c.hd wi hz fun h' O' sb => h _ ?_
  have hd : ∃ o, h'.get? dx = some o := let ⟨o, _, _, e', _⟩ := O'.ns; ⟨o, e'⟩
  refine I.write (x := a) (e := dx) (by rw [e]; exact True.intro) (.inr ho) (fun b q hb z => (sb.2 b hb).trans z) hd ?_
  refine ⟨by rw [upd_ne O.ne]; exact ho, ?_, O.ne, O'.obj, _, O'.ns, fun g => ?_, fun g hg => ?_⟩
  · have := length_putF f y fs; omega
  · show RelO ((putF f y fs).lookup g) (if g = f then some u else mA g)
    rw [lookup_putF]
    by_cases q : g = f
    · rw [if_pos q, if_pos q]; exact ry
    · rw [if_neg q, if_neg q]; exact r g
  · by_cases q : g = f
    · rw [q]; exact (keys_putF f y fs).1
    · refine (keys_putF f y fs).2 g (wi g fun z => hg ?_)
      show (if g = f then some u else mA g) = none
      rw [if_neg q]; exact z

/-- a new instance, tracked, without attributes -/
theorem Inv.made (I : Inv X pins σ H s) : Inv X pins σ (upd (upd H s.heap.objs.size (.own (s.heap.objs.size + 1))) (s.heap.objs.size + 1) (.ins C s.heap.objs.size []))
    { s with heap := (s.heap.push PySem.W.emptyDict).push (PySem.W.instObj C s.heap.objs.size) } := by
  have e1 : (s.heap.push PySem.W.emptyDict).get? s.heap.objs.size = some PySem.W.emptyDict := Heap.get?_push_size s.heap rfl
  have e2 : ((s.heap.push PySem.W.emptyDict).push (PySem.W.instObj C s.heap.objs.size)).get? (s.heap.objs.size + 1) = some (PySem.W.instObj C s.heap.objs.size) := by
    have := Heap.get?_push_size (s.heap.push PySem.W.emptyDict) (o := PySem.W.instObj C s.heap.objs.size) rfl
    rwa [Heap.size_push] at this
  have e3 : (s.heap.push PySem.W.emptyDict).Ns s.heap.objs.size (fun _ => none) := ⟨PySem.W.emptyDict, #[], _, e1, rfl, (fun e he => absurd he (by simp)), fun _ => rfl⟩
  have I1 := I.laid (a := s.heap.objs.size) (o := .own (s.heap.objs.size + 1)) (h' := s.heap.push PySem.W.emptyDict) (t' := s.toks) (fun b u q => Heap.get?_push_of_some _ q) (Nat.le_refl _) ⟨_, e1⟩
  refine I1.laid (a := s.heap.objs.size + 1) (o := .ins C s.heap.objs.size []) (t' := s.toks) (fun b u q => Heap.get?_push_of_some _ q) (Nat.le_of_eq (Heap.size_push _ _)) ?_
  have ne : s.heap.objs.size ≠ s.heap.objs.size + 1 := Nat.ne_of_lt (Nat.lt_succ_self _)
  refine ⟨by rw [upd_ne ne, upd_same], Nat.zero_le _, ne, e2, fun _ => none, (Heap.Ns1.of_empty e3).at fun o q => Heap.get?_push_of_some _ q, fun _ => True.intro, fun y hy => absurd rfl hy⟩

/-- e.f where nothing but the object is asked: through attributeBase (super) and the last hold -/
theorem attr_of {prog : Program} {w : World} {env : Env} {e : Expr} {f : Str} {pos : Pos} {s : Shared} {Q : Value → Shared → Prop} (hb : attributeBase e f env (eval e env) = eval e env)
    (h : wpAny (model prog w) A (eval e env) (fun o s₁ => wpAny (model prog w) A (getAttr o f true) Q E s₁) E s) : wpAny (model prog w) A (eval (.Attribute e f pos) env) Q E s :=
  Attribute_any_ h (by rw [arm_eval_Attribute, hb])
end

/-! ### readings and rules -/
/-- e.f, an attribute of the instance -/
def tFld (K : PySem.W.Frag) (ta : TE) (f : Str) : TE := fun σ H Q => ta σ H fun x H1 => ∃ a C dx fs v, x = .ref a ∧ H1 a = some (.ins C dx fs) ∧ Cls K C ∧ NoAttr K C f ∧ fs.lookup f = some v ∧ Q v H1
/-- e.f, a constant of the class -/
def tCon (K : PySem.W.Frag) (ta : TE) (f : Str) : TE := fun σ H Q => ta σ H fun x H1 => ∃ a C dx fs v u, x = .ref a ∧ H1 a = some (.ins C dx fs) ∧ Cls K C ∧ Con K C f v u ∧ fs.lookup f = none ∧ Q v H1
/-- e.f = value -/
def sFld (K : PySem.W.Frag) (ta tv : TE) (f : Str) : TS := fun D σ H => tv σ H fun y H1 => ta σ H1 fun x H2 => ∃ a C dx fs, x = .ref a ∧ H2 a = some (.ins C dx fs) ∧ Cls K C ∧ NoAttr K C f ∧ fs.length < 1000 ∧
  D.nx σ (upd H2 a (.ins C dx (putF f y fs)))
/-- an augmented operator on two values -/
def InOp (X : Cx) (op : Operator) (rd : V → V → Hp → VK → Prop) : Prop :=
  ∀ (pins : List (Addr × Obj)) (s : Shared) (σ : St) (H : Hp) (x y : V) (u v : Value) (Q : VK), Inv X pins σ H s → RelV x u → RelV y v → rd x y H Q → wpAny (model X.prog X.w) X.A (inplaceOp op u v) (EP X pins σ Q) X.xe s
/-- e.f op= value -/
def sFldAug (K : PySem.W.Frag) (ta tv : TE) (rd : V → V → Hp → VK → Prop) (f : Str) : TS := fun D σ H => ta σ H fun x H1 => ∃ a C dx fs v, x = .ref a ∧ H1 a = some (.ins C dx fs) ∧ Cls K C ∧ NoAttr K C f ∧ fs.lookup f = some v ∧
  tv σ H1 fun y H2 => rd v y H2 fun z H3 => ∃ dx' fs', H3 a = some (.ins C dx' fs') ∧ fs'.length < 1000 ∧ D.nx σ (upd H3 a (.ins C dx' (putF f z fs')))

section
variable {X : Cx} {o e value : Expr} {f : Str} {pos pos' tpos : Pos} {ta tv : TE}
theorem pe_fld (he : PE X e ta) (hb : attributeBase e f X.env (eval e X.env) = eval e X.env) : PE X (.Attribute e f pos) (tFld X.K ta f) := by
  intro pins s σ H Q I h
  refine attr_of hb (thn (he pins s σ H _ I h) fun u s1 ⟨x, H1, I1, rx, a, C, dx, fs, v, ex, ea, c, n, l, q⟩ => ?_)
  subst ex
  obtain rfl : u = Value.ref a := rx
  exact getattr_ok I1 ea c n l fun u' s2 I2 ru => ⟨v, H1, I2, ru, q⟩
theorem ps_fld (ha : PE X o ta) (hv : PE X value tv) (hs : swapsWith value (some (.Attribute o f pos')) pos.line X.env = pure false) : PS X (.Assign [.Attribute o f pos'] value pos) (sFld X.K ta tv f) := by
  intro pins s σ H D I h
  refine plainObj_wpAny_Assign_Attribute (thn (hv pins s σ H _ I h) fun u s1 ⟨y, H1, I1, ry, q⟩ => thn (ha pins s1 σ H1 _ I1 q) fun ov s2 ⟨x, H2, I2, rx, a, C, dx, fs, ex, ea, c, n, l, q2⟩ => ?_) hs
  subst ex
  obtain rfl : ov = Value.ref a := rx
  exact setattr_ok I2 ea c n l ry fun s3 I3 => ⟨σ, _, I3, q2⟩
def rAdd : V → V → Hp → VK → Prop := fun x y H Q => ∃ i j, x = .int i ∧ y = .int j ∧ Q (.int (i + j)) H
def rSub : V → V → Hp → VK → Prop := fun x y H Q => ∃ i j, x = .int i ∧ y = .int j ∧ Q (.int (i - j)) H
end

/-! ### isinstance -/
section
variable {X : Cx} {pins : List (Addr × Obj)} {σ : St} {H : Hp} {s : Shared} {A : Around} {E : Value → Shared → Prop} {Q : Value → Shared → Prop} {c : Value} {b : Bool}
/-- the type of a value, as the fragment's deciders take it; for an instance its class -/
inductive TyOf (K : PySem.W.Frag) (H : Hp) : V → Value → Prop where
  | non : TyOf K H .non (.type "NoneType")
  | bl (x : Bool) : TyOf K H (.bl x) (.type "bool")
  | int (i : Int) : TyOf K H (.int i) (.type "int")
  | str (x : Str) : TyOf K H (.str x) (.type "str")
  | flt (x : UInt64) : TyOf K H (.flt x) (.type "float")
  | lst {a : Addr} {xs : List V} (e : H a = some (.lst xs)) : TyOf K H (.ref a) (.type "list")
  | frz {a : Addr} {o : Obj} {xs : List V} (e : H a = some (.frz o (.lst xs))) : TyOf K H (.ref a) (.type "list")
  | tup {a : Addr} {xs : List V} (e : H a = some (.tup xs)) : TyOf K H (.ref a) (.type "tuple")
  | dK {a : Addr} {kvs : List (Key × V)} (e : H a = some (.dK kvs)) : TyOf K H (.ref a) (.type "dict")
  | dT {a : Addr} {kvs : List (List Key × V)} (e : H a = some (.dT kvs)) : TyOf K H (.ref a) (.type "dict")
  | ins {a C dx : Addr} {fs : List (Str × V)} (e : H a = some (.ins C dx fs)) (cl : Cls K C) (ha : PySem.W.findIn K (.ref C) "__class__" = some (some (.builtin "object.__class__")))
      (hn : PySem.W.specialIn K (.builtin "object.__class__") "__get__" = some (some (.builtin "getset_descriptor.__get__"))) (htk : PySem.W.takesIn K (.builtin "object.__class__") = some true)
      (hm : PySem.W.mroIn K C (.type "object") = some true) : TyOf K H (.ref a) (.ref C)
/-- isinstance(x, c) for one class c, a built-in or an own one: kitOne's answer -/
theorem isinst_ok {x : V} {u t : Value} (I : Inv X pins σ H s) (rx : RelV x u) (ty : TyOf X.K H x t) (e : PySem.W.kitOne X.K t c = some b) (h : ∀ tk, Q (.bool b) { s with toks := tk }) :
    wpAny (model X.prog X.w) A (call (.builtin "isinstance") [u, c]) Q E s := by
  cases ty with
  | non => cases (show u = Value.none from rx); exact PySem.W.kia_one PySem.W.kitx_none I.kIn True.intro e (fun z => nomatch z) h
  | bl y => cases (show u = Value.bool y from rx); exact PySem.W.kia_one PySem.W.kitx_bool I.kIn True.intro e (fun z => nomatch z) h
  | int i => obtain ⟨t, q⟩ := (show ∃ t, u = Value.int i t from rx); cases q; exact PySem.W.kia_one PySem.W.kitx_int I.kIn True.intro e (fun z => nomatch z) h
  | str y => obtain ⟨t, q⟩ := (show ∃ t, u = Value.str y t from rx); cases q; exact PySem.W.kia_one PySem.W.kitx_str I.kIn True.intro e (fun z => nomatch z) h
  | flt y => obtain ⟨t, q⟩ := (show ∃ t, u = Value.float y t from rx); cases q; exact PySem.W.kia_one PySem.W.kitx_float I.kIn True.intro e (fun z => nomatch z) h
  | @lst a xs ea =>
    cases (show u = Value.ref a from rx)
    obtain ⟨_, _, n, _, h1⟩ := (show ObjOk X.prog X.w H s.heap a (.lst xs) from I.hok a _ ea)
    exact PySem.W.kia_one PySem.W.kitx_list I.kIn ⟨_, h1, rfl⟩ e (fun z => nomatch z) h
  | @frz a ob xs ea =>
    cases (show u = Value.ref a from rx)
    obtain ⟨_, _, _, n, _, h1⟩ := (show ObjOk X.prog X.w H s.heap a (.frz ob (.lst xs)) from I.hok a _ ea)
    exact PySem.W.kia_one PySem.W.kitx_list I.kIn ⟨_, h1, rfl⟩ e (fun z => nomatch z) h
  | @tup a xs ea =>
    cases (show u = Value.ref a from rx)
    obtain ⟨_, _, _, p⟩ := (show ObjOk X.prog X.w H s.heap a (.tup xs) from I.hok a _ ea)
    obtain ⟨o, h1, h2, _⟩ := p
    exact PySem.W.kia_one PySem.W.kitx_tuple I.kIn ⟨o, h1, h2⟩ e (fun z => nomatch z) h
  | @dK a kvs ea =>
    cases (show u = Value.ref a from rx)
    obtain ⟨_, _, vs, _, p⟩ := (show ObjOk X.prog X.w H s.heap a (.dK kvs) from I.hok a _ ea)
    obtain ⟨o, es, ep, h1, h2, _⟩ := p
    exact PySem.W.kia_one PySem.W.kitx_dict I.kIn ⟨o, h1, h2.1⟩ e (fun z => nomatch z) h
  | @dT a kvs ea =>
    cases (show u = Value.ref a from rx)
    obtain ⟨_, _, xs, _, o, es, ep, h1, h2, _⟩ := (show ObjOk X.prog X.w H s.heap a (.dT kvs) from I.hok a _ ea)
    exact PySem.W.kia_one PySem.W.kitx_dict I.kIn ⟨o, h1, h2.1⟩ e (fun z => nomatch z) h
  | @ins a C dx fs ea cl ha hn htk hm =>
    cases (show u = Value.ref a from rx)
    obtain ⟨mA, O, _⟩ := ins_get I.hok ea
    obtain ⟨od, J, _⟩ := O.look
    exact PySem.W.kia_one (PySem.W.kitx_own (cl.get _) cl.hd ha hn htk hm) I.kIn J e (fun z => nomatch z) h
end
end L2

namespace L2
open PySem PySem.Spec PyProof.Rows

/-! ### room -/
structure Room (k : Nat) (A : Around) : Prop where
  hd : A.handled = none
  dp : A.depth + 3 * k + 5 < recursionLimit
  un : A.units + 16 * k + 200 < cLine
theorem Room.mono {j k : Nat} {A : Around} (r : Room k A) (h : j ≤ k) : Room j A := ⟨r.hd, by have := r.dp; omega, by have := r.un; omega⟩
theorem Room.deeper {k : Nat} {A : Around} (r : Room (k + 1) A) (env : Env) : Room k (A.deeper env) :=
  ⟨r.hd, by have := r.dp; show A.depth + 1 + 3 * k + 5 < _; omega, by have := r.un; show A.units + 3 + 16 * k + 200 < _; omega⟩
theorem Room.in1 {k : Nat} {A : Around} (r : Room (k + 1) A) : Room k A.in1 :=
  ⟨r.hd, by have := r.dp; show A.depth + 3 * k + 5 < _; omega, by have := r.un; show A.units + 1 + 16 * k + 200 < _; omega⟩
theorem make_depth {A : Around} {C : Addr} {us : List Value} {kw : List (Str × Value)} : (A.under (.builtin "type.__call__" ⟨.ref C :: us, kw⟩)).depth = A.depth + 1 := by
  first | rfl | simp [Around.under, Code.weight, Code.isCreation, Code.isGuard, Code.isCaller, Code.frames, Code.isFrame, guardIds]
theorem make_units {A : Around} {C : Addr} {us : List Value} {kw : List (Str × Value)} : (A.under (.builtin "type.__call__" ⟨.ref C :: us, kw⟩)).units = A.units + 1 := by
  first | rfl | simp [Around.under, Code.cUnits, Code.frames, Code.isFrame]
theorem Room.make {k : Nat} {A : Around} (r : Room (k + 1) A) (C : Addr) (us : List Value) (kw : List (Str × Value)) : Room k (A.under (.builtin "type.__call__" ⟨.ref C :: us, kw⟩)) :=
  ⟨r.hd, by have := r.dp; rw [make_depth]; omega, by have := r.un; rw [make_units]; omega⟩
theorem Room.depth {k : Nat} {A : Around} (r : Room k A) : A.depth < recursionLimit := by have := r.dp; omega
theorem Room.units {k : Nat} {A : Around} (r : Room k A) : A.units + 64 < cLine := by have := r.un; omega
/-! ### argument lists and displays -/
def tNil : TA := fun _ H Q => Q [] H
def tCons (ta : TE) (tr : TA) : TA := fun σ H Q => ta σ H fun x H1 => tr σ H1 fun xs H2 => Q (x :: xs) H2
section
variable {X : Cx} {e : Expr} {es : List Expr} {te : TE} {t : TA} {pos : Pos}
theorem pa_nil : PA X [] tNil := fun _ _ _ _ H Q I h => Calls.spliced_nil ⟨[], H, I, .nil, h⟩
theorem pa_cons (ha : PE X e te) (hr : PA X es t) (hs : starEach (e :: es) X.env = (false, eval e X.env) :: starEach es X.env := by rfl) : PA X (e :: es) (tCons te t) := by
  intro pos pins s σ H Q I h
  rw [hs]
  show wpAny _ _ (spliced ((false, eval e X.env) :: backTo pos (starEach es X.env))) _ _ s
  refine Calls.spliced_cons (thn (ha pins s σ H _ I h) fun u s1 ⟨x, H1, I1, r1, q1⟩ => ?_)
  exact thn (hr pos pins s1 σ H1 _ I1 q1) fun us s2 ⟨xs, H2, I2, r2, q2⟩ => ⟨x :: xs, H2, I2, .cons r1 r2, q2⟩

/-- a tuple, a list of written items -/
def tTup (t : TA) : TE := fun σ H Q => t σ H fun xs H1 => xs.length ≤ sizeLine ∧ ∀ p, H1 p = none → Q (.ref p) (upd H1 p (.tup xs))
def tLst (t : TA) : TE := fun σ H Q => t σ H fun xs H1 => xs.length ≤ sizeLine ∧ ∀ p, H1 p = none → Q (.ref p) (upd H1 p (.lst xs))
theorem pe_tup {x1} (h : PA X es t) : PE X (.Tuple es x1 pos) (tTup t) := by
  intro pins s σ H Q I hq
  refine wpAny_Tuple_spliced (thn (h pos pins s σ H _ I hq) fun us s1 ⟨xs, H1, I1, r, z, q⟩ => ⟨by rw [← r.length]; exact z, ?_⟩)
  have hf : H1 s1.heap.objs.size = none := I1.hok.fresh (Nat.le_refl _)
  refine ⟨.ref s1.heap.objs.size, upd H1 s1.heap.objs.size (.tup xs), I1.laid (t' := s1.toks) (fun b u e => Heap.get?_push_of_some _ e) (Nat.le_refl _) ?_, rfl, q _ hf⟩
  exact ⟨z, us, r, ⟨_, Heap.get?_push_size _ rfl, rfl, _, rfl⟩⟩
theorem pe_lst (h : PA X es t) : PE X (.List es pos) (tLst t) := by
  intro pins s σ H Q I hq
  refine wpAny_List_spliced (thn (h pos pins s σ H _ I hq) fun us s1 ⟨xs, H1, I1, r, z, q⟩ => ⟨by rw [← r.length]; exact z, ?_⟩)
  have hf : H1 s1.heap.objs.size = none := I1.hok.fresh (Nat.le_refl _)
  refine ⟨.ref s1.heap.objs.size, upd H1 s1.heap.objs.size (.lst xs), I1.laid (t' := s1.toks) (fun b u e => Heap.get?_push_of_some _ e) (Nat.le_refl _) ?_, rfl, q _ hf⟩
  exact ⟨z, us, 0, r, Heap.get?_push_size _ rfl⟩
end

/-! ### what a def promises -/
/-- a def's promise: the bound arguments in the parameters' order, the heap, the wanted end, the wanted exception -/
abbrev Sp := List V → Hp → VK → XK → Prop
/-- how an exception lies behind a call (file 08 gives it): the callers' frames, abstract heap and state ahead of the call, the wish, the exception, the state -/
abbrev CXT := List Env → Hp → Shared → XK → Value → Shared → Prop

/-- the state at a call -/
structure Env0 (P : Program) (w : World) (K : PySem.W.Frag) (mg : Str → Option Value) (base : Heap) (A : Around) (outer : List Env) (s : Shared) (H : Hp) : Prop where
  frames : A.frames = some outer
  mod : Mod K mg base
  bs : ∀ b o, base.get? b = some o → s.heap.get? b = some o ∧ H b = none
  bsz : base.objs.size ≤ s.heap.objs.size
  funs : s.heap.FunFrames base outer
  frf : ∀ b ∈ frs outer, H b = none
  hok : HOk P w H s.heap
  bare : AllBare s.gens
/-- a call's end -/
def CE (outer : List Env) (P : Program) (w : World) (H : Hp) (s : Shared) (Q : VK) (u : Value) (s' : Shared) : Prop :=
  ∃ v H', s'.os = s.os ∧ AllBare s'.gens ∧ Un (frs outer) [] H H' s.heap s'.heap ∧ HOk P w H' s'.heap ∧ RelV v u ∧ Q v H'
def CR (CX : CXT) (outer : List Env) (P : Program) (w : World) (H : Hp) (s : Shared) (Q : VK) (E : XK) (r : Result) (s' : Shared) : Prop :=
  match r with
  | .ok (.ret u) => CE outer P w H s Q u s'
  | .ok _ => False
  | .error e => CX outer H s E e s'
structure FnOk (P : Program) (w : World) (K : PySem.W.Frag) (mg : Str → Option Value) (base : Heap) (CX : CXT) (k : Nat) (f : Addr) (fd : FuncData) (ps : List Str) (sp : Sp) : Prop where
  len : ∀ vs H Q E, sp vs H Q E → vs.length = ps.length
  run : ∀ (A : Around) (outer : List Env) (s : Shared) (H : Hp) (args : Args) (us : List Value) (vs : List V) (Q : VK) (E : XK), Room k A → Env0 P w K mg base A outer s H → BindsTo s fd args (ps.zip us) → Vals vs us → sp vs H Q E →
    codeAny (model P w) A (.call (.ref f) args) (CR CX outer P w H s Q E) s
theorem FnOk.mono {P : Program} {w : World} {K : PySem.W.Frag} {mg : Str → Option Value} {base : Heap} {CX : CXT} {j k : Nat} {f : Addr} {fd : FuncData} {ps : List Str} {sp : Sp} (F : FnOk P w K mg base CX j f fd ps sp) (h : j ≤ k) :
    FnOk P w K mg base CX k f fd ps sp := ⟨F.len, fun A outer s H args us vs Q E hr => F.run A outer s H args us vs Q E (hr.mono h)⟩
/-- a weaker promise -/
theorem FnOk.imp {P : Program} {w : World} {K : PySem.W.Frag} {mg : Str → Option Value} {base : Heap} {CX : CXT} {k : Nat} {f : Addr} {fd : FuncData} {ps : List Str} {sp sp' : Sp} (F : FnOk P w K mg base CX k f fd ps sp)
    (h : ∀ vs H Q E, sp' vs H Q E → sp vs H Q E) : FnOk P w K mg base CX k f fd ps sp' :=
  ⟨fun vs H Q E q => F.len vs H Q E (h _ _ _ _ q), fun A outer s H args us vs Q E hr he hb hv hs => F.run A outer s H args us vs Q E hr he hb hv (h _ _ _ _ hs)⟩

theorem Env0.make {P : Program} {w : World} {K : PySem.W.Frag} {mg : Str → Option Value} {base : Heap} {A : Around} {outer : List Env} {s : Shared} {H : Hp} (e : Env0 P w K mg base A outer s H) (C : Addr) (us : List Value) (kw : List (Str × Value)) :
    Env0 P w K mg base (A.under (.builtin "type.__call__" ⟨.ref C :: us, kw⟩)) outer s H := ⟨by first | exact e.frames | (simpa [Around.under, Code.envs, Code.isFrame, pushEnvs] using e.frames), e.mod, e.bs, e.bsz, e.funs, e.frf, e.hok, e.bare⟩
theorem Env0.in1 {P : Program} {w : World} {K : PySem.W.Frag} {mg : Str → Option Value} {base : Heap} {A : Around} {outer : List Env} {s : Shared} {H : Hp} (e : Env0 P w K mg base A outer s H) :
    Env0 P w K mg base A.in1 outer s H := ⟨e.frames, e.mod, e.bs, e.bsz, e.funs, e.frf, e.hok, e.bare⟩

section
variable {X : Cx} {pins : List (Addr × Obj)} {σ : St} {H : Hp} {s s' : Shared}
/-- from a body: what a callee wants -/
theorem Inv.env0 (I : Inv X pins σ H s) : Env0 X.prog X.w X.K X.mg X.base X.A X.stack s H :=
  ⟨I.ok.frames, I.ok.mod, I.bs, Nat.le_trans I.ok.bsz I.sz, I.stack, I.stkFree, I.hok, I.bare⟩
/-- behind a call -/
theorem Inv.after {Q : VK} {u : Value} (I : Inv X pins σ H s) (h : CE X.stack X.prog X.w H s Q u s') : EP X pins σ Q u s' := by
  obtain ⟨v, H', os, bare, un, hok, r, q⟩ := h
  obtain ⟨hh, g, d, t, os'⟩ := s'
  obtain rfl : os' = s.os := os
  exact ⟨v, H', I.call (h' := hh) (g' := g) (d' := d) (t' := t) (ch := []) un hok bare (fun b z => absurd z (by simp)), r, q⟩
end

/-! ### calls -/
/-- f(..): the written arguments, then the defaults dvs; E: what is wanted of an exception -/
def tCall (sp : Sp) (dvs : List V) (E : XK) (t : TA) : TE := fun σ H Q => t σ H fun vs H1 => sp (vs ++ dvs) H1 Q E
/-- o.m(..) of an instance of the class at C -/
def tMeth (C : Addr) (m : Str) (sp : Sp) (dvs : List V) (E : XK) (ta : TE) (t : TA) : TE := fun σ H Q => ta σ H fun x H1 => ∃ a dx fs, x = .ref a ∧ H1 a = some (.ins C dx fs) ∧ fs.lookup m = none ∧
  t σ H1 fun vs H2 => sp (x :: (vs ++ dvs)) H2 Q E
/-- C(..): a new instance and its dict, then __init__ -/
def tMake (C : Addr) (sp : Sp) (dvs : List V) (E : XK) (t : TA) : TE := fun σ H Q => t σ H fun vs H1 => ∀ x dx, H1 x = none → H1 dx = none → dx ≠ x →
  sp (.ref x :: (vs ++ dvs)) (upd (upd H1 dx (.own x)) x (.ins C dx [])) (fun v H2 => v = .non ∧ Q (.ref x) H2) E

/-- how the parameters are bound: us the positional arguments, kw the keywords' values by name, ds the defaults that fill up -/
def Binds (K : PySem.W.Frag) (fd : FuncData) (ps : List Str) (ds : List Value) : Prop :=
  ∀ (s : Shared) (us : List Value), K.In s.heap → (us ++ ds).length = ps.length → BindsTo s fd ⟨us, []⟩ (ps.zip (us ++ ds))
/-- every parameter is given -/
theorem Binds.all {K : PySem.W.Frag} {fd : FuncData} {ps : List Str} (h : ∀ us : List Value, us.length = ps.length → bindArgs fd ⟨us, []⟩ = pure (ps.zip us)) : Binds K fd ps [] := fun s us _ hl => by
  rw [List.append_nil] at hl ⊢
  exact .of_eq (h us hl)

/-- an exception of a callee reaches what this body wants of exceptions -/
def Passes (CX : CXT) (X : Cx) (E : XK) : Prop := ∀ (pins : List (Addr × Obj)) (σ : St) (H : Hp) (s : Shared) (e : Value) (s' : Shared), Inv X pins σ H s → CX X.stack H s E e s' → X.xe e s'

section
variable {X : Cx} {CX : CXT} {k : Nat} {f C : Addr} {fd : FuncData} {ps : List Str} {sp : Sp} {dvs : List V} {ds : List Value} {E : XK} {x m : Str} {p pos apos : Pos} {e o : Expr} {es : List Expr} {ta : TE} {t : TA}

/-- the callee runs -/
theorem run_fn {pins : List (Addr × Obj)} {σ : St} {H : Hp} {s : Shared} {Q : VK} {us : List Value} {vs : List V} (F : FnOk X.prog X.w X.K X.mg X.base CX k f fd ps sp) (hr : Room k X.A) (hb : Binds X.K fd ps ds) (hd : Vals dvs ds) (hx : Passes CX X E)
    (I : Inv X pins σ H s) (r : Vals vs us) (h : sp (vs ++ dvs) H Q E) : wpAny (model X.prog X.w) X.A (call (.ref f) us) (EP X pins σ Q) X.xe s := by
  have r2 : Vals (vs ++ dvs) (us ++ ds) := r.append hd
  have hl : (us ++ ds).length = ps.length := by rw [← r2.length]; exact F.len _ _ _ _ h
  refine wpAny_call (codeAny_mono (F.run X.A X.stack s H ⟨us, []⟩ (us ++ ds) (vs ++ dvs) Q E hr I.env0 (hb s us I.kIn hl) r2 h) fun r s' hq => ?_)
  cases r with
  | error e => exact hx pins σ H s e s' I hq
  | ok fl =>
    cases fl with
    | ret u => exact I.after hq
    | next => exact False.elim hq
    | brk => exact False.elim hq
    | cont => exact False.elim hq

theorem pe_call (F : FnOk X.prog X.w X.K X.mg X.base CX k f fd ps sp) (hr : Room k X.A) (hg : Gl X x) (hm : X.mg x = some (.ref f)) (hk : PySem.W.keepIn X.K (.ref f) = true) (hb : Binds X.K fd ps ds) (hd : Vals dvs ds) (hx : Passes CX X E)
    (ha : PA X (e :: es) t) (hdb : (x == ("__debug__" : Str)) = false := by decide) (he : starEach (e :: es) X.env = (false, eval e X.env) :: starEach es X.env := by rfl) (hpl : (backTo pos (starEach es X.env)).any (·.1) = false := by rfl) :
    PE X (.Call (.Name x p) (e :: es) [] pos) (tCall sp dvs E t) := by
  intro pins s σ H Q I h
  refine wpAny_Call_Name_kw (ld_glob I hg hm ?_ hdb)
  refine PySem.W.callWith_K (h₀ := X.base) I.ok.mod.kin hk (thn (ha pos pins s σ H _ I h) fun us s1 ⟨vs, H1, I1, r, q⟩ => ⟨I1.kIn, ?_⟩) he hpl
  exact run_fn F hr hb hd hx I1 r q
/-- o.m(e, ..) -/
theorem pe_meth {pl : Sem Bool} (he : PE X o ta) (c : Cls X.K C) (hm : Meth X.K C m f) (F : FnOk X.prog X.w X.K X.mg X.base CX k f fd ps sp) (hr : Room k X.A) (hb : Binds X.K fd ps ds) (hd : Vals dvs ds) (hx : Passes CX X E) (ha : PA X (e :: es) t)
    (hst : starEach (e :: es) X.env = (false, eval e X.env) :: starEach es X.env := by rfl) (hpl : (backTo pos (starEach es X.env)).any (·.1) = false := by rfl)
    (ht : eval (.Call (.Attribute o m apos) (e :: es) [] pos) X.env = (do
      let ov ← eval o X.env
      standAt apos.atName
      let (f, first) ← holding [ov] (getMethod ov m pl)
      callWith pos f first (backTo pos (starEach (e :: es) X.env)) (backToKw pos (keywordEach [] X.env))) := by rfl) :
    PE X (.Call (.Attribute o m apos) (e :: es) [] pos) (tMeth C m sp dvs E ta t) := by
  intro pins s σ H Q I h
  refine PySem.W.methodCall_KW (pl := pl) (thn (he pins s σ H _ I h) fun u s1 ⟨x, H1, I1, rx, a, dx, fs, ex, ea, l, q⟩ => ?_) ht
  subst ex
  obtain rfl : u = Value.ref a := rx
  refine getmeth_ok I1 ea c hm l ?_
  refine PySem.W.callWith_K (first := [.ref a]) (h₀ := X.base) I.ok.mod.kin hm.kp (thn (ha pos pins s1 σ H1 _ I1 q) fun us s2 ⟨vs, H2, I2, r, q2⟩ => ⟨I2.kIn, ?_⟩) hst hpl
  exact run_fn (us := .ref a :: us) (vs := .ref a :: vs) F hr hb hd hx I2 (.cons rfl r) q2
/-- what a class must have to be made -/
structure Mk (K : PySem.W.Frag) (C f : Addr) : Prop where
  makes : PySem.W.makesIn K C = true
  init : PySem.W.findIn K (.ref C) "__init__" = some (some (.ref f))
  fn : PySem.W.isFn K (.ref f) = true
  kp : PySem.W.keepIn K (.ref C) = true

theorem run_make {pins : List (Addr × Obj)} {σ : St} {H : Hp} {s : Shared} {Q : VK} {us : List Value} {vs : List V} (M : Mk X.K C f) (F : FnOk X.prog X.w X.K X.mg X.base CX k f fd ps sp) (hr : Room (k + 1) X.A) (hb : Binds X.K fd ps ds) (hd : Vals dvs ds)
    (hx : Passes CX X E) (I : Inv X pins σ H s) (r : Vals vs us)
    (h : ∀ x dx, H x = none → H dx = none → dx ≠ x → sp (.ref x :: (vs ++ dvs)) (upd (upd H dx (.own x)) x (.ins C dx [])) (fun v H2 => v = .non ∧ Q (.ref x) H2) E) :
    wpAny (model X.prog X.w) X.A (call (.ref C) us) (EP X pins σ Q) X.xe s := by
  have hq := h (s.heap.objs.size + 1) s.heap.objs.size (I.hok.fresh (Nat.le_succ _)) (I.hok.fresh (Nat.le_refl _)) (Nat.ne_of_lt (Nat.lt_succ_self _))
  have I2 := Inv.made (C := C) I
  have r2 : Vals (V.ref (s.heap.objs.size + 1) :: (vs ++ dvs)) (Value.ref (s.heap.objs.size + 1) :: (us ++ ds)) := .cons rfl (r.append hd)
  have hl : (Value.ref (s.heap.objs.size + 1) :: us ++ ds).length = ps.length := by
    have e := r2.length
    rw [F.len _ _ _ _ hq] at e
    exact e.symm
  refine wpAny_call (make_map (f := f) I.kIn M.makes M.init (beq_iff_eq.mp M.fn) (codeAny_mono (F.run _ X.stack _ _ ⟨Value.ref (s.heap.objs.size + 1) :: us, []⟩ (Value.ref (s.heap.objs.size + 1) :: (us ++ ds)) _ _ E (hr.make C us [])
    (I2.env0.make C us []) (hb _ (Value.ref (s.heap.objs.size + 1) :: us) I2.kIn hl) r2 hq) fun r s' hq' => ?_))
  cases r with
  | error e => exact hx pins σ _ _ e s' I2 hq'
  | ok fl =>
    cases fl with
    | ret u =>
      obtain ⟨v, H', I3, rv, ev, q3⟩ := I2.after hq'
      subst ev
      exact ⟨rv, ⟨V.ref (s.heap.objs.size + 1), H', I3, rfl, q3⟩⟩
    | next => exact False.elim hq'
    | brk => exact False.elim hq'
    | cont => exact False.elim hq'
theorem pe_make0 (M : Mk X.K C f) (F : FnOk X.prog X.w X.K X.mg X.base CX k f fd ps sp) (hr : Room (k + 1) X.A) (hg : Gl X x) (hm : X.mg x = some (.ref C)) (hb : Binds X.K fd ps ds) (hd : Vals dvs ds) (hx : Passes CX X E)
    (hdb : (x == ("__debug__" : Str)) = false := by decide) : PE X (.Call (.Name x p) [] [] pos) (tMake C sp dvs E tNil) := by
  intro pins s σ H Q I h
  refine wpAny_Call_Name_kw (ld_glob I hg hm ?_ hdb)
  exact PySem.W.callWith_K0 I.kIn M.kp (run_make (us := []) M F hr hb hd hx I .nil h)
end

/-! ### keywords -/
/-- the values of the keywords, from the left -/
def PK (X : Cx) (kws : List Keyword) (t : TA) : Prop :=
  ∀ (pos : Pos) (pins : List (Addr × Obj)) (s : Shared) (σ : St) (H : Hp) (Q : List V → Hp → Prop), Inv X pins σ H s → t σ H Q → wpAny (model X.prog X.w) X.A (evalAll ((backToKw pos (keywordEach kws X.env)).map (·.2))) (AP X pins σ Q) X.xe s
section
variable {X : Cx} {CX : CXT} {k : Nat} {f C : Addr} {fd : FuncData} {ps ks : List Str} {sp : Sp} {E : XK} {x m : Str} {p pos apos kpos : Pos} {e o : Expr} {es : List Expr} {kws : List Keyword} {te ta : TE} {t tk : TA} {nm : Option Str}
/-- how a call with keywords binds: g puts the positional values us and the keywords' values ws (names ks) in the parameters' order, defaults among them -/
structure KBinds (K : PySem.W.Frag) (fd : FuncData) (ps ks : List Str) (g : List Value → List Value → List Value) (gV : List V → List V → List V) : Prop where
  to : ∀ (s : Shared) (us ws : List Value), K.In s.heap → (g us ws).length = ps.length → BindsTo s fd ⟨us, ks.zip ws⟩ (ps.zip (g us ws))
  rel : ∀ {vs : List V} {us : List Value} {zs : List V} {ws : List Value}, Vals vs us → Vals zs ws → Vals (gV vs zs) (g us ws)
def tCallK (sp : Sp) (gV : List V → List V → List V) (E : XK) (t tk : TA) : TE := fun σ H Q => t σ H fun vs H1 => tk σ H1 fun zs H2 => sp (gV vs zs) H2 Q E
variable {g : List Value → List Value → List Value} {gV : List V → List V → List V}
end

/-! ### a def's body keeps its promise -/
/-- names: the parameters first -/
structure FnScope (N P : List Str) (sc : Scope) : Prop where
  kind : sc.kind = .function
  co : sc.isCoroutine = false
  gen : sc.isGenerator = false
  nd : N.Nodup
  pre : N.take P.length = P
  par : ∀ x ∈ P, sc.names.lookup x = some .local ∨ sc.names.lookup x = some .cell
  nofree : ∀ y ∈ sc.names, y.2 ≠ .free

theorem bindL_out {kindOf : Str → Option NameKind} {x : Str} : ∀ {binds : List (Str × Value)} {m : Str → Option Value}, (∀ v, (x, v) ∉ binds) → bindL kindOf binds m x = m x
  | [], _, _ => rfl
  | (n, v) :: r, m, h => by
    unfold bindL
    rw [bindL_out fun w hw => h w (List.mem_cons_of_mem _ hw)]
    split
    · have : x ≠ n := by rintro rfl; exact h v List.mem_cons_self
      simp [this]
    · rfl
theorem bindC_out {kindOf : Str → Option NameKind} {x : Str} : ∀ {binds : List (Str × Value)} {m : Str → Option Value}, (∀ v, (x, v) ∉ binds) → bindC kindOf binds m x = m x
  | [], _, _ => rfl
  | (n, v) :: r, m, h => by
    unfold bindC
    rw [bindC_out fun w hw => h w (List.mem_cons_of_mem _ hw)]
    split
    · rfl
    · have : x ≠ n := by rintro rfl; exact h v List.mem_cons_self
      simp [this]
theorem bindL_get {kindOf : Str → Option NameKind} {x : Str} {v : Value} : ∀ {P : List Str} {vs : List Value} {i : Nat} {m : Str → Option Value}, P.Nodup → P[i]? = some x → vs[i]? = some v → kindOf x = some .local →
    bindL kindOf (P.zip vs) m x = some v
  | [], _, _, _, _, h, _, _ => by simp at h
  | _ :: _, [], _, _, _, _, h, _ => by simp at h
  | p :: P, w :: vs, 0, m, nd, h1, h2, hk => by
    simp at h1 h2; subst h1; subst h2
    show bindL kindOf ((p, w) :: P.zip vs) m p = _
    unfold bindL
    rw [bindL_out fun v hv => (List.nodup_cons.mp nd).1 (List.of_mem_zip hv).1, if_pos hk]
    simp
  | p :: P, w :: vs, i + 1, m, nd, h1, h2, hk => by
    show bindL kindOf ((p, w) :: P.zip vs) m x = _
    unfold bindL
    exact bindL_get (i := i) (List.nodup_cons.mp nd).2 (by simpa using h1) (by simpa using h2) hk
theorem bindC_get {kindOf : Str → Option NameKind} {x : Str} {v : Value} : ∀ {P : List Str} {vs : List Value} {i : Nat} {m : Str → Option Value}, P.Nodup → P[i]? = some x → vs[i]? = some v → kindOf x ≠ some .local →
    bindC kindOf (P.zip vs) m x = some v
  | [], _, _, _, _, h, _, _ => by simp at h
  | _ :: _, [], _, _, _, _, h, _ => by simp at h
  | p :: P, w :: vs, 0, m, nd, h1, h2, hk => by
    simp at h1 h2; subst h1; subst h2
    show bindC kindOf ((p, w) :: P.zip vs) m p = _
    unfold bindC
    rw [bindC_out fun v hv => (List.nodup_cons.mp nd).1 (List.of_mem_zip hv).1, if_neg hk]
    simp
  | p :: P, w :: vs, i + 1, m, nd, h1, h2, hk => by
    show bindC kindOf ((p, w) :: P.zip vs) m x = _
    unfold bindC
    exact bindC_get (i := i) (List.nodup_cons.mp nd).2 (by simpa using h1) (by simpa using h2) hk

/-- the names' values at the entry -/
def start (N : List Str) (vs : List V) : St := vs.map some ++ List.replicate (N.length - vs.length) none

/-- the context of a def's body, at its entry; an exception leaves the frame, then lies as CX says -/
def cxOf (CX : CXT) (P : Program) (w : World) (K : PySem.W.Frag) (mg : Str → Option Value) (base : Heap) (N : List Str) (qual : Str) (scope : Scope) (f : Addr) (cd : Value) (A : Around) (outer : List Env) (s : Shared) (H : Hp) (E : XK) : Cx where
  prog := P
  w := w
  K := K
  mg := mg
  base := base
  A := A.deeper (envOfC qual scope s.heap.objs.size f cd)
  N := N
  s₀ := s
  H₀ := H
  env := envOfC qual scope s.heap.objs.size f cd
  outer := outer
  stack := envOfC qual scope s.heap.objs.size f cd :: outer
  ex := []
  calm := true
  fn := fun _ => true
  pn := []
  xe := fun e s' => wpAny (model P w) (A.deeper (envOfC qual scope s.heap.objs.size f cd)) (leaving (envOfC qual scope s.heap.objs.size f cd) e) (fun _ s'' => CX outer H s E e s'') (fun e' s'' => CX outer H s E e' s'') s'

theorem cell_has {sc : Scope} {n : Nat} {x : Str} (h : sc.names.lookup x = some .cell) : ∃ c, (cellsFrom n sc.names []).lookup x = some c := by
  have q := PySem.W.cellsFrom_some sc.names n [] (.inl h)
  exact Option.isSome_iff_exists.mp q

theorem inv_start {CX : CXT} {P : Program} {w : World} {K : PySem.W.Frag} {mg : Str → Option Value} {base : Heap} {N ps : List Str} {qual : Str} {scope : Scope} {f : Addr} {cd : Value} {A : Around} {outer : List Env} {s s1 : Shared} {H : Hp} {E : XK} {us : List Value} {vs : List V}
    (S : FnScope N ps scope) (hd : A.handled = none) (e0 : Env0 P w K mg base A outer s H) (hl : vs.length = ps.length) (r : Vals vs us)
    (x : InCallC s s.heap.objs.size (bindL (envOfC qual scope s.heap.objs.size f cd).kindOf (ps.zip us) fun _ => none) (cellsFrom (s.heap.objs.size + 1) scope.names []) (bindC (envOfC qual scope s.heap.objs.size f cd).kindOf (ps.zip us) fun _ => none) s1) :
    Inv (cxOf CX P w K mg base N qual scope f cd A outer s H E) [] (start N vs) H s1 := by
  have hpl : ps.length ≤ N.length := by have := congrArg List.length S.pre; rw [List.length_take] at this; omega
  obtain ⟨h1, tk, rfl, hk⟩ := x.done
  have noA : ∀ b : Addr, b ∉ (cxOf CX P w K mg base N qual scope f cd A outer s H E).ex := fun b z => absurd (show b ∈ ([] : List Addr) from z) (by simp)
  refine ⟨⟨e0.mod, S.kind, rfl, rfl, Nat.le_refl _, fun y z c h1 h2 => ?_, fun y hy => ?_, fun y c _ h => ?_, fun _ => hd, Around.frames_deeper e0.frames, .inr ⟨rfl, rfl⟩, fun b z => absurd z (noA b), e0.bs, e0.bsz, fun b _ _ => noA b, fun b z => absurd z (noA b), e0.funs, e0.frf⟩,
    rfl, e0.bare, Un.kept hk, ⟨_, x.toInCall.ns, fun i y v h1 h2 h3 => ?_⟩, fun y c h => ⟨_, x.cell y c h⟩, e0.hok.fresh (Nat.le_refl _), fun y c h => ?_, fun p hp => absurd (show p ∈ ([] : List (Addr × Obj)) from hp) (by simp), e0.hok.kept hk, ?_⟩
  · exact name_of_addr x.apart (PySem.mem_of_lookup h1) (PySem.mem_of_lookup h2)
  · have hy : scope.names.lookup y = some .cell ∨ scope.names.lookup y = some .free := hy
    rcases hy with hy | hy
    · exact cell_has hy
    · exact absurd rfl (S.nofree _ (PySem.mem_of_lookup hy))
  · exact Nat.le_of_lt (x.above y c (PySem.mem_of_lookup h))
  · have hi : i < vs.length := by
      unfold start at h2
      by_cases hi : i < vs.length
      · exact hi
      · rw [List.getElem?_append_right (by simpa using hi)] at h2
        rw [List.getElem?_replicate] at h2
        split at h2 <;> cases h2
    have ha : vs[i]? = some v := by
      unfold start at h2
      rw [List.getElem?_append_left (by simpa using hi), List.getElem?_map] at h2
      cases e : vs[i]? with
      | none => rw [e] at h2; cases h2
      | some a => rw [e] at h2; cases h2; rfl
    obtain ⟨u, hu, rv⟩ := r.get ha
    have hp : ps[i]? = some y := by
      rw [← S.pre, List.getElem?_take_of_lt (by omega)]; exact h1
    have ndP : ps.Nodup := by rw [← S.pre]; exact S.nd.sublist (List.take_sublist _ _)
    refine ⟨u, rv, ?_⟩
    rcases S.par y (List.mem_of_getElem? hp) with k | k
    · exact .inl ⟨k, bindL_get ndP hp hu k⟩
    · obtain ⟨c, e⟩ := cell_has (n := s.heap.objs.size + 1) k
      refine .inr ⟨.inl k, c, e, ?_⟩
      have q := x.cell y c e
      rw [bindC_get ndP hp hu (by show scope.names.lookup y ≠ _; rw [k]; decide)] at q
      exact q
  · exact e0.hok.fresh (Nat.le_of_lt (x.above y c (PySem.mem_of_lookup h)))
  · unfold start
    show _ = N.length
    rw [List.length_append, List.length_map, List.length_replicate]
    omega

/-- THE RULE: a def (or a method) of the text, by its body. The body's reading t is chosen for each entry; it is run at the parameters' values -/
theorem fn_of {CX : CXT} {P : Program} {w : World} {K : PySem.W.Frag} {mg : Str → Option Value} {base : Heap} {k : Nat} {f : Addr} {name qual : Str} {params : Arguments} {body : List Stmt} {scope : Scope} {dV kV doc pm cdv ct oc : Value} {an od : Option Addr}
    {osl : Array (Option Value)} {N ps : List Str} {sp : Sp} (lk : K.lookup f = some ⟨oc, od, .func (PySem.W.fnOf name qual params body scope dV kV doc pm an cdv ct), osl⟩) (hcd : PySem.W.codeIn K cdv qual = true) (S : FnScope N ps scope)
    (len : ∀ vs H Q E, sp vs H Q E → vs.length = ps.length)
    (hbody : ∀ (A : Around) (outer : List Env) (s : Shared) (H : Hp) (vs : List V) (Q : VK) (E : XK), Room k (A.deeper (envOfC qual scope s.heap.objs.size f cdv)) → sp vs H Q E →
      ∃ t, PSs (cxOf CX P w K mg base N qual scope f cdv A outer s H E) body t ∧ t { nx := fun _ H' => Q .non H', rt := Q } (start N vs) H) :
    FnOk P w K mg base CX (k + 1) f (PySem.W.fnOf name qual params body scope dV kV doc pm an cdv ct) ps sp := by
  refine ⟨len, fun A outer s H args us vs Q E hr e0 hb r hsp => ?_⟩
  have hl := len _ _ _ _ hsp
  have KX : K.In s.heap := e0.mod.kin.keeps fun b o e => (e0.bs b o e).1
  have lim : s.heap.NoLimit := e0.mod.nolimit.keeps fun b o e => (e0.bs b o e).1
  have hkind : ∀ y ∈ ps.zip us, scope.names.lookup y.1 = some .local ∨ (scope.names.lookup y.1 = some .cell ∧ ((cellsFrom (s.heap.objs.size + 1) scope.names []).lookup y.1).isSome = true) := fun ⟨n, v⟩ hy => by
    rcases S.par n (List.of_mem_zip hy).1 with q | q
    · exact .inl q
    · exact .inr ⟨q, PySem.W.cellsFrom_some _ _ _ (.inl q)⟩
  refine codeAny_call_function hr.depth (KX _ _ lk) rfl S.co S.gen rfl (PySem.W.codeRec_of KX hcd) (hb _ _ _ _ ?_)
  refine wpAny_newFunctionEnv_cells S.kind hkind fun env he s1 x => ?_
  subst he
  refine ⟨lim.keeps x.toInCall.keep, codeAny_func ?_⟩
  obtain ⟨t, ht, hq⟩ := hbody A outer s H vs Q E (hr.deeper _) hsp
  have I : Inv (cxOf CX P w K mg base N qual scope f cdv A outer s H E) [] (start N vs) H s1 := inv_start S hr.hd e0 hl r x
  refine wpAny_mono (ht [] s1 (start N vs) H _ I hq) (fun fl s' hs => ?_) fun e s' hs => hs
  have fin : ∀ {σ' : St} {H' : Hp} {v : V} {u : Value}, Inv (cxOf CX P w K mg base N qual scope f cdv A outer s H E) [] σ' H' s' → RelV v u → Q v H' → CE outer P w H s Q u s' :=
    fun {σ' H' v u} J rv q => ⟨v, H', J.os, J.bare, J.base, J.hok, rv, q⟩
  cases fl with
  | ret u =>
    obtain ⟨v, σ', H', J, rv, q⟩ := hs
    exact fin J rv q
  | next =>
    obtain ⟨σ', H', J, q⟩ := hs
    exact fin (v := V.non) (u := Value.none) J rfl q
  | brk =>
    obtain ⟨_, _, _, q⟩ := hs
    exact False.elim q
  | cont =>
    obtain ⟨_, _, _, q⟩ := hs
    exact False.elim q
end L2

namespace L2
open PySem PySem.Spec PyProof.Rows
section
variable {X : Cx} {x : Str} {p pos : Pos} {e : Expr} {es : List Expr} {t : TA} {id T : String} {r : List V → Hp → VK → Prop}

def tCB (r : List V → Hp → VK → Prop) (t : TA) : TE := fun σ H Q => t σ H fun vs H1 => r vs H1 Q
/-- f(e, ..), f a built-in function -/
theorem pe_callB (hc : CallR X (.builtin id) r) (hg : Gl X x) (hm : X.mg x = none) (hv : bootBuiltins x = some (.builtin id)) (ha : PA X (e :: es) t) (hn : x ≠ "__name__" := by decide) (hdb : (x == ("__debug__" : Str)) = false := by decide)
    (he : starEach (e :: es) X.env = (false, eval e X.env) :: starEach es X.env := by rfl) (hpl : (backTo pos (starEach es X.env)).any (·.1) = false := by rfl) : PE X (.Call (.Name x p) (e :: es) [] pos) (tCB r t) := by
  intro pins s σ H Q I h
  refine wpAny_Call_Name_kw (ld_blt I hg hm hv ?_ hn hdb)
  exact PyProof.Rows.callWith_builtin1 (thn (ha pos pins s σ H _ I h) fun us s1 ⟨vs, H1, I1, r1, q1⟩ => hc pins s1 σ H1 vs us Q I1 r1 q1) he hpl
/-- T(e, ..), T a built-in type -/
theorem pe_callTy (hc : CallR X (.type T) r) (hg : Gl X x) (hm : X.mg x = none) (hv : bootBuiltins x = some (.type T)) (ha : PA X (e :: es) t) (hn : x ≠ "__name__" := by decide) (hdb : (x == ("__debug__" : Str)) = false := by decide)
    (he : starEach (e :: es) X.env = (false, eval e X.env) :: starEach es X.env := by rfl) (hpl : (backTo pos (starEach es X.env)).any (·.1) = false := by rfl) : PE X (.Call (.Name x p) (e :: es) [] pos) (tCB r t) := by
  intro pins s σ H Q I h
  refine wpAny_Call_Name_kw (ld_blt I hg hm hv ?_ hn hdb)
  exact PyProof.Rows.callWith_type1 (thn (ha pos pins s σ H _ I h) fun us s1 ⟨vs, H1, I1, r1, q1⟩ => hc pins s1 σ H1 vs us Q I1 r1 q1) he hpl
end
end L2

namespace HT
open PySem PyProof.Rows

/-- t < u of tuples of ints -/
def lexLt : List Int → List Int → Bool
  | [], [] => false
  | [], _ :: _ => true
  | _ :: _, [] => false
  | x :: xs, y :: ys => if x = y then lexLt xs ys else decide (x < y)
section
open PySem.SeqAt
open PySem.AutoSeq1 (wpAny_loadPart')
open PySem.MeetsSeq PySem.MeetsSeq2 PySem.MeetsSeq3

end

section
variable {prog : Program} {w : World} {A : Around} {E : Value → Shared → Prop} {s : Shared}

/-! ### t[a:b], not the whole -/
/-- a slice's bound as a place among n (d where it is left out) -/
def sIx (n d : Nat) : Option Int → Nat
  | none => d
  | some v => if v < 0 then (v + (n : Int)).toNat else min v.toNat n
theorem sIx_none (n d : Nat) : sIx n d none = d := rfl
theorem sIx_nat (n d k : Nat) : sIx n d (some (k : Int)) = min k n := by
  show (if (k : Int) < 0 then ((k : Int) + (n : Int)).toNat else min (k : Int).toNat n) = min k n
  rw [if_neg (by omega), Int.toNat_natCast]
end
end HT

namespace L2
open PySem PySem.Spec PyProof.Rows

/-! ### the parts of a slice -/
abbrev TO := St → Hp → (Option Int → Hp → Prop) → Prop
/-- a slice's part (left out, or an int) -/
def PO (X : Cx) (e : Option Expr) (t : TO) : Prop :=
  ∀ (pins : List (Addr × Obj)) (s : Shared) (σ : St) (H : Hp) (Q : Option Int → Hp → Prop), Inv X pins σ H s → t σ H Q →
    wpAny (model X.prog X.w) X.A (evalPart e X.env) (fun u s' => ∃ o H', Inv X pins σ H' s' ∧ IsPart u o ∧ Q o H') X.xe s
def tNoPart : TO := fun _ H Q => Q none H
def tPart (t : TE) : TO := fun σ H Q => t σ H fun x H1 => ∃ i, x = .int i ∧ Q (some i) H1

section
variable {X : Cx} {e : Expr} {te : TE} {lo hi : Option Expr} {tl th : TO} {pos p2 : Pos}

theorem po_none : PO X none tNoPart := by
  intro pins s σ H Q I h
  rw [evalPart_none]
  exact wpAny_pure ⟨none, H, I, .none, h⟩
theorem po_some (h : PE X e te) : PO X (some e) (tPart te) := by
  intro pins s σ H Q I hw
  rw [evalPart_some]
  refine thn (h pins s σ H _ I hw) fun u s1 ⟨x, H1, I1, r1, q1⟩ => ?_
  obtain ⟨i, rfl, q⟩ := q1
  obtain ⟨t, rfl⟩ := r1
  exact ⟨some i, H1, I1, .int i t, q⟩

/-- what a slice of a value is, by values: the slice object stands at sl -/
def SlR (X : Cx) (r : V → Option Int → Option Int → Hp → VK → Prop) : Prop :=
  ∀ (pins : List (Addr × Obj)) (s : Shared) (σ : St) (H : Hp) (x : V) (v vl vu : Value) (lo hi : Option Int) (sl : Addr) (Q : VK), Inv X pins σ H s → RelV x v → s.heap.IsSliceOf sl vl vu .none → IsPart vl lo → IsPart vu hi → r x lo hi H Q →
    ∃ T id, typeLookup (.type T) "__getitem__" = pure (some (.builtin id)) ∧ s.TypeIs v T ∧ wpAny (model X.prog X.w) X.A (getItem v (.ref sl)) (EP X pins σ Q) X.xe s
theorem SlR.or {r r' : V → Option Int → Option Int → Hp → VK → Prop} (h : SlR X r) (h' : SlR X r') : SlR X (fun x lo hi H Q => r x lo hi H Q ∨ r' x lo hi H Q) := by
  intro pins s σ H x v vl vu lo hi sl Q I rx hs pl pu q
  rcases q with q | q
  · exact h pins s σ H x v vl vu lo hi sl Q I rx hs pl pu q
  · exact h' pins s σ H x v vl vu lo hi sl Q I rx hs pl pu q
def tSl (r : V → Option Int → Option Int → Hp → VK → Prop) (te : TE) (tl th : TO) : TE := fun σ H Q => te σ H fun x H1 => tl σ H1 fun l H2 => th σ H2 fun u H3 => r x l u H3 Q
/-- a[lo:hi], any a -/
theorem pe_slice {r : V → Option Int → Option Int → Hp → VK → Prop} (hr : SlR X r) (he : PE X e te) (hl : PO X lo tl) (hu : PO X hi th) : PE X (.Subscript e (.Slice lo hi none p2) pos) (tSl r te tl th) := by
  intro pins s σ H Q I h
  refine Subscript_ (thn (he pins s σ H _ I h) fun v s1 ⟨x, H1, I1, r1, q1⟩ => ?_)
  refine wpAny_Slice (thn (hl pins s1 σ H1 _ I1 q1) fun vl s2 ⟨l, H2, I2, pl, q2⟩ => thn (hu pins s2 σ H2 _ I2 q2) fun vu s3 ⟨u, H3, I3, pu, q3⟩ => ?_)
  rw [evalPart_none]
  refine wpAny_pure ?_
  have I4 : Inv X pins σ H3 { s3 with heap := s3.heap.push { cls := .type "slice", data := .fields #[vl, vu, .none] } } := I3.kept (t' := s3.toks) fun b ob q => Heap.get?_push_of_some _ q
  obtain ⟨T, id, hT, ht, hg⟩ := hr pins { s3 with heap := s3.heap.push { cls := .type "slice", data := .fields #[vl, vu, .none] } } σ H3 x v vl vu l u s3.heap.objs.size Q I4 r1 (Heap.IsSliceOf.new ..) pl pu q3
  show wpAny (model X.prog X.w) X.A (subscriptTail e (.Slice lo hi none p2) v (.ref s3.heap.objs.size)) (EP X pins σ Q) X.xe { s3 with heap := s3.heap.push { cls := .type "slice", data := .fields #[vl, vu, .none] } }
  exact tail_any (ops := [.ref s3.heap.objs.size, v]) ht hT hg (by with_unfolding_all rfl)

/-- the items of xs[lo:hi] -/
def cutV (xs : List V) (lo hi : Option Int) : List V := (xs.drop (HT.sIx xs.length 0 lo)).take (HT.sIx xs.length xs.length hi - HT.sIx xs.length 0 lo)
theorem cutV_length (xs : List V) (lo hi : Option Int) : (cutV xs lo hi).length ≤ xs.length := by
  unfold cutV
  rw [List.length_take, List.length_drop]
  omega
/-- t[lo:hi], not the whole of it (the whole would be t itself) -/
def rSlT (K : PySem.W.Frag) : V → Option Int → Option Int → Hp → VK → Prop := fun x lo hi H Q => ∃ a xs, x = .ref a ∧ SqT K H a xs ∧
  ¬ (HT.sIx xs.length 0 lo = 0 ∧ HT.sIx xs.length xs.length hi = xs.length) ∧ ∀ p, H p = none → Q (.ref p) (upd H p (.tup (cutV xs lo hi)))
/-! ### t < u, t + u -/
def rLtT (K : PySem.W.Frag) : R2 := fun x y H Q => ∃ a b ns ms, x = .ref a ∧ y = .ref b ∧ SqT K H a (ns.map V.int) ∧ SqT K H b (ms.map V.int) ∧ Q (.bl (HT.lexLt ns ms)) H
/-- t + u, t not empty: u empty gives t itself -/
def rCatT (K : PySem.W.Frag) : R2 := fun x y H Q => ∃ a b xs ys, x = .ref a ∧ y = .ref b ∧ SqT K H a xs ∧ SqT K H b ys ∧ xs ≠ [] ∧ xs.length + ys.length ≤ sizeLine ∧
  (ys = [] → Q (.ref a) H) ∧ (ys ≠ [] → ∀ p, H p = none → Q (.ref p) (upd H p (.tup (xs ++ ys))))
end
end L2

namespace L2
open PySem PySem.Spec PyProof.Rows

/-! ### places -/
/-- the place that an index of any sign means -/
def ixN (n : Nat) (i : Int) : Option Nat := if 0 ≤ i then (if i < n then some i.toNat else none) else if -(n : Int) ≤ i then some (i + n).toNat else none
def atI {α : Type} (xs : List α) (i : Int) : Option α := (ixN xs.length i).bind fun j => xs[j]?
theorem ixN_seq {n : Nat} {i : Int} {j : Nat} (h : ixN n i = some j) : seqIndex? i n = some j ∧ j < n ∧ -(n : Int) ≤ i ∧ i < n := by
  unfold ixN at h
  by_cases h0 : 0 ≤ i
  · rw [if_pos h0] at h
    by_cases h1 : i < n
    · rw [if_pos h1] at h
      have e : i.toNat = j := Option.some.inj h
      exact ⟨by rw [seqIndex_of h0 h1, e], by omega, by omega, h1⟩
    · rw [if_neg h1] at h; cases h
  · rw [if_neg h0] at h
    by_cases h1 : -(n : Int) ≤ i
    · rw [if_pos h1] at h
      have e : (i + n).toNat = j := Option.some.inj h
      exact ⟨by rw [seqIndex_neg (by omega) h1, e], by omega, h1, by omega⟩
    · rw [if_neg h1] at h; cases h
theorem atI_get {α : Type} {xs : List α} {i : Int} {v : α} (h : atI xs i = some v) : ∃ j, seqIndex? i xs.length = some j ∧ xs[j]? = some v ∧ j < xs.length ∧ -(xs.length : Int) ≤ i ∧ i < xs.length := by
  unfold atI at h
  cases e : ixN xs.length i with
  | none => rw [e] at h; cases h
  | some j =>
    rw [e] at h
    obtain ⟨h1, h2, h3, h4⟩ := ixN_seq e
    exact ⟨j, h1, h, h2, h3, h4⟩
theorem atI_nat {α : Type} {xs : List α} {j : Nat} {v : α} (h : xs[j]? = some v) : atI xs (j : Int) = some v := by
  have hj : j < xs.length := (List.getElem?_eq_some_iff.mp h).1
  have e : ixN xs.length (j : Int) = some j := by
    unfold ixN
    rw [if_pos (by omega), if_pos (by omega)]; simp
  unfold atI; rw [e]; exact h
/-! ### what may be subscripted -/
/-- what stands as an index of a plain subscript -/
def PlainIx (b : Expr) : Prop := ∀ o i, subscripted b false o i = operate [o, i] (getItem o i)
/-- a subscript by values -/
def IxR (X : Cx) (r : R2) : Prop :=
  ∀ (value slice : Expr) (pins : List (Addr × Obj)) (s : Shared) (σ : St) (H : Hp) (x y : V) (v u : Value) (Q : VK), Inv X pins σ H s → RelV x v → RelV y u → r x y H Q →
    subscripted slice false v u = operate [v, u] (getItem v u) → wpAny (model X.prog X.w) X.A (subscriptTail value slice v u) (EP X pins σ Q) X.xe s
/-- a call of a builtin's method by values: the receiver, the arguments -/
def MtR (X : Cx) (id : String) (r : V → List V → Hp → VK → Prop) : Prop :=
  ∀ (pins : List (Addr × Obj)) (s : Shared) (σ : St) (H : Hp) (x : V) (xs : List V) (v : Value) (us : List Value) (Q : VK), Inv X pins σ H s → RelV x v → Vals xs us → r x xs H Q →
    wpAny (model X.prog X.w) X.A (call (.builtin id) (v :: us)) (EP X pins σ Q) X.xe s
section
variable {X : Cx} {a b : Expr} {ta tb : TE} {pos : Pos}
theorem IxR.or {r r' : R2} (h : IxR X r) (h' : IxR X r') : IxR X (fun x y H Q => r x y H Q ∨ r' x y H Q) := by
  intro value slice pins s σ H x y v u Q I rx ry q hs
  rcases q with q | q
  · exact h value slice pins s σ H x y v u Q I rx ry q hs
  · exact h' value slice pins s σ H x y v u Q I rx ry q hs
theorem MtR.or {id : String} {r r' : V → List V → Hp → VK → Prop} (h : MtR X id r) (h' : MtR X id r') : MtR X id (fun x xs H Q => r x xs H Q ∨ r' x xs H Q) := by
  intro pins s σ H x xs v us Q I rx rs q
  rcases q with q | q
  · exact h pins s σ H x xs v us Q I rx rs q
  · exact h' pins s σ H x xs v us Q I rx rs q
/-- a[b] -/
theorem pe_ix {r : R2} (hr : IxR X r) (ha : PE X a ta) (hb : PE X b tb) (hs : PlainIx b) : PE X (.Subscript a b pos) (tOp r ta tb) := by
  intro pins s σ H Q I h
  exact Subscript_ (binT ha hb I h fun v u s2 x y H2 I2 rx ry q => hr a b pins s2 σ H2 x y v u Q I2 rx ry q (hs _ _))

def rIxL (K : PySem.W.Frag) : R2 := fun x y H Q => ∃ p xs i v, x = .ref p ∧ y = .int i ∧ SqL K H p xs ∧ atI xs i = some v ∧ Q v H
def rIxT (K : PySem.W.Frag) : R2 := fun x y H Q => ∃ p xs i v, x = .ref p ∧ y = .int i ∧ SqT K H p xs ∧ atI xs i = some v ∧ Q v H
def rIxS : R2 := fun x y H Q => ∃ z i c, x = .str z ∧ y = .int i ∧ z.length ≤ sizeLine ∧ atI z.cps.toList i = some c ∧ Q (.str ⟨#[c]⟩) H
theorem ix_list : IxR X (rIxL X.K) := by
  intro value slice pins s σ H x y v u Q I rx ry h hs
  obtain ⟨p, xs, i, z, rfl, rfl, hq, he, q⟩ := h
  cases rx
  obtain ⟨t, rfl⟩ := ry
  obtain ⟨its, r, pl, hz⟩ := I.list hq
  obtain ⟨j, h1, h2, h3, h4, h5⟩ := atI_get he
  obtain ⟨w, ew, rw'⟩ := r.get h2
  have hl := r.length
  have hn := line63
  have fin : EP X pins σ Q w s := ⟨z, H, I, rw', q⟩
  by_cases h0 : 0 ≤ i
  · have hj : i.toNat = j := by
      rw [seqIndex_of h0 h5] at h1
      exact Option.some.inj h1
    exact item_listR pl.isList h0 (by omega) (by rw [hj]; simpa using ew) fin hs
  · have hj : (i + (its.toArray.size : Int)).toNat = j := by
      rw [seqIndex_neg (by omega) h4] at h1
      rw [List.size_toArray, ← hl]
      exact Option.some.inj h1
    exact subscriptTail_builtinR (x := w) pl.isList.typeIs slot_list_getitem.lookup
      (wpAny_getItem_list_neg (Q := fun r s' => r = w ∧ EP X pins σ Q r s') pl.isList (by omega) (by rw [List.size_toArray] <;> omega) (by omega) (by rw [hj]; simpa using ew) ⟨rfl, fin⟩) hs
theorem ix_tup : IxR X (rIxT X.K) := by
  intro value slice pins s σ H x y v u Q I rx ry h hs
  obtain ⟨p, xs, i, z, rfl, rfl, hq, he, q⟩ := h
  cases rx
  obtain ⟨t, rfl⟩ := ry
  obtain ⟨its, r, pl, hz⟩ := I.tuple hq
  obtain ⟨j, h1, h2, h3, h4, h5⟩ := atI_get he
  obtain ⟨w, ew, rw'⟩ := r.get h2
  have hl := r.length
  have hn := line63
  have fin : EP X pins σ Q w s := ⟨z, H, I, rw', q⟩
  exact subscriptTail_builtinR (x := w) pl.typeIs slot_tuple_getitem.lookup
    (getItem_tuple (j := j) (Q := fun r s' => r = w ∧ EP X pins σ Q r s') pl (by omega) (by omega) (by rw [List.size_toArray, ← hl]; exact h1) (by simpa using ew) ⟨rfl, fin⟩) hs
theorem ix_str : IxR X rIxS := by
  intro value slice pins s σ H x y v u Q I rx ry h hs
  obtain ⟨z, i, c, rfl, rfl, hz, he, q⟩ := h
  obtain ⟨t, rfl⟩ := rx
  obtain ⟨t', rfl⟩ := ry
  obtain ⟨j, h1, h2, h3, h4, h5⟩ := atI_get he
  have hl : z.cps.toList.length = z.length := by simp [Str.length]
  rw [hl] at h1 h4 h5
  have hn := line63
  exact tail_any (typeIs_str s z t) slot_str_getitem.lookup (getItem_str (c := c) (by
    have e1 : decide (i < -(2 ^ 63 : Int)) = false := decide_eq_false (by omega)
    have e2 : decide (i ≥ 2 ^ 63) = false := decide_eq_false (by omega)
    rw [e1, e2, Bool.or_false]) (by rw [h1]; simpa using h2) ⟨.str ⟨#[c]⟩, H, I.tok _, ⟨_, rfl⟩, q⟩) hs
/-- list, tuple or str -/
def rIx (K : PySem.W.Frag) : R2 := fun x y H Q => rIxL K x y H Q ∨ rIxT K x y H Q ∨ rIxS x y H Q
/-! ### xs[i] = v, any sign -/
/-- the list's object behind a store -/
theorem mapSeq_set (its : List Value) (n j : Nat) (u : Value) : Obj.mapSeq (·.setIfInBounds j u) { cls := .type "list", data := .seq its.toArray n } = { cls := .type "list", data := .seq (its.set j u).toArray n } := by
  simp [Obj.mapSeq]
theorem Inv.lst {pins : List (Addr × Obj)} {σ : St} {H : Hp} {s : Shared} {p : Addr} {xs : List V} (I : Inv X pins σ H s) (h : H p = some (.lst xs)) :
    ∃ (its : List Value) (n : Nat), Vals xs its ∧ s.heap.get? p = some { cls := .type "list", data := .seq its.toArray n } ∧ xs.length ≤ sizeLine := by
  obtain ⟨z, its, n, r, e⟩ := I.hok p _ h
  exact ⟨its, n, r, e, z⟩
/-- the list at p is written by an update of its object -/
theorem Inv.lstUpd {pins : List (Addr × Obj)} {σ : St} {H : Hp} {s : Shared} {p : Addr} {xs ys : List V} {its its' : List Value} {n n' : Nat} {f : Obj → Obj} (I : Inv X pins σ H s) (h : H p = some (.lst xs))
    (ho : s.heap.get? p = some { cls := .type "list", data := .seq its.toArray n }) (hf : f { cls := .type "list", data := .seq its.toArray n } = { cls := .type "list", data := .seq its'.toArray n' }) (r : Vals ys its') (hz : ys.length ≤ sizeLine) (t : Nat) :
    Inv X pins σ (upd H p (.lst ys)) { s with heap := s.heap.update p f, toks := t } := by
  have e : (s.heap.update p f).get? p = some { cls := .type "list", data := .seq its'.toArray n' } := by
    rw [Heap.get?_update_self f ho (by rw [hf] <;> rfl), hf]
  refine I.write (x := p) (e := p) (by rw [h]; trivial) (.inl rfl) (fun b u hb q => (Heap.get?_update_other _ _ (Ne.symm hb)).trans q) ⟨_, e⟩ ?_
  exact ⟨hz, its', n', r, e⟩
def rSetL : V → V → V → Hp → (Hp → Prop) → Prop := fun o i v H Q => ∃ p xs k j, o = .ref p ∧ i = .int k ∧ H p = some (.lst xs) ∧ ixN xs.length k = some j ∧ Q (upd H p (.lst (xs.set j v)))
theorem set_list : PSet X rSetL := by
  intro pins s σ H o i v ov iv u Q I ro ri rv h
  obtain ⟨p, xs, k, j, rfl, rfl, hp, hj, q⟩ := h
  cases ro
  obtain ⟨t, rfl⟩ := ri
  obtain ⟨its, n, r, ho, hz⟩ := I.lst hp
  obtain ⟨h1, h2, h3, h4⟩ := ixN_seq hj
  have hl := r.length
  have hn := line63
  have I' : Inv X pins σ (upd H p (.lst (xs.set j v))) { s with heap := s.heap.update p (Obj.mapSeq (·.setIfInBounds j u)) } :=
    I.lstUpd hp ho (mapSeq_set its n j u) (r.set rv j) (by rw [List.length_set]; exact hz) s.toks
  by_cases h0 : 0 ≤ k
  · have hk : k.toNat = j := by
      rw [seqIndex_of h0 h4] at h1
      exact Option.some.inj h1
    exact PySem.W.ki_setAt ho h0 (by omega) (by rw [List.size_toArray, ← hl]; exact h4) (by rw [hk]; exact ⟨_, I', q⟩)
  · have hk : (k + (its.toArray.size : Int)).toNat = j := by
      rw [seqIndex_neg (by omega) h3] at h1
      rw [List.size_toArray, ← hl]
      exact Option.some.inj h1
    exact PySem.W.ki_setBack ho (by omega) (by rw [List.size_toArray, ← hl]; exact h3) (by omega) (by rw [hk]; exact ⟨_, I', q⟩)

/-! ### slices -/
theorem slice_bounds (lo hi : Option Int) (n : Nat) : (sliceBounds lo hi none n).1 = ((HT.sIx n 0 lo : Nat) : Int) ∧ (sliceBounds lo hi none n).2.1 = ((HT.sIx n n hi : Nat) : Int) ∧ (sliceBounds lo hi none n).2.2 = 1 := by
  refine ⟨?_, ?_, rfl⟩
  · cases lo with
    | none => simp [sliceBounds, HT.sIx]
    | some i =>
      simp only [sliceBounds, HT.sIx, Option.getD_none, show (1 : Int) > 0 by decide, if_true]
      by_cases h : i < 0
      · simp only [h, if_true] <;> omega
      · simp only [h, if_false] <;> omega
  · cases hi with
    | none => simp [sliceBounds, HT.sIx]
    | some i =>
      simp only [sliceBounds, HT.sIx, Option.getD_none, show (1 : Int) > 0 by decide, if_true]
      by_cases h : i < 0
      · simp only [h, if_true] <;> omega
      · simp only [h, if_false] <;> omega
theorem slicePick_cut (its : List Value) (lo hi : Option Int) : slicePick its.toArray lo hi none = ((its.drop (HT.sIx its.length 0 lo)).take (HT.sIx its.length its.length hi - HT.sIx its.length 0 lo)).toArray := by
  obtain ⟨h1, h2, h3⟩ := slice_bounds lo hi its.toArray.size
  unfold slicePick
  rw [h1, h2, h3]
  simp only [sliceRange_one, pick_run, List.size_toArray] <;> rfl
/-- xs[lo:hi] of a list: a new list -/
def rSlL (K : PySem.W.Frag) : V → Option Int → Option Int → Hp → VK → Prop := fun x lo hi H Q => ∃ a xs, x = .ref a ∧ SqL K H a xs ∧ ∀ p, H p = none → Q (.ref p) (upd H p (.lst (cutV xs lo hi)))
theorem sl_list : SlR X (rSlL X.K) := by
  intro pins s σ H x v vl vu lo hi sl Q I rx hs pl pu h
  obtain ⟨a, xs, rfl, hx, q⟩ := h
  cases rx
  obtain ⟨its, r, ht, hz⟩ := I.list hx
  have hlen := r.length
  refine ⟨"list", _, slot_list_getitem.lookup, ht.isList.typeIs, ?_⟩
  refine wpAny_getItem_list_slice ht.isList hs pl pu .none (by simp) ?_ (by rw [List.size_toArray] <;> omega)
  rw [slicePick_cut, ← hlen]
  refine ⟨.ref s.heap.objs.size, _, I.laid (t' := s.toks) (o := .lst (cutV xs lo hi)) (fun b ob q => Heap.get?_push_of_some _ q) (Nat.le_refl _) ?_, rfl, q _ (I.hok.fresh (Nat.le_refl _))⟩
  exact ⟨Nat.le_trans (cutV_length xs lo hi) hz, _, 0, (r.drop (HT.sIx xs.length 0 lo)).take (HT.sIx xs.length xs.length hi - HT.sIx xs.length 0 lo), Heap.get?_push_size _ rfl⟩

/-! ### in, not in: flat items -/
def flatV : V → Bool
  | .non => true
  | .bl _ => true
  | .int _ => true
  | .str _ => true
  | _ => false
/-- == of flat values -/
def eqV : V → V → Bool
  | .non, .non => true
  | .bl a, .bl b => a == b
  | .bl a, .int b => (if a then 1 else 0) == b
  | .int a, .bl b => a == (if b then 1 else 0)
  | .int a, .int b => a == b
  | .str a, .str b => a == b
  | _, _ => false
theorem eqAt_V {A : Around} {s : Shared} {y x : V} {u v : Value} (ry : RelV y u) (rx : RelV x v) (fy : flatV y = true) (fx : flatV x = true) : SeqAt.EqAt A s u v (eqV y x) := by
  cases y with
  | non =>
    cases ry
    cases x with
    | non => cases rx; exact SeqAt.EqAt.same _
    | bl b => cases rx; exact SeqAt.EqAt.none_bool b
    | int b => obtain ⟨t, rfl⟩ := rx; exact SeqAt.EqAt.none_int b t
    | str b => obtain ⟨t, rfl⟩ := rx; exact SeqAt.EqAt.none_str b t
    | _ => exact absurd (show false = true from fx) Bool.false_ne_true
  | bl a =>
    cases ry
    cases x with
    | non => cases rx; exact SeqAt.EqAt.bool_none a
    | bl b => cases rx; exact SeqAt.EqAt.bool_bool a b
    | int b => obtain ⟨t, rfl⟩ := rx; exact SeqAt.EqAt.bool_int a b t
    | str b => obtain ⟨t, rfl⟩ := rx; exact SeqAt.EqAt.bool_str a b t
    | _ => exact absurd (show false = true from fx) Bool.false_ne_true
  | int a =>
    obtain ⟨t', rfl⟩ := ry
    cases x with
    | non => cases rx; exact SeqAt.EqAt.int_none a t'
    | bl b => cases rx; exact SeqAt.EqAt.int_bool a t' b
    | int b => obtain ⟨t, rfl⟩ := rx; exact SeqAt.EqAt.int_int a t' b t
    | str b => obtain ⟨t, rfl⟩ := rx; exact SeqAt.EqAt.int_str a t' b t
    | _ => exact absurd (show false = true from fx) Bool.false_ne_true
  | str a =>
    obtain ⟨t', rfl⟩ := ry
    cases x with
    | non => cases rx; exact SeqAt.EqAt.str_none a t'
    | bl b => cases rx; exact SeqAt.EqAt.str_bool a t' b
    | int b => obtain ⟨t, rfl⟩ := rx; exact SeqAt.EqAt.str_int a t' b t
    | str b => obtain ⟨t, rfl⟩ := rx; exact SeqAt.EqAt.str_str a t' b t
    | _ => exact absurd (show false = true from fx) Bool.false_ne_true
  | _ => exact absurd (show false = true from fy) Bool.false_ne_true
/-- the items' answers, read off the values (a value's own answer does not lean on its token) -/
def eqU (x : V) (u : Value) : Bool := match u with
  | .none => eqV .non x
  | .bool b => eqV (.bl b) x
  | .int i _ => eqV (.int i) x
  | .str z _ => eqV (.str z) x
  | _ => false
theorem eqU_of {x y : V} {u : Value} (r : RelV y u) (f : flatV y = true) : eqU x u = eqV y x := by
  cases y with
  | non => cases r; rfl
  | bl b => cases r; rfl
  | int i => obtain ⟨t, rfl⟩ := r; rfl
  | str z => obtain ⟨t, rfl⟩ := r; rfl
  | _ => exact absurd (show false = true from f) Bool.false_ne_true
theorem any_eqU {x : V} : ∀ {xs : List V} {us : List Value}, Vals xs us → xs.all flatV = true → us.any (eqU x) = xs.any fun y => eqV y x
  | _, _, .nil, _ => rfl
  | y :: xs, u :: us, .cons r t, f => by
    rw [List.all_cons, Bool.and_eq_true] at f
    rw [List.any_cons, List.any_cons, eqU_of r f.1, any_eqU t f.2]
theorem mem_eqAt {A : Around} {s : Shared} {x : V} {v : Value} (rx : RelV x v) (fx : flatV x = true) : ∀ {xs : List V} {us : List Value}, Vals xs us → xs.all flatV = true → ∀ u ∈ us, SeqAt.EqAt A s u v (eqU x u)
  | _, _, .nil, _ => fun u hu => by cases hu
  | y :: xs, u :: us, .cons r t, f => fun u' hu => by
    rw [List.all_cons, Bool.and_eq_true] at f
    rcases List.mem_cons.mp hu with rfl | hu
    · rw [eqU_of r f.1]; exact eqAt_V r rx f.1 fx
    · exact mem_eqAt rx fx t f.2 u' hu
def inV (x : V) (xs : List V) : Bool := xs.any fun y => eqV y x
/-- x in a list or tuple of flat items -/
def rIn (K : PySem.W.Frag) (neg : Bool) : R2 := fun x y H Q => ∃ p xs, y = .ref p ∧ (SqL K H p xs ∨ SqT K H p xs) ∧ flatV x = true ∧ xs.all flatV = true ∧ Q (.bl (if neg then !inV x xs else inV x xs)) H
theorem op_in_seq : OpR X (compareOp .In) (rIn X.K false) := by
  intro pins s σ H x y v u Q I rx ry h
  obtain ⟨p, xs, rfl, hq, fx, fs, q⟩ := h
  cases ry
  rcases hq with hq | hq
  · obtain ⟨its, r, pl, hz⟩ := I.list hq
    refine SeqAt.in_listAt (eqU x) pl.isList (fun w hw => mem_eqAt rx fx r fs w (by simpa using hw)) ⟨.bl _, H, I, rfl, ?_⟩
    rw [show its.toArray.any (eqU x) = its.any (eqU x) by simp, any_eqU r fs]
    exact q
  · obtain ⟨its, r, pl, hz⟩ := I.tuple hq
    refine SeqAt.in_tupleAt (eqU x) pl (fun w hw => mem_eqAt rx fx r fs w (by simpa using hw)) ⟨.bl _, H, I, rfl, ?_⟩
    rw [show its.toArray.any (eqU x) = its.any (eqU x) by simp, any_eqU r fs]
    exact q
/-! ### len, list(x), tuple(x) of any list or tuple that is read -/
theorem call_len_seq : CallR X (.builtin "len") (fun xs H Q => ∃ p ys, xs = [.ref p] ∧ (SqL X.K H p ys ∨ SqT X.K H p ys) ∧ Q (.int ys.length) H) := by
  intro pins s σ H xs us Q I r h
  obtain ⟨p, ys, rfl, hq, q⟩ := h
  obtain ⟨u, rfl, rx⟩ := vals1 r
  cases rx
  have hn := line63
  rcases hq with hq | hq
  · obtain ⟨its, r', pl, hz⟩ := I.list hq
    have hlen := r'.length
    exact Calls.call_len_list pl.isList (by simp only [List.size_toArray] <;> omega) ⟨.int ys.length, H, I.tok _, ⟨s.toks + 1, by rw [List.size_toArray, hlen]⟩, q⟩
  · obtain ⟨its, r', pl, hz⟩ := I.tuple hq
    have hlen := r'.length
    exact len_tuple pl (by simp only [List.size_toArray] <;> omega) ⟨.int ys.length, H, I.tok _, ⟨s.toks + 1, by rw [List.size_toArray, hlen]⟩, q⟩
theorem CallR.or {f : Value} {r r' : List V → Hp → VK → Prop} (h : CallR X f r) (h' : CallR X f r') : CallR X f (fun xs H Q => r xs H Q ∨ r' xs H Q) := by
  intro pins s σ H xs us Q I rs q
  rcases q with q | q
  · exact h pins s σ H xs us Q I rs q
  · exact h' pins s σ H xs us Q I rs q
theorem call_list_of : CallR X (.type "list") (fun xs H Q => ∃ p ys, xs = [.ref p] ∧ (SqL X.K H p ys ∨ SqT X.K H p ys) ∧ ∀ l, H l = none → Q (.ref l) (upd H l (.lst ys))) := by
  intro pins s σ H xs us Q I r h
  obtain ⟨p, ys, rfl, hq, q⟩ := h
  obtain ⟨u, rfl, rx⟩ := vals1 r
  cases rx
  have fin : ∀ (its : List Value), Vals ys its → ys.length ≤ sizeLine → ∀ (h' : Heap) (c' : Nat), (∀ b o', s.heap.get? b = some o' → h'.get? b = some o') →
      h'.get? s.heap.objs.size = some { cls := .type "list", dict := none, data := .seq its.toArray c', slots := #[] } → EP X pins σ Q (.ref s.heap.objs.size) { s with heap := h' } := fun its r' hz h' c' kp e =>
    ⟨.ref s.heap.objs.size, _, I.laid (t' := s.toks) kp (Nat.le_refl _) (show ObjOk X.prog X.w _ h' _ (.lst ys) from ⟨hz, its, c', r', e⟩), rfl, q _ (I.hok.fresh (Nat.le_refl _))⟩
  rcases hq with hq | hq
  · obtain ⟨its, r', pl, hz⟩ := I.list hq
    have hlen := r'.length
    obtain ⟨o, ho, hc, n, hd⟩ := pl.isList
    exact call_list_seq p (.inl rfl) ho hc hd (fun h' c' kp e => fin its r' hz h' c' kp e) (by simp only [List.size_toArray] <;> omega)
  · obtain ⟨its, r', pl, hz⟩ := I.tuple hq
    have hlen := r'.length
    obtain ⟨o, ho, hc, n, hd⟩ := pl
    exact call_list_seq p (.inr rfl) ho hc hd (fun h' c' kp e => fin its r' hz h' c' kp e) (by simp only [List.size_toArray] <;> omega)
theorem call_tuple_of : CallR X (.type "tuple") (fun xs H Q => ∃ p ys, xs = [.ref p] ∧ ((SqL X.K H p ys ∧ ∀ l, H l = none → Q (.ref l) (upd H l (.tup ys))) ∨ (SqT X.K H p ys ∧ Q (.ref p) H))) := by
  intro pins s σ H xs us Q I r h
  obtain ⟨p, ys, rfl, h⟩ := h
  obtain ⟨u, rfl, rx⟩ := vals1 r
  cases rx
  rcases h with ⟨hq, q⟩ | ⟨hq, q⟩
  · obtain ⟨its, r', pl, hz⟩ := I.list hq
    have hlen := r'.length
    refine call_tuple_list pl.isList (fun h' kp => ?_) (by simp only [List.size_toArray] <;> omega)
    have I1 : Inv X pins σ H { s with heap := h' } := I.kept (t' := s.toks) kp
    have I2 : Inv X pins σ (upd H h'.objs.size (.tup ys)) { s with heap := h'.push { cls := .type "tuple", data := .seq its.toArray } } :=
      I1.laid (t' := s.toks) (fun b o e => Heap.get?_push_of_some _ e) (Nat.le_refl _) (show ObjOk X.prog X.w _ _ _ (.tup ys) from ⟨hz, its, r', IsTup.new _ _⟩)
    exact ⟨.ref h'.objs.size, _, I2, rfl, q _ (I1.hok.fresh (Nat.le_refl _))⟩
  · obtain ⟨its, r', pl, hz⟩ := I.tuple hq
    exact call_tuple_same pl ⟨.ref p, H, I, rfl, q⟩

/-! ### the call of a builtin's method: o.m(..) -/
/-- the value is of that builtin type -/
def tyV (K : PySem.W.Frag) (T : String) (x : V) (H : Hp) : Prop := match x with
  | .str _ => T = "str"
  | .int _ => T = "int"
  | .ref p => (T = "list" ∧ ∃ xs, SqL K H p xs) ∨ (T = "tuple" ∧ ∃ o, K.lookup p = some o ∧ o.cls = .type "tuple" ∧ o.dict = none) ∨
      (T = "dict" ∧ ((∃ kvs, H p = some (.dK kvs)) ∨ ∃ kvs, H p = some (.dT kvs))) ∨ (T = "set" ∧ ∃ S n, H p = some (.set S n))
  | _ => False
theorem tyV_is {pins : List (Addr × Obj)} {σ : St} {H : Hp} {s : Shared} {T : String} {x : V} {v : Value} (I : Inv X pins σ H s) (r : RelV x v) (ty : tyV X.K T x H) :
    s.TypeIs v T ∧ ∀ a, v = .ref a → ∃ ob, s.heap.get? a = some ob ∧ ob.dict = none := by
  cases x with
  | str z =>
    obtain ⟨t, rfl⟩ := r
    cases (show T = "str" from ty)
    exact ⟨typeIs_str s z t, fun _ e => nomatch e⟩
  | int i =>
    obtain ⟨t, rfl⟩ := r
    cases (show T = "int" from ty)
    exact ⟨typeIs_int s i t, fun _ e => nomatch e⟩
  | ref p =>
    cases r
    rcases ty with ⟨rfl, xs, hq⟩ | ⟨rfl, o, hk, hc, hd⟩ | ⟨rfl, hk⟩ | ⟨rfl, S, n, hk⟩
    · obtain ⟨its, _, pl, _⟩ := I.list hq
      refine ⟨pl.isList.typeIs, fun a e => ?_⟩
      cases e
      obtain ⟨o, n, e, c, hd, _⟩ := pl
      exact ⟨o, e, hd⟩
    · refine ⟨⟨o, I.kIn p o hk, hc⟩, fun a e => ?_⟩
      cases e
      exact ⟨o, I.kIn _ o hk, hd⟩
    · have z : ∃ o, s.heap.get? p = some o ∧ o.ExactDict := by
        rcases hk with ⟨kvs, hk⟩ | ⟨kvs, hk⟩
        · obtain ⟨_, _, _, _, o, _, _, e, ex, _⟩ := I.hok p _ hk
          exact ⟨o, e, ex⟩
        · obtain ⟨_, _, _, _, o, _, _, e, ex, _⟩ := I.hok p _ hk
          exact ⟨o, e, ex⟩
      obtain ⟨o, e, ex⟩ := z
      refine ⟨⟨o, e, ex.1⟩, fun a e2 => ?_⟩
      cases e2
      exact ⟨o, e, ex.2.1⟩
    · obtain ⟨o, _, _, _, e, ex, _⟩ := I.hok p _ hk
      refine ⟨⟨o, e, ex.1⟩, fun a e2 => ?_⟩
      cases e2
      exact ⟨o, e, ex.2.1⟩
  | _ => exact False.elim ty
def tBM0 (K : PySem.W.Frag) (T : String) (r : V → List V → Hp → VK → Prop) (to : TE) : TE := fun σ H Q => to σ H fun x H1 => tyV K T x H1 ∧ r x [] H1 Q
def tBM (K : PySem.W.Frag) (T : String) (r : V → List V → Hp → VK → Prop) (to : TE) (t : TA) : TE := fun σ H Q => to σ H fun x H1 => tyV K T x H1 ∧ t σ H1 fun xs H2 => r x xs H2 Q
variable {o e : Expr} {es : List Expr} {to : TE} {t : TA} {name : Str} {apos cpos : Pos} {T id : String} {r : V → List V → Hp → VK → Prop}
theorem pe_bm (pa : PlainAttrs T) (slot : Slot T name id) (hty : typeOf (.builtin id) = pure (.type "method_descriptor")) (hm : MtR X id r) (ho : PE X o to) (ha : PA X (e :: es) t)
    (hbase : attributeBase o name X.env (eval o X.env) = eval o X.env := by rfl)
    (hfew : ((backTo cpos (starEach (e :: es) X.env)).all (fun x => !x.1) && (backToKw cpos (keywordEach [] X.env)).all (fun x => x.1.isSome)
      && decide ((e :: es).length + ([] : List Keyword).length + (if ([] : List Keyword).isEmpty then 0 else 1) < 30)) = true := by rfl)
    (hline : (apos.endLine == cpos.line) = true := by rfl) (hs : starEach (e :: es) X.env = (false, eval e X.env) :: starEach es X.env := by rfl) (hplain : (backTo cpos (starEach es X.env)).any (·.1) = false := by rfl) :
    PE X (.Call (.Attribute o name apos) (e :: es) [] cpos) (tBM X.K T r to t) := by
  intro pins s σ H Q I h
  refine wpAny_Call_method_late hbase hfew hline rfl (thn (ho pins s σ H _ I h) fun v s1 ⟨x, H1, I1, r1, ty, q1⟩ => ?_)
  obtain ⟨h1, h2⟩ := tyV_is I1 r1 ty
  refine ⟨T, id, pa, slot, hty, h1, h2, ?_⟩
  have hA := ha cpos pins s1 σ H1 _ I1 q1
  rw [hs] at hA ⊢
  refine Calls.callWith_builtin (by show (false || (backTo cpos (starEach es X.env)).any (·.1)) = false; rw [hplain] <;> rfl) (Calls.evalArgs_plain ?_)
  exact thn hA fun us s2 ⟨vs, H2, I2, r2, q2⟩ => hm pins s2 σ H2 x vs v us Q I2 r1 r2 q2
/- xs.append(e), list.index on a module's tuple .. are MtR facts of 06m -/
end
end L2

namespace L2
open PySem PySem.Spec PyProof.Rows

def MtM (X : Cx) (id : String) (r : V → List V → Hp → VK → Prop) : Prop :=
  ∀ (pins : List (Addr × Obj)) (s : Shared) (σ : St) (H : Hp) (x : V) (xs : List V) (v : Value) (us : List Value) (Q : VK), Inv X pins σ H s → RelV x v → Vals xs us → r x xs H Q →
    wpAny (model X.prog X.w) X.A (call (.builtin id) (v :: us)) (EP X pins σ Q) X.xe s

/-! ### lists of values -/
theorem Vals.one : ∀ {x : V} {us : List Value}, Vals [x] us → ∃ u, us = [u] ∧ RelV x u
  | _, _, .cons r .nil => ⟨_, rfl, r⟩
theorem Vals.two : ∀ {x y : V} {us : List Value}, Vals [x, y] us → ∃ u v, us = [u, v] ∧ RelV x u ∧ RelV y v
  | _, _, _, .cons r (.cons q .nil) => ⟨_, _, rfl, r, q⟩
theorem Vals.zero : ∀ {us : List Value}, Vals [] us → us = []
  | _, .nil => rfl
theorem Vals.dropLast {xs : List V} {us : List Value} (h : Vals xs us) : Vals xs.dropLast us.dropLast := by
  induction h with
  | nil => exact .nil
  | cons r t ih =>
    cases t with
    | nil => exact .nil
    | cons q t' => exact .cons r ih
theorem Vals.eraseIdx : ∀ {xs : List V} {us : List Value} (i : Nat), Vals xs us → Vals (xs.eraseIdx i) (us.eraseIdx i)
  | _, _, _, .nil => .nil
  | _, _, 0, .cons _ t => t
  | _, _, i + 1, .cons r t => .cons r (Vals.eraseIdx i t)
theorem Vals.reverse {xs : List V} {us : List Value} (h : Vals xs us) : Vals xs.reverse us.reverse := by
  induction h with
  | nil => exact .nil
  | cons r t ih => rw [List.reverse_cons, List.reverse_cons]; exact Vals.append ih (.cons r .nil)
theorem Vals.rep {xs : List V} {us : List Value} (h : Vals xs us) : ∀ k : Nat, Vals (List.replicate k xs).flatten (List.replicate k us).flatten
  | 0 => .nil
  | k + 1 => by
    rw [List.replicate_succ, List.replicate_succ, List.flatten_cons, List.flatten_cons]
    exact Vals.append h (Vals.rep h k)
section
variable {X : Cx} {pins : List (Addr × Obj)} {σ : St} {H : Hp} {s : Shared} {l b : Addr} {xs ys zs : List V}

/-! ### the two steps: a tracked list is rewritten, a new list is laid -/
theorem Inv.lset {its its' : List Value} {n : Nat} {f : Array Value → Array Value} {t' : Nat} (I : Inv X pins σ H s) (hH : H l = some (.lst xs))
    (e : s.heap.get? l = some { cls := .type "list", data := .seq its.toArray n }) (hf : f its.toArray = its'.toArray) (hv : Vals ys its') (hz : ys.length ≤ sizeLine) :
    Inv X pins σ (upd H l (.lst ys)) { s with heap := s.heap.update l (Obj.mapSeq f), toks := t' } := by
  have q := PySem.IsL.update e f
  rw [hf] at q
  refine I.write (x := l) (e := l) (by rw [hH]; exact trivial) (.inl rfl) (fun b' u hb hu => (Heap.get?_update_other s.heap (Obj.mapSeq f) (Ne.symm hb)).trans hu) ⟨_, q⟩ ?_
  exact ⟨hz, its', _, hv, q⟩
theorem Inv.lnew {its : List Value} {t' : Nat} (I : Inv X pins σ H s) (hv : Vals ys its) (hz : ys.length ≤ sizeLine) :
    Inv X pins σ (upd H s.heap.objs.size (.lst ys)) { s with heap := s.heap.push { cls := .type "list", data := .seq its.toArray }, toks := t' } :=
  I.laid (fun _ _ q => Heap.get?_push_of_some _ q) (Nat.le_refl _) ⟨hz, its, 0, hv, Heap.get?_push_size _ rfl⟩
theorem Inv.fresh (I : Inv X pins σ H s) : H s.heap.objs.size = none := I.hok.fresh (Nat.le_refl _)
theorem Inv.lstM (I : Inv X pins σ H s) (hH : H l = some (.lst xs)) : xs.length ≤ sizeLine ∧ ∃ (its : List Value) (n : Nat), Vals xs its ∧ xs.length = its.length ∧ s.heap.get? l = some { cls := .type "list", data := .seq its.toArray n } := by
  obtain ⟨z, its, n, r, e⟩ := I.hok l _ hH
  exact ⟨z, its, n, r, r.length, e⟩

theorem notLongL {n : Nat} (h : n ≤ sizeLine) : Builtin.List.listTooLong n = false := by
  unfold Builtin.List.listTooLong
  exact decide_eq_false (by omega)
end

section
variable {X : Cx}

/-! ### methods -/
def rAppend : V → List V → Hp → VK → Prop := fun x vs H Q => ∃ l xs y, x = .ref l ∧ vs = [y] ∧ H l = some (.lst xs) ∧ xs.length < sizeLine ∧ Q .non (upd H l (.lst (xs ++ [y])))
theorem mt_append : MtM X "list.append" rAppend := by
  intro pins s σ H x vs v us Q I rx rv h
  obtain ⟨l, xs, y, rfl, rfl, hH, hz, q⟩ := h
  cases rx
  obtain ⟨u, rfl, ru⟩ := rv.one
  obtain ⟨z, its, n, r, hl, e⟩ := I.lstM hH
  refine call_meets F.slot_list_append ⟨_, e, rfl⟩ F.entry_list_append (F.args_list_append_2 _ _) (PySem.list_append l its.toArray n u (by rw [List.size_toArray]; omega)) ⟨e, ?_⟩
  refine ⟨.non, _, I.lset (its' := its ++ [u]) hH e (by simp) (r.append (.cons ru .nil)) ?_, rfl, q⟩
  rw [List.length_append, List.length_singleton]
  omega

def rExtend : V → List V → Hp → VK → Prop := fun x vs H Q => ∃ l b xs zs, x = .ref l ∧ vs = [.ref b] ∧ H l = some (.lst xs) ∧ H b = some (.lst zs) ∧ xs.length + zs.length ≤ sizeLine ∧ Q .non (upd H l (.lst (xs ++ zs)))
theorem mt_extend : MtM X "list.extend" rExtend := by
  intro pins s σ H x vs v us Q I rx rv h
  obtain ⟨l, b, xs, zs, rfl, rfl, hH, hB, hz, q⟩ := h
  cases rx
  obtain ⟨u, rfl, ru⟩ := rv.one
  cases ru
  obtain ⟨z, its, n, r, hl, e⟩ := I.lstM hH
  obtain ⟨z2, its2, n2, r2, hl2, e2⟩ := I.lstM hB
  have hsz : its.toArray.size + its2.toArray.size ≤ sizeLine := by rw [List.size_toArray, List.size_toArray]; omega
  have hlong : ¬ (!its.toArray.isEmpty && Builtin.List.listTooLong (its.toArray.size + its2.toArray.size)) = true := by
    rw [notLongL hsz, Bool.and_false]
    exact Bool.false_ne_true
  refine call_meets F.slot_list_extend ⟨_, e, rfl⟩ F.entry_list_extend (F.args_list_extend_2 _ _)
    (AutoSeq1.list_extend_list_list_0 l its.toArray n b its2.toArray n2 hlong (by rw [List.size_toArray]; omega) (by omega)) ⟨e, e2, ?_⟩
  refine ⟨.non, _, I.lset (its' := its ++ its2) hH e (by simp) (r.append r2) ?_, rfl, q⟩
  rw [List.length_append]
  omega

def rPop : V → List V → Hp → VK → Prop := fun x vs H Q => ∃ l xs y, x = .ref l ∧ vs = [] ∧ H l = some (.lst xs) ∧ xs[xs.length - 1]? = some y ∧ Q y (upd H l (.lst xs.dropLast))
def rPopAt : V → List V → Hp → VK → Prop := fun x vs H Q => ∃ l xs i k y, x = .ref l ∧ vs = [.int i] ∧ H l = some (.lst xs) ∧ -(2 ^ 63) ≤ i ∧ i < 2 ^ 63 ∧ seqIndex? i xs.length = some k ∧ xs[k]? = some y ∧ Q y (upd H l (.lst (xs.eraseIdx k)))
def rReverse : V → List V → Hp → VK → Prop := fun x vs H Q => ∃ l xs, x = .ref l ∧ vs = [] ∧ H l = some (.lst xs) ∧ Q .non (upd H l (.lst xs.reverse))
def rClear : V → List V → Hp → VK → Prop := fun x vs H Q => ∃ l xs, x = .ref l ∧ vs = [] ∧ H l = some (.lst xs) ∧ Q .non (upd H l (.lst []))
/-! ### list + list, list += list, list * int -/
def rCat : R2 := fun x y H Q => ∃ l b xs zs, x = .ref l ∧ y = .ref b ∧ H l = some (.lst xs) ∧ H b = some (.lst zs) ∧ xs.length + zs.length ≤ sizeLine ∧ ∀ p, H p = none → Q (.ref p) (upd H p (.lst (xs ++ zs)))
theorem op_cat : OpR X (binaryOp .Add) rCat := by
  intro pins s σ H x y v u Q I rx ry h
  obtain ⟨l, b, xs, zs, rfl, rfl, hH, hB, hz, q⟩ := h
  cases rx
  cases ry
  obtain ⟨z, its, n, r, hl, e⟩ := I.lstM hH
  obtain ⟨z2, its2, n2, r2, hl2, e2⟩ := I.lstM hB
  refine PySem.P.add_list e e2 ?_ (by rw [List.size_toArray, List.size_toArray]; omega)
  have ea : its.toArray ++ its2.toArray = (its ++ its2).toArray := by simp
  rw [ea]
  exact ⟨.ref _, _, I.lnew (t' := s.toks) (r.append r2) (by rw [List.length_append]; omega), rfl, q _ I.fresh⟩
/-- a list times an int (a negative one is nothing) -/
def rRep : R2 := fun x y H Q => ∃ l k xs, x = .ref l ∧ y = .int k ∧ H l = some (.lst xs) ∧ -(2 ^ 63) ≤ k ∧ k < 2 ^ 63 ∧ xs.length * k.toNat ≤ sizeLine ∧
  ∀ p, H p = none → Q (.ref p) (upd H p (.lst (List.replicate k.toNat xs).flatten))
/-! ### del xs[i] -/
end

/-! ### xs[a:b] = ys -/
section
variable {prog : Program} {w : World} {A : Around} {E : Value → Shared → Prop} {s : Shared}
end

section
variable {X : Cx}
end
end L2

namespace Att
open PySem PySem.W PySem.Calls PyProof.Rows

/-! ### the script -/
theorem ints_of_wellAll {P : Params} {h : Heap} : ∀ (ns : List Int) (vs : List Value), WellAll P h vs (ns.map WData.int) → IntsAre vs ns := by
  intro ns
  induction ns with
  | nil =>
    intro vs w
    rw [List.map_nil] at w
    cases w
    exact .nil
  | cons n ns ih =>
    intro vs w
    rw [List.map_cons] at w
    cases w with
    | cons a b =>
      cases a
      exact .cons _ _ (ih _ b)

theorem script_of {l : OpenLaw} {n : Nat} (hn : l.most = some n) {P : Params} {h : Heap} {args : List WData} {vals : List Value}
    (hpre : l.row.toRowW.claim.pre args = true) (hwl : WellAll P h vals args) :
    ∃ a vs ns, vals = [Value.ref a] ∧ args = [WData.list (ns.map WData.int)] ∧ h.get? a = some { cls := .type "list", data := .seq vs.toArray } ∧ IntsAre vs ns ∧ ns.length ≤ n := by
  have hsh : WShape.hasAll [] args [.list .int] = true := (pre_splitW hpre).1
  have hc : l.pre.holds [] { args := args } = true := (pre_splitW hpre).2
  obtain ⟨d, r, rfl, h1, h2⟩ := hasAllW_cons hsh
  obtain rfl := hasAllW_nil h2
  obtain ⟨xs, rfl, h3⟩ := hasW_list h1
  obtain ⟨ns, rfl⟩ := items_int h3
  have hlen : ns.length ≤ n := by
    unfold OpenLaw.pre at hc
    have h4 : (WTm.not (.lt (.lit (.int (n : Int))) (.len (.arg 0)))).holds [] { args := [.list (ns.map .int)] } = true := by
      have h4 := (holds_andW hc).1
      rw [hn] at h4
      exact h4
    have h5 := condW_of h4 (w_not (w_lt w_lit (w_len_list (w_arg rfl))))
    rw [List.length_map] at h5
    refine Nat.le_of_not_lt fun q => ?_
    have q' : (n : Int) < ((ns.length : Nat) : Int) := by omega
    first
      | (rw [decide_eq_true q'] at h5; exact absurd h5 (by decide))
      | (simp at h5; omega)
  cases hwl with
  | cons w1 w2 =>
    cases w2
    cases w1 with
    | list ho hall => exact ⟨_, _, ns, rfl, rfl, ho, ints_of_wellAll ns _ hall, hlen⟩

theorem post_true (l : OpenLaw) (args : List WData) : l.row.toRowW.claim.post args (.bool true) args = true :=
  postW_of (r := l.row.toRowW) (X := (true == true))
    (show WShape.has [] (.bool true) .bool = true by first | rfl | decide | simp [WShape.has, WShape.arms, WShape.armsAll])
    (show (WTm.eq .res (.lit (.bool true))).value [] { args := args, res := some (.bool true), after := args } = some (.bool (true == true)) from w_eq_bool (w_res rfl) w_lit) rfl

/-! ### the attachment: holds_open's last premise (the goal 'hc' behind k_head) from a wpAny of the law's body -/
/-- the same from a codeAny of the CALL (for a layer whose function contracts speak of calls) -/
theorem attach_call {l : OpenLaw} {n : Nat} {q : Program} {loose : List Str} {XP : (Str → Option Value) → Heap → Prop} {YP : World → Heap → Prop} {d : DefRec}
    (hn : l.most = some n) (hdf : d.params.defaults = [])
    (call : ∀ (w : World) (s₀ s₁ : Shared) (mg mb : Str → Option Value) (fa : Addr) (o : Obj) (pm cd doc : Value) (a : Addr) (vs : List Value) (ns : List Int),
      Ground q loose [] XP w s₀ mg mb s₁.heap → YP w s₁.heap →
      s₁.heap.get? fa = some o → o.data = .func (docDef d.name d.params d.body d.scope pm cd doc) → s₁.heap.CodeRec cd d.name → mg d.name = some (.ref fa) →
      s₁.heap.get? a = some { cls := .type "list", data := .seq vs.toArray } → IntsAre vs ns → ns.length ≤ n → s₁.gens = #[] →
      codeAny (model l.prog w) callerA (.call (.ref fa) ⟨[.ref a], []⟩) (fun r s' => r = .ok (.ret (.bool true)) ∧ OldK s₁.heap s'.heap ∧ s'.os = s₁.os ∧ AllBare s'.gens) s₁) :
    WalkO q loose XP YP l.row.toRowW d [] (fun f vs => PySem.call f vs) := by
  intro w s₀ s₁ mg mb G Y fa o pm cd doc dV kV ho hd hcd hD hmg hg args vals as hpre hlay hrd hwl hlo
  obtain rfl : dV = .none := Dflts.none hD hdf
  obtain rfl : kV = .none := Dflts.noKw hD
  obtain ⟨a, vs, ns, rfl, rfl, hobj, hints, hlen⟩ := script_of hn hpre hwl
  refine enter_call (codeAny_mono (call w s₀ s₁ mg mb fa o pm cd doc a vs ns G Y ho (fd_plain hd) hcd hmg hobj hints hlen hg) fun r s' hq => ?_)
  obtain ⟨rfl, h2, h3, h4⟩ := hq
  exact ⟨.inl ⟨.bool true, .bool true, [], rfl, fun _ => rfl, .bool true, post_true l _, fun _ => ⟨List.Pairwise.nil, fun _ hm => (nomatch hm)⟩⟩, h2, h3, h4⟩

/-! ### rules over ANY heap (no ledger) from facts about the written part K: the library's own take a ledger (News) for what they write -/
section
variable {prog : Program} {w : World} {A : Around} {E : Value → Shared → Prop} {s : Shared} {K : Frag}

/-! the whole heap as the ledger: makes every rule that writes through a ledger a rule over any heap -/
def noObjs (h : Heap) : Heap := { h with objs := #[] }
def ledger (h : Heap) (L d : Addr) : List (Addr × Obj) := (List.range h.objs.size).filterMap fun a => if a = L ∨ a = d then none else (h.get? a).map fun o => (a, o)
end
end Att

namespace L2
open PySem PySem.Spec PyProof.Rows

theorem vals_ints : ∀ {vs : List Value} {ns : List Int}, IntsAre vs ns → Vals (ns.map V.int) vs
  | _, _, .nil => .nil
  | _, _, .cons n t h => .cons ⟨t, rfl⟩ (vals_ints h)

/-- nothing is tracked but the script, known to the object (or it is an object of the module) -/
def Only (H : Hp) : Prop := ∀ b, H b = none ∨ ∃ o xs, H b = some (.frz o (.lst xs))

/-- THE HEAD: the law's promise, at the heap behind the top. F, the promise of the law's def, may use that base is part of the heap (so K.In base, base.Ns mainGlobals mg stand in Mod) -/
theorem law_call {P : Program} {w : World} {K : PySem.W.Frag} {mg mb : Str → Option Value} {CX : CXT} {k : Nat} {fa a : Addr} {fd : FuncData} {x : Str} {sp : Sp} {s₁ : Shared} {vs : List Value} {ns : List Int}
    (KX : K.In s₁.heap) (hns : s₁.heap.Ns mainGlobals mg) (hb : s₁.heap.Ns builtinsNs mb) (hbb : ∀ x : Str, x ≠ "__name__" → mb x = bootBuiltins x) (hlim : s₁.heap.NoLimit) (hg : s₁.gens = #[])
    (ha : s₁.heap.get? a = some { cls := .type "list", data := .seq vs.toArray }) (hi : IntsAre vs ns) (hl : ns.length ≤ sizeLine) (hr : Room k callerA)
    (F : ∀ base : Heap, K.In base → base.Ns mainGlobals mg → FnOk P w K mg base CX k fa fd [x] sp) (hbind : ∀ (s : Shared) (u : Value), BindsTo s fd ⟨[u], []⟩ [(x, u)])
    (hsp : ∀ H : Hp, Only H → SqL K H a (ns.map V.int) → sp [.ref a] H (fun v _ => v = .bl true) fun _ _ _ => False)
    (hCX : ∀ H e s', CX [] H s₁ (fun _ _ _ => False) e s' → False) :
    codeAny (model P w) callerA (.call (.ref fa) ⟨[.ref a], []⟩) (fun r s' => r = .ok (.ret (.bool true)) ∧ OldK s₁.heap s'.heap ∧ s'.os = s₁.os ∧ AllBare s'.gens) s₁ := by
  have rv := vals_ints hi
  have lenV := hi.length
  -- from an abstract heap in which nothing but the script may be tracked
  have core : ∀ H : Hp, Only H → SqL K H a (ns.map V.int) → HOk P w H s₁.heap → (∀ b, H b ≠ none → b = a) → (H a ≠ none → K.lookup a = none) →
      codeAny (model P w) callerA (.call (.ref fa) ⟨[.ref a], []⟩) (fun r s' => r = .ok (.ret (.bool true)) ∧ OldK s₁.heap s'.heap ∧ s'.os = s₁.os ∧ AllBare s'.gens) s₁ := by
    intro H hO hS hok hA hK
    have base_of : ∀ {b : Addr} {o : Obj}, s₁.heap.get? b = some o → H b = none → (hidT s₁.heap H).get? b = some o := fun e n => hidT_get e n
    have noA : ∀ {b : Addr} {o : Obj} {es : Array DictEntry} {ep : Nat}, s₁.heap.get? b = some o → o.data = .dict es ep → H b = none := fun {b o es ep} e d => by
      cases q : H b with
      | none => rfl
      | some u =>
        have e' : b = a := hA b (by rw [q]; simp)
        subst e'
        rw [ha] at e; cases e
        have d' : Data.seq vs.toArray _ = Data.dict es ep := d
        cases d'
    have nsK : ∀ {b : Addr} {m : Str → Option Value}, s₁.heap.Ns b m → (hidT s₁.heap H).Ns b m := fun {b m} ⟨o, es, ep, e, d, r⟩ => ⟨o, es, ep, base_of e (noA e d), d, r⟩
    have hKb : K.In (hidT s₁.heap H) := fun b o e => base_of (KX b o e) (by
      cases q : H b with
      | none => rfl
      | some u =>
        have e' : b = a := hA b (by rw [q]; simp)
        subst e'
        rw [hK (by rw [q]; simp)] at e; cases e)
    have hM : Mod K mg (hidT s₁.heap H) := ⟨hKb, nsK hns, ⟨mb, nsK hb, hbb⟩, let ⟨mc, h1, h2⟩ := hlim; ⟨mc, nsK h1, h2⟩⟩
    have e0 : Env0 P w K mg (hidT s₁.heap H) callerA [] s₁ H := ⟨rfl, hM, fun b o e => of_hidT e, Nat.le_of_eq (hidT_size _ _), trivial, fun b hb => absurd (show b ∈ ([] : List Addr) from hb) (by simp), hok, .of_eq hg⟩
    refine codeAny_mono ((F _ hKb (nsK hns)).run callerA [] s₁ H ⟨[.ref a], []⟩ [.ref a] [.ref a] _ _ hr e0 (hbind s₁ (.ref a)) (.cons rfl .nil) (hsp H hO hS)) fun r s' h => ?_
    cases r with
    | error e => exact (hCX H e s' h).elim
    | ok fl =>
      cases fl with
      | next => exact False.elim h
      | brk => exact False.elim h
      | cont => exact False.elim h
      | ret u =>
        obtain ⟨v, H', os, bare, un, hok', r', q⟩ := h
        have q' : v = .bl true := q
        subst q'
        obtain rfl : u = Value.bool true := r'
        refine ⟨rfl, OldK.of_keep fun b o e => ?_, os, bare⟩
        cases q : H b with
        | none => exact un.keep b o e q (by intro z; exact absurd (show b ∈ ([] : List Addr) from z) (by simp)) (by simp)
        | some u =>
          rcases hO b with z | ⟨ob, xs, z⟩
          · rw [q] at z; cases z
          · have z2 := un.frzs b ob _ z
            obtain ⟨e1, _⟩ := hok b _ z
            obtain ⟨e2, _⟩ := hok' b _ z2
            rw [e] at e1; cases e1
            exact e2
  cases hk : K.lookup a with
  | some o =>
    -- the script is one of the module's own objects
    have e := KX a o hk
    rw [ha] at e
    cases e
    refine core (fun _ => none) (fun _ => .inl rfl) (.inr ⟨_, vs.toArray, _, hk, rfl, rfl, rfl, by rw [List.size_toArray, lenV]; exact hl, by simpa using rv⟩) (fun b u z => by have z' : (none : Option HO) = some u := z; cases z') (fun b z => absurd rfl z) fun z => absurd rfl z
  | none =>
    refine core (fun b => if b = a then some (.frz { cls := .type "list", data := .seq vs.toArray } (.lst (ns.map V.int))) else none) (fun b => ?_) (.inl (.inr ⟨{ cls := .type "list", data := .seq vs.toArray }, if_pos rfl⟩)) (fun b u z => ?_) (fun b z => ?_) fun _ => hk
    · by_cases hb : b = a
      · exact .inr ⟨_, _, if_pos hb⟩
      · exact .inl (if_neg hb)
    · by_cases hb : b = a
      · have z' := (if_pos hb).symm.trans z
        cases z'
        subst hb
        exact ⟨ha, by rw [List.length_map]; exact hl, vs, _, rv, ha⟩
      · have z' := (if_neg hb).symm.trans z
        cases z'
    · by_cases hb : b = a
      · exact hb
      · exact absurd (if_neg hb) z
end L2

namespace L2
open PySem PySem.Spec PyProof.Rows

abbrev KOf {K : PySem.W.Frag} {h : Heap} (_ : K.In h) : PySem.W.Frag := K

/-- the goal that k_head leaves (case hc), from the law's promise. F gives the function object fd (K's own) once, then the promise over every base -/
theorem walk_of {l : PySem.W.OpenLaw} {n k : Nat} {q : Program} {loose : List Str} {XP : (Str → Option Value) → Heap → Prop} {YP : World → Heap → Prop} {d : DefRec} {K : Params → PySem.W.Frag} {CX : World → CXT} {sp : World → Sp} {x : Str}
    (hn : l.most = some n) (hn2 : n ≤ sizeLine) (hdf : d.params.defaults = []) (hr : Room k callerA)
    (hY : ∀ (w : World) (h : Heap), YP w h → (K w.params).In h)
    (F : ∀ (w : World) (mg : Str → Option Value) (fa : Addr) (h : Heap), (K w.params).In h → h.Ns mainGlobals mg → mg d.name = some (.ref fa) →
      ∃ fd : FuncData, (∀ (s : Shared) (u : Value), BindsTo s fd ⟨[u], []⟩ [(x, u)]) ∧
        ∀ base : Heap, (K w.params).In base → base.Ns mainGlobals mg → FnOk l.prog w (K w.params) mg base (CX w) k fa fd [x] (sp w))
    (hsp : ∀ (w : World) (H : Hp) (a : Addr) (ns : List Int), ns.length ≤ n → Only H → SqL (K w.params) H a (ns.map V.int) → sp w [.ref a] H (fun v _ => v = .bl true) fun _ _ _ => False)
    (hCX : ∀ (w : World) (H : Hp) (s : Shared) (e : Value) (s' : Shared), CX w [] H s (fun _ _ _ => False) e s' → False) :
    PySem.W.WalkO q loose XP YP l.row.toRowW d [] (fun f vs => PySem.call f vs) := by
  refine Att.attach_call hn hdf fun w s₀ s₁ mg mb fa o pm cd doc a vs ns G Y ho hd hcd hmg hobj hints hlen hg => ?_
  have KX := hY w _ Y
  obtain ⟨fd, hb, hF⟩ := F w mg fa _ KX G.T.g hmg
  exact law_call KX G.T.g G.T.b G.T.builtins G.T.nolimit hg hobj hints (Nat.le_trans hlen hn2) hr hF hb (fun H hO hS => hsp w H a ns hlen hO hS) fun H e s' => hCX w H s₁ e s'
end L2

/- THE LAST THEOREM (shape; LID, My.* are yours):
   My.Adr: a structure of the addresses that your layer names (classes, functions); My.Txt K t: a structure (Prop) of the equations over K;
   My.txt_mk : {K} {implicit addresses ..} (e1 : nsIn K mainGlobals "law" = some (some (.ref f))) (e2 : K.lookup f = some ⟨oc, od, .func (fnOf "law" "law" params body scope dV kV doc pm an cdv ct), sl⟩) (e3 : codeIn K cdv "law" = true) .. : ∃ t, My.Txt K t

set_option maxRecDepth 100000 in
set_option maxHeartbeats 0 in
theorem PySem.Challenge.cw_LID_holds : PySem.Challenge.rw_LID.Holds := by
  w_on; o_law; k_head; (case hw => w_witness2)
  k_fill
  refine L2.walk_of (l := PySem.Challenge.rw_LID) (n := 63) (k := 40) (x := "script") (CX := fun w => ..) (sp := fun _ => My.sp_law) rfl (by decide) rfl ⟨rfl, by decide, by decide⟩ (fun w h Y => PySem.W.kIn_of Y) ?F ?S ?C
  case F =>
    intro w mg fa h KX G hmg
    have T : ∃ t, My.Txt (L2.KOf KX) t := by
      dsimp only [L2.KOf]                          -- K must stand as «<heap const> w.params» for k_is
      refine' My.txt_mk ?e1 ?e2 ?e3 ..
      (case e1 => PySem.W.k_is)                    -- in the order: a name -> its address -> its object -> its parts
      (case e2 => PySem.W.k_is)
      ..
    obtain ⟨t, T⟩ := T
    have e0 := hmg.symm.trans (PySem.W.mg_of KX G T.law)
    cases e0                                       -- fa is the law's own address
    exact ⟨_, fun s u => .of_eq rfl, fun base kb nb => My.law_fn T kb nb⟩     -- if «.of_eq rfl» comes too early: refine' ⟨_, ?b, fun base kb nb => My.law_fn T kb nb⟩; exact fun s u => .of_eq rfl
  case S => exact fun w H a ns hl hO hS => ..
  case C => exact ..
(the tactic k_is has no namespace: write k_is) -/

/-! SHORT WORDS over the layer: a def of the text, its body, what a loop and a test want. -/
namespace L2
open PySem PySem.Spec PyProof.Rows

/-! ### the text by places -/
/-- the j-th statement of a class's body -/
def inClass (s : Stmt) (j : Nat) : Stmt := match s with
  | .ClassDef _ _ _ body _ _ _ _ _ _ _ => body.getD j (.Pass ⟨0, 0, 0, 0⟩)
  | _ => .Pass ⟨0, 0, 0, 0⟩
def defArgs (s : Stmt) : Arguments := match s with
  | .FunctionDef _ a _ _ _ _ _ _ _ _ => a
  | _ => { posonlyargs := [], args := [], vararg := none, kwonlyargs := [], kw_defaults := [], kwarg := none, defaults := [] }
def defBody (s : Stmt) : List Stmt := match s with
  | .FunctionDef _ _ b _ _ _ _ _ _ _ => b
  | _ => []
def defScope (s : Stmt) : Scope := match s with
  | .FunctionDef _ _ _ _ _ _ sc _ _ _ => sc
  | _ => { kind := .function, names := [], isGenerator := false, isCoroutine := false }

/-! ### no exception leaves a def -/
abbrev CX0 : CXT := fun _ _ _ _ _ _ => False
abbrev E0 : XK := fun _ _ _ => False
theorem pass0 {X : Cx} : Passes CX0 X E0 := fun _ _ _ _ _ _ _ h => h.elim

/-! ### a def (or method) of the text as it stands behind the top -/
structure Fun (K : PySem.W.Frag) (x qual : Str) (st : Stmt) (f : Addr) (fd : FuncData) : Prop where
  ex : ∃ (oc : Value) (od : Option Addr) (kV doc pm : Value) (an : Option Addr) (cdv ct : Value) (osl : Array (Option Value)),
    fd = PySem.W.fnOf x qual (defArgs st) (defBody st) (defScope st) .none kV doc pm an cdv ct ∧ K.lookup f = some ⟨oc, od, .func fd, osl⟩ ∧ PySem.W.codeIn K cdv qual = true
  kp : PySem.W.keepIn K (.ref f) = true
section
variable {P : Program} {w : World} {K : PySem.W.Frag} {mg : Str → Option Value} {base : Heap}
/-- THE RULE for a def: its body as a term of rules, and the reading of that term -/
theorem Fun.ok {x qual : Str} {st : Stmt} {f : Addr} {fd : FuncData} {N ps : List Str} {k : Nat} {sp : Sp} (F : Fun K x qual st f fd) (S : FnScope N ps (defScope st)) (len : ∀ vs H Q E, sp vs H Q E → vs.length = ps.length)
    (hbody : ∀ (cdv : Value) (A : Around) (outer : List Env) (s : Shared) (H : Hp) (vs : List V) (Q : VK) (E : XK), Room k (A.deeper (envOfC qual (defScope st) s.heap.objs.size f cdv)) → sp vs H Q E →
      ∃ t, PSs (cxOf CX0 P w K mg base N qual (defScope st) f cdv A outer s H E).nox (defBody st) t ∧ t { nx := fun _ H' => Q .non H', rt := Q } (start N vs) H) : FnOk P w K mg base CX0 (k + 1) f fd ps sp := by
  obtain ⟨oc, od, kV, doc, pm, an, cdv, ct, osl, rfl, lk, hcd⟩ := F.ex
  refine fn_of lk hcd S len fun A outer s H vs Q E hr hsp => ?_
  obtain ⟨t, h, q⟩ := hbody cdv A outer s H vs Q E hr hsp
  exact ⟨t, h.nox, q⟩
/-- how its arguments bind (no defaults): h is «fun _ _ _ _ _ _ us hl => match us, hl with | [_, _], _ => rfl», one _ a parameter -/
theorem Fun.binds {x qual : Str} {st : Stmt} {f : Addr} {fd : FuncData} {ps : List Str} (F : Fun K x qual st f fd)
    (h : ∀ (kV doc pm : Value) (an : Option Addr) (cdv ct : Value) (us : List Value), us.length = ps.length → bindArgs (PySem.W.fnOf x qual (defArgs st) (defBody st) (defScope st) .none kV doc pm an cdv ct) ⟨us, []⟩ = pure (ps.zip us)) : Binds K fd ps [] := by
  obtain ⟨oc, od, kV, doc, pm, an, cdv, ct, osl, rfl, lk, hcd⟩ := F.ex
  exact .all (h kV doc pm an cdv ct)
theorem fun_mk {x qual : Str} {st : Stmt} {f : Addr} {oc : Value} {od an : Option Addr} {osl : Array (Option Value)} {kV doc pm cdv ct : Value} (l : K.lookup f = some ⟨oc, od, .func (PySem.W.fnOf x qual (defArgs st) (defBody st) (defScope st) .none kV doc pm an cdv ct), osl⟩)
    (c : PySem.W.codeIn K cdv qual = true) (k : PySem.W.keepIn K (.ref f) = true) : Fun K x qual st f (PySem.W.fnOf x qual (defArgs st) (defBody st) (defScope st) .none kV doc pm an cdv ct) := ⟨⟨oc, od, kV, doc, pm, an, cdv, ct, osl, rfl, l, c⟩, k⟩
end
theorem hu_of {A : Around} {k : Nat} (hr : Room k A) : A.units + 1 < cLine := Nat.lt_of_le_of_lt (Nat.add_le_add_left (by decide : 1 ≤ 64) _) hr.units
theorem small1000 {n : Nat} (h : n ≤ 1000) : n < sizeLine := Nat.lt_of_le_of_lt h (by decide)

/-! ### expressions in short: the name that stands in the i-th slot -/
section
variable {X : Cx}
theorem pv (i : Nat) {x : Str} {pos : Pos} (hN : X.N[i]? = some x := by rfl) (hv : Vis X.env.scope x := by first | exact Or.inl rfl | exact Or.inr (Or.inl rfl) | exact Or.inr (Or.inr rfl)) (hd : (x == ("__debug__" : Str)) = false := by decide)
    (hcd : (x == ("__classdict__" : Str)) = false := by decide) : PE X (.Name x pos) (tVar i) := pe_var hN hv hd hcd
end

/-! ### tests -/
theorem iteF {A B : Prop} (h : B) : if false = true then A else B := by
  rw [if_neg Bool.false_ne_true]
  exact h
theorem iteT {A B : Prop} (h : A) : if true = true then A else B := by
  rw [if_pos rfl]
  exact h
theorem ite2 {c A B : Prop} [Decidable c] (h1 : c → A) (h2 : ¬ c → B) : if c then A else B := by
  by_cases h : c
  · rw [if_pos h]
    exact h1 h
  · rw [if_neg h]
    exact h2 h
/-! ### heaps -/
/-- all that was tracked is as it was -/
def Same (H H' : Hp) : Prop := ∀ b o, H b = some o → H' b = some o
theorem Same.refl (H : Hp) : Same H H := fun _ _ h => h
theorem Same.trans {H H1 H2 : Hp} (a : Same H H1) (b : Same H1 H2) : Same H H2 := fun c o h => b c o (a c o h)
theorem Same.free {H H' : Hp} (e : Same H H') {l : Addr} (h : H' l = Option.none) : H l = Option.none := by
  cases q : H l with
  | none => rfl
  | some o =>
    rw [e l o q] at h
    cases h
theorem Same.seq {K : PySem.W.Frag} {H H' : Hp} {a : Addr} {xs : List V} (e : Same H H') (h : SqL K H a xs) : SqL K H' a xs := by
  rcases h with (h | ⟨o, h⟩) | h
  · exact .inl (.inl (e _ _ h))
  · exact .inl (.inr ⟨o, e _ _ h⟩)
  · exact .inr h

end L2

/-! OWN RULES over the hand layer: texts cut and walked, a comprehension, all, isinstance. -/
namespace L2
open PySem PySem.Spec PyProof.Rows
section
variable {X : Cx} {e l : Expr} {te tl : TE} {pos : Pos} {tg : Expr}

/-! ### a text cut -/
def rSlS : V → Option Int → Option Int → Hp → VK → Prop := fun x lo hi H Q => ∃ z, x = .str z ∧ z.length ≤ sizeLine ∧ Q (.str (Txt.slice z lo hi)) H
theorem part_of {v : Value} {o : Option Int} (p : IsPart v o) : ∃ q : Option (Int × Tok), v = partValue q ∧ q.map (·.1) = o := by
  cases p with
  | none => exact ⟨none, rfl, rfl⟩
  | int i t => exact ⟨some (i, t), rfl, rfl⟩
theorem sl_str : SlR X rSlS := by
  intro pins s σ H x v vl vu lo hi sl Q I rx hs pl pu h
  obtain ⟨z, rfl, hz, q⟩ := h
  obtain ⟨t, rfl⟩ := rx
  obtain ⟨ql, rfl, rfl⟩ := part_of pl
  obtain ⟨qu, rfl, rfl⟩ := part_of pu
  obtain ⟨o, ho, hc, hd⟩ := hs
  refine ⟨"str", _, F.slot_str_getitem.lookup, typeIs_str _ _ _, ?_⟩
  refine wpAny_getItem_str_slice (l := ql) (u := qu) (st := none) ⟨o, ho, hc, hd⟩ rfl ?_
  exact post_val_or_str ⟨Nat.le_trans (Txt.slice_le z _ _) hz, fun t' k => ⟨.str (Txt.slice z (ql.map (·.1)) (qu.map (·.1))), H, I.tok _, ⟨_, rfl⟩, q⟩⟩

/-! ### a text walked -/
def Its (z : Str) : It := ⟨fun i _ => i < z.length, fun i H x H' => H' = H ∧ ∃ c, z.cps[i]? = some c ∧ x = .str ⟨#[c]⟩, fun i _ => z.length ≤ i⟩
def iStr (tl : TE) : TI := fun σ H R => tl σ H fun x H1 => ∃ z, x = .str z ∧ R (Its z) H1
/-! ### all of a list of bools -/
/-! ### isinstance(x, T), T a built-in type -/
theorem call_isinst : CallR X (.builtin "isinstance") (fun xs H Q => ∃ x t n b, xs = [x, .ty n] ∧ TyOf X.K H x t ∧ PySem.W.kitOne X.K t (.type n) = some b ∧ Q (.bl b) H) := by
  intro pins s σ H xs us Q I r h
  obtain ⟨x, t, n, b, rfl, ty, hk, q⟩ := h
  obtain ⟨u, w', rfl, rx, ry⟩ := vals2 r
  cases (show w' = Value.type n from ry)
  exact isinst_ok I rx ty hk fun tk => ⟨.bl b, H, I.tok _, rfl, q⟩
end

/-! ### a comprehension: its block is a context of its own -/
structure Clo (X : Cx) (scope : Scope) (cl : List (Str × Addr)) : Prop where
  eq : closureFor scope X.env = pure cl
  sub : ∀ y c, cl.lookup y = some c → X.env.cells.lookup y = some c
  has : ∀ y, ((relabel scope X.env).names.lookup y = some .cell ∨ (relabel scope X.env).names.lookup y = some .free) → ∃ c, cl.lookup y = some c
theorem clo_none {X : Cx} {scope : Scope} (hfree : ∀ x ∈ scope.names, x.2 ≠ .free) (hcell : ∀ x ∈ scope.names, x.2 ≠ .cell) : Clo X scope [] := by
  refine ⟨closureFor_none hfree, fun y c h => by simp at h, fun y h => ?_⟩
  have e : (relabel scope X.env).names = scope.names := by
    unfold relabel
    refine map_eq_self (fun x hx => ?_)
    obtain ⟨n, k⟩ := x
    have : (k == NameKind.free) = false := by simpa using hfree _ hx
    simp [this]
  rw [e] at h
  rcases h with h | h
  · exact absurd rfl (hcell _ (PySem.mem_of_lookup h))
  · exact absurd rfl (hfree _ (PySem.mem_of_lookup h))

def cxComp (X : Cx) (N' : List Str) (scope : Scope) (cl : List (Str × Addr)) (fp : List Addr) (s₃ : Shared) (H₃ : Hp) : Cx where
  prog := X.prog
  w := X.w
  K := X.K
  mg := X.mg
  base := X.base
  A := X.A
  N := N'
  s₀ := s₃
  H₀ := H₃
  env := compEnvC scope cl s₃.heap.objs.size X.env
  outer := X.stack
  stack := X.stack
  ex := fp
  calm := X.calm
  fn := fun _ => false
  pn := []
  xe := fun _ _ => False

/-- the free names' values -/
def fvs (σ : St) (ix : List Nat) : St := ix.map fun i => (σ[i]?).join
def tLC (wi : TI) (ix : List Nat) (te : TE) : TE := fun σ H Q => wi σ H fun J H1 => ∀ D, H1 D = none →
  ∃ W : Nat → Nat → List V → Hp → Prop, (∃ m, W 0 m [] (upd H1 D (.lst []))) ∧
    ∀ i m ys H', W i m ys H' → H' D = some (.lst ys) ∧
      ((J.stop i H' ∧ Q (.ref D) H') ∨ (J.go i H' ∧ ∀ x H'', J.yld i H' x H'' → te (some x :: fvs σ ix) H'' fun y H3 =>
        H3 D = some (.lst ys) ∧ ys.length < sizeLine ∧ ∃ m', m' < m ∧ W (i + 1) m' (ys ++ [y]) (upd H3 D (.lst (ys ++ [y])))))

/-- the loop of a comprehension, with the step ahead of the store -/
theorem compLoop_go {prog : Program} {w : World} {A : Around} {R : Result → Shared → Prop} {s : Shared} {elt target iter : Expr} {scope : Scope} {pos : Pos} {it acc : Value} {env : Env} (I : Nat → Shared → Prop)
    (turn : ∀ n s, I n s → wpAny (model prog w) A (pyNext it) (fun r s₁ => match r with
      | none => R (.ok .next) s₁
      | some v => wpAny (model prog w) A (letOwnedTupleGo target it v) (fun _ s₁' => wpAny (model prog w) A (assign target env v) (fun _ s₂ => wpAny (model prog w) A (eval elt env) (fun x s₃ =>
          wpAny (model prog w) A (call (.builtin "list.append") [acc, x]) (fun _ s₄ => ∃ m, m < n ∧ I m s₄) (notedBy (model prog w) A env fun e s' => R (.error e) s') s₃)
          (notedBy (model prog w) A env fun e s' => R (.error e) s') s₂) (notedBy (model prog w) A env fun e s' => R (.error e) s') s₁') (notedBy (model prog w) A env fun e s' => R (.error e) s') s₁) (notedBy (model prog w) A env fun e s' => R (.error e) s') s)
    (n : Nat) (h : I n s) :
    codeAny (model prog w) A (.compLoop (.ListComp elt [⟨target, iter, [], 0⟩] scope pos) 0 it acc env) R s := by
  refine codeAny_loop rfl I (fun n s hI => ?_) n h
  show wpAny _ _ ((compTurn (.ListComp elt [⟨target, iter, [], 0⟩] scope pos) 0 it acc env).onRaise (fun x => do noteFrame x env; theTreesLotGoes x)) _ _ s
  refine wpAny_noted ?_
  rw [compTurn_list1]
  refine wpAny_bind (wpAny_standAt (wpAny_bind (wpAny_mono (turn n s hI) (fun r s₁ h₁ => ?_) fun _ _ h' => h')))
  cases r with
  | none => exact wpAny_pure h₁
  | some v =>
    refine wpAny_bind (wpAny_mono h₁ (fun _ s₁' h₁' => ?_) fun _ _ h' => h')
    exact wpAny_bind (wpAny_mono h₁' (fun _ s₂ h₂ => wpAny_bind (wpAny_bind (wpAny_mono h₂ (fun x s₃ h₃ => wpAny_bind (wpAny_mono h₃
      (fun _ s₄ h₄ => wpAny_pure (wpAny_pure ⟨rfl, h₄⟩)) fun _ _ h' => h')) fun _ _ h' => h'))) fun _ _ h' => h')

section
variable {X : Cx} {N' : List Str} {scope : Scope} {cl : List (Str × Addr)} {fp : List Addr} {pins : List (Addr × Obj)} {σ : St} {H : Hp} {s : Shared}
/-- the block's context stands -/
theorem comp_ok (I : Inv X pins σ H s) (C : Clo X scope cl) (hkind : scope.kind = .function) (hf : ∀ b ∈ fp, FpOk X pins H b) (hlt : ∀ b ∈ fp, b < s.heap.objs.size) : (cxComp X N' scope cl fp s H).Ok where
  mod := I.ok.mod
  kind := hkind
  glob := I.ok.glob
  blt := I.ok.blt
  above := Nat.le_refl _
  inj := fun x y c h1 h2 => I.ok.inj x y c (C.sub x c h1) (C.sub y c h2)
  has := fun x h => C.has x h
  cab := fun x c h => by cases (show false = true from h)
  hd := I.ok.hd
  frames := I.ok.frames
  stk := .inl rfl
  exf := fun b hb => ⟨Nat.ne_of_lt (hlt b hb), fun x c h => (hf b hb).2.2.2.2.1 x c (C.sub x c h)⟩
  bs := fun b o h => I.bs b o h
  bsz := Nat.le_trans I.ok.bsz I.sz
  noex := fun b o h hb => by
    rcases (hf b hb).2.2.2.1 with z | z
    · exact I.ok.noex b o h z
    · exact absurd (Nat.lt_of_lt_of_le (Heap.lt_size h) (Nat.le_trans I.ok.bsz z)) (Nat.lt_irrefl _)
  exfs := fun b hb hs => by
    rcases List.mem_cons.mp (I.stkSub b hs) with z | z
    · exact (hf b hb).2.1 z
    · exact (hf b hb).2.2.1 z
  funs := I.stack
  frf := I.stkFree
/-- the block's entry -/
theorem comp_start {ix : List Nat} {h₁ : Heap} {t' : Nat} {m : Str → Option Value} (I : Inv X pins σ H s) (C : Clo X scope cl) (hkind : scope.kind = .function) (hf : ∀ b ∈ fp, FpOk X pins H b) (hlt : ∀ b ∈ fp, b < s.heap.objs.size)
    (hlen : N'.length = ix.length + 1) (hix : ∀ (j i : Nat), ix[j]? = some i → ∃ y, X.N[i]? = some y ∧ N'[j + 1]? = some y ∧ (X.env.kindOf y = some .cell ∨ X.env.kindOf y = some .free) ∧ ((relabel scope X.env).names.lookup y = some .cell ∨ (relabel scope X.env).names.lookup y = some .free))
    (hn : h₁.Ns s.heap.objs.size m) (hk : ∀ b o, s.heap.get? b = some o → h₁.get? b = some o) : Inv (cxComp X N' scope cl fp s H) [] (none :: fvs σ ix) H { s with heap := h₁, toks := t' } := by
  have cellK : ∀ x c, cl.lookup x = some c → ∃ v, h₁.IsCell c v := fun x c h => by
    obtain ⟨v, o, ho, hd⟩ := I.cell x c (C.sub x c h)
    exact ⟨v, o, hk c o ho, hd⟩
  refine ⟨comp_ok I C hkind hf hlt, rfl, I.bare, Un.kept hk, ⟨m, hn, fun i y v h1 h2 h3 => ?_⟩, cellK, I.hok.fresh (Nat.le_refl _), fun x c h => I.freeC x c (C.sub x c h), fun p hp => absurd (show p ∈ ([] : List (Addr × Obj)) from hp) (by simp), I.hok.kept hk, ?_⟩
  · cases i with
    | zero => cases (show some (none : Option V) = some (some v) from h2)
    | succ j =>
      have h2' : (fvs σ ix)[j]? = some (some v) := h2
      unfold fvs at h2'
      rw [List.getElem?_map] at h2'
      cases e : ix[j]? with
      | none => rw [e] at h2'; cases h2'
      | some i =>
        rw [e] at h2'
        have h4 : (σ[i]?).join = some v := Option.some.inj h2'
        have h5 : σ[i]? = some (some v) := by
          cases e' : σ[i]? with
          | none => rw [e'] at h4; cases h4
          | some q =>
            rw [e'] at h4
            have h6 : q = some v := h4
            rw [h6]
        obtain ⟨y', n1, n2, k1, k2⟩ := hix j i e
        have ey : y' = y := Option.some.inj (n2.symm.trans h1)
        subst ey
        obtain ⟨m0, hn0, hl0⟩ := I.loc
        have hv0 : Vis X.env.scope y' := k1.elim (fun z => .inr (.inl z)) fun z => .inr (.inr z)
        obtain ⟨u, ru, l⟩ := hl0 i y' v n1 h5 hv0
        refine ⟨u, ru, .inr ⟨k2, ?_⟩⟩
        rcases l with ⟨k, _⟩ | ⟨_, c, ec, o, ho, hd⟩
        · rcases k1 with z | z
          · rw [z] at k; cases k
          · rw [z] at k; cases k
        · obtain ⟨c', ec'⟩ := C.has y' k2
          have : c' = c := Option.some.inj ((C.sub _ _ ec').symm.trans ec)
          subst this
          exact ⟨c', ec', o, hk c' o ho, hd⟩
  · show (none :: fvs σ ix : St).length = N'.length
    rw [hlen]
    simp [fvs]
/-- the block is left -/
theorem comp_end {σ' : St} {H' : Hp} {s' : Shared} {h' : Heap} (I : Inv X pins σ H s) (J : Inv (cxComp X N' scope cl fp s H) [] σ' H' s') (hf : ∀ b ∈ fp, FpOk X pins H b) (hs : Heap.SameBut s.heap.objs.size s'.heap h') : Inv X pins σ H' { s' with heap := h' } := by
  have ne : ∀ b o, s.heap.get? b = some o → b ≠ s.heap.objs.size := fun b o e => Nat.ne_of_lt (Heap.lt_size e)
  have eq : ∀ b, b ≠ s.heap.objs.size → h'.get? b = s'.heap.get? b := fun b hb => hs.2 b hb
  have B := J.base
  have u : Un (frs X.stack) fp H H' s.heap h' :=
    ⟨fun b o e n h1 h2 => (eq b (ne b o e)).trans (B.keep b o e n h1 h2), fun b o e n h1 h2 => by
      obtain ⟨sl, q⟩ := B.slot b o e n h1 h2
      exact ⟨sl, (eq b (ne b o e)).trans q⟩, fun b o e n h1 => B.free b o e n h1, fun b o e h1 => by
      obtain ⟨o', q⟩ := B.there b o e h1
      exact ⟨o', (eq b (ne b o e)).trans q⟩, B.tups, B.frzs, B.tbls⟩
  have hfree : H' s.heap.objs.size = none := J.free
  have hok : HOk X.prog X.w H' h' := fun b ob e => by
    refine (J.hok b ob e).stay (fun c w' hc q => (eq c ?_).trans q) (fun _ q => q) fun _ _ q => q
    rintro rfl
    rcases hc with z | z
    · rw [← z, hfree] at e; cases e
    · rw [hfree] at z; cases z
  exact I.call' (s' := { s' with heap := h' }) (ch := fp) J.os u hok J.bare fun b hb => ⟨(hf b hb).2.2.2.1, (hf b hb).2.1, (hf b hb).2.2.2.2.1, (hf b hb).2.2.2.2.2⟩
end

section
variable {X : Cx} {N' : List Str} {scope : Scope} {elt iter : Expr} {x : Str} {px pos : Pos} {wi : TI} {te : TE} {ix : List Nat}
theorem pe_lc (hc : X.calm = true) (hkind : scope.kind = .function) (hcell : ∀ y ∈ scope.names, y.2 ≠ .cell) (hnames : ∀ y ∈ scope.names, y.2 = .local → scope.names.lookup y.1 = some .local) (hx : scope.names.lookup x = some .local)
    (hclo : X.Ok → ∃ cl, Clo X scope cl) (hN : N'.Nodup) (hN0 : N'[0]? = some x) (hlen : N'.length = ix.length + 1)
    (hix : ∀ (j i : Nat), ix[j]? = some i → ∃ y, X.N[i]? = some y ∧ N'[j + 1]? = some y ∧ (X.env.kindOf y = some .cell ∨ X.env.kindOf y = some .free) ∧ ((relabel scope X.env).names.lookup y = some .cell ∨ (relabel scope X.env).names.lookup y = some .free))
    (hi : PI X (.Name x px) iter wi) (he : ∀ cl fp s₃ H₃, PE (cxComp X N' scope cl fp s₃ H₃) elt te) (hs : ∀ v, foldedSetIterable iter X.env v = pure v := by intro _; rfl) :
    PE X (.ListComp elt [⟨.Name x px, iter, [], 0⟩] scope pos) (tLC wi ix te) := by
  intro pins s σ H Q I h
  obtain ⟨cl, C⟩ := hclo I.ok
  rw [eval_ListComp]
  refine wpAny_comprehension_free (use := none) rfl hs C.eq hkind hnames (thn (hi pins s σ H _ I h) fun v s1 h1 => thn h1 fun itv s2 h2 => ?_)
  obtain ⟨it, fp, tn, J, H2, e, I2, T, st2, f2, q2⟩ := h2
  subst e
  have hD : H2 s2.heap.objs.size = none := I2.fresh
  obtain ⟨W, ⟨m0, w0⟩, turn⟩ := q2 s2.heap.objs.size hD
  refine wpAny_newObj_type (wpAny_newFunctionEnv hcell (by intro y hy; simp at hy) (fun h₁ hns₁ hsb₁ => ?_) hkind)
  dsimp only at hns₁ hsb₁ ⊢
  have I3 : Inv X pins σ (upd H2 s2.heap.objs.size (.lst [])) { s2 with heap := s2.heap.push { cls := .type "list", data := .seq ([] : List Value).toArray }, toks := s2.toks } := I2.lnew .nil (Nat.zero_le _)
  generalize hs3 : ({ s2 with heap := s2.heap.push { cls := .type "list", data := .seq ([] : List Value).toArray }, toks := s2.toks } : Shared) = s3 at I3
  have e3 : s3.heap = s2.heap.push { cls := .type "list", data := .seq ([] : List Value).toArray } := by rw [← hs3]
  generalize hDD : s2.heap.objs.size = D at *
  generalize hH3 : upd H2 D (.lst []) = H3 at *
  have lt2 : ∀ b ∈ fp, b < s2.heap.objs.size := fun b hb => by
    obtain ⟨o, ho, _⟩ := T.obj 0 _ st2 b hb
    exact Heap.lt_size ho
  have neD : ∀ b ∈ fp, b ≠ D := fun b hb => by rw [← hDD]; exact Nat.ne_of_lt (lt2 b hb)
  have f3 : ∀ b ∈ fp, FpOk X pins H3 b := fun b hb => ⟨by rw [← hH3, upd_ne (neD b hb)]; exact (f2 b hb).1, (f2 b hb).2⟩
  have sz3 : s3.heap.objs.size = D + 1 := by rw [e3, Heap.size_push, hDD]
  have lt3 : ∀ b ∈ fp, b < s3.heap.objs.size := fun b hb => by have q := lt2 b hb; rw [sz3]; rw [hDD] at q; exact Nat.lt_succ_of_lt q
  have old : ∀ b o, s3.heap.get? b = some o → h₁.get? b = some o := fun b o eb => by
    have hb : b < D + 1 := by rw [← sz3]; exact Heap.lt_size eb
    refine hsb₁.extBut b o ?_ (Heap.get?_push_of_some _ (by rw [← e3]; exact eb))
    rw [Heap.size_push, hDD]
    exact Nat.ne_of_lt hb
  have szC : (s2.heap.push { cls := .type "list", data := .seq ([] : List Value).toArray }).objs.size = s3.heap.objs.size := by rw [e3]
  have os3 : s3.os = s2.os := by rw [← hs3]
  rw [szC] at hns₁ hsb₁
  have I4 : Inv (cxComp X N' scope cl fp s3 H3) [] (none :: fvs σ ix) H3 { s3 with heap := h₁, toks := s2.toks + ([] : List (Str × Value)).length } := comp_start I3 C hkind f3 lt3 hlen hix hns₁ old
  have st4 : tn 0 h₁ := T.keep 0 _ _ st2 fun b hb o eb => old b o (by rw [e3]; exact Heap.get?_push_of_some _ eb)
  have stat : ∀ {H' : Hp}, (∀ b ∈ fp, H' b = none) → ∀ b ∈ fp, FpOk (cxComp X N' scope cl fp s3 H3) [] H' b := fun hn b hb =>
    ⟨hn b hb, Nat.ne_of_lt (lt3 b hb), fun hs' => (comp_ok (N' := N') I3 C hkind f3 lt3).exfs b hb hs', .inl hb, fun y c hy => ((comp_ok (N' := N') I3 C hkind f3 lt3).exf b hb).2 y c hy, fun p hp => absurd (show p ∈ ([] : List (Addr × Obj)) from hp) (by simp)⟩
  have loop : ∀ s4 : Shared, s4 = { s3 with heap := h₁, toks := s2.toks + ([] : List (Str × Value)).length } →
      codeAny (model X.prog X.w) X.A (.compLoop (.ListComp elt [⟨.Name x px, iter, [], 0⟩] scope pos) 0 (.ref it) (.ref D) (compEnvC scope cl s3.heap.objs.size X.env))
        (compPost (model X.prog X.w) X.A X.xe none (EP X pins σ Q) (.ref D) s3.heap.objs.size) s4 := by
    rintro s4 rfl
    refine compLoop_go (fun n s' => ∃ i σ0 H' ys, Inv (cxComp X N' scope cl fp s3 H3) [] (σ0 :: fvs σ ix) H' s' ∧ tn i s'.heap ∧ (∀ b ∈ fp, H' b = none) ∧ W i n ys H') ?_ m0 ⟨0, none, H3, [], I4, st4, fun b hb => (f3 b hb).1, w0⟩
    rintro n s5 ⟨i, σ0, H5, ys, I5, st5, fr5, w5⟩
    obtain ⟨hD5, alt⟩ := turn i n ys H5 w5
    rcases alt with ⟨stop, q⟩ | ⟨go, step⟩
    · refine thn (T.done (cxComp X N' scope cl fp s3 H3) rfl rfl rfl hc i [] s5 _ H5 _ I5 (stat fr5) st5 stop) fun r s6 ⟨hr, I6⟩ => ?_
      subst hr
      obtain ⟨m, hn, _⟩ := I6.loc
      exact ⟨m, hn, fun h' hsb => ⟨.ref D, H5, comp_end I3 I6 f3 hsb, rfl, q⟩⟩
    · refine thn (T.item (cxComp X N' scope cl fp s3 H3) rfl rfl rfl hc i [] s5 _ H5 _ I5 (stat fr5) st5 go) fun r s6 ⟨u, hr, h6⟩ => ?_
      subst hr
      refine thn h6 fun _ s7 ⟨y7, H7, I7, r7, yl7, st7, fr7⟩ => ?_
      have I7' := I7.pinned (stat fr7) (T.obj _ _ st7)
      have G : PG (cxComp X N' scope cl fp s3 H3) (.Name x px) (gName 0) := pg_name hN hN0 (.inl (lookup_relabel_local hx)) (.inr (lookup_relabel_local hx))
      refine wpAny_mono (G _ s7 _ H7 y7 u (fun σ' H' => σ' = some y7 :: fvs σ ix ∧ H' = H7) I7' r7 ⟨rfl, rfl⟩) (fun _ s8 h8 => ?_) fun _ _ f => False.elim f
      obtain ⟨σ8, H8, I8, rfl, rfl⟩ := h8
      refine wpAny_mono (he cl fp s3 H3 _ s8 _ H8 _ I8 (step y7 H8 yl7)) (fun yv s9 h9 => ?_) fun _ _ f => False.elim f
      obtain ⟨y9, H9, I9, r9, hD9, hl9, m', hm', w9⟩ := h9
      refine wpAny_mono (mt_append (X := cxComp X N' scope cl fp s3 H3) _ s9 _ H9 (.ref D) [y9] (.ref D) [yv] (fun _ H' => H' = upd H9 D (.lst (ys ++ [y9]))) I9 rfl (.cons r9 .nil) ⟨D, ys, y9, rfl, rfl, hD9, hl9, rfl⟩) (fun _ s10 h10 => ?_) fun _ _ f => False.elim f
      obtain ⟨_, H10, I10, _, rfl⟩ := h10
      refine ⟨m', hm', i + 1, some y7, _, ys ++ [y9], I10.unpinned, T.keep _ _ _ st7 fun b hb o eb => (I10.pin (b, o) (List.mem_append_right _ (List.mem_append_right _ (mem_pinsAt hb eb)))).1, fun b hb => ?_, w9⟩
      obtain ⟨o, eb, d⟩ := T.obj _ _ st7 b hb
      exact (I10.pin (b, o) (List.mem_append_right _ (List.mem_append_right _ (mem_pinsAt hb eb)))).2.1
  subst hs3
  have fin := codeAny_compStart_list (loop _ rfl) (T.self X.A 0 _ _ _ st4 (loop _ rfl))
  exact fin
end
end L2

/-! OWN RULES: texts with fields, lists or tuples walked, closures of comprehensions, comprehensions with a test. Behind Ext. -/
namespace L2
open PySem PySem.Spec PyProof.Rows
section
variable {X : Cx} {e l : Expr} {es : List Expr} {te tl : TE} {pos : Pos} {tg : Expr}
/-! ### f-strings -/
def tFmt (te : TE) : TE := fun σ H Q => te σ H fun x H1 => (∃ z, x = .str z ∧ z.length ≤ sizeLine ∧ Q (.str z) H1) ∨ ∃ i : Int, x = .int i ∧ i.natAbs.log2 < 1920 ∧ Q (.str (toString i)) H1
def tRepr (te : TE) : TE := fun σ H Q => te σ H fun x H1 => ∃ z, x = .str z ∧ (reprText z).length ≤ sizeLine ∧ Q (.str (reprText z)) H1
abbrev TJ := St → Hp → Str → (Str → Hp → Prop) → Prop
def PJ (X : Cx) (es : List Expr) (t : TJ) : Prop :=
  ∀ (pins : List (Addr × Obj)) (s : Shared) (σ : St) (H : Hp) (acc : Str) (Q : Str → Hp → Prop) (R : Str → Shared → Prop), Inv X pins σ H s → t σ H acc Q → (∀ out s1 H1, Inv X pins σ H1 s1 → Q out H1 → R out s1) → Joins (model X.prog X.w) X.A X.xe (evalEach es X.env) acc R s
def jNil : TJ := fun _ H acc Q => Q acc H
def jCons (te : TE) (t : TJ) : TJ := fun σ H acc Q => te σ H fun x H1 => ∃ y, x = .str y ∧ (acc ++ y).length ≤ sizeLine ∧ t σ H1 (acc ++ y) Q
def tJoined (t : TJ) : TE := fun σ H Q => t σ H Str.empty fun out H1 => out.length ≤ sizeLine ∧ Q (.str out) H1
/-! ### a list or a tuple walked -/
def iSeq (K : PySem.W.Frag) (tl : TE) : TI := fun σ H R => tl σ H fun x H1 => ∃ a, x = .ref a ∧ (((∃ xs, SqL K H1 a xs) ∧ R (Itl K a) H1) ∨ ((∃ xs, SqT K H1 a xs) ∧ R (Itt K a) H1))
end

/-! ### a comprehension's closure -/
theorem clo_loop {env : Env} : ∀ (l : List (Str × NameKind)) (acc : List (Str × Addr)), (∀ y ∈ l, y.2 = .free → ∃ c, env.cells.lookup y.1 = some c) →
    ∃ cl, (forIn l acc (fun (y : Str × NameKind) cs => if (y.2 == NameKind.free) = true then do let c ← cellOf env y.1; pure (ForInStep.yield ((y.1, c) :: cs)) else pure (ForInStep.yield cs)) : Sem (List (Str × Addr))) = pure cl ∧
      (∀ y c, cl.lookup y = some c → acc.lookup y = some c ∨ env.cells.lookup y = some c) ∧ ∀ y, ((y, NameKind.free) ∈ l ∨ ∃ c, acc.lookup y = some c) → ∃ c, cl.lookup y = some c
  | [], acc, _ => ⟨acc, rfl, fun _ _ h => .inl h, fun y h => h.elim (fun z => by cases z) fun z => z⟩
  | (n, k) :: r, acc, hf => by
    by_cases hk : k = .free
    · subst hk
      obtain ⟨c, hc⟩ := hf (n, .free) List.mem_cons_self rfl
      obtain ⟨cl, e1, e2, e3⟩ := clo_loop r ((n, c) :: acc) fun y hy => hf y (List.mem_cons_of_mem _ hy)
      refine ⟨cl, ?_, fun y d h => ?_, fun y h => ?_⟩
      · rw [List.forIn_cons]
        have ec : cellOf env n = pure c := by unfold cellOf; rw [show env.cells.lookup n = some c from hc]
        have eb : (NameKind.free == NameKind.free) = true := rfl
        simp only [eb, if_true, ec, pure_bind]
        exact e1
      · rcases e2 y d h with z | z
        · by_cases hy : y = n
          · subst hy
            rw [List.lookup_cons, beq_self_eq_true] at z
            cases z
            exact .inr hc
          · rw [List.lookup_cons, beq_eq_false_iff_ne.mpr hy] at z
            exact .inl z
        · exact .inr z
      · refine e3 y ?_
        by_cases hy : y = n
        · subst hy
          exact .inr ⟨c, by rw [List.lookup_cons, beq_self_eq_true]⟩
        · rcases h with z | ⟨d, z⟩
          · rcases List.mem_cons.mp z with z | z
            · exact absurd (congrArg Prod.fst z) hy
            · exact .inl z
          · exact .inr ⟨d, by rw [List.lookup_cons, beq_eq_false_iff_ne.mpr hy]; exact z⟩
    · obtain ⟨cl, e1, e2, e3⟩ := clo_loop r acc fun y hy => hf y (List.mem_cons_of_mem _ hy)
      refine ⟨cl, ?_, e2, fun y h => e3 y ?_⟩
      · rw [List.forIn_cons]
        have hb : (k == NameKind.free) = false := by simpa using hk
        simp only [hb, Bool.false_eq_true, if_false, pure_bind]
        exact e1
      · rcases h with z | z
        · rcases List.mem_cons.mp z with z | z
          · exact absurd (congrArg Prod.snd z).symm hk
          · exact .inl z
        · exact .inr z
theorem clo_of {X : Cx} {scope sc : Scope} (ok : X.Ok) (hsc : X.env.scope = sc) (hcell : ∀ x ∈ scope.names, x.2 ≠ .cell)
    (hf : ∀ y ∈ scope.names, y.2 = .free → sc.names.lookup y.1 = some .cell ∨ sc.names.lookup y.1 = some .free) : ∃ cl, Clo X scope cl := by
  obtain ⟨cl, e1, e2, e3⟩ := clo_loop (env := X.env) scope.names [] fun y hy h => ok.has y.1 (by
    show X.env.scope.names.lookup y.1 = _ ∨ X.env.scope.names.lookup y.1 = _
    rw [hsc]
    exact hf y hy h)
  refine ⟨cl, ?_, fun y c h => (e2 y c h).elim (fun z => by cases z) fun z => z, fun y h => e3 y (.inl ?_)⟩
  · unfold closureFor
    have e0 : (forIn scope.names ([] : List (Str × Addr)) (fun (x : Str × NameKind) cs => match x with
        | (name, kind) => if (kind == NameKind.free) = true then do let c ← cellOf X.env name; pure (ForInStep.yield ((name, c) :: cs)) else pure (ForInStep.yield cs)) : Sem (List (Str × Addr))) = pure cl := e1
    show (forIn scope.names ([] : List (Str × Addr)) _ >>= fun z => pure z) = pure cl
    rw [bind_pure]
    exact e0
  · have m : ∃ k, (k = .cell ∨ k = .free) ∧ (y, k) ∈ (relabel scope X.env).names := by
      rcases h with h | h
      · exact ⟨_, .inl rfl, PySem.mem_of_lookup h⟩
      · exact ⟨_, .inr rfl, PySem.mem_of_lookup h⟩
    obtain ⟨k, hk, hm⟩ := m
    unfold relabel at hm
    obtain ⟨⟨n0, k0⟩, h0, ez⟩ := List.mem_map.mp hm
    by_cases hc : (k0 == NameKind.free && X.env.scope.kind == .function && X.env.kindOf n0 == some .cell) = true
    · dsimp only at ez
      rw [if_pos hc] at ez
      have en : n0 = y := congrArg Prod.fst ez
      have ef : k0 = .free := by
        rw [Bool.and_eq_true, Bool.and_eq_true] at hc
        simpa using hc.1.1
      rw [en, ef] at h0
      exact h0
    · dsimp only at ez
      rw [if_neg hc] at ez
      have en : n0 = y := congrArg Prod.fst ez
      have ek : k0 = k := congrArg Prod.snd ez
      rw [en, ek] at h0
      rcases hk with z | z
      · exact absurd z (hcell _ h0)
      · rw [z] at h0
        exact h0

/-! ### [elt for x in iter if c] -/
def tLCI (wi : TI) (ix : List Nat) (tc : TT) (te : TE) : TE := fun σ H Q => wi σ H fun J H1 => ∀ D, H1 D = none →
  ∃ W : Nat → Nat → List V → Hp → Prop, (∃ m, W 0 m [] (upd H1 D (.lst []))) ∧
    ∀ i m ys H', W i m ys H' → H' D = some (.lst ys) ∧
      ((J.stop i H' ∧ Q (.ref D) H') ∨ (J.go i H' ∧ ∀ x H'', J.yld i H' x H'' → tc (some x :: fvs σ ix) H'' fun b H3 =>
        if b = true then te (some x :: fvs σ ix) H3 fun y H4 => H4 D = some (.lst ys) ∧ ys.length < sizeLine ∧ ∃ m', m' < m ∧ W (i + 1) m' (ys ++ [y]) (upd H4 D (.lst (ys ++ [y])))
        else ∃ m', m' < m ∧ W (i + 1) m' ys H3))
theorem compLoop_goI {prog : Program} {w : World} {A : Around} {R : Result → Shared → Prop} {s : Shared} {elt target iter c : Expr} {scope : Scope} {pos : Pos} {it acc : Value} {env : Env} (J : Nat → Shared → Prop)
    (step : ∀ n s, J n s → wpAny (model prog w) A (pyNext it) (fun r s1 => match r with
      | none => R (.ok .next) s1
      | some v => wpAny (model prog w) A (letOwnedTupleGo target it v) (fun _ s2 => wpAny (model prog w) A (assign target env v) (fun _ s3 => wpAny (model prog w) A (isTrue c env (eval c env)) (fun b s4 => if b = true then wpAny (model prog w) A (eval elt env) (fun x s5 =>
          wpAny (model prog w) A (call (.builtin "list.append") [acc, x]) (fun _ s6 => ∃ m, m < n ∧ J m s6) (notedBy (model prog w) A env fun e s' => R (.error e) s') s5) (notedBy (model prog w) A env fun e s' => R (.error e) s') s4
          else ∃ m, m < n ∧ J m s4) (notedBy (model prog w) A env fun e s' => R (.error e) s') s3)
          (notedBy (model prog w) A env fun e s' => R (.error e) s') s2) (notedBy (model prog w) A env fun e s' => R (.error e) s') s1) (notedBy (model prog w) A env fun e s' => R (.error e) s') s)
    (n : Nat) (h0 : J n s) : codeAny (model prog w) A (.compLoop (.ListComp elt [⟨target, iter, [c], 0⟩] scope pos) 0 it acc env) R s := by
  refine codeAny_loop rfl J (fun n s hJ => ?_) n h0
  show wpAny _ A ((compTurn (.ListComp elt [⟨target, iter, [c], 0⟩] scope pos) 0 it acc env).onRaise (fun x => do noteFrame x env; theTreesLotGoes x)) _ _ s
  refine wpAny_noted ?_
  rw [compTurn_list]
  refine wpAny_bind (wpAny_standAt (wpAny_bind (wpAny_mono (step n s hJ) (fun r s1 h1 => ?_) fun _ _ z => z)))
  cases r with
  | none => exact wpAny_pure h1
  | some v =>
    refine wpAny_bind (wpAny_mono h1 (fun _ s2 h2 => ?_) fun _ _ z => z)
    refine wpAny_bind (wpAny_mono h2 (fun _ s3 h3 => ?_) fun _ _ z => z)
    refine wpAny_bind ?_
    rw [List.forIn_cons]
    refine wpAny_bind ?_
    rw [if_pos rfl]
    refine wpAny_bind (wpAny_mono h3 (fun b s4 h4 => wpAny_pure ?_) fun _ _ z => z)
    show wpAny _ A (forIn ([] : List Expr) b _) _ _ s4
    rw [List.forIn_nil]
    refine wpAny_pure ?_
    cases b with
    | false => exact wpAny_pure ⟨rfl, h4⟩
    | true => exact wpAny_bind (wpAny_bind (wpAny_mono h4 (fun x s5 h5 => wpAny_bind (wpAny_mono h5 (fun _ s6 h6 => wpAny_pure (wpAny_pure ⟨rfl, h6⟩)) fun _ _ z => z)) fun _ _ z => z))
section
variable {X : Cx} {N' : List Str} {scope : Scope} {elt iter c : Expr} {x : Str} {px pos : Pos} {wi : TI} {tc : TT} {te : TE} {ix : List Nat}
end
end L2

/-! OWN: name = [comprehension], where the store comes ahead of the block's end. Behind Ext2. -/
namespace L2
open PySem PySem.Spec PyProof.Rows
theorem Inv.skip {X : Cx} {pins : List (Addr × Obj)} {σ : St} {H : Hp} {s : Shared} {h' : Heap} {C : Addr} (I : Inv X pins σ H s) (hs : Heap.SameBut C s.heap h') (hC : X.s₀.heap.objs.size ≤ C) (hl : C ≠ X.env.locals) (hcl : ∀ x c, X.env.cells.lookup x = some c → c ≠ C) (hp : ∀ p ∈ X.pn ++ pins, p.1 ≠ C) (hf : H C = none) :
    Inv X pins σ H { s with heap := h' } := by
  have eq : ∀ b, b ≠ C → h'.get? b = s.heap.get? b := fun b hb => hs.2 b hb
  have nm : ∀ {b : Addr}, b ∉ [C] → b ≠ C := fun h z => h (by rw [z]; exact List.mem_cons_self)
  have u : Un (frs X.stack) [C] H H s.heap h' := ⟨fun b o e _ _ h2 => (eq b (nm h2)).trans e, fun b o e _ _ h2 => ⟨o.slots, (eq b (nm h2)).trans e⟩, fun b o e n _ => n, fun b o e h1 => ⟨o, (eq b (nm h1)).trans e⟩, fun _ _ q => q, fun _ _ _ q => q, fun _ ps q => ⟨#[], by rw [q]; simp⟩⟩
  have hok : HOk X.prog X.w H h' := fun b ob e => by
    refine (I.hok b ob e).stay (fun c w' hq q => (eq c ?_).trans q) (fun _ q => q) fun _ _ q => q
    rintro rfl
    rcases hq with z | z
    · rw [← z, hf] at e; cases e
    · rw [hf] at z; cases z
  refine I.call' (s' := { s with heap := h' }) (ch := [C]) rfl u hok I.bare fun b hb => ?_
  have e : b = C := List.mem_singleton.mp hb
  subst e
  exact ⟨.inr hC, hl, hcl, hp⟩
section
variable {X : Cx} {N' : List Str} {scope : Scope} {elt iter : Expr} {x : Str} {px pos : Pos} {wi : TI} {te : TE} {ix : List Nat}
end
section
variable {X : Cx} {N' : List Str} {scope : Scope} {elt iter c : Expr} {x : Str} {px pos : Pos} {wi : TI} {tc : TT} {te : TE} {ix : List Nat}
theorem ps_setLCI {i : Nat} {y0 : Str} {py spos : Pos} (hNy : X.N.Nodup) (hiy : X.N[i]? = some y0) (hy : Loc X.env.scope y0) (hc : X.calm = true) (hkind : scope.kind = .function) (hcell : ∀ y ∈ scope.names, y.2 ≠ .cell) (hnames : ∀ y ∈ scope.names, y.2 = .local → scope.names.lookup y.1 = some .local) (hx : scope.names.lookup x = some .local)
    (hclo : X.Ok → ∃ cl, Clo X scope cl) (hN : N'.Nodup) (hN0 : N'[0]? = some x) (hlen : N'.length = ix.length + 1)
    (hix : ∀ (j i : Nat), ix[j]? = some i → ∃ y, X.N[i]? = some y ∧ N'[j + 1]? = some y ∧ (X.env.kindOf y = some .cell ∨ X.env.kindOf y = some .free) ∧ ((relabel scope X.env).names.lookup y = some .cell ∨ (relabel scope X.env).names.lookup y = some .free))
    (hi : PI X (.Name x px) iter wi) (ht : ∀ cl fp s₃ H₃, PT (cxComp X N' scope cl fp s₃ H₃) c tc) (he : ∀ cl fp s₃ H₃, PE (cxComp X N' scope cl fp s₃ H₃) elt te) (hsw : swapsWith (.ListComp elt [⟨.Name x px, iter, [c], 0⟩] scope pos) (some (.Name y0 py)) spos.line X.env = pure true := by rfl)
    (hf : X.fn y0 = true ∨ X.env.scope.names.lookup y0 = some .local := by first | exact .inl rfl | exact .inr rfl | assumption) (hs : ∀ v, foldedSetIterable iter X.env v = pure v := by intro _; rfl) :
    PS X (.Assign [.Name y0 py] (.ListComp elt [⟨.Name x px, iter, [c], 0⟩] scope pos) spos) (tAsg (tLCI wi ix tc te) (gName i)) := by
  intro pins s σ H Dn I h
  obtain ⟨cl, C⟩ := hclo I.ok
  rw [exec_Assign_Name_used _ _ _ _ hsw]
  refine wpAny_bind (wpAny_standAt (wpAny_bind ?_))
  rw [arm_evalThenUse_ListComp]
  refine wpAny_bind (wpAny_mono (wpAny_comprehension_free (use := some (assign (.Name y0 py) X.env)) (Q := fun _ s' => ∃ σ' H', Inv X pins σ' H' s' ∧ Dn.nx σ' H') rfl hs C.eq hkind hnames (thn (hi pins s σ H _ I h) fun v s1 h1 => thn h1 fun itv s2 h2 => ?_)) (fun _ s' h' => wpAny_pure (wpAny_pure h')) fun _ _ z => z)
  obtain ⟨it, fp, tn, J, H2, e, I2, T, st2, f2, q2⟩ := h2
  subst e
  have hD : H2 s2.heap.objs.size = none := I2.fresh
  obtain ⟨W, ⟨m0, w0⟩, turn⟩ := q2 s2.heap.objs.size hD
  refine wpAny_newObj_type (wpAny_newFunctionEnv hcell (by intro y hy; simp at hy) (fun h₁ hns₁ hsb₁ => ?_) hkind)
  dsimp only at hns₁ hsb₁ ⊢
  have I3 : Inv X pins σ (upd H2 s2.heap.objs.size (.lst [])) { s2 with heap := s2.heap.push { cls := .type "list", data := .seq ([] : List Value).toArray }, toks := s2.toks } := I2.lnew .nil (Nat.zero_le _)
  generalize hs3 : ({ s2 with heap := s2.heap.push { cls := .type "list", data := .seq ([] : List Value).toArray }, toks := s2.toks } : Shared) = s3 at I3
  have e3 : s3.heap = s2.heap.push { cls := .type "list", data := .seq ([] : List Value).toArray } := by rw [← hs3]
  generalize hDD : s2.heap.objs.size = D at *
  generalize hH3 : upd H2 D (.lst []) = H3 at *
  have lt2 : ∀ b ∈ fp, b < s2.heap.objs.size := fun b hb => by
    obtain ⟨o, ho, _⟩ := T.obj 0 _ st2 b hb
    exact Heap.lt_size ho
  have neD : ∀ b ∈ fp, b ≠ D := fun b hb => by rw [← hDD]; exact Nat.ne_of_lt (lt2 b hb)
  have f3 : ∀ b ∈ fp, FpOk X pins H3 b := fun b hb => ⟨by rw [← hH3, upd_ne (neD b hb)]; exact (f2 b hb).1, (f2 b hb).2⟩
  have sz3 : s3.heap.objs.size = D + 1 := by rw [e3, Heap.size_push, hDD]
  have lt3 : ∀ b ∈ fp, b < s3.heap.objs.size := fun b hb => by have q := lt2 b hb; rw [sz3]; rw [hDD] at q; exact Nat.lt_succ_of_lt q
  have old : ∀ b o, s3.heap.get? b = some o → h₁.get? b = some o := fun b o eb => by
    have hb : b < D + 1 := by rw [← sz3]; exact Heap.lt_size eb
    refine hsb₁.extBut b o ?_ (Heap.get?_push_of_some _ (by rw [← e3]; exact eb))
    rw [Heap.size_push, hDD]
    exact Nat.ne_of_lt hb
  have szC : (s2.heap.push { cls := .type "list", data := .seq ([] : List Value).toArray }).objs.size = s3.heap.objs.size := by rw [e3]
  rw [szC] at hns₁ hsb₁
  have I4 : Inv (cxComp X N' scope cl fp s3 H3) [] (none :: fvs σ ix) H3 { s3 with heap := h₁, toks := s2.toks + ([] : List (Str × Value)).length } := comp_start I3 C hkind f3 lt3 hlen hix hns₁ old
  have st4 : tn 0 h₁ := T.keep 0 _ _ st2 fun b hb o eb => old b o (by rw [e3]; exact Heap.get?_push_of_some _ eb)
  have stat : ∀ {H' : Hp}, (∀ b ∈ fp, H' b = none) → ∀ b ∈ fp, FpOk (cxComp X N' scope cl fp s3 H3) [] H' b := fun hn b hb =>
    ⟨hn b hb, Nat.ne_of_lt (lt3 b hb), fun hs' => (comp_ok (N' := N') I3 C hkind f3 lt3).exfs b hb hs', .inl hb, fun y c hy => ((comp_ok (N' := N') I3 C hkind f3 lt3).exf b hb).2 y c hy, fun p hp => absurd (show p ∈ ([] : List (Addr × Obj)) from hp) (by simp)⟩
  have loop : ∀ s4 : Shared, s4 = { s3 with heap := h₁, toks := s2.toks + ([] : List (Str × Value)).length } →
      codeAny (model X.prog X.w) X.A (.compLoop (.ListComp elt [⟨.Name x px, iter, [c], 0⟩] scope pos) 0 (.ref it) (.ref D) (compEnvC scope cl s3.heap.objs.size X.env))
        (compPost (model X.prog X.w) X.A X.xe (some (assign (.Name y0 py) X.env)) (fun _ s' => ∃ σ' H', Inv X pins σ' H' s' ∧ Dn.nx σ' H') (.ref D) s3.heap.objs.size) s4 := by
    rintro s4 rfl
    refine compLoop_goI (fun n s' => ∃ i σ0 H' ys, Inv (cxComp X N' scope cl fp s3 H3) [] (σ0 :: fvs σ ix) H' s' ∧ tn i s'.heap ∧ (∀ b ∈ fp, H' b = none) ∧ W i n ys H') ?_ m0 ⟨0, none, H3, [], I4, st4, fun b hb => (f3 b hb).1, w0⟩
    rintro n s5 ⟨i, σ0, H5, ys, I5, st5, fr5, w5⟩
    obtain ⟨hD5, alt⟩ := turn i n ys H5 w5
    rcases alt with ⟨stop, q⟩ | ⟨go, step⟩
    · refine thn (T.done (cxComp X N' scope cl fp s3 H3) rfl rfl rfl hc i [] s5 _ H5 _ I5 (stat fr5) st5 stop) fun r s6 ⟨hr, I6⟩ => ?_
      subst hr
      obtain ⟨m, hn, _⟩ := I6.loc
      have Io : Inv X pins σ H5 s6 := comp_end (h' := s6.heap) I3 I6 f3 ⟨rfl, fun _ _ => rfl⟩
      refine wpAny_assign_Name (store_ok2 (v := .ref D) Io hNy hiy hy rfl (fun s7 I7 ⟨a, sb, ha⟩ => ?_) hf)
      have ltC : ∀ x c, X.env.cells.lookup x = some c → c < s3.heap.objs.size := fun x c e => by
        obtain ⟨v, hv⟩ := I3.cell x c e
        exact hv.lt
      have hCa : s3.heap.objs.size ≠ a := by
        rintro rfl
        rcases ha with z | z
        · exact absurd I3.lt (by rw [← z]; exact Nat.lt_irrefl _)
        · exact absurd (ltC _ _ z) (Nat.lt_irrefl _)
      refine ⟨m, hn.sameBut sb hCa, fun h' hsb => ⟨_, H5, ?_, q⟩⟩
      exact I7.skip hsb I3.sz (Nat.ne_of_gt I3.lt) (fun x c e => Nat.ne_of_lt (ltC x c e)) (fun p hp => Nat.ne_of_lt (Heap.lt_size (I3.pin p hp).1)) I6.free
    · refine thn (T.item (cxComp X N' scope cl fp s3 H3) rfl rfl rfl hc i [] s5 _ H5 _ I5 (stat fr5) st5 go) fun r s6 ⟨u, hr, h6⟩ => ?_
      subst hr
      refine thn h6 fun _ s7 ⟨y7, H7, I7, r7, yl7, st7, fr7⟩ => ?_
      have I7' := I7.pinned (stat fr7) (T.obj _ _ st7)
      have G : PG (cxComp X N' scope cl fp s3 H3) (.Name x px) (gName 0) := pg_name hN hN0 (.inl (lookup_relabel_local hx)) (.inr (lookup_relabel_local hx))
      refine wpAny_mono (G _ s7 _ H7 y7 u (fun σ' H' => σ' = some y7 :: fvs σ ix ∧ H' = H7) I7' r7 ⟨rfl, rfl⟩) (fun _ s8 h8 => ?_) fun _ _ f => False.elim f
      obtain ⟨σ8, H8, I8, rfl, rfl⟩ := h8
      have fin : ∀ {σ9 : Option V} {H9 : Hp} {s9 : Shared} {zs : List V} {m' : Nat}, Inv (cxComp X N' scope cl fp s3 H3) ([] ++ pinsAt fp s7.heap) (σ9 :: fvs σ ix) H9 s9 → m' < n → W (i + 1) m' zs H9 → ∃ m, m < n ∧ ∃ i σ0 H' ys, Inv (cxComp X N' scope cl fp s3 H3) [] (σ0 :: fvs σ ix) H' s9 ∧ tn i s9.heap ∧ (∀ b ∈ fp, H' b = none) ∧ W i m ys H' := fun {σ9 H9 s9 zs m'} I9 hm' w9 => by
        refine ⟨m', hm', i + 1, σ9, H9, zs, I9.unpinned, T.keep _ _ _ st7 fun b hb o eb => (I9.pin (b, o) (List.mem_append_right _ (List.mem_append_right _ (mem_pinsAt hb eb)))).1, fun b hb => ?_, w9⟩
        obtain ⟨o, eb, d⟩ := T.obj _ _ st7 b hb
        exact (I9.pin (b, o) (List.mem_append_right _ (List.mem_append_right _ (mem_pinsAt hb eb)))).2.1
      refine wpAny_mono (ht cl fp s3 H3 _ s8 _ H8 _ I8 (step y7 H8 yl7)) (fun b s9 h9 => ?_) fun _ _ f => False.elim f
      obtain ⟨H9, I9, q9⟩ := h9
      cases b with
      | false =>
        obtain ⟨m', hm', w9⟩ := q9
        exact fin I9 hm' w9
      | true =>
        refine wpAny_mono (he cl fp s3 H3 _ s9 _ H9 _ I9 q9) (fun yv s10 h10 => ?_) fun _ _ f => False.elim f
        obtain ⟨y10, H10, I10, r10, hD10, hl10, m', hm', w10⟩ := h10
        refine wpAny_mono (mt_append (X := cxComp X N' scope cl fp s3 H3) _ s10 _ H10 (.ref D) [y10] (.ref D) [yv] (fun _ H' => H' = upd H10 D (.lst (ys ++ [y10]))) I10 rfl (.cons r10 .nil) ⟨D, ys, y10, rfl, rfl, hD10, hl10, rfl⟩) (fun _ s11 h11 => ?_) fun _ _ f => False.elim f
        obtain ⟨_, H11, I11, _, rfl⟩ := h11
        exact fin I11 hm' w10
  subst hs3
  have fin := codeAny_compStart_list (loop _ rfl) (T.self X.A 0 _ _ _ st4 (loop _ rfl))
  exact fin
end
end L2

/-! OWN: values with all that they hold; == and in, deep. Behind the layer. -/
namespace L2
open PySem PySem.Spec PyProof.Rows
inductive Dt where
  | non | bl (b : Bool) | int (i : Int) | str (x : Str) | tup (xs : List Dt) | lst (xs : List Dt)
mutual
def peq : Dt → Dt → Bool
  | .non, .non => true
  | .bl a, .bl b => a == b
  | .bl a, .int b => (if a then 1 else 0) == b
  | .int a, .bl b => a == (if b then 1 else 0)
  | .int a, .int b => a == b
  | .str a, .str b => a == b
  | .tup xs, .tup ys => peqs xs ys
  | .lst xs, .lst ys => peqs xs ys
  | _, _ => false
def peqs : List Dt → List Dt → Bool
  | [], [] => true
  | x :: xs, y :: ys => peq x y && peqs xs ys
  | _, _ => false
end
mutual
def dep : Dt → Nat
  | .tup xs => deps xs + 1
  | .lst xs => deps xs + 1
  | _ => 0
def deps : List Dt → Nat
  | [] => 0
  | x :: xs => max (dep x) (deps xs)
end
mutual
def nob : Dt → Bool
  | .bl _ => false
  | .tup xs => nobs xs
  | .lst xs => nobs xs
  | _ => true
def nobs : List Dt → Bool
  | [] => true
  | x :: xs => nob x && nobs xs
end
mutual
theorem peq_refl : ∀ d : Dt, peq d d = true
  | .non => rfl
  | .bl _ => by simp [peq]
  | .int _ => by simp [peq]
  | .str _ => by simp [peq]
  | .tup xs => by simp only [peq]; exact peqs_refl xs
  | .lst xs => by simp only [peq]; exact peqs_refl xs
theorem peqs_refl : ∀ d : List Dt, peqs d d = true
  | [] => by simp [peqs]
  | x :: xs => by simp only [peqs, peq_refl x, peqs_refl xs, Bool.and_self]
end
mutual
theorem peq_eq : ∀ d e : Dt, nob d = true → nob e = true → peq d e = true → d = e
  | .non, e, _, _, h => by cases e <;> first | rfl | (simp [peq] at h)
  | .bl _, e, h, _, _ => by simp [nob] at h
  | .int _, e, _, h2, h => by cases e <;> first | (simp [nob] at h2; done) | (simp [peq] at h; done) | (simp [peq] at h; rw [h])
  | .str _, e, _, h2, h => by cases e <;> first | (simp [peq] at h; done) | (simp [peq] at h; rw [h])
  | .tup xs, e, h1, h2, h => by
    cases e with
    | tup ys => simp only [peq] at h; simp only [nob] at h1 h2; rw [peqs_eq xs ys h1 h2 h]
    | _ => simp [peq] at h
  | .lst xs, e, h1, h2, h => by
    cases e with
    | lst ys => simp only [peq] at h; simp only [nob] at h1 h2; rw [peqs_eq xs ys h1 h2 h]
    | _ => simp [peq] at h
theorem peqs_eq : ∀ d e : List Dt, nobs d = true → nobs e = true → peqs d e = true → d = e
  | [], e, _, _, h => by cases e <;> first | rfl | (simp [peqs] at h)
  | x :: xs, e, h1, h2, h => by
    cases e with
    | nil => simp [peqs] at h
    | cons y ys =>
      simp only [peqs, Bool.and_eq_true] at h
      simp only [nobs, Bool.and_eq_true] at h1 h2
      rw [peq_eq x y h1.1 h2.1 h.1, peqs_eq xs ys h1.2 h2.2 h.2]
end

/-! ### a value stands for a datum -/
mutual
def Has (K : PySem.W.Frag) (H : Hp) : Dt → V → Prop
  | .non, v => v = .non
  | .bl b, v => v = .bl b
  | .int i, v => v = .int i
  | .str x, v => v = .str x
  | .tup ds, v => ∃ a xs, v = .ref a ∧ SqT K H a xs ∧ HasL K H ds xs
  | .lst ds, v => ∃ a xs, v = .ref a ∧ SqL K H a xs ∧ HasL K H ds xs
def HasL (K : PySem.W.Frag) (H : Hp) : List Dt → List V → Prop
  | [], vs => vs = []
  | d :: ds, vs => ∃ v r, vs = v :: r ∧ Has K H d v ∧ HasL K H ds r
end
theorem HasL.length {K : PySem.W.Frag} {H : Hp} : ∀ {ds : List Dt} {vs : List V}, HasL K H ds vs → ds.length = vs.length
  | [], vs, h => by simp only [HasL] at h; rw [h]; rfl
  | d :: ds, vs, h => by
    simp only [HasL] at h
    obtain ⟨v, r, rfl, _, h2⟩ := h
    rw [List.length_cons, List.length_cons, HasL.length h2]
theorem HasL.get {K : PySem.W.Frag} {H : Hp} : ∀ {ds : List Dt} {vs : List V} {i : Nat} {v : V}, HasL K H ds vs → vs[i]? = some v → ∃ d, ds[i]? = some d ∧ Has K H d v
  | [], vs, i, v, h, e => by simp only [HasL] at h; rw [h] at e; simp at e
  | d :: ds, vs, i, v, h, e => by
    simp only [HasL] at h
    obtain ⟨v0, r, rfl, h1, h2⟩ := h
    cases i with
    | zero => simp at e; subst e; exact ⟨d, rfl, h1⟩
    | succ i =>
      obtain ⟨d', e1, e2⟩ := HasL.get (i := i) h2 (by simpa using e)
      exact ⟨d', by simpa using e1, e2⟩
theorem HasL.getD {K : PySem.W.Frag} {H : Hp} : ∀ {ds : List Dt} {vs : List V} {i : Nat} {d : Dt}, HasL K H ds vs → ds[i]? = some d → ∃ v, vs[i]? = some v ∧ Has K H d v
  | [], vs, i, d, h, e => by simp at e
  | d0 :: ds, vs, i, d, h, e => by
    simp only [HasL] at h
    obtain ⟨v0, r, rfl, h1, h2⟩ := h
    cases i with
    | zero => simp at e; subst e; exact ⟨v0, rfl, h1⟩
    | succ i =>
      obtain ⟨v, e1, e2⟩ := HasL.getD (i := i) h2 (by simpa using e)
      exact ⟨v, by simpa using e1, e2⟩
theorem HasL.append {K : PySem.W.Frag} {H : Hp} : ∀ {ds es : List Dt} {vs ws : List V}, HasL K H ds vs → HasL K H es ws → HasL K H (ds ++ es) (vs ++ ws)
  | [], es, vs, ws, h, h' => by simp only [HasL] at h; rw [h]; exact h'
  | d :: ds, es, vs, ws, h, h' => by
    simp only [HasL] at h
    obtain ⟨v, r, rfl, h1, h2⟩ := h
    show HasL K H (d :: (ds ++ es)) (v :: (r ++ ws))
    simp only [HasL]
    exact ⟨v, r ++ ws, rfl, h1, HasL.append h2 h'⟩
theorem HasL.one {K : PySem.W.Frag} {H : Hp} {d : Dt} {v : V} (h : Has K H d v) : HasL K H [d] [v] := by
  simp only [HasL]
  exact ⟨v, [], rfl, h, rfl⟩
theorem HasL.ints {K : PySem.W.Frag} {H : Hp} : ∀ ns : List Int, HasL K H (ns.map Dt.int) (ns.map V.int)
  | [] => by simp [HasL]
  | n :: ns => by
    simp only [List.map_cons, HasL]
    exact ⟨_, _, rfl, by simp only [Has], HasL.ints ns⟩

/-! ### what stays: data without lists, where tuples stay -/
mutual
def nol : Dt → Bool
  | .lst _ => false
  | .tup xs => nols xs
  | _ => true
def nols : List Dt → Bool
  | [] => true
  | x :: xs => nol x && nols xs
end
def KeepT (H H' : Hp) : Prop := ∀ b xs, Rd H b (.tup xs) → Rd H' b (.tup xs)
theorem KeepT.sq {K : PySem.W.Frag} {H H' : Hp} {a : Addr} {xs : List V} (k : KeepT H H') (h : SqT K H a xs) : SqT K H' a xs := h.elim (fun z => .inl (k a xs z)) .inr
theorem KeepT.refl (H : Hp) : KeepT H H := fun _ _ h => h
theorem KeepT.trans {H H1 H2 : Hp} (a : KeepT H H1) (b : KeepT H1 H2) : KeepT H H2 := fun c xs h => b c xs (a c xs h)
theorem KeepT.of_same {H H' : Hp} (e : Same H H') : KeepT H H' := fun b xs h => by
  rcases h with h | ⟨o, h⟩
  · exact .inl (e _ _ h)
  · exact .inr ⟨o, e _ _ h⟩
theorem KeepT.lst {H : Hp} {l : Addr} {xs ys : List V} (h : H l = some (.lst xs)) : KeepT H (upd H l (.lst ys)) := fun b zs q => by
  rcases q with q | ⟨o, q⟩
  · exact .inl (by rw [upd_ne (ne_of q h (fun z => by cases z))]; exact q)
  · exact .inr ⟨o, by rw [upd_ne (ne_of q h (fun z => by cases z))]; exact q⟩
theorem KeepT.new {H : Hp} {l : Addr} {o : HO} (h : H l = none) : KeepT H (upd H l o) := KeepT.of_same fun b u q => by rw [upd_ne (ne_of_none q h)]; exact q
mutual
theorem Has.keep {K : PySem.W.Frag} {H H' : Hp} (k : KeepT H H') : ∀ {d : Dt} {v : V}, nol d = true → Has K H d v → Has K H' d v
  | .non, v, _, h => by simp only [Has] at h ⊢; exact h
  | .bl _, v, _, h => by simp only [Has] at h ⊢; exact h
  | .int _, v, _, h => by simp only [Has] at h ⊢; exact h
  | .str _, v, _, h => by simp only [Has] at h ⊢; exact h
  | .tup ds, v, n, h => by
    simp only [Has] at h ⊢
    simp only [nol] at n
    obtain ⟨a, xs, e, h1, h2⟩ := h
    exact ⟨a, xs, e, k.sq h1, HasL.keep k n h2⟩
  | .lst _, v, n, h => by simp [nol] at n
theorem HasL.keep {K : PySem.W.Frag} {H H' : Hp} (k : KeepT H H') : ∀ {ds : List Dt} {vs : List V}, nols ds = true → HasL K H ds vs → HasL K H' ds vs
  | [], vs, _, h => by simp only [HasL] at h ⊢; exact h
  | d :: ds, vs, n, h => by
    simp only [HasL] at h ⊢
    simp only [nols, Bool.and_eq_true] at n
    obtain ⟨v, r, e, h1, h2⟩ := h
    exact ⟨v, r, e, Has.keep k n.1 h1, HasL.keep k n.2 h2⟩
end

/-! ### one value stands for one datum -/
section
variable {X : Cx} {pins : List (Addr × Obj)} {σ : St} {H : Hp} {s : Shared}
theorem sq_apart (I : Inv X pins σ H s) {a : Addr} {xs ys : List V} (h : SqL X.K H a xs) (h' : SqT X.K H a ys) : False := by
  obtain ⟨its, _, p, _⟩ := I.list h
  obtain ⟨jts, _, q, _⟩ := I.tuple h'
  obtain ⟨o, e, c, _⟩ := p.isList
  obtain ⟨o', e', c', _⟩ := q
  rw [e] at e'
  cases e'
  rw [c] at c'
  exact absurd (Value.type.inj c') (by decide)
mutual
theorem Has.inj (I : Inv X pins σ H s) : ∀ (d e : Dt) (v : V), Has X.K H d v → Has X.K H e v → d = e
  | .non, e, v, h, h' => by
    simp only [Has] at h
    subst h
    cases e <;> simp only [Has] at h' <;> first | rfl | (cases h'; done) | (obtain ⟨_, _, z, _⟩ := h'; cases z)
  | .bl b, e, v, h, h' => by
    simp only [Has] at h
    subst h
    cases e <;> simp only [Has] at h' <;> first | (cases h'; done) | (cases h'; rfl) | (obtain ⟨_, _, z, _⟩ := h'; cases z)
  | .int b, e, v, h, h' => by
    simp only [Has] at h
    subst h
    cases e <;> simp only [Has] at h' <;> first | (cases h'; done) | (cases h'; rfl) | (obtain ⟨_, _, z, _⟩ := h'; cases z)
  | .str b, e, v, h, h' => by
    simp only [Has] at h
    subst h
    cases e <;> simp only [Has] at h' <;> first | (cases h'; done) | (cases h'; rfl) | (obtain ⟨_, _, z, _⟩ := h'; cases z)
  | .tup ds, e, v, h, h' => by
    simp only [Has] at h
    obtain ⟨a, xs, rfl, h1, h2⟩ := h
    cases e with
    | tup es =>
      simp only [Has] at h'
      obtain ⟨a', ys, z, h3, h4⟩ := h'
      cases z
      rw [I.tuple_inj h3 h1] at h4
      rw [HasL.inj I ds es xs h2 h4]
    | lst es =>
      simp only [Has] at h'
      obtain ⟨a', ys, z, h3, h4⟩ := h'
      cases z
      exact (sq_apart I h3 h1).elim
    | _ => simp only [Has] at h'; cases h'
  | .lst ds, e, v, h, h' => by
    simp only [Has] at h
    obtain ⟨a, xs, rfl, h1, h2⟩ := h
    cases e with
    | lst es =>
      simp only [Has] at h'
      obtain ⟨a', ys, z, h3, h4⟩ := h'
      cases z
      rw [I.list_inj h3 h1] at h4
      rw [HasL.inj I ds es xs h2 h4]
    | tup es =>
      simp only [Has] at h'
      obtain ⟨a', ys, z, h3, h4⟩ := h'
      cases z
      exact (sq_apart I h1 h3).elim
    | _ => simp only [Has] at h'; cases h'
theorem HasL.inj (I : Inv X pins σ H s) : ∀ (ds es : List Dt) (vs : List V), HasL X.K H ds vs → HasL X.K H es vs → ds = es
  | [], es, vs, h, h' => by
    simp only [HasL] at h
    subst h
    cases es with
    | nil => rfl
    | cons e es => simp only [HasL] at h'; obtain ⟨_, _, z, _⟩ := h'; cases z
  | d :: ds, es, vs, h, h' => by
    simp only [HasL] at h
    obtain ⟨v, r, rfl, h1, h2⟩ := h
    cases es with
    | nil => simp only [HasL] at h'; cases h'
    | cons e es =>
      simp only [HasL] at h'
      obtain ⟨v', r', z, h3, h4⟩ := h'
      cases z
      rw [Has.inj I d e v h1 h3, HasL.inj I ds es r h2 h4]
end

/-! ### == -/
def eqAtN (ds es : List Dt) (j : Nat) : Bool := match ds[j]?, es[j]? with
  | some d, some e => peq d e
  | _, _ => true
theorem eqAtN_zero (d e : Dt) (ds es : List Dt) : eqAtN (d :: ds) (e :: es) 0 = peq d e := rfl
theorem all_eqs : ∀ (ds es : List Dt), ((List.range (min ds.length es.length)).all (eqAtN ds es) && ds.length == es.length) = peqs ds es
  | [], [] => by simp [peqs]
  | [], e :: es => by simp [peqs]
  | d :: ds, [] => by simp [peqs]
  | d :: ds, e :: es => by
    have ih := all_eqs ds es
    have e1 : min (d :: ds).length (e :: es).length = min ds.length es.length + 1 := by simp only [List.length_cons]; omega
    rw [e1, List.range_succ_eq_map, List.all_cons, eqAtN_zero, List.all_map]
    have e2 : (eqAtN (d :: ds) (e :: es) ∘ Nat.succ) = eqAtN ds es := by funext j; rfl
    rw [e2, List.length_cons, List.length_cons]
    simp only [peqs]
    rw [← ih, Bool.and_assoc]
    congr 2
    simp
theorem all_eqs' {ds es : List Dt} (h : ds.length = es.length) : (List.range ds.length).all (eqAtN ds es) = peqs ds es := by
  rw [← all_eqs, ← h, Nat.min_self]
  simp
theorem peqs_len {ds es : List Dt} (h : ds.length ≠ es.length) : peqs ds es = false := by
  rw [← all_eqs]
  have : (ds.length == es.length) = false := by simpa using h
  rw [this, Bool.and_false]
theorem tupOf (I : Inv X pins σ H s) {a : Addr} {xs : List V} {ds : List Dt} (h : SqT X.K H a xs) (g : HasL X.K H ds xs) : ∃ its : List Value, Vals xs its ∧ s.heap.IsTuple a its.toArray ∧ its.toArray.size = ds.length := by
  obtain ⟨its, r, p, _⟩ := I.tuple h
  exact ⟨its, r, p, by rw [List.size_toArray, ← r.length, ← g.length]⟩
theorem lstOf (I : Inv X pins σ H s) {a : Addr} {xs : List V} {ds : List Dt} (h : SqL X.K H a xs) (g : HasL X.K H ds xs) : ∃ its : List Value, Vals xs its ∧ s.heap.IsList a its.toArray ∧ its.toArray.size = ds.length := by
  obtain ⟨its, r, p, _⟩ := I.list h
  exact ⟨its, r, p.isList, by rw [List.size_toArray, ← r.length, ← g.length]⟩
/-- what is asked of the items -/
def EqItems (s : Shared) (A : Around) (ds es : List Dt) (xs ys : List V) : Prop :=
  ∀ (us zs : List Value), Vals xs us → Vals ys zs → ∀ (j : Nat) (u z : Value), us[j]? = some u → zs[j]? = some z → SeqAt.EqAt A.in1 s u z (eqAtN ds es j)
theorem rcTT (I : Inv X pins σ H s) {A : Around} {a b : Addr} {xs ys : List V} {ds es : List Dt} (h1 : SqT X.K H a xs) (g1 : HasL X.K H ds xs) (h2 : SqT X.K H b ys) (g2 : HasL X.K H es ys) (hu : A.units < cLine)
    (he : EqItems s A ds es xs ys) : SeqAt.RcAt A s (.ref a) (.ref b) (peqs ds es) ∧ SeqAt.RcNeAt A s (.ref a) (.ref b) (!peqs ds es) := by
  obtain ⟨its, r1, p1, z1⟩ := tupOf I h1 g1
  obtain ⟨jts, r2, p2, z2⟩ := tupOf I h2 g2
  have q : ∀ j (k1 : j < its.toArray.size) (k2 : j < jts.toArray.size), SeqAt.EqAt A.in1 s its.toArray[j] jts.toArray[j] (eqAtN ds es j) := fun j k1 k2 => he its jts r1 r2 j _ _ (by simp at k1 ⊢) (by simp at k2 ⊢)
  have t1 := SeqAt.RcAt.tuples (e := eqAtN ds es) p1 p2 hu q
  have t2 := SeqAt.RcNeAt.tuples (e := eqAtN ds es) p1 p2 hu q
  rw [z1, z2, all_eqs] at t1 t2
  exact ⟨t1, t2⟩
theorem rcLL (I : Inv X pins σ H s) {A : Around} {a b : Addr} {xs ys : List V} {ds es : List Dt} (h1 : SqL X.K H a xs) (g1 : HasL X.K H ds xs) (h2 : SqL X.K H b ys) (g2 : HasL X.K H es ys) (hu : A.units < cLine)
    (he : EqItems s A ds es xs ys) : SeqAt.RcAt A s (.ref a) (.ref b) (peqs ds es) ∧ SeqAt.RcNeAt A s (.ref a) (.ref b) (!peqs ds es) := by
  obtain ⟨its, r1, p1, z1⟩ := lstOf I h1 g1
  obtain ⟨jts, r2, p2, z2⟩ := lstOf I h2 g2
  by_cases hl : ds.length = es.length
  · have q : ∀ j (k1 : j < its.toArray.size) (k2 : j < jts.toArray.size), SeqAt.EqAt A.in1 s its.toArray[j] jts.toArray[j] (eqAtN ds es j) := fun j k1 k2 => he its jts r1 r2 j _ _ (by simp at k1 ⊢) (by simp at k2 ⊢)
    have t1 := SeqAt.RcAt.lists (e := eqAtN ds es) p1 p2 (by rw [z1, z2, hl]) hu q
    have t2 := SeqAt.RcNeAt.lists (e := eqAtN ds es) p1 p2 (by rw [z1, z2, hl]) hu q
    rw [z1, all_eqs' hl] at t1 t2
    exact ⟨t1, t2⟩
  · have hne : (its.toArray.size != jts.toArray.size) = true := by rw [z1, z2]; simpa using hl
    rw [peqs_len hl]
    exact ⟨SeqAt.RcAt.lists_lengths p1 p2 hne hu, SeqAt.RcNeAt.lists_lengths p1 p2 hne hu⟩
theorem unitsOf {A : Around} {d : Dt} (h : A.units + dep d < cLine) : A.units < cLine := Nat.lt_of_le_of_lt (Nat.le_add_right _ _) h
mutual
theorem eqAt_D (I : Inv X pins σ H s) : ∀ (d e : Dt) (v w : V) (u z : Value) (A : Around), Has X.K H d v → Has X.K H e w → RelV v u → RelV w z → A.units + dep d < cLine → SeqAt.EqAt A s u z (peq d e)
  | .non, e, v, w, u, z, A, h, h', r, r', hu => by
    have hu' := unitsOf hu
    simp only [Has] at h
    subst h
    cases e with
    | tup es =>
      simp only [Has] at h'
      obtain ⟨b, ys, rfl, h3, h4⟩ := h'
      obtain ⟨_, _, p, _⟩ := tupOf I h3 h4
      cases (show z = Value.ref b from r')
      cases (show u = Value.none from r)
      exact SeqAt.EqAt.none_tuple p hu'
    | lst es =>
      simp only [Has] at h'
      obtain ⟨b, ys, rfl, h3, h4⟩ := h'
      obtain ⟨_, _, p, _⟩ := lstOf I h3 h4
      cases (show z = Value.ref b from r')
      cases (show u = Value.none from r)
      exact SeqAt.EqAt.none_list p hu'
    | _ => simp only [Has] at h'; subst h'; exact eqAt_V r r' rfl rfl
  | .bl k, e, v, w, u, z, A, h, h', r, r', hu => by
    have hu' := unitsOf hu
    simp only [Has] at h
    subst h
    cases e with
    | tup es =>
      simp only [Has] at h'
      obtain ⟨b, ys, rfl, h3, h4⟩ := h'
      obtain ⟨_, _, p, _⟩ := tupOf I h3 h4
      cases (show z = Value.ref b from r')
      cases (show u = Value.bool k from r)
      exact SeqAt.EqAt.bool_tuple k p hu'
    | lst es =>
      simp only [Has] at h'
      obtain ⟨b, ys, rfl, h3, h4⟩ := h'
      obtain ⟨_, _, p, _⟩ := lstOf I h3 h4
      cases (show z = Value.ref b from r')
      cases (show u = Value.bool k from r)
      exact SeqAt.EqAt.bool_list k p hu'
    | _ => simp only [Has] at h'; subst h'; exact eqAt_V r r' rfl rfl
  | .int k, e, v, w, u, z, A, h, h', r, r', hu => by
    have hu' := unitsOf hu
    simp only [Has] at h
    subst h
    cases e with
    | tup es =>
      simp only [Has] at h'
      obtain ⟨b, ys, rfl, h3, h4⟩ := h'
      obtain ⟨_, _, p, _⟩ := tupOf I h3 h4
      cases (show z = Value.ref b from r')
      obtain ⟨t, rfl⟩ := r
      exact SeqAt.EqAt.int_tuple k t p hu'
    | lst es =>
      simp only [Has] at h'
      obtain ⟨b, ys, rfl, h3, h4⟩ := h'
      obtain ⟨_, _, p, _⟩ := lstOf I h3 h4
      cases (show z = Value.ref b from r')
      obtain ⟨t, rfl⟩ := r
      exact SeqAt.EqAt.int_list k t p hu'
    | _ => simp only [Has] at h'; subst h'; exact eqAt_V r r' rfl rfl
  | .str k, e, v, w, u, z, A, h, h', r, r', hu => by
    have hu' := unitsOf hu
    simp only [Has] at h
    subst h
    cases e with
    | tup es =>
      simp only [Has] at h'
      obtain ⟨b, ys, rfl, h3, h4⟩ := h'
      obtain ⟨_, _, p, _⟩ := tupOf I h3 h4
      cases (show z = Value.ref b from r')
      obtain ⟨t, rfl⟩ := r
      exact SeqAt.EqAt.str_tuple k t p hu'
    | lst es =>
      simp only [Has] at h'
      obtain ⟨b, ys, rfl, h3, h4⟩ := h'
      obtain ⟨_, _, p, _⟩ := lstOf I h3 h4
      cases (show z = Value.ref b from r')
      obtain ⟨t, rfl⟩ := r
      exact SeqAt.EqAt.str_list k t p hu'
    | _ => simp only [Has] at h'; subst h'; exact eqAt_V r r' rfl rfl
  | .tup ds, e, v, w, u, z, A, h, h', r, r', hu => by
    have hu' := unitsOf hu
    have hd := h
    simp only [Has] at h
    obtain ⟨a, xs, rfl, h1, h2⟩ := h
    cases (show u = Value.ref a from r)
    obtain ⟨_, _, p, _⟩ := tupOf I h1 h2
    have hi : A.in1.units + deps ds < cLine := by simp only [dep] at hu; rw [Around.in1_units]; omega
    cases e with
    | tup es =>
      have he := h'
      simp only [Has] at h'
      obtain ⟨b, ys, rfl, h3, h4⟩ := h'
      cases (show z = Value.ref b from r')
      by_cases hab : a = b
      · subst hab
        rw [Has.inj I _ _ _ hd he, peq_refl]
        exact SeqAt.EqAt.same _
      · have q := (rcTT I h1 h2 h3 h4 hu' fun us zs ru rz j u z e1 e2 => eqAt_L I ds es xs ys us zs A.in1 h2 h4 ru rz hi j u z e1 e2).1
        simp only [peq]
        exact SeqAt.EqAt.of_refs hab q
    | lst es =>
      simp only [Has] at h'
      obtain ⟨b, ys, rfl, h3, h4⟩ := h'
      cases (show z = Value.ref b from r')
      obtain ⟨_, _, p', _⟩ := lstOf I h3 h4
      exact SeqAt.EqAt.tuple_list p p' hu'
    | non => simp only [Has] at h'; subst h'; cases (show z = Value.none from r'); exact SeqAt.EqAt.tuple_none p hu'
    | bl k => simp only [Has] at h'; subst h'; cases (show z = Value.bool k from r'); exact SeqAt.EqAt.tuple_bool k p hu'
    | int k => simp only [Has] at h'; subst h'; obtain ⟨t, rfl⟩ := r'; exact SeqAt.EqAt.tuple_int k t p hu'
    | str k => simp only [Has] at h'; subst h'; obtain ⟨t, rfl⟩ := r'; exact SeqAt.EqAt.tuple_str k t p hu'
  | .lst ds, e, v, w, u, z, A, h, h', r, r', hu => by
    have hu' := unitsOf hu
    have hd := h
    simp only [Has] at h
    obtain ⟨a, xs, rfl, h1, h2⟩ := h
    cases (show u = Value.ref a from r)
    obtain ⟨_, _, p, _⟩ := lstOf I h1 h2
    have hi : A.in1.units + deps ds < cLine := by simp only [dep] at hu; rw [Around.in1_units]; omega
    cases e with
    | lst es =>
      have he := h'
      simp only [Has] at h'
      obtain ⟨b, ys, rfl, h3, h4⟩ := h'
      cases (show z = Value.ref b from r')
      by_cases hab : a = b
      · subst hab
        rw [Has.inj I _ _ _ hd he, peq_refl]
        exact SeqAt.EqAt.same _
      · have q := (rcLL I h1 h2 h3 h4 hu' fun us zs ru rz j u z e1 e2 => eqAt_L I ds es xs ys us zs A.in1 h2 h4 ru rz hi j u z e1 e2).1
        simp only [peq]
        exact SeqAt.EqAt.of_refs hab q
    | tup es =>
      simp only [Has] at h'
      obtain ⟨b, ys, rfl, h3, h4⟩ := h'
      cases (show z = Value.ref b from r')
      obtain ⟨_, _, p', _⟩ := tupOf I h3 h4
      exact SeqAt.EqAt.list_tuple p p' hu'
    | non => simp only [Has] at h'; subst h'; cases (show z = Value.none from r'); exact SeqAt.EqAt.list_none p hu'
    | bl k => simp only [Has] at h'; subst h'; cases (show z = Value.bool k from r'); exact SeqAt.EqAt.list_bool k p hu'
    | int k => simp only [Has] at h'; subst h'; obtain ⟨t, rfl⟩ := r'; exact SeqAt.EqAt.list_int k t p hu'
    | str k => simp only [Has] at h'; subst h'; obtain ⟨t, rfl⟩ := r'; exact SeqAt.EqAt.list_str k t p hu'
theorem eqAt_L (I : Inv X pins σ H s) : ∀ (ds es : List Dt) (vs ws : List V) (us zs : List Value) (A : Around), HasL X.K H ds vs → HasL X.K H es ws → Vals vs us → Vals ws zs → A.units + deps ds < cLine →
    ∀ (j : Nat) (u z : Value), us[j]? = some u → zs[j]? = some z → SeqAt.EqAt A s u z (eqAtN ds es j)
  | [], es, vs, ws, us, zs, A, h, h', r, r', hu, j, u, z, e1, e2 => by
    simp only [HasL] at h
    subst h
    cases r
    simp at e1
  | d :: ds, es, vs, ws, us, zs, A, h, h', r, r', hu, j, u, z, e1, e2 => by
    simp only [HasL] at h
    obtain ⟨v, rs, rfl, h1, h2⟩ := h
    cases r with
    | cons r1 r2 =>
      cases es with
      | nil =>
        simp only [HasL] at h'
        subst h'
        cases r'
        simp at e2
      | cons e es =>
        simp only [HasL] at h'
        obtain ⟨w, rt, rfl, h3, h4⟩ := h'
        simp only [deps] at hu
        cases r' with
        | cons r3 r4 =>
          cases j with
          | zero =>
            simp at e1 e2
            subst e1 e2
            exact eqAt_D I d e v w _ _ A h1 h3 r1 r3 (by omega)
          | succ j => exact eqAt_L I ds es rs rt _ _ A h2 h4 r2 r4 (by omega) j u z (by simpa using e1) (by simpa using e2)
end
end
end L2

namespace L2
open PySem PySem.Spec PyProof.Rows
section
variable {X : Cx} {pins : List (Addr × Obj)} {σ : St} {H : Hp} {s : Shared}
/-- == and != of any two data -/
theorem rc_D (I : Inv X pins σ H s) (A : Around) (d e : Dt) (v w : V) (u z : Value) (h : Has X.K H d v) (h' : Has X.K H e w) (r : RelV v u) (r' : RelV w z) (hu : A.units + dep d < cLine) :
    SeqAt.RcAt A s u z (peq d e) ∧ SeqAt.RcNeAt A s u z (!peq d e) := by
  have hu' := unitsOf hu
  cases d with
  | non =>
    simp only [Has] at h
    subst h
    cases (show u = Value.none from r)
    cases e with
    | non =>
      simp only [Has] at h'
      subst h'
      cases (show z = Value.none from r')
      exact ⟨SeqAt.RcAt.none_none, SeqAt.RcNeAt.none_none⟩
    | bl k2 =>
      simp only [Has] at h'
      subst h'
      cases (show z = Value.bool k2 from r')
      exact ⟨SeqAt.RcAt.none_bool k2, SeqAt.RcNeAt.none_bool k2⟩
    | int k2 =>
      simp only [Has] at h'
      subst h'
      obtain ⟨t2, rfl⟩ := r'
      exact ⟨SeqAt.RcAt.none_int k2 t2, SeqAt.RcNeAt.none_int k2 t2⟩
    | str k2 =>
      simp only [Has] at h'
      subst h'
      obtain ⟨t2, rfl⟩ := r'
      exact ⟨SeqAt.RcAt.none_str k2 t2, SeqAt.RcNeAt.none_str k2 t2⟩
    | tup es =>
      simp only [Has] at h'
      obtain ⟨b, ys, rfl, h3, h4⟩ := h'
      obtain ⟨_, _, p, _⟩ := tupOf I h3 h4
      cases (show z = Value.ref b from r')
      exact ⟨SeqAt.RcAt.none_tuple p hu', SeqAt.RcNeAt.none_tuple p hu'⟩
    | lst es =>
      simp only [Has] at h'
      obtain ⟨b, ys, rfl, h3, h4⟩ := h'
      obtain ⟨_, _, p, _⟩ := lstOf I h3 h4
      cases (show z = Value.ref b from r')
      exact ⟨SeqAt.RcAt.none_list p hu', SeqAt.RcNeAt.none_list p hu'⟩
  | bl k1 =>
    simp only [Has] at h
    subst h
    cases (show u = Value.bool k1 from r)
    cases e with
    | non =>
      simp only [Has] at h'
      subst h'
      cases (show z = Value.none from r')
      exact ⟨SeqAt.RcAt.bool_none k1, SeqAt.RcNeAt.bool_none k1⟩
    | bl k2 =>
      simp only [Has] at h'
      subst h'
      cases (show z = Value.bool k2 from r')
      exact ⟨SeqAt.RcAt.bool_bool k1 k2, SeqAt.RcNeAt.bool_bool k1 k2⟩
    | int k2 =>
      simp only [Has] at h'
      subst h'
      obtain ⟨t2, rfl⟩ := r'
      exact ⟨SeqAt.RcAt.bool_int k1 k2 t2, SeqAt.RcNeAt.bool_int k1 k2 t2⟩
    | str k2 =>
      simp only [Has] at h'
      subst h'
      obtain ⟨t2, rfl⟩ := r'
      exact ⟨SeqAt.RcAt.bool_str k1 k2 t2, SeqAt.RcNeAt.bool_str k1 k2 t2⟩
    | tup es =>
      simp only [Has] at h'
      obtain ⟨b, ys, rfl, h3, h4⟩ := h'
      obtain ⟨_, _, p, _⟩ := tupOf I h3 h4
      cases (show z = Value.ref b from r')
      exact ⟨SeqAt.RcAt.bool_tuple k1 p hu', SeqAt.RcNeAt.bool_tuple k1 p hu'⟩
    | lst es =>
      simp only [Has] at h'
      obtain ⟨b, ys, rfl, h3, h4⟩ := h'
      obtain ⟨_, _, p, _⟩ := lstOf I h3 h4
      cases (show z = Value.ref b from r')
      exact ⟨SeqAt.RcAt.bool_list k1 p hu', SeqAt.RcNeAt.bool_list k1 p hu'⟩
  | int k1 =>
    simp only [Has] at h
    subst h
    obtain ⟨t1, rfl⟩ := r
    cases e with
    | non =>
      simp only [Has] at h'
      subst h'
      cases (show z = Value.none from r')
      exact ⟨SeqAt.RcAt.int_none k1 t1, SeqAt.RcNeAt.int_none k1 t1⟩
    | bl k2 =>
      simp only [Has] at h'
      subst h'
      cases (show z = Value.bool k2 from r')
      exact ⟨SeqAt.RcAt.int_bool k1 t1 k2, SeqAt.RcNeAt.int_bool k1 t1 k2⟩
    | int k2 =>
      simp only [Has] at h'
      subst h'
      obtain ⟨t2, rfl⟩ := r'
      exact ⟨SeqAt.RcAt.int_int k1 t1 k2 t2, SeqAt.RcNeAt.int_int k1 t1 k2 t2⟩
    | str k2 =>
      simp only [Has] at h'
      subst h'
      obtain ⟨t2, rfl⟩ := r'
      exact ⟨SeqAt.RcAt.int_str k1 t1 k2 t2, SeqAt.RcNeAt.int_str k1 t1 k2 t2⟩
    | tup es =>
      simp only [Has] at h'
      obtain ⟨b, ys, rfl, h3, h4⟩ := h'
      obtain ⟨_, _, p, _⟩ := tupOf I h3 h4
      cases (show z = Value.ref b from r')
      exact ⟨SeqAt.RcAt.int_tuple k1 t1 p hu', SeqAt.RcNeAt.int_tuple k1 t1 p hu'⟩
    | lst es =>
      simp only [Has] at h'
      obtain ⟨b, ys, rfl, h3, h4⟩ := h'
      obtain ⟨_, _, p, _⟩ := lstOf I h3 h4
      cases (show z = Value.ref b from r')
      exact ⟨SeqAt.RcAt.int_list k1 t1 p hu', SeqAt.RcNeAt.int_list k1 t1 p hu'⟩
  | str k1 =>
    simp only [Has] at h
    subst h
    obtain ⟨t1, rfl⟩ := r
    cases e with
    | non =>
      simp only [Has] at h'
      subst h'
      cases (show z = Value.none from r')
      exact ⟨SeqAt.RcAt.str_none k1 t1, SeqAt.RcNeAt.str_none k1 t1⟩
    | bl k2 =>
      simp only [Has] at h'
      subst h'
      cases (show z = Value.bool k2 from r')
      exact ⟨SeqAt.RcAt.str_bool k1 t1 k2, SeqAt.RcNeAt.str_bool k1 t1 k2⟩
    | int k2 =>
      simp only [Has] at h'
      subst h'
      obtain ⟨t2, rfl⟩ := r'
      exact ⟨SeqAt.RcAt.str_int k1 t1 k2 t2, SeqAt.RcNeAt.str_int k1 t1 k2 t2⟩
    | str k2 =>
      simp only [Has] at h'
      subst h'
      obtain ⟨t2, rfl⟩ := r'
      exact ⟨SeqAt.RcAt.str_str k1 t1 k2 t2, SeqAt.RcNeAt.str_str k1 t1 k2 t2⟩
    | tup es =>
      simp only [Has] at h'
      obtain ⟨b, ys, rfl, h3, h4⟩ := h'
      obtain ⟨_, _, p, _⟩ := tupOf I h3 h4
      cases (show z = Value.ref b from r')
      exact ⟨SeqAt.RcAt.str_tuple k1 t1 p hu', SeqAt.RcNeAt.str_tuple k1 t1 p hu'⟩
    | lst es =>
      simp only [Has] at h'
      obtain ⟨b, ys, rfl, h3, h4⟩ := h'
      obtain ⟨_, _, p, _⟩ := lstOf I h3 h4
      cases (show z = Value.ref b from r')
      exact ⟨SeqAt.RcAt.str_list k1 t1 p hu', SeqAt.RcNeAt.str_list k1 t1 p hu'⟩
  | tup ds =>
    simp only [Has] at h
    obtain ⟨a, xs, rfl, h1, h2⟩ := h
    cases (show u = Value.ref a from r)
    obtain ⟨_, _, p, _⟩ := tupOf I h1 h2
    have hi : A.in1.units + deps ds < cLine := by simp only [dep] at hu; rw [Around.in1_units]; omega
    cases e with
    | non =>
      simp only [Has] at h'
      subst h'
      cases (show z = Value.none from r')
      exact ⟨SeqAt.RcAt.tuple_none p hu', SeqAt.RcNeAt.tuple_none p hu'⟩
    | bl k2 =>
      simp only [Has] at h'
      subst h'
      cases (show z = Value.bool k2 from r')
      exact ⟨SeqAt.RcAt.tuple_bool k2 p hu', SeqAt.RcNeAt.tuple_bool k2 p hu'⟩
    | int k2 =>
      simp only [Has] at h'
      subst h'
      obtain ⟨t2, rfl⟩ := r'
      exact ⟨SeqAt.RcAt.tuple_int k2 t2 p hu', SeqAt.RcNeAt.tuple_int k2 t2 p hu'⟩
    | str k2 =>
      simp only [Has] at h'
      subst h'
      obtain ⟨t2, rfl⟩ := r'
      exact ⟨SeqAt.RcAt.tuple_str k2 t2 p hu', SeqAt.RcNeAt.tuple_str k2 t2 p hu'⟩
    | tup es =>
      simp only [Has] at h'
      obtain ⟨b, ys, rfl, h3, h4⟩ := h'
      cases (show z = Value.ref b from r')
      simp only [peq]
      exact rcTT I h1 h2 h3 h4 hu' fun us zs ru rz j u z e1 e2 => eqAt_L I ds es xs ys us zs A.in1 h2 h4 ru rz hi j u z e1 e2
    | lst es =>
      simp only [Has] at h'
      obtain ⟨b, ys, rfl, h3, h4⟩ := h'
      cases (show z = Value.ref b from r')
      obtain ⟨_, _, p', _⟩ := lstOf I h3 h4
      exact ⟨SeqAt.RcAt.tuple_list p p' hu', SeqAt.RcNeAt.tuple_list p p' hu'⟩
  | lst ds =>
    simp only [Has] at h
    obtain ⟨a, xs, rfl, h1, h2⟩ := h
    cases (show u = Value.ref a from r)
    obtain ⟨_, _, p, _⟩ := lstOf I h1 h2
    have hi : A.in1.units + deps ds < cLine := by simp only [dep] at hu; rw [Around.in1_units]; omega
    cases e with
    | non =>
      simp only [Has] at h'
      subst h'
      cases (show z = Value.none from r')
      exact ⟨SeqAt.RcAt.list_none p hu', SeqAt.RcNeAt.list_none p hu'⟩
    | bl k2 =>
      simp only [Has] at h'
      subst h'
      cases (show z = Value.bool k2 from r')
      exact ⟨SeqAt.RcAt.list_bool k2 p hu', SeqAt.RcNeAt.list_bool k2 p hu'⟩
    | int k2 =>
      simp only [Has] at h'
      subst h'
      obtain ⟨t2, rfl⟩ := r'
      exact ⟨SeqAt.RcAt.list_int k2 t2 p hu', SeqAt.RcNeAt.list_int k2 t2 p hu'⟩
    | str k2 =>
      simp only [Has] at h'
      subst h'
      obtain ⟨t2, rfl⟩ := r'
      exact ⟨SeqAt.RcAt.list_str k2 t2 p hu', SeqAt.RcNeAt.list_str k2 t2 p hu'⟩
    | tup es =>
      simp only [Has] at h'
      obtain ⟨b, ys, rfl, h3, h4⟩ := h'
      cases (show z = Value.ref b from r')
      obtain ⟨_, _, p', _⟩ := tupOf I h3 h4
      exact ⟨SeqAt.RcAt.list_tuple p p' hu', SeqAt.RcNeAt.list_tuple p p' hu'⟩
    | lst es =>
      simp only [Has] at h'
      obtain ⟨b, ys, rfl, h3, h4⟩ := h'
      cases (show z = Value.ref b from r')
      simp only [peq]
      exact rcLL I h1 h2 h3 h4 hu' fun us zs ru rz j u z e1 e2 => eqAt_L I ds es xs ys us zs A.in1 h2 h4 ru rz hi j u z e1 e2
def rEqD (K : PySem.W.Frag) : R2 := fun x y H Q => ∃ d e, Has K H d x ∧ Has K H e y ∧ dep d ≤ 60 ∧ Q (.bl (peq d e)) H
def rNeD (K : PySem.W.Frag) : R2 := fun x y H Q => ∃ d e, Has K H d x ∧ Has K H e y ∧ dep d ≤ 60 ∧ Q (.bl (!peq d e)) H
theorem op_eqD (hu : X.A.units + 64 < cLine) : OpR X (compareOp .Eq) (rEqD X.K) := by
  intro pins s σ H x y v u Q I rx ry h
  obtain ⟨d, e, h1, h2, hd, q⟩ := h
  exact (rc_D I X.A d e x y v u h1 h2 rx ry (by omega)).1 _ _ _ _ ⟨.bl _, H, I, rfl, q⟩
theorem op_neD (hu : X.A.units + 64 < cLine) : OpR X (compareOp .NotEq) (rNeD X.K) := by
  intro pins s σ H x y v u Q I rx ry h
  obtain ⟨d, e, h1, h2, hd, q⟩ := h
  exact (rc_D I X.A d e x y v u h1 h2 rx ry (by omega)).2 _ _ _ _ ⟨.bl _, H, I, rfl, q⟩
/-! ### in, not in, index -/
open Classical in
/-- does this value stand for a datum that is like d -/
noncomputable def hitD (K : PySem.W.Frag) (H : Hp) (d : Dt) (u : Value) : Bool := decide (∃ (v : V) (d' : Dt), RelV v u ∧ Has K H d' v ∧ peq d' d = true)
open Classical in
theorem hitD_of (I : Inv X pins σ H s) {d d' : Dt} {v : V} {u : Value} (r : RelV v u) (h : Has X.K H d' v) : hitD X.K H d u = peq d' d := by
  unfold hitD
  cases e : peq d' d with
  | true => exact decide_eq_true ⟨v, d', r, h, e⟩
  | false =>
    refine decide_eq_false fun ⟨v', d2, r', h', e'⟩ => ?_
    rw [r'.inj r] at h'
    rw [Has.inj I _ _ _ h' h, e] at e'
    cases e'
theorem any_hitD (I : Inv X pins σ H s) {d : Dt} : ∀ {ds : List Dt} {vs : List V} {us : List Value}, HasL X.K H ds vs → Vals vs us → us.any (hitD X.K H d) = ds.any fun d' => peq d' d
  | [], vs, us, h, r => by
    simp only [HasL] at h
    subst h
    cases r
    rfl
  | d' :: ds, vs, us, h, r => by
    simp only [HasL] at h
    obtain ⟨v, rs, rfl, h1, h2⟩ := h
    cases r with
    | cons r1 r2 => rw [List.any_cons, List.any_cons, hitD_of I r1 h1, any_hitD I h2 r2]
theorem mem_hitD (I : Inv X pins σ H s) {A : Around} {d : Dt} {x : V} {ux : Value} (hx : Has X.K H d x) (rx : RelV x ux) : ∀ {ds : List Dt} {vs : List V} {us : List Value}, HasL X.K H ds vs → Vals vs us → A.units + deps ds < cLine → ∀ u ∈ us, SeqAt.EqAt A s u ux (hitD X.K H d u)
  | [], vs, us, h, r, hu, u, hm => by
    simp only [HasL] at h
    subst h
    cases r
    cases hm
  | d' :: ds, vs, us, h, r, hu, u, hm => by
    simp only [HasL] at h
    obtain ⟨v, rs, rfl, h1, h2⟩ := h
    simp only [deps] at hu
    cases r with
    | cons r1 r2 =>
      rcases List.mem_cons.mp hm with rfl | hm
      · rw [hitD_of I r1 h1]
        exact eqAt_D I d' d v x _ _ A h1 hx r1 rx (by omega)
      · exact mem_hitD I hx rx h2 r2 (by omega) u hm
def rInD (K : PySem.W.Frag) (neg : Bool) : R2 := fun x y H Q => ∃ p xs ds d, y = .ref p ∧ (SqL K H p xs ∨ SqT K H p xs) ∧ HasL K H ds xs ∧ Has K H d x ∧ deps ds ≤ 60 ∧ Q (.bl (if neg then !(ds.any fun d' => peq d' d) else ds.any fun d' => peq d' d)) H
theorem op_notInD (hu : X.A.units + 64 < cLine) : OpR X (compareOp .NotIn) (rInD X.K true) := by
  intro pins s σ H x y v u Q I rx ry h
  obtain ⟨p, xs, ds, d, rfl, hq, hs, hx, hd, q⟩ := h
  cases ry
  have hin : X.A.in1.units + deps ds < cLine := by rw [Around.in1_units]; omega
  rcases hq with hq | hq
  · obtain ⟨its, r, pl, hz⟩ := I.list hq
    refine SeqAt.notIn_listAt (hitD X.K H d) pl.isList (fun w hw => mem_hitD I hx rx hs r hin w (by simpa using hw)) ⟨.bl _, H, I, rfl, ?_⟩
    rw [show its.toArray.any (hitD X.K H d) = its.any (hitD X.K H d) by simp, any_hitD I hs r]
    exact q
  · obtain ⟨its, r, pl, hz⟩ := I.tuple hq
    refine SeqAt.notIn_tupleAt (hitD X.K H d) pl (fun w hw => mem_hitD I hx rx hs r hin w (by simpa using hw)) ⟨.bl _, H, I, rfl, ?_⟩
    rw [show its.toArray.any (hitD X.K H d) = its.any (hitD X.K H d) by simp, any_hitD I hs r]
    exact q
/-- the place of the first that is like d -/
def rIndexD (K : PySem.W.Frag) : V → List V → Hp → VK → Prop := fun x vs H Q => ∃ l xs ds y d j, x = .ref l ∧ vs = [y] ∧ H l = some (.lst xs) ∧ HasL K H ds xs ∧ Has K H d y ∧ deps ds ≤ 60 ∧
  (∃ dj, ds[j]? = some dj ∧ peq dj d = true) ∧ (∀ m dm, m < j → ds[m]? = some dm → peq dm d = false) ∧ Q (.int (j : Nat)) H
end
end L2

/-! OWN: forms that the laws share: a def with all that a caller asks, comprehensions by an invariant, walks by any iterator. Behind Ext2, Deep2. -/
namespace L2
open PySem PySem.Spec PyProof.Rows
/-- a def with its promise, as a caller asks it -/
structure FB (P : Program) (w : World) (K : PySem.W.Frag) (mg : Str → Option Value) (base : Heap) (CX : CXT) (k : Nat) (x : Str) (f : Addr) (fd : FuncData) (ps : List Str) (sp : Sp) : Prop where
  ok : FnOk P w K mg base CX k f fd ps sp
  b : Binds K fd ps []
  kp : PySem.W.keepIn K (.ref f) = true
  m : mg x = some (.ref f)
theorem bsz (n : Nat) (h : n ≤ 1000) : n ≤ sizeLine := Nat.le_of_lt (small1000 h)
theorem units64 {k : Nat} {A : Around} (hr : Room k A) : A.units + 64 < cLine := hr.units
theorem kitSelf (K : PySem.W.Frag) (n : String) : PySem.W.kitOne K (.type n) (.type n) = some true := by
  unfold PySem.W.kitOne
  rw [if_pos (by simp)]
theorem atI_ints {ns : List Int} {i : Nat} {n : Int} (h : ns[i]? = some n) : atI (ns.map V.int) (i : Int) = some (.int n) := atI_nat (by rw [List.getElem?_map, h]; rfl)
theorem take_snoc {α : Type} {xs : List α} {i : Nat} {x : α} (h : xs[i]? = some x) : xs.take (i + 1) = xs.take i ++ [x] := by
  rw [List.take_add_one, h]
  rfl
theorem sameNew {H : Hp} {p : Addr} (h : H p = none) (o : HO) : Same H (upd H p o) := fun b u q => by rw [upd_ne (ne_of_none q h)]; exact q
theorem Same.upd {H0 H : Hp} {l : Addr} {o : HO} (s : Same H0 H) (h : H0 l = none) : Same H0 (upd H l o) := fun b u q => by rw [upd_ne (ne_of_none q h)]; exact s b u q
theorem Same.kt {H H' : Hp} (s : Same H H') : KeepT H H' := KeepT.of_same s
theorem Same.tup {K : PySem.W.Frag} {H H' : Hp} {a : Addr} {xs : List V} (s : Same H H') (h : SqT K H a xs) : SqT K H' a xs := s.kt.sq h

/-! ### an iterator of n turns -/
structure Wk (J : It) (n : Nat) (Ok : Hp → Prop) : Prop where
  stop : ∀ i H, Ok H → n ≤ i → J.stop i H
  go : ∀ i H, Ok H → i < n → J.go i H
theorem wk_range {lo : Int} {n : Nat} : Wk (Itr lo n) n (fun _ => True) := ⟨fun _ _ _ h => h, fun _ _ _ h => h⟩
theorem wk_list {K : PySem.W.Frag} {a : Addr} {xs : List V} : Wk (Itl K a) xs.length (fun H => SqL K H a xs) := ⟨fun _ _ h hi => ⟨xs, h, hi⟩, fun i _ h hi => ⟨xs, xs[i], h, by simp [hi]⟩⟩
theorem wk_tup {K : PySem.W.Frag} {a : Addr} {xs : List V} : Wk (Itt K a) xs.length (fun H => SqT K H a xs) := ⟨fun _ _ h hi => ⟨xs, h, hi⟩, fun i _ h hi => ⟨xs, xs[i], h, by simp [hi]⟩⟩
/-- what a turn of a comprehension is to reach -/
def LcW (n : Nat) (D : Addr) (Pv : Nat → List V → Hp → Prop) (i m : Nat) (ys : List V) (H : Hp) : Prop := m = n - i ∧ i ≤ n ∧ ys.length ≤ i ∧ H D = some (.lst ys) ∧ Pv i ys H
def LcPost (n : Nat) (D : Addr) (Pv : Nat → List V → Hp → Prop) (i : Nat) (ys : List V) : VK := fun y H3 => H3 D = some (.lst ys) ∧ ys.length < sizeLine ∧ ∃ m', m' < n - i ∧ LcW n D Pv (i + 1) m' (ys ++ [y]) (upd H3 D (.lst (ys ++ [y])))
def LcSkip (n : Nat) (D : Addr) (Pv : Nat → List V → Hp → Prop) (i : Nat) (ys : List V) (H3 : Hp) : Prop := ∃ m', m' < n - i ∧ LcW n D Pv (i + 1) m' ys H3
theorem lc_post {n : Nat} {D : Addr} {Pv : Nat → List V → Hp → Prop} {i : Nat} {ys : List V} {y : V} {H3 : Hp} (hn : n ≤ sizeLine) (hi : i < n) (hl : ys.length ≤ i) (hD : H3 D = some (.lst ys)) (p : Pv (i + 1) (ys ++ [y]) (upd H3 D (.lst (ys ++ [y])))) : LcPost n D Pv i ys y H3 :=
  ⟨hD, by omega, n - (i + 1), by omega, rfl, hi, by rw [List.length_append, List.length_singleton]; omega, upd_same, p⟩
theorem lc_skip {n : Nat} {D : Addr} {Pv : Nat → List V → Hp → Prop} {i : Nat} {ys : List V} {H3 : Hp} (hi : i < n) (hl : ys.length ≤ i) (hD : H3 D = some (.lst ys)) (p : Pv (i + 1) ys H3) : LcSkip n D Pv i ys H3 :=
  ⟨n - (i + 1), by omega, rfl, hi, by omega, hD, p⟩
theorem lc_by {J : It} {n : Nat} {Ok : Hp → Prop} {te : TE} {fv : St} {H1 : Hp} {D : Addr} {R : Hp → Prop} (W : Wk J n Ok) (Pv : Nat → List V → Hp → Prop) (hok : ∀ i ys H, Pv i ys H → Ok H) (h0 : Pv 0 [] (upd H1 D (.lst [])))
    (hs : ∀ i ys H' x H'', i < n → ys.length ≤ i → H' D = some (.lst ys) → Pv i ys H' → J.yld i H' x H'' → te (some x :: fv) H'' (LcPost n D Pv i ys)) (hd : ∀ ys H', H' D = some (.lst ys) → Pv n ys H' → R H') :
    ∃ W : Nat → Nat → List V → Hp → Prop, (∃ m, W 0 m [] (upd H1 D (.lst []))) ∧ ∀ i m ys H', W i m ys H' → H' D = some (.lst ys) ∧
      ((J.stop i H' ∧ R H') ∨ (J.go i H' ∧ ∀ x H'', J.yld i H' x H'' → te (some x :: fv) H'' fun y H3 => H3 D = some (.lst ys) ∧ ys.length < sizeLine ∧ ∃ m', m' < m ∧ W (i + 1) m' (ys ++ [y]) (upd H3 D (.lst (ys ++ [y]))))) := by
  refine ⟨LcW n D Pv, ⟨n, rfl, Nat.zero_le _, Nat.zero_le _, upd_same, h0⟩, ?_⟩
  rintro i m ys H' ⟨rfl, hi, hl, hD, p⟩
  refine ⟨hD, ?_⟩
  by_cases hlt : i < n
  · exact .inr ⟨W.go i H' (hok _ _ _ p) hlt, fun x H'' y => hs i ys H' x H'' hlt hl hD p y⟩
  · have e : i = n := by omega
    subst e
    exact .inl ⟨W.stop i H' (hok _ _ _ p) (Nat.le_refl _), hd ys H' hD p⟩
theorem lci_by {J : It} {n : Nat} {Ok : Hp → Prop} {tc : TT} {te : TE} {fv : St} {H1 : Hp} {D : Addr} {R : Hp → Prop} (W : Wk J n Ok) (Pv : Nat → List V → Hp → Prop) (hok : ∀ i ys H, Pv i ys H → Ok H) (h0 : Pv 0 [] (upd H1 D (.lst [])))
    (hs : ∀ i ys H' x H'', i < n → ys.length ≤ i → H' D = some (.lst ys) → Pv i ys H' → J.yld i H' x H'' → tc (some x :: fv) H'' fun b H3 => if b = true then te (some x :: fv) H3 (LcPost n D Pv i ys) else LcSkip n D Pv i ys H3)
    (hd : ∀ ys H', H' D = some (.lst ys) → Pv n ys H' → R H') :
    ∃ W : Nat → Nat → List V → Hp → Prop, (∃ m, W 0 m [] (upd H1 D (.lst []))) ∧ ∀ i m ys H', W i m ys H' → H' D = some (.lst ys) ∧
      ((J.stop i H' ∧ R H') ∨ (J.go i H' ∧ ∀ x H'', J.yld i H' x H'' → tc (some x :: fv) H'' fun b H3 =>
        if b = true then te (some x :: fv) H3 fun y H4 => H4 D = some (.lst ys) ∧ ys.length < sizeLine ∧ ∃ m', m' < m ∧ W (i + 1) m' (ys ++ [y]) (upd H4 D (.lst (ys ++ [y])))
        else ∃ m', m' < m ∧ W (i + 1) m' ys H3)) := by
  refine ⟨LcW n D Pv, ⟨n, rfl, Nat.zero_le _, Nat.zero_le _, upd_same, h0⟩, ?_⟩
  rintro i m ys H' ⟨rfl, hi, hl, hD, p⟩
  refine ⟨hD, ?_⟩
  by_cases hlt : i < n
  · exact .inr ⟨W.go i H' (hok _ _ _ p) hlt, fun x H'' y => hs i ys H' x H'' hlt hl hD p y⟩
  · have e : i = n := by omega
    subst e
    exact .inl ⟨W.stop i H' (hok _ _ _ p) (Nat.le_refl _), hd ys H' hD p⟩
theorem for_by {J : It} {n : Nat} {Ok : Hp → Prop} {g : TG} {tb : TS} {D : Ends} {σ : St} {H : Hp} (W : Wk J n Ok) (Pv : Nat → St → Hp → Prop) (hok : ∀ i σ H, Pv i σ H → Ok H) (h0 : Pv 0 σ H)
    (hs : ∀ i σ H x H', i < n → Pv i σ H → J.yld i H x H' → g x σ H' fun σ2 H2 => tb { D with nx := Pv (i + 1), ct := Pv (i + 1), bk := D.nx } σ2 H2) (hd : ∀ σ H, Pv n σ H → D.nx σ H) :
    ∃ W : Nat → Nat → St → Hp → Prop, (∃ m, W 0 m σ H) ∧ ∀ i m σ H, W i m σ H →
      (J.stop i H ∧ D.nx σ H) ∨ (J.go i H ∧ ∃ N : St → Hp → Prop, (∀ σ' H', N σ' H' → ∃ m', m' < m ∧ W (i + 1) m' σ' H') ∧ ∀ x H', J.yld i H x H' → g x σ H' fun σ2 H2 => tb { D with nx := N, ct := N, bk := D.nx } σ2 H2) := by
  refine ⟨fun i m σ H => m = n - i ∧ i ≤ n ∧ Pv i σ H, ⟨n, by simp, Nat.zero_le _, h0⟩, ?_⟩
  rintro i m σ H ⟨rfl, hi, p⟩
  by_cases hlt : i < n
  · exact .inr ⟨W.go i H (hok _ _ _ p) hlt, Pv (i + 1), fun σ' H' p' => ⟨n - (i + 1), by omega, rfl, hlt, p'⟩, fun x H' y => hs i σ H x H' hlt p y⟩
  · have e : i = n := by omega
    subst e
    exact .inl ⟨W.stop i H (hok _ _ _ p) (Nat.le_refl _), hd σ H p⟩

/-! ### data that stand -/
theorem Has.int {K : PySem.W.Frag} {H : Hp} {i : Int} : Has K H (.int i) (.int i) := by simp only [Has]
theorem Has.str' {K : PySem.W.Frag} {H : Hp} {x : Str} : Has K H (.str x) (.str x) := by simp only [Has]
theorem HasL.nil {K : PySem.W.Frag} {H : Hp} : HasL K H [] [] := by simp only [HasL]
theorem HasL.cons {K : PySem.W.Frag} {H : Hp} {d : Dt} {ds : List Dt} {v : V} {vs : List V} (h : Has K H d v) (r : HasL K H ds vs) : HasL K H (d :: ds) (v :: vs) := by
  simp only [HasL]
  exact ⟨v, vs, rfl, h, r⟩
theorem Has.tup' {K : PySem.W.Frag} {H : Hp} {ds : List Dt} {a : Addr} {xs : List V} (h : SqT K H a xs) (r : HasL K H ds xs) : Has K H (.tup ds) (.ref a) := by
  simp only [Has]
  exact ⟨a, xs, rfl, h, r⟩
theorem Has.lst' {K : PySem.W.Frag} {H : Hp} {ds : List Dt} {a : Addr} {xs : List V} (h : SqL K H a xs) (r : HasL K H ds xs) : Has K H (.lst ds) (.ref a) := by
  simp only [Has]
  exact ⟨a, xs, rfl, h, r⟩
theorem hasl_ints {K : PySem.W.Frag} {H : Hp} : ∀ {ns : List Int} {vs : List V}, HasL K H (ns.map Dt.int) vs → vs = ns.map V.int
  | [], vs, h => by simp only [List.map_nil, HasL] at h; rw [h]; rfl
  | n :: ns, vs, h => by
    simp only [List.map_cons, HasL] at h
    obtain ⟨v, r, rfl, h1, h2⟩ := h
    simp only [Has] at h1
    rw [h1, hasl_ints h2]
    rfl
/-- a tuple of two numbers -/
def dP (t : Int × Int) : Dt := .tup [.int t.1, .int t.2]
theorem has_dP {K : PySem.W.Frag} {H : Hp} {t : Int × Int} {v : V} (h : Has K H (dP t) v) : ∃ p, v = .ref p ∧ SqT K H p [.int t.1, .int t.2] := by
  unfold dP at h
  simp only [Has] at h
  obtain ⟨a, xs, rfl, hs, hl⟩ := h
  have e := hasl_ints (ns := [t.1, t.2]) hl
  rw [e] at hs
  exact ⟨a, rfl, hs⟩
theorem nols_dPs : ∀ ts : List (Int × Int), nols (ts.map dP) = true
  | [] => by simp [nols]
  | t :: ts => by simp only [List.map_cons, nols, dP, nol, Bool.true_and]; exact nols_dPs ts
theorem deps_dPs : ∀ ts : List (Int × Int), deps (ts.map dP) ≤ 1
  | [] => by simp [deps]
  | t :: ts => by
    have h := deps_dPs ts
    simp only [List.map_cons, deps, dP, dep]
    simp only [Nat.max_self, Nat.zero_add]
    omega
theorem hasl_at {K : PySem.W.Frag} {H : Hp} {ts : List (Int × Int)} {xs : List V} {i : Nat} {x : V} (h : HasL K H (ts.map dP) xs) (e : xs[i]? = some x) : ∃ t p, ts[i]? = some t ∧ x = .ref p ∧ SqT K H p [.int t.1, .int t.2] := by
  obtain ⟨d, e1, e2⟩ := h.get e
  rw [List.getElem?_map] at e1
  cases q : ts[i]? with
  | none => rw [q] at e1; cases e1
  | some t =>
    rw [q] at e1
    cases e1
    obtain ⟨p, rfl, hp⟩ := has_dP e2
    exact ⟨t, p, rfl, rfl, hp⟩
/-- len of a list or a tuple, where the context is a comprehension's -/
abbrev rLenS (K : PySem.W.Frag) : List V → Hp → VK → Prop := fun xs H Q => ∃ p ys, xs = [.ref p] ∧ (SqL K H p ys ∨ SqT K H p ys) ∧ Q (.int ys.length) H
end L2

/-! OWN: dict(list of pairs), below the layer. -/
namespace PySem
open Sem (wp)
namespace F
end F
section
variable {prog : Program} {w : World} {K : Type} [DecidableEq K] {knd : KeyKind prog w K} {A : Around}
def pairsTo (ks : Nat → K) (vals : Nat → Value) (n : Nat) : List (K × Value) := (List.range n).foldl (fun acc j => stored acc (ks j) (vals j)) []
end
end PySem

namespace L2
open PySem PySem.Spec PyProof.Rows

/-! ### lists of pairs as tables -/
section
variable {κ : Type} [DecidableEq κ]
def valV (kvs : List (κ × V)) (k : κ) : Option V := (kvs.find? fun kv => decide (kv.1 = k)).map (·.2)
/-- in its place, or at the end -/
def putK (kvs : List (κ × V)) (k : κ) (v : V) : List (κ × V) :=
  if (kvs.any fun kv => decide (kv.1 = k)) = true then kvs.map (fun kv => if kv.1 = k then (kv.1, v) else kv) else kvs ++ [(k, v)]
def dropK (kvs : List (κ × V)) (k : κ) : List (κ × V) := kvs.filter fun kv => decide (kv.1 ≠ k)

theorem valV_nil {k : κ} : valV ([] : List (κ × V)) k = none := rfl
theorem valV_pos {p : κ × V} {r : List (κ × V)} {k : κ} (e : p.1 = k) : valV (p :: r) k = some p.2 := by simp [valV, List.find?_cons, e]
theorem valV_neg {p : κ × V} {r : List (κ × V)} {k : κ} (e : ¬ p.1 = k) : valV (p :: r) k = valV r k := by simp [valV, List.find?_cons, e]
theorem valV_any (k : κ) : ∀ kvs : List (κ × V), (kvs.any fun kv => decide (kv.1 = k)) = (valV kvs k).isSome
  | [] => rfl
  | p :: r => by
    rw [List.any_cons]
    by_cases e : p.1 = k
    · simp only [valV_pos e, decide_eq_true e, Bool.true_or, Option.isSome_some]
    · rw [valV_neg e, decide_eq_false e, Bool.false_or]; exact valV_any k r
theorem valV_map (k j : κ) (y : V) : ∀ kvs : List (κ × V), valV (kvs.map fun kv => if kv.1 = k then (kv.1, y) else kv) j = (valV kvs j).map fun x => if j = k then y else x
  | [] => rfl
  | p :: r => by
    have ih := valV_map k j y r
    rw [List.map_cons]
    by_cases h : p.1 = k
    · rw [if_pos h]
      by_cases e : p.1 = j
      · rw [valV_pos (p := (p.1, y)) e, valV_pos e, Option.map_some, if_pos (e.symm.trans h)]
      · rw [valV_neg (p := (p.1, y)) e, valV_neg e, ih]
    · rw [if_neg h]
      by_cases e : p.1 = j
      · rw [valV_pos (p := p) e, valV_pos e, Option.map_some, if_neg (fun z => h (e.trans z))]
      · rw [valV_neg (p := p) e, valV_neg e, ih]
theorem valV_snoc (k j : κ) (y : V) : ∀ kvs : List (κ × V), valV kvs k = none → valV (kvs ++ [(k, y)]) j = if j = k then some y else valV kvs j
  | [], _ => by
    by_cases e : k = j
    · rw [if_pos e.symm]; exact valV_pos (p := (k, y)) e
    · rw [if_neg (fun z => e z.symm)]; exact valV_neg (p := (k, y)) e
  | p :: r, hn => by
    rw [List.cons_append]
    have hk : ¬ p.1 = k := fun z => by rw [valV_pos z] at hn; cases hn
    rw [valV_neg hk] at hn
    have ih := valV_snoc k j y r hn
    by_cases e : p.1 = j
    · rw [valV_pos e, valV_pos e, if_neg (fun z => hk (e.trans z))]
    · rw [valV_neg e, valV_neg e, ih]
theorem valV_put (kvs : List (κ × V)) (k j : κ) (y : V) : valV (putK kvs k y) j = if j = k then some y else valV kvs j := by
  unfold putK
  by_cases a : (kvs.any fun kv => decide (kv.1 = k)) = true
  · rw [if_pos a, valV_map]
    rw [valV_any] at a
    by_cases e : j = k
    · obtain ⟨x, hx⟩ := Option.isSome_iff_exists.mp a
      rw [if_pos e, e, hx, Option.map_some, if_pos rfl]
    · rw [if_neg e]
      cases valV kvs j with
      | none => rfl
      | some x => rw [Option.map_some, if_neg e]
  · rw [if_neg a]
    refine valV_snoc k j y kvs ?_
    rw [valV_any] at a
    cases q : valV kvs k with
    | none => rfl
    | some x => rw [q] at a; exact (a rfl).elim
theorem length_putK (kvs : List (κ × V)) (k : κ) (v : V) : (putK kvs k v).length ≤ kvs.length + 1 := by
  unfold putK
  split
  · rw [List.length_map]; omega
  · rw [List.length_append, List.length_cons, List.length_nil]; omega
theorem RelO.isSome_eq {o : Option V} {u : Option Value} (r : RelO o u) : o.isSome = u.isSome := by
  cases o with
  | none => cases u with
    | none => rfl
    | some _ => exact (show False from r).elim
  | some _ => cases u with
    | none => exact (show False from r).elim
    | some _ => rfl
theorem RelO.getD {o : Option V} {u : Option Value} {d : V} {d' : Value} (r : RelO o u) (rd : RelV d d') : RelV (o.getD d) (u.getD d') := by
  cases o with
  | none => cases u with
    | none => exact rd
    | some _ => exact (show False from r).elim
  | some _ => cases u with
    | none => exact (show False from r).elim
    | some _ => exact r

/-- raw tables of the same keys -/
theorem KV.val {kvs : List (κ × V)} {vs : List (κ × Value)} (r : KV kvs vs) (k : κ) : RelO (valV kvs k) (valueAt vs k) := by
  unfold KV at r
  induction r with
  | nil => exact True.intro
  | @cons p q ps qs h t ih =>
    obtain ⟨h1, h2⟩ := h
    by_cases e : p.1 = k
    · have e' : q.1 = k := h1.symm.trans e
      have b : valueAt (q :: qs) k = some q.2 := by simp [valueAt, List.find?_cons, e']
      rw [valV_pos e, b]; exact h2
    · have e' : ¬ q.1 = k := fun z => e (h1.trans z)
      have b : valueAt (q :: qs) k = valueAt qs k := by simp [valueAt, List.find?_cons, e']
      rw [valV_neg e, b]; exact ih
theorem KV.any {kvs : List (κ × V)} {vs : List (κ × Value)} (r : KV kvs vs) (k : κ) : (kvs.any fun kv => decide (kv.1 = k)) = vs.any fun kv => decide (kv.1 = k) := by
  unfold KV at r
  induction r with
  | nil => rfl
  | cons h t ih => rw [List.any_cons, List.any_cons, ih, h.1]
theorem KV.repl {kvs : List (κ × V)} {vs : List (κ × Value)} (r : KV kvs vs) (k : κ) {y : V} {u : Value} (ry : RelV y u) :
    KV (kvs.map fun kv => if kv.1 = k then (kv.1, y) else kv) (vs.map fun kv => if kv.1 = k then (kv.1, u) else kv) := by
  unfold KV at r ⊢
  induction r with
  | nil => exact .nil
  | @cons p q ps qs h t ih =>
    rw [List.map_cons, List.map_cons]
    refine .cons ?_ ih
    obtain ⟨h1, h2⟩ := h
    by_cases e : p.1 = k
    · rw [if_pos e, if_pos (h1.symm.trans e)]; exact ⟨h1, ry⟩
    · rw [if_neg e, if_neg (fun z => e (h1.trans z))]; exact ⟨h1, h2⟩
theorem KV.put {kvs : List (κ × V)} {vs : List (κ × Value)} (r : KV kvs vs) (k : κ) {y : V} {u : Value} (ry : RelV y u) : KV (putK kvs k y) (stored vs k u) := by
  unfold putK stored
  rw [r.any k]
  by_cases e : (vs.any fun kv => decide (kv.1 = k)) = true
  · rw [if_pos e, if_pos e]; exact r.repl k ry
  · rw [if_neg e, if_neg e]; exact Paired.snoc r ⟨rfl, ry⟩
theorem KV.drop {kvs : List (κ × V)} {vs : List (κ × Value)} (r : KV kvs vs) (k : κ) : KV (dropK kvs k) (without vs k) := by
  unfold KV at r ⊢
  unfold dropK without
  induction r with
  | nil => exact .nil
  | @cons p q ps qs h t ih =>
    obtain ⟨h1, h2⟩ := h
    rw [List.filter_cons, List.filter_cons]
    by_cases e : p.1 = k
    · have a : ¬ decide (p.1 ≠ k) = true := by simp [e]
      have b : ¬ decide (q.1 ≠ k) = true := by simp [h1.symm.trans e]
      rw [if_neg a, if_neg b]; exact ih
    · have e' : ¬ q.1 = k := fun z => e (h1.trans z)
      have a : decide (p.1 ≠ k) = true := by simp [e]
      have b : decide (q.1 ≠ k) = true := by simp [e']
      rw [if_pos a, if_pos b]; exact .cons ⟨h1, h2⟩ ih
theorem KV.keys {kvs : List (κ × V)} {vs : List (κ × Value)} (r : KV kvs vs) : kvs.map (·.1) = vs.map (·.1) := by
  unfold KV at r
  induction r with
  | nil => rfl
  | cons h t ih => rw [List.map_cons, List.map_cons, ih, h.1]
theorem KV.length {kvs : List (κ × V)} {vs : List (κ × Value)} (r : KV kvs vs) : kvs.length = vs.length := Paired.length r
end


/-! ### a tracked dict, its keys ints and texts or tuples of these -/
theorem kV_is {P : Program} {w : World} {k : Key} {u : Value} (r : RelV (kV k) u) : (mixKind P w).is k u = true := by
  cases k with
  | inl i => obtain ⟨t, e⟩ := (show ∃ t, u = Value.int i t from r); subst e; exact mixKind_int P w i t
  | inr x => obtain ⟨t, e⟩ := (show ∃ t, u = Value.str x t from r); subst e; exact mixKind_str P w x t
theorem items_are {P : Program} {w : World} : ∀ {ks : List Key} {us : List Value}, Vals (ks.map kV) us → ItemsAre (mixKind P w) ks us
  | [], _, r => by rw [List.map_nil] at r; cases r; exact .nil
  | k :: ks, _, r => by
    rw [List.map_cons] at r
    cases r with
    | cons h t => exact .cons (kV_is h) (items_are t)

/-- raw entries of a dict with tuple keys -/
abbrev KT (H : Hp) : List (List Key × V) → List (List Key × Addr × Value) → Prop := Paired fun p q => p.1 = q.1 ∧ H q.2.1 = some (.tup (p.1.map kV)) ∧ RelV p.2 q.2.2
theorem KT.val {H : Hp} {kvs : List (List Key × V)} {xs : List (List Key × Addr × Value)} (r : KT H kvs xs) (k : List Key) : RelO (valV kvs k) ((atKey xs k).map (·.2)) := by
  induction r with
  | nil => exact True.intro
  | @cons p q ps qs h t ih =>
    obtain ⟨h1, _, h2⟩ := h
    by_cases e : p.1 = k
    · have e' : q.1 = k := h1.symm.trans e
      have b : atKey (q :: qs) k = some q.2 := by simp [atKey, List.find?_cons, e']
      rw [valV_pos e, b]; exact h2
    · have e' : ¬ q.1 = k := fun z => e (h1.trans z)
      have b : atKey (q :: qs) k = atKey qs k := by simp [atKey, List.find?_cons, e']
      rw [valV_neg e, b]; exact ih
theorem KT.repl {H : Hp} {kvs : List (List Key × V)} {xs : List (List Key × Addr × Value)} (r : KT H kvs xs) (k : List Key) {y : V} {u : Value} (ry : RelV y u) :
    KT H (kvs.map fun kv => if kv.1 = k then (kv.1, y) else kv) (xs.map (putAt k u)) := by
  induction r with
  | nil => exact .nil
  | @cons p q ps qs h t ih =>
    rw [List.map_cons, List.map_cons]
    refine .cons ?_ ih
    obtain ⟨h1, h2, h3⟩ := h
    unfold putAt
    by_cases e : p.1 = k
    · rw [if_pos e, if_pos (h1.symm.trans e)]; exact ⟨h1, h2, ry⟩
    · rw [if_neg e, if_neg (fun z => e (h1.trans z))]; exact ⟨h1, h2, h3⟩
theorem KT.put {H : Hp} {kvs : List (List Key × V)} {xs : List (List Key × Addr × Value)} (r : KT H kvs xs) (k : List Key) {b : Addr} {y : V} {u : Value} (hb : H b = some (.tup (k.map kV))) (ry : RelV y u) :
    KT H (putK kvs k y) (storedH xs k b u) := by
  have e : (kvs.any fun kv => decide (kv.1 = k)) = (atKey xs k).isSome := by
    rw [valV_any, (r.val k).isSome_eq, Option.isSome_map]
  unfold putK storedH
  rw [e]
  by_cases q : (atKey xs k).isSome = true
  · rw [if_pos q, if_pos q]; exact r.repl k ry
  · rw [if_neg q, if_neg q]; exact Paired.snoc r ⟨rfl, hb, ry⟩
theorem KT.keeps {H H' : Hp} {kvs : List (List Key × V)} {xs : List (List Key × Addr × Value)} (r : KT H kvs xs) (ht : ∀ b ys, H b = some (.tup ys) → H' b = some (.tup ys)) : KT H' kvs xs :=
  Paired.mapP r fun _ _ z => ⟨z.1, ht _ _ z.2.1, z.2.2⟩

section
variable {P : Program} {w : World} {H : Hp} {h : Heap} {a : Addr}
theorem rd_of {u : HO} (ok : HOk P w H h) (e : Rd H a u) : ObjOk P w H h a u := e.ok ok
theorem dk_rd {kvs : List (Key × V)} (ok : HOk P w H h) (e : Rd H a (.dK kvs)) : kvs.length ≤ sizeLine ∧ (a == sysModules) = false ∧ ∃ vs, KV kvs vs ∧ h.DictOf (mixKind P w) a vs :=
  show ObjOk P w H h a (.dK kvs) from rd_of ok e
theorem dk_of {kvs : List (Key × V)} (ok : HOk P w H h) (e : H a = some (.dK kvs)) : kvs.length ≤ sizeLine ∧ (a == sysModules) = false ∧ ∃ vs, KV kvs vs ∧ h.DictOf (mixKind P w) a vs := dk_rd ok (.inl e)
/-- a tracked tuple of ints and texts is a key -/
theorem key_of {ks : List Key} (ok : HOk P w H h) (e : H a = some (.tup (ks.map kV))) : (tupleKind (mixKind P w)).is h ks a := by
  obtain ⟨_, its, r, o, h1, h2, n, h3⟩ := (show ObjOk P w H h a (.tup (ks.map kV)) from ok a _ e)
  exact ⟨o, its.toArray, n, h1, h2, h3, by simpa using items_are r⟩
theorem dt_rd {kvs : List (List Key × V)} (ok : HOk P w H h) (e : Rd H a (.dT kvs)) : kvs.length ≤ sizeLine ∧ (a == sysModules) = false ∧
    ∃ xs, KT H kvs xs ∧ h.DictOfH (tupleKind (mixKind P w)) a xs := by
  obtain ⟨z, y, xs, r, o, es, ep, h1, h2, h3, h4, h5⟩ := (show ObjOk P w H h a (.dT kvs) from rd_of ok e)
  refine ⟨z, y, xs, r, o, es, ep, h1, h2, h3, h4, fun x hx => ?_, h5⟩
  have all : ∀ {l : List (List Key × V)} {m : List (List Key × Addr × Value)}, KT H l m → ∀ x ∈ m, (tupleKind (mixKind P w)).is h x.1 x.2.1 := by
    intro l m q
    induction q with
    | nil => intro x hx; exact nomatch hx
    | @cons p q ps qs hq t ih =>
      intro x hx
      rcases List.mem_cons.mp hx with e | hx
      · subst e
        exact key_of ok (by rw [← hq.1]; exact hq.2.1)
      · exact ih x hx
  exact all r x hx
theorem dt_of {kvs : List (List Key × V)} (ok : HOk P w H h) (e : H a = some (.dT kvs)) : kvs.length ≤ sizeLine ∧ (a == sysModules) = false ∧
    ∃ xs, KT H kvs xs ∧ h.DictOfH (tupleKind (mixKind P w)) a xs := dt_rd ok (.inl e)
end

/-- what the dict at a holds at the key y -/
def DGet (H : Hp) (a : Addr) (y : V) (r : Option V) : Prop :=
  (∃ kvs k, Rd H a (.dK kvs) ∧ y = kV k ∧ r = valV kvs k) ∨ ∃ kvs k b, Rd H a (.dT kvs) ∧ y = .ref b ∧ H b = some (.tup (k.map kV)) ∧ r = valV kvs k
/-- the heap behind a[y] = v -/
def DPut (H : Hp) (a : Addr) (y v : V) (H' : Hp) : Prop :=
  (∃ kvs k, H a = some (.dK kvs) ∧ y = kV k ∧ kvs.length < sizeLine ∧ H' = upd H a (.dK (putK kvs k v))) ∨
  ∃ kvs k b, H a = some (.dT kvs) ∧ y = .ref b ∧ H b = some (.tup (k.map kV)) ∧ kvs.length < sizeLine ∧ H' = upd H a (.dT (putK kvs k v))
theorem DGet.k {H : Hp} {a : Addr} {kvs : List (Key × V)} {k : Key} (e : H a = some (.dK kvs)) : DGet H a (kV k) (valV kvs k) := .inl ⟨kvs, k, .inl e, rfl, rfl⟩
theorem DGet.t {H : Hp} {a b : Addr} {kvs : List (List Key × V)} {k : List Key} (e : H a = some (.dT kvs)) (eb : H b = some (.tup (k.map kV))) : DGet H a (.ref b) (valV kvs k) := .inr ⟨kvs, k, b, .inl e, rfl, eb, rfl⟩
theorem DPut.k {H : Hp} {a : Addr} {kvs : List (Key × V)} {k : Key} {v : V} (e : H a = some (.dK kvs)) (hl : kvs.length < sizeLine) : DPut H a (kV k) v (upd H a (.dK (putK kvs k v))) := .inl ⟨kvs, k, e, rfl, hl, rfl⟩
theorem DPut.t {H : Hp} {a b : Addr} {kvs : List (List Key × V)} {k : List Key} {v : V} (e : H a = some (.dT kvs)) (eb : H b = some (.tup (k.map kV))) (hl : kvs.length < sizeLine) :
    DPut H a (.ref b) v (upd H a (.dT (putK kvs k v))) := .inr ⟨kvs, k, b, e, rfl, eb, hl, rfl⟩


section
variable {X : Cx} {pins : List (Addr × Obj)} {σ : St} {H : Hp} {s : Shared} {a : Addr} {y v : V} {u r : Value} {o : Option V} {A : Around} {E : Value → Shared → Prop}

theorem Inv.big (I : Inv X pins σ H s) : sysModules < s.heap.objs.size := by
  have h : mainGlobals < s.heap.objs.size := (I.mod.glob.keeps I.bk).lt
  exact Nat.lt_trans (by decide) h

/-- a dict's object is replaced -/
theorem d_write {h' : Heap} {t' : Nat} {ob : HO} (I : Inv X pins σ H s) (mu : Mut (H a)) (hs : Heap.SameBut a s.heap h') (he : ∃ q, h'.get? a = some q) (new : ObjOk X.prog X.w (upd H a ob) h' a ob) :
    Inv X pins σ (upd H a ob) { s with heap := h', toks := t' } :=
  I.write (x := a) (e := a) mu (.inl rfl) (fun b q hb z => (hs.2 b hb).trans z) he new
theorem dk_new {P : Program} {w : World} {H' : Hp} {h' : Heap} {kvs : List (Key × V)} {vs : List (Key × Value)} (z : kvs.length ≤ sizeLine) (hd : (a == sysModules) = false) (rel : KV kvs vs) (dd : h'.DictOf (mixKind P w) a vs) :
    ObjOk P w H' h' a (.dK kvs) := ⟨z, hd, vs, rel, dd⟩
/-- d[y] = v -/
theorem d_setItem {H' : Hp} {Q : Unit → Shared → Prop} (hu : A.units + 1 < cLine) (I : Inv X pins σ H s) (g : DPut H a y v H') (ry : RelV y u) (rv : RelV v r) (h : ∀ s', Inv X pins σ H' s' → Q () s') :
    wpAny (model X.prog X.w) A (setItem (.ref a) u r) Q E s := by
  rcases g with ⟨kvs, k, e, ey, l, eH⟩ | ⟨kvs, k, b, e, ey, eb, l, eH⟩
  · subst ey eH
    obtain ⟨z, hd, vs, rel, dd⟩ := dk_of I.hok e
    have hz : vs.length ≤ sizeLine := by rw [← rel.length]; exact z
    have hl : (putK kvs k v).length ≤ sizeLine := by have := length_putK kvs k v; omega
    refine wpAny_setItem_pairs (hsz := hz) (kV_is ry) dd fun h' dd' hs => h _ ?_
    have he : ∃ q, h'.get? a = some q := let ⟨q, _, _, hq, _⟩ := dd'; ⟨q, hq⟩
    exact d_write I (by rw [e]; exact True.intro) hs he (dk_new hl hd (rel.put k rv) dd')
  · subst ey eH
    cases (show u = Value.ref b from ry)
    obtain ⟨z, hd, xs, rel, dd⟩ := dt_of I.hok e
    have hz : xs.length ≤ sizeLine := by rw [← Paired.length rel]; exact z
    have hl : (putK kvs k v).length ≤ sizeLine := by have := length_putK kvs k v; omega
    refine wpAny_setItem_heap (hsz := hz) (tupleKind_room_in1 hu) (key_of I.hok eb) dd fun h' dd' hs => h _ ?_
    obtain ⟨q, es, ep, hq, h2, h3, h4, _, h5⟩ := dd'
    refine d_write I (by rw [e]; exact True.intro) hs ⟨q, hq⟩ ⟨hl, hd, _, (rel.put k eb rv).keeps fun c ys ec => ?_, q, es, ep, hq, h2, h3, h4, h5⟩
    rw [upd_ne (ne_of ec e (fun z => nomatch z))]
    exact ec
end

section
variable {X : Cx} {pins : List (Addr × Obj)} {σ : St} {H : Hp} {s : Shared} {a : Addr} {kvs : List (Key × V)} {k : Key} {u : Value} {A : Around} {E : Value → Shared → Prop}
end


/-! ### readings and rules -/
/-- the element of a subscription, not a slice -/
def NoSl (i : Expr) : Prop := ∀ ov iv, subscripted i false ov iv = operate [ov, iv] (getItem ov iv)
/-- d[y] -/
def tDGet (td ty : TE) : TE := fun σ H Q => td σ H fun x H1 => ty σ H1 fun y H2 => ∃ a v, x = .ref a ∧ DGet H2 a y (some v) ∧ Q v H2
/-- y in d, y not in d -/
def tDIn (ty td : TE) : TE := fun σ H Q => ty σ H fun y H1 => td σ H1 fun x H2 => ∃ a o, x = .ref a ∧ DGet H2 a y o ∧ Q (.bl o.isSome) H2
def tDNotIn (ty td : TE) : TE := fun σ H Q => ty σ H fun y H1 => td σ H1 fun x H2 => ∃ a o, x = .ref a ∧ DGet H2 a y o ∧ Q (.bl (!o.isSome)) H2
/-- d[y] = v -/
def sDPut (td ty tv : TE) : TS := fun D σ H => tv σ H fun v H1 => td σ H1 fun x H2 => ty σ H2 fun y H3 => ∃ a H4, x = .ref a ∧ DPut H3 a y v H4 ∧ D.nx σ H4
/-- d[y] op= v -/
def sDAug (td ty tv : TE) (rd : V → V → Hp → VK → Prop) : TS := fun D σ H => td σ H fun x H1 => ty σ H1 fun y H2 => ∃ a v, x = .ref a ∧ DGet H2 a y (some v) ∧
  tv σ H2 fun y2 H3 => rd v y2 H3 fun z H4 => ∃ H5, DPut H4 a y z H5 ∧ D.nx σ H5
/-- del d[y] -/
def sDDel (td ty : TE) : TS := fun D σ H => td σ H fun x H1 => ty σ H1 fun y H2 => ∃ a kvs k, x = .ref a ∧ H2 a = some (.dK kvs) ∧ y = kV k ∧ (valV kvs k).isSome = true ∧ D.nx σ (upd H2 a (.dK (dropK kvs k)))

section
variable {X : Cx} {o i e value : Expr} {pos pos' tpos : Pos} {td ty tv : TE}
theorem ps_dput (hu : X.A.units + 1 < cLine) (ho : PE X o td) (hi : PE X i ty) (hv : PE X value tv) (hs : swapsWith value (some (.Subscript o i pos')) pos.line X.env = pure false) :
    PS X (.Assign [.Subscript o i pos'] value pos) (sDPut td ty tv) := by
  intro pins s σ H D I h
  refine wpAny_Assign_Subscript (thn (hv pins s σ H _ I h) fun r s1 ⟨v, H1, I1, rv, q1⟩ => thn (ho pins s1 σ H1 _ I1 q1) fun u s2 ⟨x, H2, I2, rx, q2⟩ => thn (hi pins s2 σ H2 _ I2 q2) fun iv s3 ⟨y, H3, I3, ry, a, H4, ex, g, q3⟩ => ?_) hs
  subst ex
  obtain rfl : u = Value.ref a := rx
  exact d_setItem hu I3 g ry rv fun s4 I4 => ⟨σ, H4, I4, q3⟩
end


/-! ### displays -/
theorem dk_empty {P : Program} {w : World} {H : Hp} (h : Heap) (hb : sysModules < h.objs.size) : ObjOk P w H (h.push { cls := .type "dict", data := .dict #[] }) h.objs.size (.dK []) :=
  ⟨Nat.zero_le _, beq_eq_false_iff_ne.mpr (Ne.symm (Nat.ne_of_lt hb)), [], .nil, Heap.DictOf.new h⟩
/-- {}, to be a dict of the kind that is wanted -/
def tDNewK : TE := fun _ H Q => ∀ p, H p = none → Q (.ref p) (upd H p (.dK []))
def tDNewT : TE := fun _ H Q => ∀ p, H p = none → Q (.ref p) (upd H p (.dT []))
section
variable {X : Cx} {pos : Pos}
theorem pe_dnewK : PE X (.Dict [] [] pos) tDNewK := fun pins s σ H Q I h =>
  wpAny_Dict_empty ⟨.ref s.heap.objs.size, _, I.laid (a := s.heap.objs.size) (o := .dK []) (t' := s.toks) (fun _ _ q => Heap.get?_push_of_some _ q) (Nat.le_refl _) (dk_empty s.heap I.big), rfl, h _ (I.hok.fresh (Nat.le_refl _))⟩
end

/-- the pairs of a display, from the left -/
def tPairs : List (TE × TE) → St → Hp → (List (V × V) → Hp → Prop) → Prop
  | [], _, H, Q => Q [] H
  | (tk, tv) :: r, σ, H, Q => tk σ H fun x H1 => tv σ H1 fun y H2 => tPairs r σ H2 fun ps H3 => Q ((x, y) :: ps) H3
abbrev VV : List (V × V) → List (Value × Value) → Prop := Paired fun p q => RelV p.1 q.1 ∧ RelV p.2 q.2
def PPs (X : Cx) (pos : Pos) (keys : List (Option Expr)) (values : List Expr) (trs : List (TE × TE)) : Prop :=
  ∀ (pins : List (Addr × Obj)) (s : Shared) (σ : St) (H : Hp) (Q : List (V × V) → Hp → Prop), Inv X pins σ H s → tPairs trs σ H Q →
    wpAny (model X.prog X.w) X.A (evalPairs (pairTrees keys values X.env pos)) (fun vs s' => ∃ ps H', Inv X pins σ H' s' ∧ VV ps vs ∧ Q ps H') X.xe s
def mergeK (kvs more : List (Key × V)) : List (Key × V) := more.foldl (fun acc kv => putK acc kv.1 kv.2) kvs
theorem KV.merge : ∀ {more : List (Key × V)} {rs : List (Key × Value)} {kvs : List (Key × V)} {vs : List (Key × Value)}, KV more rs → KV kvs vs → KV (mergeK kvs more) (merged vs rs) := by
  intro more rs kvs vs r
  unfold KV at r
  induction r generalizing kvs vs with
  | nil => intro q; exact q
  | @cons p q ps qs h t ih =>
    intro r0
    have e : KV (putK kvs p.1 p.2) (stored vs q.1 q.2) := by
      have := r0.put p.1 h.2
      rw [← h.1]; exact this
    exact ih e
/-- {k: v, ..} with keys ints and texts; the new dict stands empty while the pairs are made -/
def tDisp (trs : List (TE × TE)) : TE := fun σ H Q => ∀ p, H p = none → tPairs trs σ (upd H p (.dK [])) fun ps H2 => H2 p = some (.dK []) ∧ ∃ kvs : List (Key × V), ps = kvs.map (fun kv => (kV kv.1, kv.2)) ∧ kvs.length ≤ 15 ∧ Q (.ref p) (upd H2 p (.dK (mergeK [] kvs)))
/-! ### methods -/
/-- a method call o.m(e) of a built-in, with one argument: what must be seen of the text -/
structure M1 (X : Cx) (o : Expr) (m : Str) (apos : Pos) (e : Expr) (cpos : Pos) : Prop where
  base : attributeBase o m X.env (eval o X.env) = eval o X.env
  few : ((backTo cpos (starEach [e] X.env)).all (fun x => !x.1) && (backToKw cpos (keywordEach [] X.env)).all (fun x => x.1.isSome)
    && decide (([e] : List Expr).length + ([] : List Keyword).length + (if ([] : List Keyword).isEmpty then 0 else 1) < 30)) = true
  line : (apos.endLine == cpos.line) = true
  trees : backTo cpos (starEach [e] X.env) = [(false, eval e X.env)]
structure M2 (X : Cx) (o : Expr) (m : Str) (apos : Pos) (e f : Expr) (cpos : Pos) : Prop where
  base : attributeBase o m X.env (eval o X.env) = eval o X.env
  few : ((backTo cpos (starEach [e, f] X.env)).all (fun x => !x.1) && (backToKw cpos (keywordEach [] X.env)).all (fun x => x.1.isSome)
    && decide (([e, f] : List Expr).length + ([] : List Keyword).length + (if ([] : List Keyword).isEmpty then 0 else 1) < 30)) = true
  line : (apos.endLine == cpos.line) = true
  trees : backTo cpos (starEach [e, f] X.env) = [(false, eval e X.env), (false, eval f X.env)]

/-- a is a dict, whatever its keys -/
def IsD (H : Hp) (a : Addr) : Prop := (∃ kvs, Rd H a (.dK kvs)) ∨ ∃ kvs, Rd H a (.dT kvs)
theorem isD_at {X : Cx} {pins : List (Addr × Obj)} {σ : St} {H : Hp} {s : Shared} {a : Addr} (I : Inv X pins σ H s) (d : IsD H a) :
    s.TypeIs (.ref a) "dict" ∧ (∀ b, Value.ref a = .ref b → ∃ ob, s.heap.get? b = some ob ∧ ob.dict = none) ∧ (a == sysModules) = false := by
  rcases d with ⟨kvs, e⟩ | ⟨kvs, e⟩
  · obtain ⟨_, hd, vs, _, dd⟩ := dk_rd I.hok e
    refine ⟨dd.typeIs, fun b q => ?_, hd⟩
    cases q
    obtain ⟨ob, _, _, h1, h2, _⟩ := dd
    exact ⟨ob, h1, h2.2.1⟩
  · obtain ⟨_, hd, xs, _, dd⟩ := dt_rd I.hok e
    refine ⟨dd.typeIs, fun b q => ?_, hd⟩
    cases q
    obtain ⟨ob, _, _, h1, h2, _⟩ := dd
    exact ⟨ob, h1, h2.2.1⟩

section
variable {X : Cx} {pins : List (Addr × Obj)} {σ : St} {H : Hp} {s : Shared} {a : Addr} {y d : V} {u r : Value} {o : Option V} {A : Around} {E : Value → Shared → Prop}
/-- d.get(y, x) -/
theorem d_get2 {Q : Value → Shared → Prop} (hu : A.units + 1 < cLine) (I : Inv X pins σ H s) (g : DGet H a y o) (ry : RelV y u) (rd : RelV d r) (h : ∀ w' s', Inv X pins σ H s' → RelV (o.getD d) w' → Q w' s') :
    wpAny (model X.prog X.w) A (call (.builtin "dict.get") [.ref a, u, r]) Q E s := by
  rcases g with ⟨kvs, k, e, ey, l⟩ | ⟨kvs, k, b, e, ey, eb, l⟩
  · subst ey
    obtain ⟨z, hd, vs, rel, dd⟩ := dk_rd I.hok e
    refine call_meetsIn PySem.F.slot_dict_get dd.typeIs PySem.F.entry_dict_get (PySem.F.args_dict_get_3 _ _ _) (meets_dict_get_default (mixKind X.prog X.w) a (kV_is ry) hd r) ⟨_, dd.mapOf, h _ _ (I.tok _) ?_⟩
    rw [l]
    exact (rel.val k).getD rd
  · subst ey
    cases (show u = Value.ref b from ry)
    obtain ⟨z, hd, xs, rel, dd⟩ := dt_rd I.hok e
    refine call_meetsIn PySem.F.slot_dict_get dd.typeIs PySem.F.entry_dict_get (PySem.F.args_dict_get_3 _ _ _) (meetsH_dict_get_default (tupleKind (mixKind X.prog X.w)) a b hd r) ⟨tupleKind_room_in1 hu, k, xs, key_of I.hok eb, dd, h _ _ (I.tok _) ?_⟩
    rw [l]
    exact (rel.val k).getD rd
end

def tDGet1 (td ty : TE) : TE := fun σ H Q => td σ H fun x H1 => ∃ a, x = .ref a ∧ IsD H1 a ∧ ty σ H1 fun y H2 => ∃ o, DGet H2 a y o ∧ Q (o.getD .non) H2
def tDGet2 (td ty tx : TE) : TE := fun σ H Q => td σ H fun x H1 => ∃ a, x = .ref a ∧ IsD H1 a ∧ ty σ H1 fun y H2 => tx σ H2 fun z H3 => ∃ o, DGet H3 a y o ∧ Q (o.getD z) H3
/-- d.pop(k): there; d.pop(k, x): there or not -/
def tDPop1 (td ty : TE) : TE := fun σ H Q => td σ H fun x H1 => ∃ a, x = .ref a ∧ IsD H1 a ∧ ty σ H1 fun y H2 => ∃ kvs k v, H2 a = some (.dK kvs) ∧ y = kV k ∧ valV kvs k = some v ∧ Q v (upd H2 a (.dK (dropK kvs k)))
def tDPop2 (td ty tx : TE) : TE := fun σ H Q => td σ H fun x H1 => ∃ a, x = .ref a ∧ IsD H1 a ∧ ty σ H1 fun y H2 => tx σ H2 fun z H3 => ∃ kvs k, H3 a = some (.dK kvs) ∧ y = kV k ∧
  (∀ v, valV kvs k = some v → Q v (upd H3 a (.dK (dropK kvs k)))) ∧ (valV kvs k = none → Q z H3)
section
variable {X : Cx} {o e f : Expr} {apos cpos : Pos} {td ty tx : TE}
theorem pe_dget2 (hu : X.A.units + 1 < cLine) (ho : PE X o td) (he : PE X e ty) (hf : PE X f tx) (m : M2 X o "get" apos e f cpos) : PE X (.Call (.Attribute o "get" apos) [e, f] [] cpos) (tDGet2 td ty tx) := by
  intro pins s σ H Q I h
  refine wpAny_Call_method m.base m.few m.line PySem.F.plainAttrs_dict PySem.F.slot_dict_get PySem.F.type_dict_get (thn (ho pins s σ H _ I h) fun u s1 ⟨x, H1, I1, rx, a, ex, d, q1⟩ => ?_)
  subst ex
  obtain rfl : u = Value.ref a := rx
  obtain ⟨t1, t2, _⟩ := isD_at I1 d
  refine ⟨t1, t2, ?_⟩
  rw [m.trees]
  refine Calls.callWith_builtin rfl (Calls.evalArgs_plain (Calls.spliced_cons (thn (he pins s1 σ H1 _ I1 q1) fun iv s2 ⟨y, H2, I2, ry, q2⟩ =>
    Calls.spliced_cons (thn (hf pins s2 σ H2 _ I2 q2) fun fv s3 ⟨z, H3, I3, rz, ov, g, q3⟩ => Calls.spliced_nil ?_))))
  exact d_get2 hu I3 g ry rz fun w' s4 I4 rw' => ⟨_, H3, I4, rw', q3⟩
end

/-! ### dict(d): a copy -/
section
variable {X : Cx} {pins : List (Addr × Obj)} {σ : St} {H : Hp} {s : Shared} {a : Addr} {kvs : List (Key × V)} {A : Around} {E : Value → Shared → Prop}
end


section
variable {X : Cx} {pins : List (Addr × Obj)} {σ : St} {H : Hp} {s : Shared} {a : Addr} {y : V} {u : Value} {A : Around} {E : Value → Shared → Prop}
end
end L2

namespace L2
open PySem PySem.Spec PyProof.Rows
section
variable {X : Cx}
end
/-! ### a dict's pairs: keys that differ -/
section
variable {κ : Type} [DecidableEq κ]
end
end L2

/-! OWN: dicts of pairs, any, and what else the later laws ask of built-in functions. Behind Dp, Dct, Bs. -/
namespace L2
open PySem PySem.Spec PyProof.Rows
section
variable {X : Cx}
end
end L2

/-! OWN: rows of parts, sets of held parts, and when a learnt line is right (the mathematics). Behind Ext3. -/
namespace L2
open PySem PySem.Spec PyProof.Rows
/-! ### rows in the heap -/
def dRow (r : List Int) : Dt := .tup (r.map Dt.int)
theorem nolsInts : ∀ ns : List Int, nols (ns.map Dt.int) = true
  | [] => by simp [nols]
  | n :: ns => by simp only [List.map_cons, nols, nol, Bool.true_and]; exact nolsInts ns
theorem depsInts : ∀ ns : List Int, deps (ns.map Dt.int) = 0
  | [] => by simp [deps]
  | n :: ns => by simp only [List.map_cons, deps, dep, depsInts ns]; rfl
def SqInt (K : PySem.W.Frag) (H : Hp) (q : Addr) (ps : List Int) : Prop := SqL K H q (ps.map V.int) ∨ SqT K H q (ps.map V.int)
theorem SqInt.same {K : PySem.W.Frag} {H H' : Hp} {q : Addr} {ps : List Int} (h : SqInt K H q ps) (s : Same H H') : SqInt K H' q ps := h.elim (fun z => .inl (s.seq z)) fun z => .inr (s.tup z)
theorem ints_at {ps : List Int} {i : Nat} {x : V} (h : (ps.map V.int)[i]? = some x) : ∃ k, ps[i]? = some k ∧ x = .int k := by
  rw [List.getElem?_map] at h
  cases e : ps[i]? with
  | none => rw [e] at h; cases h
  | some k =>
    rw [e] at h
    exact ⟨k, rfl, (Option.some.inj h).symm⟩
/-! ### each once -/
def once : List Int → List Int → List Int
  | acc, [] => acc
  | acc, p :: ps => once (if p ∈ acc then acc else acc ++ [p]) ps
/-! ### a dict as a set of parts -/
structure Dset (H : Hp) (d : Addr) (hs : List Int) : Prop where
  ex : ∃ kvs : List (Key × V), H d = some (.dK kvs) ∧ (∀ n : Int, (valV kvs (Sum.inl n)).isSome = decide (n ∈ hs)) ∧ kvs.length ≤ hs.length
theorem putK_len (kvs : List (Key × V)) (k : Key) (v : V) : (putK kvs k v).length ≤ kvs.length + 1 := by
  unfold putK
  split
  · rw [List.length_map]; omega
  · rw [List.length_append]; simp
theorem valV_putI (kvs : List (Key × V)) (n m : Int) (v : V) : (valV (putK kvs (Sum.inl n) v) (Sum.inl m)).isSome = (decide (m = n) || (valV kvs (Sum.inl m)).isSome) := by
  rw [valV_put]
  by_cases e : m = n
  · rw [if_pos (by rw [e]), decide_eq_true e]
    rfl
  · rw [if_neg (fun z => e (by injection z)), decide_eq_false e, Bool.false_or]
theorem Dset.put {H : Hp} {d : Addr} {hs : List Int} {kvs : List (Key × V)} {n : Int} {v : V} (h2 : ∀ n : Int, (valV kvs (Sum.inl n)).isSome = decide (n ∈ hs)) (h3 : kvs.length ≤ hs.length) : Dset (upd H d (.dK (putK kvs (Sum.inl n) v))) d (hs ++ [n]) := by
  refine ⟨_, upd_same, fun m => ?_, ?_⟩
  · rw [valV_putI, h2]
    by_cases e : m = n
    · subst e
      simp
    · simp [e]
  · have := putK_len kvs (Sum.inl n) v
    rw [List.length_append]
    simp only [List.length_singleton]
    omega
/-- the pairs (p, True) -/
def tkv (ps : List Int) : List (Key × V) := ps.map fun p => (Sum.inl p, V.bl true)
theorem tkv_ok : ∀ ps : List Int, (∀ n : Int, (valV (mergeK [] (tkv ps)) (Sum.inl n)).isSome = decide (n ∈ ps)) ∧ (mergeK [] (tkv ps)).length ≤ ps.length := by
  intro ps
  suffices h : ∀ (kvs : List (Key × V)) (hs : List Int), (∀ n : Int, (valV kvs (Sum.inl n)).isSome = decide (n ∈ hs)) → kvs.length ≤ hs.length → (∀ n : Int, (valV (mergeK kvs (tkv ps)) (Sum.inl n)).isSome = decide (n ∈ hs ++ ps)) ∧ (mergeK kvs (tkv ps)).length ≤ (hs ++ ps).length by
    have := h [] [] (fun n => by simp [valV_nil]) (Nat.le_refl _)
    simpa using this
  induction ps with
  | nil => intro kvs hs h1 h2; simpa [tkv, mergeK] using ⟨h1, h2⟩
  | cons p ps ih =>
    intro kvs hs h1 h2
    have e : mergeK kvs (tkv (p :: ps)) = mergeK (putK kvs (Sum.inl p) (.bl true)) (tkv ps) := rfl
    rw [e, show hs ++ p :: ps = (hs ++ [p]) ++ ps by simp]
    refine ih _ _ (fun n => ?_) ?_
    · rw [valV_putI, h1]
      by_cases e : n = p
      · subst e
        simp
      · simp [e]
    · have := putK_len kvs (Sum.inl p) (.bl true)
      rw [List.length_append]
      simp only [List.length_singleton]
      omega
theorem Dset.of {H : Hp} {d : Addr} {ps : List Int} : Dset (upd H d (.dK (mergeK [] (tkv ps)))) d ps := ⟨_, upd_same, (tkv_ok ps).1, (tkv_ok ps).2⟩
theorem Dset.same {H H' : Hp} {d : Addr} {hs : List Int} (h : Dset H d hs) (s : Same H H') : Dset H' d hs := by
  obtain ⟨kvs, h1, h2, h3⟩ := h.ex
  exact ⟨kvs, s _ _ h1, h2, h3⟩
/-! ### when a learnt line is right -/
def nf (row held : List Int) : List Int := once [] (row.filter fun p => decide (-p ∉ held))
def rowAt (Rs : List (List Int)) (h : Int) : List Int := Rs.getD h.toNat []
def goL (Rs : List (List Int)) : List Int → List Int → Bool
  | _, [] => false
  | held, [h] => (nf (rowAt Rs h) held).isEmpty
  | held, h :: h' :: r => match nf (rowAt Rs h) held with
    | [x] => if x ∈ held then false else goL Rs (held ++ [x]) (h' :: r)
    | _ => false
def badHints (n : Nat) (hs : List Int) : Bool := hs.isEmpty || hs.any (fun h => decide (h < 0)) || hs.any (fun h => decide ((n : Int) ≤ h))
def isLearnt (Rs : List (List Int)) (ps hs : List Int) : Bool := if badHints Rs.length hs = true then false else goL Rs (ps.map fun p => -p) hs
/-- the law's own way -/
def leftL (row held : List Int) : Option (List Int) := if row.any (fun p => decide (p ∈ held)) = true then none else some (row.filter fun p => decide (-p ∉ held))
def rightL (Rs : List (List Int)) : List Int → List Int → Bool
  | _, [] => false
  | held, [h] => match leftL (rowAt Rs h) held with
    | some l => l.isEmpty
    | none => false
  | held, h :: h' :: r => match leftL (rowAt Rs h) held with
    | some [x] => rightL Rs (held ++ [x]) (h' :: r)
    | _ => false
def Cons (held : List Int) : Prop := ∀ x ∈ held, -x ∉ held
end L2

/-! OWN: is of bools; min and max of a list or a tuple of numbers. Behind Rw. -/
namespace L2
open PySem PySem.Spec PyProof.Rows
section
variable {X : Cx}
end
end L2

/-! OWN: comprehensions whose target is any (pairs, triples); list ways that the layer lacks. Behind Ext5. -/
namespace L2
open PySem PySem.Spec PyProof.Rows
def tLCG (wi : TI) (L : Nat) (ix : List Nat) (g : TG) (te : TE) : TE := fun σ H Q => wi σ H fun J H1 => ∀ D, H1 D = none →
  ∃ W : Nat → Nat → List V → Hp → Prop, (∃ m, W 0 m [] (upd H1 D (.lst []))) ∧
    ∀ i m ys H', W i m ys H' → H' D = some (.lst ys) ∧
      ((J.stop i H' ∧ Q (.ref D) H') ∨ (J.go i H' ∧ ∀ x H'', J.yld i H' x H'' → ∀ σ0 : St, σ0.length = L → g x (σ0 ++ fvs σ ix) H'' fun σ' H2 => ∃ σ1 : St, σ1.length = L ∧ σ' = σ1 ++ fvs σ ix ∧ te σ' H2 fun y H3 =>
        H3 D = some (.lst ys) ∧ ys.length < sizeLine ∧ ∃ m', m' < m ∧ W (i + 1) m' (ys ++ [y]) (upd H3 D (.lst (ys ++ [y])))))
def tLCIG (wi : TI) (L : Nat) (ix : List Nat) (g : TG) (tc : TT) (te : TE) : TE := fun σ H Q => wi σ H fun J H1 => ∀ D, H1 D = none →
  ∃ W : Nat → Nat → List V → Hp → Prop, (∃ m, W 0 m [] (upd H1 D (.lst []))) ∧
    ∀ i m ys H', W i m ys H' → H' D = some (.lst ys) ∧
      ((J.stop i H' ∧ Q (.ref D) H') ∨ (J.go i H' ∧ ∀ x H'', J.yld i H' x H'' → ∀ σ0 : St, σ0.length = L → g x (σ0 ++ fvs σ ix) H'' fun σ' H2 => ∃ σ1 : St, σ1.length = L ∧ σ' = σ1 ++ fvs σ ix ∧ tc σ' H2 fun b H3 =>
        if b = true then te σ' H3 fun y H4 => H4 D = some (.lst ys) ∧ ys.length < sizeLine ∧ ∃ m', m' < m ∧ W (i + 1) m' (ys ++ [y]) (upd H4 D (.lst (ys ++ [y])))
        else ∃ m', m' < m ∧ W (i + 1) m' ys H3))
section
variable {X : Cx} {N' : List Str} {scope : Scope} {cl : List (Str × Addr)} {fp : List Addr} {pins : List (Addr × Obj)} {σ : St} {H : Hp} {s : Shared}
theorem comp_startG {L : Nat} {ix : List Nat} {h₁ : Heap} {t' : Nat} {m : Str → Option Value} (I : Inv X pins σ H s) (C : Clo X scope cl) (hkind : scope.kind = .function) (hf : ∀ b ∈ fp, FpOk X pins H b) (hlt : ∀ b ∈ fp, b < s.heap.objs.size)
    (hlen : N'.length = L + ix.length) (hix : ∀ (j i : Nat), ix[j]? = some i → ∃ y, X.N[i]? = some y ∧ N'[L + j]? = some y ∧ (X.env.kindOf y = some .cell ∨ X.env.kindOf y = some .free) ∧ ((relabel scope X.env).names.lookup y = some .cell ∨ (relabel scope X.env).names.lookup y = some .free))
    (hn : h₁.Ns s.heap.objs.size m) (hk : ∀ b o, s.heap.get? b = some o → h₁.get? b = some o) : Inv (cxComp X N' scope cl fp s H) [] (List.replicate L none ++ fvs σ ix) H { s with heap := h₁, toks := t' } := by
  have cellK : ∀ x c, cl.lookup x = some c → ∃ v, h₁.IsCell c v := fun x c h => by
    obtain ⟨v, o, ho, hd⟩ := I.cell x c (C.sub x c h)
    exact ⟨v, o, hk c o ho, hd⟩
  refine ⟨comp_ok I C hkind hf hlt, rfl, I.bare, Un.kept hk, ⟨m, hn, fun i y v h1 h2 h3 => ?_⟩, cellK, I.hok.fresh (Nat.le_refl _), fun x c h => I.freeC x c (C.sub x c h), fun p hp => absurd (show p ∈ ([] : List (Addr × Obj)) from hp) (by simp), I.hok.kept hk, ?_⟩
  · rcases Nat.lt_or_ge i L with hlt | hge
    · rw [List.getElem?_append_left (by simp; exact hlt), List.getElem?_replicate] at h2
      rw [if_pos hlt] at h2
      cases (show some (none : Option V) = some (some v) from h2)
    · obtain ⟨j, rfl⟩ : ∃ j, i = L + j := ⟨i - L, by omega⟩
      have h2' : (fvs σ ix)[j]? = some (some v) := by
        rw [List.getElem?_append_right (by simp), List.length_replicate, Nat.add_sub_cancel_left] at h2
        exact h2
      unfold fvs at h2'
      rw [List.getElem?_map] at h2'
      cases e : ix[j]? with
      | none => rw [e] at h2'; cases h2'
      | some i =>
        rw [e] at h2'
        have h4 : (σ[i]?).join = some v := Option.some.inj h2'
        have h5 : σ[i]? = some (some v) := by
          cases e' : σ[i]? with
          | none => rw [e'] at h4; cases h4
          | some q =>
            rw [e'] at h4
            have h6 : q = some v := h4
            rw [h6]
        obtain ⟨y', n1, n2, k1, k2⟩ := hix j i e
        have ey : y' = y := Option.some.inj (n2.symm.trans h1)
        subst ey
        obtain ⟨m0, hn0, hl0⟩ := I.loc
        have hv0 : Vis X.env.scope y' := k1.elim (fun z => .inr (.inl z)) fun z => .inr (.inr z)
        obtain ⟨u, ru, l⟩ := hl0 i y' v n1 h5 hv0
        refine ⟨u, ru, .inr ⟨k2, ?_⟩⟩
        rcases l with ⟨k, _⟩ | ⟨_, c, ec, o, ho, hd⟩
        · rcases k1 with z | z
          · rw [z] at k; cases k
          · rw [z] at k; cases k
        · obtain ⟨c', ec'⟩ := C.has y' k2
          have : c' = c := Option.some.inj ((C.sub _ _ ec').symm.trans ec)
          subst this
          exact ⟨c', ec', o, hk c' o ho, hd⟩
  · show (List.replicate L (none : Option V) ++ fvs σ ix : St).length = N'.length
    rw [hlen]
    simp [fvs]
end
section
variable {X : Cx} {N' : List Str} {scope : Scope} {elt iter tg : Expr} {L : Nat} {pos : Pos} {wi : TI} {g : TG} {te : TE} {ix : List Nat}
end
section
variable {X : Cx} {N' : List Str} {scope : Scope} {elt iter c tg : Expr} {L : Nat} {pos : Pos} {wi : TI} {g : TG} {tc : TT} {te : TE} {ix : List Nat}
theorem ps_setLCIG {i : Nat} {y0 : Str} {py spos : Pos} (hNy : X.N.Nodup) (hiy : X.N[i]? = some y0) (hy : Loc X.env.scope y0) (hc : X.calm = true) (hkind : scope.kind = .function) (hcell : ∀ y ∈ scope.names, y.2 ≠ .cell) (hnames : ∀ y ∈ scope.names, y.2 = .local → scope.names.lookup y.1 = some .local)
    (hclo : X.Ok → ∃ cl, Clo X scope cl) (hlen : N'.length = L + ix.length)
    (hix : ∀ (j i : Nat), ix[j]? = some i → ∃ y, X.N[i]? = some y ∧ N'[L + j]? = some y ∧ (X.env.kindOf y = some .cell ∨ X.env.kindOf y = some .free) ∧ ((relabel scope X.env).names.lookup y = some .cell ∨ (relabel scope X.env).names.lookup y = some .free))
    (hi : PI X tg iter wi) (hg : ∀ cl fp s₃ H₃, PG (cxComp X N' scope cl fp s₃ H₃) tg g) (ht : ∀ cl fp s₃ H₃, PT (cxComp X N' scope cl fp s₃ H₃) c tc) (he : ∀ cl fp s₃ H₃, PE (cxComp X N' scope cl fp s₃ H₃) elt te) (hsw : swapsWith (.ListComp elt [⟨tg, iter, [c], 0⟩] scope pos) (some (.Name y0 py)) spos.line X.env = pure true := by rfl)
    (hf : X.fn y0 = true ∨ X.env.scope.names.lookup y0 = some .local := by first | exact .inl rfl | exact .inr rfl | assumption) (hs : ∀ v, foldedSetIterable iter X.env v = pure v := by intro _; rfl) :
    PS X (.Assign [.Name y0 py] (.ListComp elt [⟨tg, iter, [c], 0⟩] scope pos) spos) (tAsg (tLCIG wi L ix g tc te) (gName i)) := by
  intro pins s σ H Dn I h
  obtain ⟨cl, C⟩ := hclo I.ok
  rw [exec_Assign_Name_used _ _ _ _ hsw]
  refine wpAny_bind (wpAny_standAt (wpAny_bind ?_))
  rw [arm_evalThenUse_ListComp]
  refine wpAny_bind (wpAny_mono (wpAny_comprehension_free (use := some (assign (.Name y0 py) X.env)) (Q := fun _ s' => ∃ σ' H', Inv X pins σ' H' s' ∧ Dn.nx σ' H') rfl hs C.eq hkind hnames (thn (hi pins s σ H _ I h) fun v s1 h1 => thn h1 fun itv s2 h2 => ?_)) (fun _ s' h' => wpAny_pure (wpAny_pure h')) fun _ _ z => z)
  obtain ⟨it, fp, tn, J, H2, e, I2, T, st2, f2, q2⟩ := h2
  subst e
  have hD : H2 s2.heap.objs.size = none := I2.fresh
  obtain ⟨W, ⟨m0, w0⟩, turn⟩ := q2 s2.heap.objs.size hD
  refine wpAny_newObj_type (wpAny_newFunctionEnv hcell (by intro y hy; simp at hy) (fun h₁ hns₁ hsb₁ => ?_) hkind)
  dsimp only at hns₁ hsb₁ ⊢
  have I3 : Inv X pins σ (upd H2 s2.heap.objs.size (.lst [])) { s2 with heap := s2.heap.push { cls := .type "list", data := .seq ([] : List Value).toArray }, toks := s2.toks } := I2.lnew .nil (Nat.zero_le _)
  generalize hs3 : ({ s2 with heap := s2.heap.push { cls := .type "list", data := .seq ([] : List Value).toArray }, toks := s2.toks } : Shared) = s3 at I3
  have e3 : s3.heap = s2.heap.push { cls := .type "list", data := .seq ([] : List Value).toArray } := by rw [← hs3]
  generalize hDD : s2.heap.objs.size = D at *
  generalize hH3 : upd H2 D (.lst []) = H3 at *
  have lt2 : ∀ b ∈ fp, b < s2.heap.objs.size := fun b hb => by
    obtain ⟨o, ho, _⟩ := T.obj 0 _ st2 b hb
    exact Heap.lt_size ho
  have neD : ∀ b ∈ fp, b ≠ D := fun b hb => by rw [← hDD]; exact Nat.ne_of_lt (lt2 b hb)
  have f3 : ∀ b ∈ fp, FpOk X pins H3 b := fun b hb => ⟨by rw [← hH3, upd_ne (neD b hb)]; exact (f2 b hb).1, (f2 b hb).2⟩
  have sz3 : s3.heap.objs.size = D + 1 := by rw [e3, Heap.size_push, hDD]
  have lt3 : ∀ b ∈ fp, b < s3.heap.objs.size := fun b hb => by have q := lt2 b hb; rw [sz3]; rw [hDD] at q; exact Nat.lt_succ_of_lt q
  have old : ∀ b o, s3.heap.get? b = some o → h₁.get? b = some o := fun b o eb => by
    have hb : b < D + 1 := by rw [← sz3]; exact Heap.lt_size eb
    refine hsb₁.extBut b o ?_ (Heap.get?_push_of_some _ (by rw [← e3]; exact eb))
    rw [Heap.size_push, hDD]
    exact Nat.ne_of_lt hb
  have szC : (s2.heap.push { cls := .type "list", data := .seq ([] : List Value).toArray }).objs.size = s3.heap.objs.size := by rw [e3]
  rw [szC] at hns₁ hsb₁
  have I4 : Inv (cxComp X N' scope cl fp s3 H3) [] (List.replicate L none ++ fvs σ ix) H3 { s3 with heap := h₁, toks := s2.toks + ([] : List (Str × Value)).length } := comp_startG I3 C hkind f3 lt3 hlen hix hns₁ old
  have st4 : tn 0 h₁ := T.keep 0 _ _ st2 fun b hb o eb => old b o (by rw [e3]; exact Heap.get?_push_of_some _ eb)
  have stat : ∀ {H' : Hp}, (∀ b ∈ fp, H' b = none) → ∀ b ∈ fp, FpOk (cxComp X N' scope cl fp s3 H3) [] H' b := fun hn b hb =>
    ⟨hn b hb, Nat.ne_of_lt (lt3 b hb), fun hs' => (comp_ok (N' := N') I3 C hkind f3 lt3).exfs b hb hs', .inl hb, fun y c hy => ((comp_ok (N' := N') I3 C hkind f3 lt3).exf b hb).2 y c hy, fun p hp => absurd (show p ∈ ([] : List (Addr × Obj)) from hp) (by simp)⟩
  have loop : ∀ s4 : Shared, s4 = { s3 with heap := h₁, toks := s2.toks + ([] : List (Str × Value)).length } →
      codeAny (model X.prog X.w) X.A (.compLoop (.ListComp elt [⟨tg, iter, [c], 0⟩] scope pos) 0 (.ref it) (.ref D) (compEnvC scope cl s3.heap.objs.size X.env))
        (compPost (model X.prog X.w) X.A X.xe (some (assign (.Name y0 py) X.env)) (fun _ s' => ∃ σ' H', Inv X pins σ' H' s' ∧ Dn.nx σ' H') (.ref D) s3.heap.objs.size) s4 := by
    rintro s4 rfl
    refine compLoop_goI (fun n s' => ∃ i σ0 H' ys, σ0.length = L ∧ Inv (cxComp X N' scope cl fp s3 H3) [] (σ0 ++ fvs σ ix) H' s' ∧ tn i s'.heap ∧ (∀ b ∈ fp, H' b = none) ∧ W i n ys H') ?_ m0 ⟨0, List.replicate L none, H3, [], by simp, I4, st4, fun b hb => (f3 b hb).1, w0⟩
    rintro n s5 ⟨i, σ0, H5, ys, hl0, I5, st5, fr5, w5⟩
    obtain ⟨hD5, alt⟩ := turn i n ys H5 w5
    rcases alt with ⟨stop, q⟩ | ⟨go, step⟩
    · refine thn (T.done (cxComp X N' scope cl fp s3 H3) rfl rfl rfl hc i [] s5 _ H5 _ I5 (stat fr5) st5 stop) fun r s6 ⟨hr, I6⟩ => ?_
      subst hr
      obtain ⟨m, hn, _⟩ := I6.loc
      have Io : Inv X pins σ H5 s6 := comp_end (h' := s6.heap) I3 I6 f3 ⟨rfl, fun _ _ => rfl⟩
      refine wpAny_assign_Name (store_ok2 (v := .ref D) Io hNy hiy hy rfl (fun s7 I7 ⟨a, sb, ha⟩ => ?_) hf)
      have ltC : ∀ x c, X.env.cells.lookup x = some c → c < s3.heap.objs.size := fun x c e => by
        obtain ⟨v, hv⟩ := I3.cell x c e
        exact hv.lt
      have hCa : s3.heap.objs.size ≠ a := by
        rintro rfl
        rcases ha with z | z
        · exact absurd I3.lt (by rw [← z]; exact Nat.lt_irrefl _)
        · exact absurd (ltC _ _ z) (Nat.lt_irrefl _)
      refine ⟨m, hn.sameBut sb hCa, fun h' hsb => ⟨_, H5, ?_, q⟩⟩
      exact I7.skip hsb I3.sz (Nat.ne_of_gt I3.lt) (fun x c e => Nat.ne_of_lt (ltC x c e)) (fun p hp => Nat.ne_of_lt (Heap.lt_size (I3.pin p hp).1)) I6.free
    · refine thn (T.item (cxComp X N' scope cl fp s3 H3) rfl rfl rfl hc i [] s5 _ H5 _ I5 (stat fr5) st5 go) fun r s6 ⟨u, hr, h6⟩ => ?_
      subst hr
      refine thn h6 fun _ s7 ⟨y7, H7, I7, r7, yl7, st7, fr7⟩ => ?_
      have I7' := I7.pinned (stat fr7) (T.obj _ _ st7)
      refine wpAny_mono (hg cl fp s3 H3 _ s7 _ H7 y7 u _ I7' r7 (step y7 H7 yl7 σ0 hl0)) (fun _ s8 h8 => ?_) fun _ _ f => False.elim f
      obtain ⟨σ8', H8, I8, σ8, hl8, rfl, q8⟩ := h8
      have fin : ∀ {σ9 : St} {H9 : Hp} {s9 : Shared} {zs : List V} {m' : Nat}, σ9.length = L → Inv (cxComp X N' scope cl fp s3 H3) ([] ++ pinsAt fp s7.heap) (σ9 ++ fvs σ ix) H9 s9 → m' < n → W (i + 1) m' zs H9 → ∃ m, m < n ∧ ∃ i σ0 H' ys, σ0.length = L ∧ Inv (cxComp X N' scope cl fp s3 H3) [] (σ0 ++ fvs σ ix) H' s9 ∧ tn i s9.heap ∧ (∀ b ∈ fp, H' b = none) ∧ W i m ys H' := fun {σ9 H9 s9 zs m'} hl9 I9 hm' w9 => by
        refine ⟨m', hm', i + 1, σ9, H9, zs, hl9, I9.unpinned, T.keep _ _ _ st7 fun b hb o eb => (I9.pin (b, o) (List.mem_append_right _ (List.mem_append_right _ (mem_pinsAt hb eb)))).1, fun b hb => ?_, w9⟩
        obtain ⟨o, eb, d⟩ := T.obj _ _ st7 b hb
        exact (I9.pin (b, o) (List.mem_append_right _ (List.mem_append_right _ (mem_pinsAt hb eb)))).2.1
      refine wpAny_mono (ht cl fp s3 H3 _ s8 _ H8 _ I8 q8) (fun b s9 h9 => ?_) fun _ _ f => False.elim f
      obtain ⟨H9, I9, q9⟩ := h9
      cases b with
      | false =>
        obtain ⟨m', hm', w9⟩ := q9
        exact fin hl8 I9 hm' w9
      | true =>
        refine wpAny_mono (he cl fp s3 H3 _ s9 _ H9 _ I9 q9) (fun yv s10 h10 => ?_) fun _ _ f => False.elim f
        obtain ⟨y10, H10, I10, r10, hD10, hl10, m', hm', w10⟩ := h10
        refine wpAny_mono (mt_append (X := cxComp X N' scope cl fp s3 H3) _ s10 _ H10 (.ref D) [y10] (.ref D) [yv] (fun _ H' => H' = upd H10 D (.lst (ys ++ [y10]))) I10 rfl (.cons r10 .nil) ⟨D, ys, y10, rfl, rfl, hD10, hl10, rfl⟩) (fun _ s11 h11 => ?_) fun _ _ f => False.elim f
        obtain ⟨_, H11, I11, _, rfl⟩ := h11
        exact fin hl8 I11 hm' w10
  subst hs3
  have fin := codeAny_compStart_list (loop _ rfl) (T.self X.A 0 _ _ _ st4 (loop _ rfl))
  exact fin
end
theorem lcig_by {J : It} {n : Nat} {Ok : Hp → Prop} {L : Nat} {g : TG} {tc : TT} {te : TE} {fv : St} {H1 : Hp} {D : Addr} {R : Hp → Prop} (W : Wk J n Ok) (Pv : Nat → List V → Hp → Prop) (hok : ∀ i ys H, Pv i ys H → Ok H) (h0 : Pv 0 [] (upd H1 D (.lst [])))
    (turn : ∀ i ys H x H', i < n → ys.length ≤ i → H D = some (.lst ys) → Pv i ys H → J.yld i H x H' → ∀ σ0 : St, σ0.length = L → g x (σ0 ++ fv) H' fun σ' H2 => ∃ σ1 : St, σ1.length = L ∧ σ' = σ1 ++ fv ∧ tc σ' H2 fun b H3 => if b = true then te σ' H3 (LcPost n D Pv i ys) else LcSkip n D Pv i ys H3)
    (fin : ∀ ys H, H D = some (.lst ys) → Pv n ys H → R H) :
    ∃ W : Nat → Nat → List V → Hp → Prop, (∃ m, W 0 m [] (upd H1 D (.lst []))) ∧ ∀ i m ys H', W i m ys H' → H' D = some (.lst ys) ∧
      ((J.stop i H' ∧ R H') ∨ (J.go i H' ∧ ∀ x H'', J.yld i H' x H'' → ∀ σ0 : St, σ0.length = L → g x (σ0 ++ fv) H'' fun σ' H2 => ∃ σ1 : St, σ1.length = L ∧ σ' = σ1 ++ fv ∧ tc σ' H2 fun b H3 =>
        if b = true then te σ' H3 fun y H4 => H4 D = some (.lst ys) ∧ ys.length < sizeLine ∧ ∃ m', m' < m ∧ W (i + 1) m' (ys ++ [y]) (upd H4 D (.lst (ys ++ [y])))
        else ∃ m', m' < m ∧ W (i + 1) m' ys H3)) := by
  refine ⟨LcW n D Pv, ⟨n, rfl, Nat.zero_le _, Nat.zero_le _, upd_same, h0⟩, ?_⟩
  rintro i m ys H' ⟨rfl, hin, hl, hD, p⟩
  refine ⟨hD, ?_⟩
  rcases Nat.lt_or_ge i n with hlt | hge
  · exact .inr ⟨W.go i H' (hok i ys H' p) hlt, fun x H'' y σ0 h0 => turn i ys H' x H'' hlt hl hD p y σ0 h0⟩
  · have e : i = n := Nat.le_antisymm hin hge
    subst e
    exact .inl ⟨W.stop i H' (hok i ys H' p) (Nat.le_refl _), fin ys H' hD p⟩
end L2

/-! OWN: enumerate of a list in a for with a pair ahead; list.insert. Behind Ext6. -/
namespace L2
open PySem PySem.Spec PyProof.Rows
/-- iterator records have turned and a new object is laid -/
theorem Inv.turnedLaid {X : Cx} {pins : List (Addr × Obj)} {σ : St} {H : Hp} {s : Shared} {h' : Heap} {fp : List Addr} {a : Addr} {o : HO} {t' : Nat} (I : Inv X pins σ H s) (hf : ∀ b ∈ fp, FpOk X pins H b) (k : ∀ b u, b ∉ fp → s.heap.get? b = some u → h'.get? b = some u) (hp : s.heap.objs.size ≤ a) (new : ObjOk X.prog X.w (upd H a o) h' a o) :
    Inv X pins σ (upd H a o) { s with heap := h', toks := t' } := by
  have hn := I.hok.fresh hp
  have nfp : ∀ b u, H b = some u → b ∉ fp := fun b u e z => by rw [(hf b z).1] at e; cases e
  have un : Un (frs X.stack) fp H (upd H a o) s.heap h' := ⟨fun b u q _ _ hx => k b u hx q, fun b u q _ _ hx => ⟨u.slots, k b u hx q⟩, fun b u q n _ => by rw [upd_ne (Nat.ne_of_lt (Nat.lt_of_lt_of_le (Heap.lt_size q) hp))]; exact n,
    fun b u q hx => ⟨u, k b u hx q⟩, fun b xs q => by rw [upd_ne (ne_of_none q hn)]; exact q, fun b u xs q => by rw [upd_ne (ne_of_none q hn)]; exact q, fun b ps q => ⟨#[], by rw [upd_ne (ne_of_none q hn), q]; simp⟩⟩
  have hok : HOk X.prog X.w (upd H a o) h' := fun b u e => by
    by_cases hb : b = a
    · subst hb; rw [upd_same] at e; cases e; exact new
    · rw [upd_ne hb] at e
      refine (I.hok b u e).stay (fun c v hc q => k c v ?_ q) (fun c q => by rw [upd_ne (ne_of_none q hn)]; exact q) fun c xs q => by rw [upd_ne (ne_of_none q hn)]; exact q
      rcases hc with z | z
      · rw [z]; exact nfp b u e
      · exact nfp c _ z
  exact I.call (g' := s.gens) (d' := s.drawn) (ch := fp) un hok I.bare fun b hb => ⟨(hf b hb).2.2.2.1, (hf b hb).2.1, (hf b hb).2.2.2.2.1, (hf b hb).2.2.2.2.2⟩
def Ite (K : PySem.W.Frag) (a : Addr) : It :=
  ⟨fun i H => ∃ xs x, SqL K H a xs ∧ xs[i]? = some x, fun i H x H' => ∃ p y, x = .ref p ∧ H p = none ∧ H' = upd H p (.tup [.int i, y]) ∧ ∀ xs, SqL K H a xs → xs[i]? = some y, fun i H => ∃ xs, SqL K H a xs ∧ xs.length ≤ i⟩
theorem wk_enum {K : PySem.W.Frag} {a : Addr} {xs : List V} : Wk (Ite K a) xs.length (fun H => SqL K H a xs) := ⟨fun _ _ h hi => ⟨xs, h, hi⟩, fun i _ h hi => ⟨xs, xs[i], h, by simp [hi]⟩⟩
theorem turn_enum {P : Program} {w : World} {K : PySem.W.Frag} {elts : List Expr} {x1 : Nat} {pos : Pos} (a e it : Addr) (hei : e ≠ it) : Turn P w K (.Tuple elts x1 pos) (Ite K a) [e, it] e (fun i h => (∃ old, IsEnum h e it ((i : Nat) : Int) old) ∧ h.IsListIter it a i) where
  mem := by simp
  obj := fun i h st b hb => by
    obtain ⟨⟨old, he⟩, o, ho, hc, hd⟩ := st
    rcases List.mem_cons.mp hb with rfl | hb
    · exact ⟨_, he, fun v z => by
        have z' : Data.fields _ = Data.cell v := z
        cases z'⟩
    · have e' := List.mem_singleton.mp hb
      subst e'
      exact ⟨o, ho, fun v z => by rw [hd] at z; cases z⟩
  keep := fun i h h' st k => ⟨by
    obtain ⟨old, he⟩ := st.1
    exact ⟨old, k e (by simp) _ he⟩, st.2.at fun o q => k it (by simp) o q⟩
  item := by
    intro X hP hw hK hc i pins s σ H E I hf st hg
    subst hP hw hK
    obtain ⟨xs, x, hq, hx⟩ := hg
    obtain ⟨its, rv, p, hz⟩ := I.list hq
    obtain ⟨u, hu, ru⟩ := rv.get hx
    obtain ⟨⟨old, he⟩, hit⟩ := st
    obtain ⟨oi, hoi, hci, hdi⟩ := id hit
    refine wpAny_pyNext_enum_item he hit p.isList (x := u) (by simpa using hu) hei fun h' ho st' hT hsz hk => ?_
    refine ⟨_, rfl, wpAny_letOwnedTupleGo_enum ho fun h2 he2 hs2 => ?_⟩
    replace hs2 : Heap.SameBut e h' h2 := hs2
    have heH : e < s.heap.objs.size := Heap.lt_size he
    have hiH : it < s.heap.objs.size := Heap.lt_size hoi
    have hT2 : h2.get? s.heap.objs.size = some { cls := .type "tuple", data := .seq #[.int i s.toks, u] } := (hs2.2 _ (Nat.ne_of_gt heH)).trans hT
    have kk : ∀ b o, b ∉ [e, it] → s.heap.get? b = some o → h2.get? b = some o := fun b o hb q => by
      have hbe : b ≠ e := fun z => hb (by simp [z])
      have hbi : b ≠ it := fun z => hb (by simp [z])
      exact (hs2.2 b hbe).trans (hk b o hbe hbi q)
    have new : ObjOk X.prog X.w (upd H s.heap.objs.size (.tup [.int i, x])) h2 s.heap.objs.size (.tup [.int i, x]) := by
      refine ⟨?_, [.int i s.toks, u], .cons ⟨_, rfl⟩ (.cons ru .nil), _, hT2, ?_⟩
      · exact Nat.le_of_lt (small1000 (show 2 ≤ 1000 by decide))
      · first | exact ⟨rfl, rfl, _, rfl⟩ | exact ⟨rfl, _, rfl⟩ | exact ⟨rfl, rfl⟩
    refine ⟨.ref s.heap.objs.size, _, I.turnedLaid (t' := s.toks + 1) hf kk (Nat.le_refl _) new, rfl, ⟨_, x, rfl, I.fresh, rfl, fun ys hy => by rw [I.list_inj hy hq]; exact hx⟩, ⟨⟨u, by simpa using he2⟩, ?_⟩, ?_⟩
    · exact st'.at fun o q => (hs2.2 it (Ne.symm hei)).trans q
    · intro b hb
      have hlt' : b < s.heap.objs.size := by
        rcases List.mem_cons.mp hb with rfl | hb
        · exact heH
        · rw [List.mem_singleton.mp hb]; exact hiH
      rw [upd_ne (Nat.ne_of_lt hlt')]
      exact (hf b hb).1
  done := by
    intro X hP hw hK hc i pins s σ H E I hf st hg
    subst hP hw hK
    obtain ⟨xs, hq, hx⟩ := hg
    obtain ⟨its, rv, p, hz⟩ := I.list hq
    obtain ⟨⟨old, he⟩, hit⟩ := st
    obtain ⟨f0, f1, f2, f3, f4, f5⟩ := hf it (by simp)
    have hl := rv.length
    exact wpAny_pyNext_enum_end (I.ok.hd hc) he hit p.isList (by simp; omega) fun h' eb => ⟨rfl, I.turned (t' := s.toks) (fun b o hb q => eb b o hb q) f0 f1 f3 f4 f5⟩
  self := fun _ _ _ _ _ st h => by
    obtain ⟨⟨old, he⟩, _⟩ := st
    exact wpAny_pyIter_enum he h
section
variable {X : Cx}
def iEnum (K : PySem.W.Frag) (ta : TA) : TI := fun σ H R => ta σ H fun vs H1 => ∃ a, vs = [.ref a] ∧ (∃ xs, SqL K H1 a xs) ∧ R (Ite K a) H1
theorem pi_enum {elts : List Expr} {x1 : Nat} {pt : Pos} {a : Expr} {ta : TA} {p pos : Pos} (hg : Gl X "enumerate") (hm : X.mg "enumerate" = none) (ha : PA X [a] ta) (hs : starEach [a] X.env = [(false, eval a X.env)] := by rfl) : PI X (.Tuple elts x1 pt) (.Call (.Name "enumerate" p) [a] [] pos) (iEnum X.K ta) := by
  intro pins s σ H R I h
  refine Call_ (ld_blt I hg hm boot_enumerate (PyProof.Rows.callWith_type1 (thn (ha pos pins s σ H _ I h) fun us s1 ⟨vs, H1, I1, r1, q1⟩ => ?_) hs rfl))
  obtain ⟨a, e, ⟨xs, hq⟩, q⟩ := q1
  subst e
  obtain ⟨u, rfl, ru⟩ := r1.one
  cases ru
  obtain ⟨its, rv, p, hz⟩ := I1.list hq
  refine call_enumerate_list p.isList fun h' he hit hz' kk => ?_
  refine wpAny_pyIter_enum he ?_
  have I2 : Inv X pins σ H1 { s1 with heap := h' } := I1.kept (t' := s1.toks) kk
  refine ⟨_, [s1.heap.objs.size + 1, s1.heap.objs.size], _, Ite X.K a, H1, rfl, I2, turn_enum a (s1.heap.objs.size + 1) s1.heap.objs.size (Nat.succ_ne_self _), ⟨⟨_, he⟩, hit⟩, fun b hb => ?_, q⟩
  have hle : s1.heap.objs.size ≤ b := by
    rcases List.mem_cons.mp hb with rfl | hb
    · omega
    · rw [List.mem_singleton.mp hb]; exact Nat.le_refl _
  exact I1.fpOk hle (I1.hok.fresh hle)

def rInsert : V → List V → Hp → VK → Prop := fun x vs H Q => ∃ l xs i y, x = .ref l ∧ vs = [.int (i : Nat), y] ∧ H l = some (.lst xs) ∧ i ≤ xs.length ∧ xs.length < sizeLine ∧ Q .non (upd H l (.lst (xs.take i ++ y :: xs.drop i)))
theorem pg_tupK {pos : Pos} {es : List Expr} {k : Nat} {t : TGs} (n : Nat) (K : PySem.W.Frag) (hK : X.K = K) (hc : X.calm = true) (h : PGs X es t)
    (hn : (assignEach es X.env).length = n := by rfl) (hst : (assignEach es X.env).findIdx? (·.1) = none := by rfl) : PG X (.Tuple es k pos) (gTup K n t) := by
  subst hK
  exact pg_tup hc h hn hst
theorem call_isinstT : CallR X (.builtin "isinstance") (fun xs H Q => ∃ p ys n b, xs = [.ref p, .ty n] ∧ SqT X.K H p ys ∧ PySem.W.kitOne X.K (.type "tuple") (.type n) = some b ∧ Q (.bl b) H) := by
  intro pins s σ H xs us Q I r h
  obtain ⟨p, ys, n, b, rfl, hq, hk, q⟩ := h
  obtain ⟨u, w', rfl, rx, ry⟩ := vals2 r
  cases (show w' = Value.type n from ry)
  cases rx
  obtain ⟨its, rv, ⟨o, h1, h2, _⟩, hz⟩ := I.tuple hq
  exact PySem.W.kia_one PySem.W.kitx_tuple I.kIn ⟨o, h1, h2⟩ hk (fun z => nomatch z) fun tk => ⟨.bl b, H, I.tok _, rfl, q⟩
theorem call_isinstL : CallR X (.builtin "isinstance") (fun xs H Q => ∃ p ys n b, xs = [.ref p, .ty n] ∧ SqL X.K H p ys ∧ PySem.W.kitOne X.K (.type "list") (.type n) = some b ∧ Q (.bl b) H) := by
  intro pins s σ H xs us Q I r h
  obtain ⟨p, ys, n, b, rfl, hq, hk, q⟩ := h
  obtain ⟨u, w', rfl, rx, ry⟩ := vals2 r
  cases (show w' = Value.type n from ry)
  cases rx
  obtain ⟨its, rv, pp, hz⟩ := I.list hq
  obtain ⟨o, h1, h2, _⟩ := pp.isList
  exact PySem.W.kia_one PySem.W.kitx_list I.kIn ⟨o, h1, h2⟩ hk (fun z => nomatch z) fun tk => ⟨.bl b, H, I.tok _, rfl, q⟩
end
end L2

/-! OWN: growing a trail by rows: the mathematics. Behind Ext7. -/
namespace L2
open PySem
def opn (row hs : List Int) : List Int := once [] (row.filter fun p => decide (p ∉ hs) && decide (-p ∉ hs))
def isDue (row hs : List Int) : Bool := !(row.any fun p => decide (p ∈ hs)) && decide ((opn row hs).length ≤ 1)
def NoneAhead (Rs : List (List Int)) (hs : List Int) (k : Nat) : Prop := ∀ j, j < k → ∀ r, Rs[j]? = some r → isDue r hs = false
def FirstDue (Rs : List (List Int)) (hs : List Int) : Option Nat → Prop
  | none => NoneAhead Rs hs Rs.length
  | some k => (∃ r, Rs[k]? = some r ∧ isDue r hs = true) ∧ NoneAhead Rs hs k
inductive Grown (Rs : List (List Int)) : List (Int × Int) → List Int → List (Int × Int) → Option Nat → Prop
  | stop {lg : List (Int × Int)} {hs : List Int} : NoneAhead Rs hs Rs.length → Grown Rs lg hs lg none
  | fail {lg : List (Int × Int)} {hs r : List Int} {k : Nat} : Rs[k]? = some r → isDue r hs = true → NoneAhead Rs hs k → opn r hs = [] → Grown Rs lg hs lg (some k)
  | step {lg lg' : List (Int × Int)} {hs r t : List Int} {k : Nat} {a : Int} {o : Option Nat} : Rs[k]? = some r → isDue r hs = true → NoneAhead Rs hs k → opn r hs = a :: t → Grown Rs (lg ++ [(a, (k : Int))]) (hs ++ [a]) lg' o → Grown Rs lg hs lg' o
def oV : Option Nat → V
  | none => .non
  | some k => .int (k : Int)
def left (U hs : List Int) : Nat := (U.filter fun p => decide (p ∉ hs)).length
def dQT (p : Int) : Dt := .tup [.int p, .bl true]
theorem modR (a : Int) {b : Int} (h : 0 < b) : 0 ≤ a % b ∧ a % b < b := ⟨Int.emod_nonneg _ (by omega), Int.emod_lt_of_pos _ h⟩
def mixF (c k : Int) : Int := (c + 7919 * k + 1) * 48271 % 1000003 * ((c + 7919 * k + 1) * 48271 % 1000003) % 999983
/-- a trail's parts: of atoms 1 to m, none with its opposite -/
structure TrOk (m : Int) (ts : List (Int × Int)) : Prop where
  rng : ∀ t ∈ ts, t.1 ≠ 0 ∧ -m ≤ t.1 ∧ t.1 ≤ m
  con : ∀ x ∈ ts.map Prod.fst, -x ∉ ts.map Prod.fst
theorem TrOk.nil {m : Int} : TrOk m [] := ⟨fun _ h => absurd h (by simp), fun _ h => absurd h (by simp)⟩
theorem TrOk.snoc {m a b y : Int} {ts : List (Int × Int)} (h : TrOk m ts) (hb : b = a ∨ b = -a) (h1 : 1 ≤ a) (h2 : a ≤ m) (n1 : a ∉ ts.map Prod.fst) (n2 : -a ∉ ts.map Prod.fst) : TrOk m (ts ++ [(b, y)]) := by
  refine ⟨fun t ht => ?_, fun x hx => ?_⟩
  · rcases List.mem_append.mp ht with q | q
    · exact h.rng t q
    · cases List.mem_singleton.mp q
      rcases hb with rfl | rfl
      · exact ⟨by show b ≠ 0; omega, by show -m ≤ b; omega, h2⟩
      · exact ⟨by show -a ≠ 0; omega, by show -m ≤ -a; omega, by show -a ≤ m; omega⟩
  · rw [List.map_append] at hx ⊢
    have nb : b ∉ ts.map Prod.fst ∧ -b ∉ ts.map Prod.fst := by
      rcases hb with rfl | rfl
      · exact ⟨n1, n2⟩
      · exact ⟨n2, by rw [Int.neg_neg]; exact n1⟩
    have hb0 : b ≠ -b := by omega
    rcases List.mem_append.mp hx with q | q
    · intro z
      rcases List.mem_append.mp z with z | z
      · exact h.con x q z
      · have e : -x = b := List.mem_singleton.mp z
        have e2 : x = -b := by omega
        rw [e2] at q
        exact nb.2 q
    · have e : x = b := List.mem_singleton.mp q
      subst e
      intro z
      rcases List.mem_append.mp z with z | z
      · exact nb.2 z
      · have e : -x = x := List.mem_singleton.mp z
        exact hb0 e.symm
def rnd (m : Int) (ts : List (Int × Int)) (a : Int) : List Int := (ts.map Prod.fst).filter fun p => decide (p = a) || decide (p = -a)
def ins {α : Type} (xs : List α) (i : Nat) (y : α) : List α := xs.take i ++ y :: xs.drop i
def U40 : List Int := (List.range 121).map fun i : Nat => (i : Int) - 60
theorem HasL.ins {K : PySem.W.Frag} {H : Hp} {d : Dt} {v : V} (h : Has K H d v) : ∀ (i : Nat) {ds : List Dt} {vs : List V}, HasL K H ds vs → HasL K H (L2.ins ds i d) (L2.ins vs i v)
  | 0, _, _, hl => .cons h hl
  | i + 1, [], vs, hl => by
    have e : vs = [] := by have := hl.length; cases vs with | nil => rfl | cons a t => cases this
    subst e
    exact .cons h .nil
  | i + 1, d' :: ds, vs, hl => by
    cases vs with
    | nil => have := hl.length; cases this
    | cons v' vs =>
      simp only [HasL] at hl
      obtain ⟨u, us, q, h1, h2⟩ := hl
      cases q
      exact .cons h1 (HasL.ins h i h2)
def RowK (r : List Int) : Prop := r.length ≤ 20 ∧ ((∀ p ∈ r, -40 ≤ p ∧ p ≤ 40) ∨ r = [50, 51])
theorem HasL.rep {K : PySem.W.Frag} {H : Hp} {d : Dt} {v : V} (h : Has K H d v) : ∀ k, HasL K H (List.replicate k d) (List.replicate k v)
  | 0 => .nil
  | k + 1 => .cons h (HasL.rep h k)
/-- all stand but what is at d -/
def SameX (d : Addr) (H H' : Hp) : Prop := ∀ b o, b ≠ d → H b = some o → H' b = some o
theorem SameX.refl (d : Addr) (H : Hp) : SameX d H H := fun _ _ _ h => h
theorem SameX.trans {d : Addr} {H H1 H2 : Hp} (a : SameX d H H1) (b : SameX d H1 H2) : SameX d H H2 := fun c o n h => b c o n (a c o n h)
theorem Same.x {H H' : Hp} (s : Same H H') (d : Addr) : SameX d H H' := fun b o _ h => s b o h
theorem SameX.put {d : Addr} (H : Hp) (o : HO) : SameX d H (upd H d o) := fun b u n h => by rw [upd_ne n]; exact h
theorem SameX.kt {d : Addr} {H H' : Hp} {kvs : List (Key × V)} (s : SameX d H H') (h : H d = some (.dK kvs)) : KeepT H H' := fun b us z => by
  have nb : b ≠ d := fun e => by
    rw [e] at z
    rcases z with z | ⟨o, z⟩
    · rw [h] at z; cases z
    · rw [h] at z; cases z
  rcases z with z | ⟨o, z⟩
  · exact .inl (s _ _ nb z)
  · exact .inr ⟨o, s _ _ nb z⟩
theorem Dset.ne {H : Hp} {d l : Addr} {hs : List Int} {xs : List V} (h : Dset H d hs) (hl : H l = some (.lst xs)) : l ≠ d := fun e => by
  obtain ⟨kvs, hk, _⟩ := h.ex
  rw [e, hk] at hl
  cases hl
theorem SameX.lst {d l : Addr} {H H' : Hp} {hs : List Int} {xs : List V} (s : SameX d H H') (h : Dset H d hs) (hl : H l = some (.lst xs)) : H' l = some (.lst xs) := s _ _ (h.ne hl) hl
def anyHeld (row hs : List Int) : Bool := row.any fun p => decide (p ∈ hs)
def Forc (Rs : List (List Int)) : List Int → List (Int × Int) → Prop
  | _, [] => True
  | hs, (a, y) :: es => (∃ k r, y = (k : Nat) ∧ Rs[k]? = some r ∧ (r.any fun p => decide (p ∈ hs)) = false ∧ opn r hs = [a] ∧ NoneAhead Rs hs k) ∧ Forc Rs (hs ++ [a]) es
def FinO (Rs : List (List Int)) (hs : List Int) : Option Nat → Prop
  | none => NoneAhead Rs hs Rs.length
  | some k => ∃ r, Rs[k]? = some r ∧ (r.any fun p => decide (p ∈ hs)) = false ∧ opn r hs = [] ∧ NoneAhead Rs hs k
theorem Forc.drop {Rs : List (List Int)} : ∀ {es : List (Int × Int)} {hs : List Int} {i : Nat} {t : Int × Int}, Forc Rs hs es → es[i]? = some t → (∃ k r, t.2 = (k : Nat) ∧ Rs[k]? = some r ∧ (r.any fun p => decide (p ∈ hs ++ (es.take i).map Prod.fst)) = false ∧ opn r (hs ++ (es.take i).map Prod.fst) = [t.1] ∧ NoneAhead Rs (hs ++ (es.take i).map Prod.fst) k)
  | (a, y) :: es, hs, 0, t, h, e => by
    cases e
    simpa using h.1
  | (a, y) :: es, hs, i + 1, t, h, e => by
    have := Forc.drop h.2 (i := i) (t := t) e
    simpa [List.append_assoc] using this
end L2

/-! OWN: sep.join(list of texts); texts of numbers; reversed(list) in a for. Behind Ext7. -/
namespace L2
open PySem PySem.Spec PyProof.Rows
def lenS (xs : List Str) : Nat := (xs.map Str.length).sum
section
variable {X : Cx}
def rJoin (K : PySem.W.Frag) : V → List V → Hp → VK → Prop := fun x vs H Q => ∃ sep p xs, x = .str sep ∧ vs = [.ref p] ∧ SqL K H p (xs.map V.str) ∧ lenS xs + xs.length * sep.length ≤ sizeLine ∧ Q (.str (Builtin.Str.glued sep xs)) H
end
end L2

/-! OWN: reversed(list) and zip(list, list) in a for; a walk of a dict's keys (the dict is frozen while it is walked); dict.update(dict). Behind Ext8. -/
namespace L2
open PySem PySem.Spec PyProof.Rows
/-! ### reversed(list) -/
def Itv (K : PySem.W.Frag) (a : Addr) (n : Nat) : It :=
  ⟨fun i H => i < n ∧ ∃ xs, SqL K H a xs ∧ xs.length = n, fun i H x H' => H' = H ∧ ∀ xs, SqL K H a xs → xs[n - 1 - i]? = some x, fun i H => n ≤ i⟩
/-! ### zip(list, list) -/
def Itz (K : PySem.W.Frag) (a b : Addr) : It :=
  ⟨fun i H => ∃ xs ys x y, SqL K H a xs ∧ SqL K H b ys ∧ xs[i]? = some x ∧ ys[i]? = some y, fun i H x H' => ∃ p y z, x = .ref p ∧ H p = none ∧ H' = upd H p (.tup [y, z]) ∧ (∀ xs, SqL K H a xs → xs[i]? = some y) ∧ ∀ ys, SqL K H b ys → ys[i]? = some z,
    fun i H => ∃ xs ys, SqL K H a xs ∧ SqL K H b ys ∧ (xs.length ≤ i ∨ ys.length ≤ i)⟩
/-! ### a dict, frozen while it is walked -/
def Itd (d : Addr) (o : Obj) (kvs : List (Key × V)) : It :=
  ⟨fun i H => i < kvs.length ∧ H d = some (.frz o (.dK kvs)), fun i H x H' => H' = H ∧ ∃ k v, kvs[i]? = some (k, v) ∧ x = kV k, fun i H => kvs.length ≤ i ∧ H d = some (.frz o (.dK kvs))⟩
section
variable {X : Cx} {tg : Expr}
def iRev (K : PySem.W.Frag) (ta : TA) : TI := fun σ H R => ta σ H fun vs H1 => ∃ a xs, vs = [.ref a] ∧ SqL K H1 a xs ∧ R (Itv K a xs.length) H1
def iZip (K : PySem.W.Frag) (ta : TA) : TI := fun σ H R => ta σ H fun vs H1 => ∃ a b, vs = [.ref a, .ref b] ∧ (∃ xs, SqL K H1 a xs) ∧ (∃ ys, SqL K H1 b ys) ∧ R (Itz K a b) H1
def iDict (tl : TE) : TI := fun σ H R => tl σ H fun x H1 => ∃ d kvs, x = .ref d ∧ H1 d = some (.dK kvs) ∧ ∀ o, R (Itd d o kvs) (upd H1 d (.frz o (.dK kvs)))
def rUpdate : V → List V → Hp → VK → Prop := fun x vs H Q => ∃ d b kvs more, x = .ref d ∧ vs = [.ref b] ∧ d ≠ b ∧ H d = some (.dK kvs) ∧ H b = some (.dK more) ∧ kvs.length + more.length ≤ sizeLine ∧ Q .non (upd H d (.dK (mergeK kvs more)))
end
end L2

/-! OWN: tuple(reversed(list)); max of a list with default. Behind Ext9. -/
namespace L2
open PySem PySem.Spec PyProof.Rows
set_option maxRecDepth 100000
section
variable {prog : Program} {w : World} {A : Around} {E : Value → Shared → Prop} {s : Shared} {J : Addr} {fp wr : List Addr} {G : Array GenState → Array GenState → Prop} {n : Nat} {P : Nat → Value → Prop} {St : Nat → Shared → Prop}
end
end L2

/-! OWN: tuple(reversed(list)) as an expression; max(list, default=d). Behind Ext10. -/
namespace L2
open PySem PySem.Spec PyProof.Rows
set_option maxRecDepth 100000
section
variable {prog : Program} {w : World} {A : Around} {R : Result → Shared → Prop} {J : Addr} {fp wr : List Addr} {n : Nat} {P : Nat → Value → Prop} {St : Nat → Heap → Prop} {kw : List (Str × Value)}
end
section
variable {prog : Program} {w : World} {A : Around} {E : Value → Shared → Prop} {s : Shared}
end
section
variable {X : Cx}
def tMaxd (K : PySem.W.Frag) (ta tk : TA) : TE := fun σ H Q => ta σ H fun vs H1 => tk σ H1 fun zs H2 => ∃ (p : Addr) (ns : List Int) (dv : Int), vs = [.ref p] ∧ zs = [.int dv] ∧ SqInt K H2 p ns ∧ (ns = [] → Q (.int dv) H2) ∧ ∀ m ∈ ns, (∀ n ∈ ns, n ≤ m) → Q (.int m) H2
/-- tuple(reversed(xs)) -/
def tTupRev (K : PySem.W.Frag) (ta : TA) : TE := fun σ H Q => ta σ H fun vs H1 => ∃ (a : Addr) (xs : List V), vs = [.ref a] ∧ SqL K H1 a xs ∧ ∀ l, H1 l = none → Q (.ref l) (upd H1 l (.tup xs.reverse))
end
end L2

/-! OWN: t[lo:hi] where it is the whole of t. Behind Ext11. -/
namespace HT
open PySem PyProof.Rows
section
variable {prog : Program} {w : World} {A : Around} {E : Value → Shared → Prop} {s : Shared}
end
end HT
namespace L2
open PySem PySem.Spec PyProof.Rows
section
variable {X : Cx}
def rSlTW (K : PySem.W.Frag) : V → Option Int → Option Int → Hp → VK → Prop := fun x lo hi H Q => ∃ a xs, x = .ref a ∧ SqT K H a xs ∧ (HT.sIx xs.length 0 lo = 0 ∧ HT.sIx xs.length xs.length hi = xs.length) ∧ Q (.ref a) H
/-- either way: a tuple of the items that were cut -/
def rSlTA (K : PySem.W.Frag) : V → Option Int → Option Int → Hp → VK → Prop := fun x lo hi H Q => rSlT K x lo hi H Q ∨ rSlTW K x lo hi H Q
end
end L2

/-! OWN: range with the step -1. Behind Ext12. -/
namespace L2
open PySem PySem.Spec PyProof.Rows
/-- hi, hi - 1, ..: n numbers -/
def Itdn (hi : Int) (n : Nat) : It := ⟨fun i _ => i < n, fun i H x H' => H' = H ∧ x = .int (hi - i), fun i _ => n ≤ i⟩
section
variable {X : Cx} {tg : Expr}
def iDown (ta : TA) : TI := fun σ H R => ta σ H fun vs H1 => ∃ i j : Int, vs = [.int i, .int j, .int (-1)] ∧ (-(2 ^ 62) ≤ i ∧ i < 2 ^ 62 ∧ -(2 ^ 62) ≤ j ∧ j < 2 ^ 62) ∧ R (Itdn i (i - j).toNat) H1
end
end L2

/-! OWN: d.values(), list(d.values()), list(d). Behind Ext13. -/
namespace L2
open PySem PySem.Spec PyProof.Rows
set_option maxRecDepth 100000
/-- the view of a dict's values -/
def VView (d v : Addr) : HO := .ext fun h => h.IsValuesView v d
section
variable {X : Cx}
def rValues : V → List V → Hp → VK → Prop := fun x vs H Q => ∃ d kvs, x = .ref d ∧ vs = [] ∧ H d = some (.dK kvs) ∧ ∀ v, H v = none → Q (.ref v) (upd H v (VView d v))
end
end L2

/-! OWN: range(n) as a value, list(range(n)). Behind Ext14. -/
namespace L2
open PySem PySem.Spec PyProof.Rows
set_option maxRecDepth 100000
section
variable {X : Cx}
def tRange1 (ta : TA) : TE := fun σ H Q => ta σ H fun vs H1 => ∃ j : Int, vs = [.int j] ∧ ∀ r, H1 r = none → Q (.ref r) (upd H1 r (.rng 0 j))
theorem pe_range1 {a : Expr} {ta : TA} {p pos : Pos} (hg : Gl X "range") (hm : X.mg "range" = none) (ha : PA X [a] ta) (hs : starEach [a] X.env = [(false, eval a X.env)] := by rfl) : PE X (.Call (.Name "range" p) [a] [] pos) (tRange1 ta) := by
  intro pins s σ H Q I h
  refine Call_ (ld_blt I hg hm boot_range (PyProof.Rows.callWith_type1 (thn (ha pos pins s σ H _ I h) fun us s1 ⟨vs, H1, I1, r1, q1⟩ => ?_) hs rfl))
  obtain ⟨j, e, q⟩ := q1
  subst e
  cases r1 with
  | cons r rr =>
    cases rr
    obtain ⟨t, rfl⟩ := r
    refine call_range_1 ?_
    refine ⟨.ref s1.heap.objs.size, _, I1.laid (o := .rng 0 j) (fun b ob e => Heap.get?_push_of_some _ e) (Nat.le_refl _) ?_, rfl, q _ (I1.hok.fresh (Nat.le_refl _))⟩
    exact ⟨_, _, _, Heap.get?_push_size _ rfl⟩
theorem call_list_rng (hc : X.calm = true) : CallR X (.type "list") (fun xs H Q => ∃ r j, xs = [.ref r] ∧ H r = some (.rng 0 j) ∧ 0 ≤ j ∧ j ≤ 100000 ∧ ∀ l, H l = none → Q (.ref l) (upd H l (.lst (((List.range j.toNat).map fun i : Nat => (i : Int)).map V.int)))) := by
  intro pins s σ H xs us Q I r h
  obtain ⟨r0, j, rfl, hr, j0, j1, q⟩ := h
  obtain ⟨u, rfl, rx⟩ := vals1 r
  cases rx
  obtain ⟨t1, t2, t3, e⟩ := I.hok r0 _ hr
  have en : Builtin.Range.rangeSize 0 j 1 = ((j.toNat : Nat) : Int) := by rw [rangeSize_one]; split <;> omega
  refine call_list_range (I.ok.hd hc) e (small_one (by omega) (by omega) (by omega) (by omega)) en (by omega) fun h' tk acc c kp e2 its => ?_
  have al : acc.toList.length = j.toNat := by rw [Array.length_toList]; exact its.1
  have rel : Vals (((List.range j.toNat).map fun i : Nat => (i : Int)).map V.int) acc.toList := by
    have key : ∀ (n : Nat) (L : List Value) (o : Nat), L.length = n → (∀ i v, L[i]? = some v → ∃ t, v = Value.int (0 + (((o + i : Nat) : Nat) : Int) * 1) t) → Vals (((List.range' o n).map fun i : Nat => (i : Int)).map V.int) L := by
      intro n
      induction n with
      | zero =>
        intro L o hl _
        cases L with
        | nil => exact .nil
        | cons _ _ => cases hl
      | succ n ih =>
        intro L o hl hv
        match L, hl with
        | x :: L, hl =>
          refine .cons ?_ (ih L (o + 1) (by simpa using hl) fun i v e => ?_)
          · obtain ⟨t, e⟩ := hv 0 x rfl
            exact ⟨t, by rw [e]; congr 1; show (0 : Int) + ((o + 0 : Nat) : Int) * 1 = (o : Int); omega⟩
          · obtain ⟨t, e'⟩ := hv (i + 1) v e
            exact ⟨t, by rw [e']; congr 1; omega⟩
    have := key j.toNat acc.toList 0 al fun i v e => by
      obtain ⟨t, e'⟩ := its.2 i v (by rw [← Array.getElem?_toList]; exact e)
      exact ⟨t, by rw [e', Nat.zero_add]⟩
    rw [List.range_eq_range']
    exact this
  refine ⟨.ref s.heap.objs.size, _, I.laid (t' := tk) kp (Nat.le_refl _) (show ObjOk X.prog X.w _ h' _ (.lst (((List.range j.toNat).map fun i : Nat => (i : Int)).map V.int)) from ⟨?_, acc.toList, c, rel, by rw [Array.toArray_toList]; exact e2⟩), rfl, q _ (I.hok.fresh (Nat.le_refl _))⟩
  rw [List.length_map, List.length_map, List.length_range, sizeLine_eq]
  omega
end
end L2

/-! OWN: terms that hang together: heads, the object Groups, links. Behind Ext15. -/
namespace L2
open PySem
def loF (x y : Int) : Int := if y < x then y else x
def hiF (x y : Int) : Int := if y > x then y else x
def mrg (hd : Int → Int) (a b : Int) : Int → Int := fun t => if hd t = hiF (hd a) (hd b) then loF (hd a) (hd b) else hd t
structure Hd (N : Nat) (hd : Int → Int) : Prop where
  idem : ∀ t, hd (hd t) = hd t
  le : ∀ t, hd t ≤ t
  rng : ∀ t, hd t ≠ t → 0 ≤ hd t ∧ t < (N : Int)
theorem Hd.zero (N : Nat) : Hd N (fun t => t) := ⟨fun _ => rfl, fun _ => Int.le_refl _, fun _ h => absurd rfl h⟩
theorem lohi (x y : Int) : loF x y ≤ hiF x y ∧ ((loF x y = x ∧ hiF x y = y) ∨ (loF x y = y ∧ hiF x y = x)) := by
  unfold loF hiF
  split <;> split <;> omega
theorem Hd.in' {N : Nat} {hd : Int → Int} (h : Hd N hd) {a : Int} (ha : 0 ≤ a ∧ a < (N : Int)) : 0 ≤ hd a ∧ hd a < (N : Int) := by
  have h1 := h.le a
  by_cases e : hd a = a
  · rw [e]; exact ha
  · have := h.rng a e
    omega
theorem Hd.lo_id {N : Nat} {hd : Int → Int} (h : Hd N hd) (a b : Int) : hd (loF (hd a) (hd b)) = loF (hd a) (hd b) := by
  rcases (lohi (hd a) (hd b)).2 with ⟨e, _⟩ | ⟨e, _⟩ <;> rw [e] <;> exact h.idem _
theorem Hd.hi_id {N : Nat} {hd : Int → Int} (h : Hd N hd) (a b : Int) : hd (hiF (hd a) (hd b)) = hiF (hd a) (hd b) := by
  rcases (lohi (hd a) (hd b)).2 with ⟨_, e⟩ | ⟨_, e⟩ <;> rw [e] <;> exact h.idem _
theorem mrg_eq {hd : Int → Int} {a b : Int} (e : loF (hd a) (hd b) = hiF (hd a) (hd b)) : mrg hd a b = hd := by
  funext t
  unfold mrg
  by_cases c : hd t = hiF (hd a) (hd b)
  · rw [if_pos c, e, c]
  · rw [if_neg c]
theorem Hd.mrg {N : Nat} {hd : Int → Int} (h : Hd N hd) {a b : Int} (ha : 0 ≤ a ∧ a < (N : Int)) (hb : 0 ≤ b ∧ b < (N : Int)) : Hd N (mrg hd a b) := by
  have lh := lohi (hd a) (hd b)
  have la := h.in' ha
  have lb := h.in' hb
  refine ⟨fun t => ?_, fun t => ?_, fun t => ?_⟩
  · by_cases e : loF (hd a) (hd b) = hiF (hd a) (hd b)
    · rw [mrg_eq e]
      exact h.idem t
    · unfold L2.mrg
      by_cases c : hd t = hiF (hd a) (hd b)
      · rw [if_pos c, h.lo_id, if_neg e]
      · rw [if_neg c, h.idem, if_neg c]
  · unfold L2.mrg
    have := h.le t
    split <;> omega
  · unfold L2.mrg
    intro z
    by_cases c : hd t = hiF (hd a) (hd b)
    · rw [if_pos c] at z ⊢
      refine ⟨by omega, ?_⟩
      by_cases w : hd t = t
      · omega
      · exact (h.rng t w).2
    · rw [if_neg c] at z ⊢
      exact h.rng t z
theorem mrg_iff {hd : Int → Int} {a b t u : Int} : mrg hd a b t = mrg hd a b u ↔ hd t = hd u ∨ (hd t = hd a ∧ hd u = hd b) ∨ (hd t = hd b ∧ hd u = hd a) := by
  have lh := lohi (hd a) (hd b)
  unfold mrg
  by_cases c : hd t = hiF (hd a) (hd b)
  · by_cases d : hd u = hiF (hd a) (hd b)
    · rw [if_pos c, if_pos d]
      exact ⟨fun _ => .inl (by rw [c, d]), fun _ => rfl⟩
    · rw [if_pos c, if_neg d]
      constructor <;> intro z <;> omega
  · by_cases d : hd u = hiF (hd a) (hd b)
    · rw [if_neg c, if_pos d]
      constructor <;> intro z <;> omega
    · rw [if_neg c, if_neg d]
      constructor
      · exact fun z => .inl z
      · intro z
        omega
/-! ### links -/
abbrev Lk := Int × Int × Int
def hdL (ls : List Lk) : Int → Int := ls.foldl (fun hd l => mrg hd l.1 l.2.1) fun t => t
theorem hdL_snoc (ls : List Lk) (l : Lk) : hdL (ls ++ [l]) = mrg (hdL ls) l.1 l.2.1 := by
  unfold hdL
  rw [List.foldl_append]
  rfl
def InN (N : Nat) (ls : List Lk) : Prop := ∀ l ∈ ls, (0 ≤ l.1 ∧ l.1 < (N : Int)) ∧ 0 ≤ l.2.1 ∧ l.2.1 < (N : Int)
theorem hdL_ok {N : Nat} {ls : List Lk} (h : InN N ls) : ∀ i, i ≤ ls.length → Hd N (hdL (ls.take i)) := by
  intro i
  induction i with
  | zero => exact fun _ => Hd.zero N
  | succ i ih =>
    intro hi
    obtain ⟨l, hl⟩ : ∃ l, ls[i]? = some l := ⟨_, List.getElem?_eq_getElem (by omega)⟩
    rw [take_snoc hl, hdL_snoc]
    have := h l (List.mem_of_getElem? hl)
    exact (ih (by omega)).mrg this.1 this.2
theorem hdL_all {N : Nat} {ls : List Lk} (h : InN N ls) : Hd N (hdL ls) := by
  have := hdL_ok h ls.length (Nat.le_refl _)
  rw [List.take_length] at this
  exact this
theorem rev_ind {α : Type} {P : List α → Prop} (h0 : P []) (h1 : ∀ xs x, P xs → P (xs ++ [x])) : ∀ xs, P xs := by
  intro xs
  generalize hn : xs.length = n
  induction n generalizing xs with
  | zero => rw [List.length_eq_zero_iff.mp hn]; exact h0
  | succ n ih =>
    have ne : xs ≠ [] := fun e => by rw [e] at hn; cases hn
    rw [← List.dropLast_concat_getLast ne]
    refine h1 _ _ (ih _ ?_)
    rw [List.length_dropLast]
    omega
theorem hdL_link : ∀ ls : List Lk, ∀ l ∈ ls, hdL ls l.1 = hdL ls l.2.1 := by
  refine rev_ind (fun l h => absurd h (by simp)) ?_
  intro ls k ih l hl
  rw [hdL_snoc, mrg_iff]
  rcases List.mem_append.mp hl with z | z
  · exact .inl (ih l z)
  · cases List.mem_singleton.mp z
    exact .inr (.inl ⟨rfl, rfl⟩)
theorem hdL_mono {ls : List Lk} {l : Lk} {t u : Int} (h : hdL ls t = hdL ls u) : hdL (ls ++ [l]) t = hdL (ls ++ [l]) u := by
  rw [hdL_snoc, mrg_iff]
  exact .inl h
theorem hdL_mono2 {ls : List Lk} {t u : Int} : ∀ more : List Lk, hdL ls t = hdL ls u → hdL (ls ++ more) t = hdL (ls ++ more) u := by
  refine rev_ind (fun h => by rw [List.append_nil]; exact h) ?_
  intro more l ih h
  rw [← List.append_assoc]
  exact hdL_mono (ih h)
theorem int_nodup_len : ∀ (n : Nat) {xs : List Int}, xs.Nodup → (∀ x ∈ xs, 0 ≤ x ∧ x < (n : Int)) → xs.length ≤ n
  | 0, [], _, _ => Nat.le_refl _
  | 0, x :: xs, _, h => by have := h x List.mem_cons_self; omega
  | n + 1, xs, nd, h => by
    have q := int_nodup_len n (nd.erase (n : Int)) (fun x hx => by
      have z := (List.Nodup.mem_erase_iff nd).mp hx
      have := h x z.2
      have := z.1
      omega)
    rw [List.length_erase] at q
    split at q <;> omega
/-! ### links in the heap -/
def dL (l : Lk) : Dt := .tup [.int l.1, .int l.2.1, .int l.2.2]
theorem has_dL {K : PySem.W.Frag} {H : Hp} {l : Lk} {v : V} (h : Has K H (dL l) v) : ∃ p, v = .ref p ∧ SqT K H p [.int l.1, .int l.2.1, .int l.2.2] := by
  obtain ⟨a, xs, rfl, h1, h2⟩ := h
  have e := hasl_ints (ns := [l.1, l.2.1, l.2.2]) h2
  rw [e] at h1
  exact ⟨a, rfl, h1⟩
theorem of_dL {K : PySem.W.Frag} {H : Hp} {l : Lk} {p : Addr} (h : SqT K H p [.int l.1, .int l.2.1, .int l.2.2]) : Has K H (dL l) (.ref p) := Has.tup' h (.cons Has.int (.cons Has.int (.cons Has.int .nil)))
theorem nols_dL : ∀ ls : List Lk, nols (ls.map dL) = true
  | [] => by simp [nols]
  | l :: ls => by
    simp only [List.map_cons, nols, dL, nol, Bool.true_and]
    exact nols_dL ls
theorem dL_at {K : PySem.W.Frag} {H : Hp} {ls : List Lk} {xs : List V} {i : Nat} {x : V} (h : HasL K H (ls.map dL) xs) (e : xs[i]? = some x) : ∃ l p, ls[i]? = some l ∧ x = .ref p ∧ SqT K H p [.int l.1, .int l.2.1, .int l.2.2] := by
  obtain ⟨d, h1, h2⟩ := h.get e
  rw [List.getElem?_map] at h1
  obtain ⟨l, e1, e2⟩ := Option.map_eq_some_iff.mp h1
  rw [← e2] at h2
  obtain ⟨p, e3, e4⟩ := has_dL h2
  exact ⟨l, p, e1, e3, e4⟩
/-! ### the object -/
def Mem (H : Hp) (kg : List (Key × V)) (hd : Int → Int) (av : List Addr) (x : Int) (ms : List Int) : Prop := ms.Nodup ∧ (∀ t, t ∈ ms ↔ hd t = x) ∧ ((valV kg (Sum.inl x) = none ∧ ms = [x]) ∨ ∃ a, valV kg (Sum.inl x) = some (.ref a) ∧ H a = some (.lst (ms.map V.int)) ∧ a ∉ av)
structure GO (H : Hp) (C g ld gd : Addr) (N b : Nat) (hd : Int → Int) (av : List Addr) : Prop where
  h : Hd N hd
  ne : ld ≠ gd
  ex : ∃ dx kl kg, H g = some (.ins C dx [("least", .ref ld), ("gathered", .ref gd)]) ∧ H ld = some (.dK kl) ∧ H gd = some (.dK kg) ∧ (∀ t : Int, (valV kl (Sum.inl t)).getD (.int t) = .int (hd t)) ∧ (∀ x : Int, hd x = x → ∃ ms : List Int, Mem H kg hd av x ms) ∧ kl.length ≤ b * N ∧ kg.length ≤ b
theorem GO.same {H H' : Hp} {C g ld gd : Addr} {N b : Nat} {hd : Int → Int} {av : List Addr} (G : GO H C g ld gd N b hd av) (s : Same H H') : GO H' C g ld gd N b hd av := by
  obtain ⟨dx, kl, kg, h1, h2, h3, h4, h5, h6, h7⟩ := G.ex
  refine ⟨G.h, G.ne, dx, kl, kg, s _ _ h1, s _ _ h2, s _ _ h3, h4, fun x hx => ?_, h6, h7⟩
  obtain ⟨ms, m1, m2, m3⟩ := h5 x hx
  refine ⟨ms, m1, m2, ?_⟩
  rcases m3 with m3 | ⟨a, m4, m5⟩
  · exact .inl m3
  · exact .inr ⟨a, m4, s _ _ m5.1, m5.2⟩
theorem GO.mono {H : Hp} {C g ld gd : Addr} {N b b' : Nat} {hd : Int → Int} {av : List Addr} (G : GO H C g ld gd N b hd av) (h : b ≤ b') : GO H C g ld gd N b' hd av := by
  obtain ⟨dx, kl, kg, h1, h2, h3, h4, h5, h6, h7⟩ := G.ex
  exact ⟨G.h, G.ne, dx, kl, kg, h1, h2, h3, h4, h5, Nat.le_trans h6 (Nat.mul_le_mul_right _ h), Nat.le_trans h7 h⟩
/-- all stand but the object's own dicts -/
def SameG (ld gd : Addr) (H H' : Hp) : Prop := ∀ b o, b ≠ ld → b ≠ gd → H b = some o → H' b = some o
theorem SameG.trans {ld gd : Addr} {H H1 H2 : Hp} (a : SameG ld gd H H1) (b : SameG ld gd H1 H2) : SameG ld gd H H2 := fun c o h1 h2 h => b c o h1 h2 (a c o h1 h2 h)
theorem Same.g {ld gd : Addr} {H H' : Hp} (s : Same H H') : SameG ld gd H H' := fun b o _ _ h => s b o h
theorem Same.ofG {ld gd : Addr} {H H1 H2 : Hp} (s : Same H H1) (n1 : H ld = none) (n2 : H gd = none) (x : SameG ld gd H1 H2) : Same H H2 := fun b o hb => x b o (fun e => by rw [e, n1] at hb; cases hb) (fun e => by rw [e, n2] at hb; cases hb) (s b o hb)
theorem mem_len {N : Nat} {hd : Int → Int} (h : Hd N hd) {x : Int} (hx : 0 ≤ x ∧ x < (N : Int)) {ms : List Int} (nd : ms.Nodup) (hm : ∀ t, t ∈ ms ↔ hd t = x) : ms.length ≤ N := by
  refine int_nodup_len N nd fun t ht => ?_
  have e := (hm t).mp ht
  have := h.le t
  by_cases c : hd t = t
  · omega
  · have := h.rng t c
    omega
/-- behind a merge -/
theorem GO.merged {H : Hp} {C g ld gd : Addr} {N b : Nat} {hd : Int → Int} {av : List Addr} {a c : Int} (h : Hd N hd) (ne : ld ≠ gd) (ha : 0 ≤ a ∧ a < (N : Int)) (hc : 0 ≤ c ∧ c < (N : Int)) (nlh : loF (hd a) (hd c) ≠ hiF (hd a) (hd c)) {dx : Addr} {kl kg : List (Key × V)} {p : Addr} {ml mh : List Int}
    (h1 : H g = some (.ins C dx [("least", .ref ld), ("gathered", .ref gd)])) (h2 : H ld = some (.dK kl)) (h3 : H gd = some (.dK (putK kg (Sum.inl (loF (hd a) (hd c))) (.ref p)))) (h4 : ∀ t : Int, (valV kl (Sum.inl t)).getD (.int t) = .int (if t ∈ mh then loF (hd a) (hd c) else hd t))
    (h5 : ∀ x : Int, hd x = x → ∃ ms : List Int, Mem H kg hd av x ms) (l1 : ml.Nodup) (l2 : ∀ t, t ∈ ml ↔ hd t = loF (hd a) (hd c)) (k1 : mh.Nodup) (k2 : ∀ t, t ∈ mh ↔ hd t = hiF (hd a) (hd c)) (hp : H p = some (.lst ((ml ++ mh).map V.int))) (h6 : kl.length ≤ b * N) (h7 : kg.length + 1 ≤ b) (hpa : p ∉ av) : GO H C g ld gd N b (mrg hd a c) av := by
  refine ⟨h.mrg ha hc, ne, dx, kl, _, h1, h2, h3, fun t => ?_, fun x hx => ?_, h6, Nat.le_trans (putK_len _ _ _) h7⟩
  · rw [h4]
    unfold mrg
    by_cases z : hd t = hiF (hd a) (hd c)
    · rw [if_pos ((k2 t).mpr z), if_pos z]
    · rw [if_neg (fun w => z ((k2 t).mp w)), if_neg z]
  · by_cases z : x = loF (hd a) (hd c)
    · subst z
      refine ⟨ml ++ mh, List.nodup_append.mpr ⟨l1, k1, fun u hu v hv e => ?_⟩, fun t => ?_, .inr ⟨p, by rw [valV_put, if_pos rfl], hp, hpa⟩⟩
      · subst e
        have w1 := (l2 u).mp hu
        have w2 := (k2 u).mp hv
        exact nlh (w1.symm.trans w2)
      · rw [List.mem_append, l2, k2]
        unfold mrg
        by_cases w : hd t = hiF (hd a) (hd c)
        · rw [if_pos w]
          exact ⟨fun _ => rfl, fun _ => .inr w⟩
        · rw [if_neg w]
          exact ⟨fun y => y.resolve_right w, .inl⟩
    · have nx : hd x ≠ hiF (hd a) (hd c) := fun w => by
        unfold mrg at hx
        rw [if_pos w] at hx
        exact z hx.symm
      have ex : hd x = x := by
        unfold mrg at hx
        rw [if_neg nx] at hx
        exact hx
      obtain ⟨ms, m1, m2, m3⟩ := h5 x ex
      refine ⟨ms, m1, fun t => ?_, ?_⟩
      · rw [m2]
        unfold mrg
        by_cases w : hd t = hiF (hd a) (hd c)
        · rw [if_pos w]
          exact ⟨fun y => absurd (ex.trans (y.symm.trans w)) nx, fun y => absurd y.symm z⟩
        · rw [if_neg w]
      · rw [valV_put, if_neg (fun y => z (by injection y))]
        exact m3
/-- a new list is kept apart -/
theorem GO.avoid {H : Hp} {C g ld gd : Addr} {N b : Nat} {hd : Int → Int} {av : List Addr} {l : Addr} (G : GO H C g ld gd N b hd av) (n : H l = none) : GO H C g ld gd N b hd (l :: av) := by
  obtain ⟨dx, kl, kg, h1, h2, h3, h4, h5, h6, h7⟩ := G.ex
  refine ⟨G.h, G.ne, dx, kl, kg, h1, h2, h3, h4, fun x hx => ?_, h6, h7⟩
  obtain ⟨ms, m1, m2, m3⟩ := h5 x hx
  refine ⟨ms, m1, m2, ?_⟩
  rcases m3 with m3 | ⟨a, m4, m5, m6⟩
  · exact .inl m3
  · exact .inr ⟨a, m4, m5, fun z => by
      rcases List.mem_cons.mp z with z | z
      · rw [z, n] at m5
        cases m5
      · exact m6 z⟩
theorem GO.sub {H : Hp} {C g ld gd : Addr} {N b : Nat} {hd : Int → Int} {av av' : List Addr} (G : GO H C g ld gd N b hd av) (h : ∀ a ∈ av', a ∈ av) : GO H C g ld gd N b hd av' := by
  obtain ⟨dx, kl, kg, h1, h2, h3, h4, h5, h6, h7⟩ := G.ex
  refine ⟨G.h, G.ne, dx, kl, kg, h1, h2, h3, h4, fun x hx => ?_, h6, h7⟩
  obtain ⟨ms, m1, m2, m3⟩ := h5 x hx
  refine ⟨ms, m1, m2, ?_⟩
  rcases m3 with m3 | ⟨a, m4, m5, m6⟩
  · exact .inl m3
  · exact .inr ⟨a, m4, m5, fun z => m6 (h a z)⟩
/-- what is kept apart may be written -/
theorem GO.put {H : Hp} {C g ld gd : Addr} {N b : Nat} {hd : Int → Int} {av : List Addr} {l : Addr} {o : HO} (G : GO H C g ld gd N b hd av) (hl : l ∈ av ∨ ∀ xs, H l ≠ some (.lst xs)) (ng : l ≠ g) (n1 : l ≠ ld) (n2 : l ≠ gd) : GO (upd H l o) C g ld gd N b hd av := by
  obtain ⟨dx, kl, kg, h1, h2, h3, h4, h5, h6, h7⟩ := G.ex
  refine ⟨G.h, G.ne, dx, kl, kg, by rw [upd_ne (Ne.symm ng)]; exact h1, by rw [upd_ne (Ne.symm n1)]; exact h2, by rw [upd_ne (Ne.symm n2)]; exact h3, h4, fun x hx => ?_, h6, h7⟩
  obtain ⟨ms, m1, m2, m3⟩ := h5 x hx
  refine ⟨ms, m1, m2, ?_⟩
  rcases m3 with m3 | ⟨a, m4, m5, m6⟩
  · exact .inl m3
  · refine .inr ⟨a, m4, ?_, m6⟩
    rw [upd_ne (fun e => by
      rcases hl with hl | hl
      · exact m6 (e ▸ hl)
      · exact hl _ (e ▸ m5))]
    exact m5
end L2

/-! OWN: a dict by its keys in their order. Behind Jn. -/
namespace L2
open PySem
def Kd (H : Hp) (d : Addr) (F : List Int) : Prop := ∃ kvs : List (Key × V), H d = some (.dK kvs) ∧ kvs.map (·.1) = F.map Sum.inl
def addK (F : List Int) (n : Int) : List Int := if n ∈ F then F else F ++ [n]
theorem Kd.same {H H' : Hp} {d : Addr} {F : List Int} (h : Kd H d F) (s : Same H H') : Kd H' d F := by
  obtain ⟨kvs, h1, h2⟩ := h
  exact ⟨kvs, s _ _ h1, h2⟩
/-- what is found while links are gone along -/
structure RS (ls : List Lk) (N : Nat) (s : Int) (F : List Int) : Prop where
  nd : F.Nodup
  st : s ∈ F
  inn : ∀ u ∈ F, (0 ≤ u ∧ u < (N : Int)) ∧ hdL ls u = hdL ls s
theorem RS.len {ls : List Lk} {N : Nat} {s : Int} {F : List Int} (h : RS ls N s F) : F.length ≤ N := int_nodup_len N h.nd fun x hx => (h.inn x hx).1
theorem heads_at {ls : List Lk} {n : Nat} {k : Int} (f : Int → Int) (h0 : 0 ≤ k) (h1 : k < (n : Int)) : atI (((List.range n).map fun i : Nat => f (i : Int)).map V.int) k = some (.int (f k)) := by
  have e : k = ((k.toNat : Nat) : Int) := by omega
  have := atI_ints (ns := (List.range n).map fun i : Nat => f (i : Int)) (i := k.toNat) (n := f k) (by
    rw [List.getElem?_map, List.getElem?_range (by omega)]
    show some (f ((k.toNat : Nat) : Int)) = some (f k)
    rw [← e])
  rw [← e] at this
  exact this
end L2

/-! a dict whose keys are a text and a tuple of ints and texts, by setdefault. Behind Ext15. -/
namespace L2
open PySem PySem.Spec PyProof.Rows
section
variable {P : Program} {w : World}
abbrev Sgn := Str × List Key
def IsSign (P : Program) (w : World) (h : Heap) (k : Sgn) (a : Addr) : Prop :=
  ∃ (o : Obj) (t : Tok) (q : Addr) (n : Nat), h.get? a = some o ∧ o.cls = .type "tuple" ∧ o.data = .seq #[.str k.1 t, .ref q] n ∧ IsTupleKey (mixKind P w) h k.2 q
theorem IsSign.typeIs {s : Shared} {k : Sgn} {a : Addr} (x : IsSign P w s.heap k a) : s.TypeIs (.ref a) "tuple" := let ⟨o, _, _, _, ho, hc, _⟩ := x; ⟨o, ho, hc⟩
theorem IsSign.inj {h : Heap} {a : Addr} {x y : Sgn} (hx : IsSign P w h x a) (hy : IsSign P w h y a) : x = y := by
  obtain ⟨o, t, q, n, ho, _, hd, hi⟩ := hx
  obtain ⟨o', t', q', n', ho', _, hd', hi'⟩ := hy
  cases ho.symm.trans ho'
  have e := hd.symm.trans hd'
  injection e with e _
  have e2 : [Value.str x.1 t, .ref q] = [Value.str y.1 t', .ref q'] := congrArg Array.toList e
  injection e2 with e3 e4
  injection e3 with e5 _
  injection e4 with e6 _
  injection e6 with e7
  subst e7
  exact Prod.ext e5 (hi.inj hi')
theorem IsSign.keeps {h h' : Heap} {k : Sgn} {a d : Addr} {o : Obj} {es ep} (x : IsSign P w h k a) (ho : h.get? d = some o) (hd : o.data = .dict es ep) (hs : Heap.SameBut d h h') : IsSign P w h' k a := by
  obtain ⟨o', t, q, n, ho', hc, hd', hi⟩ := x
  have hne : a ≠ d := by
    rintro rfl
    cases ho'.symm.trans ho
    rw [hd] at hd'
    exact nomatch hd'
  exact ⟨o', t, q, n, (hs.2 a hne).trans ho', hc, hd', hi.keeps ho hd hs⟩
def signHash (P : Program) (w : World) (k : Sgn) : Int := reduceHash (Builtin.Tuple.tupleHashOf [(mixKind P w).hash (.inr k.1), tupleKeyHash (mixKind P w) k.2])
variable {A : Around} {E : Value → Shared → Prop} {s : Shared}
theorem sign_hash {k : Sgn} {a : Addr} {Q : Int → Shared → Prop} (hu : A.units + 10 < cLine) (hk : IsSign P w s.heap k a) (h : Q (signHash P w k) { s with toks := s.toks + (k.2.length + 3) }) :
    wpAny (model P w) A (pyHash (.ref a)) Q E s := by
  have hT := hk.typeIs
  obtain ⟨o, t, q, n, ho, _, hd, hi⟩ := hk
  unfold pyHash
  first | unfold pyHashByItsType | skip
  first | refine wpAny_bind (wpAny_cRoomFor_or (.inr (by omega)) ?_) | skip
  refine wpAny_bind (wpAny_specialOf hT F.slot_tuple_hash.lookup ?_)
  show wpAny _ _ (if (some (Value.builtin "tuple.__hash__") == some Value.none) = true then _ else _) Q E s
  rw [if_neg (by rw [beq_builtin_none]; exact Bool.false_ne_true)]
  refine wpAny_bind (wpAny_specialOf hT F.slot_tuple_hash.lookup ?_)
  show wpAny _ _ (callSpecialIfBoundUnlessNone? (.ref a) "__hash__" _ >>= _) Q E s
  refine wpAny_bind (wpAny_callSpecialIfBoundUnlessNone?_slot hT F.slot_tuple_hash (wpAny_call_entry F.slot_tuple_hash hT F.entry_tuple_hash ?_ (F.args_tuple_hash_1 _)))
  show wpAny _ _ (Builtin.Tuple.tupleItemsOf (.ref a) >>= _) _ _ s
  refine wpAny_bind (wpAny_tupleItemsOf ho hd ?_)
  refine wpAny_bind ?_
  rw [← Array.forIn_toList]
  refine wpAny_forIn_list _
    (fun rest (b : Array Int) s' => (rest = [.str k.1 t, .ref q] ∧ b = #[] ∧ s' = s) ∨ (rest = [.ref q] ∧ b = #[(mixKind P w).hash (.inr k.1)] ∧ s' = { s with toks := s.toks + 1 }) ∨
      (rest = [] ∧ b = #[(mixKind P w).hash (.inr k.1), tupleKeyHash (mixKind P w) k.2] ∧ s' = { s with toks := s.toks + 1 + (k.2.length + 1) }))
    _ ?_ ?_ _ _ (.inl ⟨rfl, rfl, rfl⟩)
  · rintro x rest b s' (⟨e, rfl, rfl⟩ | ⟨e, rfl, rfl⟩ | ⟨e, rfl, rfl⟩)
    · injection e with e1 e2
      subst e1 e2
      refine wpAny_bind ((mixKind P w).pyHash (k := .inr k.1) (mixKind_str P w k.1 t) ?_)
      first
        | exact wpAny_pure (.inr (.inl ⟨rfl, rfl, rfl⟩))
        | exact wpAny_bind (wpAny_pure (wpAny_pure (.inr (.inl ⟨rfl, rfl, rfl⟩))))
    · injection e with e1 e2
      subst e1 e2
      refine wpAny_bind (wpAny_pyHash_tuple (knd := mixKind P w) (ks := k.2) (by show A.units + 1 < cLine; omega) hi ?_)
      first
        | exact wpAny_pure (.inr (.inr ⟨rfl, rfl, rfl⟩))
        | exact wpAny_bind (wpAny_pure (wpAny_pure (.inr (.inr ⟨rfl, rfl, rfl⟩))))
    · exact nomatch e
  · rintro b s' (⟨e, rfl, rfl⟩ | ⟨e, rfl, rfl⟩ | ⟨e, rfl, rfl⟩)
    · exact nomatch e
    · exact nomatch e
    show wpAny _ _ (retInt (Builtin.Tuple.tupleHashOf [(mixKind P w).hash (.inr k.1), tupleKeyHash (mixKind P w) k.2])) _ _ _
    refine wpAny_ret_mkInt ?_
    have ht : s.toks + (k.2.length + 3) = s.toks + 1 + (k.2.length + 1) + 1 := by omega
    rw [ht] at h
    unfold signHash reduceHash at h
    generalize Builtin.Tuple.tupleHashOf [(mixKind P w).hash (.inr k.1), tupleKeyHash (mixKind P w) k.2] = z at h ⊢
    show wpAny _ _ (if (decide (-(2 : Int) ^ 63 ≤ z) && decide (z < 2 ^ 63)) = true then _ else _) Q E _
    by_cases hr : (decide (-(2 : Int) ^ 63 ≤ z) && decide (z < 2 ^ 63)) = true
    · rw [if_pos hr]
      rw [if_pos hr] at h
      exact wpAny_pure h
    · rw [if_neg hr]
      rw [if_neg hr] at h
      exact wpAny_bind (wpAny_rule (wpAny_pure h))
theorem sign_eq_tree {x y : Sgn} {a b : Addr} {R : Fin → Shared → Prop} (hu : A.units + 5 < cLine) (hx : IsSign P w s.heap x a) (hy : IsSign P w s.heap y b) (h : R (.done (.ret (.bool (decide (x = y))))) s) :
    wpAny (model P w) A (Builtin.«tuple.__eq__» ⟨[.ref a, .ref b], []⟩) R E s := by
  have hTb := hy.typeIs
  obtain ⟨oa, ta, qa, na, hoa, _, hda, hia⟩ := hx
  obtain ⟨ob, tb, qb, nb, hob, _, hdb, hib⟩ := hy
  show wpAny _ _ (isInstance (.ref b) (.type "tuple") >>= _) _ _ s
  refine wpAny_bind (wpAny_isInstance hTb isSubtype_tuple_tuple ?_)
  simp only [Bool.not_true, Bool.false_eq_true, if_false]
  refine wpAny_bind (wpAny_tupleItemsOf hoa hda ?_)
  refine wpAny_bind (wpAny_tupleItemsOf hob hdb ?_)
  refine wpAny_bind ?_
  refine wpAny_forIn_list _
    (fun rest r s' => r.1 = none ∧ s' = s ∧ ((rest = [(.str x.1 ta, .str y.1 tb), (.ref qa, .ref qb)]) ∨ (rest = [(.ref qa, .ref qb)] ∧ x.1 = y.1) ∨ (rest = [] ∧ x = y)))
    _ ?_ ?_ _ _ ⟨rfl, rfl, .inl rfl⟩
  · rintro ⟨u, v⟩ rest r s' ⟨hr, rfl, e | ⟨e, e1⟩ | ⟨e, e1⟩⟩
    · injection e with e2 e3
      injection e2 with e4 e5
      subst e3 e4 e5
      refine wpAny_bind ((mixKind P w).eqBool (a := .inr x.1) (b := .inr y.1) (mixKind_str P w x.1 ta) (mixKind_str P w y.1 tb) ?_)
      by_cases hk : x.1 = y.1
      · rw [decide_eq_true (show (Sum.inr x.1 : Key) = .inr y.1 by rw [hk])]
        simp only [Bool.not_true, Bool.false_eq_true, if_false]
        exact wpAny_pure ⟨by trivial, by trivial, .inr (.inl ⟨by trivial, hk⟩)⟩
      · rw [decide_eq_false (show ¬ (Sum.inr x.1 : Key) = .inr y.1 from fun z => hk (Sum.inr.inj z))]
        simp only [Bool.not_false, if_true]
        rw [decide_eq_false (show ¬ x = y from fun z => hk (by rw [z]))] at h
        exact wpAny_bind (wpAny_pure (wpAny_pure (wpAny_pure h)))
    · injection e with e2 e3
      injection e2 with e4 e5
      subst e3 e4 e5
      refine wpAny_bind (wpAny_eqBool_tuple (knd := mixKind P w) (x := x.2) (y := y.2) (by omega) hia hib ?_)
      by_cases hk : x.2 = y.2
      · rw [decide_eq_true hk]
        simp only [Bool.not_true, Bool.false_eq_true, if_false]
        exact wpAny_pure ⟨by trivial, by trivial, .inr (.inr ⟨by trivial, Prod.ext e1 hk⟩)⟩
      · rw [decide_eq_false hk]
        simp only [Bool.not_false, if_true]
        rw [decide_eq_false (show ¬ x = y from fun z => hk (by rw [z]))] at h
        exact wpAny_bind (wpAny_pure (wpAny_pure (wpAny_pure h)))
    · exact nomatch e
  · rintro ⟨r1, r2⟩ s' ⟨hr, rfl, e | ⟨e, e1⟩ | ⟨e, e1⟩⟩
    · exact nomatch e
    · exact nomatch e
    simp only at hr
    subst hr
    refine wpAny_pure ?_
    rw [decide_eq_true e1] at h
    exact h
theorem sign_eq {x y : Sgn} {a b : Addr} {Q : Bool → Shared → Prop} (hu : A.units + 10 < cLine) (hx : IsSign P w s.heap x a) (hy : IsSign P w s.heap y b) (h : Q (decide (x = y)) s) :
    wpAny (model P w) A (eqBool (.ref a) (.ref b)) Q E s := by
  unfold eqBool
  try with_reducible refine wpAny_holding ?_
  show wpAny _ _ (if (Value.ref a == Value.ref b) = true then _ else _) Q E s
  by_cases hab : (Value.ref a == Value.ref b) = true
  · rw [if_pos hab]
    have e : a = b := by have := eq_of_beq hab; injection this
    subst e
    cases hx.inj hy
    exact wpAny_bind (wpAny_rule (wpAny_pure (by simpa using h)))
  · rw [if_neg hab]
    exact wpAny_bind (wpAny_richCompare_same_room (op := .Eq) hx.typeIs hy.typeIs F.slot_tuple_eq
      (wpAny_call_entry F.slot_tuple_eq hx.typeIs F.entry_tuple_eq (sign_eq_tree (by show A.units + 1 + 5 < cLine; omega) hx hy ⟨_, rfl, (fun e => nomatch e), wpAny_truthy_bool h⟩) (F.args_tuple_eq_2 _ _)) (by omega))
theorem quiet7 {ks : List Key} {a : Addr} {Q : Bool → Shared → Prop} (hk : IsTupleKey (mixKind P w) s.heap ks a) (h : Q true s) : wpAny (model P w) A (eqIsQuiet 7 (.ref a)) Q E s := by
  have hT := hk.typeIs
  obtain ⟨o, items, n, ho, _, hd, hi⟩ := hk
  unfold eqIsQuiet
  refine wpAny_bind (wpAny_specialOf hT F.slot_tuple_eq.lookup ?_)
  show wpAny _ _ (isInstance (.ref a) (.type "tuple") >>= _) _ _ s
  refine wpAny_bind (wpAny_isInstance hT isSubtype_tuple_tuple ?_)
  simp only [Bool.not_true, Bool.false_eq_true, if_false]
  refine wpAny_bind (wpAny_seqItems ho hd ?_)
  refine wpAny_bind ?_
  show wpAny _ _ (forIn items _ _) _ _ s
  rw [← Array.forIn_toList]
  refine wpAny_forIn_list _ (fun rest r s' => r.1 = none ∧ s' = s ∧ ∀ v ∈ rest, carriedByValue v = true) _ ?_ ?_ _ _ ⟨rfl, rfl, hi.byValue⟩
  · rintro v rest r s' ⟨hr, rfl, hall⟩
    rw [eqIsQuiet_byValue _ (hall v List.mem_cons_self)]
    refine wpAny_bind (wpAny_pure ?_)
    simp only [Bool.not_true, Bool.false_eq_true, if_false]
    exact wpAny_pure ⟨rfl, rfl, fun u hu' => hall u (List.mem_cons_of_mem _ hu')⟩
  · rintro ⟨r1, r2⟩ s' ⟨hr, rfl, _⟩
    simp only at hr
    subst hr
    exact wpAny_pure h
theorem sign_quiet {k : Sgn} {a : Addr} {Q : Bool → Shared → Prop} (hk : IsSign P w s.heap k a) (h : Q true s) : wpAny (model P w) A (eqIsQuiet 8 (.ref a)) Q E s := by
  have hT := hk.typeIs
  obtain ⟨o, t, q, n, ho, _, hd, hi⟩ := hk
  unfold eqIsQuiet
  refine wpAny_bind (wpAny_specialOf hT F.slot_tuple_eq.lookup ?_)
  show wpAny _ _ (isInstance (.ref a) (.type "tuple") >>= _) _ _ s
  refine wpAny_bind (wpAny_isInstance hT isSubtype_tuple_tuple ?_)
  simp only [Bool.not_true, Bool.false_eq_true, if_false]
  refine wpAny_bind (wpAny_seqItems ho hd ?_)
  refine wpAny_bind ?_
  show wpAny _ _ (forIn #[Value.str k.1 t, .ref q] _ _) _ _ s
  rw [← Array.forIn_toList]
  refine wpAny_forIn_list _ (fun rest r s' => r.1 = none ∧ s' = s ∧ ∀ v ∈ rest, carriedByValue v = true ∨ v = .ref q) _ ?_ ?_ _ _ ⟨rfl, rfl, fun v hv => ?_⟩
  · rintro v rest r s' ⟨hr, rfl, hall⟩
    rcases hall v List.mem_cons_self with hv | rfl
    · rw [eqIsQuiet_byValue _ hv]
      refine wpAny_bind (wpAny_pure ?_)
      simp only [Bool.not_true, Bool.false_eq_true, if_false]
      exact wpAny_pure ⟨rfl, rfl, fun u hu' => hall u (List.mem_cons_of_mem _ hu')⟩
    · refine wpAny_bind (quiet7 hi ?_)
      simp only [Bool.not_true, Bool.false_eq_true, if_false]
      exact wpAny_pure ⟨rfl, rfl, fun u hu' => hall u (List.mem_cons_of_mem _ hu')⟩
  · rintro ⟨r1, r2⟩ s' ⟨hr, rfl, _⟩
    simp only at hr
    subst hr
    exact wpAny_pure h
  · rcases List.mem_cons.mp hv with rfl | hv
    · exact .inl rfl
    · exact .inr (List.mem_singleton.mp hv)
end
def signKind (P : Program) (w : World) : HeapKind P w Sgn where
  is := IsSign P w
  hash := signHash P w
  draws := fun k => k.2.length + 3
  room := fun A => A.units + 10 < cLine
  inj := fun hx hy => hx.inj hy
  keeps := fun x ho hd hs => x.keeps ho hd hs
  pyHash := fun hu hk h => sign_hash hu hk h
  eqBool := fun hu hx hy h => sign_eq hu hx hy h
  quiet := fun hk h => sign_quiet hk h
section
variable {prog : Program} {w : World} {K : Type} [DecidableEq K] {knd : HeapKind prog w K} {A : Around} {E : Value → Shared → Prop} {s : Shared}
theorem setDefault_heap {d a : Addr} {xs : List (K × Addr × Value)} {k : K} {dflt : Value} {Q : Value → Shared → Prop} (hu : knd.room A) (hkey : knd.is s.heap k a) (hm : s.heap.DictOfH knd d xs)
    (h1 : ∀ p, atKey xs k = some p → Q p.2 { s with toks := s.toks + knd.draws k })
    (h2 : atKey xs k = none → ∀ h', h'.DictOfH knd d (xs ++ [(k, a, dflt)]) → Heap.SameBut d s.heap h' → Q dflt { s with heap := h', toks := s.toks + knd.draws k })
    (hsz : xs.length ≤ sizeLine) : wpAny (model prog w) A (dictSetDefault d (.ref a) dflt) Q E s := by
  obtain ⟨o, es, ep, ho, hc, hd, he, his, hn⟩ := hm
  unfold dictSetDefault
  try with_reducible refine wpAny_holding ?_
  refine wpAny_bind (knd.pyHash hu hkey ?_)
  refine wpAny_bind (wpAny_dictFind_heap (s := { s with toks := s.toks + knd.draws k }) hu hkey ho hd he his hn ?_ ?_)
  · intro hno
    have hnot : k ∉ xs.map (·.1) := not_mem_keys_of_get hno
    refine wpAny_bind (wpAny_rule (wpAny_bind (wpAny_updateDictKeys (hz := by have e := size_of_entries he; omega) (s := { s with toks := s.toks + knd.draws k }) ho hd (wpAny_pure (h2 (atKey_none_of_get hno) _ ⟨_, _, ep + 1, Heap.get?_update_self _ ho (Obj.isFreed_of_dict (Obj.data_mapDictKeys hd _)),
      hc.mapDictKeys _, Obj.data_mapDictKeys hd _, ?_, ?_, ?_⟩ (Heap.SameBut.update ..))))))
    · simp [he, entryOfKey]
    · intro x hx
      rcases List.mem_append.mp hx with hx | hx
      · exact knd.keeps (his x hx) ho hd (Heap.SameBut.update ..)
      · simp only [List.mem_singleton] at hx
        subst hx
        exact knd.keeps hkey ho hd (Heap.SameBut.update ..)
    · rw [List.map_append, List.nodup_append]
      refine ⟨hn, by simp, ?_⟩
      intro x hx y hy
      simp only [List.map_cons, List.map_nil, List.mem_singleton] at hy
      subst hy
      exact fun e => hnot (e ▸ hx)
  · intro j p hj
    refine wpAny_bind (wpAny_dictEntries (s := { s with toks := s.toks + knd.draws k }) ho hd ?_)
    rw [entry_at he j, hj]
    exact wpAny_bind (wpAny_rule (wpAny_pure (h1 p (atKey_of_get hn hj))))
theorem meetsH_setdefault (knd : HeapKind prog w K) (d a : Addr) (hd : (d == sysModules) = false) (dflt : Value) :
    MeetsIn prog w (Builtin.«dict.setdefault» ⟨[.ref d, .ref a, dflt], []⟩) (fun A R s => knd.room A.in1 ∧ ∃ k xs, knd.is s.heap k a ∧ s.heap.DictOfH knd d xs ∧ xs.length ≤ sizeLine ∧
      (∀ p, atKey xs k = some p → R (.ok (.ret p.2)) { s with toks := s.toks + knd.draws k }) ∧
      (atKey xs k = none → ∀ h', h'.DictOfH knd d (xs ++ [(k, a, dflt)]) → Heap.SameBut d s.heap h' → R (.ok (.ret dflt)) { s with heap := h', toks := s.toks + knd.draws k })) :=
  .of_wp fun A R s ⟨hu, k, xs, hkey, hm, hz, h1, h2⟩ => by
    unfold Builtin.«dict.setdefault»
    refine wpAny_bind ?_
    unfold Builtin.Dict.keyAndDefault
    refine wpAny_bind (wpAny_notOrdered_dict hm.typeIs ?_)
    show wpAny _ _ (pure (d, Value.ref a, some dflt)) _ _ s
    refine wpAny_pure ?_
    show wpAny _ _ (if (d == sysModules) = true then _ else (dictSetDefault d (.ref a) dflt >>= _)) _ _ s
    rw [if_neg (by rw [hd]; exact Bool.false_ne_true)]
    exact wpAny_bind (setDefault_heap hu hkey hm (fun p hp => wpAny_pure ⟨p.2, rfl, h1 p hp⟩) (fun hn h' hm' hs' => wpAny_pure ⟨dflt, rfl, h2 hn h' hm' hs'⟩) hz)
end
end L2

/-! setdefault of a dict by signs: the rule. Behind Ext16. -/
namespace L2
open PySem PySem.Spec PyProof.Rows
abbrev SE := Sgn × Addr × V
def relS (p : SE) (q : Sgn × Addr × Value) : Prop := p.1 = q.1 ∧ p.2.1 = q.2.1 ∧ RelV p.2.2 q.2.2
def SDict (P : Program) (w : World) (a : Addr) (kvs : List SE) : HO := .ext fun h => (a == sysModules) = false ∧ ∃ xs : List (Sgn × Addr × Value), Paired relS kvs xs ∧
  ∃ o es ep, h.get? a = some o ∧ o.ExactDict ∧ o.data = .dict es ep ∧ es.toList = xs.map (entryOfKey (signKind P w)) ∧ (xs.map (·.1)).Nodup
def SD (P : Program) (w : World) (H : Hp) (a : Addr) (kvs : List SE) : Prop := (H a = some (.dK []) ∧ kvs = []) ∨ H a = some (SDict P w a kvs)
def SgnAt (K : PySem.W.Frag) (H : Hp) (k : Sgn) (p : Addr) : Prop := ∃ q, SqT K H p [.str k.1, .ref q] ∧ SqT K H q (k.2.map kV)
def atS (kvs : List SE) (k : Sgn) : Option SE := kvs.find? fun e => decide (e.1 = k)
theorem paired_atS {kvs : List SE} {xs : List (Sgn × Addr × Value)} (r : Paired relS kvs xs) (k : Sgn) :
    (∃ e q, atS kvs k = some e ∧ atKey xs k = some q ∧ RelV e.2.2 q.2) ∨ (atS kvs k = none ∧ atKey xs k = none) := by
  induction r with
  | nil => exact .inr ⟨rfl, rfl⟩
  | @cons p q ps qs h t ih =>
    by_cases hk : p.1 = k
    · refine .inl ⟨p, q.2, ?_, ?_, h.2.2⟩
      · unfold atS
        rw [List.find?_cons_of_pos (by exact decide_eq_true hk)]
      · unfold atKey
        rw [List.find?_cons_of_pos (by exact decide_eq_true (h.1.symm.trans hk))]
        rfl
    · have e1 : atS (p :: ps) k = atS ps k := by
        unfold atS
        rw [List.find?_cons_of_neg (by simpa using hk)]
      have e2 : atKey (q :: qs) k = atKey qs k := by
        unfold atKey
        rw [List.find?_cons_of_neg (by simpa using fun z => hk (h.1.trans z))]
      rw [e1, e2]
      exact ih
section
variable {X : Cx}
theorem sgn_of {P : Program} {w : World} {pins : List (Addr × Obj)} {σ : St} {H : Hp} {s : Shared} {k : Sgn} {p : Addr} (I : Inv X pins σ H s) (h : SgnAt X.K H k p) : IsSign P w s.heap k p := by
  obtain ⟨q, h1, h2⟩ := h
  obtain ⟨its, r, ⟨o, e1, e2, n, e3⟩, _⟩ := I.tuple h1
  obtain ⟨js, r2, ⟨o2, f1, f2, n2, f3⟩, _⟩ := I.tuple h2
  cases r with
  | cons ra t =>
    cases t with
    | cons rb t =>
      cases t
      obtain ⟨tk, rfl⟩ := ra
      cases rb
      exact ⟨o, tk, q, n, e1, e2, e3, o2, js.toArray, n2, f1, f2, f3, by simpa using items_are r2⟩
def rSetd (P : Program) (w : World) (K : PySem.W.Frag) : V → List V → Hp → VK → Prop := fun x vs H Q => ∃ d p k v kvs, x = .ref d ∧ vs = [.ref p, v] ∧ SD P w H d kvs ∧ kvs.length < sizeLine ∧ (∀ e ∈ kvs, SgnAt K H e.1 e.2.1) ∧ SgnAt K H k p ∧
  ((∃ e, atS kvs k = some e ∧ Q e.2.2 H) ∨ (atS kvs k = none ∧ Q v (upd H d (SDict P w d (kvs ++ [(k, p, v)])))))
theorem mt_setd (hu : X.A.units + 64 < cLine) : MtR X "dict.setdefault" (rSetd X.prog X.w X.K) := by
  intro pins s σ H x vs v us Q I rx rv h
  obtain ⟨d, p, k, y, kvs, rfl, rfl, hd, hz, hks, hk, q⟩ := h
  cases rx
  cases rv with
  | cons rp t =>
  cases t with
  | @cons _ y' _ _ ry t =>
  cases t
  cases rp
  have got : (d == sysModules) = false ∧ Mut (H d) ∧ ∃ xs : List (Sgn × Addr × Value), Paired relS kvs xs ∧
      ∃ o es ep, s.heap.get? d = some o ∧ o.ExactDict ∧ o.data = .dict es ep ∧ es.toList = xs.map (entryOfKey (signKind X.prog X.w)) ∧ (xs.map (·.1)).Nodup := by
    rcases hd with ⟨e, rfl⟩ | e
    · obtain ⟨z, sy, ws, rel, o, es, ep, h1, h2, h3, h4, h5, h6⟩ := dk_of I.hok e
      cases rel
      refine ⟨sy, by rw [e]; exact True.intro, [], .nil, o, es, ep, h1, h2, h3, ?_, List.nodup_nil⟩
      cases es with
      | mk l =>
        cases l with
        | nil => rfl
        | cons a r => exact absurd h5 (by intro z; cases z)
    · obtain ⟨⟨sy, xs, r⟩, _⟩ := I.hok d _ e
      exact ⟨sy, by rw [e]; exact True.intro, xs, r⟩
  obtain ⟨sy, mu, xs, rel, o, es, ep, h1, h2, h3, h4, h5⟩ := got
  have all : ∀ x ∈ xs, (signKind X.prog X.w).is s.heap x.1 x.2.1 := by
    clear q h4 h5 hz hd
    induction rel with
    | nil => intro x hx; exact nomatch hx
    | @cons a b as bs r t ih =>
      intro x hx
      rcases List.mem_cons.mp hx with rfl | hx
      · have := hks a List.mem_cons_self
        rw [r.1, r.2.1] at this
        exact sgn_of I this
      · exact ih (fun e he => hks e (List.mem_cons_of_mem _ he)) x hx
  have dd : s.heap.DictOfH (signKind X.prog X.w) d xs := ⟨o, es, ep, h1, h2, h3, h4, all, h5⟩
  have ll := Paired.length rel
  refine call_meetsIn PySem.F.slot_dict_setdefault dd.typeIs PySem.F.entry_dict_setdefault (PySem.F.args_dict_setdefault_3 _ _ _) (meetsH_setdefault (signKind X.prog X.w) d p sy y')
    ⟨(by show X.A.units + 1 + 10 < cLine; omega), k, xs, sgn_of I hk, dd, by omega, fun u hu' => ?_, fun hn h' dd' hs => ?_⟩
  · rcases paired_atS rel k with ⟨e, u2, e1, e2, r2⟩ | ⟨_, e2⟩
    · cases hu'.symm.trans e2
      rcases q with ⟨e', q1, q2⟩ | ⟨q1, _⟩
      · cases q1.symm.trans e1
        exact ⟨_, H, I.tok _, r2, q2⟩
      · rw [q1] at e1
        exact nomatch e1
    · rw [hu'] at e2
      exact nomatch e2
  · rcases paired_atS rel k with ⟨e, u2, e1, e2, r2⟩ | ⟨e1, e2⟩
    · rw [hn] at e2
      exact nomatch e2
    rcases q with ⟨e', q1, q2⟩ | ⟨_, q2⟩
    · rw [q1] at e1
      exact nomatch e1
    obtain ⟨o', es', ep', g1, g2, g3, g4, g5, g6⟩ := dd'
    have new : ObjOk X.prog X.w (upd H d (SDict X.prog X.w d (kvs ++ [(k, p, y)]))) h' d (SDict X.prog X.w d (kvs ++ [(k, p, y)])) := by
      refine ⟨⟨sy, _, ?_, o', es', ep', g1, g2, g3, g4, g6⟩, ⟨_, g1⟩, fun a b z kp => ?_⟩
      · have app : ∀ {as : List SE} {bs : List (Sgn × Addr × Value)}, Paired relS as bs → Paired relS (as ++ [(k, p, y)]) (bs ++ [(k, p, y')]) := by
          intro as bs r
          induction r with
          | nil => exact .cons ⟨rfl, rfl, ry⟩ .nil
          | cons r t ih => exact .cons r ih
        exact app rel
      · obtain ⟨z1, ys, z2, o2, es2, ep2, z3, z4⟩ := z
        exact ⟨z1, ys, z2, o2, es2, ep2, kp _ z3, z4⟩
    exact ⟨y, _, d_write I mu hs ⟨_, g1⟩ new, ry, q2⟩
theorem sd_is {pins : List (Addr × Obj)} {σ : St} {H : Hp} {s : Shared} {d : Addr} {kvs : List SE} (I : Inv X pins σ H s) (h : SD X.prog X.w H d kvs) :
    s.TypeIs (.ref d) "dict" ∧ ∀ a, Value.ref d = .ref a → ∃ ob, s.heap.get? a = some ob ∧ ob.dict = none := by
  have z : ∃ o, s.heap.get? d = some o ∧ o.ExactDict := by
    rcases h with ⟨e, _⟩ | e
    · obtain ⟨_, _, _, _, o, _, _, e1, ex, _⟩ := I.hok d _ e
      exact ⟨o, e1, ex⟩
    · obtain ⟨⟨_, _, _, o, _, _, e1, ex, _⟩, _⟩ := I.hok d _ e
      exact ⟨o, e1, ex⟩
  obtain ⟨o, e, ex⟩ := z
  refine ⟨⟨o, e, ex.1⟩, fun a e2 => ?_⟩
  cases e2
  exact ⟨o, e, ex.2.1⟩
def tSetd (P : Program) (w : World) (K : PySem.W.Frag) (to : TE) (t : TA) : TE := fun σ H Q => to σ H fun x H1 => (∃ d kvs, x = .ref d ∧ SD P w H1 d kvs) ∧ t σ H1 fun xs H2 => rSetd P w K x xs H2 Q
theorem pe_setd {o e : Expr} {es : List Expr} {to : TE} {t : TA} {apos cpos : Pos} (hu : X.A.units + 64 < cLine) (ho : PE X o to) (ha : PA X (e :: es) t)
    (hbase : attributeBase o "setdefault" X.env (eval o X.env) = eval o X.env := by rfl)
    (hfew : ((backTo cpos (starEach (e :: es) X.env)).all (fun x => !x.1) && (backToKw cpos (keywordEach [] X.env)).all (fun x => x.1.isSome)
      && decide ((e :: es).length + ([] : List Keyword).length + (if ([] : List Keyword).isEmpty then 0 else 1) < 30)) = true := by rfl)
    (hline : (apos.endLine == cpos.line) = true := by rfl) (hs : starEach (e :: es) X.env = (false, eval e X.env) :: starEach es X.env := by rfl) (hplain : (backTo cpos (starEach es X.env)).any (·.1) = false := by rfl) :
    PE X (.Call (.Attribute o "setdefault" apos) (e :: es) [] cpos) (tSetd X.prog X.w X.K to t) := by
  intro pins s σ H Q I h
  refine wpAny_Call_method_late hbase hfew hline rfl (thn (ho pins s σ H _ I h) fun v s1 ⟨x, H1, I1, r1, ⟨d, kvs, ex, sd⟩, q1⟩ => ?_)
  subst ex
  cases r1
  obtain ⟨h1, h2⟩ := sd_is I1 sd
  refine ⟨"dict", "dict.setdefault", PySem.F.plainAttrs_dict, PySem.F.slot_dict_setdefault, PySem.F.type_dict_setdefault, h1, h2, ?_⟩
  have hA := ha cpos pins s1 σ H1 _ I1 q1
  rw [hs] at hA ⊢
  refine Calls.callWith_builtin (by show (false || (backTo cpos (starEach es X.env)).any (·.1)) = false; rw [hplain] <;> rfl) (Calls.evalArgs_plain ?_)
  exact thn hA fun us s2 ⟨vs, H2, I2, r2, q2⟩ => mt_setd hu pins s2 σ H2 (.ref d) vs (.ref d) us Q I2 rfl r2 q2
end
end L2

/-! OWN: terms; links that are right one by one; heads that are closed. Behind Jn2, Ext17. -/
namespace L2
open PySem
abbrev Tm := Str × List Int
def dTm (t : Tm) : Dt := .tup [.str t.1, .tup (t.2.map Dt.int)]
theorem has_dTm {K : PySem.W.Frag} {H : Hp} {t : Tm} {v : V} (h : Has K H (dTm t) v) : ∃ p q, v = .ref p ∧ SqT K H p [.str t.1, .ref q] ∧ SqT K H q (t.2.map V.int) := by
  obtain ⟨a, xs, rfl, h1, h2⟩ := h
  obtain ⟨v1, r1, e1, g1, h3⟩ := h2
  obtain ⟨v2, r2, e2, g2, h4⟩ := h3
  cases e1
  cases e2
  have e3 : r2 = [] := by
    have := HasL.length h4
    exact List.length_eq_zero_iff.mp this.symm
  subst e3
  have e4 : v1 = .str t.1 := g1
  subst e4
  obtain ⟨b, ys, rfl, k1, k2⟩ := g2
  rw [hasl_ints k2] at k1
  exact ⟨a, b, rfl, h1, k1⟩
theorem of_dTm {K : PySem.W.Frag} {H : Hp} {t : Tm} {p q : Addr} (h : SqT K H p [.str t.1, .ref q]) (h2 : SqT K H q (t.2.map V.int)) : Has K H (dTm t) (.ref p) := Has.tup' h (.cons Has.str' (.cons (Has.tup' h2 (HasL.ints _)) .nil))
theorem nols_dTm : ∀ ts : List Tm, nols (ts.map dTm) = true
  | [] => by simp [nols]
  | t :: ts => by
    simp only [List.map_cons, nols, dTm, nol, Bool.true_and, Bool.and_eq_true]
    exact ⟨⟨nolsInts _, trivial⟩, nols_dTm ts⟩
theorem deps_dTm : ∀ ts : List Tm, deps (ts.map dTm) ≤ 2
  | [] => by simp [deps]
  | t :: ts => by
    have h := deps_dTm ts
    simp only [List.map_cons, deps, dTm, dep, depsInts]
    omega
theorem tm_at {K : PySem.W.Frag} {H : Hp} {ts : List Tm} {xs : List V} {i : Nat} {x : V} (h : HasL K H (ts.map dTm) xs) (e : xs[i]? = some x) : ∃ t p q, ts[i]? = some t ∧ x = .ref p ∧ SqT K H p [.str t.1, .ref q] ∧ SqT K H q (t.2.map V.int) := by
  obtain ⟨d, h1, h2⟩ := h.get e
  rw [List.getElem?_map] at h1
  obtain ⟨t, e1, e2⟩ := Option.map_eq_some_iff.mp h1
  rw [← e2] at h2
  obtain ⟨p, q, e3, e4, e5⟩ := has_dTm h2
  exact ⟨t, p, q, e1, e3, e4, e5⟩
/-! ### links that are right -/
def AlikeT (ts : List Tm) (hd : Int → Int) (a b : Int) : Prop := ∃ t u, ts[a.toNat]? = some t ∧ ts[b.toNat]? = some u ∧ t.1 = u.1 ∧ t.2.map hd = u.2.map hd
structure LkOk (ts : List Tm) (gs : List (Int × Int)) (pre : List Lk) (l : Lk) : Prop where
  a : 0 ≤ l.1 ∧ l.1 < (ts.length : Int)
  b : 0 ≤ l.2.1 ∧ l.2.1 < (ts.length : Int)
  new : hdL pre l.1 ≠ hdL pre l.2.1
  how : (0 ≤ l.2.2 ∧ gs[l.2.2.toNat]? = some (l.1, l.2.1)) ∨ (l.2.2 = -1 ∧ AlikeT ts (hdL pre) l.1 l.2.1)
def RightL (ts : List Tm) (gs : List (Int × Int)) (ls : List Lk) : Prop := ∀ i l, ls[i]? = some l → LkOk ts gs (ls.take i) l
theorem RightL.nil (ts : List Tm) (gs : List (Int × Int)) : RightL ts gs [] := fun i l h => by simp at h
theorem RightL.snoc {ts : List Tm} {gs : List (Int × Int)} {ls : List Lk} {l : Lk} (h : RightL ts gs ls) (k : LkOk ts gs ls l) : RightL ts gs (ls ++ [l]) := fun i m hm => by
  have lt := (List.getElem?_eq_some_iff.mp hm).1
  rw [List.length_append] at lt
  have lt : i < ls.length + 1 := lt
  by_cases c : i < ls.length
  · rw [List.getElem?_append_left c] at hm
    rw [List.take_append_of_le_length (by omega)]
    exact h i m hm
  · have e : i = ls.length := by omega
    subst e
    rw [List.getElem?_append_right (Nat.le_refl _), Nat.sub_self] at hm
    cases hm
    rw [List.take_append_of_le_length (Nat.le_refl _), List.take_length]
    exact k
theorem RightL.inn {ts : List Tm} {gs : List (Int × Int)} {ls : List Lk} (h : RightL ts gs ls) : InN ts.length ls := fun l hl => by
  obtain ⟨i, hi⟩ := List.mem_iff_getElem?.mp hl
  exact ⟨(h i l hi).a, (h i l hi).b⟩
theorem RightL.take {ts : List Tm} {gs : List (Int × Int)} {ls : List Lk} (h : RightL ts gs ls) (n : Nat) : RightL ts gs (ls.take n) := fun i l hl => by
  have lt : i < n := by
    by_cases c : i < n
    · exact c
    · rw [List.getElem?_take, if_neg c] at hl
      cases hl
  rw [List.getElem?_take, if_pos lt] at hl
  rw [List.take_take, Nat.min_eq_left (by omega)]
  exact h i l hl
theorem RightL.his {ts : List Tm} {gs : List (Int × Int)} {ls : List Lk} (h : RightL ts gs ls) : ∀ n, n ≤ ls.length → ∃ xs : List Int, xs.length = n ∧ xs.Nodup ∧ ∀ x ∈ xs, (0 ≤ x ∧ x < (ts.length : Int)) ∧ hdL (ls.take n) x ≠ x := by
  intro n
  induction n with
  | zero => exact fun _ => ⟨[], rfl, List.nodup_nil, fun x hx => nomatch hx⟩
  | succ n ih =>
    intro hn
    obtain ⟨xs, x1, x2, x3⟩ := ih (by omega)
    obtain ⟨l, hl⟩ : ∃ l, ls[n]? = some l := ⟨_, List.getElem?_eq_getElem (by omega)⟩
    have k := h n l hl
    have Hn := hdL_ok h.inn n (by omega)
    have lh := lohi (hdL (ls.take n) l.1) (hdL (ls.take n) l.2.1)
    have la := Hn.in' k.a
    have lb := Hn.in' k.b
    have hi := Hn.hi_id l.1 l.2.1
    have nn := k.new
    refine ⟨hiF (hdL (ls.take n) l.1) (hdL (ls.take n) l.2.1) :: xs, by rw [List.length_cons, x1], List.nodup_cons.mpr ⟨fun z => (x3 _ z).2 hi, x2⟩, fun x hx => ?_⟩
    rw [take_snoc hl, hdL_snoc]
    rcases List.mem_cons.mp hx with rfl | hx
    · refine ⟨by omega, ?_⟩
      unfold mrg
      rw [if_pos hi]
      omega
    · refine ⟨(x3 x hx).1, ?_⟩
      have := (x3 x hx).2
      have := Hn.le x
      unfold mrg
      split <;> omega
theorem RightL.len {ts : List Tm} {gs : List (Int × Int)} {ls : List Lk} (h : RightL ts gs ls) : ls.length ≤ ts.length := by
  obtain ⟨xs, x1, x2, x3⟩ := h.his ls.length (Nat.le_refl _)
  rw [← x1]
  exact int_nodup_len _ x2 fun x hx => (x3 x hx).1
/-! ### closed -/
def ClosedT (ts : List Tm) (hd : Int → Int) : Prop := ∀ (a b : Nat) t u, ts[a]? = some t → ts[b]? = some u → t.1 = u.1 → t.2.map hd = u.2.map hd → hd (a : Int) = hd (b : Int)
def GivenT (gs : List (Int × Int)) (hd : Int → Int) : Prop := ∀ p ∈ gs, hd p.1 = hd p.2
theorem GivenT.more {gs : List (Int × Int)} {ls : List Lk} (h : GivenT gs (hdL ls)) (more : List Lk) : GivenT gs (hdL (ls ++ more)) := fun p hp => hdL_mono2 more (h p hp)
def PairsIn (N : Nat) (gs : List (Int × Int)) : Prop := ∀ p ∈ gs, (0 ≤ p.1 ∧ p.1 < (N : Int)) ∧ 0 ≤ p.2 ∧ p.2 < (N : Int)
/-- the sign of a term -/
def sgnT (t : Tm) (hd : Int → Int) : Sgn := (t.1, (t.2.map hd).map Sum.inl)
theorem sgnT_eq {t u : Tm} {hd : Int → Int} (h1 : t.1 = u.1) (h2 : t.2.map hd = u.2.map hd) : sgnT t hd = sgnT u hd := by unfold sgnT; rw [h1, h2]
theorem inl_inj : ∀ {as bs : List Int}, as.map (Sum.inl : Int → Key) = bs.map Sum.inl → as = bs
  | [], [], _ => rfl
  | [], b :: bs, h => by cases h
  | a :: as, [], h => by cases h
  | a :: as, b :: bs, h => by
    rw [List.map_cons, List.map_cons] at h
    injection h with h1 h2
    injection h1 with h1
    rw [h1, inl_inj h2]
/-- what is noted: at each sign a term whose parts' heads lead there -/
def NotedOk (ts : List Tm) (hd : Int → Int) (i : Nat) (kvs : List SE) : Prop := ∀ e ∈ kvs, ∃ (j : Nat) (t : Tm) (es : List Int), e.2.2 = .int (j : Int) ∧ j < i ∧ ts[j]? = some t ∧ e.1 = (t.1, es.map Sum.inl) ∧ es.map hd = t.2.map hd
theorem map_eq_mono {ls : List Lk} (more : List Lk) : ∀ {as bs : List Int}, as.map (hdL ls) = bs.map (hdL ls) → as.map (hdL (ls ++ more)) = bs.map (hdL (ls ++ more))
  | [], [], _ => rfl
  | [], b :: bs, h => by cases h
  | a :: as, [], h => by cases h
  | a :: as, b :: bs, h => by
    rw [List.map_cons, List.map_cons] at h ⊢
    injection h with h1 h2
    rw [hdL_mono2 more h1, map_eq_mono more h2]
theorem NotedOk.more {ts : List Tm} {ls : List Lk} {i j : Nat} {kvs : List SE} (h : NotedOk ts (hdL ls) i kvs) (more : List Lk) (hij : i ≤ j) : NotedOk ts (hdL (ls ++ more)) j kvs := fun e he => by
  obtain ⟨k, t, es, h1, h2, h3, h4, h5⟩ := h e he
  exact ⟨k, t, es, h1, by omega, h3, h4, map_eq_mono more h5⟩
theorem atS_mem {kvs : List SE} {k : Sgn} {e : SE} (h : atS kvs k = some e) : e ∈ kvs ∧ e.1 = k := ⟨List.mem_of_find?_eq_some h, by
  unfold atS at h
  have := List.find?_some h
  exact of_decide_eq_true this⟩
theorem atS_snoc {kvs : List SE} {k k2 : Sgn} {e e2 : SE} (h : atS kvs k = some e) : atS (kvs ++ [e2]) k = some e := by
  unfold atS at h ⊢
  rw [List.find?_append, h]
  rfl
theorem atS_new {kvs : List SE} {k : Sgn} {p : Addr} {v : V} (h : atS kvs k = none) : atS (kvs ++ [(k, p, v)]) k = some (k, p, v) := by
  unfold atS at h ⊢
  rw [List.find?_append, h]
  rw [List.find?_cons_of_pos (by exact decide_eq_true rfl)]
  rfl
/-! ### what stands while the object's dicts change -/
theorem GO.ktG {H H' : Hp} {C g ld gd : Addr} {N b : Nat} {hd : Int → Int} {av : List Addr} (G : GO H C g ld gd N b hd av) (s : SameG ld gd H H') : KeepT H H' := fun c xs h => by
  obtain ⟨dx, kl, kg, h1, h2, h3, _⟩ := G.ex
  rcases h with h | ⟨o, h⟩
  · exact .inl (s _ _ (ne_of h h2 (by intro z; cases z)) (ne_of h h3 (by intro z; cases z)) h)
  · exact .inr ⟨o, s _ _ (ne_of h h2 (by intro z; cases z)) (ne_of h h3 (by intro z; cases z)) h⟩
theorem GO.seqG {K : PySem.W.Frag} {H H' : Hp} {C g ld gd : Addr} {N b : Nat} {hd : Int → Int} {av : List Addr} {a : Addr} {xs : List V} (G : GO H C g ld gd N b hd av) (s : SameG ld gd H H') (h : SqL K H a xs) : SqL K H' a xs := by
  obtain ⟨dx, kl, kg, h1, h2, h3, _⟩ := G.ex
  rcases h with h | h
  · rcases h with h | ⟨o, h⟩
    · exact .inl (.inl (s _ _ (ne_of h h2 (by intro z; cases z)) (ne_of h h3 (by intro z; cases z)) h))
    · exact .inl (.inr ⟨o, s _ _ (ne_of h h2 (by intro z; cases z)) (ne_of h h3 (by intro z; cases z)) h⟩)
  · exact .inr h
theorem GO.lstG {H H' : Hp} {C g ld gd : Addr} {N b : Nat} {hd : Int → Int} {av : List Addr} {a : Addr} {xs : List V} (G : GO H C g ld gd N b hd av) (s : SameG ld gd H H') (h : H a = some (.lst xs)) : H' a = some (.lst xs) := by
  obtain ⟨dx, kl, kg, h1, h2, h3, _⟩ := G.ex
  exact s _ _ (ne_of h h2 (by intro z; cases z)) (ne_of h h3 (by intro z; cases z)) h
/-- a new list grows: all else stands -/
theorem SameG.grow {ld gd l : Addr} {H H' : Hp} {o : HO} (s : SameG ld gd H H') (n : H l = none) : SameG ld gd H (upd H' l o) := fun b u n1 n2 h => by
  rw [upd_ne (ne_of_none h n)]
  exact s b u n1 n2 h
theorem GO.putL {H : Hp} {C g ld gd : Addr} {N b : Nat} {hd : Int → Int} {av : List Addr} {l : Addr} {xs : List V} {o : HO} (G : GO H C g ld gd N b hd av) (hl : l ∈ av) (h : H l = some (.lst xs)) : GO (upd H l o) C g ld gd N b hd av := by
  obtain ⟨dx, kl, kg, h1, h2, h3, _⟩ := id G.ex
  exact G.put (.inl hl) (ne_of h h1 (by intro z; cases z)) (ne_of h h2 (by intro z; cases z)) (ne_of h h3 (by intro z; cases z))
theorem pair_at {K : PySem.W.Frag} {H : Hp} {ts : List (Int × Int)} {xs : List V} {i : Nat} {x : V} (h : HasL K H (ts.map dP) xs) (e : xs[i]? = some x) : ∃ t p, ts[i]? = some t ∧ x = .ref p ∧ SqT K H p [.int t.1, .int t.2] := hasl_at h e
theorem KeepT.sd {P : Program} {w : World} {H : Hp} {d : Addr} {kvs : List SE} {o : HO} (h : SD P w H d kvs) : KeepT H (upd H d o) := fun b xs q => by
  have ne : b ≠ d := fun e => by
    subst e
    rcases h with ⟨h, _⟩ | h
    · rcases q with q | ⟨u, q⟩
      · rw [h] at q; cases q
      · rw [h] at q; cases q
    · rcases q with q | ⟨u, q⟩
      · rw [h] at q; cases q
      · rw [h] at q; cases q
  rcases q with q | ⟨u, q⟩
  · exact .inl (by rw [upd_ne ne]; exact q)
  · exact .inr ⟨u, by rw [upd_ne ne]; exact q⟩
theorem SD.nol {P : Program} {w : World} {H : Hp} {d : Addr} {kvs : List SE} (h : SD P w H d kvs) (xs : List V) : H d ≠ some (.lst xs) := fun e => by
  rcases h with ⟨h, _⟩ | h
  · rw [h] at e; cases e
  · rw [h] at e; cases e
theorem SD.noi {P : Program} {w : World} {H : Hp} {d : Addr} {kvs : List SE} (h : SD P w H d kvs) {C dx : Addr} {fs : List (Str × V)} (e : H d = some (.ins C dx fs)) : False := by
  rcases h with ⟨h, _⟩ | h
  · rw [h] at e; cases e
  · rw [h] at e; cases e
theorem SD.to {P : Program} {w : World} {H H' : Hp} {d : Addr} {kvs : List SE} (h : SD P w H d kvs) (k : ∀ o, H d = some o → H' d = some o) : SD P w H' d kvs := h.imp (fun z => ⟨k _ z.1, z.2⟩) fun z => k _ z
theorem SgnAt.keep {K : PySem.W.Frag} {H H' : Hp} {k : Sgn} {p : Addr} (h : SgnAt K H k p) (kt : KeepT H H') : SgnAt K H' k p := by
  obtain ⟨q, h1, h2⟩ := h
  exact ⟨q, kt.sq h1, kt.sq h2⟩
/-- all that are gone by have their sign noted -/
def NotedAll (ts : List Tm) (hd : Int → Int) (i : Nat) (kvs : List SE) : Prop := ∀ (j : Nat) t, j < i → ts[j]? = some t → ∃ e k, atS kvs (sgnT t hd) = some e ∧ e.2.2 = .int k ∧ hd k = hd (j : Int)
theorem NotedAll.closed {ts : List Tm} {hd : Int → Int} {kvs : List SE} (h : NotedAll ts hd ts.length kvs) : ClosedT ts hd := fun a b t u ha hb e1 e2 => by
  obtain ⟨e, k, z1, z2, z3⟩ := h a t (List.getElem?_eq_some_iff.mp ha).1 ha
  obtain ⟨e', k', y1, y2, y3⟩ := h b u (List.getElem?_eq_some_iff.mp hb).1 hb
  rw [sgnT_eq e1 e2] at z1
  cases z1.symm.trans y1
  have := z2.symm.trans y2
  injection this with this
  subst this
  exact z3.symm.trans y3
/-! ### the links, by what is given -/
def gvStep (st : List Lk × Nat) (p : Int × Int) : List Lk × Nat := (if hdL st.1 p.1 = hdL st.1 p.2 then st.1 else st.1 ++ [(p.1, p.2, (st.2 : Int))], st.2 + 1)
def gvF (gs : List (Int × Int)) : List Lk := (gs.foldl gvStep ([], 0)).1
def alStep (ls : List Lk) (st : List Lk × List (Sgn × Int) × Nat) (t : Tm) : List Lk × List (Sgn × Int) × Nat :=
  match st.2.1.find? fun e => decide (e.1 = sgnT t (hdL (ls ++ st.1))) with
  | some e => if hdL (ls ++ st.1) e.2 = hdL (ls ++ st.1) (st.2.2 : Int) then (st.1, st.2.1, st.2.2 + 1) else (st.1 ++ [(e.2, (st.2.2 : Int), -1)], st.2.1, st.2.2 + 1)
  | none => (st.1, st.2.1 ++ [(sgnT t (hdL (ls ++ st.1)), (st.2.2 : Int))], st.2.2 + 1)
def alF (ts : List Tm) (ls : List Lk) : List Lk := (ts.foldl (alStep ls) ([], [], 0)).1
def lkF (ts : List Tm) : Nat → List Lk → List Lk
  | 0, fs => fs
  | n + 1, fs => if alF ts fs = [] then fs else lkF ts n (fs ++ alF ts fs)
def linksF (ts : List Tm) (gs : List (Int × Int)) : List Lk := lkF ts (ts.length + 1) (gvF gs)
def NtR (kvs : List SE) (nt : List (Sgn × Int)) : Prop := kvs.map (fun e => (e.1, e.2.2)) = nt.map fun x => (x.1, V.int x.2)
theorem NtR.at {k : Sgn} : ∀ {kvs : List SE} {nt : List (Sgn × Int)}, NtR kvs nt → (∃ e x, atS kvs k = some e ∧ nt.find? (fun e => decide (e.1 = k)) = some x ∧ e.2.2 = .int x.2) ∨ (atS kvs k = none ∧ nt.find? (fun e => decide (e.1 = k)) = none)
  | [], [], _ => .inr ⟨rfl, rfl⟩
  | [], x :: nt, h => by cases h
  | e :: kvs, [], h => by cases h
  | e :: kvs, x :: nt, h => by
    unfold NtR at h
    rw [List.map_cons, List.map_cons] at h
    injection h with h1 h2
    injection h1 with h3 h4
    by_cases c : e.1 = k
    · refine .inl ⟨e, x, ?_, ?_, h4⟩
      · unfold atS
        rw [List.find?_cons_of_pos (by exact decide_eq_true c)]
      · rw [List.find?_cons_of_pos (by exact decide_eq_true (h3 ▸ c))]
    · have e1 : atS (e :: kvs) k = atS kvs k := by
        unfold atS
        rw [List.find?_cons_of_neg (by simpa using c)]
      rw [e1, List.find?_cons_of_neg (by simpa using (fun z => c (h3.trans z)))]
      exact NtR.at h2
theorem NtR.snoc {kvs : List SE} {nt : List (Sgn × Int)} {k : Sgn} {p : Addr} {i : Int} (h : NtR kvs nt) : NtR (kvs ++ [(k, p, .int i)]) (nt ++ [(k, i)]) := by
  unfold NtR at h ⊢
  rw [List.map_append, List.map_append, h]
  rfl
end L2

/-! t[::-1] of a tuple. Behind Ext17. -/
namespace HT
open PySem PySem.Spec PyProof.Rows
section
variable {prog : Program} {w : World} {A : Around} {E : Value → Shared → Prop} {s : Shared}
theorem adjust_rev (n : Nat) : Builtin.Slice.sliceAdjust none none (-1) (n : Int) = ((n : Int) - 1, -1) := rfl
theorem places_rev (n : Nat) : Builtin.Slice.slicePlaces ((n : Int) - 1) (-1) (-1) = n := by
  unfold Builtin.Slice.slicePlaces
  have h1 : ¬ ((-1 : Int) > 0) := by omega
  simp only [h1, if_false]
  rw [show (-(-1 : Int)) = 1 from rfl, Int.ediv_one]
  split <;> omega
theorem sliceApplied_rev {sl : Addr} {t : Tok} {n : Nat} {Q : Int × Int × Nat → Shared → Prop} (hs : s.heap.IsSliceOf sl .none .none (.int (-1) t)) (h : Q ((n : Int) - 1, -1, n) s) :
    wpAny (model prog w) A (Builtin.Slice.sliceApplied (.ref sl) (pure (n : Int))) Q E s := by
  obtain ⟨os, hos, hcs, hds⟩ := id hs
  unfold Builtin.Slice.sliceApplied Builtin.Slice.sliceFields
  refine wpAny_bind (wpAny_bind (wpAny_field hos hds (x := .none) rfl (wpAny_bind (wpAny_field hos hds (x := .none) rfl (wpAny_bind (wpAny_field hos hds (x := .int (-1) t) rfl (wpAny_pure ?_)))))))
  refine wpAny_bind (slicePart_int ?_)
  show wpAny _ _ (if ((-1 : Int) == 0) = true then _ else _) _ _ s
  rw [if_neg (by decide)]
  refine wpAny_bind (slicePart_none (wpAny_bind (slicePart_none (wpAny_bind (wpAny_pure ?_)))))
  show wpAny _ _ (match Builtin.Slice.sliceAdjust none none (-1) (n : Int) with | (lo, hi) => pure (lo, (-1 : Int), Builtin.Slice.slicePlaces lo hi (-1))) _ _ s
  rw [adjust_rev n]
  show wpAny _ _ (pure ((n : Int) - 1, (-1 : Int), Builtin.Slice.slicePlaces ((n : Int) - 1) (-1) (-1))) _ _ s
  rw [places_rev]
  exact wpAny_pure h
theorem pick_rev (xs : Array Value) : ((List.range xs.size).filterMap fun (m : Nat) => xs[(((xs.size : Nat) : Int) - 1 + (m : Int) * (-1)).toNat]?).toArray = xs.toList.reverse.toArray := by
  congr 1
  apply List.ext_getElem?
  intro i
  have key : ∀ k, k ≤ xs.size → (List.range k).filterMap (fun (m : Nat) => xs[(((xs.size : Nat) : Int) - 1 + (m : Int) * (-1)).toNat]?) = xs.toList.reverse.take k := by
    intro k
    induction k with
    | zero => intro _; rfl
    | succ k ih =>
      intro hk
      rw [List.range_succ, List.filterMap_append, ih (by omega)]
      have e : (((xs.size : Nat) : Int) - 1 + (k : Int) * (-1)).toNat = xs.size - 1 - k := by omega
      have g : xs.toList.reverse[k]? = some (xs[xs.size - 1 - k]'(by omega)) := by
        rw [List.getElem?_reverse (by rw [Array.length_toList]; omega), Array.length_toList, Array.getElem?_toList, Array.getElem?_eq_getElem (by omega)]
      rw [List.take_add_one, g]
      show _ ++ List.filterMap _ [k] = _ ++ [_]
      rw [List.filterMap_cons, e, Array.getElem?_eq_getElem (by omega)]
      rfl
  rw [key xs.size (Nat.le_refl _), List.take_of_length_le (by rw [List.length_reverse, Array.length_toList]; exact Nat.le_refl _)]
theorem getItem_tuple_rev {t sl : Addr} {items : Array Value} {tk : Tok} {Q : Value → Shared → Prop} (ht : IsTup s.heap t items) (hs : s.heap.IsSliceOf sl .none .none (.int (-1) tk))
    (h : Q (.ref s.heap.objs.size) { s with heap := s.heap.push { cls := .type "tuple", data := .seq items.toList.reverse.toArray } })
    (hsz : items.size ≤ sizeLine) : wpAny (model prog w) A (getItem (.ref t) (.ref sl)) Q E s := by
  have htake : sizeOk (.seq items.toList.reverse.toArray) := by
    show items.toList.reverse.toArray.size ≤ sizeLine
    rw [List.size_toArray, List.length_reverse, Array.length_toList]
    exact hsz
  obtain ⟨os, hos, hcs, hds⟩ := id hs
  have hTs : s.TypeIs (.ref sl) "slice" := ⟨os, hos, hcs⟩
  unfold getItem
  try with_reducible refine wpAny_holding ?_
  first | refine wpAny_bind (wpAny_pure ?_) | skip
  refine wpAny_bind (wpAny_sequenceKey ht.typeIs (by decide) ?_)
  refine wpAny_bind (wpAny_callSpecial?_slot (name := Str.ofString "__getitem__") ht.typeIs PyProof.Rows.slot_tuple_getitem
    (wpAny_call_entry PyProof.Rows.slot_tuple_getitem ht.typeIs entry_tuple_getitem ?_ (args_tuple_getitem _ _)))
  show wpAny _ _ (Builtin.Tuple.tupleItemsOf (.ref t) >>= _) _ _ s
  refine wpAny_bind (tupleItemsOf_ ht ?_)
  refine wpAny_bind (wpAny_typeOf hTs ?_)
  rw [if_pos (by decide)]
  refine wpAny_bind (sliceApplied_rev hs ?_)
  have hno : ¬ (((((items.size : Nat) : Int) - 1) == 0 && (-1 : Int) == 1 && items.size == items.size) = true) := by
    intro q
    rw [Bool.and_eq_true, Bool.and_eq_true] at q
    exact absurd q.1.2 (by decide)
  show wpAny _ _ (if ((((items.size : Nat) : Int) - 1) == 0 && (-1 : Int) == 1 && items.size == items.size) = true then _ else _) _ _ s
  rw [if_neg hno, pick_rev]
  first
    | exact wpAny_bind (m := Builtin.Tuple.tupleExact _) (wpAny_newObj_type (wpAny_pure ⟨_, rfl, wpAny_pure h⟩) htake)
    | exact wpAny_bind (m := Builtin.Tuple.tupleExact _) (wpAny_newObj_type (wpAny_bind (wpAny_pure (wpAny_pure ⟨_, rfl, wpAny_pure h⟩))) htake)
    | exact wpAny_bind (wpAny_bind (m := Builtin.Tuple.tupleExact _) (wpAny_newObj_type (wpAny_pure (wpAny_pure ⟨_, rfl, wpAny_pure h⟩)) htake))
    | exact wpAny_bind (wpAny_bind (m := Builtin.Tuple.tupleExact _) (wpAny_newObj_type (wpAny_pure ⟨_, rfl, wpAny_pure h⟩) htake))
end
end HT
namespace L2
open PySem PySem.Spec PyProof.Rows
theorem Vals.rev {xs : List V} {us : List Value} (h : Vals xs us) : Vals xs.reverse us.reverse := by
  induction h with
  | nil => exact .nil
  | cons r t ih =>
    rw [List.reverse_cons, List.reverse_cons]
    exact ih.append (.cons r .nil)
section
variable {X : Cx} {e st : Expr} {te ts : TE} {pos p2 : Pos}
def tRevT (K : PySem.W.Frag) (te ts : TE) : TE := fun σ H Q => te σ H fun x H1 => ts σ H1 fun y H2 => y = .int (-1) ∧ ∃ a xs, x = .ref a ∧ SqT K H2 a xs ∧ ∀ p, H2 p = none → Q (.ref p) (upd H2 p (.tup xs.reverse))
theorem pe_revT (he : PE X e te) (hst : PE X st ts) : PE X (.Subscript e (.Slice none none (some st) p2) pos) (tRevT X.K te ts) := by
  intro pins s σ H Q I h
  refine Subscript_ (thn (he pins s σ H _ I h) fun v s1 ⟨x, H1, I1, r1, q1⟩ => ?_)
  refine wpAny_Slice ?_
  rw [evalPart_none]
  refine wpAny_pure (wpAny_pure ?_)
  rw [evalPart_some]
  refine thn (hst pins s1 σ H1 _ I1 q1) fun u s3 ⟨y, H3, I3, r3, ey, a, xs, ex, hx, q⟩ => ?_
  subst ey ex
  obtain ⟨tk, rfl⟩ := r3
  cases r1
  have I4 : Inv X pins σ H3 { s3 with heap := s3.heap.push { cls := .type "slice", data := .fields #[.none, .none, .int (-1) tk] } } := I3.kept (t' := s3.toks) fun b ob q => Heap.get?_push_of_some _ q
  obtain ⟨its, r, ht, hz⟩ := I4.tuple hx
  have hlen : its.toArray.size = xs.length := by rw [List.size_toArray]; exact r.length.symm
  have hg : wpAny (model X.prog X.w) X.A (getItem (.ref a) (.ref s3.heap.objs.size)) (EP X pins σ Q) X.xe { s3 with heap := s3.heap.push { cls := .type "slice", data := .fields #[.none, .none, .int (-1) tk] } } := by
    refine HT.getItem_tuple_rev (tk := tk) ht (Heap.IsSliceOf.new ..) ?_ (by rw [hlen]; exact hz)
    refine ⟨.ref _, _, I4.laid (o := .tup xs.reverse) (t' := s3.toks) (fun b ob e => Heap.get?_push_of_some _ e) (Nat.le_refl _) ?_, rfl, q _ (I4.hok.fresh (Nat.le_refl _))⟩
    refine ⟨by rw [List.length_reverse]; exact hz, its.reverse, r.rev, _, Heap.get?_push_size _ rfl, rfl, 0, ?_⟩
    simp
  show wpAny (model X.prog X.w) X.A (subscriptTail e (.Slice none none (some st) p2) (.ref a) (.ref s3.heap.objs.size)) (EP X pins σ Q) X.xe { s3 with heap := s3.heap.push { cls := .type "slice", data := .fields #[.none, .none, .int (-1) tk] } }
  exact tail_any (ops := [.ref a, .ref s3.heap.objs.size]) ht.typeIs PyProof.Rows.slot_tuple_getitem.lookup hg (by with_unfolding_all rfl)
end
end L2

/-! OWN: lengths of texts. Behind Ext18. -/
namespace L2
open PySem
abbrev abcS : Str := "abcdefghijklmnopqrstuvwxyz"
theorem abcS_len : abcS.cps.toList.length = 26 := by decide +kernel
theorem at_inX {α : Type} {xs : List α} {i : Int} (h0 : 0 ≤ i) (h1 : i < (xs.length : Int)) : ∃ c, atI xs i = some c := by
  have hk : i.toNat < xs.length := by omega
  have e : i = ((i.toNat : Nat) : Int) := by omega
  have q : atI xs ((i.toNat : Nat) : Int) = some xs[i.toNat] := atI_nat (List.getElem?_eq_getElem hk)
  rw [← e] at q
  exact ⟨_, q⟩
theorem at_inM {α : Type} {xs : List α} {i : Int} (h0 : 0 ≤ i) (h1 : i < (xs.length : Int)) : ∃ c, atI xs i = some c ∧ c ∈ xs := by
  have hk : i.toNat < xs.length := by omega
  have e : i = ((i.toNat : Nat) : Int) := by omega
  have q : atI xs ((i.toNat : Nat) : Int) = some xs[i.toNat] := atI_nat (List.getElem?_eq_getElem hk)
  rw [← e] at q
  exact ⟨_, q, List.getElem_mem hk⟩
theorem appS_len (a b : Str) : (a ++ b).length = a.length + b.length := by
  show (a.cps ++ b.cps).size = a.cps.size + b.cps.size
  exact Array.size_append
theorem cutS_le {w : Str} {lo hi : Option Int} {n : Nat} (h : w.length ≤ n) : (Txt.slice w lo hi).length ≤ n := Nat.le_trans (Txt.slice_le w lo hi) h
theorem oneS_len (c : Nat) : (⟨#[c]⟩ : Str).length = 1 := rfl
theorem szS {n : Nat} (h : n ≤ 1000) : n ≤ sizeLine := Nat.le_of_lt (small1000 h)
end L2

/-! OWN: terms that a law draws. Behind Jn3, Sx. -/
namespace L2
open PySem
def TmIn (zs : List Str) (n : Nat) (t : Tm) : Prop := t.1 ∈ zs ∧ t.2.length ≤ 3 ∧ ∀ x ∈ t.2, 0 ≤ x ∧ x < (n : Int)
def TmW (zs : List Str) (ts : List Tm) : Prop := ∀ i t, ts[i]? = some t → TmIn zs i t
theorem TmIn.mono {zs : List Str} {n m : Nat} {t : Tm} (h : TmIn zs n t) (hn : n ≤ m) : TmIn zs m t := ⟨h.1, h.2.1, fun x hx => by have := h.2.2 x hx; omega⟩
theorem TmW.all {zs : List Str} {ts : List Tm} (h : TmW zs ts) {t : Tm} (ht : t ∈ ts) : TmIn zs ts.length t := by
  obtain ⟨i, hi⟩ := List.mem_iff_getElem?.mp ht
  exact (h i t hi).mono (Nat.le_of_lt (List.getElem?_eq_some_iff.mp hi).1)
theorem TmW.snoc {zs : List Str} {ts : List Tm} {t : Tm} (h : TmW zs ts) (k : TmIn zs ts.length t) : TmW zs (ts ++ [t]) := fun i u hu => by
  have lt := (List.getElem?_eq_some_iff.mp hu).1
  rw [List.length_append] at lt
  have lt : i < ts.length + 1 := lt
  by_cases c : i < ts.length
  · rw [List.getElem?_append_left c] at hu
    exact h i u hu
  · have e : i = ts.length := by omega
    subst e
    rw [List.getElem?_append_right (Nat.le_refl _), Nat.sub_self] at hu
    cases hu
    exact k
theorem TmW.nil (zs : List Str) : TmW zs [] := fun i t h => by simp at h
theorem peq_nil (ds : List Dt) : peq (.lst ds) (.lst []) = ds.isEmpty := by
  cases ds with
  | nil => simp [peq, peqs]
  | cons d ds => simp [peq, peqs]
theorem peq_nilT (ds : List Dt) : peq (.tup ds) (.tup []) = ds.isEmpty := by
  cases ds with
  | nil => simp [peq, peqs]
  | cons d ds => simp [peq, peqs]
theorem two_at {α : Type} (x y : α) (c : Int) : (c % 2 = 0 ∧ atI [x, y] (c % 2) = some x) ∨ (c % 2 = 1 ∧ atI [x, y] (c % 2) = some y) := by
  have h : c % 2 = 0 ∨ c % 2 = 1 := by omega
  rcases h with h | h
  · exact .inl ⟨h, by rw [h]; exact atI_nat (j := 0) rfl⟩
  · exact .inr ⟨h, by rw [h]; exact atI_nat (j := 1) rfl⟩
theorem ixN_in {n : Nat} {k : Int} (h0 : 0 ≤ k) (h1 : k < (n : Int)) : ∃ j, ixN n k = some j ∧ j < n := by
  refine ⟨k.toNat, ?_, by omega⟩
  unfold ixN
  rw [if_pos h0, if_pos h1]
theorem hasl_mem {K : PySem.W.Frag} {H : Hp} {ts : List Tm} {xs : List V} {v : V} (h : HasL K H (ts.map dTm) xs) (hv : v ∈ xs) : ∃ t p q, t ∈ ts ∧ v = .ref p ∧ SqT K H p [.str t.1, .ref q] ∧ SqT K H q (t.2.map V.int) := by
  obtain ⟨i, hi⟩ := List.mem_iff_getElem?.mp hv
  obtain ⟨t, p, q, h1, h2, h3⟩ := tm_at h hi
  exact ⟨t, p, q, List.mem_of_getElem? h1, h2, h3⟩
theorem HasL.take {K : PySem.W.Frag} {H : Hp} : ∀ {ds : List Dt} {vs : List V} (n : Nat), HasL K H ds vs → HasL K H (ds.take n) (vs.take n)
  | _, _, 0, _ => HasL.nil
  | [], vs, n + 1, h => by
    have e := HasL.length h
    have e2 : vs = [] := List.length_eq_zero_iff.mp e.symm
    subst e2
    exact HasL.nil
  | d :: ds, vs, n + 1, h => by
    obtain ⟨v, r, e, h1, h2⟩ := h
    cases e
    rw [List.take_succ_cons, List.take_succ_cons]
    exact HasL.cons h1 (HasL.take n h2)
theorem cut_take (xs : List V) (m : Nat) : cutV xs none (some (m : Int)) = xs.take m := by
  unfold cutV
  rw [HT.sIx_none, HT.sIx_nat, List.drop_zero, Nat.sub_zero]
  by_cases h : m ≤ xs.length
  · rw [Nat.min_eq_left h]
  · rw [Nat.min_eq_right (by omega), List.take_of_length_le (Nat.le_refl _), List.take_of_length_le (by omega)]
end L2

/-! OWN: values of terms by a table. Behind Jn4. -/
namespace L2
open PySem
def farF (vs : List Int) : Int := vs.foldl (fun a v => 6 * a + v + 1) 0
def valF (us : List Int) (x : Int) : Int := us.getD x.toNat 0
theorem valF_app {us : List Int} {x v : Int} (h0 : 0 ≤ x) (h1 : x < (us.length : Int)) : valF (us ++ [v]) x = valF us x := by
  unfold valF
  rw [List.getD_eq_getElem?_getD, List.getD_eq_getElem?_getD, List.getElem?_append_left (by omega)]
def TableU (g : Str → List Int → Int) (ts : List Tm) (us : List Int) (i : Nat) : Prop := us.length = i ∧ ∀ (j : Nat) t, j < i → ts[j]? = some t → us[j]? = some (g t.1 (t.2.map (valF us)))
def Table (ts : List Tm) (us : List Int) : Prop := ∃ g, TableU g ts us ts.length
theorem TableU.snoc {g : Str → List Int → Int} {ts : List Tm} {us : List Int} {i : Nat} {zs : List Str} {t : Tm} (h : TableU g ts us i) (hW : TmW zs ts) (ht : ts[i]? = some t) : TableU g ts (us ++ [g t.1 (t.2.map (valF us))]) (i + 1) := by
  refine ⟨by rw [List.length_append, h.1]; rfl, fun j u hj hu => ?_⟩
  have e : u.2.map (valF (us ++ [g t.1 (t.2.map (valF us))])) = u.2.map (valF us) := List.map_congr_left fun x hx => by
    have b := (hW j u hu).2.2 x hx
    exact valF_app b.1 (by rw [h.1]; omega)
  rw [e]
  by_cases c : j < i
  · rw [List.getElem?_append_left (by rw [h.1]; exact c)]
    exact h.2 j u c hu
  · have ej : j = i := by omega
    subst ej
    cases ht.symm.trans hu
    rw [List.getElem?_append_right (by rw [h.1]; exact Nat.le_refl _), h.1, Nat.sub_self]
    rfl
end L2
namespace L2
open PySem
theorem decS (x y : Str) : decide (V.str x = V.str y) = decide (x = y) := decide_eq_decide.mpr ⟨fun z => by injection z, fun z => by rw [z]⟩
theorem decI (x y : Int) : decide (V.int x = V.int y) = decide (x = y) := decide_eq_decide.mpr ⟨fun z => by injection z, fun z => by rw [z]⟩
def hdsG (hd : Int → Int) (n : Nat) : List Int := (List.range n).map fun i : Nat => hd (i : Int)
theorem hdsG_at (hd : Int → Int) {n : Nat} {k : Int} (h0 : 0 ≤ k) (h1 : k < (n : Int)) : atI ((hdsG hd n).map V.int) k = some (.int (hd k)) := heads_at (ls := []) hd h0 h1
end L2

/-! zip of two tuples in a for or a comprehension. Behind Ext18. -/
namespace L2
open PySem PySem.Spec PyProof.Rows
section
variable {prog : Program} {w : World} {A : Around} {E : Value → Shared → Prop} {s : Shared}
theorem nextOf_tup {it t : Addr} {i : Nat} {items} {x : Value} {Q : Value → Shared → Prop} (hit : s.heap.IsTupleIter it t i) (ht : s.heap.IsTuple t items) (hx : items[i]? = some x)
    (hQ : ∀ h', h'.IsTupleIter it t (i + 1) → Heap.SameBut it s.heap h' → Q x { s with heap := h' }) : wpAny (model prog w) A (Builtin.SmallTypes.nextOf (.ref it)) Q E s := by
  obtain ⟨o, ho, hc, hd⟩ := id hit
  obtain ⟨ol, hol, _, nl, hdl⟩ := ht
  unfold Builtin.SmallTypes.nextOf
  refine wpAny_bind (wpAny_callSpecial?_slot (name := Str.ofString "__next__") hit.typeIs F.slot_tuple_iterator_next (wpAny_call_entry F.slot_tuple_iterator_next hit.typeIs F.entry_tuple_iterator_next ?_ (F.args_tuple_iterator_next_1 _)))
  show wpAny _ _ (field (.ref it) 0 >>= _) _ _ s
  refine wpAny_bind (wpAny_field ho hd (x := .ref t) rfl ?_)
  show wpAny _ _ (if (Value.ref t == Value.none) = true then _ else _) _ _ s
  rw [if_neg (show ¬ ((Value.ref t == Value.none) = true) from Bool.false_ne_true)]
  show wpAny _ _ (field (.ref it) 1 >>= _) _ _ s
  refine wpAny_bind (wpAny_field ho hd (x := .int i 0) rfl ?_)
  show wpAny _ _ (seqItems? (.ref t) >>= _) _ _ s
  refine wpAny_bind (wpAny_seqItems hol hdl ?_)
  simp only [Int.toNat_natCast, hx]
  refine wpAny_bind (wpAny_setField ho hd (by simp) (wpAny_pure ⟨x, rfl, wpAny_pure (hQ _ ?_ (Heap.SameBut.update ..))⟩))
  exact ⟨_, Heap.get?_update_self _ ho (Obj.isFreed_of_fields (Obj.data_mapFields hd _)), (Obj.cls_mapFields ..).trans hc, by
    rw [Obj.data_mapFields hd]; simp [rawInt]⟩
theorem nextOf_tup_end {it t : Addr} {i : Nat} {items} {Q : Value → Shared → Prop} (hh : A.handled = none) (hit : s.heap.IsTupleIter it t i) (ht : s.heap.IsTuple t items) (hx : items[i]? = none)
    (hE : ∀ h' e, Heap.ExtBut it s.heap h' → (∃ o, h'.get? e = some o ∧ o.cls = .type "StopIteration") → E (.ref e) { s with heap := h' }) : wpAny (model prog w) A (Builtin.SmallTypes.nextOf (.ref it)) Q E s := by
  obtain ⟨o, ho, hc, hd⟩ := id hit
  obtain ⟨ol, hol, _, nl, hdl⟩ := ht
  unfold Builtin.SmallTypes.nextOf
  refine wpAny_bind (wpAny_callSpecial?_slot (name := Str.ofString "__next__") hit.typeIs F.slot_tuple_iterator_next (wpAny_call_entry F.slot_tuple_iterator_next hit.typeIs F.entry_tuple_iterator_next ?_ (F.args_tuple_iterator_next_1 _)))
  show wpAny _ _ (field (.ref it) 0 >>= _) _ _ s
  refine wpAny_bind (wpAny_field ho hd (x := .ref t) rfl ?_)
  show wpAny _ _ (if (Value.ref t == Value.none) = true then _ else _) _ _ s
  rw [if_neg (show ¬ ((Value.ref t == Value.none) = true) from Bool.false_ne_true)]
  show wpAny _ _ (field (.ref it) 1 >>= _) _ _ s
  refine wpAny_bind (wpAny_field ho hd (x := .int i 0) rfl ?_)
  show wpAny _ _ (seqItems? (.ref t) >>= _) _ _ s
  refine wpAny_bind (wpAny_seqItems hol hdl ?_)
  simp only [Int.toNat_natCast, hx]
  refine wpAny_bind (wpAny_rule (wpAny_bind (wpAny_setField ho hd (by simp) ?_)))
  show wpAny _ _ (newExc (.type "StopIteration") [] >>= _) _ _ _
  refine wpAny_bind ?_
  simp only [newExc, newTuple]
  refine wpAny_bind (wpAny_newObj_type ?_ (by size_fits))
  refine wpAny_bind (m := firstArgMember _ _) (wpAny_of_eq (a := Value.none) (by first | rfl | (simp only [firstArgMember]; rfl)) ?_)
  refine wpAny_newObj_type ?_ (by size_fits)
  simp only [raiseNew]
  refine wpAny_bind (wpAny_handled ?_)
  first | rw [show A.in1.handled = none from hh] | rw [hh]
  refine wpAny_bind (wpAny_pure (wpAny_throw ?_))
  exact hE _ _ (((Heap.SameBut.update ..).extBut.push _).push _) ⟨_, Heap.get?_push_size _ rfl, rfl⟩
/-- a tuple and its iterator -/
def TuI (h : Heap) (it t : Addr) (i : Nat) (xs : Array Value) : Prop := h.IsTupleIter it t i ∧ h.IsTuple t xs
theorem TuI.ext {h h' : Heap} {it t b : Addr} {i : Nat} {xs : Array Value} (x : TuI h it t i xs) (hs : Heap.ExtBut b h h') (h1 : it ≠ b) (h2 : t ≠ b) : TuI h' it t i xs := ⟨x.1.extBut hs h1, x.2.extBut hs h2⟩
theorem zipT_item {z TI' TO i1 i2 l1 l2 : Addr} {k1 k2 : Nat} {xs ys : Array Value} {x y a b : Value} {Q : Value → Shared → Prop} (D : ZipApart z TI' TO i1 i2 l1 l2)
    (hz : IsZip s.heap z TI' TO .none) (hTI : IsPair s.heap TI' (.ref i1) (.ref i2)) (hTO : IsPair s.heap TO a b) (h1 : TuI s.heap i1 l1 k1 xs) (h2 : TuI s.heap i2 l2 k2 ys) (hx : xs[k1]? = some x) (hy : ys[k2]? = some y)
    (hQ : ∀ h', IsZip h' z TI' TO (rawInt s.heap.objs.size) → IsPair h' TO x y → h'.IsTupleIter i1 l1 (k1 + 1) → h'.IsTupleIter i2 l2 (k2 + 1) → IsPair h' s.heap.objs.size x y → h'.objs.size = s.heap.objs.size + 1 →
      (∀ c o, c ≠ z → c ≠ TO → c ≠ i1 → c ≠ i2 → s.heap.get? c = some o → h'.get? c = some o) → Q (.ref s.heap.objs.size) { s with heap := h' }) :
    wpAny (model prog w) A (Builtin.«zip.__next__» ⟨[.ref z], []⟩) (fun fin s' => ∃ v, fin = .done (.ret v) ∧ Q v s') E s := by
  show wpAny _ _ (field (.ref z) 2 >>= _) _ _ _
  refine wpAny_bind (wpAny_field hz rfl (x := .bool false) rfl ?_)
  show wpAny _ _ (field (.ref z) 3 >>= _) _ _ _
  refine wpAny_bind (wpAny_field hz rfl (x := .ref TI') rfl ?_)
  refine wpAny_bind (wpAny_seqItems hTI rfl ?_)
  show wpAny _ _ (Builtin.SmallTypes.ownedTupleIsFree (.ref z) >>= _) _ _ _
  refine wpAny_bind ?_
  unfold Builtin.SmallTypes.ownedTupleIsFree
  refine wpAny_bind (wpAny_field hz rfl (x := .none) rfl (wpAny_pure ?_))
  simp only [if_true]
  refine wpAny_bind (wpAny_rule ?_)
  refine wpAny_bind (wpAny_field hz rfl (x := .ref TO) rfl ?_)
  refine wpAny_bind (wpAny_setField_rec hz (by simp) fun h₁ hz₁ hs₁ => ?_)
  replace hz₁ : IsZip h₁ z TI' TO .ellipsis := hz₁
  refine wpAny_bind ?_
  simp only [List.zipIdx_cons, List.zipIdx_nil, List.forIn_cons, List.forIn_nil]
  refine wpAny_bind (wpAny_bind (wpAny_onRaise ?_))
  show wpAny _ _ (Builtin.SmallTypes.nextOf (.ref i1) >>= _) _ _ _
  have a1 := h1.ext hs₁.extBut D.i1z D.l1z
  refine wpAny_bind (nextOf_tup a1.1 a1.2 hx fun h₂ h1₂ hs₂ => wpAny_pure ?_)
  have hTO₂ : IsPair h₂ TO a b := hs₂.extBut _ _ D.TOi1 (hs₁.extBut _ _ D.TOz hTO)
  refine wpAny_bind (wpAny_seqItems hTO₂ rfl ?_)
  refine wpAny_bind (wpAny_updateSeq_pair hTO₂ fun h₃ hTO₃ hs₃ => ?_)
  replace hTO₃ : IsPair h₃ TO x b := hTO₃
  refine wpAny_bind (wpAny_letGo (wpAny_pure ?_))
  refine wpAny_bind (wpAny_bind (wpAny_onRaise ?_))
  show wpAny _ _ (Builtin.SmallTypes.nextOf (.ref i2) >>= _) _ _ _
  have a2 := ((h2.ext hs₁.extBut D.i2z D.l2z).ext hs₂.extBut D.i12.symm D.l2i1).ext hs₃.extBut D.TOi2.symm D.l2TO
  refine wpAny_bind (nextOf_tup a2.1 a2.2 hy fun h₄ h2₄ hs₄ => wpAny_pure ?_)
  have hTO₄ : IsPair h₄ TO x b := hs₄.extBut _ _ D.TOi2 hTO₃
  refine wpAny_bind (wpAny_seqItems hTO₄ rfl ?_)
  refine wpAny_bind (wpAny_updateSeq_pair hTO₄ fun h₅ hTO₅ hs₅ => ?_)
  replace hTO₅ : IsPair h₅ TO x y := hTO₅
  refine wpAny_bind (wpAny_letGo (wpAny_pure (wpAny_pure ?_)))
  refine wpAny_bind (wpAny_seqItems hTO₅ rfl ?_)
  refine wpAny_bind (wpAny_newTuple ?_)
  have hsz : h₅.objs.size = s.heap.objs.size := by rw [hs₅.1, hs₄.1, hs₃.1, hs₂.1, hs₁.1]
  have hz₅ : IsZip h₅ z TI' TO .ellipsis := hs₅.extBut _ _ D.TOz.symm (hs₄.extBut _ _ D.i2z.symm (hs₃.extBut _ _ D.TOz.symm (hs₂.extBut _ _ D.i1z.symm hz₁)))
  have hk₅ : ∀ c o, c ≠ z → c ≠ TO → c ≠ i1 → c ≠ i2 → s.heap.get? c = some o → h₅.get? c = some o := fun c o c1 c2 c3 c4 e =>
    hs₅.extBut _ _ c2 (hs₄.extBut _ _ c4 (hs₃.extBut _ _ c2 (hs₂.extBut _ _ c3 (hs₁.extBut _ _ c1 e))))
  have h1₅ : h₅.IsTupleIter i1 l1 (k1 + 1) := ((h1₂.extBut hs₃.extBut D.TOi1.symm).extBut hs₄.extBut D.i12).extBut hs₅.extBut D.TOi1.symm
  have h2₅ : h₅.IsTupleIter i2 l2 (k2 + 1) := h2₄.extBut hs₅.extBut D.TOi2.symm
  have hzlt : z < h₅.objs.size := Heap.lt_size hz₅
  show wpAny _ _ (Builtin.SmallTypes.ownedTupleHandOut (.ref z) (.ref h₅.objs.size) >>= _) _ _ _
  refine wpAny_bind ?_
  unfold Builtin.SmallTypes.ownedTupleHandOut
  have hz₆ : IsZip (h₅.push { cls := .type "tuple", data := .seq #[x, y] }) z TI' TO .ellipsis := Heap.get?_push_of_some _ hz₅
  refine wpAny_bind (wpAny_setField_rec hz₆ (by simp) fun h₇ hz₇ hs₇ => ?_)
  replace hz₇ : IsZip h₇ z TI' TO (rawInt h₅.objs.size) := hz₇
  refine wpAny_setField_rec hz₇ (by simp) fun h₈ hz₈ hs₈ => ?_
  replace hz₈ : IsZip h₈ z TI' TO (rawInt h₅.objs.size) := hz₈
  have up : ∀ c o, c ≠ z → h₅.get? c = some o → h₈.get? c = some o := fun c o c1 e => hs₈.extBut _ _ c1 (hs₇.extBut _ _ c1 (Heap.get?_push_of_some _ e))
  have hT₈ : IsPair h₈ h₅.objs.size x y := hs₈.extBut _ _ (Nat.ne_of_gt hzlt) (hs₇.extBut _ _ (Nat.ne_of_gt hzlt) (Heap.get?_push_size _ rfl))
  have hz8 : h₈.objs.size = h₅.objs.size + 1 := by rw [hs₈.1, hs₇.1, Heap.size_push]
  rw [hsz] at hz₈ hT₈ hz8
  refine wpAny_pure ⟨_, rfl, ?_⟩
  show Q (.ref h₅.objs.size) _
  rw [hsz]
  exact hQ h₈ hz₈ (up _ _ D.TOz hTO₅) (h1₅.at fun o e => up _ o D.i1z e) (h2₅.at fun o e => up _ o D.i2z e) hT₈ hz8 fun c o c1 c2 c3 c4 e => up c o c1 (hk₅ c o c1 c2 c3 c4 e)
theorem zipT_end {z TI' TO i1 i2 l1 l2 : Addr} {k1 k2 : Nat} {xs ys : Array Value} {a b : Value} {Q : Fin → Shared → Prop} (hh : A.handled = none) (D : ZipApart z TI' TO i1 i2 l1 l2)
    (hz : IsZip s.heap z TI' TO .none) (hTI : IsPair s.heap TI' (.ref i1) (.ref i2)) (hTO : IsPair s.heap TO a b) (h1 : TuI s.heap i1 l1 k1 xs) (h2 : TuI s.heap i2 l2 k2 ys) (hend : xs[k1]? = none ∨ ys[k2]? = none)
    (hE : ∀ h' e, (∀ c o, c ≠ z → c ≠ TO → c ≠ i1 → c ≠ i2 → s.heap.get? c = some o → h'.get? c = some o) → (∃ o, h'.get? e = some o ∧ o.cls = .type "StopIteration") → E (.ref e) { s with heap := h' }) :
    wpAny (model prog w) A (Builtin.«zip.__next__» ⟨[.ref z], []⟩) Q E s := by
  show wpAny _ _ (field (.ref z) 2 >>= _) _ _ _
  refine wpAny_bind (wpAny_field hz rfl (x := .bool false) rfl ?_)
  show wpAny _ _ (field (.ref z) 3 >>= _) _ _ _
  refine wpAny_bind (wpAny_field hz rfl (x := .ref TI') rfl ?_)
  refine wpAny_bind (wpAny_seqItems hTI rfl ?_)
  show wpAny _ _ (Builtin.SmallTypes.ownedTupleIsFree (.ref z) >>= _) _ _ _
  refine wpAny_bind ?_
  unfold Builtin.SmallTypes.ownedTupleIsFree
  refine wpAny_bind (wpAny_field hz rfl (x := .none) rfl (wpAny_pure ?_))
  simp only [if_true]
  refine wpAny_bind (wpAny_rule ?_)
  refine wpAny_bind (wpAny_field hz rfl (x := .ref TO) rfl ?_)
  refine wpAny_bind (wpAny_setField_rec hz (by simp) fun h₁ hz₁ hs₁ => ?_)
  replace hz₁ : IsZip h₁ z TI' TO .ellipsis := hz₁
  refine wpAny_bind ?_
  simp only [List.zipIdx_cons, List.zipIdx_nil, List.forIn_cons, List.forIn_nil]
  refine wpAny_bind (wpAny_bind (wpAny_onRaise ?_))
  show wpAny _ _ (Builtin.SmallTypes.nextOf (.ref i1) >>= _) _ _ _
  have a1 := h1.ext hs₁.extBut D.i1z D.l1z
  cases hx : xs[k1]? with
  | none =>
    refine wpAny_bind (nextOf_tup_end hh a1.1 a1.2 hx fun h₂ e hs₂ he => ?_)
    obtain ⟨oe, hoe, hce⟩ := he
    have hz₂ : IsZip h₂ z TI' TO .ellipsis := hs₂ _ _ D.i1z.symm hz₁
    have hez : e ≠ z := fun x => by subst x; rw [hz₂] at hoe; cases hoe; simp at hce
    refine wpAny_setField_rec hz₂ (by simp) fun h₃ _ hs₃ => hE h₃ e (fun c o c1 _ c3 _ x => hs₃.extBut _ _ c1 (hs₂ _ _ c3 (hs₁.extBut _ _ c1 x))) ⟨oe, hs₃.extBut _ _ hez hoe, hce⟩
  | some x =>
    have hy : ys[k2]? = none := by rcases hend with h | h; rw [hx] at h; cases h; exact h
    refine wpAny_bind (nextOf_tup a1.1 a1.2 hx fun h₂ h1₂ hs₂ => wpAny_pure ?_)
    have hTO₂ : IsPair h₂ TO a b := hs₂.extBut _ _ D.TOi1 (hs₁.extBut _ _ D.TOz hTO)
    refine wpAny_bind (wpAny_seqItems hTO₂ rfl ?_)
    refine wpAny_bind (wpAny_updateSeq_pair hTO₂ fun h₃ hTO₃ hs₃ => ?_)
    refine wpAny_bind (wpAny_letGo (wpAny_pure ?_))
    refine wpAny_bind (wpAny_bind (wpAny_onRaise ?_))
    show wpAny _ _ (Builtin.SmallTypes.nextOf (.ref i2) >>= _) _ _ _
    have a2 := ((h2.ext hs₁.extBut D.i2z D.l2z).ext hs₂.extBut D.i12.symm D.l2i1).ext hs₃.extBut D.TOi2.symm D.l2TO
    refine wpAny_bind (nextOf_tup_end hh a2.1 a2.2 hy fun h₄ e hs₄ he => ?_)
    obtain ⟨oe, hoe, hce⟩ := he
    have hz₄ : IsZip h₄ z TI' TO .ellipsis := hs₄ _ _ D.i2z.symm (hs₃.extBut _ _ D.TOz.symm (hs₂.extBut _ _ D.i1z.symm hz₁))
    have hez : e ≠ z := fun x => by subst x; rw [hz₄] at hoe; cases hoe; simp at hce
    refine wpAny_setField_rec hz₄ (by simp) fun h₅ _ hs₅ => hE h₅ e (fun c o c1 c2 c3 c4 x => hs₅.extBut _ _ c1 (hs₄ _ _ c4 (hs₃.extBut _ _ c2 (hs₂.extBut _ _ c3 (hs₁.extBut _ _ c1 x))))) ⟨oe, hs₅.extBut _ _ hez hoe, hce⟩
theorem pyNext_zipT {z TI' TO i1 i2 l1 l2 : Addr} {k1 k2 : Nat} {xs ys : Array Value} {x y a b : Value} {Q : Option Value → Shared → Prop} (D : ZipApart z TI' TO i1 i2 l1 l2)
    (hz : IsZip s.heap z TI' TO .none) (hTI : IsPair s.heap TI' (.ref i1) (.ref i2)) (hTO : IsPair s.heap TO a b) (h1 : TuI s.heap i1 l1 k1 xs) (h2 : TuI s.heap i2 l2 k2 ys) (hx : xs[k1]? = some x) (hy : ys[k2]? = some y)
    (hQ : ∀ h', IsZip h' z TI' TO (rawInt s.heap.objs.size) → IsPair h' TO x y → h'.IsTupleIter i1 l1 (k1 + 1) → h'.IsTupleIter i2 l2 (k2 + 1) → IsPair h' s.heap.objs.size x y → h'.objs.size = s.heap.objs.size + 1 →
      (∀ c o, c ≠ z → c ≠ TO → c ≠ i1 → c ≠ i2 → s.heap.get? c = some o → h'.get? c = some o) → Q (some (.ref s.heap.objs.size)) { s with heap := h' }) :
    wpAny (model prog w) A (pyNext (.ref z)) Q E s := by
  have hT : s.TypeIs (.ref z) "zip" := ⟨_, hz, rfl⟩
  unfold pyNext
  exact wpAny_bind (wpAny_attempt (wpAny_callSpecial?_slot (name := Str.ofString "__next__") hT F.slot_zip_next
    (wpAny_call_entry F.slot_zip_next hT F.entry_zip_next (zipT_item D hz hTI hTO h1 h2 hx hy fun h' a1 a2 a3 a4 a5 a6 a7 => wpAny_pure (hQ h' a1 a2 a3 a4 a5 a6 a7)) (F.args_zip_next_1 _))))
theorem pyNext_zipT_end {z TI' TO i1 i2 l1 l2 : Addr} {k1 k2 : Nat} {xs ys : Array Value} {a b : Value} {Q : Option Value → Shared → Prop} (hh : A.handled = none) (D : ZipApart z TI' TO i1 i2 l1 l2)
    (hz : IsZip s.heap z TI' TO .none) (hTI : IsPair s.heap TI' (.ref i1) (.ref i2)) (hTO : IsPair s.heap TO a b) (h1 : TuI s.heap i1 l1 k1 xs) (h2 : TuI s.heap i2 l2 k2 ys) (hend : xs[k1]? = none ∨ ys[k2]? = none)
    (hQ : ∀ h', (∀ c o, c ≠ z → c ≠ TO → c ≠ i1 → c ≠ i2 → s.heap.get? c = some o → h'.get? c = some o) → Q none { s with heap := h' }) : wpAny (model prog w) A (pyNext (.ref z)) Q E s := by
  have hT : s.TypeIs (.ref z) "zip" := ⟨_, hz, rfl⟩
  unfold pyNext
  refine wpAny_bind (wpAny_attempt (wpAny_callSpecial?_slot (name := Str.ofString "__next__") hT F.slot_zip_next
    (wpAny_call_entry F.slot_zip_next hT F.entry_zip_next (zipT_end hh D hz hTI hTO h1 h2 hend fun h' e hk he => ?_) (F.args_zip_next_1 _))))
  obtain ⟨o, ho, hc⟩ := he
  refine wpAny_bind (wpAny_isInstance (T := "StopIteration") (b := true) ⟨o, ho, hc⟩ isSubtype_stop ?_)
  exact wpAny_pure (hQ _ hk)
end
abbrev zpT1 (h : Heap) (l1 : Addr) : Heap := h.push { cls := .type "tuple_iterator", data := .fields #[.ref l1, .int 0 0] }
abbrev zpT2 (h : Heap) (l1 l2 : Addr) : Heap := (zpT1 h l1).push { cls := .type "tuple_iterator", data := .fields #[.ref l2, .int 0 0] }
abbrev zpT3 (h : Heap) (l1 l2 : Addr) : Heap := (zpT2 h l1 l2).push { cls := .type "tuple", data := .seq #[.ref h.objs.size, .ref (zpT1 h l1).objs.size] }
abbrev zpT4 (h : Heap) (l1 l2 : Addr) : Heap := (zpT3 h l1 l2).push { cls := .type "tuple", data := .seq #[.none, .none] }
abbrev zpT5 (h : Heap) (l1 l2 : Addr) : Heap := (zpT4 h l1 l2).push { cls := .type "zip", data := .fields #[.none, .bool false, .bool false, .ref (zpT2 h l1 l2).objs.size, .ref (zpT3 h l1 l2).objs.size] }
theorem meets_zipT (l1 l2 : Addr) (xs ys : Array Value) :
    Meets (Builtin.«zip.__new__» ⟨[.type "zip", .ref l1, .ref l2], []⟩) (fun _ R s => s.heap.IsTuple l1 xs ∧ s.heap.IsTuple l2 ys ∧ R (.ok (.ret (.ref (zpT4 s.heap l1 l2).objs.size))) { s with heap := zpT5 s.heap l1 l2 }) :=
  .of_wp fun prog w A R s h => by
    obtain ⟨hp, g, d, tk, os⟩ := s; obtain ⟨hl1, hl2, h⟩ := h
    have hsub := sub_zip
    have hL1 : Heap.IsTuple (Shared.heap ⟨hp, g, d, tk, os⟩) l1 xs := hl1
    have hL2 : Heap.IsTuple (Shared.heap ⟨hp.push { cls := .type "tuple_iterator", data := .fields #[.ref l1, .int 0 0] }, g, d, tk, os⟩) l2 ys := Heap.IsTuple.push hl2 _
    wp_walk using wpAny_pyIter_tuple hL1, wpAny_pyIter_tuple hL2
    exact ⟨_, rfl, h⟩
section
variable {prog : Program} {w : World} {A : Around} {E : Value → Shared → Prop} {s : Shared}
theorem call_zipT {l1 l2 : Addr} {xs ys : Array Value} {Q : Value → Shared → Prop} (hl1 : s.heap.IsTuple l1 xs) (hl2 : s.heap.IsTuple l2 ys)
    (h : ∀ h', IsZip h' (s.heap.objs.size + 4) (s.heap.objs.size + 2) (s.heap.objs.size + 3) .none → IsPair h' (s.heap.objs.size + 2) (.ref s.heap.objs.size) (.ref (s.heap.objs.size + 1)) →
      IsPair h' (s.heap.objs.size + 3) .none .none → h'.IsTupleIter s.heap.objs.size l1 0 → h'.IsTupleIter (s.heap.objs.size + 1) l2 0 → h'.objs.size = s.heap.objs.size + 5 →
      (∀ c o, s.heap.get? c = some o → h'.get? c = some o) → Q (.ref (s.heap.objs.size + 4)) { s with heap := h' }) :
    wpAny (model prog w) A (call (.type "zip") [.ref l1, .ref l2]) Q E s := by
  refine callType_new F.called_zip (by decide) (F.typeCall_zip_2 _ _) (F.newCall_zip_2 _ _) (fun obj => F.args_object_init_3 obj _ _) F.entry_zip_new (meets_zipT l1 l2 xs ys) ⟨hl1, hl2, ?_⟩
  have z1 : (zpT1 s.heap l1).objs.size = s.heap.objs.size + 1 := Heap.size_push ..
  have z2 : (zpT2 s.heap l1 l2).objs.size = s.heap.objs.size + 2 := by rw [Heap.size_push, z1]
  have z3 : (zpT3 s.heap l1 l2).objs.size = s.heap.objs.size + 3 := by rw [Heap.size_push, z2]
  have z4 : (zpT4 s.heap l1 l2).objs.size = s.heap.objs.size + 4 := by rw [Heap.size_push, z3]
  have z5 : (zpT5 s.heap l1 l2).objs.size = s.heap.objs.size + 5 := by rw [Heap.size_push, z4]
  have g5 : (zpT5 s.heap l1 l2).get? (zpT4 s.heap l1 l2).objs.size = some _ := Heap.get?_push_size _ rfl
  have g4 : (zpT5 s.heap l1 l2).get? (zpT3 s.heap l1 l2).objs.size = some _ := Heap.get?_push_of_some _ (Heap.get?_push_size _ rfl)
  have g3 : (zpT5 s.heap l1 l2).get? (zpT2 s.heap l1 l2).objs.size = some _ := Heap.get?_push_of_some _ (Heap.get?_push_of_some _ (Heap.get?_push_size _ rfl))
  have g2 : (zpT5 s.heap l1 l2).get? (zpT1 s.heap l1).objs.size = some _ := Heap.get?_push_of_some _ (Heap.get?_push_of_some _ (Heap.get?_push_of_some _ (Heap.get?_push_size _ rfl)))
  have g1 : (zpT5 s.heap l1 l2).get? s.heap.objs.size = some _ := Heap.get?_push_of_some _ (Heap.get?_push_of_some _ (Heap.get?_push_of_some _ (Heap.get?_push_of_some _ (Heap.get?_push_size _ rfl))))
  have kk : ∀ c o, s.heap.get? c = some o → (zpT5 s.heap l1 l2).get? c = some o := fun c o e => Heap.get?_push_of_some _ (Heap.get?_push_of_some _ (Heap.get?_push_of_some _ (Heap.get?_push_of_some _ (Heap.get?_push_of_some _ e))))
  show _ ∧ _
  rw [z2, z3, z4] at g5
  rw [z1, z2] at g3
  rw [z3] at g4
  rw [z1] at g2
  rw [z4]
  exact ⟨⟨_, g5, rfl⟩, h _ g5 g3 g4 ⟨_, g1, rfl, rfl⟩ ⟨_, g2, rfl, rfl⟩ z5 kk⟩
end
/-! ### the walk -/
def ItzT (K : PySem.W.Frag) (a b : Addr) : It :=
  ⟨fun i H => ∃ xs ys x y, SqT K H a xs ∧ SqT K H b ys ∧ xs[i]? = some x ∧ ys[i]? = some y, fun i H x H' => ∃ p y z, x = .ref p ∧ H p = none ∧ H' = upd H p (.tup [y, z]) ∧ (∀ xs, SqT K H a xs → xs[i]? = some y) ∧ ∀ ys, SqT K H b ys → ys[i]? = some z,
    fun i H => ∃ xs ys, SqT K H a xs ∧ SqT K H b ys ∧ (xs.length ≤ i ∨ ys.length ≤ i)⟩
theorem wk_zipT {K : PySem.W.Frag} {a b : Addr} {xs ys : List V} (h : xs.length = ys.length) : Wk (ItzT K a b) xs.length (fun H => SqT K H a xs ∧ SqT K H b ys) :=
  ⟨fun _ _ q hi => ⟨xs, ys, q.1, q.2, .inl hi⟩, fun i _ q hi => ⟨xs, ys, xs[i], ys[i]'(by omega), q.1, q.2, by simp [hi], by simp⟩⟩
theorem turn_zipT {P : Program} {w : World} {K : PySem.W.Frag} {elts : List Expr} {x1 : Nat} {pos : Pos} (a b z T TO i1 i2 : Addr) (D : ZipApart z T TO i1 i2 a b) : Turn P w K (.Tuple elts x1 pos) (ItzT K a b) [z, T, TO, i1, i2] z
    (fun i h => IsZip h z T TO .none ∧ IsPair h T (.ref i1) (.ref i2) ∧ (∃ u v, IsPair h TO u v) ∧ h.IsTupleIter i1 a i ∧ h.IsTupleIter i2 b i) where
  mem := by simp
  obj := fun i h st c hc => by
    obtain ⟨h1, h2, ⟨u, v, h3⟩, ⟨o4, h4, c4, d4⟩, ⟨o5, h5, c5, d5⟩⟩ := st
    simp only [List.mem_cons, List.not_mem_nil, or_false] at hc
    rcases hc with rfl | rfl | rfl | rfl | rfl
    · exact ⟨_, h1, fun v q => by have q' : Data.fields _ = Data.cell v := q; cases q'⟩
    · exact ⟨_, h2, fun v q => by have q' : Data.seq _ _ = Data.cell v := q; cases q'⟩
    · exact ⟨_, h3, fun v q => by have q' : Data.seq _ _ = Data.cell v := q; cases q'⟩
    · exact ⟨o4, h4, fun v q => by rw [d4] at q; cases q⟩
    · exact ⟨o5, h5, fun v q => by rw [d5] at q; cases q⟩
  keep := fun i h h' st k => by
    obtain ⟨h1, h2, ⟨u, v, h3⟩, h4, h5⟩ := st
    exact ⟨k z (by simp) _ h1, k T (by simp) _ h2, ⟨u, v, k TO (by simp) _ h3⟩, h4.at fun o q => k i1 (by simp) o q, h5.at fun o q => k i2 (by simp) o q⟩
  item := by
    intro X hP hw hK hc i pins s σ H E I hf st hg
    subst hP hw hK
    obtain ⟨xs, ys, x, y, hq, hq2, hx, hy⟩ := hg
    obtain ⟨its, rv, p, hz⟩ := I.tuple hq
    obtain ⟨its2, rv2, p2, hz2⟩ := I.tuple hq2
    obtain ⟨u, hu, ru⟩ := rv.get hx
    obtain ⟨v, hv, rw'⟩ := rv2.get hy
    obtain ⟨h1, h2, ⟨u0, v0, h3⟩, h4, h5⟩ := st
    have lz : z < s.heap.objs.size := Heap.lt_size h1
    have lTI : T < s.heap.objs.size := Heap.lt_size h2
    have lTO : TO < s.heap.objs.size := Heap.lt_size h3
    have l1 : i1 < s.heap.objs.size := by obtain ⟨o, e, _⟩ := id h4; exact Heap.lt_size e
    have l2 : i2 < s.heap.objs.size := by obtain ⟨o, e, _⟩ := id h5; exact Heap.lt_size e
    refine pyNext_zipT D h1 h2 h3 ⟨h4, show s.heap.IsTuple a its.toArray from p⟩ ⟨h5, show s.heap.IsTuple b its2.toArray from p2⟩ (x := u) (y := v) (by simpa using hu) (by simpa using hv) fun h' g1 g3 g4 g5 gT gz gk => ?_
    refine ⟨_, rfl, wpAny_letOwnedTupleGo_zip g1 fun h6 g6 hs => ?_⟩
    replace hs : Heap.SameBut z h' h6 := hs
    have hT : h6.get? s.heap.objs.size = some { cls := .type "tuple", data := .seq #[u, v] } := (hs.2 _ (Nat.ne_of_gt lz)).trans gT
    have kk : ∀ c o, c ∉ [z, T, TO, i1, i2] → s.heap.get? c = some o → h6.get? c = some o := fun c o hc q => by
      have n1 : c ≠ z := fun e => hc (by simp [e])
      have n3 : c ≠ TO := fun e => hc (by simp [e])
      have n4 : c ≠ i1 := fun e => hc (by simp [e])
      have n5 : c ≠ i2 := fun e => hc (by simp [e])
      exact (hs.2 c n1).trans (gk c o n1 n3 n4 n5 q)
    have new : ObjOk X.prog X.w (upd H s.heap.objs.size (.tup [x, y])) h6 s.heap.objs.size (.tup [x, y]) :=
      ⟨Nat.le_of_lt (small1000 (show 2 ≤ 1000 by decide)), [u, v], .cons ru (.cons rw' .nil), _, hT, rfl, _, rfl⟩
    have gTI : h6.get? T = some _ := (hs.2 T D.TIz).trans (gk T _ D.TIz D.TITO D.TIi1 D.TIi2 h2)
    refine ⟨.ref s.heap.objs.size, _, I.turnedLaid (t' := s.toks) hf kk (Nat.le_refl _) new, rfl, ⟨_, x, y, rfl, I.fresh, rfl, fun zs hzs => by rw [I.tuple_inj hzs hq]; exact hx, fun zs hzs => by rw [I.tuple_inj hzs hq2]; exact hy⟩, ⟨g6, gTI, ⟨_, _, (hs.2 TO D.TOz).trans g3⟩, g4.at fun o q => (hs.2 i1 D.i1z).trans q, g5.at fun o q => (hs.2 i2 D.i2z).trans q⟩, fun c hc => ?_⟩
    have lc : c < s.heap.objs.size := by
      have hc' := hc
      simp only [List.mem_cons, List.not_mem_nil, or_false] at hc'
      rcases hc' with rfl | rfl | rfl | rfl | rfl <;> assumption
    rw [upd_ne (Nat.ne_of_lt lc)]
    exact (hf c hc).1
  done := by
    intro X hP hw hK hc i pins s σ H E I hf st hg
    subst hP hw hK
    obtain ⟨xs, ys, hq, hq2, hx⟩ := hg
    obtain ⟨its, rv, p, hz⟩ := I.tuple hq
    obtain ⟨its2, rv2, p2, hz2⟩ := I.tuple hq2
    obtain ⟨h1, h2, ⟨u0, v0, h3⟩, h4, h5⟩ := st
    have hl := rv.length
    have hl2 := rv2.length
    refine pyNext_zipT_end (I.ok.hd hc) D h1 h2 h3 ⟨h4, show s.heap.IsTuple a its.toArray from p⟩ ⟨h5, show s.heap.IsTuple b its2.toArray from p2⟩ (hx.elim (fun q => .inl (by simp; omega)) fun q => .inr (by simp; omega)) fun h' gk => ⟨rfl, ?_⟩
    have un : Un (frs X.stack) [z, T, TO, i1, i2] H H s.heap h' := ⟨fun c o q _ _ hc => gk c o (fun e => hc (by simp [e])) (fun e => hc (by simp [e])) (fun e => hc (by simp [e])) (fun e => hc (by simp [e])) q,
      fun c o q _ _ hc => ⟨o.slots, gk c o (fun e => hc (by simp [e])) (fun e => hc (by simp [e])) (fun e => hc (by simp [e])) (fun e => hc (by simp [e])) q⟩, fun _ _ _ n _ => n,
      fun c o q hc => ⟨o, gk c o (fun e => hc (by simp [e])) (fun e => hc (by simp [e])) (fun e => hc (by simp [e])) (fun e => hc (by simp [e])) q⟩, fun _ _ q => q, fun _ _ _ q => q, fun _ ps q => ⟨#[], by rw [q]; simp⟩⟩
    have nfp : ∀ c u, H c = some u → c ∉ [z, T, TO, i1, i2] := fun c u e q => by rw [(hf c q).1] at e; cases e
    have hok : HOk X.prog X.w H h' := fun c u e => by
      refine (I.hok c u e).stay (fun d v hd q => ?_) (fun _ q => q) fun _ _ q => q
      have nd : d ∉ [z, T, TO, i1, i2] := by
        rcases hd with r | r
        · rw [r]; exact nfp c u e
        · exact nfp d _ r
      exact gk d v (fun e => nd (by simp [e])) (fun e => nd (by simp [e])) (fun e => nd (by simp [e])) (fun e => nd (by simp [e])) q
    exact I.call (g' := s.gens) (d' := s.drawn) (t' := s.toks) (ch := [z, T, TO, i1, i2]) un hok I.bare fun c hc => ⟨(hf c hc).2.2.2.1, (hf c hc).2.1, (hf c hc).2.2.2.2.1, (hf c hc).2.2.2.2.2⟩
  self := fun _ _ _ _ _ st h => wpAny_pyIter_zip st.1 h
def iZipT (K : PySem.W.Frag) (ta : TA) : L2.TI := fun σ H R => ta σ H fun vs H1 => ∃ a b, vs = [.ref a, .ref b] ∧ (∃ xs, SqT K H1 a xs) ∧ (∃ ys, SqT K H1 b ys) ∧ R (ItzT K a b) H1
theorem pi_zipT {X : Cx} {elts : List Expr} {x1 : Nat} {pt : Pos} {a b : Expr} {ta : TA} {p pos : Pos} (hg : Gl X "zip") (hm : X.mg "zip" = none) (ha : PA X [a, b] ta) (hs : starEach [a, b] X.env = [(false, eval a X.env), (false, eval b X.env)] := by rfl) (hs2 : starEach [b] X.env = [(false, eval b X.env)] := by rfl) : PI X (.Tuple elts x1 pt) (.Call (.Name "zip" p) [a, b] [] pos) (iZipT X.K ta) := by
  intro pins s σ H R I h
  refine Call_ (ld_blt I hg hm boot_zip (PyProof.Rows.callWith_type1 (thn (ha pos pins s σ H _ I h) fun us s1 ⟨vs, H1, I1, r1, q1⟩ => ?_) (by rw [hs, hs2]) (by rw [hs2]; rfl)))
  obtain ⟨a, b, e, ⟨xs, hq⟩, ⟨ys, hq2⟩, q⟩ := q1
  subst e
  obtain ⟨u, v, rfl, ru, rv'⟩ := r1.two
  cases ru
  cases rv'
  obtain ⟨its, rv, pl, hz⟩ := I1.tuple hq
  obtain ⟨its2, rv2, pl2, hz2⟩ := I1.tuple hq2
  have la : a < s1.heap.objs.size := by obtain ⟨o, e, _⟩ := pl; exact Heap.lt_size e
  have lb : b < s1.heap.objs.size := by obtain ⟨o, e, _⟩ := pl2; exact Heap.lt_size e
  refine call_zipT (show s1.heap.IsTuple a its.toArray from pl) (show s1.heap.IsTuple b its2.toArray from pl2) fun h' h1 h2 h3 h4 h5 hz' kk => ?_
  refine wpAny_pyIter_zip h1 ?_
  have I2 : Inv X pins σ H1 { s1 with heap := h' } := I1.kept (t' := s1.toks) kk
  refine ⟨_, _, _, ItzT X.K a b, H1, rfl, I2, turn_zipT a b _ _ _ _ _ (zipApart_new la lb), ⟨h1, h2, ⟨_, _, h3⟩, h4, h5⟩, fun c hc => ?_, q⟩
  have hle : s1.heap.objs.size ≤ c := by
    simp only [List.mem_cons, List.not_mem_nil, or_false] at hc
    rcases hc with rfl | rfl | rfl | rfl | rfl
    · exact Nat.le_add_right _ _
    · exact Nat.le_add_right _ _
    · exact Nat.le_add_right _ _
    · exact Nat.le_refl _
    · exact Nat.le_add_right _ _
  exact I1.fpOk hle (I1.hok.fresh hle)
end L2

/-! law k12, first part: Groups. Behind Jn. -/
namespace K12
open PySem L2
def top (i : Nat) : Stmt := PySem.Challenge.pw_yesorno_k12_each_link_right.main.body.getD i (.Pass ⟨0, 0, 0, 0⟩)
abbrev s_init : Stmt := inClass (top 1) 0
abbrev s_head : Stmt := inClass (top 1) 1
abbrev s_together : Stmt := inClass (top 1) 2
abbrev s_merge : Stmt := inClass (top 1) 3
abbrev s_given_links : Stmt := top 2
abbrev s_alike_links : Stmt := top 3
abbrev s_links : Stmt := top 4
abbrev s__law_cell_at : Stmt := top 6
abbrev s__law_mixed : Stmt := top 7
abbrev s__law_whole : Stmt := top 8
abbrev s__law_word : Stmt := top 9
abbrev s__law_names : Stmt := top 10
abbrev s__law_term : Stmt := top 11
abbrev s__law_terms : Stmt := top 12
abbrev s__law_many_by : Stmt := top 13
abbrev s__law_twin_parts : Stmt := top 14
abbrev s__law_given : Stmt := top 15
abbrev s__law_relabelled : Stmt := top 16
abbrev s__law_alike : Stmt := top 17
abbrev s__law_triple : Stmt := top 18
abbrev s__law_right : Stmt := top 19
abbrev s_law : Stmt := top 20
structure TxG (K : PySem.W.Frag) (mg : Str → Option Value) (C : Addr) : Prop where
  cl : Cls K C
  nL : NoAttr K C "least"
  nG : NoAttr K C "gathered"
  min : mg "min" = none
  max : mg "max" = none
  range : mg "range" = none
structure Txt (K : PySem.W.Frag) (mg : Str → Option Value) : Prop where
  len : mg "len" = none
  list : mg "list" = none
  range : mg "range" = none
  isinstance : mg "isinstance" = none
  int : mg "int" = none
  bool : mg "bool" = none
  min : mg "min" = none
  max : mg "max" = none
  tuple : mg "tuple" = none
  enumerate : mg "enumerate" = none
  zip : mg "zip" = none
  ib : PySem.W.kitOne K (.type "int") (.type "bool") = some false
/-! the class Groups; groups_of, joined, heads -/
def sp_init (C : Addr) : Sp := fun vs H Q _ => ∃ (g dx : Addr), vs = [.ref g] ∧ H g = some (.ins C dx []) ∧ ∀ (H' : Hp) (ld gd : Addr), (∀ b o, b ≠ g → H b = some o → H' b = some o) → H ld = none → H gd = none → ld ≠ gd → H' g = some (.ins C dx [("least", .ref ld), ("gathered", .ref gd)]) → H' ld = some (.dK []) → H' gd = some (.dK []) → Q .non H'
theorem sc_init : FnScope ["self"] ["self"] (defScope s_init) := ⟨rfl, rfl, rfl, by decide +kernel, rfl, by decide +kernel, by decide +kernel⟩
section
variable {P : Program} {w : World} {K : PySem.W.Frag} {mg : Str → Option Value} {base : Heap} {C f fH fT fM fI fG : Addr} {fd dH dT' dM dI dG : FuncData}
theorem ok_init (F : Fun K "__init__" "Groups.__init__" s_init f fd) (T : TxG K mg C) : FnOk P w K mg base CX0 1 f fd ["self"] (sp_init C) := by
  refine F.ok sc_init (fun vs H Q E h => ?_) (fun cdv A outer s H vs Q E hr h => ?_)
  · obtain ⟨g, dx, rfl, _⟩ := h
    rfl
  obtain ⟨g, dx, rfl, hg, q⟩ := h
  refine ⟨_, (pss_cons (ps_fld (pv 0) pe_dnewK rfl)
    (pss_one (ps_fld (pv 0) pe_dnewK rfl))), ?_⟩
  refine fun ld hld => ?_
  have n1 : g ≠ ld := ne_of_none hg hld
  have hg1 : (upd H ld (.dK [])) g = some (.ins C dx []) := by rw [upd_ne n1]; exact hg
  have k1 : ∀ b o, H b = some o → (upd H ld (.dK [])) b = some o := sameNew hld _
  have hl1 := upd_same (H := H) (a := ld) (o := .dK [])
  generalize upd H ld (.dK []) = H1 at hg1 k1 hl1
  refine ⟨_, rfl, g, C, dx, _, rfl, hg1, T.cl, T.nL, (by decide), ?_⟩
  have hg2 : (upd H1 g (.ins C dx (putF "least" (.ref ld) []))) g = some (.ins C dx [("least", .ref ld)]) := upd_same
  have hl2 : (upd H1 g (.ins C dx (putF "least" (.ref ld) []))) ld = some (.dK []) := by rw [upd_ne (Ne.symm n1)]; exact hl1
  have k2 : ∀ b o, b ≠ g → H b = some o → (upd H1 g (.ins C dx (putF "least" (.ref ld) []))) b = some o := fun b o nb h => by rw [upd_ne nb]; exact k1 b o h
  have f2 : ∀ b, (upd H1 g (.ins C dx (putF "least" (.ref ld) []))) b = none → H b = none := fun b h => by
    cases e : H b with
    | none => rfl
    | some o =>
      by_cases z : b = g
      · rw [z, hg2] at h; cases h
      · rw [k2 b o z e] at h; cases h
  generalize upd H1 g (.ins C dx (putF "least" (.ref ld) [])) = H2 at hg2 hl2 k2 f2
  refine fun gd hgd => ?_
  have n3 : g ≠ gd := ne_of_none hg2 hgd
  have n4 : ld ≠ gd := ne_of_none hl2 hgd
  refine ⟨_, rfl, g, C, dx, _, rfl, by rw [upd_ne n3]; exact hg2, T.cl, T.nG, (by show 1 < 1000; decide), ?_⟩
  refine q _ ld gd (fun b o nb h => ?_) hld (f2 gd hgd) n4 upd_same (by rw [upd_ne (Ne.symm n1), upd_ne n4]; exact hl2) (by rw [upd_ne (Ne.symm n3)]; exact upd_same)
  have nbg : b ≠ gd := fun z => by rw [z, f2 gd hgd] at h; cases h
  rw [upd_ne nb, upd_ne nbg]
  exact k2 b o nb h
def sp_head (C : Addr) : Sp := fun vs H Q _ => ∃ (g ld gd : Addr) (t : Int) (N b : Nat) (hd : Int → Int) (av : List Addr), vs = [.ref g, .int t] ∧ GO H C g ld gd N b hd av ∧ Q (.int (hd t)) H
theorem sc_head : FnScope ["self", "term"] ["self", "term"] (defScope s_head) := ⟨rfl, rfl, rfl, by decide +kernel, rfl, by decide +kernel, by decide +kernel⟩
theorem ok_head (F : Fun K "head" "Groups.head" s_head f fd) (T : TxG K mg C) : FnOk P w K mg base CX0 1 f fd ["self", "term"] (sp_head C) := by
  refine F.ok sc_head (fun vs H Q E h => ?_) (fun cdv A outer s H vs Q E hr h => ?_)
  · obtain ⟨g, ld, gd, t, N, b, hd, av, rfl, _⟩ := h
    rfl
  obtain ⟨g, ld, gd, t, N, b, hd, av, rfl, G, q⟩ := h
  have hu := hu_of hr
  obtain ⟨dx, kl, kg, h1, h2, h3, h4, h5, h6, h7⟩ := G.ex
  refine ⟨_, (pss_one (ps_ret (pe_dget2 hu (pe_fld (pv 0) rfl) (pv 1) (pv 1) ⟨rfl, rfl, rfl, rfl⟩))), ?_⟩
  refine ⟨_, rfl, g, C, dx, _, _, rfl, h1, T.cl, T.nL, rfl, ld, rfl, .inl ⟨kl, .inl h2⟩, _, rfl, _, rfl, _, DGet.k (k := Sum.inl t) h2, ?_⟩
  rw [h4]
  exact q
def sp_together (C : Addr) : Sp := fun vs H Q _ => ∃ (g ld gd : Addr) (t u : Int) (N b : Nat) (hd : Int → Int) (av : List Addr), vs = [.ref g, .int t, .int u] ∧ GO H C g ld gd N b hd av ∧ Q (.bl (decide (hd t = hd u))) H
theorem sc_together : FnScope ["self", "one", "other"] ["self", "one", "other"] (defScope s_together) := ⟨rfl, rfl, rfl, by decide +kernel, rfl, by decide +kernel, by decide +kernel⟩
theorem decV (x y : Int) : decide (V.int x = V.int y) = decide (x = y) := decide_eq_decide.mpr ⟨fun z => by injection z, fun z => by rw [z]⟩
theorem ok_together (F : Fun K "together" "Groups.together" s_together f fd) (T : TxG K mg C) (M : Meth K C "head" fH) (Bh : FnOk P w K mg base CX0 1 fH dH ["self", "term"] (sp_head C)) (bh : Binds K dH ["self", "term"] []) : FnOk P w K mg base CX0 2 f fd ["self", "one", "other"] (sp_together C) := by
  refine F.ok sc_together (fun vs H Q E h => ?_) (fun cdv A outer s H vs Q E hr h => ?_)
  · obtain ⟨g, ld, gd, t, u, N, b, hd, av, rfl, _⟩ := h
    rfl
  obtain ⟨g, ld, gd, t, u, N, b, hd, av, rfl, G, q⟩ := h
  obtain ⟨dx, kl, kg, h1, h2, h3, h4, h5, h6, h7⟩ := G.ex
  refine ⟨_, (pss_one (ps_ret (pe_cmpR op_eq (pe_meth (pv 0) T.cl M Bh hr bh .nil pass0 (pa_cons (pv 1) pa_nil)) (pe_meth (pv 0) T.cl M Bh hr bh .nil pass0 (pa_cons (pv 2) pa_nil)) (nomark _)))), ?_⟩
  refine ⟨_, rfl, g, dx, _, rfl, h1, rfl, _, rfl, g, ld, gd, t, N, b, hd, av, rfl, G, _, rfl, g, dx, _, rfl, h1, rfl, _, rfl, g, ld, gd, u, N, b, hd, av, rfl, G, rfl, ?_⟩
  rw [decV]
  exact q
def sp_merge (C : Addr) : Sp := fun vs H Q _ => ∃ (g ld gd : Addr) (t u : Int) (N b : Nat) (hd : Int → Int) (av : List Addr), vs = [.ref g, .int t, .int u] ∧ GO H C g ld gd N b hd av ∧ (0 ≤ t ∧ t < (N : Int)) ∧ (0 ≤ u ∧ u < (N : Int)) ∧ N ≤ 100 ∧ b ≤ 1000 ∧ (∀ a ∈ av, H a ≠ none) ∧ ∀ H', SameG ld gd H H' → GO H' C g ld gd N (b + 1) (mrg hd t u) av → Q .non H'
theorem sc_merge : FnScope ["self", "one", "other", "low", "high", "moved", "term"] ["self", "one", "other"] (defScope s_merge) := ⟨rfl, rfl, rfl, by decide +kernel, rfl, by decide +kernel, by decide +kernel⟩
theorem line3 {n : Nat} (h : n ≤ 200000) : n ≤ sizeLine := by rw [sizeLine_eq]; omega
theorem line4 {n : Nat} (h : n ≤ 200000) : n < sizeLine := by rw [sizeLine_eq]; omega
set_option maxHeartbeats 1000000 in
theorem merge3 (T : TxG K mg C) {cdv : Value} {A : Around} {outer : List Env} {s : Shared} {H0 : Hp} {E : XK} (hr : Room 1 (A.deeper (PyProof.Rows.envOfC "Groups.merge" (defScope s_merge) s.heap.objs.size f cdv))) :
    ∃ z, PSs (cxOf CX0 P w K mg base ["self", "one", "other", "low", "high", "moved", "term"] "Groups.merge" (defScope s_merge) f cdv A outer s H0 E).nox ((defBody s_merge).drop 3) z ∧
      ∀ (D : Ends) (H : Hp) (g ld gd : Addr) (t u : Int) (N b : Nat) (hd : Int → Int) (av : List Addr), GO H C g ld gd N b hd av → (0 ≤ t ∧ t < (N : Int)) → (0 ≤ u ∧ u < (N : Int)) → N ≤ 100 → b ≤ 1000 → loF (hd t) (hd u) ≠ hiF (hd t) (hd u) → (∀ a ∈ av, H a ≠ none) → (∀ H' σ', SameG ld gd H H' → GO H' C g ld gd N (b + 1) (mrg hd t u) av → D.nx σ' H') →
        z D [some (.ref g), some (.int t), some (.int u), some (.int (loF (hd t) (hd u))), some (.int (hiF (hd t) (hd u))), none, none] H := by
  have hu := hu_of hr
  refine ⟨_, (pss_cons (ps_set (i := 5) sc_merge.nd rfl (Or.inl rfl) (pe_dget2 hu (pe_fld (pv 0) rfl) (pv 4) (pe_lst (pa_cons (pv 4) pa_nil)) ⟨rfl, rfl, rfl, rfl⟩))
    (pss_cons (ps_for PassesOwn.never rfl (pi_list (pv 5)) (pg_name (i := 6) sc_merge.nd rfl (Or.inl rfl))
      (pss_one (ps_dput hu (pe_fld (pv 0) rfl) (pv 6) (pv 3) rfl)))
    (pss_one (ps_dput hu (pe_fld (pv 0) rfl) (pv 3) (pe_op op_cat (pe_dget2 hu (pe_fld (pv 0) rfl) (pv 3) (pe_lst (pa_cons (pv 3) pa_nil)) ⟨rfl, rfl, rfl, rfl⟩) (pv 5)) rfl)))), ?_⟩
  rintro D H g ld gd t u N b hd av G ht hu' N100 b1000 e hav q
  obtain ⟨dx, kl, kg, h1, h2, h3, h4, h5, h6, h7⟩ := G.ex
  have bN : b * N ≤ 100000 := Nat.mul_le_mul b1000 N100
  obtain ⟨mh, k1, k2, k3⟩ := h5 _ (G.h.hi_id t u)
  obtain ⟨ml, l1, l2, l3⟩ := h5 _ (G.h.lo_id t u)
  have tN := G.h.in' ht
  have uN := G.h.in' hu'
  have lh := lohi (hd t) (hd u)
  have mhl := mem_len G.h (x := hiF (hd t) (hd u)) (by omega) k1 k2
  have mll := mem_len G.h (x := loF (hd t) (hd u)) (by omega) l1 l2
  have ngl : g ≠ ld := ne_of h1 h2 (by intro z; cases z)
  have ngg : g ≠ gd := ne_of h1 h3 (by intro z; cases z)
  refine ⟨_, rfl, g, C, dx, _, _, rfl, h1, T.cl, T.nG, rfl, gd, rfl, .inl ⟨kg, .inl h3⟩, _, rfl, _, rfl, (by show 1 ≤ sizeLine; decide), fun l hl => ?_⟩
  have s1 : Same H (upd H l (.lst [.int (hiF (hd t) (hd u))])) := sameNew hl _
  have n1 : (upd H l (.lst [.int (hiF (hd t) (hd u))])) l = some (.lst ([hiF (hd t) (hd u)].map V.int)) := upd_same
  generalize upd H l (.lst [.int (hiF (hd t) (hd u))]) = H1 at s1 n1
  obtain ⟨am, eam, ham⟩ : ∃ am, (valV kg (Sum.inl (hiF (hd t) (hd u)))).getD (.ref l) = .ref am ∧ H1 am = some (.lst (mh.map V.int)) := by
    rcases k3 with ⟨k3, k4⟩ | ⟨a, k3, k4, _⟩
    · rw [k3]
      refine ⟨l, rfl, ?_⟩
      rw [k4]
      exact n1
    · rw [k3]
      exact ⟨a, rfl, s1 _ _ k4⟩
  refine ⟨_, DGet.k (k := Sum.inl (hiF (hd t) (hd u))) (s1 _ _ h3), ?_⟩
  rw [eam]
  have G1 := G.same s1
  have h11 := s1 _ _ h1
  have h21 := s1 _ _ h2
  have h31 := s1 _ _ h3
  have nal : am ≠ ld := ne_of ham h21 (by intro z; cases z)
  have nag : am ≠ gd := ne_of ham h31 (by intro z; cases z)
  refine ⟨_, rfl, am, rfl, ⟨_, SqL.of ham⟩, for_by wk_list (fun i σ H' => ∃ (v6 : Option V) (kl' : List (Key × V)), σ = [some (.ref g), some (.int t), some (.int u), some (.int (loF (hd t) (hd u))), some (.int (hiF (hd t) (hd u))), some (.ref am), v6] ∧ SameX ld H1 H' ∧ H' ld = some (.dK kl') ∧ kl'.length ≤ kl.length + i ∧ ∀ x : Int, (valV kl' (Sum.inl x)).getD (.int x) = .int (if x ∈ mh.take i then loF (hd t) (hd u) else hd x)) (fun i σ H' ⟨_, _, _, sx, _⟩ => SqL.of (sx _ _ nal ham)) ⟨none, kl, rfl, SameX.refl _ _, h21, Nat.le_refl _, fun x => by simpa using h4 x⟩ ?_ ?_⟩
  · rintro i σ H2 x H3 hi ⟨v6, kl', rfl, sx, hl2, ll, hv⟩ ⟨rfl, hx⟩
    obtain ⟨k, hk, rfl⟩ := ints_at (hx _ (SqL.of (sx _ _ nal ham)))
    rw [List.length_map] at hi
    refine ⟨_, rfl, _, rfl, g, C, dx, _, _, rfl, sx _ _ ngl h11, T.cl, T.nL, rfl, _, rfl, ld, _, rfl, DPut.k (k := Sum.inl k) hl2 (line4 (by omega)), _, _, rfl, sx.trans (SameX.put _ _), upd_same, ?_, fun x => ?_⟩
    · have := putK_len kl' (Sum.inl k) (.int (loF (hd t) (hd u)))
      show (putK kl' (Sum.inl k) (.int (loF (hd t) (hd u)))).length ≤ _
      omega
    · rw [valV_put, take_snoc hk]
      by_cases z : x = k
      · subst z
        rw [if_pos rfl, if_pos (List.mem_append_right _ List.mem_cons_self)]
        rfl
      · rw [if_neg (fun w => z (by injection w)), hv]
        congr 1
        by_cases w : x ∈ mh.take i
        · rw [if_pos w, if_pos (List.mem_append_left _ w)]
        · rw [if_neg w, if_neg (fun y => by
            rcases List.mem_append.mp y with y | y
            · exact w y
            · exact z (List.mem_singleton.mp y))]
  · rintro σ H2 ⟨v6, kl', rfl, sx, hl2, ll, hv⟩
    rw [List.length_map] at ll
    rw [List.length_map, List.take_of_length_le (Nat.le_refl _)] at hv
    have h12 := sx _ _ ngl h11
    have h32 := sx _ _ (Ne.symm G.ne) h31
    have ham2 := sx _ _ nal ham
    refine ⟨_, rfl, g, C, dx, _, _, rfl, h12, T.cl, T.nG, rfl, gd, rfl, .inl ⟨kg, .inl h32⟩, _, rfl, _, rfl, (by show 1 ≤ sizeLine; decide), fun l2' hl2' => ?_⟩
    have s3 : Same H2 (upd H2 l2' (.lst [.int (loF (hd t) (hd u))])) := sameNew hl2' _
    have n3 : (upd H2 l2' (.lst [.int (loF (hd t) (hd u))])) l2' = some (.lst ([loF (hd t) (hd u)].map V.int)) := upd_same
    generalize upd H2 l2' (.lst [.int (loF (hd t) (hd u))]) = H3 at s3 n3
    obtain ⟨al, eal, hal⟩ : ∃ al, (valV kg (Sum.inl (loF (hd t) (hd u)))).getD (.ref l2') = .ref al ∧ H3 al = some (.lst (ml.map V.int)) := by
      rcases l3 with ⟨l3, l4⟩ | ⟨a, l3, l4, _⟩
      · rw [l3]
        refine ⟨l2', rfl, ?_⟩
        rw [l4]
        exact n3
      · rw [l3]
        have na : a ≠ ld := ne_of l4 h2 (by intro z; cases z)
        exact ⟨a, rfl, s3 _ _ (sx _ _ na (s1 _ _ l4))⟩
    refine ⟨_, DGet.k (k := Sum.inl (loF (hd t) (hd u))) (s3 _ _ h32), ?_⟩
    rw [eal]
    refine ⟨_, rfl, al, am, _, _, rfl, rfl, hal, s3 _ _ ham2, line3 (by rw [List.length_map, List.length_map]; omega), fun p hp => ?_⟩
    rw [← List.map_append]
    have s4 : Same H3 (upd H3 p (.lst ((ml ++ mh).map V.int))) := sameNew hp _
    have n4 := upd_same (H := H3) (a := p) (o := .lst ((ml ++ mh).map V.int))
    generalize upd H3 p (.lst ((ml ++ mh).map V.int)) = H4 at s4 n4
    have s24 := s3.trans s4
    have h14 := s24 _ _ h12
    have h34 := s24 _ _ h32
    have hl4 := s24 _ _ hl2
    have npg : p ≠ gd := ne_of n4 h34 (by intro z; cases z)
    refine ⟨_, rfl, g, C, dx, _, _, rfl, h14, T.cl, T.nG, rfl, _, rfl, gd, _, rfl, DPut.k (k := Sum.inl (loF (hd t) (hd u))) h34 (line4 (by omega)), ?_⟩
    refine q _ _ ?_ ?_
    · intro b' o' nb1 nb2 hb
      rw [upd_ne nb2]
      exact s24 _ _ (sx _ _ nb1 (s1 _ _ hb))
    · have l4 : kl'.length ≤ (b + 1) * N := by
        rw [Nat.add_mul, Nat.one_mul]
        omega
      refine GO.merged (kl := kl') (kg := kg) (p := p) (ml := ml) (mh := mh) (dx := dx) G.h G.ne ht hu' e (by rw [upd_ne ngg]; exact h14) (by rw [upd_ne G.ne]; exact hl4) upd_same hv (fun x hx => ?_) l1 l2 k1 k2 (by rw [upd_ne npg]; exact n4) l4 (by omega) (fun z => ?_)
      · obtain ⟨ms, m1, m2, m3⟩ := h5 x hx
        refine ⟨ms, m1, m2, ?_⟩
        rcases m3 with m3 | ⟨a, m3, m4, m5⟩
        · exact .inl m3
        · have na : a ≠ ld := ne_of m4 h2 (by intro z; cases z)
          have ng : a ≠ gd := ne_of m4 h3 (by intro z; cases z)
          exact .inr ⟨a, m3, (by rw [upd_ne ng]; exact s24 _ _ (sx _ _ na (s1 _ _ m4))), m5⟩
      · cases eo : H p with
        | none => exact hav p z eo
        | some o =>
          by_cases c : p = ld
          · rw [c, s3 _ _ hl2] at hp
            cases hp
          · rw [s3 _ _ (sx _ _ c (s1 _ _ eo))] at hp
            cases hp
theorem ok_merge (F : Fun K "merge" "Groups.merge" s_merge f fd) (T : TxG K mg C) (M : Meth K C "head" fH) (Bh : FnOk P w K mg base CX0 1 fH dH ["self", "term"] (sp_head C)) (bh : Binds K dH ["self", "term"] []) : FnOk P w K mg base CX0 2 f fd ["self", "one", "other"] (sp_merge C) := by
  refine F.ok sc_merge (fun vs H Q E h => ?_) (fun cdv A outer s H vs Q E hr h => ?_)
  · obtain ⟨g, ld, gd, t, u, N, b, hd, av, rfl, _⟩ := h
    rfl
  obtain ⟨g, ld, gd, t, u, N, b, hd, av, rfl, G, ht, hu', N100, b1000, hav, q⟩ := h
  have hu := hu_of hr
  obtain ⟨dx, kl, kg, h1, h2, h3, h4, h5, h6, h7⟩ := G.ex
  have bN : b * N ≤ 100000 := Nat.mul_le_mul b1000 N100
  obtain ⟨t3, h3', q3⟩ := merge3 (P := P) (w := w) (base := base) (f := f) (outer := outer) (H0 := H) (E := E) T hr
  refine ⟨_, (pss_cons (ps_set (i := 3) sc_merge.nd rfl (Or.inl rfl) (pe_callB (call_min2 rfl) rfl T.min PyProof.Rows.Boot.min (pa_cons (pe_meth (pv 0) T.cl M Bh hr bh .nil pass0 (pa_cons (pv 1) pa_nil)) (pa_cons (pe_meth (pv 0) T.cl M Bh hr bh .nil pass0 (pa_cons (pv 2) pa_nil)) pa_nil))))
    (pss_cons (ps_set (i := 4) sc_merge.nd rfl (Or.inl rfl) (pe_callB (call_max2 rfl) rfl T.max PyProof.Rows.Boot.max (pa_cons (pe_meth (pv 0) T.cl M Bh hr bh .nil pass0 (pa_cons (pv 1) pa_nil)) (pa_cons (pe_meth (pv 0) T.cl M Bh hr bh .nil pass0 (pa_cons (pv 2) pa_nil)) pa_nil))))
    (pss_cons (ps_if (pt_cmpR op_eq (pv 3) (pv 4) (nomark _))
      (pss_one ps_retN)
      pss_nil)
    h3'))), ?_⟩
  refine ⟨_, rfl, g, dx, _, rfl, h1, rfl, _, rfl, g, ld, gd, t, N, b, hd, av, rfl, G, _, rfl, g, dx, _, rfl, h1, rfl, _, rfl, g, ld, gd, u, N, b, hd, av, rfl, G, _, _, rfl, ?_⟩
  refine ⟨_, rfl, g, dx, _, rfl, h1, rfl, _, rfl, g, ld, gd, t, N, b, hd, av, rfl, G, _, rfl, g, dx, _, rfl, h1, rfl, _, rfl, g, ld, gd, u, N, b, hd, av, rfl, G, _, _, rfl, ?_⟩
  refine ⟨_, rfl, _, rfl, rfl, _, rfl, ?_⟩
  show if decide (V.int (loF (hd t) (hd u)) = V.int (hiF (hd t) (hd u))) = true then _ else _
  rw [decV]
  by_cases e : loF (hd t) (hd u) = hiF (hd t) (hd u)
  · rw [decide_eq_true e]
    refine iteT (q H (fun _ _ _ _ h => h) ?_)
    rw [mrg_eq e]
    exact G.mono (Nat.le_succ _)
  rw [decide_eq_false e]
  exact iteF (q3 _ H g ld gd t u N b hd av G ht hu' N100 b1000 e hav fun H' σ' s' G' => q H' s' G')
end
end K12

/-! law k12: links. Behind K12a. -/
namespace K12
open PySem L2
/-! given_links, alike_links, links -/
section
variable {P : Program} {w : World} {K : PySem.W.Frag} {mg : Str → Option Value} {base : Heap} {C f fd' fI fH fT fM fG fA : Addr} {fd dI dH dT' dM dG dA : FuncData}
def sp_given_links (K : PySem.W.Frag) (C : Addr) : Sp := fun vs H Q _ => ∃ (a g ld gd : Addr) (ys : List V) (gs : List (Int × Int)) (ts : List Tm), vs = [.ref a, .ref g] ∧ SqL K H a ys ∧ HasL K H (gs.map dP) ys ∧ PairsIn ts.length gs ∧ GO H C g ld gd ts.length 0 (hdL []) [] ∧ ts.length ≤ 100 ∧ gs.length ≤ 1000 ∧
  ∀ (H' : Hp) (fl : Addr) (ls : List Lk) (zs : List V), SameG ld gd H H' → H fl = none → H' fl = some (.lst zs) → HasL K H' (ls.map dL) zs → GO H' C g ld gd ts.length ls.length (hdL ls) [fl] → RightL ts gs ls → GivenT gs (hdL ls) → ls = gvF gs → Q (.ref fl) H'
theorem sc_given_links : FnScope ["given", "groups", "found", "number", "pair"] ["given", "groups"] (defScope s_given_links) := ⟨rfl, rfl, rfl, by decide +kernel, rfl, by decide +kernel, by decide +kernel⟩
theorem ok_given_links (F : Fun K "given_links" "given_links" s_given_links f fd) (T : TxG K mg C) (TE : mg "enumerate" = none) (MT : Meth K C "together" fT) (Bt : FnOk P w K mg base CX0 2 fT dT' ["self", "one", "other"] (sp_together C)) (bt : Binds K dT' ["self", "one", "other"] []) (MM : Meth K C "merge" fM) (Bm : FnOk P w K mg base CX0 2 fM dM ["self", "one", "other"] (sp_merge C)) (bm : Binds K dM ["self", "one", "other"] []) : FnOk P w K mg base CX0 3 f fd ["given", "groups"] (sp_given_links K C) := by
  refine F.ok sc_given_links (fun vs H Q E h => ?_) (fun cdv A outer s H vs Q E hr h => ?_)
  · obtain ⟨a, g, ld, gd, ys, gs, ts, rfl, _⟩ := h
    rfl
  obtain ⟨a, g, ld, gd, ys, gs, ts, rfl, hS, hL, hP, G, N100, g1000, q⟩ := h
  have yl : ys.length = gs.length := by rw [← hL.length, List.length_map]
  refine ⟨_, (pss_cons (ps_set (i := 2) sc_given_links.nd rfl (Or.inl rfl) (pe_lst pa_nil))
    (pss_cons (ps_for PassesOwn.never rfl (pi_enum rfl TE (pa_cons (pv 0) pa_nil)) (pg_tup rfl (pgs_cons (pg_name (i := 3) sc_given_links.nd rfl (Or.inl rfl)) (pgs_cons (pg_name (i := 4) sc_given_links.nd rfl (Or.inl rfl)) pgs_nil)))
      (pss_one (ps_if (pt_not (pt_val (pe_meth (pv 1) T.cl MT Bt hr bt .nil pass0 (pa_cons (pe_ix ix_tup (pv 4) pe_int (fun _ _ => rfl)) (pa_cons (pe_ix ix_tup (pv 4) pe_int (fun _ _ => rfl)) pa_nil)))))
          (pss_cons (ps_expr (pe_meth (pv 1) T.cl MM Bm hr bm .nil pass0 (pa_cons (pe_ix ix_tup (pv 4) pe_int (fun _ _ => rfl)) (pa_cons (pe_ix ix_tup (pv 4) pe_int (fun _ _ => rfl)) pa_nil))))
            (pss_one (ps_expr (pe_bm PySem.F.plainAttrs_list PySem.F.slot_list_append PySem.F.type_list_append mt_append (pv 2) (pa_cons (pe_tup (pa_cons (pe_ix ix_tup (pv 4) pe_int (fun _ _ => rfl)) (pa_cons (pe_ix ix_tup (pv 4) pe_int (fun _ _ => rfl)) (pa_cons (pv 3) pa_nil)))) pa_nil)))))
          pss_nil)))
    (pss_one (ps_ret (pv 2))))), ?_⟩
  refine ⟨(by show 0 ≤ sizeLine; decide), fun fl hfl => ?_⟩
  have s1 : SameG ld gd H (upd H fl (.lst [])) := (sameNew hfl _).g
  have G1 : GO (upd H fl (.lst [])) C g ld gd ts.length 0 (hdL []) [fl] := (G.avoid hfl).same (sameNew hfl _)
  have n1 := upd_same (H := H) (a := fl) (o := .lst [])
  generalize upd H fl (.lst []) = H1 at s1 G1 n1
  refine ⟨_, rfl, a, rfl, ⟨_, G.seqG s1 hS⟩, for_by wk_enum (fun i σ H' => ∃ (v3 v4 : Option V) (ls : List Lk) (zs : List V), σ = [some (.ref a), some (.ref g), some (.ref fl), v3, v4] ∧ SameG ld gd H H' ∧ H' fl = some (.lst zs) ∧ HasL K H' (ls.map dL) zs ∧ GO H' C g ld gd ts.length ls.length (hdL ls) [fl] ∧ RightL ts gs ls ∧ (∀ j p, j < i → gs[j]? = some p → hdL ls p.1 = hdL ls p.2) ∧ (gs.take i).foldl gvStep ([], 0) = (ls, i))
    (fun i σ H' ⟨_, _, _, _, _, s2, _⟩ => G.seqG s2 hS) ⟨none, none, [], [], rfl, s1, n1, HasL.nil, G1, RightL.nil _ _, (fun j p hj => absurd hj (Nat.not_lt_zero _)), rfl⟩ ?_ ?_⟩
  · rintro i σ H2 x H3 hi ⟨v3, v4, ls, zs, rfl, s2, hf2, has2, G2, R2, g2, gf⟩ ⟨t, y, rfl, ht, rfl, hy⟩
    obtain ⟨pr, p, hpr, rfl, hp⟩ := pair_at hL (hy _ (G.seqG s2 hS))
    have s3 : SameG ld gd H (upd H2 t (.tup [.int i, .ref p])) := s2.trans (sameNew ht _).g
    have s23 : Same H2 (upd H2 t (.tup [.int i, .ref p])) := sameNew ht _
    have G3 := G2.same s23
    have hf3 := s23 _ _ hf2
    have has3 := HasL.keep s23.kt (nols_dL _) has2
    have n3 := upd_same (H := H2) (a := t) (o := .tup [.int i, .ref p])
    generalize upd H2 t (.tup [.int i, .ref p]) = H3 at s3 s23 G3 hf3 has3 n3
    have hp3 := (G.ktG s3).sq hp
    have b := hP pr (List.mem_of_getElem? hpr)
    have a0 : atI [V.int pr.1, V.int pr.2] 0 = some (.int pr.1) := atI_nat (j := 0) rfl
    have a1 : atI [V.int pr.1, V.int pr.2] 1 = some (.int pr.2) := atI_nat (j := 1) rfl
    have ll := R2.len
    have gf' : (gs.take (i + 1)).foldl gvStep ([], 0) = gvStep (ls, i) pr := by rw [take_snoc hpr, List.foldl_append, gf]; rfl
    obtain ⟨dx, kl, kg, e1, _⟩ := id G3.ex
    refine ⟨t, _, rfl, SqT.of n3, rfl, _, _, rfl, _, _, rfl, rfl, ?_⟩
    refine ⟨_, rfl, g, dx, _, rfl, e1, rfl, _, rfl, p, _, _, _, rfl, rfl, hp3, a0, _, rfl, p, _, _, _, rfl, rfl, hp3, a1, g, ld, gd, pr.1, pr.2, _, _, _, _, rfl, G3, _, rfl, ?_⟩
    by_cases c : hdL ls pr.1 = hdL ls pr.2
    · rw [decide_eq_true c]
      refine iteF ⟨_, _, ls, zs, rfl, s3, hf3, has3, G3, R2, fun j r hj hr' => ?_, ?_⟩
      · by_cases z : j = i
        · subst z
          cases hpr.symm.trans hr'
          exact c
        · exact g2 j r (by omega) hr'
      · rw [gf']
        unfold gvStep
        rw [if_pos c]
    · rw [decide_eq_false c]
      refine iteT ⟨_, rfl, g, dx, _, rfl, e1, rfl, _, rfl, p, _, _, _, rfl, rfl, hp3, a0, _, rfl, p, _, _, _, rfl, rfl, hp3, a1, g, ld, gd, pr.1, pr.2, _, _, _, _, rfl, G3, b.1, b.2, N100, by omega, (fun z hz => by cases List.mem_singleton.mp hz; rw [hf3]; exact fun e => nomatch e), fun H4 s4 G4 => ?_⟩
      have s34 := s3.trans s4
      have hf4 := G3.lstG s4 hf3
      have has4 := HasL.keep (G3.ktG s4) (nols_dL _) has3
      have hp4 := (G3.ktG s4).sq hp3
      refine ⟨_, rfl, .inl ⟨rfl, _, SqL.of hf4⟩, _, rfl, p, _, _, _, rfl, rfl, hp4, a0, _, rfl, p, _, _, _, rfl, rfl, hp4, a1, _, rfl, (by show 3 ≤ sizeLine; decide), fun u hu => ?_⟩
      have s5 : Same H4 (upd H4 u (.tup [.int pr.1, .int pr.2, .int i])) := sameNew hu _
      have n5 := upd_same (H := H4) (a := u) (o := .tup [.int pr.1, .int pr.2, .int i])
      have G5 := G4.same s5
      have s35 := s34.trans (s5.g (ld := ld) (gd := gd))
      have hf5 := s5 _ _ hf4
      have has5 := HasL.keep s5.kt (nols_dL _) has4
      generalize upd H4 u (.tup [.int pr.1, .int pr.2, .int i]) = H5 at s5 n5 G5 s35 hf5 has5
      have zl : zs.length = ls.length := by rw [← has5.length, List.length_map]
      refine ⟨fl, _, _, rfl, rfl, hf5, small1000 (by omega), _, _, ls ++ [(pr.1, pr.2, (i : Int))], zs ++ [.ref u], rfl, s35.grow hfl, upd_same, ?_, ?_, R2.snoc ⟨b.1, b.2, c, .inl ⟨by show (0 : Int) ≤ (i : Int); omega, by show gs[((i : Nat) : Int).toNat]? = _; rw [Int.toNat_natCast]; exact hpr⟩⟩, fun j r hj hr' => ?_, ?_⟩
      · rw [List.map_append]
        have kt := KeepT.lst (ys := zs ++ [.ref u]) hf5
        exact HasL.append (HasL.keep kt (nols_dL _) has5) (HasL.one (of_dL (l := (pr.1, pr.2, (i : Int))) (kt.sq (SqT.of n5))))
      · rw [hdL_snoc, List.length_append]
        exact G5.putL List.mem_cons_self hf5
      · by_cases z : j = i
        · subst z
          cases hpr.symm.trans hr'
          exact hdL_link _ _ (List.mem_append_right _ List.mem_cons_self)
        · exact hdL_mono2 _ (g2 j r (by omega) hr')
      · rw [gf']
        unfold gvStep
        rw [if_neg c]
  · rintro σ H2 ⟨v3, v4, ls, zs, rfl, s2, hf2, has2, G2, R2, g2, gf⟩
    rw [yl] at g2 gf
    rw [List.take_length] at gf
    refine ⟨_, rfl, q H2 fl ls zs s2 hfl hf2 has2 G2 R2 (fun p hp => ?_) (by unfold gvF; rw [gf])⟩
    obtain ⟨j, hj⟩ := List.mem_iff_getElem?.mp hp
    exact g2 j p (List.getElem?_eq_some_iff.mp hj).1 hj
def sp_alike_links (K : PySem.W.Frag) (C : Addr) : Sp := fun vs H Q _ => ∃ (a g ld gd : Addr) (xs : List V) (gs : List (Int × Int)) (ts : List Tm) (ls : List Lk) (av : List Addr), vs = [.ref a, .ref g] ∧ SqL K H a xs ∧ HasL K H (ts.map dTm) xs ∧ GO H C g ld gd ts.length ls.length (hdL ls) av ∧ (∀ z ∈ av, H z ≠ none) ∧ (∀ t ∈ ts, t.2.length ≤ 100) ∧ ts.length ≤ 100 ∧ RightL ts gs ls ∧
  ∀ (H' : Hp) (fl : Addr) (ms : List Lk) (zs : List V), SameG ld gd H H' → H fl = none → H' fl = some (.lst zs) → HasL K H' (ms.map dL) zs → GO H' C g ld gd ts.length (ls ++ ms).length (hdL (ls ++ ms)) av → RightL ts gs (ls ++ ms) → (ms = [] → ClosedT ts (hdL ls)) → ms = alF ts ls → Q (.ref fl) H'
theorem sc_alike_links : FnScope ["terms", "groups", "noted", "found", "number", "term", "sign", "first"] ["terms", "groups"] (defScope s_alike_links) := ⟨rfl, rfl, rfl, by decide +kernel, rfl, by decide +kernel, by decide +kernel⟩
set_option maxHeartbeats 1000000 in
theorem ok_alike_links (F : Fun K "alike_links" "alike_links" s_alike_links f fd) (T : TxG K mg C) (TE : mg "enumerate" = none) (TT : mg "tuple" = none) (MH : Meth K C "head" fH) (Bh : FnOk P w K mg base CX0 1 fH dH ["self", "term"] (sp_head C)) (bh : Binds K dH ["self", "term"] []) (MT : Meth K C "together" fT) (Bt : FnOk P w K mg base CX0 2 fT dT' ["self", "one", "other"] (sp_together C)) (bt : Binds K dT' ["self", "one", "other"] []) (MM : Meth K C "merge" fM) (Bm : FnOk P w K mg base CX0 2 fM dM ["self", "one", "other"] (sp_merge C)) (bm : Binds K dM ["self", "one", "other"] []) : FnOk P w K mg base CX0 3 f fd ["terms", "groups"] (sp_alike_links K C) := by
  refine F.ok sc_alike_links (fun vs H Q E h => ?_) (fun cdv A outer s H vs Q E hr h => ?_)
  · obtain ⟨a, g, ld, gd, xs, gs, ts, ls, av, rfl, _⟩ := h
    rfl
  obtain ⟨a, g, ld, gd, xs, gs, ts, ls, av, rfl, hS, hL, G, hav, t100, N100, R, q⟩ := h
  have hu := units64 hr
  have hr1 : Room 1 _ := hr.mono (by decide)
  have xl : xs.length = ts.length := by rw [← hL.length, List.length_map]
  refine ⟨_, (pss_cons (ps_set (i := 2) sc_alike_links.nd rfl (Or.inl rfl) pe_dnewK)
    (pss_cons (ps_set (i := 3) sc_alike_links.nd rfl (Or.inl rfl) (pe_lst pa_nil))
    (pss_cons (ps_for PassesOwn.never rfl (pi_enum rfl TE (pa_cons (pv 0) pa_nil)) (pg_tup rfl (pgs_cons (pg_name (i := 4) sc_alike_links.nd rfl (Or.inl rfl)) (pgs_cons (pg_name (i := 5) sc_alike_links.nd rfl (Or.inl rfl)) pgs_nil)))
      (pss_cons (ps_set (i := 6) sc_alike_links.nd rfl (Or.inl rfl) (pe_tup (pa_cons (pe_ix ix_tup (pv 5) pe_int (fun _ _ => rfl)) (pa_cons (pe_callTy call_tuple_of rfl TT PyProof.Rows.Boot.tuple (pa_cons (pe_lc (N' := ["part", "groups"]) (ix := [1]) rfl rfl (by decide +kernel) (by decide +kernel) rfl (fun ok => clo_of (sc := defScope s_alike_links) ok rfl (by decide +kernel) (by decide +kernel)) (by decide +kernel) rfl rfl (fun j i h => match j, h with | 0, h => by cases h; exact ⟨_, rfl, rfl, .inl rfl, .inl rfl⟩ | n + 1, h => by simp at h) (pi_tup (pe_ix ix_tup (pv 5) pe_int (fun _ _ => rfl))) (fun _ _ _ _ => (pe_meth (pv 1) T.cl MH Bh hr1 bh .nil pass0 (pa_cons (pv 0) pa_nil)))) pa_nil)) pa_nil))))
        (pss_cons (ps_set (i := 7) sc_alike_links.nd rfl (Or.inl rfl) (pe_setd hu (pv 2) (pa_cons (pv 6) (pa_cons (pv 4) pa_nil))))
        (pss_one (ps_if (pt_not (pt_val (pe_meth (pv 1) T.cl MT Bt hr bt .nil pass0 (pa_cons (pv 7) (pa_cons (pv 4) pa_nil)))))
          (pss_cons (ps_expr (pe_meth (pv 1) T.cl MM Bm hr bm .nil pass0 (pa_cons (pv 7) (pa_cons (pv 4) pa_nil))))
            (pss_one (ps_expr (pe_bm PySem.F.plainAttrs_list PySem.F.slot_list_append PySem.F.type_list_append mt_append (pv 3) (pa_cons (pe_tup (pa_cons (pv 7) (pa_cons (pv 4) (pa_cons (pe_un un_neg pe_int) pa_nil)))) pa_nil)))))
          pss_nil)))))
    (pss_one (ps_ret (pv 3)))))), ?_⟩
  refine fun nd hnd => ?_
  have s0 : Same H (upd H nd (.dK [])) := sameNew hnd _
  have d0 : SD P w (upd H nd (.dK [])) nd [] := .inl ⟨upd_same, rfl⟩
  generalize upd H nd (.dK []) = H0 at s0 d0
  refine ⟨(by show 0 ≤ sizeLine; decide), fun fl hfl => ?_⟩
  have hfl0 : H fl = none := s0.free hfl
  have s01 : Same H0 (upd H0 fl (.lst [])) := sameNew hfl _
  have s1 : SameG ld gd H (upd H0 fl (.lst [])) := (s0.trans s01).g
  have G1 : GO (upd H0 fl (.lst [])) C g ld gd ts.length ls.length (hdL ls) (fl :: av) := ((G.same s0).avoid hfl).same s01
  have n1 := upd_same (H := H0) (a := fl) (o := .lst [])
  have d1 : SD P w (upd H0 fl (.lst [])) nd [] := d0.to fun o z => s01 _ _ z
  generalize upd H0 fl (.lst []) = H1 at s1 G1 n1 d1 s01
  obtain ⟨dx0, kl0, kg0, e10, e20, e30, _⟩ := id G.ex
  have ndl : nd ≠ ld := Ne.symm (ne_of_none e20 hnd)
  have ndg : nd ≠ gd := Ne.symm (ne_of_none e30 hnd)
  have ndf : nd ≠ fl := fun e => (e ▸ d1).nol _ n1
  have avl : ∀ {H' : Hp}, SameG ld gd H H' → (∃ zs, H' fl = some (.lst zs)) → (∃ dx kl kg, H' g = some (.ins C dx [("least", .ref ld), ("gathered", .ref gd)]) ∧ H' ld = some (.dK kl) ∧ H' gd = some (.dK kg)) → ∀ z ∈ fl :: av, H' z ≠ none := by
    rintro H' s' ⟨zs, hz⟩ ⟨dx, kl, kg, _, e2, e3⟩ z hz'
    rcases List.mem_cons.mp hz' with rfl | hz'
    · rw [hz]; exact fun e => nomatch e
    · by_cases c1 : z = ld
      · rw [c1, e2]; exact fun e => nomatch e
      · by_cases c2 : z = gd
        · rw [c2, e3]; exact fun e => nomatch e
        · cases eo : H z with
          | none => exact absurd eo (hav z hz')
          | some o => rw [s' z o c1 c2 eo]; exact fun e => nomatch e
  refine ⟨_, rfl, a, rfl, ⟨_, G.seqG s1 hS⟩, for_by wk_enum (fun i σ H' => ∃ (v4 v5 v6 v7 : Option V) (ms : List Lk) (zs : List V) (kvs : List SE), σ = [some (.ref a), some (.ref g), some (.ref nd), some (.ref fl), v4, v5, v6, v7] ∧ SameG ld gd H H' ∧ H' fl = some (.lst zs) ∧ HasL K H' (ms.map dL) zs ∧ GO H' C g ld gd ts.length (ls ++ ms).length (hdL (ls ++ ms)) (fl :: av) ∧ RightL ts gs (ls ++ ms) ∧ SD P w H' nd kvs ∧ kvs.length ≤ i ∧ (∀ e ∈ kvs, SgnAt K H' e.1 e.2.1) ∧ NotedOk ts (hdL (ls ++ ms)) i kvs ∧ (ms = [] → NotedAll ts (hdL ls) i kvs) ∧ ∃ nt, (ts.take i).foldl (alStep ls) ([], [], 0) = (ms, nt, i) ∧ NtR kvs nt)
    (fun i σ H' ⟨_, _, _, _, _, _, _, _, s2, _⟩ => G.seqG s2 hS) ⟨none, none, none, none, [], [], [], rfl, s1, n1, HasL.nil, by rw [List.append_nil]; exact G1, by rw [List.append_nil]; exact R, d1, Nat.le_refl _, (fun e he => nomatch he), (fun e he => nomatch he), (fun _ j t hj => absurd hj (Nat.not_lt_zero _)), [], rfl, rfl⟩ ?_ ?_⟩
  · rintro i σ H2 x H3 hi ⟨v4, v5, v6, v7, ms, zs, kvs, rfl, s2, hf2, has2, G2, R2, D2, l2, sg2, N2, A2, nt, nf, NR⟩ ⟨t, y, rfl, ht, rfl, hy⟩
    obtain ⟨tm, p, pq, htm, rfl, hp, hpq⟩ := tm_at hL (hy _ (G.seqG s2 hS))
    have s23 : Same H2 (upd H2 t (.tup [.int i, .ref p])) := sameNew ht _
    have n3 := upd_same (H := H2) (a := t) (o := .tup [.int i, .ref p])
    generalize upd H2 t (.tup [.int i, .ref p]) = H3 at s23 n3
    have k23 := (G.ktG s2).trans s23.kt
    have hp3 := k23.sq hp
    have hpq3 := k23.sq hpq
    have a0 : atI [V.str tm.1, V.ref pq] 0 = some (.str tm.1) := atI_nat (j := 0) rfl
    have a1 : atI [V.str tm.1, V.ref pq] 1 = some (.ref pq) := atI_nat (j := 1) rfl
    have lt := t100 tm (List.mem_of_getElem? htm)
    refine ⟨t, _, rfl, SqT.of n3, rfl, _, _, rfl, _, _, rfl, rfl, ?_⟩
    refine ⟨_, rfl, p, _, _, _, rfl, rfl, hp3, a0, _, rfl, p, _, _, _, rfl, rfl, hp3, a1, pq, rfl, ⟨_, hpq3⟩, fun D hD => lc_by wk_tup (fun j ys H' => Same H3 H' ∧ ys = ((tm.2.take j).map (hdL (ls ++ ms))).map V.int) (fun j ys H' ⟨s4, _⟩ => s4.tup hpq3) ⟨sameNew hD _, rfl⟩ ?_ ?_⟩
    · rintro j ys H4 x H5 hj hly hDs ⟨s4, rfl⟩ ⟨rfl, hx⟩
      obtain ⟨n, hn, rfl⟩ := ints_at (hx _ (s4.tup hpq3))
      have G4 := (G2.same s23).same s4
      obtain ⟨dx, kl, kg, e1, _⟩ := id G4.ex
      rw [List.length_map] at hj
      refine ⟨_, rfl, g, dx, _, rfl, e1, rfl, _, rfl, g, ld, gd, n, _, _, _, _, rfl, G4, lc_post (bsz _ (by rw [List.length_map]; omega)) (by rw [List.length_map]; exact hj) hly hDs ⟨s4.upd hD, ?_⟩⟩
      rw [take_snoc hn, List.map_append, List.map_append]
      rfl
    rintro ys H4 hDs ⟨s4, rfl⟩
    rw [List.length_map, List.take_of_length_le (Nat.le_refl _)] at hDs
    refine ⟨D, _, rfl, .inl ⟨SqL.of hDs, fun u hu' => ?_⟩⟩
    have s45 : Same H4 (upd H4 u (.tup ((tm.2.map (hdL (ls ++ ms))).map V.int))) := sameNew hu' _
    have n5 := upd_same (H := H4) (a := u) (o := .tup ((tm.2.map (hdL (ls ++ ms))).map V.int))
    generalize upd H4 u (.tup ((tm.2.map (hdL (ls ++ ms))).map V.int)) = H5 at s45 n5
    refine ⟨(by show 2 ≤ sizeLine; decide), fun sg hsg => ?_⟩
    have s56 : Same H5 (upd H5 sg (.tup [.str tm.1, .ref u])) := sameNew hsg _
    have n6 := upd_same (H := H5) (a := sg) (o := .tup [.str tm.1, .ref u])
    have n65 := s56 _ _ n5
    generalize upd H5 sg (.tup [.str tm.1, .ref u]) = H6 at s56 n6 n65
    have s26 : Same H2 H6 := ((s23.trans s4).trans s45).trans s56
    have sH6 : SameG ld gd H H6 := s2.trans s26.g
    have G6 := G2.same s26
    have hf6 := s26 _ _ hf2
    have has6 := HasL.keep s26.kt (nols_dL _) has2
    have D6 : SD P w H6 nd kvs := D2.to fun o z => s26 _ _ z
    have sg6 : ∀ e ∈ kvs, SgnAt K H6 e.1 e.2.1 := fun e he => (sg2 e he).keep s26.kt
    have sgn6 : SgnAt K H6 (sgnT tm (hdL (ls ++ ms))) sg := ⟨u, SqT.of n6, by
      show SqT K H6 u (((tm.2.map (hdL (ls ++ ms))).map Sum.inl).map kV)
      rw [List.map_map]
      exact SqT.of n65⟩
    have Hh := hdL_all R2.inn
    have idm : (tm.2.map (hdL (ls ++ ms))).map (hdL (ls ++ ms)) = tm.2.map (hdL (ls ++ ms)) := by
      rw [List.map_map]
      exact List.map_congr_left fun z _ => Hh.idem z
    have iN : i < ts.length := by rw [← xl]; exact hi
    have zl : zs.length = ms.length := by rw [← has6.length, List.length_map]
    have ll := R2.len
    rw [List.length_append] at ll
    have nf' : (ts.take (i + 1)).foldl (alStep ls) ([], [], 0) = alStep ls (ms, nt, i) tm := by rw [take_snoc htm, List.foldl_append, nf]; rfl
    obtain ⟨dx, kl, kg, e1, e2, e3, _⟩ := id G6.ex
    refine ⟨_, rfl, ⟨nd, kvs, rfl, D6⟩, _, rfl, _, rfl, nd, sg, sgnT tm (hdL (ls ++ ms)), .int i, kvs, rfl, rfl, D6, small1000 (by omega), sg6, sgn6, ?_⟩
    cases ha : atS kvs (sgnT tm (hdL (ls ++ ms))) with
    | none =>
      have fn : nt.find? (fun e => decide (e.1 = sgnT tm (hdL (ls ++ ms)))) = none := by
        rcases NR.at (k := sgnT tm (hdL (ls ++ ms))) with ⟨e, x, y1, y2, y3⟩ | ⟨y1, y2⟩
        · rw [ha] at y1; cases y1
        · exact y2
      refine .inr ⟨rfl, ?_⟩
      have G7 : GO (upd H6 nd (SDict P w nd (kvs ++ [(sgnT tm (hdL (ls ++ ms)), sg, .int i)]))) C g ld gd ts.length (ls ++ ms).length (hdL (ls ++ ms)) (fl :: av) := G6.put (.inr D6.nol) (fun z => D6.noi (z ▸ e1)) ndl ndg
      have kt := KeepT.sd (o := SDict P w nd (kvs ++ [(sgnT tm (hdL (ls ++ ms)), sg, .int i)])) D6
      have D7 : SD P w (upd H6 nd (SDict P w nd (kvs ++ [(sgnT tm (hdL (ls ++ ms)), sg, .int i)]))) nd (kvs ++ [(sgnT tm (hdL (ls ++ ms)), sg, .int i)]) := .inr upd_same
      have sH7 : SameG ld gd H (upd H6 nd (SDict P w nd (kvs ++ [(sgnT tm (hdL (ls ++ ms)), sg, .int i)]))) := sH6.grow hnd
      have hf7 : (upd H6 nd (SDict P w nd (kvs ++ [(sgnT tm (hdL (ls ++ ms)), sg, .int i)]))) fl = some (.lst zs) := by rw [upd_ne (Ne.symm ndf)]; exact hf6
      obtain ⟨dx7, kl7, kg7, e17, _⟩ := id G7.ex
      refine ⟨_, rfl, g, dx7, _, rfl, e17, rfl, _, rfl, _, rfl, g, ld, gd, i, i, _, _, _, _, rfl, G7, _, rfl, ?_⟩
      rw [decide_eq_true (show hdL (ls ++ ms) (i : Int) = hdL (ls ++ ms) (i : Int) from rfl)]
      refine iteF ⟨_, _, _, _, ms, zs, _, rfl, sH7, hf7, HasL.keep kt (nols_dL _) has6, G7, R2, D7, ?_, fun e he => ?_, fun e he => ?_, fun em j t' hj ht' => ?_, nt ++ [(sgnT tm (hdL (ls ++ ms)), (i : Int))], ?_, NR.snoc⟩
      · rw [List.length_append]
        show kvs.length + 1 ≤ i + 1
        omega
      · rcases List.mem_append.mp he with he | he
        · exact (sg6 e he).keep kt
        · cases List.mem_singleton.mp he
          exact sgn6.keep kt
      · rcases List.mem_append.mp he with he | he
        · obtain ⟨j, t', es, z1, z2, z3⟩ := N2 e he
          exact ⟨j, t', es, z1, by omega, z3⟩
        · cases List.mem_singleton.mp he
          exact ⟨i, tm, _, rfl, by omega, htm, rfl, idm⟩
      · subst em
        rw [List.append_nil] at ha
        rw [List.append_nil]
        by_cases c : j = i
        · subst c
          cases htm.symm.trans ht'
          exact ⟨_, _, atS_new ha, rfl, rfl⟩
        · obtain ⟨e, k, z1, z2, z3⟩ := A2 rfl j t' (by omega) ht'
          exact ⟨e, k, atS_snoc (k2 := sgnT tm (hdL ls)) z1, z2, z3⟩
      · rw [nf']
        unfold alStep
        rw [fn]
    | some e =>
      refine .inl ⟨e, rfl, ?_⟩
      obtain ⟨em, ek⟩ := atS_mem ha
      obtain ⟨j, tj, es, z1, z2, z3, z4, z5⟩ := N2 e em
      obtain ⟨x, fx, xj⟩ : ∃ x, nt.find? (fun e => decide (e.1 = sgnT tm (hdL (ls ++ ms)))) = some x ∧ x.2 = (j : Int) := by
        rcases NR.at (k := sgnT tm (hdL (ls ++ ms))) with ⟨e', x, y1, y2, y3⟩ | ⟨y1, y2⟩
        · cases ha.symm.trans y1
          refine ⟨x, y2, ?_⟩
          have := y3.symm.trans z1
          injection this
        · rw [ha] at y1; cases y1
      rw [z1]
      refine ⟨_, rfl, g, dx, _, rfl, e1, rfl, _, rfl, _, rfl, g, ld, gd, j, i, _, _, _, _, rfl, G6, _, rfl, ?_⟩
      by_cases c : hdL (ls ++ ms) (j : Int) = hdL (ls ++ ms) (i : Int)
      · rw [decide_eq_true c]
        refine iteF ⟨_, _, _, _, ms, zs, kvs, rfl, sH6, hf6, has6, G6, R2, D6, by omega, sg6, (fun e he => by
          obtain ⟨j, t', es, z1, z2, z3⟩ := N2 e he
          exact ⟨j, t', es, z1, by omega, z3⟩), fun em' k t' hk ht' => ?_, nt, ?_, NR⟩
        · by_cases c2 : k = i
          · subst c2
            cases htm.symm.trans ht'
            subst em'
            rw [List.append_nil] at ha c
            exact ⟨e, j, ha, z1, c⟩
          · exact A2 em' k t' (by omega) ht'
        · rw [nf']
          unfold alStep
          rw [fx]
          show (if hdL (ls ++ ms) x.2 = hdL (ls ++ ms) (i : Int) then _ else _) = _
          rw [xj, if_pos c]
      · rw [decide_eq_false c]
        have b1 : (0 : Int) ≤ (j : Int) ∧ (j : Int) < (ts.length : Int) := by omega
        have b2 : (0 : Int) ≤ (i : Int) ∧ (i : Int) < (ts.length : Int) := by omega
        refine iteT ⟨_, rfl, g, dx, _, rfl, e1, rfl, _, rfl, _, rfl, g, ld, gd, j, i, _, _, _, _, rfl, G6, b1, b2, N100, by rw [List.length_append]; omega, avl sH6 ⟨_, hf6⟩ ⟨_, _, _, e1, e2, e3⟩, fun H7 s7 G7 => ?_⟩
        have sH7 := sH6.trans s7
        have hf7 := G6.lstG s7 hf6
        have has7 := HasL.keep (G6.ktG s7) (nols_dL _) has6
        have D7 : SD P w H7 nd kvs := D6.to fun o z => s7 _ _ ndl ndg z
        have sg7 : ∀ e ∈ kvs, SgnAt K H7 e.1 e.2.1 := fun e he => (sg6 e he).keep (G6.ktG s7)
        refine ⟨_, rfl, .inl ⟨rfl, _, SqL.of hf7⟩, _, rfl, _, rfl, _, rfl, (by show 3 ≤ sizeLine; decide), fun r hr' => ?_⟩
        have s78 : Same H7 (upd H7 r (.tup [.int j, .int i, .int (-1)])) := sameNew hr' _
        have n8 := upd_same (H := H7) (a := r) (o := .tup [.int j, .int i, .int (-1)])
        have G8 := G7.same s78
        have sH8 := sH7.trans (s78.g (ld := ld) (gd := gd))
        have hf8 := s78 _ _ hf7
        have has8 := HasL.keep s78.kt (nols_dL _) has7
        have D8 : SD P w (upd H7 r (.tup [.int j, .int i, .int (-1)])) nd kvs := D7.to fun o z => s78 _ _ z
        have sg8 : ∀ e ∈ kvs, SgnAt K (upd H7 r (.tup [.int j, .int i, .int (-1)])) e.1 e.2.1 := fun e he => (sg7 e he).keep s78.kt
        generalize upd H7 r (.tup [.int j, .int i, .int (-1)]) = H8 at s78 n8 G8 sH8 hf8 has8 D8 sg8
        have kt := KeepT.lst (ys := zs ++ [.ref r]) hf8
        have al : AlikeT ts (hdL (ls ++ ms)) (j : Int) (i : Int) := by
          refine ⟨tj, tm, by rw [Int.toNat_natCast]; exact z3, by rw [Int.toNat_natCast]; exact htm, ?_, ?_⟩
          · have := congrArg Prod.fst (z4.symm.trans ek)
            exact this
          · have h2 : es.map Sum.inl = (tm.2.map (hdL (ls ++ ms))).map Sum.inl := congrArg Prod.snd (z4.symm.trans ek)
            rw [← z5, inl_inj h2]
            exact idm
        have R8 : RightL ts gs (ls ++ (ms ++ [((j : Int), (i : Int), (-1 : Int))])) := by
          rw [← List.append_assoc]
          exact R2.snoc ⟨b1, b2, c, .inr ⟨rfl, al⟩⟩
        refine ⟨fl, _, _, rfl, rfl, hf8, small1000 (by omega), _, _, _, _, ms ++ [((j : Int), (i : Int), (-1 : Int))], zs ++ [.ref r], kvs, rfl, sH8.grow hfl0, upd_same, ?_, ?_, R8, D8.to fun o z => by rw [upd_ne ndf]; exact z, by omega, fun e he => (sg8 e he).keep kt, ?_, (fun z => absurd z (by simp)), nt, ?_, NR⟩
        · rw [List.map_append]
          exact HasL.append (HasL.keep kt (nols_dL _) has8) (HasL.one (of_dL (l := ((j : Int), (i : Int), (-1 : Int))) (kt.sq (SqT.of n8))))
        · rw [← List.append_assoc, hdL_snoc, List.length_append]
          exact G8.putL List.mem_cons_self hf8
        · rw [← List.append_assoc]
          exact N2.more _ (by omega)
        · rw [nf']
          unfold alStep
          rw [fx]
          show (if hdL (ls ++ ms) x.2 = hdL (ls ++ ms) (i : Int) then _ else _) = _
          rw [xj, if_neg c]
  · rintro σ H2 ⟨v4, v5, v6, v7, ms, zs, kvs, rfl, s2, hf2, has2, G2, R2, D2, l2, sg2, N2, A2, nt, nf, NR⟩
    rw [xl] at A2 nf
    rw [List.take_length] at nf
    exact ⟨_, rfl, q H2 fl ms zs s2 hfl0 hf2 has2 (G2.sub fun z hz => List.mem_cons_of_mem _ hz) R2 (fun z => (A2 z).closed) (by unfold alF; rw [nf])⟩
def sp_links (K : PySem.W.Frag) : Sp := fun vs H Q _ => ∃ (a ga : Addr) (xs ys : List V) (gs : List (Int × Int)) (ts : List Tm), vs = [.ref a, .ref ga] ∧ SqL K H a xs ∧ HasL K H (ts.map dTm) xs ∧ SqL K H ga ys ∧ HasL K H (gs.map dP) ys ∧ PairsIn ts.length gs ∧ (∀ t ∈ ts, t.2.length ≤ 100) ∧ ts.length ≤ 100 ∧ gs.length ≤ 1000 ∧
  ∀ (H' : Hp) (l : Addr) (ls : List Lk) (zs : List V), Same H H' → H l = none → H' l = some (.lst zs) → HasL K H' (ls.map dL) zs → RightL ts gs ls → GivenT gs (hdL ls) → ClosedT ts (hdL ls) → ls = linksF ts gs → Q (.ref l) H'
theorem sc_links : FnScope ["terms", "given", "groups", "found", "more"] ["terms", "given"] (defScope s_links) := ⟨rfl, rfl, rfl, by decide +kernel, rfl, by decide +kernel, by decide +kernel⟩
set_option maxHeartbeats 1000000 in
theorem ok_links (F : Fun K "links" "links" s_links f fd) (TL : mg "len" = none) (MK : Mk K C fI) (mC : mg "Groups" = some (.ref C)) (Bi : FnOk P w K mg base CX0 1 fI dI ["self"] (sp_init C)) (bi : Binds K dI ["self"] []) (Bgv : FB P w K mg base CX0 3 "given_links" fG dG ["given", "groups"] (sp_given_links K C)) (Bal : FB P w K mg base CX0 3 "alike_links" fA dA ["terms", "groups"] (sp_alike_links K C)) : FnOk P w K mg base CX0 4 f fd ["terms", "given"] (sp_links K) := by
  refine F.ok sc_links (fun vs H Q E h => ?_) (fun cdv A outer s H vs Q E hr h => ?_)
  · obtain ⟨a, ga, xs, ys, gs, ts, rfl, _⟩ := h
    rfl
  obtain ⟨a, ga, xs, ys, gs, ts, rfl, hS, hL, hSg, hLg, hP, t100, N100, g1000, q⟩ := h
  have hr2 : Room 2 _ := hr.mono (by decide)
  refine ⟨_, (pss_cons (ps_set (i := 2) sc_links.nd rfl (Or.inl rfl) (pe_make0 MK Bi hr2 rfl mC bi .nil pass0))
    (pss_cons (ps_set (i := 3) sc_links.nd rfl (Or.inl rfl) (pe_call Bgv.ok hr rfl Bgv.m Bgv.kp Bgv.b .nil pass0 (pa_cons (pv 1) (pa_cons (pv 2) pa_nil))))
    (pss_cons (ps_set (i := 4) sc_links.nd rfl (Or.inl rfl) (pe_call Bal.ok hr rfl Bal.m Bal.kp Bal.b .nil pass0 (pa_cons (pv 0) (pa_cons (pv 2) pa_nil))))
    (pss_cons (ps_while PassesOwn.never (pt_cmpR op_gt (pe_callB call_len_seq rfl TL PySem.boot_len (pa_cons (pv 4) pa_nil)) pe_int (nomark _))
      (pss_cons (ps_expr (pe_bm PySem.F.plainAttrs_list PySem.F.slot_list_extend PySem.F.type_list_extend mt_extend (pv 3) (pa_cons (pv 4) pa_nil)))
        (pss_one (ps_set (i := 4) sc_links.nd rfl (Or.inl rfl) (pe_call Bal.ok hr rfl Bal.m Bal.kp Bal.b .nil pass0 (pa_cons (pv 0) (pa_cons (pv 2) pa_nil)))))))
    (pss_one (ps_ret (pv 3))))))), ?_⟩
  intro g dx ng ndx nex
  have s0 : ∀ b o, H b = some o → (upd (upd H dx (.own g)) g (.ins C dx [])) b = some o := fun b o h => by
    rw [upd_ne (fun e => by rw [e, ng] at h; cases h), upd_ne (fun e => by rw [e, ndx] at h; cases h)]
    exact h
  have hg0 := upd_same (H := upd H dx (.own g)) (a := g) (o := .ins C dx [])
  have f0 : ∀ b, (upd (upd H dx (.own g)) g (.ins C dx [])) b = none → H b = none := fun b h => by
    cases e : H b with
    | none => rfl
    | some o => rw [s0 b o e] at h; cases h
  generalize upd (upd H dx (.own g)) g (.ins C dx []) = H0 at s0 hg0 f0
  refine ⟨g, dx, rfl, hg0, fun H1 ld gd k1 nl ngd ne hg1 hl1 hgd1 => ⟨rfl, ?_⟩⟩
  have s1 : Same H H1 := fun b o h => k1 b o (fun e => by rw [e, ng] at h; cases h) (s0 b o h)
  have G1 : GO H1 C g ld gd ts.length 0 (hdL []) [] := ⟨Hd.zero _, ne, dx, [], [], hg1, hl1, hgd1, fun t => rfl, fun x _ => ⟨[x], by simp, fun t => by show t ∈ [x] ↔ t = x; simp, .inl ⟨rfl, rfl⟩⟩, Nat.zero_le _, Nat.zero_le _⟩
  have nld : H ld = none := f0 ld nl
  have ngd' : H gd = none := f0 gd ngd
  refine ⟨_, rfl, _, rfl, ga, g, ld, gd, ys, gs, ts, rfl, s1.seq hSg, HasL.keep s1.kt (nols_dPs _) hLg, hP, G1, N100, g1000, fun H2 fl fs zs s2 hfl hfl2 has2 G2 R2 g2 ef => ?_⟩
  have sH2 := s1.ofG nld ngd' s2
  refine ⟨_, rfl, _, rfl, a, g, ld, gd, xs, gs, ts, fs, [fl], rfl, sH2.seq hS, HasL.keep sH2.kt (nols_dTm _) hL, G2, (fun z hz => by cases List.mem_singleton.mp hz; rw [hfl2]; exact fun e => nomatch e), t100, N100, R2, fun H3 ml ms ws s3 hml hml3 has3 G3 R3 c3 em => ?_⟩
  have sH3 := sH2.ofG nld ngd' s3
  have hflH : H fl = none := s1.free hfl
  refine ⟨fun m σ H' => ∃ (ml : Addr) (fs ms : List Lk) (zs ws : List V), σ = [some (.ref a), some (.ref ga), some (.ref g), some (.ref fl), some (.ref ml)] ∧ m = ts.length + 1 - fs.length ∧ Same H H' ∧ H' fl = some (.lst zs) ∧ HasL K H' (fs.map dL) zs ∧ H' ml = some (.lst ws) ∧ HasL K H' (ms.map dL) ws ∧ GO H' C g ld gd ts.length (fs ++ ms).length (hdL (fs ++ ms)) [fl] ∧ RightL ts gs (fs ++ ms) ∧ GivenT gs (hdL (fs ++ ms)) ∧ (ms = [] → ClosedT ts (hdL fs)) ∧ ms = alF ts fs ∧ ∃ k : Nat, ts.length < k + fs.length ∧ lkF ts k fs = linksF ts gs,
    ⟨_, ml, fs, ms, zs, ws, rfl, rfl, sH3, G2.lstG s3 hfl2, HasL.keep (G2.ktG s3) (nols_dL _) has2, hml3, has3, G3, R3, g2.more _, c3, em, ts.length + 1, by omega, by rw [ef]; rfl⟩, ?_⟩
  rintro m σ H4 ⟨ml, fs, ms, zs, ws, rfl, rfl, s4, hf4, has4, hm4, hasm4, G4, R4, g4, c4, em4, k4, kl4, ek4⟩
  have wl : ws.length = ms.length := by rw [← hasm4.length, List.length_map]
  have zl : zs.length = fs.length := by rw [← has4.length, List.length_map]
  have ll := R4.len
  rw [List.length_append] at ll
  refine ⟨_, rfl, ml, _, rfl, .inl (SqL.of hm4), _, _, rfl, rfl, _, rfl, ?_⟩
  by_cases c : ms = []
  · subst c
    rw [List.length_nil] at wl
    rw [List.append_nil] at G4 R4 g4
    rw [show decide (((ws.length : Nat) : Int) > 0) = false by rw [wl]; rfl]
    have er : fs = linksF ts gs := by
      rw [← ek4]
      cases k4 with
      | zero =>
        rfl
      | succ k =>
        show fs = if alF ts fs = [] then fs else _
        rw [if_pos em4.symm]
    exact iteF ⟨_, rfl, q H4 fl fs zs s4 hflH hf4 has4 R4 g4 (c4 rfl) er⟩
  have mp : 0 < ms.length := List.length_pos_iff.mpr c
  rw [show decide (((ws.length : Nat) : Int) > 0) = true from decide_eq_true (by omega)]
  refine iteT ⟨fun σ' H' => ∃ (ml' : Addr) (ms' : List Lk) (ws' : List V), σ' = [some (.ref a), some (.ref ga), some (.ref g), some (.ref fl), some (.ref ml')] ∧ Same H H' ∧ H' fl = some (.lst (zs ++ ws)) ∧ HasL K H' ((fs ++ ms).map dL) (zs ++ ws) ∧ H' ml' = some (.lst ws') ∧ HasL K H' (ms'.map dL) ws' ∧ GO H' C g ld gd ts.length ((fs ++ ms) ++ ms').length (hdL ((fs ++ ms) ++ ms')) [fl] ∧ RightL ts gs ((fs ++ ms) ++ ms') ∧ GivenT gs (hdL ((fs ++ ms) ++ ms')) ∧ (ms' = [] → ClosedT ts (hdL (fs ++ ms))) ∧ ms' = alF ts (fs ++ ms) ∧ ∃ k : Nat, ts.length < k + (fs ++ ms).length ∧ lkF ts k (fs ++ ms) = linksF ts gs, ?_, ?_⟩
  · rintro σ' H' ⟨ml', ms', ws', rfl, z⟩
    refine ⟨_, ?_, ml', fs ++ ms, ms', zs ++ ws, ws', rfl, rfl, z⟩
    rw [List.length_append]
    omega
  refine ⟨_, rfl, .inl ⟨rfl, _, SqL.of hf4⟩, _, rfl, fl, ml, zs, ws, rfl, rfl, hf4, hm4, line3 (by omega), ?_⟩
  have kt := KeepT.lst (ys := zs ++ ws) hf4
  have s5 : Same H (upd H4 fl (.lst (zs ++ ws))) := s4.upd hflH
  have G5 : GO (upd H4 fl (.lst (zs ++ ws))) C g ld gd ts.length (fs ++ ms).length (hdL (fs ++ ms)) [fl] := G4.putL List.mem_cons_self hf4
  have n5 := upd_same (H := H4) (a := fl) (o := .lst (zs ++ ws))
  have has5 : HasL K (upd H4 fl (.lst (zs ++ ws))) ((fs ++ ms).map dL) (zs ++ ws) := by
    rw [List.map_append]
    exact HasL.append (HasL.keep kt (nols_dL _) has4) (HasL.keep kt (nols_dL _) hasm4)
  generalize upd H4 fl (.lst (zs ++ ws)) = H5 at s5 G5 n5 has5
  refine ⟨_, rfl, _, rfl, a, g, ld, gd, xs, gs, ts, fs ++ ms, [fl], rfl, s5.seq hS, HasL.keep s5.kt (nols_dTm _) hL, G5, (fun z hz => by cases List.mem_singleton.mp hz; rw [n5]; exact fun e => nomatch e), t100, N100, R4, fun H6 ml6 ms6 ws6 s6 hml6 hml66 has6 G6 R6 c6 em6 => ?_⟩
  exact ⟨ml6, ms6, ws6, rfl, s5.ofG nld ngd' s6, G5.lstG s6 n5, HasL.keep (G5.ktG s6) (nols_dL _) has5, hml66, has6, G6, R6, g4.more _, c6, em6, k4 - 1, (by rw [List.length_append]; omega), by
    cases k4 with
    | zero => omega
    | succ k =>
      rw [← ek4]
      show lkF ts k (fs ++ ms) = if alF ts fs = [] then fs else lkF ts k (fs ++ alF ts fs)
      rw [← em4, if_neg c]⟩
end
end K12

/-! law k12: what the law draws. Behind K12b. -/
namespace K12
open PySem L2
/-! _law_cell_at, _law_whole -/
def sp_cell (K : PySem.W.Frag) : Sp := fun vs H Q _ => ∃ (a : Addr) (ns : List Int) (k : Nat), vs = [.ref a, .int (k : Int)] ∧ SqL K H a (ns.map V.int) ∧ Q (.int (ns.getD k 0)) H
theorem sc__law_cell_at : FnScope ["_law_script", "_law_k"] ["_law_script", "_law_k"] (defScope s__law_cell_at) := ⟨rfl, rfl, rfl, by decide +kernel, rfl, by decide +kernel, by decide +kernel⟩
theorem ok_cell {P : Program} {w : World} {K : PySem.W.Frag} {mg : Str → Option Value} {base : Heap} {f : Addr} {fd : FuncData} (F : Fun K "_law_cell_at" "_law_cell_at" s__law_cell_at f fd) (T : Txt K mg) : FnOk P w K mg base CX0 1 f fd ["_law_script", "_law_k"] (sp_cell K) := by
  refine F.ok sc__law_cell_at (fun vs H Q E h => ?_) (fun cdv A outer s H vs Q E hr h => ?_)
  · obtain ⟨a, ns, k, rfl, _⟩ := h
    rfl
  obtain ⟨a, ns, k, rfl, hS, q⟩ := h
  refine ⟨_, (pss_cons (ps_if (pt_cmpR op_lt (pv 1) (pe_callB call_len_seq rfl T.len PySem.boot_len (pa_cons (pv 0) pa_nil)) (nomark _))
      (pss_one (ps_ret (pe_ix ix_list (pv 0) (pv 1) (fun _ _ => rfl))))
      pss_nil)
    (pss_one (ps_ret pe_int))), ?_⟩
  refine ⟨_, rfl, _, rfl, a, _, rfl, .inl hS, _, _, rfl, rfl, _, rfl, ite2 (fun c => ?_) (fun c => ?_)⟩
  · have hc : (k : Int) < ((ns.map V.int).length : Nat) := of_decide_eq_true c
    rw [List.length_map] at hc
    have hn : ns[k]? = some (ns.getD k 0) := by
      rw [List.getD_eq_getElem?_getD, List.getElem?_eq_getElem (by omega)]
      rfl
    exact ⟨_, rfl, _, rfl, a, _, _, _, rfl, rfl, hS, atI_ints hn, q⟩
  · have hc : ¬ ((k : Int) < ((ns.map V.int).length : Nat)) := fun z => c (decide_eq_true z)
    rw [List.length_map] at hc
    have e : ns.getD k 0 = 0 := by
      rw [List.getD_eq_getElem?_getD, List.getElem?_eq_none (by omega)]
      rfl
    rw [e] at q
    exact q
def sp_whole : Sp := fun vs H Q _ => ∃ n : Int, vs = [.int n] ∧ Q (.bl true) H
theorem sc__law_whole : FnScope ["_law_found"] ["_law_found"] (defScope s__law_whole) := ⟨rfl, rfl, rfl, by decide +kernel, rfl, by decide +kernel, by decide +kernel⟩
theorem ok_whole {P : Program} {w : World} {K : PySem.W.Frag} {mg : Str → Option Value} {base : Heap} {f : Addr} {fd : FuncData} (F : Fun K "_law_whole" "_law_whole" s__law_whole f fd) (T : Txt K mg) : FnOk P w K mg base CX0 1 f fd ["_law_found"] sp_whole := by
  refine F.ok sc__law_whole (fun vs H Q E h => ?_) (fun cdv A outer s H vs Q E hr h => ?_)
  · obtain ⟨n, rfl, _⟩ := h
    rfl
  obtain ⟨n, rfl, q⟩ := h
  refine ⟨_, (pss_one (ps_ret (pe_and (pe_callB call_isinst rfl T.isinstance PyProof.Rows.Boot.isinstance (pa_cons (pv 0) (pa_cons (pe_bltn (v := .ty "int") rfl T.int PyProof.Rows.Boot.int rfl) pa_nil))) (pe_one (pe_not (pe_callB call_isinst rfl T.isinstance PyProof.Rows.Boot.isinstance (pa_cons (pv 0) (pa_cons (pe_bltn (v := .ty "bool") rfl T.bool PyProof.Rows.Boot.bool rfl) pa_nil)))))))), ?_⟩
  exact ⟨_, rfl, _, .type "int", "int", true, rfl, TyOf.int _, kitSelf K "int", _, rfl, iteT ⟨_, rfl, _, .type "int", "bool", false, rfl, TyOf.int _, T.ib, _, rfl, q⟩⟩
/-! _law_mixed -/
def mixedF (c k : Int) : Int := (c + 7919 * k + 11) * 48271 % 2147483647 * ((c + 7919 * k + 11) * 48271 % 2147483647 / 65536 + 3) % 2147483647
def sp_mixed : Sp := fun vs H Q _ => ∃ c k : Int, vs = [.int c, .int k] ∧ Q (.int (mixedF c k)) H
theorem sc__law_mixed : FnScope ["_law_cell", "_law_k", "_law_mixed_here"] ["_law_cell", "_law_k"] (defScope s__law_mixed) := ⟨rfl, rfl, rfl, by decide +kernel, rfl, by decide +kernel, by decide +kernel⟩
theorem ok_mixed {P : Program} {w : World} {K : PySem.W.Frag} {mg : Str → Option Value} {base : Heap} {f : Addr} {fd : FuncData} (F : Fun K "_law_mixed" "_law_mixed" s__law_mixed f fd) : FnOk P w K mg base CX0 1 f fd ["_law_cell", "_law_k"] sp_mixed := by
  refine F.ok sc__law_mixed (fun vs H Q E h => ?_) (fun cdv A outer s H vs Q E hr h => ?_)
  · obtain ⟨c, k, rfl, _⟩ := h
    rfl
  obtain ⟨c, k, rfl, q⟩ := h
  refine ⟨_, (pss_cons (ps_set (i := 2) sc__law_mixed.nd rfl (Or.inl rfl) (pe_op op_mod (pe_op op_mul (pe_op op_add (pe_op op_add (pv 0) (pe_op op_mul pe_int (pv 1))) pe_int) pe_int) pe_int))
    (pss_one (ps_ret (pe_op op_mod (pe_op op_mul (pv 2) (pe_op op_add (pe_op op_fdiv (pv 2) pe_int) pe_int)) pe_int)))), ?_⟩
  have b := modR ((c + 7919 * k + 11) * 48271) (show (0 : Int) < 2147483647 by decide)
  exact ⟨_, rfl, _, rfl, _, _, rfl, rfl, .inl ⟨by decide, by decide⟩, _, _, rfl, rfl, _, _, rfl, rfl, _, _, rfl, rfl, .inr ⟨by decide, by decide⟩, _, _, rfl, rfl, (by show (0 : Int) < 2147483647; decide), _, rfl, _, rfl, _, _, rfl, rfl, ⟨by decide, by decide⟩, _, _, rfl, rfl, _, _, rfl, rfl, .inl ⟨by omega, by omega⟩, _, _, rfl, rfl, (by show (0 : Int) < 2147483647; decide), q⟩
/-! _law_word, _law_names, _law_many_by -/
section
variable {P : Program} {w : World} {K : PySem.W.Frag} {mg : Str → Option Value} {base : Heap} {f fM fW : Addr} {fd dM dW : FuncData}
def sp_word : Sp := fun vs H Q _ => ∃ c n : Int, vs = [.int c, .int n] ∧ 0 ≤ n ∧ n ≤ 8 ∧ ∀ (H' : Hp) (z : Str), Same H H' → z.length ≤ 9 → Q (.str z) H'
theorem sc__law_word : FnScope ["_law_cell", "_law_size", "_law_some", "_law_word_here", "_law_k"] ["_law_cell", "_law_size"] (defScope s__law_word) := ⟨rfl, rfl, rfl, by decide +kernel, rfl, by decide +kernel, by decide +kernel⟩
theorem ok_word (F : Fun K "_law_word" "_law_word" s__law_word f fd) (T : Txt K mg) (B_law_mixed : FB P w K mg base CX0 1 "_law_mixed" fM dM ["_law_cell", "_law_k"] sp_mixed) : FnOk P w K mg base CX0 2 f fd ["_law_cell", "_law_size"] sp_word := by
  refine F.ok sc__law_word (fun vs H Q E h => ?_) (fun cdv A outer s H vs Q E hr h => ?_)
  · obtain ⟨c, n, rfl, _⟩ := h
    rfl
  obtain ⟨c, n, rfl, h0, h8, q⟩ := h
  refine ⟨_, (pss_cons (ps_set (i := 2) sc__law_word.nd rfl (Or.inl rfl) pe_str)
    (pss_cons (ps_set (i := 3) sc__law_word.nd rfl (Or.inl rfl) pe_str)
    (pss_cons (ps_for PassesOwn.never rfl (pi_range1 rfl T.range (pa_cons (pv 1) pa_nil)) (pg_name (i := 4) sc__law_word.nd rfl (Or.inl rfl))
      (pss_one (ps_set (i := 3) sc__law_word.nd rfl (Or.inl rfl) (pe_op op_add_str (pv 3) (pe_ix ix_str (pv 2) (pe_op op_mod (pe_op op_fdiv (pe_call B_law_mixed.ok hr rfl B_law_mixed.m B_law_mixed.kp B_law_mixed.b .nil pass0 (pa_cons (pv 0) (pa_cons (pv 4) pa_nil))) pe_int) pe_int) (fun _ _ => rfl))))))
    (pss_cons (ps_if (pt_cmpR op_in_seq (pv 3) (pe_tup (pa_cons pe_str (pa_cons pe_str (pa_cons pe_str (pa_cons pe_str (pa_cons pe_str (pa_cons pe_str (pa_cons pe_str (pa_cons pe_str pa_nil))))))))) rfl)
      (pss_one (ps_set (i := 3) sc__law_word.nd rfl (Or.inl rfl) (pe_op op_add_str (pv 3) pe_str)))
      pss_nil)
    (pss_one (ps_ret (pv 3))))))), ?_⟩
  refine ⟨_, rfl, n, rfl, by omega, by omega, for_range (lo := 0) (n := n.toNat) (fun i σ H' => H' = H ∧ ∃ (y : Str) (k : Option V), σ = [some (.int c), some (.int n), some (.str abcS), some (.str y), k] ∧ y.length = i)
    ⟨rfl, "", none, rfl, by decide +kernel⟩ ?_ ?_⟩
  · rintro i σ H' hi ⟨rfl, y, k, rfl, hy⟩
    have m := modR (mixedF c (0 + (i : Int)) / 31) (show (0 : Int) < 26 by decide)
    obtain ⟨ch, hch⟩ := at_inX (xs := abcS.cps.toList) m.1 (by rw [abcS_len]; exact m.2)
    refine ⟨_, rfl, _, rfl, _, rfl, _, rfl, c, _, rfl, _, _, rfl, rfl, ⟨by decide, by decide⟩, _, _, rfl, rfl, (by show (0 : Int) < 26; decide), abcS, _, ch, rfl, rfl, szS (by decide +kernel), hch, y, _, rfl, rfl, szS (by rw [oneS_len]; omega), rfl, _, _, rfl, ?_⟩
    rw [appS_len, oneS_len, hy]
  · rintro σ H' ⟨rfl, y, k, rfl, hy⟩
    refine ⟨_, rfl, (by show 8 ≤ sizeLine; decide), fun p hp => ?_⟩
    have s1 : Same H' (upd H' p (.tup [.str "or", .str "and", .str "not", .str "never", .str "always", .str "then", .str "as", .str "unlike"])) := sameNew hp _
    refine ⟨p, _, rfl, .inr (SqT.of upd_same), rfl, rfl, _, rfl, ite2 (fun _ => ?_) (fun _ => ?_)⟩
    · refine ⟨_, rfl, y, "x", rfl, rfl, szS (by rw [show ("x" : Str).length = 1 by decide +kernel]; omega), _, rfl, q _ _ s1 ?_⟩
      rw [appS_len, show ("x" : Str).length = 1 by decide +kernel]
      omega
    · exact ⟨_, rfl, q _ _ s1 (by omega)⟩
def sp_names : Sp := fun vs H Q _ => ∃ c : Int, vs = [.int c] ∧ ∀ (H' : Hp) (l : Addr) (zs : List Str), Same H H' → H l = none → H' l = some (.lst (zs.map V.str)) → zs.length = 4 → Q (.ref l) H'
theorem sc__law_names : FnScope ["_law_cell", "_law_some", "_law_size", "_law_place", "_law_names_here", "_law_k", "_law_word_here", "_law_letter"] ["_law_cell"] (defScope s__law_names) := ⟨rfl, rfl, rfl, by decide +kernel, rfl, by decide +kernel, by decide +kernel⟩
theorem ok_names (F : Fun K "_law_names" "_law_names" s__law_names f fd) (T : Txt K mg) (B_law_word : FB P w K mg base CX0 2 "_law_word" fW dW ["_law_cell", "_law_size"] sp_word) : FnOk P w K mg base CX0 3 f fd ["_law_cell"] sp_names := by
  refine F.ok sc__law_names (fun vs H Q E h => ?_) (fun cdv A outer s H vs Q E hr h => ?_)
  · obtain ⟨c, rfl, _⟩ := h
    rfl
  obtain ⟨c, rfl, q⟩ := h
  refine ⟨_, (pss_cons (ps_set (i := 1) sc__law_names.nd rfl (Or.inl rfl) pe_str)
    (pss_cons (ps_set (i := 2) sc__law_names.nd rfl (Or.inl rfl) (pe_op op_add pe_int (pe_op op_mod (pv 0) pe_int)))
    (pss_cons (ps_set (i := 3) sc__law_names.nd rfl (Or.inl rfl) (pe_op op_mod (pe_op op_fdiv (pv 0) pe_int) (pv 2)))
    (pss_cons (ps_set (i := 4) sc__law_names.nd rfl (Or.inl rfl) (pe_lst pa_nil))
    (pss_cons (ps_for PassesOwn.never rfl (pi_range1 rfl T.range (pa_cons pe_int pa_nil)) (pg_name (i := 5) sc__law_names.nd rfl (Or.inl rfl))
      (pss_cons (ps_set (i := 6) sc__law_names.nd rfl (Or.inl rfl) (pe_call B_law_word.ok hr rfl B_law_word.m B_law_word.kp B_law_word.b .nil pass0 (pa_cons (pe_op op_fdiv (pv 0) pe_int) (pa_cons (pv 2) pa_nil))))
        (pss_cons (ps_if (pt_cmpR op_eq (pe_op op_mod (pe_op op_fdiv (pv 0) pe_int) pe_int) pe_int (nomark _))
          (pss_cons (ps_set (i := 7) sc__law_names.nd rfl (Or.inl rfl) (pe_ix ix_str (pv 1) (pe_op op_mod (pe_op op_add (pe_op op_fdiv (pv 0) pe_int) (pe_op op_mul pe_int (pv 5))) pe_int) (fun _ _ => rfl)))
            (pss_one (ps_set (i := 6) sc__law_names.nd rfl (Or.inl rfl) (pe_op op_add_str (pe_op op_add_str (pe_slice sl_str (pv 6) po_none (po_some (pv 3))) (pv 7)) (pe_slice sl_str (pv 6) (po_some (pe_op op_add (pv 3) pe_int)) po_none)))))
          (pss_one (ps_set (i := 6) sc__law_names.nd rfl (Or.inl rfl) (pe_call B_law_word.ok hr rfl B_law_word.m B_law_word.kp B_law_word.b .nil pass0 (pa_cons (pe_op op_add (pe_op op_fdiv (pv 0) pe_int) (pe_op op_mul pe_int (pv 5))) (pa_cons (pe_op op_add pe_int (pe_op op_mod (pe_op op_add (pe_op op_fdiv (pv 0) pe_int) (pv 5)) pe_int)) pa_nil))))))
        (pss_cons (ps_if (pt_cmpR op_in_seq (pv 6) (pe_tup (pa_cons pe_str (pa_cons pe_str (pa_cons pe_str (pa_cons pe_str (pa_cons pe_str (pa_cons pe_str (pa_cons pe_str (pa_cons pe_str pa_nil))))))))) rfl)
          (pss_one (ps_set (i := 6) sc__law_names.nd rfl (Or.inl rfl) (pe_op op_add_str (pv 6) pe_str)))
          pss_nil)
        (pss_one (ps_expr (pe_bm PySem.F.plainAttrs_list PySem.F.slot_list_append PySem.F.type_list_append mt_append (pv 4) (pa_cons (pv 6) pa_nil))))))))
    (pss_one (ps_ret (pv 4)))))))), ?_⟩
  have b8 := modR c (show (0 : Int) < 8 by decide)
  refine ⟨_, rfl, _, _, rfl, rfl, (by show (0 : Int) < 8; decide), _, _, rfl, rfl, _, rfl, _, _, rfl, rfl, ⟨by decide, by decide⟩, _, rfl, _, _, rfl, rfl, (by show (0 : Int) < 1 + c % 8; omega), (by show 0 ≤ sizeLine; decide), fun l hl => ?_⟩
  have s1 : Same H (upd H l (.lst [])) := sameNew hl _
  have n1 := upd_same (H := H) (a := l) (o := .lst [])
  generalize upd H l (.lst []) = H1 at s1 n1
  refine ⟨4, rfl, by decide, by decide, for_range (lo := 0) (n := 4) (fun i σ H' => ∃ (v5 v6 v7 : Option V) (zs : List Str), σ = [some (.int c), some (.str abcS), some (.int (1 + c % 8)), some (.int (c / 8 % (1 + c % 8))), some (.ref l), v5, v6, v7] ∧ Same H H' ∧ H' l = some (.lst (zs.map V.str)) ∧ zs.length = i) ⟨none, none, none, [], rfl, s1, n1, rfl⟩ ?_ ?_⟩
  · rintro i σ H2 hi ⟨v5, v6, v7, zs, rfl, s2, hl2, zl⟩
    refine ⟨_, rfl, _, _, rfl, rfl, ⟨by decide, by decide⟩, _, rfl, _, _, rfl, by omega, by omega, fun H3 z s3 z9 => ?_⟩
    refine ⟨_, rfl, _, _, rfl, rfl, ⟨by decide, by decide⟩, _, _, rfl, rfl, (by show (0 : Int) < 2; decide), rfl, _, rfl, ite2 (fun _ => ?_) (fun _ => ?_)⟩
    · have m := modR (c / 128 + 5 * (0 + (i : Int))) (show (0 : Int) < 26 by decide)
      obtain ⟨ch, hch⟩ := at_inX (xs := abcS.cps.toList) m.1 (by rw [abcS_len]; exact m.2)
      have c1 : (Txt.slice z none (some (c / 8 % (1 + c % 8)))).length ≤ 9 := cutS_le z9
      have c2 : (Txt.slice z (some (c / 8 % (1 + c % 8) + 1)) none).length ≤ 9 := cutS_le z9
      refine ⟨_, rfl, _, rfl, _, _, rfl, rfl, ⟨by decide, by decide⟩, _, rfl, _, _, rfl, rfl, .inl ⟨by decide, by decide⟩, _, _, rfl, rfl, _, _, rfl, rfl, (by show (0 : Int) < 26; decide), abcS, _, ch, rfl, rfl, szS (by decide +kernel), hch, ?_⟩
      refine ⟨_, rfl, _, rfl, _, rfl, z, rfl, szS (by omega), _, rfl, _, _, rfl, rfl, szS (by rw [oneS_len]; omega), _, rfl, _, rfl, _, _, rfl, rfl, _, rfl, z, rfl, szS (by omega), _, _, rfl, rfl, szS (by rw [appS_len, oneS_len]; omega), ?_⟩
      have yl : (Txt.slice z none (some (c / 8 % (1 + c % 8))) ++ (⟨#[ch]⟩ : Str) ++ Txt.slice z (some (c / 8 % (1 + c % 8) + 1)) none).length ≤ 20 := by
        rw [appS_len, appS_len, oneS_len]
        omega
      refine ⟨_, rfl, (by show 8 ≤ sizeLine; decide), fun p hp => ?_⟩
      have s4 := s3.trans (sameNew hp (.tup [.str "or", .str "and", .str "not", .str "never", .str "always", .str "then", .str "as", .str "unlike"]))
      refine ⟨p, _, rfl, .inr (SqT.of upd_same), rfl, rfl, _, rfl, ite2 (fun _ => ?_) (fun _ => ?_)⟩
      · refine ⟨_, rfl, _, "x", rfl, rfl, szS (by rw [show ("x" : Str).length = 1 by decide +kernel]; omega), _, rfl, .inl ⟨rfl, _, SqL.of (s4 _ _ hl2)⟩, _, rfl, l, _, _, rfl, rfl, s4 _ _ hl2, small1000 (by rw [List.length_map]; omega), _, _, _, zs ++ [Txt.slice z none (some (c / 8 % (1 + c % 8))) ++ (⟨#[ch]⟩ : Str) ++ Txt.slice z (some (c / 8 % (1 + c % 8) + 1)) none ++ "x"], rfl, (s2.trans s4).upd hl, ?_, by rw [List.length_append, zl]; rfl⟩
        rw [List.map_append]
        exact upd_same
      · refine ⟨_, rfl, .inl ⟨rfl, _, SqL.of (s4 _ _ hl2)⟩, _, rfl, l, _, _, rfl, rfl, s4 _ _ hl2, small1000 (by rw [List.length_map]; omega), _, _, _, zs ++ [Txt.slice z none (some (c / 8 % (1 + c % 8))) ++ (⟨#[ch]⟩ : Str) ++ Txt.slice z (some (c / 8 % (1 + c % 8) + 1)) none], rfl, (s2.trans s4).upd hl, ?_, by rw [List.length_append, zl]; rfl⟩
        rw [List.map_append]
        exact upd_same
    · have m := modR (c / 128 + (0 + (i : Int))) (show (0 : Int) < 8 by decide)
      refine ⟨_, rfl, _, _, rfl, rfl, ⟨by decide, by decide⟩, _, rfl, _, _, rfl, rfl, .inl ⟨by decide, by decide⟩, _, _, rfl, rfl, _, rfl, _, _, rfl, rfl, ⟨by decide, by decide⟩, _, rfl, _, _, rfl, rfl, _, _, rfl, rfl, (by show (0 : Int) < 8; decide), _, _, rfl, rfl, _, _, rfl, by omega, by omega, fun H4 y s34 y9 => ?_⟩
      refine ⟨_, rfl, (by show 8 ≤ sizeLine; decide), fun p hp => ?_⟩
      have s4 := (s3.trans s34).trans (sameNew hp (.tup [.str "or", .str "and", .str "not", .str "never", .str "always", .str "then", .str "as", .str "unlike"]))
      refine ⟨p, _, rfl, .inr (SqT.of upd_same), rfl, rfl, _, rfl, ite2 (fun _ => ?_) (fun _ => ?_)⟩
      · refine ⟨_, rfl, y, "x", rfl, rfl, szS (by rw [show ("x" : Str).length = 1 by decide +kernel]; omega), _, rfl, .inl ⟨rfl, _, SqL.of (s4 _ _ hl2)⟩, _, rfl, l, _, _, rfl, rfl, s4 _ _ hl2, small1000 (by rw [List.length_map]; omega), _, _, _, zs ++ [y ++ "x"], rfl, (s2.trans s4).upd hl, ?_, by rw [List.length_append, zl]; rfl⟩
        rw [List.map_append]
        exact upd_same
      · refine ⟨_, rfl, .inl ⟨rfl, _, SqL.of (s4 _ _ hl2)⟩, _, rfl, l, _, _, rfl, rfl, s4 _ _ hl2, small1000 (by rw [List.length_map]; omega), _, _, _, zs ++ [y], rfl, (s2.trans s4).upd hl, ?_, by rw [List.length_append, zl]; rfl⟩
        rw [List.map_append]
        exact upd_same
  · rintro σ H2 ⟨v5, v6, v7, zs, rfl, s2, hl2, zl⟩
    exact ⟨_, rfl, q H2 l zs s2 hl hl2 zl⟩
def sp_many_by : Sp := fun vs H Q _ => ∃ c : Int, vs = [.int c] ∧ ∀ m : Nat, m ≤ 60 → Q (.int (m : Int)) H
theorem sc__law_many_by : FnScope ["_law_cell"] ["_law_cell"] (defScope s__law_many_by) := ⟨rfl, rfl, rfl, by decide +kernel, rfl, by decide +kernel, by decide +kernel⟩
theorem ok_many_by (F : Fun K "_law_many_by" "_law_many_by" s__law_many_by f fd) : FnOk P w K mg base CX0 1 f fd ["_law_cell"] sp_many_by := by
  refine F.ok sc__law_many_by (fun vs H Q E h => ?_) (fun cdv A outer s H vs Q E hr h => ?_)
  · obtain ⟨c, rfl, _⟩ := h
    rfl
  obtain ⟨c, rfl, q⟩ := h
  refine ⟨_, (pss_cons (ps_if (pt_cmpR op_eq (pe_op op_mod (pe_op op_fdiv (pv 0) pe_int) pe_int) pe_int (nomark _))
      (pss_one (ps_ret (pe_op op_add pe_int (pe_op op_mod (pe_op op_fdiv (pv 0) pe_int) pe_int))))
      pss_nil)
    (pss_one (ps_ret (pe_op op_mod (pv 0) pe_int)))), ?_⟩
  have b1 := modR (c / 104) (show (0 : Int) < 41 by decide)
  have b2 := modR c (show (0 : Int) < 13 by decide)
  have go : ∀ m : Int, 0 ≤ m → m ≤ 60 → Q (.int m) H := fun m m0 m1 => by
    have := q m.toNat (by omega)
    rw [Int.toNat_of_nonneg m0] at this
    exact this
  refine ⟨_, rfl, _, _, rfl, rfl, ⟨by decide, by decide⟩, _, _, rfl, rfl, (by show (0 : Int) < 8; decide), rfl, _, rfl, ite2 (fun _ => ?_) (fun _ => ?_)⟩
  · exact ⟨_, rfl, _, _, rfl, rfl, ⟨by decide, by decide⟩, _, _, rfl, rfl, (by show (0 : Int) < 41; decide), _, _, rfl, rfl, go (20 + c / 104 % 41) (by omega) (by omega)⟩
  · exact ⟨_, rfl, _, _, rfl, rfl, (by show (0 : Int) < 13; decide), go (c % 13) b2.1 (by omega)⟩
end
end K12

/-! law k12: one term. Behind K12c. -/
namespace K12
open PySem L2
/-! _law_term -/
section
variable {P : Program} {w : World} {K : PySem.W.Frag} {mg : Str → Option Value} {base : Heap} {f fM fW fC fT : Addr} {fd dM dW dC dT' : FuncData}
abbrev NTm : List Str := ["_law_cell", "_law_names_here", "_law_terms_here", "_law_size", "_law_parts", "_law_turn", "_law_far", "_law_old", "_law_name", "_law_some"]
theorem sc__law_term : FnScope ["_law_cell", "_law_names_here", "_law_terms_here", "_law_size", "_law_parts", "_law_turn", "_law_far", "_law_old", "_law_name", "_law_some"] ["_law_cell", "_law_names_here", "_law_terms_here", "_law_size"] (defScope s__law_term) := ⟨rfl, rfl, rfl, by decide +kernel, rfl, by decide +kernel, by decide +kernel⟩
theorem term7 (T : Txt K mg) {cdv : Value} {A : Around} {outer : List Env} {s : Shared} {H0 : Hp} {E : XK} :
    ∃ t, PSs (cxOf CX0 P w K mg base NTm "_law_term" (defScope s__law_term) f cdv A outer s H0 E).nox ((defBody s__law_term).drop 7) t ∧
      ∀ (D : Ends) (H : Hp) (pl : Addr) (z : Str) (ns : List Int) (v0 v1 v2 v3 v5 v6 v7 v9 : Option V), H pl = some (.lst (ns.map V.int)) → (∀ (H' : Hp) (p q : Addr), Same H H' → SqT K H' p [.str z, .ref q] → SqT K H' q (ns.map V.int) → D.rt (.ref p) H') →
        t D [v0, v1, v2, v3, some (.ref pl), v5, v6, v7, some (.str z), v9] H := by
  refine ⟨_, (pss_one (ps_ret (pe_tup (pa_cons (pv 8) (pa_cons (pe_callTy call_tuple_of rfl T.tuple PyProof.Rows.Boot.tuple (pa_cons (pv 4) pa_nil)) pa_nil))))), ?_⟩
  rintro D H pl z ns v0 v1 v2 v3 v5 v6 v7 v9 hpl q
  refine ⟨_, rfl, _, rfl, pl, _, rfl, .inl ⟨SqL.of hpl, fun l hl => ?_⟩⟩
  have s1 : Same H (upd H l (.tup (ns.map V.int))) := sameNew hl _
  have n1 := upd_same (H := H) (a := l) (o := .tup (ns.map V.int))
  generalize upd H l (.tup (ns.map V.int)) = H1 at s1 n1
  refine ⟨(by show 2 ≤ sizeLine; decide), fun p hp => ?_⟩
  have s2 : Same H1 (upd H1 p (.tup [.str z, .ref l])) := sameNew hp _
  exact q _ p l (s1.trans s2) (SqT.of upd_same) (SqT.of (s2 _ _ n1))
set_option maxHeartbeats 1000000 in
theorem term4 (T : Txt K mg) (B_law_mixed : FB P w K mg base CX0 1 "_law_mixed" fM dM ["_law_cell", "_law_k"] sp_mixed) {cdv : Value} {A : Around} {outer : List Env} {s : Shared} {H0 : Hp} {E : XK} (hr : Room 1 (A.deeper (PyProof.Rows.envOfC "_law_term" (defScope s__law_term) s.heap.objs.size f cdv))) :
    ∃ t, PSs (cxOf CX0 P w K mg base NTm "_law_term" (defScope s__law_term) f cdv A outer s H0 E).nox ((defBody s__law_term).drop 4) t ∧
      ∀ (D : Ends) (H : Hp) (c : Int) (tl ol : Addr) (xs ys : List V) (os : List Tm) (zs : List Str) (v1 v3 v4 v5 v6 v8 v9 : Option V), SqL K H tl xs → 1 ≤ xs.length → H ol = some (.lst ys) → HasL K H (os.map dTm) ys → os ≠ [] → (∀ o ∈ os, TmIn zs xs.length o ∧ o.2 ≠ []) → (∀ (H' : Hp) (p q : Addr) (t : Tm), Same H H' → SqT K H' p [.str t.1, .ref q] → SqT K H' q (t.2.map V.int) → TmIn zs xs.length t → D.rt (.ref p) H') →
        t D [some (.int c), v1, some (.ref tl), v3, v4, v5, v6, some (.ref ol), v8, v9] H := by
  obtain ⟨t7, h7, q7⟩ := term7 (P := P) (w := w) (base := base) (f := f) (cdv := cdv) (A := A) (outer := outer) (s := s) (H0 := H0) (E := E) T
  refine ⟨_, (pss_cons (ps_asg (pe_ix ix_list (pv 7) (pe_op op_mod (pe_op op_fdiv (pv 0) pe_int) (pe_callB call_len_seq rfl T.len PySem.boot_len (pa_cons (pv 7) pa_nil))) (fun _ _ => rfl)) (pg_tup rfl (pgs_cons (pg_name (i := 8) sc__law_term.nd rfl (Or.inl rfl)) (pgs_cons (pg_name (i := 9) sc__law_term.nd rfl (Or.inl rfl)) pgs_nil))))
    (pss_cons (ps_set (i := 4) sc__law_term.nd rfl (Or.inl rfl) (pe_callTy call_list_of rfl T.list PyProof.Rows.Boot.list (pa_cons (pe_revT (pv 9) (pe_un un_neg pe_int)) pa_nil)))
    (pss_cons (ps_if (pt_cmpR op_gt (pe_op op_mod (pv 0) pe_int) pe_int (nomark _))
      (pss_cons (ps_set (i := 4) sc__law_term.nd rfl (Or.inl rfl) (pe_callTy call_list_of rfl T.list PyProof.Rows.Boot.list (pa_cons (pv 9) pa_nil)))
        (pss_one (ps_asg (pe_op op_mod (pe_call B_law_mixed.ok hr rfl B_law_mixed.m B_law_mixed.kp B_law_mixed.b .nil pass0 (pa_cons (pv 0) (pa_cons pe_int pa_nil))) (pe_callB call_len_seq rfl T.len PySem.boot_len (pa_cons (pv 2) pa_nil))) (pg_sub (pv 4) (pe_op op_mod (pe_op op_fdiv (pv 0) pe_int) (pe_callB call_len_seq rfl T.len PySem.boot_len (pa_cons (pv 4) pa_nil))) set_list))))
      pss_nil) h7))), ?_⟩
  rintro D H c tl ol xs ys os zs v1 v3 v4 v5 v6 v8 v9 hT x1 hol has one hos q
  have yl : ys.length = os.length := by rw [← has.length, List.length_map]
  have ol1 : 0 < os.length := List.length_pos_iff.mpr one
  have m := modR (c / 64) (show (0 : Int) < ((ys.length : Nat) : Int) by omega)
  obtain ⟨v, hv, hvm⟩ := at_inM (xs := ys) m.1 m.2
  obtain ⟨o, p, pq, ho, rfl, hp, hpq⟩ := hasl_mem has hvm
  obtain ⟨oin, one'⟩ := hos o ho
  refine ⟨_, rfl, _, rfl, _, _, rfl, rfl, ⟨by decide, by decide⟩, _, rfl, ol, _, rfl, .inl (SqL.of hol), _, _, rfl, rfl, (by omega), ol, _, _, _, rfl, rfl, SqL.of hol, hv, ?_⟩
  refine ⟨p, _, rfl, hp, rfl, _, _, rfl, _, _, rfl, rfl, ?_⟩
  refine ⟨_, rfl, _, rfl, rfl, pq, _, rfl, hpq, fun r hr' => ?_⟩
  have s1 : Same H (upd H r (.tup (o.2.map V.int).reverse)) := sameNew hr' _
  have n1 := upd_same (H := H) (a := r) (o := .tup (o.2.map V.int).reverse)
  generalize upd H r (.tup (o.2.map V.int).reverse) = H1 at s1 n1
  refine ⟨r, _, rfl, .inr (SqT.of n1), fun l hl => ?_⟩
  have s2 : Same H1 (upd H1 l (.lst (o.2.map V.int).reverse)) := sameNew hl _
  have n2 : (upd H1 l (.lst (o.2.map V.int).reverse)) l = some (.lst (o.2.reverse.map V.int)) := by rw [upd_same, List.map_reverse]
  generalize upd H1 l (.lst (o.2.map V.int).reverse) = H2 at s2 n2
  have s02 := s1.trans s2
  have m3 := modR c (show (0 : Int) < 3 by decide)
  refine ⟨_, rfl, _, _, rfl, rfl, (by show (0 : Int) < 3; decide), _, _, rfl, rfl, _, rfl, ite2 (fun _ => ?_) (fun _ => ?_)⟩
  · refine ⟨_, rfl, pq, _, rfl, .inr (s02.tup hpq), fun k hk => ?_⟩
    have s3 : Same H2 (upd H2 k (.lst (o.2.map V.int))) := sameNew hk _
    have n3 := upd_same (H := H2) (a := k) (o := .lst (o.2.map V.int))
    have hk0 := s02.free hk
    generalize upd H2 k (.lst (o.2.map V.int)) = H3 at s3 n3
    have s03 := s02.trans s3
    have ol2 : 0 < (o.2.map V.int).length := by rw [List.length_map]; exact List.length_pos_iff.mpr one'
    have mi := modR (c / 3) (show (0 : Int) < (((o.2.map V.int).length : Nat) : Int) by omega)
    have mx := modR (mixedF c 9) (show (0 : Int) < ((xs.length : Nat) : Int) by omega)
    obtain ⟨j, hj, hj2⟩ := ixN_in mi.1 mi.2
    refine ⟨_, rfl, c, 9, rfl, _, rfl, tl, _, rfl, .inl (s03.seq hT), _, _, rfl, rfl, (by omega), _, rfl, _, rfl, _, _, rfl, rfl, ⟨by decide, by decide⟩, _, rfl, k, _, rfl, .inl (SqL.of n3), _, _, rfl, rfl, (by omega), k, _, _, j, rfl, rfl, n3, hj, ?_⟩
    have e : (o.2.map V.int).set j (.int (mixedF c 9 % ((xs.length : Nat) : Int))) = (o.2.set j (mixedF c 9 % ((xs.length : Nat) : Int))).map V.int := (List.map_set).symm
    refine q7 D _ k o.1 (o.2.set j (mixedF c 9 % ((xs.length : Nat) : Int))) _ _ _ _ _ _ _ _ (by rw [upd_same]; exact congrArg (fun z => some (HO.lst z)) e) fun H' p' q' s' h1 h2 => q H' p' q' (o.1, o.2.set j (mixedF c 9 % ((xs.length : Nat) : Int))) ((s03.upd hk0).trans s') h1 h2 ⟨oin.1, by show (o.2.set j _).length ≤ 3; rw [List.length_set]; exact oin.2.1, fun x hx => ?_⟩
    rcases List.mem_or_eq_of_mem_set hx with hx | hx
    · exact oin.2.2 x hx
    · rw [hx]; exact mx
  · exact q7 D _ l o.1 o.2.reverse _ _ _ _ _ _ _ _ n2 fun H' p' q' s' h1 h2 => q H' p' q' (o.1, o.2.reverse) (s02.trans s') h1 h2 ⟨oin.1, by show o.2.reverse.length ≤ 3; rw [List.length_reverse]; exact oin.2.1, fun x hx => oin.2.2 x (List.mem_reverse.mp hx)⟩
def sp_term (K : PySem.W.Frag) : Sp := fun vs H Q _ => ∃ (c sz : Int) (nl tl : Addr) (zs : List Str) (xs : List V) (ts : List Tm), vs = [.int c, .ref nl, .ref tl, .int sz] ∧ SqL K H nl (zs.map V.str) ∧ zs.length = 4 ∧ SqL K H tl xs ∧ HasL K H (ts.map dTm) xs ∧ TmW zs ts ∧ ts.length ≤ 60 ∧ 0 ≤ sz ∧ sz ≤ 3 ∧
  ∀ (H' : Hp) (p q : Addr) (t : Tm), Same H H' → SqT K H' p [.str t.1, .ref q] → SqT K H' q (t.2.map V.int) → TmIn zs ts.length t → Q (.ref p) H'
set_option maxHeartbeats 1000000 in
theorem ok_term (F : Fun K "_law_term" "_law_term" s__law_term f fd) (T : Txt K mg) (B_law_mixed : FB P w K mg base CX0 1 "_law_mixed" fM dM ["_law_cell", "_law_k"] sp_mixed) : FnOk P w K mg base CX0 2 f fd ["_law_cell", "_law_names_here", "_law_terms_here", "_law_size"] (sp_term K) := by
  refine F.ok sc__law_term (fun vs H Q E h => ?_) (fun cdv A outer s H vs Q E hr h => ?_)
  · obtain ⟨c, sz, nl, tl, zs, xs, ts, rfl, _⟩ := h
    rfl
  obtain ⟨c, sz, nl, tl, zs, xs, ts, rfl, hN, z4, hT, hL, hW, t60, sz0, sz3, q⟩ := h
  have hu := units64 hr
  have xl : xs.length = ts.length := by rw [← hL.length, List.length_map]
  obtain ⟨t4, h4, q4⟩ := term4 (f := f) (outer := outer) (H0 := H) (E := E) T B_law_mixed hr
  refine ⟨_, (pss_cons (ps_set (i := 4) sc__law_term.nd rfl (Or.inl rfl) (pe_lst pa_nil))
    (pss_cons (ps_for PassesOwn.never rfl (pi_range1 rfl T.range (pa_cons (pe_op op_mul (pv 3) (pe_callTy call_int1 rfl T.int PyProof.Rows.Boot.int (pa_cons (pe_cmpR (op_neD hu) (pv 2) (pe_lst pa_nil) rfl) pa_nil))) pa_nil)) (pg_name (i := 5) sc__law_term.nd rfl (Or.inl rfl))
      (pss_cons (ps_set (i := 6) sc__law_term.nd rfl (Or.inl rfl) (pe_call B_law_mixed.ok hr rfl B_law_mixed.m B_law_mixed.kp B_law_mixed.b .nil pass0 (pa_cons (pv 0) (pa_cons (pe_op op_add pe_int (pv 5)) pa_nil))))
        (pss_one (ps_expr (pe_bm PySem.F.plainAttrs_list PySem.F.slot_list_append PySem.F.type_list_append mt_append (pv 4) (pa_cons (pe_op op_sub (pe_op op_sub (pe_callB call_len_seq rfl T.len PySem.boot_len (pa_cons (pv 2) pa_nil)) pe_int) (pe_op op_mod (pe_op op_fdiv (pv 6) pe_int) (pe_ix ix_list (pe_lst (pa_cons (pe_callB call_len_seq rfl T.len PySem.boot_len (pa_cons (pv 2) pa_nil)) (pa_cons (pe_callB (call_min2 rfl) rfl T.min PyProof.Rows.Boot.min (pa_cons pe_int (pa_cons (pe_callB call_len_seq rfl T.len PySem.boot_len (pa_cons (pv 2) pa_nil)) pa_nil))) pa_nil))) (pe_op op_mod (pv 6) pe_int) (fun _ _ => rfl)))) pa_nil))))))
    (pss_cons (ps_setLCI (i := 7) (N' := ["_law_term_here"]) (ix := []) sc__law_term.nd rfl (Or.inl rfl) rfl rfl (by decide +kernel) (by decide +kernel) rfl (fun _ => ⟨[], clo_none (by decide +kernel) (by decide +kernel)⟩) (by decide +kernel) rfl rfl (fun j i h => by simp at h) (pi_list (pv 2)) (fun _ _ _ _ => (pt_cmpR (r := rNeD K) (op_neD hu) (pe_ix (r := rIxT K) ix_tup (pv 0) pe_int (fun _ _ => rfl)) (pe_tup pa_nil) rfl)) (fun _ _ _ _ => (pv 0)))
    (pss_cons (ps_if (PW.pt (pw_or (pt_cmpR (op_eqD hu) (pv 7) (pe_lst pa_nil) rfl) (pw_or1 (pt_cmpR op_eq (pe_op op_mod (pe_op op_fdiv (pv 0) pe_int) pe_int) pe_int (nomark _)))))
      (pss_one (ps_ret (pe_tup (pa_cons (pe_ix ix_list (pv 1) (pe_op op_mod (pv 0) pe_int) (fun _ _ => rfl)) (pa_cons (pe_callTy call_tuple_of rfl T.tuple PyProof.Rows.Boot.tuple (pa_cons (pv 4) pa_nil)) pa_nil)))))
      pss_nil) h4)))), ?_⟩
  refine ⟨(by show 0 ≤ sizeLine; decide), fun pl hpl => ?_⟩
  have s1 : Same H (upd H pl (.lst [])) := sameNew hpl _
  have n1 := upd_same (H := H) (a := pl) (o := .lst [])
  generalize upd H pl (.lst []) = H1 at s1 n1
  refine ⟨_, rfl, _, rfl, (by show 0 ≤ sizeLine; decide), fun el hel => ?_⟩
  have s2 : Same H1 (upd H1 el (.lst [])) := sameNew hel _
  have n2 := upd_same (H := H1) (a := el) (o := .lst [])
  generalize upd H1 el (.lst []) = H2 at s2 n2
  have s12 := s1.trans s2
  have d2 := deps_dTm ts
  refine ⟨.lst (ts.map dTm), .lst [], Has.lst' (s12.seq hT) (HasL.keep s12.kt (nols_dTm _) hL), Has.lst' (SqL.of n2) HasL.nil, (by simp only [dep, deps]; omega), .inr ⟨_, rfl, _, _, rfl, rfl, .inl ⟨by omega, by omega⟩, ?_⟩⟩
  rw [peq_nil]
  obtain ⟨k, hk, k0⟩ : ∃ k : Nat, sz * (if (!(ts.map dTm).isEmpty) = true then (1 : Int) else 0) = (k : Int) ∧ (0 < k → 1 ≤ ts.length) ∧ k ≤ 3 := by
    cases ts with
    | nil => exact ⟨0, by simp, fun z => absurd z (Nat.lt_irrefl _), by omega⟩
    | cons t ts' => exact ⟨sz.toNat, by simp; omega, fun _ => by simp, by omega⟩
  refine ⟨(k : Int), congrArg (fun z => [V.int z]) hk, by omega, by omega, for_range (lo := 0) (n := ((k : Int)).toNat) (fun i σ H' => ∃ (v5 v6 : Option V) (ns : List Int), σ = [some (.int c), some (.ref nl), some (.ref tl), some (.int sz), some (.ref pl), v5, v6, none, none, none] ∧ Same H H' ∧ H' pl = some (.lst (ns.map V.int)) ∧ ns.length = i ∧ ∀ x ∈ ns, 0 ≤ x ∧ x < (ts.length : Int)) ⟨none, none, [], rfl, s12, s2 _ _ n1, rfl, fun x hx => nomatch hx⟩ ?_ ?_⟩
  · rintro i σ H3 hi ⟨v5, v6, ns, rfl, s3, hp3, nl3, hb⟩
    have k1 : 1 ≤ ts.length := k0.1 (by omega)
    have hT3 := s3.seq hT
    refine ⟨_, rfl, _, rfl, _, _, rfl, rfl, c, _, rfl, ?_⟩
    obtain ⟨d, hd, d1, d2⟩ : ∃ d : Int, atI [V.int ((xs.length : Nat) : Int), V.int (loF 3 ((xs.length : Nat) : Int))] (mixedF c (5 + (0 + (i : Int))) % 2) = some (.int d) ∧ 1 ≤ d ∧ d ≤ ((xs.length : Nat) : Int) := by
      rcases two_at (V.int ((xs.length : Nat) : Int)) (V.int (loF 3 ((xs.length : Nat) : Int))) (mixedF c (5 + (0 + (i : Int)))) with ⟨_, e⟩ | ⟨_, e⟩
      · exact ⟨_, e, by omega, Int.le_refl _⟩
      · refine ⟨_, e, ?_⟩
        unfold loF
        split <;> omega
    have md := modR (mixedF c (5 + (0 + (i : Int))) / 2) (show (0 : Int) < d by omega)
    refine ⟨_, rfl, .inl ⟨rfl, _, SqL.of hp3⟩, _, rfl, tl, _, rfl, .inl hT3, _, _, rfl, rfl, _, rfl, _, _, rfl, rfl, ⟨by decide, by decide⟩, _, rfl, tl, _, rfl, .inl hT3, _, rfl, tl, _, rfl, .inl hT3, _, _, rfl, (by show 2 ≤ sizeLine; decide), fun dl hdl => ?_⟩
    have s4 : Same H3 (upd H3 dl (.lst [V.int ((xs.length : Nat) : Int), V.int (loF 3 ((xs.length : Nat) : Int))])) := sameNew hdl _
    refine ⟨_, rfl, _, _, rfl, rfl, (by show (0 : Int) < 2; decide), dl, _, _, _, rfl, rfl, SqL.of upd_same, hd, _, _, rfl, rfl, (by omega), _, _, rfl, rfl, pl, _, _, rfl, rfl, s4 _ _ hp3, small1000 (by rw [List.length_map]; omega), _, _, ns ++ [((xs.length : Nat) : Int) - 1 - mixedF c (5 + (0 + (i : Int))) / 2 % d], rfl, (s3.trans s4).upd hpl, ?_, by rw [List.length_append, nl3]; rfl, fun x hx => ?_⟩
    · rw [List.map_append]
      exact upd_same
    · rcases List.mem_append.mp hx with hx | hx
      · exact hb x hx
      · rw [List.mem_singleton.mp hx]
        omega
  rintro σ H3 ⟨v5, v6, ns, rfl, s3, hp3, nl3, hb⟩
  have hT3 := s3.seq hT
  have hL3 := HasL.keep s3.kt (nols_dTm _) hL
  refine ⟨_, rfl, tl, rfl, ⟨_, hT3⟩, fun D hD => lci_by wk_list (fun i ys H' => Same H3 H' ∧ ∃ os : List Tm, HasL K H' (os.map dTm) ys ∧ ∀ o ∈ os, o ∈ ts ∧ o.2 ≠ []) (fun i ys H' ⟨s4, _⟩ => s4.seq hT3) ⟨sameNew hD _, [], HasL.nil, fun o ho => nomatch ho⟩ ?_ ?_⟩
  · rintro i ys H9 x H4 hi hly hDs ⟨s4, os, ho, hos⟩ ⟨rfl, hx⟩
    obtain ⟨t, p, pq, ht, rfl, hp, hpq⟩ := tm_at hL3 (hx _ (s4.seq hT3))
    have a1 : atI [V.str t.1, V.ref pq] 1 = some (.ref pq) := atI_nat (j := 1) rfl
    refine ⟨_, rfl, p, _, _, _, rfl, rfl, s4.tup hp, a1, (by show 0 ≤ sizeLine; decide), fun e he => ?_⟩
    have s5 : Same H4 (upd H4 e (.tup [])) := sameNew he _
    have n5 := upd_same (H := H4) (a := e) (o := .tup [])
    have hD5 := s5 _ _ hDs
    generalize upd H4 e (.tup []) = H5 at s5 n5 hD5
    have s35 := s4.trans s5
    refine ⟨.tup (t.2.map Dt.int), .tup [], Has.tup' (s35.tup hpq) (HasL.ints _), Has.tup' (SqT.of n5) HasL.nil, (by simp only [dep, depsInts]; decide), _, rfl, ?_⟩
    rw [peq_nilT]
    have ho5 := HasL.keep s5.kt (nols_dTm _) ho
    cases e2 : t.2 with
    | nil => exact iteF (lc_skip hi hly hD5 ⟨s35, os, ho5, hos⟩)
    | cons a r =>
      have kt := KeepT.lst (ys := ys ++ [.ref p]) hD5
      refine iteT ⟨_, rfl, lc_post (bsz _ (by omega)) hi hly hD5 ⟨s35.upd hD, os ++ [t], ?_, fun o ho' => ?_⟩⟩
      · rw [List.map_append]
        exact HasL.append (HasL.keep kt (nols_dTm _) ho5) (HasL.one (of_dTm (kt.sq (s35.tup hp)) (kt.sq (s35.tup hpq))))
      · rcases List.mem_append.mp ho' with ho' | ho'
        · exact hos o ho'
        · cases List.mem_singleton.mp ho'
          exact ⟨List.mem_of_getElem? ht, by rw [e2]; exact List.cons_ne_nil _ _⟩
  rintro ys H4 hDs ⟨s4, os, ho, hos⟩
  have s04 := s3.trans s4
  have hp4 := s4 _ _ hp3
  refine ⟨_, rfl, (by show 0 ≤ sizeLine; decide), fun el2 hel2 => ?_⟩
  have s5 : Same H4 (upd H4 el2 (.lst [])) := sameNew hel2 _
  have n5 := upd_same (H := H4) (a := el2) (o := .lst [])
  have hD5 := s5 _ _ hDs
  have hp5 := s5 _ _ hp4
  have ho5 := HasL.keep s5.kt (nols_dTm _) ho
  generalize upd H4 el2 (.lst []) = H5 at s5 n5 hD5 hp5 ho5
  have s05 := s04.trans s5
  have d3 := deps_dTm os
  have yl : ys.length = os.length := by rw [← ho5.length, List.length_map]
  refine ⟨.lst (os.map dTm), .lst [], Has.lst' (SqL.of hD5) ho5, Has.lst' (SqL.of n5) HasL.nil, (by simp only [dep, deps]; omega), _, rfl, ?_⟩
  rw [peq_nil]
  have m4 := modR c (show (0 : Int) < 4 by decide)
  obtain ⟨zv, hz, hzm⟩ := at_inM (xs := zs.map V.str) m4.1 (by rw [List.length_map, z4]; exact m4.2)
  obtain ⟨z, hzz, rfl⟩ := List.mem_map.mp hzm
  have ret : ∀ l p, H5 l = none → (upd H5 l (.tup (ns.map V.int))) p = none → Q (.ref p) (upd (upd H5 l (.tup (ns.map V.int))) p (.tup [.str z, .ref l])) := fun l p hl hp => by
    have s6 : Same H5 (upd H5 l (.tup (ns.map V.int))) := sameNew hl _
    have n6 := upd_same (H := H5) (a := l) (o := .tup (ns.map V.int))
    have s7 := sameNew hp (.tup [.str z, .ref l])
    exact q _ p l (z, ns) ((s05.trans s6).trans s7) (SqT.of upd_same) (SqT.of (s7 _ _ n6)) ⟨hzz, by show ns.length ≤ 3; rw [nl3]; omega, hb⟩
  cases eo : os with
  | nil => exact iteT (iteT ⟨_, rfl, _, rfl, _, _, rfl, rfl, (by show (0 : Int) < 4; decide), nl, _, _, _, rfl, rfl, s05.seq hN, hz, _, rfl, pl, _, rfl, .inl ⟨SqL.of hp5, fun l hl => ⟨(by show 2 ≤ sizeLine; decide), fun p hp => ret l p hl hp⟩⟩⟩)
  | cons o1 os' =>
    refine iteF ⟨_, rfl, _, _, rfl, rfl, ⟨by decide, by decide⟩, _, _, rfl, rfl, (by show (0 : Int) < 2; decide), rfl, _, rfl, ite2 (fun _ => ?_) (fun _ => ?_)⟩
    · exact ⟨_, rfl, _, rfl, _, _, rfl, rfl, (by show (0 : Int) < 4; decide), nl, _, _, _, rfl, rfl, s05.seq hN, hz, _, rfl, pl, _, rfl, .inl ⟨SqL.of hp5, fun l hl => ⟨(by show 2 ≤ sizeLine; decide), fun p hp => ret l p hl hp⟩⟩⟩
    · refine q4 _ H5 c tl D xs ys os zs _ _ _ _ _ _ _ (s05.seq hT) ?_ hD5 ho5 (by rw [eo]; exact List.cons_ne_nil _ _) (fun o ho' => ⟨by rw [xl]; exact hW.all (hos o ho').1, (hos o ho').2⟩) fun H' p' q' t s' h1 h2 h3 => q H' p' q' t (s05.trans s') h1 h2 (by rw [← xl]; exact h3)
      rw [xl]
      exact List.length_pos_of_mem (hos o1 (by rw [eo]; exact List.mem_cons_self)).1
end
end K12

/-! law k12: the terms. Behind K12e. -/
namespace K12
open PySem L2
/-! _law_terms -/
section
variable {P : Program} {w : World} {K : PySem.W.Frag} {mg : Str → Option Value} {base : Heap} {f fM fW fC fT : Addr} {fd dM dW dC dT' : FuncData}
abbrev NTs : List Str := ["_law_script", "_law_first", "_law_names_here", "_law_many", "_law_chain", "_law_wide", "_law_terms_here", "_law_k", "_law_mix", "_law_term_here"]
theorem sc__law_terms : FnScope ["_law_script", "_law_first", "_law_names_here", "_law_many", "_law_chain", "_law_wide", "_law_terms_here", "_law_k", "_law_mix", "_law_term_here"] ["_law_script", "_law_first", "_law_names_here", "_law_many"] (defScope s__law_terms) := ⟨rfl, rfl, rfl, by decide +kernel, rfl, by decide +kernel, by decide +kernel⟩
def forB (s : Stmt) : List Stmt := match s with
  | .For _ _ b _ _ => b
  | _ => []
theorem terms3 {cdv : Value} {A : Around} {outer : List Env} {s : Shared} {H0 : Hp} {E : XK} (hr : Room 2 (A.deeper (PyProof.Rows.envOfC "_law_terms" (defScope s__law_terms) s.heap.objs.size f cdv))) :
    ∃ t, PSs (cxOf CX0 P w K mg base NTs "_law_terms" (defScope s__law_terms) f cdv A outer s H0 E).nox ((forB ((defBody s__law_terms).getD 3 (.Pass ⟨0, 0, 0, 0⟩))).drop 3) t ∧
      ∀ (D : Ends) (H : Hp) (tl p q : Addr) (xs : List V) (ts : List Tm) (t' : Tm) (zs : List Str) (i : Nat) (v0 v1 v2 v3 v4 v5 v7 v8 : Option V), H tl = some (.lst xs) → HasL K H (ts.map dTm) xs → TmW zs ts → ts.length ≤ i → i < 60 → SqT K H p [.str t'.1, .ref q] → SqT K H q (t'.2.map V.int) → TmIn zs ts.length t' →
        (∀ (H' : Hp) (xs' : List V) (ts' : List Tm), (∀ H0, H0 tl = none → Same H0 H → Same H0 H') → H' tl = some (.lst xs') → HasL K H' (ts'.map dTm) xs' → TmW zs ts' → ts'.length ≤ i + 1 → D.nx [v0, v1, v2, v3, v4, v5, some (.ref tl), v7, v8, some (.ref p)] H') →
        t D [v0, v1, v2, v3, v4, v5, some (.ref tl), v7, v8, some (.ref p)] H := by
  have hu := units64 hr
  refine ⟨_, (pss_one (ps_if (pt_cmpR (op_notInD hu) (pv 9) (pv 6) rfl)
          (pss_one (ps_expr (pe_bm PySem.F.plainAttrs_list PySem.F.slot_list_append PySem.F.type_list_append mt_append (pv 6) (pa_cons (pv 9) pa_nil))))
          pss_nil)), ?_⟩
  rintro D H tl p q xs ts t' zs i v0 v1 v2 v3 v4 v5 v7 v8 htl has hW li i60 hp hq hin nx
  have xl : xs.length = ts.length := by rw [← has.length, List.length_map]
  have d2 := deps_dTm ts
  refine ⟨_, rfl, _, rfl, tl, xs, ts.map dTm, dTm t', rfl, .inl (SqL.of htl), has, of_dTm hp hq, by omega, _, rfl, ite2 (fun _ => ?_) (fun _ => ?_)⟩
  · have kt := KeepT.lst (ys := xs ++ [.ref p]) htl
    refine ⟨_, rfl, .inl ⟨rfl, _, SqL.of htl⟩, _, rfl, tl, _, _, rfl, rfl, htl, small1000 (by omega), nx _ (xs ++ [.ref p]) (ts ++ [t']) (fun H0 h0 s0 => s0.upd h0) upd_same ?_ (hW.snoc hin) (by rw [List.length_append]; show ts.length + 1 ≤ i + 1; omega)⟩
    rw [List.map_append]
    exact HasL.append (HasL.keep kt (nols_dTm _) has) (HasL.one (of_dTm (kt.sq hp) (kt.sq hq)))
  · exact nx H xs ts (fun _ _ s0 => s0) htl has hW (by omega)
def sp_terms (K : PySem.W.Frag) : Sp := fun vs H Q _ => ∃ (a nl : Addr) (ns : List Int) (b m : Nat) (zs : List Str), vs = [.ref a, .int (b : Int), .ref nl, .int (m : Int)] ∧ SqL K H a (ns.map V.int) ∧ SqL K H nl (zs.map V.str) ∧ zs.length = 4 ∧ m ≤ 60 ∧
  ∀ (H' : Hp) (l : Addr) (xs : List V) (ts : List Tm), Same H H' → H l = none → H' l = some (.lst xs) → HasL K H' (ts.map dTm) xs → TmW zs ts → ts.length ≤ 60 → Q (.ref l) H'
set_option maxHeartbeats 1000000 in
theorem ok_terms (F : Fun K "_law_terms" "_law_terms" s__law_terms f fd) (T : Txt K mg) (B_law_cell_at : FB P w K mg base CX0 1 "_law_cell_at" fC dC ["_law_script", "_law_k"] (sp_cell K)) (B_law_mixed : FB P w K mg base CX0 1 "_law_mixed" fM dM ["_law_cell", "_law_k"] sp_mixed) (B_law_term : FB P w K mg base CX0 2 "_law_term" fT dT' ["_law_cell", "_law_names_here", "_law_terms_here", "_law_size"] (sp_term K)) : FnOk P w K mg base CX0 3 f fd ["_law_script", "_law_first", "_law_names_here", "_law_many"] (sp_terms K) := by
  refine F.ok sc__law_terms (fun vs H Q E h => ?_) (fun cdv A outer s H vs Q E hr h => ?_)
  · obtain ⟨a, nl, ns, b, m, zs, rfl, _⟩ := h
    rfl
  obtain ⟨a, nl, ns, b, m, zs, rfl, hS, hN, z4, m60, q⟩ := h
  have hr1 : Room 1 _ := hr.mono (by decide)
  obtain ⟨t3, h3, q3⟩ := terms3 (P := P) (w := w) (K := K) (mg := mg) (base := base) (f := f) (outer := outer) (H0 := H) (E := E) hr
  refine ⟨_, (pss_cons (ps_if (pt_cmpR op_eq (pe_op op_mod (pe_call B_law_cell_at.ok hr1 rfl B_law_cell_at.m B_law_cell_at.kp B_law_cell_at.b .nil pass0 (pa_cons (pv 0) (pa_cons (pv 1) pa_nil))) pe_int) pe_int (nomark _))
      (pss_cons (ps_set (i := 4) sc__law_terms.nd rfl (Or.inl rfl) (pe_op op_cat (pe_lst (pa_cons (pe_tup (pa_cons (pe_ix ix_list (pv 2) pe_int (fun _ _ => rfl)) (pa_cons (pe_tup pa_nil) pa_nil))) pa_nil)) (pe_lc (N' := ["_law_k", "_law_names_here"]) (ix := [2]) rfl rfl (by decide +kernel) (by decide +kernel) rfl (fun ok => clo_of (sc := defScope s__law_terms) ok rfl (by decide +kernel) (by decide +kernel)) (by decide +kernel) rfl rfl (fun j i h => match j, h with | 0, h => by cases h; exact ⟨_, rfl, rfl, .inl rfl, .inl rfl⟩ | n + 1, h => by simp at h) (pi_range1 rfl T.range (pa_cons (pe_op op_sub (pv 3) pe_int) pa_nil)) (fun _ _ _ _ => (pe_tup (pa_cons (pe_ix (r := rIxL K) ix_list (pv 1) pe_int (fun _ _ => rfl)) (pa_cons (pe_tup (pa_cons (pv 0) pa_nil)) pa_nil)))))))
        (pss_one (ps_ret (pe_slice sl_list (pv 4) po_none (po_some (pv 3))))))
      pss_nil)
    (pss_cons (ps_set (i := 5) sc__law_terms.nd rfl (Or.inl rfl) (pe_cmpR op_in_seq (pe_op op_mod (pe_call B_law_cell_at.ok hr1 rfl B_law_cell_at.m B_law_cell_at.kp B_law_cell_at.b .nil pass0 (pa_cons (pv 0) (pa_cons (pv 1) pa_nil))) pe_int) (pe_tup (pa_cons pe_int (pa_cons pe_int pa_nil))) rfl))
    (pss_cons (ps_set (i := 6) sc__law_terms.nd rfl (Or.inl rfl) (pe_lst pa_nil))
    (pss_cons (ps_for PassesOwn.never rfl (pi_range1 rfl T.range (pa_cons (pv 3) pa_nil)) (pg_name (i := 7) sc__law_terms.nd rfl (Or.inl rfl))
      (pss_cons (ps_set (i := 8) sc__law_terms.nd rfl (Or.inl rfl) (pe_call B_law_mixed.ok hr1 rfl B_law_mixed.m B_law_mixed.kp B_law_mixed.b .nil pass0 (pa_cons (pe_call B_law_cell_at.ok hr1 rfl B_law_cell_at.m B_law_cell_at.kp B_law_cell_at.b .nil pass0 (pa_cons (pv 0) (pa_cons (pe_op op_add (pv 1) (pe_op op_mod (pv 7) pe_int)) pa_nil))) (pa_cons (pv 7) pa_nil))))
        (pss_cons (ps_set (i := 9) sc__law_terms.nd rfl (Or.inl rfl) (pe_tup (pa_cons (pe_ix ix_list (pv 2) (pe_op op_mod (pv 7) pe_int) (fun _ _ => rfl)) (pa_cons (pe_tup pa_nil) pa_nil))))
        (pss_cons (ps_if (PW.pt (pw_or (pt_not (pt_val (pv 5))) (pw_or1 (pt_cmpR op_gt (pv 7) pe_int (nomark _)))))
          (pss_one (ps_set (i := 9) sc__law_terms.nd rfl (Or.inl rfl) (pe_call B_law_term.ok hr rfl B_law_term.m B_law_term.kp B_law_term.b .nil pass0 (pa_cons (pv 8) (pa_cons (pv 2) (pa_cons (pv 6) (pa_cons (pe_ix ix_list (pe_lst (pa_cons (pe_op op_fdiv (pe_op op_mod (pe_op op_fdiv (pv 8) pe_int) pe_int) pe_int) (pa_cons pe_int pa_nil))) (pe_callTy call_int1 rfl T.int PyProof.Rows.Boot.int (pa_cons (pv 5) pa_nil)) (fun _ _ => rfl)) pa_nil)))))))
          pss_nil) h3))))
    (pss_one (ps_ret (pv 6))))))), ?_⟩
  have nat_at : ∀ {j : Nat}, j < 4 → ∃ z, z ∈ zs ∧ atI (zs.map V.str) (j : Int) = some (.str z) := fun {j} hj => by
    have lt : j < zs.length := by omega
    refine ⟨zs[j], List.getElem_mem lt, atI_nat (j := j) ?_⟩
    rw [List.getElem?_map, List.getElem?_eq_getElem lt]
    rfl
  refine ⟨_, rfl, _, rfl, a, ns, b, rfl, hS, _, _, rfl, rfl, (by show (0 : Int) < 8; decide), rfl, _, rfl, ite2 (fun _ => ?_) (fun _ => ?_)⟩
  · obtain ⟨z0, hz0, az0⟩ := nat_at (j := 0) (by omega)
    obtain ⟨z1, hz1, az1⟩ := nat_at (j := 1) (by omega)
    refine ⟨_, rfl, nl, _, _, _, rfl, rfl, hN, az0, (by show 0 ≤ sizeLine; decide), fun e he => ?_⟩
    have s1 : Same H (upd H e (.tup [])) := sameNew he _
    have n1 := upd_same (H := H) (a := e) (o := .tup [])
    generalize upd H e (.tup []) = H1 at s1 n1
    refine ⟨(by show 2 ≤ sizeLine; decide), fun p0 hp0 => ?_⟩
    have s2 : Same H1 (upd H1 p0 (.tup [.str z0, .ref e])) := sameNew hp0 _
    have n2 := upd_same (H := H1) (a := p0) (o := .tup [.str z0, .ref e])
    have n12 := s2 _ _ n1
    generalize upd H1 p0 (.tup [.str z0, .ref e]) = H2 at s2 n2 n12
    refine ⟨(by show 1 ≤ sizeLine; decide), fun l0 hl0 => ?_⟩
    have s3 : Same H2 (upd H2 l0 (.lst [.ref p0])) := sameNew hl0 _
    have n3 := upd_same (H := H2) (a := l0) (o := .lst [.ref p0])
    have n13 := s3 _ _ n12
    have n23 := s3 _ _ n2
    generalize upd H2 l0 (.lst [.ref p0]) = H3 at s3 n3 n13 n23
    have s03 := (s1.trans s2).trans s3
    have hN3 := s03.seq hN
    refine ⟨_, rfl, _, _, rfl, rfl, _, rfl, by omega, by omega, fun D hD => lc_by wk_range (fun i ys H' => Same H3 H' ∧ HasL K H' (((List.range i).map fun j : Nat => ((z1, [(j : Int)]) : Tm)).map dTm) ys) (fun _ _ _ _ => trivial) ⟨sameNew hD _, HasL.nil⟩ ?_ ?_⟩
    · rintro i ys H9 x H4 hi hly hDs ⟨s4, hy⟩ ⟨rfl, rfl⟩
      have hi' : (i : Int) < (m : Int) - 1 := by
        have : i < ((m : Int) - 1).toNat := hi
        omega
      refine ⟨_, rfl, nl, _, _, _, rfl, rfl, s4.seq hN3, az1, _, rfl, (by show 1 ≤ sizeLine; decide), fun e1 he1 => ?_⟩
      have s5 : Same H4 (upd H4 e1 (.tup [.int (0 + (i : Int))])) := sameNew he1 _
      have n5 := upd_same (H := H4) (a := e1) (o := .tup [.int (0 + (i : Int))])
      generalize upd H4 e1 (.tup [.int (0 + (i : Int))]) = H5 at s5 n5
      refine ⟨(by show 2 ≤ sizeLine; decide), fun p1 hp1 => ?_⟩
      have s6 : Same H5 (upd H5 p1 (.tup [.str z1, .ref e1])) := sameNew hp1 _
      have n6 := upd_same (H := H5) (a := p1) (o := .tup [.str z1, .ref e1])
      have n56 := s6 _ _ n5
      have s46 := s5.trans s6
      have hD6 := s46 _ _ hDs
      have hy6 := HasL.keep s46.kt (nols_dTm _) hy
      generalize upd H5 p1 (.tup [.str z1, .ref e1]) = H6 at s6 n6 n56 s46 hD6 hy6
      have kt := KeepT.lst (ys := ys ++ [.ref p1]) hD6
      refine lc_post (bsz _ (by omega)) hi hly hD6 ⟨(s4.trans s46).upd hD, ?_⟩
      rw [List.range_succ, List.map_append, List.map_append]
      refine HasL.append (HasL.keep kt (nols_dTm _) hy6) (HasL.one (of_dTm (t := (z1, [(i : Int)])) (kt.sq (SqT.of n6)) ?_))
      rw [Int.zero_add] at n56
      exact kt.sq (SqT.of n56)
    rintro ys H4 hDs ⟨s4, hy⟩
    have yl : ys.length = ((m : Int) - 1).toNat := by rw [← hy.length, List.length_map, List.length_map, List.length_range]
    have hl0 := s4 _ _ n3
    refine ⟨l0, D, _, _, rfl, rfl, hl0, hDs, bsz _ (by show 1 + ys.length ≤ 1000; omega), fun cl hcl => ?_⟩
    have s5 : Same H4 (upd H4 cl (.lst ([.ref p0] ++ ys))) := sameNew hcl _
    have n5 := upd_same (H := H4) (a := cl) (o := .lst ([.ref p0] ++ ys))
    have n15 := s5 _ _ (s4 _ _ n13)
    have n25 := s5 _ _ (s4 _ _ n23)
    have hy5 := HasL.keep s5.kt (nols_dTm _) hy
    generalize upd H4 cl (.lst ([.ref p0] ++ ys)) = H5 at s5 n5 n15 n25 hy5
    refine ⟨_, rfl, _, rfl, _, rfl, cl, _, rfl, SqL.of n5, fun rl hrl => ?_⟩
    have s6 : Same H5 (upd H5 rl (.lst (cutV ([.ref p0] ++ ys) none (some (m : Int))))) := sameNew hrl _
    have s06 := (((s03.trans s4).trans s5).trans s6)
    have all : HasL K H5 (((z0, []) :: (List.range ((m : Int) - 1).toNat).map fun j : Nat => ((z1, [(j : Int)]) : Tm)).map dTm) ([.ref p0] ++ ys) := by
      rw [List.map_cons]
      exact HasL.cons (of_dTm (t := (z0, [])) (SqT.of n25) (SqT.of n15)) hy5
    have cut := cut_take ([V.ref p0] ++ ys) m
    rw [cut] at s06 ⊢
    have w : TmW zs ((z0, []) :: (List.range ((m : Int) - 1).toNat).map fun j : Nat => ((z1, [(j : Int)]) : Tm)) := by
      intro i t ht
      cases i with
      | zero =>
        cases ht
        exact ⟨hz0, by show (0 : Nat) ≤ 3; omega, fun x hx => nomatch hx⟩
      | succ i =>
        rw [List.getElem?_cons_succ, List.getElem?_map] at ht
        obtain ⟨j, hj, rfl⟩ := Option.map_eq_some_iff.mp ht
        have lt := (List.getElem?_eq_some_iff.mp hj).1
        rw [List.length_range] at lt
        rw [List.getElem?_range lt] at hj
        cases hj
        refine ⟨hz1, by show (1 : Nat) ≤ 3; omega, fun x hx => ?_⟩
        rw [List.mem_singleton.mp hx]
        omega
    refine q _ rl _ (((z0, []) :: (List.range ((m : Int) - 1).toNat).map fun j : Nat => ((z1, [(j : Int)]) : Tm)).take m) s06 (((s03.trans s4).trans s5).free hrl) upd_same ?_ (fun i t ht => w i t ?_) ?_
    · rw [List.map_take]
      exact (HasL.keep (sameNew hrl _).kt (nols_dTm _) all).take m
    · by_cases c : i < m
      · rw [List.getElem?_take, if_pos c] at ht
        exact ht
      · rw [List.getElem?_take, if_neg c] at ht
        cases ht
    · rw [List.length_take]
      omega
  refine ⟨_, rfl, _, rfl, a, ns, b, rfl, hS, _, _, rfl, rfl, (by show (0 : Int) < 8; decide), (by show 2 ≤ sizeLine; decide), fun e he => ?_⟩
  have s1 : Same H (upd H e (.tup [.int 2, .int 6])) := sameNew he _
  have n1 := upd_same (H := H) (a := e) (o := .tup [.int 2, .int 6])
  generalize upd H e (.tup [.int 2, .int 6]) = H1 at s1 n1
  refine ⟨e, _, rfl, .inr (SqT.of n1), rfl, rfl, ?_⟩
  generalize inV (.int (ns.getD b 0 % 8)) [.int 2, .int 6] = wide
  refine ⟨(by show 0 ≤ sizeLine; decide), fun tl htl => ?_⟩
  have s2 : Same H1 (upd H1 tl (.lst [])) := sameNew htl _
  have n2 := upd_same (H := H1) (a := tl) (o := .lst [])
  generalize upd H1 tl (.lst []) = H2 at s2 n2
  have s02 := s1.trans s2
  have htl0 := s1.free htl
  refine ⟨_, rfl, (m : Int), rfl, by omega, by omega, for_range (lo := 0) (n := ((m : Int)).toNat) (fun i σ H' => ∃ (v7 v8 v9 : Option V) (xs : List V) (ts : List Tm), σ = [some (.ref a), some (.int (b : Int)), some (.ref nl), some (.int (m : Int)), none, some (.bl wide), some (.ref tl), v7, v8, v9] ∧ Same H H' ∧ H' tl = some (.lst xs) ∧ HasL K H' (ts.map dTm) xs ∧ TmW zs ts ∧ ts.length ≤ i) ⟨none, none, none, [], [], rfl, s02, n2, HasL.nil, TmW.nil _, Nat.le_refl _⟩ ?_ ?_⟩
  · rintro i σ H3 hi ⟨v7, v8, v9, xs, ts, rfl, s3, tl3, has3, hW, li⟩
    have hi' : i < m := by
      have : i < ((m : Int)).toNat := hi
      omega
    have xl : xs.length = ts.length := by rw [← has3.length, List.length_map]
    obtain ⟨z, hz, az⟩ := nat_at (j := i % 4) (by omega)
    have az' : atI (zs.map V.str) ((0 + (i : Int)) % 4) = some (.str z) := by
      rw [show (0 + (i : Int)) % 4 = ((i % 4 : Nat) : Int) by omega]
      exact az
    have ei : (b : Int) + (0 + (i : Int)) % 6 = ((b + i % 6 : Nat) : Int) := by omega
    refine ⟨_, rfl, _, rfl, _, rfl, _, _, rfl, rfl, (by show (0 : Int) < 6; decide), _, _, rfl, rfl, a, ns, b + i % 6, congrArg (fun z => [V.ref a, V.int z]) ei, s3.seq hS, _, rfl, _, _, rfl, ?_⟩
    generalize mixedF (ns.getD (b + i % 6) 0) (0 + (i : Int)) = mix
    refine ⟨_, rfl, _, rfl, _, _, rfl, rfl, (by show (0 : Int) < 4; decide), nl, _, _, _, rfl, rfl, s3.seq hN, az', (by show 0 ≤ sizeLine; decide), fun e1 he1 => ?_⟩
    have s4 : Same H3 (upd H3 e1 (.tup [])) := sameNew he1 _
    have n4 := upd_same (H := H3) (a := e1) (o := .tup [])
    generalize upd H3 e1 (.tup []) = H4 at s4 n4
    refine ⟨(by show 2 ≤ sizeLine; decide), fun p1 hp1 => ?_⟩
    have s5 : Same H4 (upd H4 p1 (.tup [.str z, .ref e1])) := sameNew hp1 _
    have n5 := upd_same (H := H4) (a := p1) (o := .tup [.str z, .ref e1])
    have n45 := s5 _ _ n4
    have s56 := s4.trans s5
    have tl6 := s56 _ _ tl3
    have has6 := HasL.keep s56.kt (nols_dTm _) has3
    generalize upd H4 p1 (.tup [.str z, .ref e1]) = H6 at s5 n5 n45 s56 tl6 has6
    have s06 := s3.trans s56
    have next : ∀ (H7 : Hp) (p q : Addr) (t : Tm) (D : Ends) (x8 : Option V), Same H3 H7 → SqT K H7 p [.str t.1, .ref q] → SqT K H7 q (t.2.map V.int) → TmIn zs ts.length t → (D.nx = fun σ H' => ∃ (v7 v8 v9 : Option V) (xs : List V) (ts : List Tm), σ = [some (.ref a), some (.int (b : Int)), some (.ref nl), some (.int (m : Int)), none, some (.bl wide), some (.ref tl), v7, v8, v9] ∧ Same H H' ∧ H' tl = some (.lst xs) ∧ HasL K H' (ts.map dTm) xs ∧ TmW zs ts ∧ ts.length ≤ i + 1) →
        t3 D [some (.ref a), some (.int (b : Int)), some (.ref nl), some (.int (m : Int)), none, some (.bl wide), some (.ref tl), some (.int (0 + (i : Int))), x8, some (.ref p)] H7 := fun H7 p q t D x8 s7 k1 k2 k3 eD => by
      refine q3 D H7 tl p q xs ts t zs i _ _ _ _ _ _ _ _ (s7 _ _ tl3) (HasL.keep s7.kt (nols_dTm _) has3) hW li (by omega) k1 k2 k3 fun H8 xs' ts' k4 k5 k6 k7 k8 => ?_
      rw [eD]
      exact ⟨_, _, _, xs', ts', rfl, k4 H htl0 (s3.trans s7), k5, k6, k7, k8⟩
    have m8 := modR (mix / 4) (show (0 : Int) < 8 by decide)
    refine ⟨_, rfl, _, rfl, ?_⟩
    cases wide with
    | false => exact iteT (iteT ⟨_, rfl, _, rfl, _, rfl, _, rfl, _, _, rfl, rfl, ⟨by decide, by decide⟩, _, _, rfl, rfl, (by show (0 : Int) < 8; decide), _, _, rfl, rfl, ⟨by decide, by decide⟩, (by show 2 ≤ sizeLine; decide), fun dl hdl => ⟨_, rfl, .inr ⟨_, rfl, dl, _, _, _, rfl, rfl, SqL.of upd_same, atI_nat (j := 0) rfl, _, mix / 4 % 8 / 2, nl, tl, zs, xs, ts, rfl, ((s06.trans (sameNew hdl _)).seq hN), z4, SqL.of (sameNew hdl _ _ _ tl6), HasL.keep (sameNew hdl _).kt (nols_dTm _) has6, hW, by omega, (by omega), (by omega), fun H7 p7 q7 t7 s7 k1 k2 k3 => next H7 p7 q7 t7 _ _ (s56.trans ((sameNew hdl _).trans s7)) k1 k2 k3 rfl⟩⟩⟩)
    | true =>
      refine iteF ⟨_, rfl, _, _, rfl, rfl, _, rfl, ite2 (fun _ => ?_) (fun _ => ?_)⟩
      · exact ⟨_, rfl, _, rfl, _, rfl, _, rfl, _, _, rfl, rfl, ⟨by decide, by decide⟩, _, _, rfl, rfl, (by show (0 : Int) < 8; decide), _, _, rfl, rfl, ⟨by decide, by decide⟩, (by show 2 ≤ sizeLine; decide), fun dl hdl => ⟨_, rfl, .inr ⟨_, rfl, dl, _, _, _, rfl, rfl, SqL.of upd_same, atI_nat (j := 1) rfl, _, 3, nl, tl, zs, xs, ts, rfl, ((s06.trans (sameNew hdl _)).seq hN), z4, SqL.of (sameNew hdl _ _ _ tl6), HasL.keep (sameNew hdl _).kt (nols_dTm _) has6, hW, by omega, (by decide), (by decide), fun H7 p7 q7 t7 s7 k1 k2 k3 => next H7 p7 q7 t7 _ _ (s56.trans ((sameNew hdl _).trans s7)) k1 k2 k3 rfl⟩⟩⟩
      · exact next H6 p1 e1 (z, []) _ _ s56 (SqT.of n5) (SqT.of n45) ⟨hz, by show (0 : Nat) ≤ 3; omega, fun x hx => nomatch hx⟩ rfl
  · rintro σ H3 ⟨v7, v8, v9, xs, ts, rfl, s3, tl3, has3, hW, li⟩
    have li' : ts.length ≤ ((m : Int)).toNat := li
    exact ⟨_, rfl, q H3 tl xs ts s3 htl0 tl3 has3 hW (by omega)⟩
end
end K12

/-! law k12: twins. Behind K12f. -/
namespace K12
open PySem L2
/-! _law_twin_parts -/
section
variable {P : Program} {w : World} {K : PySem.W.Frag} {mg : Str → Option Value} {base : Heap} {f fM fC fT : Addr} {fd dM dC dT' : FuncData}
def sp_twin (K : PySem.W.Frag) : Sp := fun vs H Q _ => ∃ (tl : Addr) (mix : Int) (xs : List V) (ts : List Tm) (zs : List Str), vs = [.ref tl, .int mix] ∧ SqL K H tl xs ∧ HasL K H (ts.map dTm) xs ∧ TmW zs ts ∧ 1 ≤ ts.length ∧ ts.length ≤ 60 ∧
  ∀ (H' : Hp) (p : Addr) (x y : Int), Same H H' → SqT K H' p [.int x, .int y] → (0 ≤ x ∧ x < (ts.length : Int)) → (0 ≤ y ∧ y < (ts.length : Int)) → Q (.ref p) H'
abbrev NTw : List Str := ["_law_terms_here", "_law_mix", "_law_one", "_law_some", "_law_other", "_law_pairs"]
theorem sc__law_twin_parts : FnScope ["_law_terms_here", "_law_mix", "_law_one", "_law_some", "_law_other", "_law_pairs"] ["_law_terms_here", "_law_mix"] (defScope s__law_twin_parts) := ⟨rfl, rfl, rfl, by decide +kernel, rfl, by decide +kernel, by decide +kernel⟩
set_option maxHeartbeats 1000000 in
theorem twin3 (T : Txt K mg) {cdv : Value} {A : Around} {outer : List Env} {s : Shared} {H0 : Hp} {E : XK} (hu : (A.deeper (PyProof.Rows.envOfC "_law_twin_parts" (defScope s__law_twin_parts) s.heap.objs.size f cdv)).units + 64 < cLine) :
    ∃ t, PSs (cxOf CX0 P w K mg base NTw "_law_twin_parts" (defScope s__law_twin_parts) f cdv A outer s H0 E).nox ((defBody s__law_twin_parts).drop 3) t ∧
      ∀ (D : Ends) (H : Hp) (tl po qo : Addr) (mix one : Int) (xs : List V) (ts : List Tm) (t1 ot : Tm) (v3 : Option V), SqL K H tl xs → HasL K H (ts.map dTm) xs → ts.length ≤ 60 → 0 ≤ one → one < (ts.length : Int) → ts[one.toNat]? = some t1 → SqT K H po [.str ot.1, .ref qo] → SqT K H qo (ot.2.map V.int) → ot.2.length = t1.2.length → t1.2.length ≤ 3 → (∀ x ∈ t1.2, 0 ≤ x ∧ x < (ts.length : Int)) → (∀ x ∈ ot.2, 0 ≤ x ∧ x < (ts.length : Int)) →
        (∀ (H' : Hp) (p : Addr) (x y : Int), Same H H' → SqT K H' p [.int x, .int y] → (0 ≤ x ∧ x < (ts.length : Int)) → (0 ≤ y ∧ y < (ts.length : Int)) → D.rt (.ref p) H') →
        t D [some (.ref tl), some (.int mix), some (.int one), v3, some (.ref po), none] H := by
  refine ⟨_, (pss_cons (ps_setLCIG (i := 5) (N' := ["_law_a", "_law_b"]) (L := 2) (ix := []) sc__law_twin_parts.nd rfl (Or.inl rfl) rfl rfl (by decide +kernel) (by decide +kernel) (fun _ => ⟨[], clo_none (by decide +kernel) (by decide +kernel)⟩) rfl (fun j i h => by simp at h) (pi_zipT rfl T.zip (pa_cons (pe_ix ix_tup (pe_ix ix_list (pv 0) (pv 2) (fun _ _ => rfl)) pe_int (fun _ _ => rfl)) (pa_cons (pe_ix ix_tup (pv 4) pe_int (fun _ _ => rfl)) pa_nil))) (fun _ _ _ _ => (pg_tupK 2 K rfl rfl (pgs_cons (pg_name (i := 0) (show (["_law_a", "_law_b"] : List Str).Nodup by decide +kernel) rfl (Or.inl rfl)) (pgs_cons (pg_name (i := 1) (show (["_law_a", "_law_b"] : List Str).Nodup by decide +kernel) rfl (Or.inl rfl)) pgs_nil)))) (fun _ _ _ _ => (pt_cmpR op_ne (pv 0) (pv 1) (nomark _))) (fun _ _ _ _ => (pe_tup (pa_cons (pv 0) (pa_cons (pv 1) pa_nil)))))
    (pss_cons (ps_if (pt_cmpR (op_eqD hu) (pv 5) (pe_lst pa_nil) rfl)
      (pss_one (ps_ret (pe_tup (pa_cons (pv 2) (pa_cons (pe_op op_mod (pe_op op_fdiv (pv 1) pe_int) (pe_callB call_len_seq rfl T.len PySem.boot_len (pa_cons (pv 0) pa_nil))) pa_nil)))))
      pss_nil)
    (pss_one (ps_ret (pe_ix ix_list (pv 5) (pe_op op_mod (pe_op op_fdiv (pv 1) pe_int) (pe_callB call_len_seq rfl T.len PySem.boot_len (pa_cons (pv 5) pa_nil))) (fun _ _ => rfl)))))), ?_⟩
  rintro D H tl po qo mix one xs ts t1 ot v3 hT hL t60 o0 o1 ht1 hpo hqo leq l3 b1 b2 q
  have xl : xs.length = ts.length := by rw [← hL.length, List.length_map]
  obtain ⟨v, hv⟩ := at_inX (xs := xs) o0 (by rw [xl]; exact o1)
  have hv2 : xs[one.toNat]? = some v := by
    have e : one = ((one.toNat : Nat) : Int) := by omega
    have lt : one.toNat < xs.length := by omega
    have h2 : atI xs ((one.toNat : Nat) : Int) = some xs[one.toNat] := atI_nat (List.getElem?_eq_getElem lt)
    rw [← e, hv] at h2
    rw [List.getElem?_eq_getElem lt]
    exact h2.symm
  obtain ⟨t1', p1, q1, ht1', rfl, hp1, hq1⟩ := tm_at hL hv2
  cases ht1.symm.trans ht1'
  have a1 : atI [V.str t1.1, V.ref q1] 1 = some (.ref q1) := atI_nat (j := 1) rfl
  have a2 : atI [V.str ot.1, V.ref qo] 1 = some (.ref qo) := atI_nat (j := 1) rfl
  refine ⟨_, rfl, _, rfl, tl, _, _, _, rfl, rfl, hT, hv, p1, _, _, _, rfl, rfl, hp1, a1, _, rfl, po, _, _, _, rfl, rfl, hpo, a2, q1, qo, rfl, ⟨_, hq1⟩, ⟨_, hqo⟩, fun Dl hDl => lcig_by (wk_zipT (xs := t1.2.map V.int) (ys := ot.2.map V.int) (by rw [List.length_map, List.length_map, leq])) (fun i ys H' => Same H H' ∧ ∃ ps : List (Int × Int), HasL K H' (ps.map dP) ys ∧ PairsIn ts.length ps) (fun i ys H' ⟨s1, _⟩ => ⟨s1.tup hq1, s1.tup hqo⟩) ⟨sameNew hDl _, [], HasL.nil, fun p hp => nomatch hp⟩ ?_ ?_⟩
  · rintro i ys H1 x H2 hi hly hDs ⟨s1, ps, has, pin⟩ ⟨p, y, z, rfl, hp, rfl, hy, hz⟩ σ0 hσ0
    obtain ⟨n, hn, rfl⟩ := ints_at (hy _ (s1.tup hq1))
    obtain ⟨m, hm, rfl⟩ := ints_at (hz _ (s1.tup hqo))
    have nb := b1 n (List.mem_of_getElem? hn)
    have mb := b2 m (List.mem_of_getElem? hm)
    have s2 : Same H1 (upd H1 p (.tup [.int n, .int m])) := sameNew hp _
    have n2 := upd_same (H := H1) (a := p) (o := .tup [.int n, .int m])
    have hD2 := s2 _ _ hDs
    have has2 := HasL.keep s2.kt (nols_dPs _) has
    generalize upd H1 p (.tup [.int n, .int m]) = H2 at s2 n2 hD2 has2
    match σ0, hσ0 with
    | [w0, w1], _ =>
      refine ⟨p, _, rfl, SqT.of n2, rfl, _, _, rfl, _, _, rfl, rfl, [some (.int n), some (.int m)], rfl, rfl, ?_⟩
      refine ⟨_, rfl, _, rfl, rfl, _, rfl, ?_⟩
      rw [decV]
      have il : i < t1.2.length := by rw [← List.length_map (f := V.int)]; exact hi
      by_cases c : n = m
      · rw [decide_eq_true c]
        exact iteF (lc_skip hi hly hD2 ⟨s1.trans s2, ps, has2, pin⟩)
      · rw [decide_eq_false c]
        refine iteT ⟨_, rfl, _, rfl, (by show 2 ≤ sizeLine; decide), fun r hr' => ?_⟩
        have s3 : Same H2 (upd H2 r (.tup [.int n, .int m])) := sameNew hr' _
        have n3 := upd_same (H := H2) (a := r) (o := .tup [.int n, .int m])
        have hD3 := s3 _ _ hD2
        have has3 := HasL.keep s3.kt (nols_dPs _) has2
        generalize upd H2 r (.tup [.int n, .int m]) = H3 at s3 n3 hD3 has3
        have kt := KeepT.lst (ys := ys ++ [.ref r]) hD3
        refine lc_post (bsz _ (by rw [List.length_map]; omega)) hi hly hD3 ⟨((s1.trans s2).trans s3).upd hDl, ps ++ [(n, m)], ?_, fun pr hpr => ?_⟩
        · rw [List.map_append]
          exact HasL.append (HasL.keep kt (nols_dPs _) has3) (HasL.one (Has.tup' (kt.sq (SqT.of n3)) (.cons Has.int (.cons Has.int .nil))))
        · rcases List.mem_append.mp hpr with hpr | hpr
          · exact pin pr hpr
          · cases List.mem_singleton.mp hpr
            exact ⟨nb, mb⟩
  rintro ys H1 hDs ⟨s1, ps, has, pin⟩
  have yl : ys.length = ps.length := by rw [← has.length, List.length_map]
  refine ⟨_, rfl, (by show 0 ≤ sizeLine; decide), fun e he => ?_⟩
  have s2 : Same H1 (upd H1 e (.lst [])) := sameNew he _
  have n2 := upd_same (H := H1) (a := e) (o := .lst [])
  have hD2 := s2 _ _ hDs
  have has2 := HasL.keep s2.kt (nols_dPs _) has
  generalize upd H1 e (.lst []) = H2 at s2 n2 hD2 has2
  have s02 := s1.trans s2
  have dp := deps_dPs ps
  refine ⟨.lst (ps.map dP), .lst [], Has.lst' (SqL.of hD2) has2, Has.lst' (SqL.of n2) HasL.nil, (by simp only [dep]; omega), _, rfl, ?_⟩
  rw [peq_nil]
  cases ep : ps with
  | nil =>
    have m := modR (mix / 3721) (show (0 : Int) < ((xs.length : Nat) : Int) by omega)
    refine iteT ⟨_, rfl, _, rfl, _, _, rfl, rfl, ⟨by decide, by decide⟩, _, rfl, tl, _, rfl, .inl (s02.seq hT), _, _, rfl, rfl, (by omega), (by show 2 ≤ sizeLine; decide), fun r hr' => ?_⟩
    exact q _ r one (mix / 3721 % ((xs.length : Nat) : Int)) (s02.trans (sameNew hr' _)) (SqT.of upd_same) ⟨o0, o1⟩ (by omega)
  | cons p0 ps' =>
    have pl : 0 < ps.length := by rw [ep]; simp
    have m := modR (mix / 3721) (show (0 : Int) < ((ys.length : Nat) : Int) by omega)
    obtain ⟨v, hv', hvm⟩ := at_inM (xs := ys) m.1 m.2
    obtain ⟨j, hj⟩ := List.mem_iff_getElem?.mp hvm
    obtain ⟨pr, p', hpr, rfl, hp'⟩ := hasl_at has2 hj
    have pb := pin pr (List.mem_of_getElem? hpr)
    exact iteF ⟨_, rfl, _, rfl, _, _, rfl, rfl, ⟨by decide, by decide⟩, _, rfl, Dl, _, rfl, .inl (SqL.of hD2), _, _, rfl, rfl, (by omega), Dl, _, _, _, rfl, rfl, SqL.of hD2, hv', q _ p' pr.1 pr.2 s02 hp' pb.1 pb.2⟩
set_option maxHeartbeats 1000000 in
theorem ok_twin (F : Fun K "_law_twin_parts" "_law_twin_parts" s__law_twin_parts f fd) (T : Txt K mg) : FnOk P w K mg base CX0 1 f fd ["_law_terms_here", "_law_mix"] (sp_twin K) := by
  refine F.ok sc__law_twin_parts (fun vs H Q E h => ?_) (fun cdv A outer s H vs Q E hr h => ?_)
  · obtain ⟨tl, mix, xs, ts, zs, rfl, _⟩ := h
    rfl
  obtain ⟨tl, mix, xs, ts, zs, rfl, hT, hL, hW, t1', t60, q⟩ := h
  have hu := units64 hr
  have xl : xs.length = ts.length := by rw [← hL.length, List.length_map]
  obtain ⟨t3, h3, q3⟩ := twin3 (P := P) (w := w) (K := K) (mg := mg) (base := base) (f := f) (outer := outer) (H0 := H) (E := E) T hu
  refine ⟨_, (pss_cons (ps_set (i := 2) sc__law_twin_parts.nd rfl (Or.inr rfl) (pe_op op_mod (pv 1) (pe_callB call_len_seq rfl T.len PySem.boot_len (pa_cons (pv 0) pa_nil))))
    (pss_cons (ps_setLCI (i := 3) (N' := ["_law_term_here", "_law_terms_here", "_law_one"]) (ix := [0, 2]) sc__law_twin_parts.nd rfl (Or.inl rfl) rfl rfl (by decide +kernel) (by decide +kernel) rfl (fun ok => clo_of (sc := defScope s__law_twin_parts) ok rfl (by decide +kernel) (by decide +kernel)) (by decide +kernel) rfl rfl (fun j i h => match j, h with | 0, h => by cases h; exact ⟨_, rfl, rfl, .inl rfl, .inl rfl⟩ | 1, h => by cases h; exact ⟨_, rfl, rfl, .inl rfl, .inl rfl⟩ | n + 2, h => by simp at h) (pi_list (pv 0)) (fun _ _ _ _ => (PW.pt (pw_and (pt_cmpR op_eq (pe_ix (r := rIxT K) ix_tup (pv 0) pe_int (fun _ _ => rfl)) (pe_ix (r := rIxT K) ix_tup (pe_ix (r := rIxL K) ix_list (pv 1) (pv 2) (fun _ _ => rfl)) pe_int (fun _ _ => rfl)) (nomark _)) (pw_and1 (pt_cmpR op_eq (pe_callB (r := rLenS K) call_len_seq rfl T.len PySem.boot_len (pa_cons (pe_ix (r := rIxT K) ix_tup (pv 0) pe_int (fun _ _ => rfl)) pa_nil)) (pe_callB (r := rLenS K) call_len_seq rfl T.len PySem.boot_len (pa_cons (pe_ix (r := rIxT K) ix_tup (pe_ix (r := rIxL K) ix_list (pv 1) (pv 2) (fun _ _ => rfl)) pe_int (fun _ _ => rfl)) pa_nil)) (nomark _)))))) (fun _ _ _ _ => (pv 0)))
    (pss_cons (ps_set (i := 4) sc__law_twin_parts.nd rfl (Or.inl rfl) (pe_ix ix_list (pv 3) (pe_op op_mod (pe_op op_fdiv (pv 1) pe_int) (pe_callB call_len_seq rfl T.len PySem.boot_len (pa_cons (pv 3) pa_nil))) (fun _ _ => rfl))) h3))), ?_⟩
  have mo := modR mix (show (0 : Int) < ((xs.length : Nat) : Int) by omega)
  have lt : (mix % ((xs.length : Nat) : Int)).toNat < xs.length := by omega
  have ltt : (mix % ((xs.length : Nat) : Int)).toNat < ts.length := by omega
  have eo : mix % ((xs.length : Nat) : Int) = (((mix % ((xs.length : Nat) : Int)).toNat : Nat) : Int) := by omega
  have hv : atI xs (mix % ((xs.length : Nat) : Int)) = some xs[(mix % ((xs.length : Nat) : Int)).toNat] := by
    have : atI xs (((mix % ((xs.length : Nat) : Int)).toNat : Nat) : Int) = some xs[(mix % ((xs.length : Nat) : Int)).toNat] := atI_nat (List.getElem?_eq_getElem lt)
    rw [← eo] at this
    exact this
  obtain ⟨t1, p1, q1, ht1, ev, hp1, hq1⟩ := tm_at hL (List.getElem?_eq_getElem lt)
  rw [ev] at hv
  have c0 : atI [V.str t1.1, V.ref q1] 0 = some (.str t1.1) := atI_nat (j := 0) rfl
  have c1 : atI [V.str t1.1, V.ref q1] 1 = some (.ref q1) := atI_nat (j := 1) rfl
  refine ⟨_, rfl, _, rfl, tl, _, rfl, .inl hT, _, _, rfl, rfl, (by omega), ?_⟩
  refine ⟨_, rfl, tl, rfl, ⟨_, hT⟩, fun Dl hDl => lci_by wk_list (fun i ys H' => Same H H' ∧ ∃ os : List Tm, HasL K H' (os.map dTm) ys ∧ (∀ o ∈ os, o ∈ ts ∧ o.2.length = t1.2.length) ∧ (mix % ((xs.length : Nat) : Int) < (i : Int) → os ≠ [])) (fun i ys H' ⟨s1, _⟩ => s1.seq hT) ⟨sameNew hDl _, [], HasL.nil, (fun o ho => nomatch ho), fun z => absurd z (by omega)⟩ ?_ ?_⟩
  · rintro i ys H9 x H1 hi hly hDs ⟨s1, os, ho, hos, hne⟩ ⟨rfl, hx⟩
    obtain ⟨t, p, pq, ht, rfl, hp, hpq⟩ := tm_at hL (hx _ (s1.seq hT))
    have d0 : atI [V.str t.1, V.ref pq] 0 = some (.str t.1) := atI_nat (j := 0) rfl
    have d1 : atI [V.str t.1, V.ref pq] 1 = some (.ref pq) := atI_nat (j := 1) rfl
    have kt := KeepT.lst (ys := ys ++ [.ref p]) hDs
    have skip : (t.1 ≠ t1.1 ∨ t.2.length ≠ t1.2.length) → Same H H1 ∧ ∃ os : List Tm, HasL K H1 (os.map dTm) ys ∧ (∀ o ∈ os, o ∈ ts ∧ o.2.length = t1.2.length) ∧ (mix % ((xs.length : Nat) : Int) < ((i + 1 : Nat) : Int) → os ≠ []) := fun z => by
      refine ⟨s1, os, ho, hos, fun z2 => hne ?_⟩
      by_cases e : mix % ((xs.length : Nat) : Int) = (i : Int)
      · exfalso
        have e2 : (mix % ((xs.length : Nat) : Int)).toNat = i := by omega
        rw [e2] at ht1
        cases ht1.symm.trans ht
        rcases z with z | z
        · exact z rfl
        · exact z rfl
      · omega
    refine ⟨_, rfl, p, _, _, _, rfl, rfl, s1.tup hp, d0, _, rfl, _, rfl, tl, _, _, _, rfl, rfl, s1.seq hT, hv, p1, _, _, _, rfl, rfl, s1.tup hp1, c0, rfl, _, rfl, ?_⟩
    rw [decS]
    by_cases e1 : t.1 = t1.1
    · rw [decide_eq_true e1]
      refine iteT ⟨_, rfl, p, _, _, _, rfl, rfl, s1.tup hp, d1, pq, _, rfl, .inr (s1.tup hpq), _, rfl, _, rfl, tl, _, _, _, rfl, rfl, s1.seq hT, hv, p1, _, _, _, rfl, rfl, s1.tup hp1, c1, q1, _, rfl, .inr (s1.tup hq1), rfl, _, rfl, ?_⟩
      rw [List.length_map, List.length_map, decV]
      by_cases e2 : t.2.length = t1.2.length
      · rw [decide_eq_true (by rw [e2])]
        refine iteT ⟨_, rfl, lc_post (bsz _ (by omega)) hi hly hDs ⟨s1.upd hDl, os ++ [t], ?_, fun o ho' => ?_, fun _ => by simp⟩⟩
        · rw [List.map_append]
          exact HasL.append (HasL.keep kt (nols_dTm _) ho) (HasL.one (of_dTm (kt.sq (s1.tup hp)) (kt.sq (s1.tup hpq))))
        · rcases List.mem_append.mp ho' with ho' | ho'
          · exact hos o ho'
          · cases List.mem_singleton.mp ho'
            exact ⟨List.mem_of_getElem? ht, e2⟩
      · rw [decide_eq_false (by omega)]
        exact iteF (lc_skip hi hly hDs (skip (.inr e2)))
    · rw [decide_eq_false e1]
      exact iteF (iteF (lc_skip hi hly hDs (skip (.inl e1))))
  rintro ys H1 hDs ⟨s1, os, ho, hos, hne⟩
  have ne := hne mo.2
  have ol : 0 < os.length := List.length_pos_iff.mpr ne
  have yl : ys.length = os.length := by rw [← ho.length, List.length_map]
  have mi := modR (mix / 61) (show (0 : Int) < ((ys.length : Nat) : Int) by omega)
  obtain ⟨v, hv', hvm⟩ := at_inM (xs := ys) mi.1 mi.2
  obtain ⟨ot, po, qo, hot, rfl, hpo, hqo⟩ := hasl_mem ho hvm
  obtain ⟨o1, o2⟩ := hos ot hot
  refine ⟨_, rfl, _, rfl, _, _, rfl, rfl, ⟨by decide, by decide⟩, _, rfl, Dl, _, rfl, .inl (SqL.of hDs), _, _, rfl, rfl, (by omega), Dl, _, _, _, rfl, rfl, SqL.of hDs, hv', ?_⟩
  have w1 := hW.all (List.mem_of_getElem? ht1)
  have w2 := hW.all o1
  exact q3 _ H1 tl po qo mix (mix % ((xs.length : Nat) : Int)) xs ts t1 ot _ (s1.seq hT) (HasL.keep s1.kt (nols_dTm _) hL) t60 mo.1 (by omega) ht1 hpo hqo o2 w1.2.1 w1.2.2 w2.2.2 fun H' p x y s' k1 k2 k3 => q H' p x y (s1.trans s') k1 k2 k3
end
end K12

/-! law k12: what is given, heads anew. Behind K12g. -/
namespace K12
open PySem L2
/-! _law_given -/
section
variable {P : Program} {w : World} {K : PySem.W.Frag} {mg : Str → Option Value} {base : Heap} {f fM fC fT : Addr} {fd dM dC dT' : FuncData}
def sp_given (K : PySem.W.Frag) : Sp := fun vs H Q _ => ∃ (a tl : Addr) (ns : List Int) (b : Nat) (xs : List V) (ts : List Tm) (zs : List Str), vs = [.ref a, .int (b : Int), .ref tl] ∧ SqL K H a (ns.map V.int) ∧ SqL K H tl xs ∧ HasL K H (ts.map dTm) xs ∧ TmW zs ts ∧ ts.length ≤ 60 ∧
  ∀ (H' : Hp) (l : Addr) (gs : List (Int × Int)) (ys : List V), Same H H' → H l = none → H' l = some (.lst ys) → HasL K H' (gs.map dP) ys → PairsIn ts.length gs → gs.length ≤ 201 → Q (.ref l) H'
abbrev NGv : List Str := ["_law_script", "_law_first", "_law_terms_here", "_law_cell", "_law_many", "_law_given_here", "_law_k", "_law_mix"]
theorem sc__law_given : FnScope ["_law_script", "_law_first", "_law_terms_here", "_law_cell", "_law_many", "_law_given_here", "_law_k", "_law_mix"] ["_law_script", "_law_first", "_law_terms_here"] (defScope s__law_given) := ⟨rfl, rfl, rfl, by decide +kernel, rfl, by decide +kernel, by decide +kernel⟩
set_option maxHeartbeats 1000000 in
theorem given3 (T : Txt K mg) (B_law_cell_at : FB P w K mg base CX0 1 "_law_cell_at" fC dC ["_law_script", "_law_k"] (sp_cell K)) (B_law_mixed : FB P w K mg base CX0 1 "_law_mixed" fM dM ["_law_cell", "_law_k"] sp_mixed) (Btw : FB P w K mg base CX0 1 "_law_twin_parts" fT dT' ["_law_terms_here", "_law_mix"] (sp_twin K)) {cdv : Value} {A : Around} {outer : List Env} {s : Shared} {H0 : Hp} {E : XK} (hr : Room 1 (A.deeper (PyProof.Rows.envOfC "_law_given" (defScope s__law_given) s.heap.objs.size f cdv))) :
    ∃ t, PSs (cxOf CX0 P w K mg base NGv "_law_given" (defScope s__law_given) f cdv A outer s H0 E).nox ((defBody s__law_given).drop 3) t ∧
      ∀ (D : Ends) (H : Hp) (a tl : Addr) (ns : List Int) (b m : Nat) (xs : List V) (ts : List Tm) (zs : List Str) (v3 : Option V), SqL K H a (ns.map V.int) → SqL K H tl xs → HasL K H (ts.map dTm) xs → TmW zs ts → ts.length ≤ 60 → m ≤ 201 →
        (∀ (H' : Hp) (l : Addr) (gs : List (Int × Int)) (ys : List V), Same H H' → H l = none → H' l = some (.lst ys) → HasL K H' (gs.map dP) ys → PairsIn ts.length gs → gs.length ≤ 201 → D.rt (.ref l) H') →
        t D [some (.ref a), some (.int (b : Int)), some (.ref tl), v3, some (.int (m : Int)), none, none, none] H := by
  have hu := units64 hr
  refine ⟨_, (pss_cons (ps_set (i := 5) sc__law_given.nd rfl (Or.inl rfl) (pe_lst pa_nil))
    (pss_cons (ps_for PassesOwn.never rfl (pi_range1 rfl T.range (pa_cons (pe_op op_mul (pv 4) (pe_callTy call_int1 rfl T.int PyProof.Rows.Boot.int (pa_cons (pe_cmpR (op_neD hu) (pv 2) (pe_lst pa_nil) rfl) pa_nil))) pa_nil)) (pg_name (i := 6) sc__law_given.nd rfl (Or.inl rfl))
      (pss_cons (ps_set (i := 7) sc__law_given.nd rfl (Or.inl rfl) (pe_call B_law_mixed.ok hr rfl B_law_mixed.m B_law_mixed.kp B_law_mixed.b .nil pass0 (pa_cons (pe_call B_law_cell_at.ok hr rfl B_law_cell_at.m B_law_cell_at.kp B_law_cell_at.b .nil pass0 (pa_cons (pv 0) (pa_cons (pe_op op_add (pe_op op_add (pv 1) pe_int) (pe_op op_mod (pv 6) pe_int)) pa_nil))) (pa_cons (pv 6) pa_nil))))
        (pss_one (ps_if (pt_cmpR op_eq (pe_op op_mod (pv 7) pe_int) pe_int (nomark _))
          (pss_one (ps_expr (pe_bm PySem.F.plainAttrs_list PySem.F.slot_list_append PySem.F.type_list_append mt_append (pv 5) (pa_cons (pe_tup (pa_cons (pe_op op_mod (pe_op op_fdiv (pv 7) pe_int) (pe_callB call_len_seq rfl T.len PySem.boot_len (pa_cons (pv 2) pa_nil))) (pa_cons (pe_op op_mod (pe_op op_fdiv (pv 7) pe_int) (pe_callB call_len_seq rfl T.len PySem.boot_len (pa_cons (pv 2) pa_nil))) pa_nil))) pa_nil))))
          (pss_one (ps_expr (pe_bm PySem.F.plainAttrs_list PySem.F.slot_list_append PySem.F.type_list_append mt_append (pv 5) (pa_cons (pe_call Btw.ok hr rfl Btw.m Btw.kp Btw.b .nil pass0 (pa_cons (pv 2) (pa_cons (pe_op op_fdiv (pv 7) pe_int) pa_nil))) pa_nil))))))))
    (pss_one (ps_ret (pv 5))))), ?_⟩
  rintro D H a tl ns b m xs ts zs v3 hS hT hL hW t60 m201 q
  have xl : xs.length = ts.length := by rw [← hL.length, List.length_map]
  refine ⟨(by show 0 ≤ sizeLine; decide), fun l hl => ?_⟩
  have s1 : Same H (upd H l (.lst [])) := sameNew hl _
  have n1 := upd_same (H := H) (a := l) (o := .lst [])
  generalize upd H l (.lst []) = H1 at s1 n1
  refine ⟨_, rfl, _, rfl, (by show 0 ≤ sizeLine; decide), fun el hel => ?_⟩
  have s2 : Same H1 (upd H1 el (.lst [])) := sameNew hel _
  have n2 := upd_same (H := H1) (a := el) (o := .lst [])
  generalize upd H1 el (.lst []) = H2 at s2 n2
  have s12 := s1.trans s2
  have d2 := deps_dTm ts
  refine ⟨.lst (ts.map dTm), .lst [], Has.lst' (s12.seq hT) (HasL.keep s12.kt (nols_dTm _) hL), Has.lst' (SqL.of n2) HasL.nil, (by simp only [dep, deps]; omega), .inr ⟨_, rfl, _, _, rfl, rfl, .inl ⟨by omega, by omega⟩, ?_⟩⟩
  rw [peq_nil]
  obtain ⟨k, hk, k0⟩ : ∃ k : Nat, (m : Int) * (if (!(ts.map dTm).isEmpty) = true then (1 : Int) else 0) = (k : Int) ∧ (0 < k → 1 ≤ ts.length) ∧ k ≤ 201 := by
    cases ts with
    | nil => exact ⟨0, by simp, fun z => absurd z (Nat.lt_irrefl _), by omega⟩
    | cons t ts' => exact ⟨m, by simp, fun _ => by simp, m201⟩
  refine ⟨(k : Int), congrArg (fun z => [V.int z]) hk, by omega, by omega, for_range (lo := 0) (n := ((k : Int)).toNat) (fun i σ H' => ∃ (v6 v7 : Option V) (gs : List (Int × Int)) (ys : List V), σ = [some (.ref a), some (.int (b : Int)), some (.ref tl), v3, some (.int (m : Int)), some (.ref l), v6, v7] ∧ Same H H' ∧ H' l = some (.lst ys) ∧ HasL K H' (gs.map dP) ys ∧ gs.length = i ∧ PairsIn ts.length gs)
    ⟨none, none, [], [], rfl, s12, s2 _ _ n1, HasL.nil, rfl, fun p hp => nomatch hp⟩ ?_ ?_⟩
  · rintro i σ H3 hi ⟨v6, v7, gs, ys, rfl, s3, hl3, has3, gl, pin⟩
    have hi' : i < k := by
      have : i < ((k : Int)).toNat := hi
      omega
    have u1 := k0.1 (by omega)
    have yl : ys.length = gs.length := by rw [← has3.length, List.length_map]
    have ei : (b : Int) + 1 + (0 + (i : Int)) % 4 = ((b + 1 + i % 4 : Nat) : Int) := by omega
    refine ⟨_, rfl, _, rfl, _, _, rfl, rfl, _, rfl, _, _, rfl, rfl, (by show (0 : Int) < 4; decide), _, _, rfl, rfl, a, ns, b + 1 + i % 4, congrArg (fun z => [V.ref a, V.int z]) ei, s3.seq hS, _, rfl, _, _, rfl, ?_⟩
    generalize mixedF (ns.getD (b + 1 + i % 4) 0) (0 + (i : Int)) = mix
    have next : ∀ (H4 : Hp) (p : Addr) (x y : Int) (D' : Ends) (w6 w7 : Option V), Same H3 H4 → SqT K H4 p [.int x, .int y] → (0 ≤ x ∧ x < (ts.length : Int)) → (0 ≤ y ∧ y < (ts.length : Int)) → H4 l = some (.lst ys) ∧ ys.length < sizeLine ∧ ∃ (v6 v7 : Option V) (gs : List (Int × Int)) (ys' : List V), [some (V.ref a), some (.int (b : Int)), some (.ref tl), v3, some (.int (m : Int)), some (.ref l), w6, w7] = [some (V.ref a), some (.int (b : Int)), some (.ref tl), v3, some (.int (m : Int)), some (.ref l), v6, v7] ∧ Same H (upd H4 l (.lst (ys ++ [.ref p]))) ∧ (upd H4 l (.lst (ys ++ [.ref p]))) l = some (.lst ys') ∧ HasL K (upd H4 l (.lst (ys ++ [.ref p]))) (gs.map dP) ys' ∧ gs.length = i + 1 ∧ PairsIn ts.length gs := fun H4 p x y D' w6 w7 s4 hp hx hy => by
      have hl4 := s4 _ _ hl3
      have kt := KeepT.lst (ys := ys ++ [.ref p]) hl4
      refine ⟨hl4, small1000 (by omega), w6, w7, gs ++ [(x, y)], ys ++ [.ref p], rfl, (s3.trans s4).upd hl, upd_same, ?_, by rw [List.length_append, gl]; rfl, fun r hr' => ?_⟩
      · rw [List.map_append]
        exact HasL.append (HasL.keep kt (nols_dPs _) (HasL.keep s4.kt (nols_dPs _) has3)) (HasL.one (Has.tup' (kt.sq hp) (.cons Has.int (.cons Has.int .nil))))
      · rcases List.mem_append.mp hr' with hr' | hr'
        · exact pin r hr'
        · cases List.mem_singleton.mp hr'
          exact ⟨hx, hy⟩
    refine ⟨_, rfl, _, _, rfl, rfl, (by show (0 : Int) < 2; decide), rfl, _, rfl, ite2 (fun _ => ?_) (fun _ => ?_)⟩
    · have m1 := modR (mix / 2) (show (0 : Int) < ((xs.length : Nat) : Int) by omega)
      have m2 := modR (mix / 122) (show (0 : Int) < ((xs.length : Nat) : Int) by omega)
      refine ⟨_, rfl, .inl ⟨rfl, _, SqL.of hl3⟩, _, rfl, _, _, rfl, rfl, ⟨by decide, by decide⟩, _, rfl, tl, _, rfl, .inl (s3.seq hT), _, _, rfl, rfl, (by omega), _, rfl, _, _, rfl, rfl, ⟨by decide, by decide⟩, _, rfl, tl, _, rfl, .inl (s3.seq hT), _, _, rfl, rfl, (by omega), (by show 2 ≤ sizeLine; decide), fun p hp => ?_⟩
      obtain ⟨k1, k2, k3⟩ := next _ p _ _ D (some (.int (0 + (i : Int)))) (some (.int mix)) (sameNew hp (.tup [.int (mix / 2 % ((xs.length : Nat) : Int)), .int (mix / 122 % ((xs.length : Nat) : Int))])) (SqT.of upd_same) (by omega) (by omega)
      exact ⟨l, _, _, rfl, rfl, k1, k2, k3⟩
    · refine ⟨_, rfl, .inl ⟨rfl, _, SqL.of hl3⟩, _, rfl, _, rfl, _, _, rfl, rfl, ⟨by decide, by decide⟩, tl, _, xs, ts, zs, rfl, s3.seq hT, HasL.keep s3.kt (nols_dTm _) hL, hW, u1, t60, fun H4 p x y s4 hp hx hy => ?_⟩
      obtain ⟨k1, k2, k3⟩ := next H4 p x y D (some (.int (0 + (i : Int)))) (some (.int mix)) s4 hp hx hy
      exact ⟨l, _, _, rfl, rfl, k1, k2, k3⟩
  · rintro σ H3 ⟨v6, v7, gs, ys, rfl, s3, hl3, has3, gl, pin⟩
    have gl' : gs.length = ((k : Int)).toNat := gl
    exact ⟨_, rfl, q H3 l gs ys s3 hl hl3 has3 pin (by omega)⟩
theorem ok_given (F : Fun K "_law_given" "_law_given" s__law_given f fd) (T : Txt K mg) (B_law_cell_at : FB P w K mg base CX0 1 "_law_cell_at" fC dC ["_law_script", "_law_k"] (sp_cell K)) (B_law_mixed : FB P w K mg base CX0 1 "_law_mixed" fM dM ["_law_cell", "_law_k"] sp_mixed) (Btw : FB P w K mg base CX0 1 "_law_twin_parts" fT dT' ["_law_terms_here", "_law_mix"] (sp_twin K)) : FnOk P w K mg base CX0 2 f fd ["_law_script", "_law_first", "_law_terms_here"] (sp_given K) := by
  refine F.ok sc__law_given (fun vs H Q E h => ?_) (fun cdv A outer s H vs Q E hr h => ?_)
  · obtain ⟨a, tl, ns, b, xs, ts, zs, rfl, _⟩ := h
    rfl
  obtain ⟨a, tl, ns, b, xs, ts, zs, rfl, hS, hT, hL, hW, t60, q⟩ := h
  obtain ⟨t3, h3, q3⟩ := given3 (f := f) (outer := outer) (H0 := H) (E := E) T B_law_cell_at B_law_mixed Btw hr
  refine ⟨_, (pss_cons (ps_set (i := 3) sc__law_given.nd rfl (Or.inl rfl) (pe_call B_law_cell_at.ok hr rfl B_law_cell_at.m B_law_cell_at.kp B_law_cell_at.b .nil pass0 (pa_cons (pv 0) (pa_cons (pv 1) pa_nil))))
    (pss_cons (ps_set (i := 4) sc__law_given.nd rfl (Or.inl rfl) (pe_op op_mod (pv 3) pe_int))
    (pss_cons (ps_if (pt_cmpR op_eq (pe_op op_mod (pe_op op_fdiv (pv 3) pe_int) pe_int) pe_int (nomark _))
      (pss_one (ps_set (i := 4) sc__law_given.nd rfl (Or.inl rfl) (pe_op op_mod (pe_op op_fdiv (pv 3) pe_int) pe_int)))
      pss_nil) h3))), ?_⟩
  have b9 := modR (ns.getD b 0) (show (0 : Int) < 9 by decide)
  have b2 := modR (ns.getD b 0 / 72) (show (0 : Int) < 201 by decide)
  have go : ∀ (m : Int) (D' : Ends), D'.rt = Q → 0 ≤ m → m ≤ 201 → t3 D' [some (.ref a), some (.int (b : Int)), some (.ref tl), some (.int (ns.getD b 0)), some (.int m), none, none, none] H := fun m D' eD m0 m1 => by
    have := q3 D' H a tl ns b m.toNat xs ts zs (some (.int (ns.getD b 0))) hS hT hL hW t60 (by omega) (by rw [eD]; exact q)
    rw [Int.toNat_of_nonneg m0] at this
    exact this
  refine ⟨_, rfl, _, rfl, a, ns, b, rfl, hS, _, rfl, _, _, rfl, rfl, (by show (0 : Int) < 9; decide), _, rfl, _, _, rfl, rfl, ⟨by decide, by decide⟩, _, _, rfl, rfl, (by show (0 : Int) < 8; decide), rfl, _, rfl, ite2 (fun _ => ?_) (fun _ => ?_)⟩
  · exact ⟨_, rfl, _, _, rfl, rfl, ⟨by decide, by decide⟩, _, _, rfl, rfl, (by show (0 : Int) < 201; decide), go (ns.getD b 0 / 72 % 201) _ rfl b2.1 (by omega)⟩
  · exact go (ns.getD b 0 % 9) _ rfl b9.1 (by omega)
end
/-! _law_relabelled -/
section
variable {P : Program} {w : World} {K : PySem.W.Frag} {mg : Str → Option Value} {base : Heap} {f fM fC fT : Addr} {fd dM dC dT' : FuncData}
def sp_relab (K : PySem.W.Frag) : Sp := fun vs H Q _ => ∃ (l : Addr) (a b : Int) (n : Nat) (hd : Int → Int), vs = [.ref l, .int a, .int b] ∧ SqL K H l ((hdsG hd n).map V.int) ∧ (0 ≤ a ∧ a < (n : Int)) ∧ (0 ≤ b ∧ b < (n : Int)) ∧ n ≤ 100 ∧ ∀ (H' : Hp) (r : Addr), Same H H' → H r = none → H' r = some (.lst ((hdsG (mrg hd a b) n).map V.int)) → Q (.ref r) H'
theorem sc__law_relabelled : FnScope ["_law_tops", "_law_one", "_law_other", "_law_low", "_law_high"] ["_law_tops", "_law_one", "_law_other"] (defScope s__law_relabelled) := ⟨rfl, rfl, rfl, by decide +kernel, rfl, by decide +kernel, by decide +kernel⟩
theorem ok_relab (F : Fun K "_law_relabelled" "_law_relabelled" s__law_relabelled f fd) (T : Txt K mg) : FnOk P w K mg base CX0 1 f fd ["_law_tops", "_law_one", "_law_other"] (sp_relab K) := by
  refine F.ok sc__law_relabelled (fun vs H Q E h => ?_) (fun cdv A outer s H vs Q E hr h => ?_)
  · obtain ⟨l, a, b, n, hd, rfl, _⟩ := h
    rfl
  obtain ⟨l, a, b, n, hd, rfl, hl, ha, hb, n100, q⟩ := h
  refine ⟨_, (pss_cons (ps_set (i := 3) sc__law_relabelled.nd rfl (Or.inr rfl) (pe_callB (call_min2 rfl) rfl T.min PyProof.Rows.Boot.min (pa_cons (pe_ix ix_list (pv 0) (pv 1) (fun _ _ => rfl)) (pa_cons (pe_ix ix_list (pv 0) (pv 2) (fun _ _ => rfl)) pa_nil))))
    (pss_cons (ps_set (i := 4) sc__law_relabelled.nd rfl (Or.inr rfl) (pe_callB (call_max2 rfl) rfl T.max PyProof.Rows.Boot.max (pa_cons (pe_ix ix_list (pv 0) (pv 1) (fun _ _ => rfl)) (pa_cons (pe_ix ix_list (pv 0) (pv 2) (fun _ _ => rfl)) pa_nil))))
    (pss_one (ps_ret (pe_lc (N' := ["_law_top", "_law_low", "_law_high"]) (ix := [3, 4]) rfl rfl (by decide +kernel) (by decide +kernel) rfl (fun ok => clo_of (sc := defScope s__law_relabelled) ok rfl (by decide +kernel) (by decide +kernel)) (by decide +kernel) rfl rfl (fun j i h => match j, h with | 0, h => by cases h; exact ⟨_, rfl, rfl, .inl rfl, .inl rfl⟩ | 1, h => by cases h; exact ⟨_, rfl, rfl, .inl rfl, .inl rfl⟩ | n + 2, h => by simp at h) (pi_list (pv 0)) (fun _ _ _ _ => (pe_ix (r := rIxL K) ix_list (pe_lst (pa_cons (pv 0) (pa_cons (pv 1) pa_nil))) (pe_callTy call_int1 rfl T.int PyProof.Rows.Boot.int (pa_cons (pe_cmpR op_eq (pv 0) (pv 2) (nomark _)) pa_nil)) (fun _ _ => rfl)))))))), ?_⟩
  have ga := heads_at (ls := []) hd ha.1 ha.2
  have gb := heads_at (ls := []) hd hb.1 hb.2
  refine ⟨_, rfl, _, rfl, l, _, _, _, rfl, rfl, hl, ga, _, rfl, _, rfl, l, _, _, _, rfl, rfl, hl, gb, _, _, rfl, ?_⟩
  refine ⟨_, rfl, _, rfl, l, _, _, _, rfl, rfl, hl, ga, _, rfl, _, rfl, l, _, _, _, rfl, rfl, hl, gb, _, _, rfl, ?_⟩
  refine ⟨_, rfl, l, rfl, ⟨_, hl⟩, fun D hD => lc_by wk_list (fun i ys H' => Same H H' ∧ ys = (((hdsG hd n).take i).map fun u => if u = hiF (hd a) (hd b) then loF (hd a) (hd b) else u).map V.int) (fun i ys H' ⟨s1, _⟩ => s1.seq hl) ⟨sameNew hD _, rfl⟩ ?_ ?_⟩
  · rintro i ys H9 x H1 hi hly hDs ⟨s1, rfl⟩ ⟨rfl, hx⟩
    obtain ⟨u, hu, rfl⟩ := ints_at (hx _ (s1.seq hl))
    refine ⟨_, rfl, _, rfl, (by show 2 ≤ sizeLine; decide), fun dl hdl => ?_⟩
    have s2 : Same H1 (upd H1 dl (.lst [.int u, .int (loF (hd a) (hd b))])) := sameNew hdl _
    have n2 := upd_same (H := H1) (a := dl) (o := .lst [.int u, .int (loF (hd a) (hd b))])
    have hD2 := s2 _ _ hDs
    have ed : (.lst [.int u, .int (loF (hd a) (hd b))] : HO) = .lst [.int u, .int (loF (hd a) (hd b))] := rfl
    have hn : (hdsG hd n).length ≤ 100 := by unfold hdsG; rw [List.length_map, List.length_range]; exact n100
    refine ⟨_, rfl, _, rfl, rfl, .inr ⟨_, rfl, dl, _, _, .int (if u = hiF (hd a) (hd b) then loF (hd a) (hd b) else u), rfl, rfl, SqL.of n2, ?_, lc_post (bsz _ (by rw [List.length_map]; omega)) hi hly hD2 ⟨(s1.trans s2).upd hD, ?_⟩⟩⟩
    · show atI [V.int u, V.int (loF (hd a) (hd b))] (if decide (V.int u = V.int (hiF (hd a) (hd b))) = true then 1 else 0) = _
      rw [decI]
      by_cases c : u = hiF (hd a) (hd b)
      · rw [decide_eq_true c, if_pos rfl, if_pos c]
        exact atI_nat (j := 1) rfl
      · rw [decide_eq_false c, if_neg (by decide), if_neg c]
        exact atI_nat (j := 0) rfl
    · rw [take_snoc hu, List.map_append, List.map_append]
      rfl
  · rintro ys H1 hDs ⟨s1, rfl⟩
    refine q H1 D s1 hD ?_
    rw [hDs, List.length_map, List.take_of_length_le (Nat.le_refl _)]
    unfold hdsG
    rw [List.map_map (l := List.range n)]
    rfl
end
end K12

/-! law k12: is a link right. Behind K12h. -/
namespace K12
open PySem L2
/-! _law_alike, _law_triple, _law_right -/
section
variable {P : Program} {w : World} {K : PySem.W.Frag} {mg : Str → Option Value} {base : Heap} {f fW fA : Addr} {fd dW dA : FuncData}
def sp_alike (K : PySem.W.Frag) : Sp := fun vs H Q _ => ∃ (tl tp : Addr) (a b : Int) (xs : List V) (ts : List Tm) (zs : List Str) (hd : Int → Int), vs = [.ref tl, .ref tp, .int a, .int b] ∧ SqL K H tl xs ∧ HasL K H (ts.map dTm) xs ∧ TmW zs ts ∧ ts.length ≤ 60 ∧ SqL K H tp ((hdsG hd ts.length).map V.int) ∧ (0 ≤ a ∧ a < (ts.length : Int)) ∧ (0 ≤ b ∧ b < (ts.length : Int)) ∧ AlikeT ts hd a b ∧ ∀ H', Same H H' → Q (.bl true) H'
theorem sc__law_alike : FnScope ["_law_terms_here", "_law_tops", "_law_one", "_law_other"] ["_law_terms_here", "_law_tops", "_law_one", "_law_other"] (defScope s__law_alike) := ⟨rfl, rfl, rfl, by decide +kernel, rfl, by decide +kernel, by decide +kernel⟩
theorem ok_alike (F : Fun K "_law_alike" "_law_alike" s__law_alike f fd) (T : Txt K mg) : FnOk P w K mg base CX0 1 f fd ["_law_terms_here", "_law_tops", "_law_one", "_law_other"] (sp_alike K) := by
  refine F.ok sc__law_alike (fun vs H Q E h => ?_) (fun cdv A outer s H vs Q E hr h => ?_)
  · obtain ⟨tl, tp, a, b, xs, ts, zs, hd, rfl, _⟩ := h
    rfl
  obtain ⟨tl, tp, a, b, xs, ts, zs, hd, rfl, hT, hL, hW, t60, hP, ha, hb, ⟨t, u, e1, e2, e3, e4⟩, q⟩ := h
  have hu := units64 hr
  have xl : xs.length = ts.length := by rw [← hL.length, List.length_map]
  refine ⟨_, (pss_cons (ps_if (pt_cmpR op_ne (pe_ix ix_tup (pe_ix ix_list (pv 0) (pv 2) (fun _ _ => rfl)) pe_int (fun _ _ => rfl)) (pe_ix ix_tup (pe_ix ix_list (pv 0) (pv 3) (fun _ _ => rfl)) pe_int (fun _ _ => rfl)) (nomark _))
      (pss_one (ps_ret pe_bl))
      pss_nil)
    (pss_one (ps_ret (pe_cmpR (op_eqD hu) (pe_lc (N' := ["_law_part", "_law_tops"]) (ix := [1]) rfl rfl (by decide +kernel) (by decide +kernel) rfl (fun ok => clo_of (sc := defScope s__law_alike) ok rfl (by decide +kernel) (by decide +kernel)) (by decide +kernel) rfl rfl (fun j i h => match j, h with | 0, h => by cases h; exact ⟨_, rfl, rfl, .inl rfl, .inl rfl⟩ | n + 1, h => by simp at h) (pi_tup (pe_ix ix_tup (pe_ix ix_list (pv 0) (pv 2) (fun _ _ => rfl)) pe_int (fun _ _ => rfl))) (fun _ _ _ _ => (pe_ix (r := rIxL K) ix_list (pv 1) (pv 0) (fun _ _ => rfl)))) (pe_lc (N' := ["_law_part", "_law_tops"]) (ix := [1]) rfl rfl (by decide +kernel) (by decide +kernel) rfl (fun ok => clo_of (sc := defScope s__law_alike) ok rfl (by decide +kernel) (by decide +kernel)) (by decide +kernel) rfl rfl (fun j i h => match j, h with | 0, h => by cases h; exact ⟨_, rfl, rfl, .inl rfl, .inl rfl⟩ | n + 1, h => by simp at h) (pi_tup (pe_ix ix_tup (pe_ix ix_list (pv 0) (pv 3) (fun _ _ => rfl)) pe_int (fun _ _ => rfl))) (fun _ _ _ _ => (pe_ix (r := rIxL K) ix_list (pv 1) (pv 0) (fun _ _ => rfl)))) rfl)))), ?_⟩
  have at_of : ∀ {k : Int} {t : Tm}, 0 ≤ k → k < (ts.length : Int) → ts[k.toNat]? = some t → ∃ p pq, atI xs k = some (.ref p) ∧ SqT K H p [.str t.1, .ref pq] ∧ SqT K H pq (t.2.map V.int) := fun {k t} k0 k1 ht => by
    have lt : k.toNat < xs.length := by omega
    have ek : k = ((k.toNat : Nat) : Int) := by omega
    have h2 : atI xs ((k.toNat : Nat) : Int) = some xs[k.toNat] := atI_nat (List.getElem?_eq_getElem lt)
    rw [← ek] at h2
    obtain ⟨t', p, pq, ht', ev, hp, hpq⟩ := tm_at hL (List.getElem?_eq_getElem lt)
    cases ht.symm.trans ht'
    rw [ev] at h2
    exact ⟨p, pq, h2, hp, hpq⟩
  obtain ⟨p1, q1, at1, hp1, hq1⟩ := at_of ha.1 ha.2 e1
  obtain ⟨p2, q2, at2, hp2, hq2⟩ := at_of hb.1 hb.2 e2
  have a0 : atI [V.str t.1, V.ref q1] 0 = some (.str t.1) := atI_nat (j := 0) rfl
  have a1 : atI [V.str t.1, V.ref q1] 1 = some (.ref q1) := atI_nat (j := 1) rfl
  have b0 : atI [V.str u.1, V.ref q2] 0 = some (.str u.1) := atI_nat (j := 0) rfl
  have b1 : atI [V.str u.1, V.ref q2] 1 = some (.ref q2) := atI_nat (j := 1) rfl
  have w1 := hW.all (List.mem_of_getElem? e1)
  have w2 := hW.all (List.mem_of_getElem? e2)
  refine ⟨_, rfl, _, rfl, tl, _, _, _, rfl, rfl, hT, at1, p1, _, _, _, rfl, rfl, hp1, a0, _, rfl, _, rfl, tl, _, _, _, rfl, rfl, hT, at2, p2, _, _, _, rfl, rfl, hp2, b0, rfl, _, rfl, ?_⟩
  rw [decS, decide_eq_true e3]
  refine iteF ⟨_, rfl, _, rfl, tl, _, _, _, rfl, rfl, hT, at1, p1, _, _, _, rfl, rfl, hp1, a1, q1, rfl, ⟨_, hq1⟩, fun D1 hD1 => lc_by wk_tup (fun j us H' => Same H H' ∧ us = ((t.2.take j).map hd).map V.int) (fun j us H' ⟨s1, _⟩ => s1.tup hq1) ⟨sameNew hD1 _, rfl⟩ ?_ ?_⟩
  · rintro j us H8 x H1 hj hly hDs ⟨s1, rfl⟩ ⟨rfl, hx⟩
    obtain ⟨n, hn, rfl⟩ := ints_at (hx _ (s1.tup hq1))
    have nb := w1.2.2 n (List.mem_of_getElem? hn)
    have l3 := w1.2.1
    refine ⟨_, rfl, _, rfl, tp, _, _, _, rfl, rfl, s1.seq hP, hdsG_at _ nb.1 nb.2, lc_post (bsz _ (by rw [List.length_map]; omega)) hj hly hDs ⟨s1.upd hD1, ?_⟩⟩
    rw [take_snoc hn, List.map_append, List.map_append]
    rfl
  rintro us1 H1 hDs1 ⟨s1, rfl⟩
  rw [List.length_map, List.take_of_length_le (Nat.le_refl _)] at hDs1
  refine ⟨_, rfl, _, rfl, tl, _, _, _, rfl, rfl, s1.seq hT, at2, p2, _, _, _, rfl, rfl, s1.tup hp2, b1, q2, rfl, ⟨_, s1.tup hq2⟩, fun D2 hD2 => lc_by wk_tup (fun j us H' => Same H1 H' ∧ us = ((u.2.take j).map hd).map V.int) (fun j us H' ⟨s2, _⟩ => (s1.trans s2).tup hq2) ⟨sameNew hD2 _, rfl⟩ ?_ ?_⟩
  · rintro j us H8 x H2 hj hly hDs ⟨s2, rfl⟩ ⟨rfl, hx⟩
    obtain ⟨n, hn, rfl⟩ := ints_at (hx _ ((s1.trans s2).tup hq2))
    have nb := w2.2.2 n (List.mem_of_getElem? hn)
    have l3 := w2.2.1
    refine ⟨_, rfl, _, rfl, tp, _, _, _, rfl, rfl, (s1.trans s2).seq hP, hdsG_at _ nb.1 nb.2, lc_post (bsz _ (by rw [List.length_map]; omega)) hj hly hDs ⟨s2.upd hD2, ?_⟩⟩
    rw [take_snoc hn, List.map_append, List.map_append]
    rfl
  rintro us2 H2 hDs2 ⟨s2, rfl⟩
  rw [List.length_map, List.take_of_length_le (Nat.le_refl _), ← e4] at hDs2
  refine ⟨.lst ((t.2.map hd).map Dt.int), .lst ((t.2.map hd).map Dt.int), Has.lst' (SqL.of (s2 _ _ hDs1)) (HasL.ints _), Has.lst' (SqL.of hDs2) (HasL.ints _), (by simp only [dep, depsInts]; decide), ?_⟩
  rw [peq_refl]
  exact q _ (s1.trans s2)
def sp_triple (K : PySem.W.Frag) : Sp := fun vs H Q _ => ∃ (p : Addr) (l : Lk), vs = [.ref p] ∧ SqT K H p [.int l.1, .int l.2.1, .int l.2.2] ∧ Q (.bl true) H
theorem sc__law_triple : FnScope ["_law_link"] ["_law_link"] (defScope s__law_triple) := ⟨rfl, rfl, rfl, by decide +kernel, rfl, by decide +kernel, by decide +kernel⟩
theorem ok_triple (F : Fun K "_law_triple" "_law_triple" s__law_triple f fd) (T : Txt K mg) (B_law_whole : FB P w K mg base CX0 1 "_law_whole" fW dW ["_law_found"] sp_whole) : FnOk P w K mg base CX0 2 f fd ["_law_link"] (sp_triple K) := by
  refine F.ok sc__law_triple (fun vs H Q E h => ?_) (fun cdv A outer s H vs Q E hr h => ?_)
  · obtain ⟨p, l, rfl, _⟩ := h
    rfl
  obtain ⟨p, l, rfl, hp, q⟩ := h
  refine ⟨_, (pss_cons (ps_if (PW.pt (pw_or (pt_not (pt_val (pe_callB call_isinstT rfl T.isinstance PyProof.Rows.Boot.isinstance (pa_cons (pv 0) (pa_cons (pe_bltn (v := .ty "tuple") rfl T.tuple PyProof.Rows.Boot.tuple rfl) pa_nil))))) (pw_or1 (pt_cmpR op_ne (pe_callB call_len_seq rfl T.len PySem.boot_len (pa_cons (pv 0) pa_nil)) pe_int (nomark _)))))
      (pss_one (ps_ret pe_bl))
      pss_nil)
    (pss_one (ps_ret (pe_and (pe_call B_law_whole.ok hr rfl B_law_whole.m B_law_whole.kp B_law_whole.b .nil pass0 (pa_cons (pe_ix ix_tup (pv 0) pe_int (fun _ _ => rfl)) pa_nil)) (pe_and (pe_call B_law_whole.ok hr rfl B_law_whole.m B_law_whole.kp B_law_whole.b .nil pass0 (pa_cons (pe_ix ix_tup (pv 0) pe_int (fun _ _ => rfl)) pa_nil)) (pe_one (pe_call B_law_whole.ok hr rfl B_law_whole.m B_law_whole.kp B_law_whole.b .nil pass0 (pa_cons (pe_ix ix_tup (pv 0) pe_int (fun _ _ => rfl)) pa_nil)))))))), ?_⟩
  have a0 : atI [V.int l.1, V.int l.2.1, V.int l.2.2] 0 = some (.int l.1) := atI_nat (j := 0) rfl
  have a1 : atI [V.int l.1, V.int l.2.1, V.int l.2.2] 1 = some (.int l.2.1) := atI_nat (j := 1) rfl
  have a2 : atI [V.int l.1, V.int l.2.1, V.int l.2.2] 2 = some (.int l.2.2) := atI_nat (j := 2) rfl
  refine ⟨_, rfl, p, _, "tuple", true, rfl, hp, kitSelf K "tuple", _, rfl, iteF ⟨_, rfl, p, _, rfl, .inr hp, rfl, _, rfl, iteF ?_⟩⟩
  exact ⟨_, rfl, p, _, _, _, rfl, rfl, hp, a0, l.1, rfl, _, rfl, iteT ⟨_, rfl, p, _, _, _, rfl, rfl, hp, a1, l.2.1, rfl, _, rfl, iteT ⟨_, rfl, p, _, _, _, rfl, rfl, hp, a2, l.2.2, rfl, q⟩⟩⟩
def sp_right (K : PySem.W.Frag) : Sp := fun vs H Q _ => ∃ (tl gl tp p : Addr) (xs ys : List V) (ts : List Tm) (zs : List Str) (gs : List (Int × Int)) (pre : List Lk) (l : Lk), vs = [.ref tl, .ref gl, .ref tp, .ref p] ∧ SqL K H tl xs ∧ HasL K H (ts.map dTm) xs ∧ TmW zs ts ∧ ts.length ≤ 60 ∧ SqL K H gl ys ∧ HasL K H (gs.map dP) ys ∧ SqL K H tp ((hdsG (hdL pre) ts.length).map V.int) ∧ SqT K H p [.int l.1, .int l.2.1, .int l.2.2] ∧ LkOk ts gs pre l ∧ ∀ H', Same H H' → Q (.bl true) H'
theorem sc__law_right : FnScope ["_law_terms_here", "_law_given_here", "_law_tops", "_law_link", "_law_one", "_law_other", "_law_how"] ["_law_terms_here", "_law_given_here", "_law_tops", "_law_link"] (defScope s__law_right) := ⟨rfl, rfl, rfl, by decide +kernel, rfl, by decide +kernel, by decide +kernel⟩
set_option maxHeartbeats 1000000 in
theorem ok_right (F : Fun K "_law_right" "_law_right" s__law_right f fd) (T : Txt K mg) (B_law_alike : FB P w K mg base CX0 1 "_law_alike" fA dA ["_law_terms_here", "_law_tops", "_law_one", "_law_other"] (sp_alike K)) : FnOk P w K mg base CX0 2 f fd ["_law_terms_here", "_law_given_here", "_law_tops", "_law_link"] (sp_right K) := by
  refine F.ok sc__law_right (fun vs H Q E h => ?_) (fun cdv A outer s H vs Q E hr h => ?_)
  · obtain ⟨tl, gl, tp, p, xs, ys, ts, zs, gs, pre, l, rfl, _⟩ := h
    rfl
  obtain ⟨tl, gl, tp, p, xs, ys, ts, zs, gs, pre, l, rfl, hT, hL, hW, t60, hG, hg, hP, hp, ok, q⟩ := h
  have hu := units64 hr
  have xl : xs.length = ts.length := by rw [← hL.length, List.length_map]
  have yl : ys.length = gs.length := by rw [← hg.length, List.length_map]
  refine ⟨_, (pss_cons (ps_asg (pv 3) (pg_tup rfl (pgs_cons (pg_name (i := 4) sc__law_right.nd rfl (Or.inl rfl)) (pgs_cons (pg_name (i := 5) sc__law_right.nd rfl (Or.inl rfl)) (pgs_cons (pg_name (i := 6) sc__law_right.nd rfl (Or.inl rfl)) pgs_nil)))))
    (pss_cons (ps_if (PW.pt (pw_or (pt_not (pt_chain op_le op_lt pe_int (pv 4) (pe_callB call_len_seq rfl T.len PySem.boot_len (pa_cons (pv 0) pa_nil)))) (pw_or (pt_not (pt_chain op_le op_lt pe_int (pv 5) (pe_callB call_len_seq rfl T.len PySem.boot_len (pa_cons (pv 0) pa_nil)))) (pw_or1 (pt_not (pt_chain op_le op_lt (pe_un un_neg pe_int) (pv 6) (pe_callB call_len_seq rfl T.len PySem.boot_len (pa_cons (pv 1) pa_nil))))))))
      (pss_one (ps_ret pe_bl))
      pss_nil)
    (pss_cons (ps_if (pt_cmpR op_eq (pe_ix ix_list (pv 2) (pv 4) (fun _ _ => rfl)) (pe_ix ix_list (pv 2) (pv 5) (fun _ _ => rfl)) (nomark _))
      (pss_one (ps_ret pe_bl))
      pss_nil)
    (pss_cons (ps_if (pt_cmpR op_ge (pv 6) pe_int (nomark _))
      (pss_one (ps_ret (pe_cmpR (op_eqD hu) (pe_ix ix_list (pv 1) (pv 6) (fun _ _ => rfl)) (pe_tup (pa_cons (pv 4) (pa_cons (pv 5) pa_nil))) rfl)))
      pss_nil)
    (pss_one (ps_ret (pe_call B_law_alike.ok hr rfl B_law_alike.m B_law_alike.kp B_law_alike.b .nil pass0 (pa_cons (pv 0) (pa_cons (pv 2) (pa_cons (pv 4) (pa_cons (pv 5) pa_nil))))))))))), ?_⟩
  have ka := ok.a
  have kb := ok.b
  have h1 : -1 ≤ l.2.2 ∧ l.2.2 < ((ys.length : Nat) : Int) := by
    rcases ok.how with ⟨h0, hg'⟩ | ⟨h0, _⟩
    · have := (List.getElem?_eq_some_iff.mp hg').1
      omega
    · omega
  refine ⟨_, rfl, p, _, rfl, hp, rfl, _, _, rfl, _, _, rfl, _, _, rfl, rfl, ?_⟩
  refine ⟨_, rfl, _, _, rfl, rfl, _, rfl, ?_⟩
  rw [show decide ((0 : Int) ≤ l.1) = true from decide_eq_true ka.1]
  refine iteT ⟨_, rfl, tl, _, rfl, .inl hT, _, _, rfl, rfl, _, rfl, ?_⟩
  rw [show decide (l.1 < ((xs.length : Nat) : Int)) = true from decide_eq_true (by omega)]
  refine iteF ⟨_, rfl, _, _, rfl, rfl, _, rfl, ?_⟩
  rw [show decide ((0 : Int) ≤ l.2.1) = true from decide_eq_true kb.1]
  refine iteT ⟨_, rfl, tl, _, rfl, .inl hT, _, _, rfl, rfl, _, rfl, ?_⟩
  rw [show decide (l.2.1 < ((xs.length : Nat) : Int)) = true from decide_eq_true (by omega)]
  refine iteF ⟨_, rfl, _, rfl, _, _, rfl, rfl, _, rfl, ?_⟩
  rw [show decide ((-1 : Int) ≤ l.2.2) = true from decide_eq_true h1.1]
  refine iteT ⟨_, rfl, gl, _, rfl, .inl hG, _, _, rfl, rfl, _, rfl, ?_⟩
  rw [show decide (l.2.2 < ((ys.length : Nat) : Int)) = true from decide_eq_true h1.2]
  refine iteF ⟨_, rfl, _, rfl, tp, _, _, _, rfl, rfl, hP, hdsG_at _ ka.1 ka.2, _, rfl, _, rfl, tp, _, _, _, rfl, rfl, hP, hdsG_at _ kb.1 kb.2, rfl, _, rfl, ?_⟩
  rw [decI, decide_eq_false ok.new]
  refine iteF ⟨_, rfl, _, _, rfl, rfl, _, rfl, ?_⟩
  rcases ok.how with ⟨h0, hg'⟩ | ⟨h0, al⟩
  · rw [show decide (l.2.2 ≥ 0) = true from decide_eq_true h0]
    have lt : l.2.2.toNat < ys.length := by omega
    have ek : l.2.2 = ((l.2.2.toNat : Nat) : Int) := by omega
    have h2 : atI ys ((l.2.2.toNat : Nat) : Int) = some ys[l.2.2.toNat] := atI_nat (List.getElem?_eq_getElem lt)
    rw [← ek] at h2
    obtain ⟨pr, r, hpr, er, hr'⟩ := pair_at hg (List.getElem?_eq_getElem lt)
    cases hg'.symm.trans hpr
    rw [er] at h2
    refine iteT ⟨_, rfl, _, rfl, gl, _, _, _, rfl, rfl, hG, h2, _, rfl, _, rfl, (by show 2 ≤ sizeLine; decide), fun z hz => ?_⟩
    have s1 : Same H (upd H z (.tup [.int l.1, .int l.2.1])) := sameNew hz _
    refine ⟨.tup [.int l.1, .int l.2.1], .tup [.int l.1, .int l.2.1], Has.tup' (s1.tup hr') (.cons Has.int (.cons Has.int .nil)), Has.tup' (SqT.of upd_same) (.cons Has.int (.cons Has.int .nil)), (by simp only [dep, deps]; decide), ?_⟩
    rw [peq_refl]
    exact q _ s1
  · rw [show decide (l.2.2 ≥ 0) = false from decide_eq_false (by omega)]
    exact iteF ⟨_, rfl, _, rfl, _, rfl, _, rfl, tl, tp, l.1, l.2.1, xs, ts, zs, hdL pre, rfl, hT, hL, hW, t60, hP, ka, kb, al, q⟩
end
end K12

/-! law k12: the law. Behind K12i. -/
namespace K12
open PySem L2
def sp_law (K : PySem.W.Frag) : Sp := fun vs H Q _ => ∃ (a : Addr) (ns : List Int), vs = [.ref a] ∧ SqL K H a (ns.map V.int) ∧ ns.length ≤ 63 ∧ ∀ H', Q (.bl true) H'
theorem sc_law : FnScope ["_law_script", "_law_names_here", "_law_terms_here", "_law_given_here", "_law_handed", "_law_found", "_law_tops", "_law_link"] ["_law_script"] (defScope s_law) := ⟨rfl, rfl, rfl, by decide +kernel, rfl, by decide +kernel, by decide +kernel⟩
structure Far (P : Program) (w : World) (K : PySem.W.Frag) (mg : Str → Option Value) (base : Heap) (fC fN fB fT fV fR fS fL fJ : Addr) (dC dN dB dT' dV dR dS dL' dJ : FuncData) : Prop where
  C : FB P w K mg base CX0 1 "_law_cell_at" fC dC ["_law_script", "_law_k"] (sp_cell K)
  N : FB P w K mg base CX0 3 "_law_names" fN dN ["_law_cell"] sp_names
  B : FB P w K mg base CX0 1 "_law_many_by" fB dB ["_law_cell"] sp_many_by
  T : FB P w K mg base CX0 3 "_law_terms" fT dT' ["_law_script", "_law_first", "_law_names_here", "_law_many"] (sp_terms K)
  V : FB P w K mg base CX0 2 "_law_given" fV dV ["_law_script", "_law_first", "_law_terms_here"] (sp_given K)
  R : FB P w K mg base CX0 1 "_law_relabelled" fR dR ["_law_tops", "_law_one", "_law_other"] (sp_relab K)
  S : FB P w K mg base CX0 2 "_law_triple" fS dS ["_law_link"] (sp_triple K)
  L : FB P w K mg base CX0 4 "links" fL dL' ["terms", "given"] (sp_links K)
  J : FB P w K mg base CX0 2 "_law_right" fJ dJ ["_law_terms_here", "_law_given_here", "_law_tops", "_law_link"] (sp_right K)
section
variable {P : Program} {w : World} {K : PySem.W.Frag} {mg : Str → Option Value} {base : Heap} {f fC fN fB fT fV fR fS fL fJ : Addr} {dC dN dB dT' dV dR dS dL' dJ : FuncData}
set_option maxHeartbeats 2000000 in
theorem ok_law {fd : FuncData} (F : Fun K "law" "law" s_law f fd) (T : Txt K mg) (G : Far P w K mg base fC fN fB fT fV fR fS fL fJ dC dN dB dT' dV dR dS dL' dJ) : FnOk P w K mg base CX0 5 f fd ["_law_script"] (sp_law K) := by
  refine F.ok sc_law (fun vs H Q E h => ?_) (fun cdv A outer s H vs Q E hr h => ?_)
  · obtain ⟨a, ns, rfl, _⟩ := h
    rfl
  obtain ⟨a, ns, rfl, hS, h63, q⟩ := h
  have hu := units64 hr
  have hr1 : Room 1 _ := hr.mono (by decide)
  have hr2 : Room 2 _ := hr.mono (by decide)
  have hr3 : Room 3 _ := hr.mono (by decide)
  refine ⟨_, (pss_cons (ps_set (i := 1) sc_law.nd rfl (Or.inl rfl) (pe_call G.N.ok hr3 rfl G.N.m G.N.kp G.N.b .nil pass0 (pa_cons (pe_call G.C.ok hr1 rfl G.C.m G.C.kp G.C.b .nil pass0 (pa_cons (pv 0) (pa_cons pe_int pa_nil))) pa_nil)))
    (pss_cons (ps_set (i := 2) sc_law.nd rfl (Or.inl rfl) (pe_call G.T.ok hr3 rfl G.T.m G.T.kp G.T.b .nil pass0 (pa_cons (pv 0) (pa_cons pe_int (pa_cons (pv 1) (pa_cons (pe_call G.B.ok hr1 rfl G.B.m G.B.kp G.B.b .nil pass0 (pa_cons (pe_call G.C.ok hr1 rfl G.C.m G.C.kp G.C.b .nil pass0 (pa_cons (pv 0) (pa_cons pe_int pa_nil))) pa_nil)) pa_nil))))))
    (pss_cons (ps_set (i := 3) sc_law.nd rfl (Or.inl rfl) (pe_call G.V.ok hr2 rfl G.V.m G.V.kp G.V.b .nil pass0 (pa_cons (pv 0) (pa_cons pe_int (pa_cons (pv 2) pa_nil)))))
    (pss_cons (ps_set (i := 4) sc_law.nd rfl (Or.inl rfl) (pe_lst (pa_cons (pe_callTy call_list_of rfl T.list PyProof.Rows.Boot.list (pa_cons (pv 2) pa_nil)) (pa_cons (pe_callTy call_list_of rfl T.list PyProof.Rows.Boot.list (pa_cons (pv 3) pa_nil)) pa_nil))))
    (pss_cons (ps_set (i := 5) sc_law.nd rfl (Or.inl rfl) (pe_call G.L.ok hr rfl G.L.m G.L.kp G.L.b .nil pass0 (pa_cons (pe_ix ix_list (pv 4) pe_int (fun _ _ => rfl)) (pa_cons (pe_ix ix_list (pv 4) pe_int (fun _ _ => rfl)) pa_nil))))
    (pss_cons (ps_if (PW.pt (pw_or (pt_not (pt_val (pe_callB call_isinstL rfl T.isinstance PyProof.Rows.Boot.isinstance (pa_cons (pv 5) (pa_cons (pe_bltn (v := .ty "list") rfl T.list PyProof.Rows.Boot.list rfl) pa_nil))))) (pw_or1 (pt_cmpR (op_neD hu) (pv 4) (pe_lst (pa_cons (pv 2) (pa_cons (pv 3) pa_nil))) rfl))))
      (pss_one (ps_ret pe_bl))
      pss_nil)
    (pss_cons (ps_set (i := 6) sc_law.nd rfl (Or.inl rfl) (pe_callTy (call_list_rng rfl) rfl T.list PyProof.Rows.Boot.list (pa_cons (pe_range1 rfl T.range (pa_cons (pe_callB call_len_seq rfl T.len PySem.boot_len (pa_cons (pv 2) pa_nil)) pa_nil)) pa_nil)))
    (pss_cons (ps_for PassesOwn.never rfl (pi_list (pv 5)) (pg_name (i := 7) sc_law.nd rfl (Or.inl rfl))
      (pss_cons (ps_if (PW.pt (pw_or (pt_not (pt_val (pe_call G.S.ok hr2 rfl G.S.m G.S.kp G.S.b .nil pass0 (pa_cons (pv 7) pa_nil)))) (pw_or1 (pt_not (pt_val (pe_call G.J.ok hr2 rfl G.J.m G.J.kp G.J.b .nil pass0 (pa_cons (pv 2) (pa_cons (pv 3) (pa_cons (pv 6) (pa_cons (pv 7) pa_nil))))))))))
          (pss_one (ps_ret pe_bl))
          pss_nil)
        (pss_one (ps_set (i := 6) sc_law.nd rfl (Or.inl rfl) (pe_call G.R.ok hr1 rfl G.R.m G.R.kp G.R.b .nil pass0 (pa_cons (pv 6) (pa_cons (pe_ix ix_tup (pv 7) pe_int (fun _ _ => rfl)) (pa_cons (pe_ix ix_tup (pv 7) pe_int (fun _ _ => rfl)) pa_nil))))))))
    (pss_one (ps_ret pe_bl)))))))))), ?_⟩
  refine ⟨_, rfl, a, ns, 0, rfl, hS, _, rfl, fun H1 nl zs s1 hnl nl1 z4 => ?_⟩
  refine ⟨_, rfl, _, rfl, _, rfl, a, ns, 1, rfl, s1.seq hS, _, rfl, fun m m60 => ⟨a, nl, ns, 2, m, zs, rfl, s1.seq hS, SqL.of nl1, z4, m60, fun H2 tl xs ts s2 htl tl2 has2 hW t60 => ?_⟩⟩
  have s02 := s1.trans s2
  refine ⟨_, rfl, _, rfl, a, tl, ns, 8, xs, ts, zs, rfl, s02.seq hS, SqL.of tl2, has2, hW, t60, fun H3 gl gs ys s3 hgl gl3 hasg pin g201 => ?_⟩
  have tl3 := s3 _ _ tl2
  have has3 := HasL.keep s3.kt (nols_dTm _) has2
  have xl : xs.length = ts.length := by rw [← has3.length, List.length_map]
  refine ⟨_, rfl, tl, _, rfl, .inl (SqL.of tl3), fun l1 hl1 => ?_⟩
  have s4 : Same H3 (upd H3 l1 (.lst xs)) := sameNew hl1 _
  have n4 := upd_same (H := H3) (a := l1) (o := .lst xs)
  generalize upd H3 l1 (.lst xs) = H4 at s4 n4
  refine ⟨_, rfl, gl, _, rfl, .inl (SqL.of (s4 _ _ gl3)), fun l2 hl2 => ?_⟩
  have s5 : Same H4 (upd H4 l2 (.lst ys)) := sameNew hl2 _
  have n5 := upd_same (H := H4) (a := l2) (o := .lst ys)
  have n45 := s5 _ _ n4
  generalize upd H4 l2 (.lst ys) = H5 at s5 n5 n45
  refine ⟨(by show 2 ≤ sizeLine; decide), fun hl hhl => ?_⟩
  have s6 : Same H5 (upd H5 hl (.lst [.ref l1, .ref l2])) := sameNew hhl _
  have n6 := upd_same (H := H5) (a := hl) (o := .lst [.ref l1, .ref l2])
  have n46 := s6 _ _ n45
  have n56 := s6 _ _ n5
  generalize upd H5 hl (.lst [.ref l1, .ref l2]) = H6 at s6 n6 n46 n56
  have s36 := (s4.trans s5).trans s6
  have c0 : atI [V.ref l1, V.ref l2] 0 = some (.ref l1) := atI_nat (j := 0) rfl
  have c1 : atI [V.ref l1, V.ref l2] 1 = some (.ref l2) := atI_nat (j := 1) rfl
  refine ⟨_, rfl, hl, _, _, _, rfl, rfl, SqL.of n6, c0, _, rfl, hl, _, _, _, rfl, rfl, SqL.of n6, c1, l1, l2, xs, ys, gs, ts, rfl, SqL.of n46, HasL.keep s36.kt (nols_dTm _) has3, SqL.of n56, HasL.keep s36.kt (nols_dPs _) hasg, pin, (fun t ht => by have := (hW.all ht).2.1; omega), by omega, by omega, fun H7 fl ls ws s7 hfl fl7 hasl R gv cl el => ?_⟩
  have s37 := s36.trans s7
  have wl : ws.length = ls.length := by rw [← hasl.length, List.length_map]
  refine ⟨_, rfl, fl, _, "list", true, rfl, SqL.of fl7, kitSelf K "list", _, rfl, iteF ⟨_, rfl, _, rfl, _, rfl, (by show 2 ≤ sizeLine; decide), fun e he => ?_⟩⟩
  have s8 : Same H7 (upd H7 e (.lst [.ref tl, .ref gl])) := sameNew he _
  have n8 := upd_same (H := H7) (a := e) (o := .lst [.ref tl, .ref gl])
  generalize upd H7 e (.lst [.ref tl, .ref gl]) = H8 at s8 n8
  have s38 := s37.trans s8
  have s68 := s7.trans s8
  have ht8 := HasL.keep s38.kt (nols_dTm _) has3
  have hg8 := HasL.keep s38.kt (nols_dPs _) hasg
  have dt := deps_dTm ts
  have dg := deps_dPs gs
  refine ⟨.lst [.lst (ts.map dTm), .lst (gs.map dP)], .lst [.lst (ts.map dTm), .lst (gs.map dP)], Has.lst' (SqL.of (s68 _ _ n6)) (.cons (Has.lst' (SqL.of (s68 _ _ n46)) ht8) (.cons (Has.lst' (SqL.of (s68 _ _ n56)) hg8) .nil)), Has.lst' (SqL.of n8) (.cons (Has.lst' (SqL.of (s38 _ _ tl3)) ht8) (.cons (Has.lst' (SqL.of (s38 _ _ gl3)) hg8) .nil)), (by simp only [dep, deps]; omega), _, rfl, ?_⟩
  rw [peq_refl]
  refine iteF ⟨_, rfl, tl, _, rfl, .inl (SqL.of (s38 _ _ tl3)), ((xs.length : Nat) : Int), rfl, fun r hr' => ?_⟩
  have s9 : Same H8 (upd H8 r (.rng 0 ((xs.length : Nat) : Int))) := sameNew hr' _
  have n9 := upd_same (H := H8) (a := r) (o := .rng 0 ((xs.length : Nat) : Int))
  generalize upd H8 r (.rng 0 ((xs.length : Nat) : Int)) = H9 at s9 n9
  refine ⟨r, ((xs.length : Nat) : Int), rfl, n9, by omega, by omega, fun l hl' => ?_⟩
  have s10 : Same H9 (upd H9 l (.lst (((List.range (((xs.length : Nat) : Int)).toNat).map fun i : Nat => (i : Int)).map V.int))) := sameNew hl' _
  have n10 : (upd H9 l (.lst (((List.range (((xs.length : Nat) : Int)).toNat).map fun i : Nat => (i : Int)).map V.int))) l = some (.lst ((hdsG (hdL []) xs.length).map V.int)) := upd_same
  generalize upd H9 l (.lst (((List.range (((xs.length : Nat) : Int)).toNat).map fun i : Nat => (i : Int)).map V.int)) = H10 at s10 n10
  have s710 := (s8.trans s9).trans s10
  have fl10 := s710 _ _ fl7
  have s310 := (s38.trans s9).trans s10
  have tl10 := s310 _ _ tl3
  have gl10 := s310 _ _ gl3
  have ht10 := HasL.keep s310.kt (nols_dTm _) has3
  have hg10 := HasL.keep s310.kt (nols_dPs _) hasg
  have hf10 := HasL.keep s710.kt (nols_dL _) hasl
  rw [xl] at n10
  refine ⟨_, rfl, fl, rfl, ⟨_, SqL.of fl10⟩, for_by wk_list (fun i σ H' => ∃ (v7 : Option V) (tp : Addr), σ = [some (.ref a), some (.ref nl), some (.ref tl), some (.ref gl), some (.ref hl), some (.ref fl), some (.ref tp), v7] ∧ Same H10 H' ∧ H' tp = some (.lst ((hdsG (hdL (ls.take i)) ts.length).map V.int))) (fun i σ H' ⟨_, _, _, sA, _⟩ => SqL.of (sA _ _ fl10)) ⟨none, l, rfl, Same.refl _, n10⟩ ?_ ?_⟩
  · rintro i σ HB x HA hi ⟨v7, tp, rfl, sA, tpA⟩ ⟨rfl, hx⟩
    obtain ⟨k, p, hk, rfl, hp⟩ := dL_at hf10 (hx _ (SqL.of (sA _ _ fl10)))
    have ok := R i k hk
    have a0 : atI [V.int k.1, V.int k.2.1, V.int k.2.2] 0 = some (.int k.1) := atI_nat (j := 0) rfl
    have a1 : atI [V.int k.1, V.int k.2.1, V.int k.2.2] 1 = some (.int k.2.1) := atI_nat (j := 1) rfl
    refine ⟨_, rfl, p, k, rfl, sA.tup hp, _, rfl, iteF ⟨_, rfl, _, rfl, _, rfl, _, rfl, tl, gl, tp, p, xs, ys, ts, zs, gs, ls.take i, k, rfl, SqL.of (sA _ _ tl10), HasL.keep sA.kt (nols_dTm _) ht10, hW, t60, SqL.of (sA _ _ gl10), HasL.keep sA.kt (nols_dPs _) hg10, SqL.of tpA, sA.tup hp, ok, fun HC sC => ⟨_, rfl, iteF ?_⟩⟩⟩
    have sAC := sA.trans sC
    refine ⟨_, rfl, _, rfl, p, _, _, _, rfl, rfl, sAC.tup hp, a0, _, rfl, p, _, _, _, rfl, rfl, sAC.tup hp, a1, tp, k.1, k.2.1, ts.length, _, rfl, SqL.of (sC _ _ tpA), ok.a, ok.b, by omega, fun HD t4 sD _ ht4 => ⟨_, t4, rfl, sAC.trans sD, ?_⟩⟩
    rw [take_snoc hk, hdL_snoc]
    exact ht4
  · rintro σ HA ⟨v7, tp, rfl, _⟩
    exact q _
end
end K12

/-! law k12, last part: what the top has written, and the law. Behind K12j. -/
namespace K12
open PySem L2
theorem all_mk {l : PySem.W.OpenLaw} {w : World} {K : PySem.W.Frag} {h : Heap} {mg : Str → Option Value} {fa C f1 f2 f3 f4 f5 f6 f7 f8 f9 f10 f11 f12 f13 f14 f15 f16 f17 f18 f19 f20 f21 f22 : Addr} (X : K.In h) (G : h.Ns mainGlobals mg) (hfa : mg "law" = some (.ref fa))
    {od1 an1 od2 an2 od3 an3 od4 an4 od5 an5 od6 an6 od7 an7 od8 an8 od9 an9 od10 an10 od11 an11 od12 an12 od13 an13 od14 an14 od15 an15 od16 an16 od17 an17 od18 an18 od19 an19 od20 an20 od21 an21 od22 an22 : Option Addr} {sl1 sl2 sl3 sl4 sl5 sl6 sl7 sl8 sl9 sl10 sl11 sl12 sl13 sl14 sl15 sl16 sl17 sl18 sl19 sl20 sl21 sl22 : Array (Option Value)} {oc1 kV1 dc1 pm1 cd1 ct1 oc2 kV2 dc2 pm2 cd2 ct2 oc3 kV3 dc3 pm3 cd3 ct3 oc4 kV4 dc4 pm4 cd4 ct4 oc5 kV5 dc5 pm5 cd5 ct5 oc6 kV6 dc6 pm6 cd6 ct6 oc7 kV7 dc7 pm7 cd7 ct7 oc8 kV8 dc8 pm8 cd8 ct8 oc9 kV9 dc9 pm9 cd9 ct9 oc10 kV10 dc10 pm10 cd10 ct10 oc11 kV11 dc11 pm11 cd11 ct11 oc12 kV12 dc12 pm12 cd12 ct12 oc13 kV13 dc13 pm13 cd13 ct13 oc14 kV14 dc14 pm14 cd14 ct14 oc15 kV15 dc15 pm15 cd15 ct15 oc16 kV16 dc16 pm16 cd16 ct16 oc17 kV17 dc17 pm17 cd17 ct17 oc18 kV18 dc18 pm18 cd18 ct18 oc19 kV19 dc19 pm19 cd19 ct19 oc20 kV20 dc20 pm20 cd20 ct20 oc21 kV21 dc21 pm21 cd21 ct21 oc22 kV22 dc22 pm22 cd22 ct22 : Value} 
    (aC : PySem.W.nsIn K mainGlobals "Groups" = some (some (.ref C)))
    (a1 : PySem.W.nsIn K mainGlobals "given_links" = some (some (.ref f1)))
    (l1 : K.lookup f1 = some ⟨oc1, od1, .func (PySem.W.fnOf "given_links" "given_links" (defArgs s_given_links) (defBody s_given_links) (defScope s_given_links) .none kV1 dc1 pm1 an1 cd1 ct1), sl1⟩)
    (c1 : PySem.W.codeIn K cd1 "given_links" = true)
    (k1 : PySem.W.keepIn K (.ref f1) = true)
    (a2 : PySem.W.nsIn K mainGlobals "alike_links" = some (some (.ref f2)))
    (l2 : K.lookup f2 = some ⟨oc2, od2, .func (PySem.W.fnOf "alike_links" "alike_links" (defArgs s_alike_links) (defBody s_alike_links) (defScope s_alike_links) .none kV2 dc2 pm2 an2 cd2 ct2), sl2⟩)
    (c2 : PySem.W.codeIn K cd2 "alike_links" = true)
    (k2 : PySem.W.keepIn K (.ref f2) = true)
    (a3 : PySem.W.nsIn K mainGlobals "links" = some (some (.ref f3)))
    (l3 : K.lookup f3 = some ⟨oc3, od3, .func (PySem.W.fnOf "links" "links" (defArgs s_links) (defBody s_links) (defScope s_links) .none kV3 dc3 pm3 an3 cd3 ct3), sl3⟩)
    (c3 : PySem.W.codeIn K cd3 "links" = true)
    (k3 : PySem.W.keepIn K (.ref f3) = true)
    (a4 : PySem.W.nsIn K mainGlobals "_law_cell_at" = some (some (.ref f4)))
    (l4 : K.lookup f4 = some ⟨oc4, od4, .func (PySem.W.fnOf "_law_cell_at" "_law_cell_at" (defArgs s__law_cell_at) (defBody s__law_cell_at) (defScope s__law_cell_at) .none kV4 dc4 pm4 an4 cd4 ct4), sl4⟩)
    (c4 : PySem.W.codeIn K cd4 "_law_cell_at" = true)
    (k4 : PySem.W.keepIn K (.ref f4) = true)
    (a5 : PySem.W.nsIn K mainGlobals "_law_mixed" = some (some (.ref f5)))
    (l5 : K.lookup f5 = some ⟨oc5, od5, .func (PySem.W.fnOf "_law_mixed" "_law_mixed" (defArgs s__law_mixed) (defBody s__law_mixed) (defScope s__law_mixed) .none kV5 dc5 pm5 an5 cd5 ct5), sl5⟩)
    (c5 : PySem.W.codeIn K cd5 "_law_mixed" = true)
    (k5 : PySem.W.keepIn K (.ref f5) = true)
    (a6 : PySem.W.nsIn K mainGlobals "_law_word" = some (some (.ref f6)))
    (l6 : K.lookup f6 = some ⟨oc6, od6, .func (PySem.W.fnOf "_law_word" "_law_word" (defArgs s__law_word) (defBody s__law_word) (defScope s__law_word) .none kV6 dc6 pm6 an6 cd6 ct6), sl6⟩)
    (c6 : PySem.W.codeIn K cd6 "_law_word" = true)
    (k6 : PySem.W.keepIn K (.ref f6) = true)
    (a7 : PySem.W.nsIn K mainGlobals "_law_names" = some (some (.ref f7)))
    (l7 : K.lookup f7 = some ⟨oc7, od7, .func (PySem.W.fnOf "_law_names" "_law_names" (defArgs s__law_names) (defBody s__law_names) (defScope s__law_names) .none kV7 dc7 pm7 an7 cd7 ct7), sl7⟩)
    (c7 : PySem.W.codeIn K cd7 "_law_names" = true)
    (k7 : PySem.W.keepIn K (.ref f7) = true)
    (a8 : PySem.W.nsIn K mainGlobals "_law_term" = some (some (.ref f8)))
    (l8 : K.lookup f8 = some ⟨oc8, od8, .func (PySem.W.fnOf "_law_term" "_law_term" (defArgs s__law_term) (defBody s__law_term) (defScope s__law_term) .none kV8 dc8 pm8 an8 cd8 ct8), sl8⟩)
    (c8 : PySem.W.codeIn K cd8 "_law_term" = true)
    (k8 : PySem.W.keepIn K (.ref f8) = true)
    (a9 : PySem.W.nsIn K mainGlobals "_law_terms" = some (some (.ref f9)))
    (l9 : K.lookup f9 = some ⟨oc9, od9, .func (PySem.W.fnOf "_law_terms" "_law_terms" (defArgs s__law_terms) (defBody s__law_terms) (defScope s__law_terms) .none kV9 dc9 pm9 an9 cd9 ct9), sl9⟩)
    (c9 : PySem.W.codeIn K cd9 "_law_terms" = true)
    (k9 : PySem.W.keepIn K (.ref f9) = true)
    (a10 : PySem.W.nsIn K mainGlobals "_law_many_by" = some (some (.ref f10)))
    (l10 : K.lookup f10 = some ⟨oc10, od10, .func (PySem.W.fnOf "_law_many_by" "_law_many_by" (defArgs s__law_many_by) (defBody s__law_many_by) (defScope s__law_many_by) .none kV10 dc10 pm10 an10 cd10 ct10), sl10⟩)
    (c10 : PySem.W.codeIn K cd10 "_law_many_by" = true)
    (k10 : PySem.W.keepIn K (.ref f10) = true)
    (a11 : PySem.W.nsIn K mainGlobals "_law_twin_parts" = some (some (.ref f11)))
    (l11 : K.lookup f11 = some ⟨oc11, od11, .func (PySem.W.fnOf "_law_twin_parts" "_law_twin_parts" (defArgs s__law_twin_parts) (defBody s__law_twin_parts) (defScope s__law_twin_parts) .none kV11 dc11 pm11 an11 cd11 ct11), sl11⟩)
    (c11 : PySem.W.codeIn K cd11 "_law_twin_parts" = true)
    (k11 : PySem.W.keepIn K (.ref f11) = true)
    (a12 : PySem.W.nsIn K mainGlobals "_law_given" = some (some (.ref f12)))
    (l12 : K.lookup f12 = some ⟨oc12, od12, .func (PySem.W.fnOf "_law_given" "_law_given" (defArgs s__law_given) (defBody s__law_given) (defScope s__law_given) .none kV12 dc12 pm12 an12 cd12 ct12), sl12⟩)
    (c12 : PySem.W.codeIn K cd12 "_law_given" = true)
    (k12 : PySem.W.keepIn K (.ref f12) = true)
    (a13 : PySem.W.nsIn K mainGlobals "_law_relabelled" = some (some (.ref f13)))
    (l13 : K.lookup f13 = some ⟨oc13, od13, .func (PySem.W.fnOf "_law_relabelled" "_law_relabelled" (defArgs s__law_relabelled) (defBody s__law_relabelled) (defScope s__law_relabelled) .none kV13 dc13 pm13 an13 cd13 ct13), sl13⟩)
    (c13 : PySem.W.codeIn K cd13 "_law_relabelled" = true)
    (k13 : PySem.W.keepIn K (.ref f13) = true)
    (a14 : PySem.W.nsIn K mainGlobals "_law_whole" = some (some (.ref f14)))
    (l14 : K.lookup f14 = some ⟨oc14, od14, .func (PySem.W.fnOf "_law_whole" "_law_whole" (defArgs s__law_whole) (defBody s__law_whole) (defScope s__law_whole) .none kV14 dc14 pm14 an14 cd14 ct14), sl14⟩)
    (c14 : PySem.W.codeIn K cd14 "_law_whole" = true)
    (k14 : PySem.W.keepIn K (.ref f14) = true)
    (a15 : PySem.W.nsIn K mainGlobals "_law_alike" = some (some (.ref f15)))
    (l15 : K.lookup f15 = some ⟨oc15, od15, .func (PySem.W.fnOf "_law_alike" "_law_alike" (defArgs s__law_alike) (defBody s__law_alike) (defScope s__law_alike) .none kV15 dc15 pm15 an15 cd15 ct15), sl15⟩)
    (c15 : PySem.W.codeIn K cd15 "_law_alike" = true)
    (k15 : PySem.W.keepIn K (.ref f15) = true)
    (a16 : PySem.W.nsIn K mainGlobals "_law_triple" = some (some (.ref f16)))
    (l16 : K.lookup f16 = some ⟨oc16, od16, .func (PySem.W.fnOf "_law_triple" "_law_triple" (defArgs s__law_triple) (defBody s__law_triple) (defScope s__law_triple) .none kV16 dc16 pm16 an16 cd16 ct16), sl16⟩)
    (c16 : PySem.W.codeIn K cd16 "_law_triple" = true)
    (k16 : PySem.W.keepIn K (.ref f16) = true)
    (a17 : PySem.W.nsIn K mainGlobals "_law_right" = some (some (.ref f17)))
    (l17 : K.lookup f17 = some ⟨oc17, od17, .func (PySem.W.fnOf "_law_right" "_law_right" (defArgs s__law_right) (defBody s__law_right) (defScope s__law_right) .none kV17 dc17 pm17 an17 cd17 ct17), sl17⟩)
    (c17 : PySem.W.codeIn K cd17 "_law_right" = true)
    (k17 : PySem.W.keepIn K (.ref f17) = true)
    (a18 : PySem.W.nsIn K mainGlobals "law" = some (some (.ref f18)))
    (l18 : K.lookup f18 = some ⟨oc18, od18, .func (PySem.W.fnOf "law" "law" (defArgs s_law) (defBody s_law) (defScope s_law) .none kV18 dc18 pm18 an18 cd18 ct18), sl18⟩)
    (c18 : PySem.W.codeIn K cd18 "law" = true)
    (k18 : PySem.W.keepIn K (.ref f18) = true)
    (a19 : PySem.W.findIn K (.ref C) "__init__" = some (some (.ref f19)))
    (i19 : PySem.W.isFn K (.ref f19) = true)
    (l19 : K.lookup f19 = some ⟨oc19, od19, .func (PySem.W.fnOf "__init__" "Groups.__init__" (defArgs s_init) (defBody s_init) (defScope s_init) .none kV19 dc19 pm19 an19 cd19 ct19), sl19⟩)
    (c19 : PySem.W.codeIn K cd19 "Groups.__init__" = true)
    (k19 : PySem.W.keepIn K (.ref f19) = true)
    (a20 : PySem.W.findIn K (.ref C) "head" = some (some (.ref f20)))
    (i20 : PySem.W.isFn K (.ref f20) = true)
    (l20 : K.lookup f20 = some ⟨oc20, od20, .func (PySem.W.fnOf "head" "Groups.head" (defArgs s_head) (defBody s_head) (defScope s_head) .none kV20 dc20 pm20 an20 cd20 ct20), sl20⟩)
    (c20 : PySem.W.codeIn K cd20 "Groups.head" = true)
    (k20 : PySem.W.keepIn K (.ref f20) = true)
    (a21 : PySem.W.findIn K (.ref C) "together" = some (some (.ref f21)))
    (i21 : PySem.W.isFn K (.ref f21) = true)
    (l21 : K.lookup f21 = some ⟨oc21, od21, .func (PySem.W.fnOf "together" "Groups.together" (defArgs s_together) (defBody s_together) (defScope s_together) .none kV21 dc21 pm21 an21 cd21 ct21), sl21⟩)
    (c21 : PySem.W.codeIn K cd21 "Groups.together" = true)
    (k21 : PySem.W.keepIn K (.ref f21) = true)
    (a22 : PySem.W.findIn K (.ref C) "merge" = some (some (.ref f22)))
    (i22 : PySem.W.isFn K (.ref f22) = true)
    (l22 : K.lookup f22 = some ⟨oc22, od22, .func (PySem.W.fnOf "merge" "Groups.merge" (defArgs s_merge) (defBody s_merge) (defScope s_merge) .none kV22 dc22 pm22 an22 cd22 ct22), sl22⟩)
    (c22 : PySem.W.codeIn K cd22 "Groups.merge" = true)
    (k22 : PySem.W.keepIn K (.ref f22) = true)
    (z_len : PySem.W.nsIn K mainGlobals "len" = some none)
    (z_list : PySem.W.nsIn K mainGlobals "list" = some none)
    (z_range : PySem.W.nsIn K mainGlobals "range" = some none)
    (z_isinstance : PySem.W.nsIn K mainGlobals "isinstance" = some none)
    (z_int : PySem.W.nsIn K mainGlobals "int" = some none)
    (z_bool : PySem.W.nsIn K mainGlobals "bool" = some none)
    (z_min : PySem.W.nsIn K mainGlobals "min" = some none)
    (z_max : PySem.W.nsIn K mainGlobals "max" = some none)
    (z_tuple : PySem.W.nsIn K mainGlobals "tuple" = some none)
    (z_enumerate : PySem.W.nsIn K mainGlobals "enumerate" = some none)
    (z_zip : PySem.W.nsIn K mainGlobals "zip" = some none)
    (z_ib : PySem.W.kitOne K (.type "int") (.type "bool") = some false)
    (pg : PySem.W.plainGet K C Str.empty = true)
    (hd : PySem.W.hasDictIn K C = true)
    (po : PySem.W.plainOver K C = true)
    (sa : PySem.W.findIn K (.ref C) "__setattr__" = some (some (.builtin "object.__setattr__")))
    (mk : PySem.W.makesIn K C = true)
    (kc : PySem.W.keepIn K (.ref C) = true)
    (nL : PySem.W.findIn K (.ref C) "least" = some none)
    (nG : PySem.W.findIn K (.ref C) "gathered" = some none)
    : ∃ fd : FuncData, (∀ (s : Shared) (v : Value), BindsTo s fd ⟨[v], []⟩ [("_law_script", v)]) ∧ ∀ base : Heap, K.In base → base.Ns mainGlobals mg → FnOk l.prog w K mg base CX0 5 fa fd ["_law_script"] (sp_law K) := by
  have e := hfa.symm.trans (PySem.W.mg_of X G a18)
  cases e
  have T : Txt K mg := ⟨PySem.W.mg_none_of X G z_len, PySem.W.mg_none_of X G z_list, PySem.W.mg_none_of X G z_range, PySem.W.mg_none_of X G z_isinstance, PySem.W.mg_none_of X G z_int, PySem.W.mg_none_of X G z_bool, PySem.W.mg_none_of X G z_min, PySem.W.mg_none_of X G z_max, PySem.W.mg_none_of X G z_tuple, PySem.W.mg_none_of X G z_enumerate, PySem.W.mg_none_of X G z_zip, z_ib⟩
  have TG : TxG K mg C := ⟨⟨pg, hd, po, sa⟩, nL, nG, PySem.W.mg_none_of X G z_min, PySem.W.mg_none_of X G z_max, PySem.W.mg_none_of X G z_range⟩
  have MK : Mk K C f19 := ⟨mk, a19, i19, kc⟩
  have F1 := fun_mk (st := s_given_links) l1 c1 k1
  have b1 := F1.binds (ps := ["given", "groups"]) fun _ _ _ _ _ _ us hl => match us, hl with | [_, _], _ => rfl
  have m1 := PySem.W.mg_of X G a1
  have F2 := fun_mk (st := s_alike_links) l2 c2 k2
  have b2 := F2.binds (ps := ["terms", "groups"]) fun _ _ _ _ _ _ us hl => match us, hl with | [_, _], _ => rfl
  have m2 := PySem.W.mg_of X G a2
  have F3 := fun_mk (st := s_links) l3 c3 k3
  have b3 := F3.binds (ps := ["terms", "given"]) fun _ _ _ _ _ _ us hl => match us, hl with | [_, _], _ => rfl
  have m3 := PySem.W.mg_of X G a3
  have F4 := fun_mk (st := s__law_cell_at) l4 c4 k4
  have b4 := F4.binds (ps := ["_law_script", "_law_k"]) fun _ _ _ _ _ _ us hl => match us, hl with | [_, _], _ => rfl
  have m4 := PySem.W.mg_of X G a4
  have F5 := fun_mk (st := s__law_mixed) l5 c5 k5
  have b5 := F5.binds (ps := ["_law_cell", "_law_k"]) fun _ _ _ _ _ _ us hl => match us, hl with | [_, _], _ => rfl
  have m5 := PySem.W.mg_of X G a5
  have F6 := fun_mk (st := s__law_word) l6 c6 k6
  have b6 := F6.binds (ps := ["_law_cell", "_law_size"]) fun _ _ _ _ _ _ us hl => match us, hl with | [_, _], _ => rfl
  have m6 := PySem.W.mg_of X G a6
  have F7 := fun_mk (st := s__law_names) l7 c7 k7
  have b7 := F7.binds (ps := ["_law_cell"]) fun _ _ _ _ _ _ us hl => match us, hl with | [_], _ => rfl
  have m7 := PySem.W.mg_of X G a7
  have F8 := fun_mk (st := s__law_term) l8 c8 k8
  have b8 := F8.binds (ps := ["_law_cell", "_law_names_here", "_law_terms_here", "_law_size"]) fun _ _ _ _ _ _ us hl => match us, hl with | [_, _, _, _], _ => rfl
  have m8 := PySem.W.mg_of X G a8
  have F9 := fun_mk (st := s__law_terms) l9 c9 k9
  have b9 := F9.binds (ps := ["_law_script", "_law_first", "_law_names_here", "_law_many"]) fun _ _ _ _ _ _ us hl => match us, hl with | [_, _, _, _], _ => rfl
  have m9 := PySem.W.mg_of X G a9
  have F10 := fun_mk (st := s__law_many_by) l10 c10 k10
  have b10 := F10.binds (ps := ["_law_cell"]) fun _ _ _ _ _ _ us hl => match us, hl with | [_], _ => rfl
  have m10 := PySem.W.mg_of X G a10
  have F11 := fun_mk (st := s__law_twin_parts) l11 c11 k11
  have b11 := F11.binds (ps := ["_law_terms_here", "_law_mix"]) fun _ _ _ _ _ _ us hl => match us, hl with | [_, _], _ => rfl
  have m11 := PySem.W.mg_of X G a11
  have F12 := fun_mk (st := s__law_given) l12 c12 k12
  have b12 := F12.binds (ps := ["_law_script", "_law_first", "_law_terms_here"]) fun _ _ _ _ _ _ us hl => match us, hl with | [_, _, _], _ => rfl
  have m12 := PySem.W.mg_of X G a12
  have F13 := fun_mk (st := s__law_relabelled) l13 c13 k13
  have b13 := F13.binds (ps := ["_law_tops", "_law_one", "_law_other"]) fun _ _ _ _ _ _ us hl => match us, hl with | [_, _, _], _ => rfl
  have m13 := PySem.W.mg_of X G a13
  have F14 := fun_mk (st := s__law_whole) l14 c14 k14
  have b14 := F14.binds (ps := ["_law_found"]) fun _ _ _ _ _ _ us hl => match us, hl with | [_], _ => rfl
  have m14 := PySem.W.mg_of X G a14
  have F15 := fun_mk (st := s__law_alike) l15 c15 k15
  have b15 := F15.binds (ps := ["_law_terms_here", "_law_tops", "_law_one", "_law_other"]) fun _ _ _ _ _ _ us hl => match us, hl with | [_, _, _, _], _ => rfl
  have m15 := PySem.W.mg_of X G a15
  have F16 := fun_mk (st := s__law_triple) l16 c16 k16
  have b16 := F16.binds (ps := ["_law_link"]) fun _ _ _ _ _ _ us hl => match us, hl with | [_], _ => rfl
  have m16 := PySem.W.mg_of X G a16
  have F17 := fun_mk (st := s__law_right) l17 c17 k17
  have b17 := F17.binds (ps := ["_law_terms_here", "_law_given_here", "_law_tops", "_law_link"]) fun _ _ _ _ _ _ us hl => match us, hl with | [_, _, _, _], _ => rfl
  have m17 := PySem.W.mg_of X G a17
  have F18 := fun_mk (st := s_law) l18 c18 k18
  have F19 := fun_mk (st := s_init) l19 c19 k19
  have b19 := F19.binds (ps := ["self"]) fun _ _ _ _ _ _ us hl => match us, hl with | [_], _ => rfl
  have F20 := fun_mk (st := s_head) l20 c20 k20
  have b20 := F20.binds (ps := ["self", "term"]) fun _ _ _ _ _ _ us hl => match us, hl with | [_, _], _ => rfl
  have M20 : Meth K C "head" f20 := ⟨a20, i20, k20⟩
  have F21 := fun_mk (st := s_together) l21 c21 k21
  have b21 := F21.binds (ps := ["self", "one", "other"]) fun _ _ _ _ _ _ us hl => match us, hl with | [_, _, _], _ => rfl
  have M21 : Meth K C "together" f21 := ⟨a21, i21, k21⟩
  have F22 := fun_mk (st := s_merge) l22 c22 k22
  have b22 := F22.binds (ps := ["self", "one", "other"]) fun _ _ _ _ _ _ us hl => match us, hl with | [_, _, _], _ => rfl
  have M22 : Meth K C "merge" f22 := ⟨a22, i22, k22⟩
  refine ⟨PySem.W.fnOf "law" "law" (defArgs s_law) (defBody s_law) (defScope s_law) .none kV18 dc18 pm18 an18 cd18 ct18, fun s v => .of_eq rfl, fun base _ _ => ?_⟩
  have G19 := ok_init (P := l.prog) (w := w) (base := base) F19 TG
  have G20 := ok_head (P := l.prog) (w := w) (base := base) F20 TG
  have G21 := ok_together F21 TG M20 G20 b20
  have G22 := ok_merge F22 TG M20 G20 b20
  have Bgiven_links : FB l.prog w K mg base CX0 3 "given_links" f1 _ ["given", "groups"] (sp_given_links K C) := ⟨ok_given_links F1 TG T.enumerate M21 G21 b21 M22 G22 b22, b1, k1, m1⟩
  have Balike_links : FB l.prog w K mg base CX0 3 "alike_links" f2 _ ["terms", "groups"] (sp_alike_links K C) := ⟨ok_alike_links F2 TG T.enumerate T.tuple M20 G20 b20 M21 G21 b21 M22 G22 b22, b2, k2, m2⟩
  have Blinks : FB l.prog w K mg base CX0 4 "links" f3 _ ["terms", "given"] (sp_links K) := ⟨ok_links F3 T.len MK (PySem.W.mg_of X G aC) G19 b19 Bgiven_links Balike_links, b3, k3, m3⟩
  have B_law_cell_at : FB l.prog w K mg base CX0 1 "_law_cell_at" f4 _ ["_law_script", "_law_k"] (sp_cell K) := ⟨ok_cell F4 T, b4, k4, m4⟩
  have B_law_mixed : FB l.prog w K mg base CX0 1 "_law_mixed" f5 _ ["_law_cell", "_law_k"] (sp_mixed) := ⟨ok_mixed F5, b5, k5, m5⟩
  have B_law_word : FB l.prog w K mg base CX0 2 "_law_word" f6 _ ["_law_cell", "_law_size"] (sp_word) := ⟨ok_word F6 T B_law_mixed, b6, k6, m6⟩
  have B_law_names : FB l.prog w K mg base CX0 3 "_law_names" f7 _ ["_law_cell"] (sp_names) := ⟨ok_names F7 T B_law_word, b7, k7, m7⟩
  have B_law_term : FB l.prog w K mg base CX0 2 "_law_term" f8 _ ["_law_cell", "_law_names_here", "_law_terms_here", "_law_size"] (sp_term K) := ⟨ok_term F8 T B_law_mixed, b8, k8, m8⟩
  have B_law_terms : FB l.prog w K mg base CX0 3 "_law_terms" f9 _ ["_law_script", "_law_first", "_law_names_here", "_law_many"] (sp_terms K) := ⟨ok_terms F9 T B_law_cell_at B_law_mixed B_law_term, b9, k9, m9⟩
  have B_law_many_by : FB l.prog w K mg base CX0 1 "_law_many_by" f10 _ ["_law_cell"] (sp_many_by) := ⟨ok_many_by F10, b10, k10, m10⟩
  have B_law_twin_parts : FB l.prog w K mg base CX0 1 "_law_twin_parts" f11 _ ["_law_terms_here", "_law_mix"] (sp_twin K) := ⟨ok_twin F11 T, b11, k11, m11⟩
  have B_law_given : FB l.prog w K mg base CX0 2 "_law_given" f12 _ ["_law_script", "_law_first", "_law_terms_here"] (sp_given K) := ⟨ok_given F12 T B_law_cell_at B_law_mixed B_law_twin_parts, b12, k12, m12⟩
  have B_law_relabelled : FB l.prog w K mg base CX0 1 "_law_relabelled" f13 _ ["_law_tops", "_law_one", "_law_other"] (sp_relab K) := ⟨ok_relab F13 T, b13, k13, m13⟩
  have B_law_whole : FB l.prog w K mg base CX0 1 "_law_whole" f14 _ ["_law_found"] (sp_whole) := ⟨ok_whole F14 T, b14, k14, m14⟩
  have B_law_alike : FB l.prog w K mg base CX0 1 "_law_alike" f15 _ ["_law_terms_here", "_law_tops", "_law_one", "_law_other"] (sp_alike K) := ⟨ok_alike F15 T, b15, k15, m15⟩
  have B_law_triple : FB l.prog w K mg base CX0 2 "_law_triple" f16 _ ["_law_link"] (sp_triple K) := ⟨ok_triple F16 T B_law_whole, b16, k16, m16⟩
  have B_law_right : FB l.prog w K mg base CX0 2 "_law_right" f17 _ ["_law_terms_here", "_law_given_here", "_law_tops", "_law_link"] (sp_right K) := ⟨ok_right F17 T B_law_alike, b17, k17, m17⟩
  exact ok_law F18 T ⟨B_law_cell_at, B_law_names, B_law_many_by, B_law_terms, B_law_given, B_law_relabelled, B_law_triple, Blinks, B_law_right⟩
theorem walk {l : PySem.W.OpenLaw} {q : Program} {loose : List Str} {XP : (Str → Option Value) → Heap → Prop} {YP : World → Heap → Prop} {d : DefRec} {K : Params → PySem.W.Frag} (hn : l.most = some 63) (hdf : d.params.defaults = [])
    (hY : ∀ (w : World) (h : Heap), YP w h → (K w.params).In h)
    (F : ∀ (w : World) (mg : Str → Option Value) (fa : Addr) (h : Heap), (K w.params).In h → h.Ns mainGlobals mg → mg d.name = some (.ref fa) →
      ∃ fd : FuncData, (∀ (s : Shared) (u : Value), BindsTo s fd ⟨[u], []⟩ [("_law_script", u)]) ∧ ∀ base : Heap, (K w.params).In base → base.Ns mainGlobals mg → FnOk l.prog w (K w.params) mg base CX0 5 fa fd ["_law_script"] (sp_law (K w.params))) :
    PySem.W.WalkO q loose XP YP l.row.toRowW d [] (fun f vs => PySem.call f vs) :=
  L2.walk_of (n := 63) (k := 5) (x := "_law_script") (CX := fun _ => CX0) (sp := fun w => sp_law (K w.params)) hn (by decide) hdf ⟨rfl, by decide, by decide⟩ hY F (fun _ _ a ns hl _ hS => ⟨a, ns, rfl, hS, hl, fun _ => rfl⟩) fun _ _ _ _ _ z => z
end K12
open PySem PySem.W PyProof.Rows
set_option maxRecDepth 100000 in
set_option maxHeartbeats 0 in
theorem PySem.Challenge.cw_yesorno_k12_each_link_right_holds : PySem.Challenge.rw_yesorno_k12_each_link_right.Holds := by
  w_on; o_law; k_head; (case hw => w_witness2)
  k_fill
  refine K12.walk (l := PySem.Challenge.rw_yesorno_k12_each_link_right) rfl rfl (fun w h Y => PySem.W.kIn_of Y) ?F
  case F =>
    intro w mg fa h KX G hmg
    refine' K12.all_mk KX G hmg ?aC ?a1 ?l1 ?c1 ?k1 ?a2 ?l2 ?c2 ?k2 ?a3 ?l3 ?c3 ?k3 ?a4 ?l4 ?c4 ?k4 ?a5 ?l5 ?c5 ?k5 ?a6 ?l6 ?c6 ?k6 ?a7 ?l7 ?c7 ?k7 ?a8 ?l8 ?c8 ?k8 ?a9 ?l9 ?c9 ?k9 ?a10 ?l10 ?c10 ?k10 ?a11 ?l11 ?c11 ?k11 ?a12 ?l12 ?c12 ?k12 ?a13 ?l13 ?c13 ?k13 ?a14 ?l14 ?c14 ?k14 ?a15 ?l15 ?c15 ?k15 ?a16 ?l16 ?c16 ?k16 ?a17 ?l17 ?c17 ?k17 ?a18 ?l18 ?c18 ?k18 ?a19 ?i19 ?l19 ?c19 ?k19 ?a20 ?i20 ?l20 ?c20 ?k20 ?a21 ?i21 ?l21 ?c21 ?k21 ?a22 ?i22 ?l22 ?c22 ?k22 ?z_len ?z_list ?z_range ?z_isinstance ?z_int ?z_bool ?z_min ?z_max ?z_tuple ?z_enumerate ?z_zip ?z_ib ?pg ?hd ?po ?sa ?mk ?kc ?nL ?nG
    (case aC => k_is)
    (case a1 => k_is)
    (case l1 => k_is)
    (case c1 => k_is)
    (case k1 => k_is)
    (case a2 => k_is)
    (case l2 => k_is)
    (case c2 => k_is)
    (case k2 => k_is)
    (case a3 => k_is)
    (case l3 => k_is)
    (case c3 => k_is)
    (case k3 => k_is)
    (case a4 => k_is)
    (case l4 => k_is)
    (case c4 => k_is)
    (case k4 => k_is)
    (case a5 => k_is)
    (case l5 => k_is)
    (case c5 => k_is)
    (case k5 => k_is)
    (case a6 => k_is)
    (case l6 => k_is)
    (case c6 => k_is)
    (case k6 => k_is)
    (case a7 => k_is)
    (case l7 => k_is)
    (case c7 => k_is)
    (case k7 => k_is)
    (case a8 => k_is)
    (case l8 => k_is)
    (case c8 => k_is)
    (case k8 => k_is)
    (case a9 => k_is)
    (case l9 => k_is)
    (case c9 => k_is)
    (case k9 => k_is)
    (case a10 => k_is)
    (case l10 => k_is)
    (case c10 => k_is)
    (case k10 => k_is)
    (case a11 => k_is)
    (case l11 => k_is)
    (case c11 => k_is)
    (case k11 => k_is)
    (case a12 => k_is)
    (case l12 => k_is)
    (case c12 => k_is)
    (case k12 => k_is)
    (case a13 => k_is)
    (case l13 => k_is)
    (case c13 => k_is)
    (case k13 => k_is)
    (case a14 => k_is)
    (case l14 => k_is)
    (case c14 => k_is)
    (case k14 => k_is)
    (case a15 => k_is)
    (case l15 => k_is)
    (case c15 => k_is)
    (case k15 => k_is)
    (case a16 => k_is)
    (case l16 => k_is)
    (case c16 => k_is)
    (case k16 => k_is)
    (case a17 => k_is)
    (case l17 => k_is)
    (case c17 => k_is)
    (case k17 => k_is)
    (case a18 => k_is)
    (case l18 => k_is)
    (case c18 => k_is)
    (case k18 => k_is)
    (case a19 => k_is)
    (case i19 => k_is)
    (case l19 => k_is)
    (case c19 => k_is)
    (case k19 => k_is)
    (case a20 => k_is)
    (case i20 => k_is)
    (case l20 => k_is)
    (case c20 => k_is)
    (case k20 => k_is)
    (case a21 => k_is)
    (case i21 => k_is)
    (case l21 => k_is)
    (case c21 => k_is)
    (case k21 => k_is)
    (case a22 => k_is)
    (case i22 => k_is)
    (case l22 => k_is)
    (case c22 => k_is)
    (case k22 => k_is)
    (case z_len => k_is)
    (case z_list => k_is)
    (case z_range => k_is)
    (case z_isinstance => k_is)
    (case z_int => k_is)
    (case z_bool => k_is)
    (case z_min => k_is)
    (case z_max => k_is)
    (case z_tuple => k_is)
    (case z_enumerate => k_is)
    (case z_zip => k_is)
    (case z_ib => kit_is)
    (case pg => k_is)
    (case hd => k_is)
    (case po => k_is)
    (case sa => k_is)
    (case mk => k_is)
    (case kc => k_is)
    (case nL => k_is)
    (case nG => k_is)

