import PyProof.Rows.All
import Wide.All
import OpenK.AllK
import Wide.FinOn
import Lean
import PyProof.EqAt
import PyProof.EqKinds
import PyProof.TupleCall
import PySem.Challenge.RW_yesorno_k34_equal_lines_hold
set_option Elab.async false
set_option linter.all false
set_option maxRecDepth 100000
/-! THE HAND LAYER, for ints, bools, texts, own classes, LISTS and tuples (index, slices, in, append, pop ..), calls, loops. Paste it whole ahead of your own text; what your proof does not reach may be deleted. -/
namespace L2
open PySem PySem.Spec PyProof.Rows

/-- a key: an int or a str -/
abbrev Key := Sum Int Str
def keyIs : Key → Value → Bool
  | .inl k, v => Value.isInt k v
  | .inr x, v => Value.isStrOf x v
def keyH (w : World) : Key → Int
  | .inl k => hashInt k
  | .inr x => hashStr w x
theorem keyIs_shape : ∀ {k : Key} {v : Value}, keyIs k v = true → (∃ i t, k = Sum.inl i ∧ v = Value.int i t) ∨ (∃ x t, k = Sum.inr x ∧ v = Value.str x t)
  | .inl i, v, h => by
    obtain ⟨t, e⟩ := Value.isInt_shape (k := i) (v := v) h
    exact .inl ⟨i, t, rfl, e⟩
  | .inr x, v, h => by
    obtain ⟨t, e⟩ := Value.isStrOf_shape (x := x) (v := v) h
    exact .inr ⟨x, t, rfl, e⟩
theorem keyIs_int (i : Int) (t : Tok) : keyIs (.inl i) (.int i t) = true := by simp [keyIs, Value.isInt]
theorem keyIs_str (x : Str) (t : Tok) : keyIs (.inr x) (.str x t) = true := by simp [keyIs, Value.isStrOf]
theorem key_ll (a b : Int) : decide ((Sum.inl a : Key) = Sum.inl b) = (a == b) := by
  by_cases e : a = b
  · subst e; simp
  · have h : ¬ (Sum.inl a : Key) = Sum.inl b := fun q => e (Sum.inl.inj q)
    rw [decide_eq_false h]
    exact (beq_eq_false_iff_ne.mpr e).symm
theorem key_rr (a b : Str) : decide ((Sum.inr a : Key) = Sum.inr b) = decide (a = b) := by
  by_cases e : a = b
  · subst e; simp
  · have h : ¬ (Sum.inr a : Key) = Sum.inr b := fun q => e (Sum.inr.inj q)
    rw [decide_eq_false h, decide_eq_false e]
theorem key_lr (a : Int) (b : Str) : decide ((Sum.inl a : Key) = Sum.inr b) = false := decide_eq_false (fun q => nomatch q)
theorem key_rl (a : Str) (b : Int) : decide ((Sum.inr a : Key) = Sum.inl b) = false := decide_eq_false (fun q => nomatch q)

def mixKind (prog : Program) (w : World) : PySem.KeyKind prog w Key where
  is := keyIs
  hash := keyH w
  inj := fun v a b ha hb => by
    rcases keyIs_shape ha with ⟨i, t, rfl, rfl⟩ | ⟨x, t, rfl, rfl⟩
    · rcases keyIs_shape hb with ⟨j, u, rfl, e⟩ | ⟨y, u, rfl, e⟩
      · injection e with e1 _; rw [e1]
      · exact nomatch e
    · rcases keyIs_shape hb with ⟨j, u, rfl, e⟩ | ⟨y, u, rfl, e⟩
      · exact nomatch e
      · injection e with e1 _; rw [e1]
  byValue := fun k v h => by
    rcases keyIs_shape h with ⟨i, t, rfl, rfl⟩ | ⟨x, t, rfl, rfl⟩ <;> rfl
  pyHash := fun hv h => by
    rcases keyIs_shape hv with ⟨i, t, rfl, rfl⟩ | ⟨x, t, rfl, rfl⟩
    · exact wpAny_pyHash_int h
    · exact wpAny_pyHash_str h
  eqBool := fun hu hv h => by
    rcases keyIs_shape hu with ⟨i, t, rfl, rfl⟩ | ⟨x, t, rfl, rfl⟩
    · rcases keyIs_shape hv with ⟨j, u, rfl, rfl⟩ | ⟨y, u, rfl, rfl⟩
      · rw [key_ll] at h; exact wpAny_eqBool_int h
      · rw [key_lr] at h; exact SeqAt.EqAt.int_str i t y u _ _ _ _ h
    · rcases keyIs_shape hv with ⟨j, u, rfl, rfl⟩ | ⟨y, u, rfl, rfl⟩
      · rw [key_rl] at h; exact SeqAt.EqAt.str_int x t j u _ _ _ _ h
      · rw [key_rr] at h; exact wpAny_eqBool_str h
  «strs» := fun k x t v h => by
    rcases keyIs_shape h with ⟨i, u, rfl, e⟩ | ⟨y, u, rfl, e⟩
    · exact nomatch e
    · injection e with e1 _
      subst e1
      cases v <;> rfl

theorem mixKind_int (prog : Program) (w : World) (i : Int) (t : Tok) : (mixKind prog w).is (.inl i) (.int i t) = true := keyIs_int i t
theorem mixKind_str (prog : Program) (w : World) (x : Str) (t : Tok) : (mixKind prog w).is (.inr x) (.str x t) = true := keyIs_str x t
end L2

namespace L2
open PySem PySem.Spec PyProof.Rows

/-- a value, without the heap -/
inductive V where
  | non | bl (b : Bool) | int (i : Int) | str (x : Str) | byt (b : Array UInt8) | flt (b : UInt64) | ref (a : Addr) | ty (n : String)
  deriving DecidableEq

def RelV : V → Value → Prop
  | .non, u => u = Value.none
  | .bl b, u => u = Value.bool b
  | .int i, u => ∃ t, u = Value.int i t
  | .str x, u => ∃ t, u = Value.str x t
  | .byt b, u => ∃ t, u = Value.bytes b t
  | .flt b, u => ∃ t, u = Value.float b t
  | .ref a, u => u = Value.ref a
  | .ty n, u => u = Value.type n

abbrev Vals : List V → List Value → Prop := Paired RelV
theorem Vals.length {xs : List V} {us : List Value} (r : Vals xs us) : xs.length = us.length := Paired.length r
theorem Vals.get : ∀ {xs : List V} {us : List Value} {i : Nat} {x : V}, Vals xs us → xs[i]? = some x → ∃ u, us[i]? = some u ∧ RelV x u
  | _, _, _, _, .nil, e => by simp at e
  | _, _, 0, _, .cons r _, e => by simp at e; subst e; exact ⟨_, rfl, r⟩
  | _, _, i + 1, x, .cons _ t, e => by
    obtain ⟨u, h1, h2⟩ := Vals.get (i := i) (x := x) t (by simpa using e)
    exact ⟨u, by simpa using h1, h2⟩
theorem Vals.set {x : V} {u : Value} (r : RelV x u) : ∀ {xs : List V} {us : List Value} (i : Nat), Vals xs us → Vals (xs.set i x) (us.set i u)
  | _, _, _, .nil => .nil
  | _, _, 0, .cons _ t => .cons r t
  | _, _, i + 1, .cons q t => .cons q (Vals.set r i t)
theorem Vals.append : ∀ {xs ys : List V} {us ws : List Value}, Vals xs us → Vals ys ws → Vals (xs ++ ys) (us ++ ws)
  | _, _, _, _, .nil, s => s
  | _, _, _, _, .cons r t, s => .cons r (Vals.append t s)
theorem Vals.take : ∀ {xs : List V} {us : List Value} (n : Nat), Vals xs us → Vals (xs.take n) (us.take n)
  | _, _, 0, _ => .nil
  | _, _, _ + 1, .nil => .nil
  | _, _, n + 1, .cons r t => .cons r (Vals.take n t)
theorem Vals.drop : ∀ {xs : List V} {us : List Value} (n : Nat), Vals xs us → Vals (xs.drop n) (us.drop n)
  | _, _, 0, r => r
  | _, _, _ + 1, .nil => .nil
  | _, _, n + 1, .cons _ t => Vals.drop n t
theorem Vals.none_of : ∀ {xs : List V} {us : List Value} {i : Nat}, Vals xs us → xs[i]? = none → us[i]? = none := fun {xs us i} r e => by
  have h1 := r.length
  have h2 : xs.length ≤ i := List.getElem?_eq_none_iff.mp e
  exact List.getElem?_eq_none_iff.mpr (by omega)

def RelO : Option V → Option Value → Prop
  | some v, some u => RelV v u
  | none, none => True
  | _, _ => False
def KV {κ : Type} : List (κ × V) → List (κ × Value) → Prop := Paired fun (p : κ × V) (q : κ × Value) => p.1 = q.1 ∧ RelV p.2 q.2

/-- a key of a dict (00_mix): an int or a text -/
def kV : Key → V
  | .inl i => .int i
  | .inr x => .str x

/-- what stands at a tracked address -/
inductive HO where
  /-- a list -/
  | lst (xs : List V)
  /-- a tuple (never changes) -/
  | tup (xs : List V)
  /-- a dict whose keys are ints and texts; one whose keys are tuples of ints and texts (the empty one is both) -/
  | dK (kvs : List (Key × V)) | dT (kvs : List (List Key × V))
  /-- a set of ints: its members, its size -/
  | set (S : Int → Bool) (n : Nat)
  /-- an instance of the class at C, its dict at dx, its attributes -/
  | ins (C dx : Addr) (fs : List (Str × V))
  /-- the dict of the instance at x -/
  | own (x : Addr)
  /-- the dict of an exception -/
  | xd (fs : List (Str × V))
  /-- a bound method, f of x -/
  | met (f x : Addr)
  /-- a range object lo, lo + 1, .. below hi -/
  | rng (lo hi : Int)
  /-- a thing that is known to the object (the script; a dict while a loop walks it): read, never written while it is so -/
  | frz (o : Obj) (u : HO)
  /-- a code object's table -/
  | tbl (ps : Array Value)
  /-- any other thing, by what is true of its one object (a def of one's own: SetO a S n := HO.ext fun h => ..) -/
  | ext (φ : Heap → Prop)

abbrev Hp := Addr → Option HO
def upd (H : Hp) (a : Addr) (o : HO) : Hp := fun b => if b = a then some o else H b
theorem upd_same {H : Hp} {a : Addr} {o : HO} : upd H a o a = some o := by unfold upd; rw [if_pos rfl]
theorem upd_ne {H : Hp} {a b : Addr} {o : HO} (h : b ≠ a) : upd H a o b = H b := by unfold upd; rw [if_neg h]
theorem upd_upd {H : Hp} {a : Addr} {o u : HO} : upd (upd H a o) a u = upd H a u := by
  funext b; unfold upd; split <;> rfl
/-- two objects of different content stand apart -/
theorem ne_of {H : Hp} {a b : Addr} {o u : HO} (h : H a = some o) (h' : H b = some u) (d : o ≠ u) : a ≠ b := by
  intro e; subst e; rw [h] at h'; exact d (Option.some.inj h')
theorem ne_of_none {H : Hp} {a b : Addr} {o : HO} (h : H a = some o) (h' : H b = none) : a ≠ b := by
  intro e; subst e; rw [h] at h'; cases h'

section
variable (P : Program) (w : World)
def ObjOk (H : Hp) (h : Heap) (a : Addr) : HO → Prop
  | .lst xs => xs.length ≤ sizeLine ∧ ∃ (its : List Value) (n : Nat), Vals xs its ∧ h.get? a = some { cls := .type "list", data := .seq its.toArray n }
  | .tup xs => xs.length ≤ sizeLine ∧ ∃ its : List Value, Vals xs its ∧ IsTup h a its.toArray
  | .dK kvs => kvs.length ≤ sizeLine ∧ (a == sysModules) = false ∧ ∃ vs, KV kvs vs ∧ h.DictOf (mixKind P w) a vs
  | .dT kvs => kvs.length ≤ sizeLine ∧ (a == sysModules) = false ∧ ∃ xs : List (List Key × Addr × Value),
      Paired (fun (p : List Key × V) (q : List Key × Addr × Value) => p.1 = q.1 ∧ H q.2.1 = some (.tup (p.1.map kV)) ∧ RelV p.2 q.2.2) kvs xs ∧
      ∃ o es ep, h.get? a = some o ∧ o.ExactDict ∧ o.data = .dict es ep ∧ es.toList = xs.map (entryOfKey (tupleKind (mixKind P w))) ∧ (xs.map (·.1)).Nodup
  | .set S n => h.SetOf (intKind P w) a S n
  | .ins C dx fs => H dx = some (.own a) ∧ fs.length ≤ 1000 ∧ dx ≠ a ∧ h.get? a = some (PySem.W.instObj C dx) ∧
      ∃ mA, h.Ns1 dx mA ∧ (∀ f, RelO (fs.lookup f) (mA f)) ∧ PySem.Within mA (fs.map (·.1))
  | .own _ => ∃ o, h.get? a = some o
  | .xd fs => ∃ mA, h.Ns1 a mA ∧ ∀ f, RelO (fs.lookup f) (mA f)
  | .rng lo hi => ∃ t u v, h.get? a = some { cls := .type "range", data := .fields #[.int lo t, .int hi u, .int 1 v] }
  | .frz o u => h.get? a = some o ∧ ObjOk H h a u
  | .tbl ps => h.get? a = some { cls := .none, data := .fields ps }
  | .met f x => h.get? a = some (PySem.W.methodObj (.ref f) (.ref x))
  | .ext φ => φ h ∧ (∃ o, h.get? a = some o) ∧ ∀ h1 h2 : Heap, φ h1 → (∀ o, h1.get? a = some o → h2.get? a = some o) → φ h2
/-- the abstract heap is held -/
def HOk (H : Hp) (h : Heap) : Prop := ∀ a o, H a = some o → ObjOk P w H h a o
end

section
variable {P : Program} {w : World} {H H' : Hp} {h h' : Heap} {a : Addr} {o : HO}
theorem ObjOk.lt (x : ObjOk P w H h a o) : a < h.objs.size := by
  cases o with
  | lst xs => obtain ⟨_, _, _, _, e⟩ := x; exact Heap.lt_size e
  | tup xs => obtain ⟨_, _, _, p⟩ := x; exact p.lt
  | dK kvs => obtain ⟨_, _, _, _, o, _, _, e, _⟩ := x; exact Heap.lt_size e
  | dT kvs => obtain ⟨_, _, _, _, o, _, _, e, _⟩ := x; exact Heap.lt_size e
  | set S n => obtain ⟨o, _, _, _, e, _⟩ := x; exact Heap.lt_size e
  | ins C dx fs => obtain ⟨_, _, _, e, _⟩ := x; exact Heap.lt_size e
  | own y => obtain ⟨_, e⟩ := x; exact Heap.lt_size e
  | xd fs => obtain ⟨_, ⟨_, _, _, e, _⟩, _⟩ := x; exact Heap.lt_size e
  | rng lo hi => obtain ⟨_, _, _, e⟩ := x; exact Heap.lt_size e
  | frz ob u => obtain ⟨e, _⟩ := x; exact Heap.lt_size e
  | tbl ps => exact Heap.lt_size (show h.get? a = some _ from x)
  | met f y => exact Heap.lt_size (show h.get? a = some _ from x)
  | ext φ => obtain ⟨_, ⟨_, e⟩, _⟩ := x; exact Heap.lt_size e
theorem Paired.mapP {α β : Type} {F G : α → β → Prop} : ∀ {l₁ : List α} {l₂ : List β}, Paired F l₁ l₂ → (∀ a b, F a b → G a b) → Paired G l₁ l₂
  | _, _, .nil, _ => .nil
  | _, _, .cons r t, f => .cons (f _ _ r) (Paired.mapP t f)
/-- what an object's description leans on: its own object, its own dict, the tuples -/
theorem ObjOk.stay (x : ObjOk P w H h a o) (k : ∀ b u, (b = a ∨ H b = some (.own a)) → h.get? b = some u → h'.get? b = some u)
    (ho : ∀ b, H b = some (.own a) → H' b = some (.own a)) (ht : ∀ b xs, H b = some (.tup xs) → H' b = some (.tup xs)) : ObjOk P w H' h' a o := by
  induction o with
  | lst xs => obtain ⟨z, its, n, r, e⟩ := x; exact ⟨z, its, n, r, k _ _ (.inl rfl) e⟩
  | tup xs => obtain ⟨z, its, r, ob, e, c⟩ := x; exact ⟨z, its, r, ob, k _ _ (.inl rfl) e, c⟩
  | dK kvs => obtain ⟨z, y, vs, r, ob, es, ep, e, c⟩ := x; exact ⟨z, y, vs, r, ob, es, ep, k _ _ (.inl rfl) e, c⟩
  | dT kvs =>
    obtain ⟨z, y, xs, r, ob, es, ep, e, c⟩ := x
    exact ⟨z, y, xs, Paired.mapP r fun p q z => ⟨z.1, ht _ _ z.2.1, z.2.2⟩, ob, es, ep, k _ _ (.inl rfl) e, c⟩
  | set S n => obtain ⟨ob, es, ep, t, e, c⟩ := x; exact ⟨ob, es, ep, t, k _ _ (.inl rfl) e, c⟩
  | ins C dx fs =>
    obtain ⟨d, z, ne, e, mA, ⟨od, es, ep, e2, c⟩, r⟩ := x
    exact ⟨ho _ d, z, ne, k _ _ (.inl rfl) e, mA, ⟨od, es, ep, k _ _ (.inr d) e2, c⟩, r⟩
  | own y => obtain ⟨ob, e⟩ := x; exact ⟨ob, k _ _ (.inl rfl) e⟩
  | xd fs => obtain ⟨mA, ⟨od, es, ep, e, c⟩, r⟩ := x; exact ⟨mA, ⟨od, es, ep, k _ _ (.inl rfl) e, c⟩, r⟩
  | rng lo hi => obtain ⟨t, u, v, e⟩ := x; exact ⟨t, u, v, k _ _ (.inl rfl) e⟩
  | frz ob u ih => obtain ⟨e, q⟩ := x; exact ⟨k _ _ (.inl rfl) e, ih q⟩
  | tbl ps =>
    have e : h.get? a = some { cls := .none, data := .fields ps } := x
    show h'.get? a = some { cls := .none, data := .fields ps }
    exact k a _ (.inl rfl) e
  | met f y =>
    have e : h.get? a = some (PySem.W.methodObj (.ref f) (.ref y)) := x
    show h'.get? a = some (PySem.W.methodObj (.ref f) (.ref y))
    exact k a _ (.inl rfl) e
  | ext φ => obtain ⟨p, ⟨o, e⟩, st⟩ := x; exact ⟨st _ _ p fun o q => k _ _ (.inl rfl) q, ⟨o, k _ _ (.inl rfl) e⟩, st⟩
theorem HOk.lt (x : HOk P w H h) (e : H a = some o) : a < h.objs.size := (x a o e).lt
theorem HOk.fresh (x : HOk P w H h) (e : h.objs.size ≤ a) : H a = none := by
  cases q : H a with
  | none => rfl
  | some u => exact absurd (Nat.lt_of_lt_of_le (x.lt q) e) (Nat.lt_irrefl _)
/-- every object of the heap is kept -/
theorem HOk.kept (x : HOk P w H h) (k : ∀ b u, h.get? b = some u → h'.get? b = some u) : HOk P w H h' := fun a o e =>
  (x a o e).stay (fun b u _ q => k b u q) (fun _ q => q) fun _ _ q => q
/-- a new object is laid and tracked -/
theorem HOk.laid (x : HOk P w H h) (k : ∀ b u, h.get? b = some u → h'.get? b = some u) (hp : h.objs.size ≤ a) (new : ObjOk P w (upd H a o) h' a o) : HOk P w (upd H a o) h' := fun b u e => by
  have hn := x.fresh hp
  by_cases hb : b = a
  · subst hb; rw [upd_same] at e; cases e; exact new
  · rw [upd_ne hb] at e
    exact (x b u e).stay (fun c v _ q => k c v q) (fun c q => by rw [upd_ne (ne_of_none q hn)]; exact q) fun c xs q => by rw [upd_ne (ne_of_none q hn)]; exact q
end

/-- what may be read as u: it is u, or a known u -/
def Rd (H : Hp) (a : Addr) (u : HO) : Prop := H a = some u ∨ ∃ o, H a = some (.frz o u)
theorem Rd.of {H : Hp} {a : Addr} {u : HO} (h : H a = some u) : Rd H a u := .inl h
theorem Rd.ok {P : Program} {w : World} {H : Hp} {h : Heap} {a : Addr} {u : HO} (r : Rd H a u) (x : HOk P w H h) : ObjOk P w H h a u := by
  rcases r with r | ⟨o, r⟩
  · exact x a u r
  · obtain ⟨_, q⟩ := x a _ r
    exact q
/-- what may be written -/
def Mut : Option HO → Prop
  | some (.lst _) => True
  | some (.dK _) => True
  | some (.dT _) => True
  | some (.set _ _) => True
  | some (.ins _ _ _) => True
  | some (.ext _) => True
  | _ => False
section
variable {P : Program} {w : World} {H : Hp} {h h' : Heap} {x e : Addr} {o' : HO}
/-- the object at e is changed: x itself, or the dict of the instance x -/
theorem HOk.write (ok : HOk P w H h) (mu : Mut (H x)) (he : e = x ∨ H e = some (.own x)) (k : ∀ b u, b ≠ e → h.get? b = some u → h'.get? b = some u) (heo : ∃ u, h'.get? e = some u)
    (new : ObjOk P w (upd H x o') h' x o') : HOk P w (upd H x o') h' := fun b u q => by
  have nown : ∀ c y, H c = some (.own y) → c ≠ x := fun c y r z => by subst z; rw [r] at mu; exact mu
  have ntup : ∀ c xs, H c = some (.tup xs) → c ≠ x := fun c xs r z => by subst z; rw [r] at mu; exact mu
  by_cases hb : b = x
  · subst hb; rw [upd_same] at q; cases q; exact new
  · rw [upd_ne hb] at q
    by_cases hbe : b = e
    · have q' : H b = some (.own x) := by
        rcases he with z | z
        · exact absurd (hbe.trans z) hb
        · rw [hbe]; exact z
      rw [q] at q'; cases q'
      obtain ⟨v, hv⟩ := heo
      exact ⟨v, by rw [hbe]; exact hv⟩
    · refine (ok b u q).stay (fun c v hc r => k c v ?_ r) (fun c r => by rw [upd_ne (nown c b r)]; exact r) fun c xs r => by rw [upd_ne (ntup c xs r)]; exact r
      rcases hc with rfl | hc
      · exact hbe
      · rintro rfl
        rcases he with z | z
        · exact nown c b hc z
        · rw [hc] at z; cases z; exact hb rfl
end

/-! ### kept unless tracked; of the frames at fs (the callers') the slots may change (an exception that passes writes there); of the records at ex (iterators) nothing is said -/
structure Un (fs ex : List Addr) (H H' : Hp) (h h' : Heap) : Prop where
  keep : ∀ b o, h.get? b = some o → H b = none → b ∉ fs → b ∉ ex → h'.get? b = some o
  slot : ∀ b o, h.get? b = some o → H b = none → b ∈ fs → b ∉ ex → ∃ sl, h'.get? b = some { o with slots := sl }
  free : ∀ b o, h.get? b = some o → H b = none → b ∉ ex → H' b = none
  there : ∀ b o, h.get? b = some o → b ∉ ex → ∃ o', h'.get? b = some o'
  tups : ∀ b xs, H b = some (.tup xs) → H' b = some (.tup xs)
  frzs : ∀ b o u, H b = some (.frz o u) → H' b = some (.frz o u)
  tbls : ∀ b ps, H b = some (.tbl ps) → ∃ more, H' b = some (.tbl (ps ++ more))
section
variable {fs fs' ex ex' : List Addr} {H H1 H2 : Hp} {h h1 h2 h' : Heap} {a x e : Addr} {o : HO}
theorem Un.any (u : Un fs ex H H1 h h1) {b : Addr} {ob : Obj} (q : h.get? b = some ob) (n : H b = none) (hx : b ∉ ex) : ∃ sl, h1.get? b = some { ob with slots := sl } := by
  by_cases hb : b ∈ fs
  · exact u.slot b ob q n hb hx
  · exact ⟨ob.slots, u.keep b ob q n hb hx⟩
theorem Un.trans (a : Un fs ex H H1 h h1) (b : Un fs ex H1 H2 h1 h2) : Un fs ex H H2 h h2 where
  keep := fun c ob q n hc hx => b.keep c ob (a.keep c ob q n hc hx) (a.free c ob q n hx) hc hx
  slot := fun c ob q n hc hx => by
    obtain ⟨sl, e1⟩ := a.slot c ob q n hc hx
    obtain ⟨sl', e2⟩ := b.slot c _ e1 (a.free c ob q n hx) hc hx
    exact ⟨sl', e2⟩
  free := fun c ob q n hx => by
    obtain ⟨o', e1⟩ := a.there c ob q hx
    exact b.free c o' e1 (a.free c ob q n hx) hx
  there := fun c ob q hx => by
    obtain ⟨o', e1⟩ := a.there c ob q hx
    exact b.there c o' e1 hx
  tups := fun c xs q => b.tups c xs (a.tups c xs q)
  frzs := fun c ob xs q => b.frzs c ob xs (a.frzs c ob xs q)
  tbls := fun c ps q => by
    obtain ⟨m1, e1⟩ := a.tbls c ps q
    obtain ⟨m2, e2⟩ := b.tbls c _ e1
    exact ⟨m1 ++ m2, by rw [e2, Array.append_assoc]⟩
theorem Un.kept (k : ∀ b u, h.get? b = some u → h'.get? b = some u) : Un fs ex H H h h' :=
  ⟨fun b ob q _ _ _ => k b ob q, fun b ob q _ _ _ => ⟨ob.slots, k b ob q⟩, fun _ _ _ n _ => n, fun b ob q _ => ⟨ob, k b ob q⟩, fun _ _ q => q, fun _ _ _ q => q, fun _ ps q => ⟨#[], by rw [q]; simp⟩⟩
theorem Un.refl : Un fs ex H H h h := Un.kept fun _ _ q => q
theorem Un.laid (k : ∀ b u, h.get? b = some u → h'.get? b = some u) (hp : h.objs.size ≤ a) (hn : H a = none) : Un fs ex H (upd H a o) h h' where
  keep := fun b u q _ _ _ => k b u q
  slot := fun b u q _ _ _ => ⟨u.slots, k b u q⟩
  free := fun b u q n _ => by rw [upd_ne (Nat.ne_of_lt (Nat.lt_of_lt_of_le (Heap.lt_size q) hp))]; exact n
  there := fun b u q _ => ⟨u, k b u q⟩
  tups := fun b xs q => by rw [upd_ne (ne_of_none q hn)]; exact q
  frzs := fun b u xs q => by rw [upd_ne (ne_of_none q hn)]; exact q
  tbls := fun b ps q => ⟨#[], by rw [upd_ne (ne_of_none q hn), q]; simp⟩
theorem Un.write (mu : Mut (H x)) (he : e = x ∨ H e = some (.own x)) (k : ∀ b u, b ≠ e → h.get? b = some u → h'.get? b = some u) (heo : ∃ u, h'.get? e = some u) : Un fs ex H (upd H x o) h h' := by
  have hx : ∀ b, H b = none → b ≠ x := fun b n z => by subst z; rw [n] at mu; exact mu
  have hb : ∀ b, H b = none → b ≠ e := fun b n z => by
    subst z
    rcases he with r | r
    · exact hx b n r
    · rw [n] at r; cases r
  have hm : ∀ b u, H b = some u → ¬ Mut (some u) → b ≠ x := fun b u q nm z => by subst z; rw [q] at mu; exact nm mu
  refine ⟨fun b u q n _ _ => k b u (hb b n) q, fun b u q n _ _ => ⟨u.slots, k b u (hb b n) q⟩, fun b u q n _ => by rw [upd_ne (hx b n)]; exact n, fun b u q _ => ?_,
    fun b xs q => by rw [upd_ne (hm b _ q fun z => z)]; exact q, fun b u xs q => by rw [upd_ne (hm b _ q fun z => z)]; exact q, fun b ps q => ⟨#[], by rw [upd_ne (hm b _ q fun z => z), q]; simp⟩⟩
  by_cases hbe : b = e
  · subst hbe; exact heo
  · exact ⟨u, k b u hbe q⟩
theorem Un.mono (u : Un fs ex H H1 h h1) (hs : ∀ b ∈ fs, b ∈ fs') (hx : ∀ b ∈ ex, b ∈ ex') : Un fs' ex' H H1 h h1 :=
  ⟨fun b ob q n hb he => u.keep b ob q n (fun z => hb (hs b z)) fun z => he (hx b z), fun _ _ q n _ he => u.any q n fun z => he (hx _ z), fun b ob q n he => u.free b ob q n fun z => he (hx b z), fun b ob q he => u.there b ob q fun z => he (hx b z), u.tups, u.frzs, u.tbls⟩
end

/-! ### the heap without what is tracked -/
def trk (h : Heap) (H : Hp) : List Addr := (List.range h.objs.size).filter fun a => (H a).isSome
def hidT (h : Heap) (H : Hp) : Heap := PySem.W.hideAll h (trk h H)
theorem hidT_size (h : Heap) (H : Hp) : (hidT h H).objs.size = h.objs.size := PySem.W.hideAll_size _ _
theorem hidT_get {h : Heap} {H : Hp} {b : Addr} {o : Obj} (e : h.get? b = some o) (n : H b = none) : (hidT h H).get? b = some o :=
  PySem.W.hideAll_get _ e fun hm => by
    have q : (H b).isSome = true := (List.mem_filter.mp hm).2
    rw [n] at q; simp at q
theorem of_hidT {h : Heap} {H : Hp} {b : Addr} {o : Obj} (e : (hidT h H).get? b = some o) : h.get? b = some o ∧ H b = none := by
  have e' : h.get? b = some o := PySem.W.of_hideAll (trk h H) e
  refine ⟨e', ?_⟩
  cases q : H b with
  | none => rfl
  | some x =>
    have hm : b ∈ trk h H := List.mem_filter.mpr ⟨List.mem_range.mpr (Heap.lt_size e'), by simp [q]⟩
    have z : (hidT h H).get? b = none := PySem.W.hideAll_none (trk h H) hm
    rw [z] at e; cases e

/-! ### OpenK's ledger, filled with every new object but one -/
def allNews (g h : Heap) (L : Addr) : List (Addr × Obj) := (List.range h.objs.size).filterMap fun a => if a = L ∨ (g.get? a).isSome = true then none else (h.get? a).map fun o => (a, o)
def rest (g h : Heap) (L d : Addr) : List (Addr × Obj) := (allNews g h L).filter fun p => decide (p.1 ≠ d)
end L2

namespace L2
open PySem PySem.Spec PyProof.Rows

/-- the module's facts, over the base: the heap at the law's entry without what is tracked there -/
structure Mod (K : PySem.W.Frag) (mg : Str → Option Value) (base : Heap) : Prop where
  kin : K.In base
  glob : base.Ns mainGlobals mg
  blt : ∃ mb, base.Ns builtinsNs mb ∧ ∀ x : Str, x ≠ "__name__" → mb x = bootBuiltins x
  nolimit : base.NoLimit

/-- the context: a def's body (or a comprehension's block) running. base: fixed through the whole law; s₀, H₀: the entry; outer: the frames whose slots others may change (a def's callers); stack: all frames that run;
   ex: iterators that were made ahead of the entry and are walked here (a comprehension's); fn: the names whose cells were made at the entry (a def: all; a comprehension's block: its own); calm: not within an except suite; pn: pins that every state bears; xe: what is wanted of an exception that leaves the code -/
structure Cx where
  prog : Program
  w : World
  K : PySem.W.Frag
  mg : Str → Option Value
  base : Heap
  A : Around
  N : List Str
  s₀ : Shared
  H₀ : Hp
  env : Env
  outer : List Env
  stack : List Env
  ex : List Addr
  fn : Str → Bool
  calm : Bool
  pn : List (Addr × Obj)
  xe : Value → Shared → Prop
/-- the callers' frames -/
def frs (l : List Env) : List Addr := l.filterMap (·.frame)
abbrev Cx.fs (X : Cx) : List Addr := frs X.outer

def Vis (sc : Scope) (x : Str) : Prop := sc.names.lookup x = some .local ∨ sc.names.lookup x = some .cell ∨ sc.names.lookup x = some .free
def Loc (sc : Scope) (x : Str) : Prop := sc.names.lookup x = some .local ∨ sc.names.lookup x = some .cell
def Look (env : Env) (h : Heap) (m : Str → Option Value) (x : Str) (u : Value) : Prop :=
  (env.kindOf x = some .local ∧ m x = some u) ∨ ((env.kindOf x = some .cell ∨ env.kindOf x = some .free) ∧ ∃ c, env.cells.lookup x = some c ∧ h.IsCell c (some u))

structure Cx.Ok (X : Cx) : Prop where
  mod : Mod X.K X.mg X.base
  kind : X.env.scope.kind = .function
  glob : X.env.globals = mainGlobals
  blt : X.env.builtins = builtinsNs
  above : X.s₀.heap.objs.size ≤ X.env.locals
  inj : ∀ x y c, X.env.cells.lookup x = some c → X.env.cells.lookup y = some c → x = y
  has : ∀ x, (X.env.kindOf x = some .cell ∨ X.env.kindOf x = some .free) → ∃ c, X.env.cells.lookup x = some c
  cab : ∀ x c, X.fn x = true → X.env.cells.lookup x = some c → X.s₀.heap.objs.size ≤ c
  hd : X.calm = true → X.A.handled = none
  frames : X.A.frames = some X.stack
  stk : X.stack = X.outer ∨ (X.stack = X.env :: X.outer ∧ X.env.frame = some X.env.locals)
  exf : ∀ b ∈ X.ex, b ≠ X.env.locals ∧ ∀ x c, X.env.cells.lookup x = some c → c ≠ b
  bs : ∀ b o, X.base.get? b = some o → X.s₀.heap.get? b = some o ∧ X.H₀ b = none
  bsz : X.base.objs.size ≤ X.s₀.heap.objs.size
  noex : ∀ b o, X.base.get? b = some o → b ∉ X.ex
  exfs : ∀ b ∈ X.ex, b ∉ X.fs
  funs : X.s₀.heap.FunFrames X.base X.outer
  frf : ∀ b ∈ X.fs, X.H₀ b = none

structure Inv (X : Cx) (pins : List (Addr × Obj)) (σ : List (Option V)) (H : Hp) (s : Shared) : Prop where
  ok : X.Ok
  os : s.os = X.s₀.os
  bare : AllBare s.gens
  base : Un X.fs X.ex X.H₀ H X.s₀.heap s.heap
  loc : ∃ m, s.heap.Ns X.env.locals m ∧ ∀ (i : Nat) (x : Str) (v : V), X.N[i]? = some x → σ[i]? = some (some v) → Vis X.env.scope x → ∃ u, RelV v u ∧ Look X.env s.heap m x u
  cell : ∀ x c, X.env.cells.lookup x = some c → ∃ v, s.heap.IsCell c v
  free : H X.env.locals = none
  freeC : ∀ x c, X.env.cells.lookup x = some c → H c = none
  pin : ∀ p ∈ X.pn ++ pins, s.heap.get? p.1 = some p.2 ∧ H p.1 = none ∧ p.1 ≠ X.env.locals ∧ p.1 ∉ X.fs ∧ ∀ v, p.2.data ≠ .cell v
  hok : HOk X.prog X.w H s.heap
  len : σ.length = X.N.length

section
variable {X : Cx} {pins : List (Addr × Obj)} {σ : List (Option V)} {H H' : Hp} {s : Shared} {h' : Heap}

theorem Cx.Ok.nofr (ok : X.Ok) {b : Addr} {o : Obj} (e : X.base.get? b = some o) : b ∉ X.fs := fun hb => by
  have := (ok.funs.mem hb).1
  rw [e] at this; cases this
theorem Inv.bs (I : Inv X pins σ H s) : ∀ b o, X.base.get? b = some o → s.heap.get? b = some o ∧ H b = none := fun b o e =>
  ⟨I.base.keep b o (I.ok.bs b o e).1 (I.ok.bs b o e).2 (I.ok.nofr e) (I.ok.noex b o e), I.base.free b o (I.ok.bs b o e).1 (I.ok.bs b o e).2 (I.ok.noex b o e)⟩
theorem Inv.bk (I : Inv X pins σ H s) : ∀ b o, X.base.get? b = some o → s.heap.get? b = some o := fun b o e => (I.bs b o e).1
theorem Inv.mod (I : Inv X pins σ H s) : Mod X.K X.mg X.base := I.ok.mod
theorem Inv.kIn (I : Inv X pins σ H s) : X.K.In s.heap := I.ok.mod.kin.keeps I.bk
theorem Inv.nolimit (I : Inv X pins σ H s) : s.heap.NoLimit := I.ok.mod.nolimit.keeps I.bk
/-- the frame over the base: for OpenK's rules (K.In X.base is I.mod.kin) -/
theorem Inv.fr (I : Inv X pins σ H s) : ∃ m, Fr X.base X.env.locals s.heap m :=
  let ⟨m, hn, _⟩ := I.loc
  ⟨m, hn, I.bk, Nat.le_trans I.ok.bsz I.ok.above⟩
theorem Inv.lt (I : Inv X pins σ H s) : X.env.locals < s.heap.objs.size := let ⟨_, hn, _⟩ := I.loc; hn.lt
theorem Inv.sz (I : Inv X pins σ H s) : X.s₀.heap.objs.size ≤ s.heap.objs.size := Nat.le_trans I.ok.above (Nat.le_of_lt I.lt)
theorem Inv.nofs (I : Inv X pins σ H s) {a : Addr} (h : s.heap.objs.size ≤ a) : a ∉ X.fs := fun hb => by
  obtain ⟨_, o, ho, _⟩ := I.ok.funs.mem hb
  exact absurd (Nat.lt_of_lt_of_le (Heap.lt_size ho) (Nat.le_trans I.sz h)) (Nat.lt_irrefl _)
theorem Inv.cne (I : Inv X pins σ H s) : ∀ x c, X.env.cells.lookup x = some c → c ≠ X.env.locals := fun x c e z => by
  obtain ⟨v, o, ho, hd⟩ := I.cell x c e
  obtain ⟨m, ⟨o', es, ep, ho', hd', _⟩, _⟩ := I.loc
  rw [z, ho'] at ho; cases ho; rw [hd'] at hd; cases hd
theorem Inv.funs (I : Inv X pins σ H s) : s.heap.FunFrames X.base X.outer := by
  have all : ∀ (l : List Env), (∀ b ∈ frs l, b ∈ X.fs) → X.s₀.heap.FunFrames X.base l → s.heap.FunFrames X.base l := by
    intro l
    induction l with
    | nil => intro _ _; trivial
    | cons env r ih =>
      intro hs hl
      obtain ⟨hk, ⟨L, o, hf, hn, ho, hd⟩, hr⟩ := hl
      have hL : L ∈ X.fs := hs L (by unfold frs; rw [List.filterMap_cons, hf]; exact List.mem_cons_self)
      obtain ⟨sl, e⟩ := I.base.slot L o ho (I.ok.frf L hL) hL fun z => I.ok.exfs L z hL
      exact ⟨hk, ⟨L, _, hf, hn, e, hd⟩, ih (fun b hb => hs b (by unfold frs; rw [List.filterMap_cons, hf]; exact List.mem_cons_of_mem _ hb)) hr⟩
  exact all X.outer (fun _ hb => hb) I.ok.funs

/-- the frames that run, for a call -/
theorem Inv.stack (I : Inv X pins σ H s) : s.heap.FunFrames X.base X.stack := by
  rcases I.ok.stk with e | ⟨e, hf⟩
  · rw [e]; exact I.funs
  · rw [e]
    obtain ⟨m, hn, _⟩ := I.loc
    refine .cons (by rw [I.ok.kind]; decide) hf hn ?_ I.funs
    exact Heap.get?_none_of_le (Nat.le_trans I.ok.bsz I.ok.above)
theorem Inv.stkSub (I : Inv X pins σ H s) : ∀ b ∈ frs X.stack, b ∈ X.env.locals :: X.fs := fun b hb => by
  rcases I.ok.stk with e | ⟨e, hf⟩
  · rw [e] at hb; exact List.mem_cons_of_mem _ hb
  · rw [e] at hb
    unfold frs at hb
    rw [List.filterMap_cons, hf] at hb
    exact hb
theorem Inv.stkFree (I : Inv X pins σ H s) : ∀ b ∈ frs X.stack, H b = none := fun b hb => by
  rcases List.mem_cons.mp (I.stkSub b hb) with e | hb
  · rw [e]; exact I.free
  · obtain ⟨_, o, ho, _⟩ := I.ok.funs.mem hb
    exact I.base.free b o ho (I.ok.frf b hb) fun z => I.ok.exfs b z hb

/-- THE STEP: the untracked objects but the frame and the records at ch are kept (the callers' frames up to slots), the frame's map is kept, the new abstract heap is held -/
theorem Inv.step {g' : Array GenState} {t' : Nat} {d' : Drawn} {ch : List Addr} (I : Inv X pins σ H s)
    (hch : ∀ b ∈ ch, (b ∈ X.ex ∨ X.s₀.heap.objs.size ≤ b) ∧ b ≠ X.env.locals ∧ (∀ x c, X.env.cells.lookup x = some c → c ≠ b) ∧ ∀ p ∈ X.pn ++ pins, p.1 ≠ b)
    (keep : ∀ b o, b ≠ X.env.locals → b ∉ X.fs → b ∉ ch → s.heap.get? b = some o → H b = none → h'.get? b = some o)
    (slot : ∀ b o, b ≠ X.env.locals → b ∈ X.fs → b ∉ ch → s.heap.get? b = some o → H b = none → ∃ sl, h'.get? b = some { o with slots := sl }) (free : ∀ b o, b ∉ ch → s.heap.get? b = some o → H b = none → H' b = none)
    (there : ∀ b o, b ∉ ch → s.heap.get? b = some o → ∃ o', h'.get? b = some o')
    (tups : ∀ b xs, H b = some (.tup xs) → H' b = some (.tup xs)) (frzs : ∀ b o u, H b = some (.frz o u) → H' b = some (.frz o u)) (tbls : ∀ b ps, H b = some (.tbl ps) → ∃ more, H' b = some (.tbl (ps ++ more)))
    (ns : ∀ m, s.heap.Ns X.env.locals m → h'.Ns X.env.locals m) (hok : HOk X.prog X.w H' h') (hg : AllBare g') :
    Inv X pins σ H' { s with heap := h', gens := g', drawn := d', toks := t' } := by
  have neL : ∀ b o, X.s₀.heap.get? b = some o → b ≠ X.env.locals := fun b o e => Nat.ne_of_lt (Nat.lt_of_lt_of_le (Heap.lt_size e) I.ok.above)
  have neC : ∀ b o, X.s₀.heap.get? b = some o → b ∉ X.ex → b ∉ ch := fun b o e hx hb => by
    rcases (hch b hb).1 with z | z
    · exact hx z
    · exact absurd (Nat.lt_of_lt_of_le (Heap.lt_size e) z) (Nat.lt_irrefl _)
  have cellK : ∀ x c, X.env.cells.lookup x = some c → ∀ v, s.heap.IsCell c v → h'.IsCell c v := fun x c e v ⟨o, ho, hd⟩ => by
    have nch : c ∉ ch := fun z => (hch c z).2.2.1 x c e rfl
    by_cases hc : c ∈ X.fs
    · obtain ⟨sl, q⟩ := slot c o (I.cne x c e) hc nch ho (I.freeC x c e)
      exact ⟨_, q, hd⟩
    · exact ⟨o, keep c o (I.cne x c e) hc nch ho (I.freeC x c e), hd⟩
  refine ⟨I.ok, I.os, hg, ⟨fun b o e n hb hx => ?_, fun b o e n hb hx => ?_, fun b o e n hx => ?_, fun b o e hx => ?_, fun b xs e => tups b xs (I.base.tups b xs e), fun b o xs e => frzs b o xs (I.base.frzs b o xs e), fun b ps e => ?_⟩, ?_, fun x c e => ?_, ?_, fun x c e => ?_, fun p hp => ?_, hok, I.len⟩
  · exact keep b o (neL b o e) hb (neC b o e hx) (I.base.keep b o e n hb hx) (I.base.free b o e n hx)
  · obtain ⟨sl, e1⟩ := I.base.slot b o e n hb hx
    obtain ⟨sl', e2⟩ := slot b _ (neL b o e) hb (neC b o e hx) e1 (I.base.free b o e n hx)
    exact ⟨sl', e2⟩
  · obtain ⟨o', e1⟩ := I.base.there b o e hx
    exact free b o' (neC b o e hx) e1 (I.base.free b o e n hx)
  · obtain ⟨o', e1⟩ := I.base.there b o e hx
    exact there b o' (neC b o e hx) e1
  · obtain ⟨m1, e1⟩ := I.base.tbls b ps e
    obtain ⟨m2, e2⟩ := tbls b _ e1
    exact ⟨m1 ++ m2, by rw [e2, Array.append_assoc]⟩
  · obtain ⟨m, hn, hl⟩ := I.loc
    refine ⟨m, ns m hn, fun i x v e1 e2 e3 => ?_⟩
    obtain ⟨u, r, l⟩ := hl i x v e1 e2 e3
    refine ⟨u, r, ?_⟩
    rcases l with l | ⟨k, c, e, z⟩
    · exact .inl l
    · exact .inr ⟨k, c, e, cellK x c e _ z⟩
  · obtain ⟨v, z⟩ := I.cell x c e
    exact ⟨v, cellK x c e v z⟩
  · obtain ⟨m, ⟨o, _, _, ho, _⟩, _⟩ := I.loc
    exact free _ o (fun z => (hch _ z).2.1 rfl) ho I.free
  · obtain ⟨v, o, ho, hd⟩ := I.cell x c e
    exact free c o (fun z => (hch c z).2.2.1 x c e rfl) ho (I.freeC x c e)
  · obtain ⟨e, n, ne, nf, d⟩ := I.pin p hp
    have nch : p.1 ∉ ch := fun z => (hch p.1 z).2.2.2 p hp rfl
    exact ⟨keep p.1 p.2 ne nf nch e n, free p.1 p.2 nch e n, ne, nf, d⟩
/-- .. where the frame's own object is kept too -/
theorem Inv.un {t' : Nat} (I : Inv X pins σ H s) (u : Un X.fs [] H H' s.heap h') (hok : HOk X.prog X.w H' h') : Inv X pins σ H' { s with heap := h', toks := t' } := by
  obtain ⟨m, ⟨o, es, ep, ho, r⟩, _⟩ := id I.loc
  obtain ⟨sl, hL⟩ := u.any ho I.free (by simp)
  exact I.step (g' := s.gens) (d' := s.drawn) (ch := []) (fun _ z => nomatch z) (fun b o _ hb _ e n => u.keep b o e n hb (by simp)) (fun b o _ hb _ e n => u.slot b o e n hb (by simp)) (fun b o _ e n => u.free b o e n (by simp)) (fun b o _ e => u.there b o e (by simp)) u.tups u.frzs u.tbls (fun m' hm => by
    obtain ⟨o', es', ep', ho', r'⟩ := hm
    rw [ho] at ho'; cases ho'
    exact ⟨_, es', ep', hL, r'⟩) hok I.bare
/-- behind a call (or a comprehension's block): the slots of this frame may have changed too, the records at ch may have turned -/
theorem Inv.call {g' : Array GenState} {t' : Nat} {d' : Drawn} {ch : List Addr} (I : Inv X pins σ H s) (u : Un (frs X.stack) ch H H' s.heap h') (hok : HOk X.prog X.w H' h') (hg : AllBare g')
    (hch : ∀ b ∈ ch, (b ∈ X.ex ∨ X.s₀.heap.objs.size ≤ b) ∧ b ≠ X.env.locals ∧ (∀ x c, X.env.cells.lookup x = some c → c ≠ b) ∧ ∀ p ∈ X.pn ++ pins, p.1 ≠ b) :
    Inv X pins σ H' { s with heap := h', gens := g', drawn := d', toks := t' } := by
  obtain ⟨m, ⟨o, es, ep, ho, r⟩, _⟩ := id I.loc
  obtain ⟨sl, hL⟩ := u.any ho I.free fun z => (hch _ z).2.1 rfl
  exact I.step (ch := ch) hch (fun b o hL hb hc e n => u.keep b o e n (fun z => (List.mem_cons.mp (I.stkSub b z)).elim hL hb) hc) (fun b o _ _ hc e n => u.any e n hc) (fun b o hc e n => u.free b o e n hc) (fun b o hc e => u.there b o e hc) u.tups u.frzs u.tbls (fun m' hm => by
    obtain ⟨o', es', ep', ho', r'⟩ := hm
    rw [ho] at ho'; cases ho'
    exact ⟨_, es', ep', hL, r'⟩) hok hg
/-- an untracked record of ours (an iterator) has turned -/
theorem Inv.turned {t' : Nat} {it : Addr} (I : Inv X pins σ H s) (k : ∀ b o, b ≠ it → s.heap.get? b = some o → h'.get? b = some o) (hn : H it = none) (hL : it ≠ X.env.locals)
    (h1 : it ∈ X.ex ∨ X.s₀.heap.objs.size ≤ it) (h2 : ∀ x c, X.env.cells.lookup x = some c → c ≠ it) (h3 : ∀ p ∈ X.pn ++ pins, p.1 ≠ it) : Inv X pins σ H { s with heap := h', toks := t' } := by
  have nit : ∀ b u, H b = some u → b ≠ it := fun b u e z => by rw [z, hn] at e; cases e
  refine I.step (g' := s.gens) (d' := s.drawn) (ch := [it]) (fun b hb => ?_) (fun b o _ _ hc e _ => k b o (fun z => hc (by simp [z])) e) (fun b o _ _ hc e _ => ⟨o.slots, k b o (fun z => hc (by simp [z])) e⟩) (fun _ _ _ _ n => n)
    (fun b o hc e => ⟨o, k b o (fun z => hc (by simp [z])) e⟩) (fun _ _ e => e) (fun _ _ _ e => e) (fun b ps e => ⟨#[], by rw [e]; simp⟩) (fun m hm => ?_) (fun b u e => ?_) I.bare
  · have e : b = it := by simpa using hb
    subst e
    exact ⟨h1, hL, h2, h3⟩
  · obtain ⟨o, es, ep, ho, r⟩ := hm
    exact ⟨o, es, ep, k _ o (Ne.symm hL) ho, r⟩
  · refine (I.hok b u e).stay (fun c v hc q => k c v ?_ q) (fun _ q => q) fun _ _ q => q
    rcases hc with z | z
    · rw [z]; exact nit b u e
    · exact nit c _ z
theorem Inv.tok (I : Inv X pins σ H s) (t : Nat) : Inv X pins σ H { s with toks := t } := I.un (h' := s.heap) (t' := t) Un.refl I.hok
/-- all objects kept -/
theorem Inv.kept {t' : Nat} (I : Inv X pins σ H s) (k : ∀ b u, s.heap.get? b = some u → h'.get? b = some u) : Inv X pins σ H { s with heap := h', toks := t' } := I.un (Un.kept k) (I.hok.kept k)
/-- a new object laid and tracked -/
theorem Inv.laid {a : Addr} {o : HO} {t' : Nat} (I : Inv X pins σ H s) (k : ∀ b u, s.heap.get? b = some u → h'.get? b = some u) (hp : s.heap.objs.size ≤ a) (new : ObjOk X.prog X.w (upd H a o) h' a o) :
    Inv X pins σ (upd H a o) { s with heap := h', toks := t' } := I.un (Un.laid k hp (I.hok.fresh hp)) (I.hok.laid k hp new)
/-- an object written -/
theorem Inv.write {x e : Addr} {o : HO} {t' : Nat} (I : Inv X pins σ H s) (mu : Mut (H x)) (he : e = x ∨ H e = some (.own x)) (k : ∀ b u, b ≠ e → s.heap.get? b = some u → h'.get? b = some u) (heo : ∃ u, h'.get? e = some u)
    (new : ObjOk X.prog X.w (upd H x o) h' x o) : Inv X pins σ (upd H x o) { s with heap := h', toks := t' } := I.un (Un.write mu he k heo) (I.hok.write mu he k heo new)
theorem Inv.pins_of {pins' : List (Addr × Obj)} (I : Inv X pins σ H s) (h : ∀ p ∈ pins', s.heap.get? p.1 = some p.2 ∧ H p.1 = none ∧ p.1 ≠ X.env.locals ∧ p.1 ∉ X.fs ∧ ∀ v, p.2.data ≠ .cell v) : Inv X pins' σ H s :=
  ⟨I.ok, I.os, I.bare, I.base, I.loc, I.cell, I.free, I.freeC, fun p hp => (List.mem_append.mp hp).elim (fun z => I.pin p (List.mem_append_left _ z)) (h p), I.hok, I.len⟩

theorem nodup_ix {N : List Str} (hN : N.Nodup) {i j : Nat} {x : Str} (a : N[i]? = some x) (b : N[j]? = some x) : i = j := by
  obtain ⟨h1, e1⟩ := List.getElem?_eq_some_iff.mp a
  obtain ⟨h2, e2⟩ := List.getElem?_eq_some_iff.mp b
  exact (List.getElem_inj hN).mp (e1.trans e2.symm)

/-- a name is stored; what changed -/
theorem store_ok2 {M : Model} {A : Around} {E : Value → Shared → Prop} {i : Nat} {x : Str} {v : V} {u : Value} {Q : Unit → Shared → Prop} (I : Inv X pins σ H s) (hN : X.N.Nodup) (hi : X.N[i]? = some x) (hx : Loc X.env.scope x) (r : RelV v u)
    (h : ∀ s', Inv X pins (σ.set i (some v)) H s' → (∃ a, Heap.SameBut a s.heap s'.heap ∧ (a = X.env.locals ∨ X.env.cells.lookup x = some a)) → Q () s') (hf : X.fn x = true ∨ X.env.scope.names.lookup x = some .local := by first | exact .inl rfl | exact .inr rfl | assumption) : wpAny M A (storeName X.env x u) Q E s := by
  obtain ⟨m, hn, hl⟩ := id I.loc
  have hcls : (X.env.scope.kind == .class || (X.env.scope.kind == .module && X.env.locals != X.env.globals)) = false := by rw [I.ok.kind]; rfl
  have hiσ : i < σ.length := by rw [I.len]; exact (List.getElem?_eq_some_iff.mp hi).1
  have cne := I.cne
  have tracked : ∀ {a : Addr} {h' : Heap}, (∃ o, s.heap.get? a = some o ∧ H a = none) → Heap.SameBut a s.heap h' → HOk X.prog X.w H h' := fun {a h'} ha hs b ob e => by
    obtain ⟨_, _, hfree⟩ := ha
    refine (I.hok b ob e).stay (fun c w' hc q => (hs.2 c ?_).trans q) (fun _ q => q) fun _ _ q => q
    rintro rfl
    rcases hc with rfl | hc
    · rw [hfree] at e; cases e
    · rw [hfree] at hc; cases hc
  rcases hx with hk | hk
  · refine wpAny_storeName_local hk hn (fun h' hn' hs => ?_) hcls
    obtain ⟨oL, _, _, hoL, _⟩ := id hn
    refine h _ ⟨I.ok, I.os, I.bare, ⟨fun b o e n hb hx => ?_, fun b o e n hb hx => ?_, I.base.free, fun b o e hx => ?_, I.base.tups, I.base.frzs, I.base.tbls⟩, ⟨_, hn', fun j y v' e1 e2 e3 => ?_⟩, fun y c e => ?_, I.free, I.freeC, fun p hp => ?_, tracked ⟨oL, hoL, I.free⟩ hs, by simpa using I.len⟩ ⟨_, hs, .inl rfl⟩
    · exact (hs.2 b (Nat.ne_of_lt (Nat.lt_of_lt_of_le (Heap.lt_size e) I.ok.above))).trans (I.base.keep b o e n hb hx)
    · obtain ⟨sl, e1⟩ := I.base.slot b o e n hb hx
      exact ⟨sl, (hs.2 b (Nat.ne_of_lt (Nat.lt_of_lt_of_le (Heap.lt_size e) I.ok.above))).trans e1⟩
    · obtain ⟨o', e1⟩ := I.base.there b o e hx
      exact ⟨o', (hs.2 b (Nat.ne_of_lt (Nat.lt_of_lt_of_le (Heap.lt_size e) I.ok.above))).trans e1⟩
    · by_cases hj : j = i
      · subst hj
        rw [hi] at e1; cases e1
        rw [List.getElem?_set_self hiσ] at e2
        cases e2
        exact ⟨u, r, .inl ⟨hk, by simp⟩⟩
      · rw [List.getElem?_set_ne (Ne.symm hj)] at e2
        obtain ⟨u', r', q⟩ := hl j y v' e1 e2 e3
        refine ⟨u', r', ?_⟩
        rcases q with ⟨k, e⟩ | ⟨k, c, e, z⟩
        · refine .inl ⟨k, ?_⟩
          have : y ≠ x := fun e => hj (nodup_ix hN e1 (e ▸ hi))
          simp [this, e]
        · exact .inr ⟨k, c, e, z.sameBut hs (cne y c e)⟩
    · obtain ⟨w', z⟩ := I.cell y c e
      exact ⟨w', z.sameBut hs (cne y c e)⟩
    · obtain ⟨e, n, ne, nf, d⟩ := I.pin p hp
      exact ⟨(hs.2 p.1 ne).trans e, n, ne, nf, d⟩
  · have hfn : X.fn x = true := by
      rcases hf with z | z
      · exact z
      · rw [z] at hk; cases hk
    obtain ⟨c, hc⟩ := I.ok.has x (.inl hk)
    obtain ⟨w', z⟩ := I.cell x c hc
    refine wpAny_storeName_cell I.ok.kind hk hc z (fun h' hc' hs => ?_)
    obtain ⟨oc, hoc, hocd⟩ := id z
    refine h { s with heap := h' } ⟨I.ok, I.os, I.bare, ⟨fun b o e n hb hx => ?_, fun b o e n hb hx => ?_, I.base.free, fun b o e hx => ?_, I.base.tups, I.base.frzs, I.base.tbls⟩, ⟨m, hn.sameBut hs (Ne.symm (cne x c hc)), fun j y v' e1 e2 e3 => ?_⟩, fun y c' e => ?_, I.free, I.freeC, fun p hp => ?_, tracked ⟨oc, hoc, I.freeC x c hc⟩ hs, by simpa using I.len⟩ ⟨c, hs, .inr hc⟩
    · exact (hs.2 b (Nat.ne_of_lt (Nat.lt_of_lt_of_le (Heap.lt_size e) (I.ok.cab x c hfn hc)))).trans (I.base.keep b o e n hb hx)
    · obtain ⟨sl, e1⟩ := I.base.slot b o e n hb hx
      exact ⟨sl, (hs.2 b (Nat.ne_of_lt (Nat.lt_of_lt_of_le (Heap.lt_size e) (I.ok.cab x c hfn hc)))).trans e1⟩
    · obtain ⟨o', e1⟩ := I.base.there b o e hx
      exact ⟨o', (hs.2 b (Nat.ne_of_lt (Nat.lt_of_lt_of_le (Heap.lt_size e) (I.ok.cab x c hfn hc)))).trans e1⟩
    · by_cases hj : j = i
      · subst hj
        rw [hi] at e1; cases e1
        rw [List.getElem?_set_self hiσ] at e2
        cases e2
        exact ⟨u, r, .inr ⟨.inl hk, c, hc, hc'⟩⟩
      · rw [List.getElem?_set_ne (Ne.symm hj)] at e2
        obtain ⟨u', r', q⟩ := hl j y v' e1 e2 e3
        refine ⟨u', r', ?_⟩
        rcases q with q | ⟨k, c', e, z'⟩
        · exact .inl q
        · refine .inr ⟨k, c', e, z'.sameBut hs ?_⟩
          rintro rfl
          exact hj (nodup_ix hN e1 (I.ok.inj _ _ _ e hc ▸ hi))
    · by_cases hcc : c' = c
      · subst hcc; exact ⟨_, hc'⟩
      · obtain ⟨w2, z2⟩ := I.cell y c' e
        exact ⟨w2, z2.sameBut hs hcc⟩
    · obtain ⟨e, n, ne, nf, d⟩ := I.pin p hp
      refine ⟨(hs.2 p.1 ?_).trans e, n, ne, nf, d⟩
      intro q
      rw [q, hoc] at e
      have q' : oc = p.2 := Option.some.inj e
      exact d w' (by rw [← q']; exact hocd)
theorem store_ok {M : Model} {A : Around} {E : Value → Shared → Prop} {i : Nat} {x : Str} {v : V} {u : Value} {Q : Unit → Shared → Prop} (I : Inv X pins σ H s) (hN : X.N.Nodup) (hi : X.N[i]? = some x) (hx : Loc X.env.scope x) (r : RelV v u)
    (h : ∀ s', Inv X pins (σ.set i (some v)) H s' → Q () s') (hf : X.fn x = true ∨ X.env.scope.names.lookup x = some .local := by first | exact .inl rfl | exact .inr rfl | assumption) : wpAny M A (storeName X.env x u) Q E s :=
  store_ok2 I hN hi hx r (fun s' I' _ => h s' I') hf
/-- behind a call or a block, the state as it is -/
theorem Inv.call' {s' : Shared} {ch : List Addr} (I : Inv X pins σ H s) (ho : s'.os = s.os) (u : Un (frs X.stack) ch H H' s.heap s'.heap) (hok : HOk X.prog X.w H' s'.heap) (hg : AllBare s'.gens)
    (hch : ∀ b ∈ ch, (b ∈ X.ex ∨ X.s₀.heap.objs.size ≤ b) ∧ b ≠ X.env.locals ∧ (∀ x c, X.env.cells.lookup x = some c → c ≠ b) ∧ ∀ p ∈ X.pn ++ pins, p.1 ≠ b) : Inv X pins σ H' s' := by
  obtain ⟨h', g', d', t', o'⟩ := s'
  have e : o' = s.os := ho
  subst e
  exact I.call (g' := g') (t' := t') (d' := d') u hok hg hch
end

/-! ### the judgements -/
/-- an exception: its class, its own dict's address (where it has one), the abstract heap behind it -/
abbrev XK := Value → Option Addr → Hp → Prop
abbrev St := List (Option V)
abbrev VK := V → Hp → Prop
/-- an expression's reading; a test's; an argument list's -/
abbrev TE := St → Hp → VK → Prop
abbrev TT := St → Hp → (Bool → Hp → Prop) → Prop
abbrev TA := St → Hp → (List V → Hp → Prop) → Prop
/-- what is wanted behind a statement -/
structure Ends where
  nx : St → Hp → Prop
  rt : VK
  bk : St → Hp → Prop := fun _ _ => False
  ct : St → Hp → Prop := fun _ _ => False
abbrev TS := Ends → St → Hp → Prop

def EP (X : Cx) (pins : List (Addr × Obj)) (σ : St) (Q : VK) (u : Value) (s' : Shared) : Prop := ∃ v H', Inv X pins σ H' s' ∧ RelV v u ∧ Q v H'
def TP (X : Cx) (pins : List (Addr × Obj)) (σ : St) (Q : Bool → Hp → Prop) (b : Bool) (s' : Shared) : Prop := ∃ H', Inv X pins σ H' s' ∧ Q b H'
def AP (X : Cx) (pins : List (Addr × Obj)) (σ : St) (Q : List V → Hp → Prop) (us : List Value) (s' : Shared) : Prop := ∃ vs H', Inv X pins σ H' s' ∧ Vals vs us ∧ Q vs H'
def SP (X : Cx) (pins : List (Addr × Obj)) (D : Ends) (f : Flow) (s' : Shared) : Prop :=
  match f with
  | .next => ∃ σ' H', Inv X pins σ' H' s' ∧ D.nx σ' H'
  | .brk => ∃ σ' H', Inv X pins σ' H' s' ∧ D.bk σ' H'
  | .cont => ∃ σ' H', Inv X pins σ' H' s' ∧ D.ct σ' H'
  | .ret u => ∃ v σ' H', Inv X pins σ' H' s' ∧ RelV v u ∧ D.rt v H'

def PE (X : Cx) (e : Expr) (t : TE) : Prop :=
  ∀ (pins : List (Addr × Obj)) (s : Shared) (σ : St) (H : Hp) (Q : VK), Inv X pins σ H s → t σ H Q → wpAny (model X.prog X.w) X.A (eval e X.env) (EP X pins σ Q) X.xe s
def PT (X : Cx) (e : Expr) (t : TT) : Prop :=
  ∀ (pins : List (Addr × Obj)) (s : Shared) (σ : St) (H : Hp) (Q : Bool → Hp → Prop), Inv X pins σ H s → t σ H Q → wpAny (model X.prog X.w) X.A (isTrue e X.env (eval e X.env)) (TP X pins σ Q) X.xe s
/-- a test whatever its 'whole' is (and, or) -/
def PW (X : Cx) (e : Expr) (t : TT) : Prop :=
  ∀ (whole : Sem Value) (pins : List (Addr × Obj)) (s : Shared) (σ : St) (H : Hp) (Q : Bool → Hp → Prop), Inv X pins σ H s → t σ H Q → wpAny (model X.prog X.w) X.A (isTrue e X.env whole) (TP X pins σ Q) X.xe s
theorem PW.pt {X : Cx} {e : Expr} {t : TT} (h : PW X e t) : PT X e t := h _
/-- an argument list (no star), from the left -/
def PA (X : Cx) (es : List Expr) (t : TA) : Prop :=
  ∀ (pos : Pos) (pins : List (Addr × Obj)) (s : Shared) (σ : St) (H : Hp) (Q : List V → Hp → Prop), Inv X pins σ H s → t σ H Q → wpAny (model X.prog X.w) X.A (spliced (backTo pos (starEach es X.env))) (AP X pins σ Q) X.xe s
def PS (X : Cx) (st : Stmt) (t : TS) : Prop :=
  ∀ (pins : List (Addr × Obj)) (s : Shared) (σ : St) (H : Hp) (D : Ends), Inv X pins σ H s → t D σ H → wpAny (model X.prog X.w) X.A (exec st X.env) (SP X pins D) X.xe s
def PSs (X : Cx) (st : List Stmt) (t : TS) : Prop :=
  ∀ (pins : List (Addr × Obj)) (s : Shared) (σ : St) (H : Hp) (D : Ends), Inv X pins σ H s → t D σ H → wpAny (model X.prog X.w) X.A (execs st X.env) (SP X pins D) X.xe s
/-- weaken the end -/
theorem thn {α : Type} {t : Sem α} {Q Q' : α → Shared → Prop} {M : Model} {A : Around} {E : Value → Shared → Prop} {s : Shared} (h : wpAny M A t Q E s) (hQ : ∀ a s, Q a s → Q' a s) : wpAny M A t Q' E s := wpAny_mono h hQ fun _ _ x => x
end L2

namespace L2
open PySem PySem.Spec PyProof.Rows
section
variable {X : Cx}

/-! ### names and constants -/
def tVar (i : Nat) : TE := fun σ H Q => ∃ v, σ[i]? = some (some v) ∧ Q v H
def tC (v : V) : TE := fun _ H Q => Q v H
theorem pe_var {i : Nat} {x : Str} {pos : Pos} (hN : X.N[i]? = some x) (hv : Vis X.env.scope x) (hd : (x == ("__debug__" : Str)) = false := by decide) (hcd : (x == ("__classdict__" : Str)) = false := by decide) : PE X (.Name x pos) (tVar i) := by
  intro pins s σ H Q I h
  obtain ⟨v, e, h⟩ := h
  obtain ⟨m, hn, hl⟩ := I.loc
  obtain ⟨u, r, l⟩ := hl i x v hN e hv
  have fin : EP X pins σ Q u s := ⟨v, H, I, r, h⟩
  rcases l with ⟨hk, hm⟩ | ⟨hk, c, hc, hcell⟩
  · exact wpAny_Name (wpAny_loadName_local I.ok.kind hk hn hm fin) hd
  · rcases hk with hk | hk
    · exact wpAny_Name (wpAny_loadName_cell I.ok.kind hk hc hcell fin) hd
    · exact wpAny_Name (wpAny_loadName_free I.ok.kind hk hc hcell fin hcd) hd
theorem pe_int {i j pos} : PE X (.Constant (.int i) j pos) (tC (.int i)) := fun _ _ _ H _ I h => wpAny_Constant_int ⟨.int i, H, I.tok _, ⟨_, rfl⟩, h⟩
theorem pe_bl {b j pos} : PE X (.Constant (.bool b) j pos) (tC (.bl b)) := fun _ _ _ H _ I h => Constant_bool ⟨.bl b, H, I, rfl, h⟩
theorem pe_non {j pos} : PE X (.Constant .none j pos) (tC .non) := fun _ _ _ H _ I h => Constant_none ⟨.non, H, I, rfl, h⟩
theorem pe_str {x j pos} : PE X (.Constant (.str x) j pos) (tC (.str x)) := fun _ _ _ H _ I h => Calls.Constant_str ⟨.str x, H, I.tok _, ⟨_, rfl⟩, h⟩

/-- a global name of the def -/
def Gl (X : Cx) (x : Str) : Prop := X.env.kindOf x = some .globalImplicit
theorem ld_glob {E : Value → Shared → Prop} {pins : List (Addr × Obj)} {s : Shared} {σ : St} {H : Hp} {x : Str} {u : Value} {pos : Pos} {Q : Value → Shared → Prop} (I : Inv X pins σ H s) (hg : Gl X x) (hm : X.mg x = some u) (h : Q u s)
    (hd : (x == ("__debug__" : Str)) = false := by decide) : wpAny (model X.prog X.w) X.A (eval (.Name x pos) X.env) Q E s :=
  Calls.Name_function_global I.ok.kind hg (Calls.loadGlobal_global (by rw [I.ok.glob]; exact I.mod.glob.keeps I.bk) hm h) hd
theorem ld_blt {E : Value → Shared → Prop} {pins : List (Addr × Obj)} {s : Shared} {σ : St} {H : Hp} {x : Str} {u : Value} {pos : Pos} {Q : Value → Shared → Prop} (I : Inv X pins σ H s) (hg : Gl X x) (hm : X.mg x = none) (hv : bootBuiltins x = some u) (h : Q u s)
    (hn : x ≠ "__name__" := by decide) (hd : (x == ("__debug__" : Str)) = false := by decide) : wpAny (model X.prog X.w) X.A (eval (.Name x pos) X.env) Q E s := by
  obtain ⟨mb, h1, h2⟩ := I.mod.blt
  exact Calls.Name_function_global I.ok.kind hg (Calls.loadGlobal_builtin (by rw [I.ok.glob]; exact I.mod.glob.keeps I.bk) hm (by rw [I.ok.blt]; exact h1.keeps I.bk) ((h2 x hn).trans hv) h) hd
/-- a module's constant, a class, a function, as a value -/
theorem pe_glob {x : Str} {v : V} {u : Value} {pos : Pos} (hg : Gl X x) (hm : X.mg x = some u) (r : RelV v u) (hd : (x == ("__debug__" : Str)) = false := by decide) : PE X (.Name x pos) (tC v) :=
  fun _ _ _ H _ I h => ld_glob I hg hm ⟨v, H, I, r, h⟩ hd
/-! ### arithmetic -/
/-- two ints -/
def t2I (ta tb : TE) (k : Int → Int → Hp → Prop) : St → Hp → Prop := fun σ H => ta σ H fun x H1 => tb σ H1 fun y H2 => ∃ i j, x = .int i ∧ y = .int j ∧ k i j H2
def tAdd (ta tb : TE) : TE := fun σ H Q => t2I ta tb (fun i j H2 => Q (.int (i + j)) H2) σ H
def tSub (ta tb : TE) : TE := fun σ H Q => t2I ta tb (fun i j H2 => Q (.int (i - j)) H2) σ H
/-- the left factor below 2^64 -/
def tMul (ta tb : TE) : TE := fun σ H Q => t2I ta tb (fun i j H2 => (-(2 ^ 64) < i ∧ i < 2 ^ 64) ∧ Q (.int (i * j)) H2) σ H
variable {a b : Expr} {ta tb : TE} {pos : Pos}
/-! ### comparisons -/
def PC (X : Cx) (op : CmpOp) (a b : Expr) (t : TE) : Prop :=
  ∀ (pins : List (Addr × Obj)) (s : Shared) (σ : St) (H : Hp) (Q : VK), Inv X pins σ H s → t σ H Q →
    wpAny (model X.prog X.w) X.A (eval a X.env) (fun v s₁ => wpAny (model X.prog X.w) X.A (eval b X.env) (fun u s₂ => wpAny (model X.prog X.w) X.A (compareOp op v u) (EP X pins σ Q) X.xe s₂) X.xe s₁) X.xe s
def tCmp (p : Int → Int → Bool) (ta tb : TE) : TE := fun σ H Q => t2I ta tb (fun i j H2 => Q (.bl (p i j)) H2) σ H
abbrev tLt : TE → TE → TE := tCmp fun i j => decide (i < j)
abbrev tLe : TE → TE → TE := tCmp fun i j => decide (i ≤ j)
abbrev tGt : TE → TE → TE := tCmp fun i j => decide (j < i)
abbrev tGe : TE → TE → TE := tCmp fun i j => decide (j ≤ i)
abbrev tEqI : TE → TE → TE := tCmp fun i j => decide (i = j)
abbrev tNeI : TE → TE → TE := tCmp fun i j => !decide (i = j)
/-- is None -/
def tIsN (ta : TE) : TE := fun σ H Q => ta σ H fun x H1 => Q (.bl (decide (x = .non))) H1
def tNotN (ta : TE) : TE := fun σ H Q => ta σ H fun x H1 => Q (.bl (!decide (x = .non))) H1
/-- a comparison as a value, as a test -/
def tB (t : TE) : TT := fun σ H Q => t σ H fun x H1 => ∃ c, x = .bl c ∧ Q c H1
/-- an expression whose value is a bool, as a test -/
theorem pt_val {e : Expr} {t : TE} (h : PE X e t) (he : ∀ whole, isTrue e X.env whole = (do let v ← whole; standAt e.pos; holding [v] (truthy v)) := by intro _; rfl) : PT X e (tB t) := by
  intro pins s σ H Q I hw
  refine isTrue_plain (thn (h pins s σ H _ I hw) fun v s1 ⟨x, H1, I1, r1, q1⟩ => ?_) (he _)
  obtain ⟨d, rfl, q⟩ := q1
  cases r1
  exact wpAny_truthy_bool ⟨H1, I1, q⟩

/-! ### and, or, not -/
variable {tA tB' : TT} {rest : List Expr}
def tAnd (t u : TT) : TT := fun σ H Q => t σ H fun c H1 => if c = true then u σ H1 Q else Q false H1
def tOr (t u : TT) : TT := fun σ H Q => t σ H fun c H1 => if c = true then Q true H1 else u σ H1 Q
def tNot (t : TT) : TT := fun σ H Q => t σ H fun c H1 => Q (!c) H1
theorem pw_and1 (ha : PT X a tA) : PW X (.BoolOp .And [a] pos) tA := by
  intro wh pins s σ H Q I h
  refine isTrue_and (thn (ha pins s σ H Q I h) fun c s1 e => ?_)
  cases c with
  | true => exact isTrue_and_nil e
  | false => exact e
theorem pw_or1 (ha : PT X a tA) : PW X (.BoolOp .Or [a] pos) tA := by
  intro wh pins s σ H Q I h
  refine isTrue_or (thn (ha pins s σ H Q I h) fun c s1 e => ?_)
  cases c with
  | false => exact isTrue_or_nil e
  | true => exact e
theorem pw_and (ha : PT X a tA) (hb : PW X (.BoolOp .And (b :: rest) pos) tB') : PW X (.BoolOp .And (a :: b :: rest) pos) (tAnd tA tB') := by
  intro wh pins s σ H Q I h
  refine isTrue_and (thn (ha pins s σ H _ I h) fun c s1 ⟨H1, I1, q1⟩ => ?_)
  cases c with
  | true => exact hb wh pins s1 σ H1 Q I1 q1
  | false => exact ⟨H1, I1, q1⟩
theorem pw_or (ha : PT X a tA) (hb : PW X (.BoolOp .Or (b :: rest) pos) tB') : PW X (.BoolOp .Or (a :: b :: rest) pos) (tOr tA tB') := by
  intro wh pins s σ H Q I h
  refine isTrue_or (thn (ha pins s σ H _ I h) fun c s1 ⟨H1, I1, q1⟩ => ?_)
  cases c with
  | true => exact ⟨H1, I1, q1⟩
  | false => exact hb wh pins s1 σ H1 Q I1 q1
theorem pt_not (ha : PT X a tA) : PT X (.UnaryOp .Not a pos) (tNot tA) := by
  intro pins s σ H Q I h
  exact isTrue_not (ha pins s σ H (fun c H1 => Q (!c) H1) I h)
/-- .. as values (bools) -/
def tAndV (ta tb : TE) : TE := fun σ H Q => ta σ H fun x H1 => ∃ c, x = .bl c ∧ if c = true then tb σ H1 Q else Q (.bl false) H1
def tOrV (ta tb : TE) : TE := fun σ H Q => ta σ H fun x H1 => ∃ c, x = .bl c ∧ if c = true then Q (.bl true) H1 else tb σ H1 Q
def tNotV (ta : TE) : TE := fun σ H Q => ta σ H fun x H1 => ∃ c, x = .bl c ∧ Q (.bl (!c)) H1
theorem pe_one {op} {t : TE} (h : PE X a t) : PE X (.BoolOp op [a] pos) t := fun pins s σ H Q I hw => BoolOp_one (h pins s σ H Q I hw)
theorem pe_and (ha : PE X a ta) (hb : PE X (.BoolOp .And (b :: rest) pos) tb) : PE X (.BoolOp .And (a :: b :: rest) pos) (tAndV ta tb) := by
  intro pins s σ H Q I h
  refine BoolOp_and (thn (ha pins s σ H _ I h) fun v s1 ⟨x, H1, I1, r1, q1⟩ => ?_)
  obtain ⟨c, rfl, q1⟩ := q1
  cases r1
  refine wpAny_truthy_bool ?_
  cases c with
  | true => exact hb pins s1 σ H1 Q I1 q1
  | false => exact ⟨.bl false, H1, I1, rfl, q1⟩
theorem pe_or (ha : PE X a ta) (hb : PE X (.BoolOp .Or (b :: rest) pos) tb) : PE X (.BoolOp .Or (a :: b :: rest) pos) (tOrV ta tb) := by
  intro pins s σ H Q I h
  refine BoolOp_or (thn (ha pins s σ H _ I h) fun v s1 ⟨x, H1, I1, r1, q1⟩ => ?_)
  obtain ⟨c, rfl, q1⟩ := q1
  cases r1
  refine wpAny_truthy_bool ?_
  cases c with
  | false => exact hb pins s1 σ H1 Q I1 q1
  | true => exact ⟨.bl true, H1, I1, rfl, q1⟩
/-- a if t else b -/
def tIf (t : TT) (ta tb : TE) : TE := fun σ H Q => t σ H fun c H1 => if c = true then ta σ H1 Q else tb σ H1 Q
theorem pe_ifExp {c : Expr} (hc : PT X c tA) (ha : PE X a ta) (hb : PE X b tb) : PE X (.IfExp c a b pos) (tIf tA ta tb) := by
  intro pins s σ H Q I h
  refine wpAny_IfExp (thn (hc pins s σ H _ I h) fun d s1 ⟨H1, I1, q1⟩ => ?_)
  cases d with
  | true => exact ha pins s1 σ H1 Q I1 q1
  | false => exact hb pins s1 σ H1 Q I1 q1
end
end L2

namespace L2
open PySem PySem.Spec PyProof.Rows

/-! ### a list, a tuple that is read: tracked, frozen, or an object of the module -/
def SqL (K : PySem.W.Frag) (H : Hp) (a : Addr) (xs : List V) : Prop :=
  Rd H a (.lst xs) ∨
    ∃ (o : Obj) (its : Array Value) (n : Nat), K.lookup a = some o ∧ o.cls = .type "list" ∧ o.dict = none ∧ o.data = .seq its n ∧ its.size ≤ sizeLine ∧ Vals xs its.toList
def SqT (K : PySem.W.Frag) (H : Hp) (a : Addr) (xs : List V) : Prop :=
  Rd H a (.tup xs) ∨
    ∃ (o : Obj) (its : Array Value) (n : Nat), K.lookup a = some o ∧ o.cls = .type "tuple" ∧ o.data = .seq its n ∧ its.size ≤ sizeLine ∧ Vals xs its.toList
def absV : Value → Option V
  | .none => some .non
  | .bool b => some (.bl b)
  | .int i _ => some (.int i)
  | .str x _ => some (.str x)
  | .bytes b _ => some (.byt b)
  | .float b _ => some (.flt b)
  | .ref a => some (.ref a)
  | .type n => some (.ty n)
  | _ => none
theorem RelV.abs {x : V} {u : Value} (r : RelV x u) : absV u = some x := by
  cases x with
  | non => cases r; rfl
  | bl _ => cases r; rfl
  | int _ => obtain ⟨t, rfl⟩ := r; rfl
  | str _ => obtain ⟨t, rfl⟩ := r; rfl
  | byt _ => obtain ⟨t, rfl⟩ := r; rfl
  | flt _ => obtain ⟨t, rfl⟩ := r; rfl
  | ref _ => cases r; rfl
  | ty _ => cases r; rfl
theorem RelV.inj {x y : V} {u : Value} (r : RelV x u) (q : RelV y u) : x = y := Option.some.inj (r.abs.symm.trans q.abs)
theorem Vals.inj : ∀ {xs ys : List V} {us : List Value}, Vals xs us → Vals ys us → xs = ys
  | _, _, _, .nil, .nil => rfl
  | _, _, _, .cons r t, .cons r' t' => by rw [r.inj r', Vals.inj t t']
section
variable {X : Cx} {pins : List (Addr × Obj)} {σ : St} {H : Hp} {s : Shared} {a : Addr} {xs ys : List V}
theorem SqL.of {K : PySem.W.Frag} (h : H a = some (.lst xs)) : SqL K H a xs := .inl (.inl h)
theorem SqT.of {K : PySem.W.Frag} (h : H a = some (.tup xs)) : SqT K H a xs := .inl (.inl h)
theorem Inv.list (I : Inv X pins σ H s) (h : SqL X.K H a xs) : ∃ its : List Value, Vals xs its ∧ PlainL s.heap a its.toArray ∧ xs.length ≤ sizeLine := by
  rcases h with h | ⟨o, its, n, hk, hc, hd, hs, hz, r⟩
  · obtain ⟨z, its, n, r, e⟩ := h.ok I.hok
    exact ⟨its, r, ⟨_, n, e, rfl, rfl, rfl⟩, z⟩
  · refine ⟨its.toList, r, ⟨o, n, I.kIn a o hk, hc, hd, by simpa using hs⟩, ?_⟩
    have e := r.length
    simp only [Array.length_toList] at e
    omega
theorem Inv.tuple (I : Inv X pins σ H s) (h : SqT X.K H a xs) : ∃ its : List Value, Vals xs its ∧ IsTup s.heap a its.toArray ∧ xs.length ≤ sizeLine := by
  rcases h with h | ⟨o, its, n, hk, hc, hs, hz, r⟩
  · obtain ⟨z, its, r, p⟩ := h.ok I.hok
    exact ⟨its, r, p, z⟩
  · refine ⟨its.toList, r, ⟨o, I.kIn a o hk, hc, n, by simpa using hs⟩, ?_⟩
    have e := r.length
    simp only [Array.length_toList] at e
    omega
theorem Inv.list_inj (I : Inv X pins σ H s) (h : SqL X.K H a xs) (h' : SqL X.K H a ys) : xs = ys := by
  obtain ⟨its, r, ⟨o, n, e, _, _, d⟩, _⟩ := I.list h
  obtain ⟨its', r', ⟨o', n', e', _, _, d'⟩, _⟩ := I.list h'
  rw [e] at e'; cases e'
  rw [d] at d'
  injection d' with d1 _
  have : its = its' := by simpa using congrArg Array.toList d1
  subst this
  exact r.inj r'
theorem Inv.tuple_inj (I : Inv X pins σ H s) (h : SqT X.K H a xs) (h' : SqT X.K H a ys) : xs = ys := by
  obtain ⟨its, r, ⟨o, e, _, n, d⟩, _⟩ := I.tuple h
  obtain ⟨its', r', ⟨o', e', _, n', d'⟩, _⟩ := I.tuple h'
  rw [e] at e'; cases e'
  rw [d] at d'
  injection d' with d1 _
  have : its = its' := by simpa using congrArg Array.toList d1
  subst this
  exact r.inj r'
end

/-! ### another wish about exceptions -/
abbrev Cx.wish (X : Cx) (E : Value → Shared → Prop) : Cx := { X with xe := E }
/-- no exception leaves -/
abbrev Cx.nox (X : Cx) : Cx := X.wish fun _ _ => False
theorem Cx.Ok.wish {X : Cx} (ok : X.Ok) (E : Value → Shared → Prop) : (X.wish E).Ok :=
  ⟨ok.mod, ok.kind, ok.glob, ok.blt, ok.above, ok.inj, ok.has, ok.cab, ok.hd, ok.frames, ok.stk, ok.exf, ok.bs, ok.bsz, ok.noex, ok.exfs, ok.funs, ok.frf⟩
theorem Cx.Ok.unwish {X : Cx} {E : Value → Shared → Prop} (ok : (X.wish E).Ok) : X.Ok :=
  ⟨ok.mod, ok.kind, ok.glob, ok.blt, ok.above, ok.inj, ok.has, ok.cab, ok.hd, ok.frames, ok.stk, ok.exf, ok.bs, ok.bsz, ok.noex, ok.exfs, ok.funs, ok.frf⟩
section
variable {X : Cx} {pins : List (Addr × Obj)} {σ : St} {H : Hp} {s : Shared} {E : Value → Shared → Prop}
theorem Inv.wish (I : Inv X pins σ H s) (E : Value → Shared → Prop) : Inv (X.wish E) pins σ H s := ⟨I.ok.wish E, I.os, I.bare, I.base, I.loc, I.cell, I.free, I.freeC, I.pin, I.hok, I.len⟩
theorem Inv.unwish (I : Inv (X.wish E) pins σ H s) : Inv X pins σ H s := ⟨I.ok.unwish, I.os, I.bare, I.base, I.loc, I.cell, I.free, I.freeC, I.pin, I.hok, I.len⟩
theorem SP.unwish {D : Ends} {f : Flow} {s' : Shared} (h : SP (X.wish E) pins D f s') : SP X pins D f s' := by
  cases f with
  | next => obtain ⟨σ', H', I, q⟩ := h; exact ⟨σ', H', I.unwish, q⟩
  | brk => obtain ⟨σ', H', I, q⟩ := h; exact ⟨σ', H', I.unwish, q⟩
  | cont => obtain ⟨σ', H', I, q⟩ := h; exact ⟨σ', H', I.unwish, q⟩
  | ret u => obtain ⟨v, σ', H', I, r, q⟩ := h; exact ⟨v, σ', H', I.unwish, r, q⟩
theorem PE.nox {e : Expr} {t : TE} (h : PE X.nox e t) : PE X e t := fun pins s σ H Q I hw =>
  wpAny_mono (h pins s σ H Q (I.wish _) hw) (fun _ _ ⟨v, H', I', r, q⟩ => ⟨v, H', I'.unwish, r, q⟩) fun _ _ z => False.elim z
theorem PT.nox {e : Expr} {t : TT} (h : PT X.nox e t) : PT X e t := fun pins s σ H Q I hw =>
  wpAny_mono (h pins s σ H Q (I.wish _) hw) (fun _ _ ⟨H', I', q⟩ => ⟨H', I'.unwish, q⟩) fun _ _ z => False.elim z
theorem PSs.nox {st : List Stmt} {t : TS} (h : PSs X.nox st t) : PSs X st t := fun pins s σ H D I hw =>
  wpAny_mono (h pins s σ H D (I.wish _) hw) (fun _ _ q => q.unwish) fun _ _ z => False.elim z
end

/-! ### blocks and small statements -/
section
variable {X : Cx} {st : Stmt} {rest : List Stmt} {t u : TS} {e : Expr} {te : TE} {pos : Pos}
def tNext : TS := fun D σ H => D.nx σ H
def tSeq (t u : TS) : TS := fun D σ H => t { D with nx := u D } σ H
theorem pss_nil : PSs X [] tNext := fun _ _ σ H _ I h => wpAny_execs_nil ⟨σ, H, I, h⟩
theorem pss_cons (h1 : PS X st t) (h2 : PSs X rest u) : PSs X (st :: rest) (tSeq t u) := by
  intro pins s σ H D I h
  refine wpAny_execs_cons (thn (h1 pins s σ H { D with nx := u D } I h) fun f s1 q => ?_)
  cases f with
  | next =>
    obtain ⟨σ', H', I', q⟩ := q
    exact h2 pins s1 σ' H' D I' q
  | ret v => exact q
  | brk => exact q
  | cont => exact q
theorem pss_one (h1 : PS X st t) : PSs X [st] t := by
  intro pins s σ H D I h
  refine wpAny_execs_cons (thn (h1 pins s σ H D I h) fun f s1 q => ?_)
  cases f with
  | next => exact wpAny_execs_nil q
  | ret v => exact q
  | brk => exact q
  | cont => exact q
def tBreak : TS := fun D σ H => D.bk σ H
def tCont : TS := fun D σ H => D.ct σ H
/-- in a def's body nothing is shown -/
theorem Inv.quiet {pins : List (Addr × Obj)} {σ : St} {H : Hp} {s : Shared} (I : Inv X pins σ H s) : interactive X.env = false := by simp [interactive, I.ok.kind]
/-- an expression whose value is dropped -/
def tDrop (te : TE) : TS := fun D σ H => te σ H fun _ H1 => D.nx σ H1
theorem ps_expr (he : PE X e te) (hs : swapsWith e none pos.line X.env = pure false := by rfl) : PS X (.Expr e pos) (tDrop te) := by
  intro pins s σ H D I h
  exact wpAny_Expr_any (thn (he pins s σ H _ I h) fun v s1 ⟨x, H1, I1, r1, q1⟩ => ⟨σ, H1, I1, q1⟩) I.quiet hs
def tRet (te : TE) : TS := fun D σ H => te σ H D.rt
theorem ps_ret (he : PE X e te) : PS X (.Return (some e) pos) (tRet te) := by
  intro pins s σ H D I h
  exact wpAny_Return_some (thn (he pins s σ H _ I h) fun v s1 ⟨x, H1, I1, r1, q1⟩ => ⟨x, σ, H1, I1, r1, q1⟩)
def tRetN : TS := fun D _ H => D.rt .non H
theorem ps_retN : PS X (.Return none pos) tRetN := fun _ _ σ H _ I h => wpAny_Return_none ⟨.non, σ, H, I, rfl, h⟩
def tIfS (c : TT) (t u : TS) : TS := fun D σ H => c σ H fun b H1 => if b = true then t D σ H1 else u D σ H1
theorem ps_if {c : Expr} {a b : List Stmt} {tc : TT} (hc : PT X c tc) (ha : PSs X a t) (hb : PSs X b u) : PS X (.If c a b pos) (tIfS tc t u) := by
  intro pins s σ H D I h
  refine wpAny_If (thn (hc pins s σ H _ I h) fun d s1 ⟨H1, I1, q1⟩ => ?_)
  cases d with
  | true => exact ha pins s1 σ H1 D I1 q1
  | false => exact hb pins s1 σ H1 D I1 q1
/-- code that the proof never comes to -/
def tNever : TS := fun _ _ _ => False
end

/-! ### targets -/
abbrev TG := V → St → Hp → (St → Hp → Prop) → Prop
abbrev TGs := List V → St → Hp → (St → Hp → Prop) → Prop
def PG (X : Cx) (target : Expr) (t : TG) : Prop :=
  ∀ (pins : List (Addr × Obj)) (s : Shared) (σ : St) (H : Hp) (v : V) (u : Value) (Q : St → Hp → Prop), Inv X pins σ H s → RelV v u → t v σ H Q →
    wpAny (model X.prog X.w) X.A (assign target X.env u) (fun _ s' => ∃ σ' H', Inv X pins σ' H' s' ∧ Q σ' H') X.xe s
/-- several targets, one after another -/
def PGs (X : Cx) (ts : List Expr) (t : TGs) : Prop :=
  ∀ (pins : List (Addr × Obj)) (s : Shared) (σ : St) (H : Hp) (vs : List V) (us : List Value) (Q : St → Hp → Prop), Inv X pins σ H s → Vals vs us → t vs σ H Q →
    wpAny (model X.prog X.w) X.A (assignInOrder ((assignEach ts X.env).map (·.2)) us) (fun _ s' => ∃ σ' H', Inv X pins σ' H' s' ∧ Q σ' H') X.xe s
/-- o[i] = v, by values -/
abbrev TSet := V → V → V → Hp → (Hp → Prop) → Prop
def PSet (X : Cx) (t : TSet) : Prop :=
  ∀ (pins : List (Addr × Obj)) (s : Shared) (σ : St) (H : Hp) (o i v : V) (ov iv u : Value) (Q : Hp → Prop), Inv X pins σ H s → RelV o ov → RelV i iv → RelV v u → t o i v H Q →
    wpAny (model X.prog X.w) X.A (setItem ov iv u) (fun _ s' => ∃ H', Inv X pins σ H' s' ∧ Q H') X.xe s
/-- a op= b, by values -/
abbrev TIp := V → V → Hp → VK → Prop
def PIp (X : Cx) (op : Operator) (t : TIp) : Prop :=
  ∀ (pins : List (Addr × Obj)) (s : Shared) (σ : St) (H : Hp) (x y : V) (v u : Value) (Q : VK), Inv X pins σ H s → RelV x v → RelV y u → t x y H Q →
    wpAny (model X.prog X.w) X.A (inplaceOp op v u) (EP X pins σ Q) X.xe s
section
variable {X : Cx} {pos : Pos}
def gName (i : Nat) : TG := fun v σ H Q => Q (σ.set i (some v)) H
theorem pg_name {i : Nat} {x : Str} (hN : X.N.Nodup) (hi : X.N[i]? = some x) (hx : Loc X.env.scope x) (hf : X.fn x = true ∨ X.env.scope.names.lookup x = some .local := by first | exact .inl rfl | exact .inr rfl | assumption) : PG X (.Name x pos) (gName i) := by
  intro pins s σ H v u Q I r h
  exact wpAny_assign_Name (store_ok I hN hi hx r (fun s' I' => ⟨_, H, I', h⟩) hf)
def gNil : TGs := fun vs σ H Q => vs = [] ∧ Q σ H
def gCons (t : TG) (u : TGs) : TGs := fun vs σ H Q => ∃ v r, vs = v :: r ∧ t v σ H fun σ' H' => u r σ' H' Q
/-- (a, b, ..) = a tuple of that length -/
def gTup (K : PySem.W.Frag) (n : Nat) (t : TGs) : TG := fun v σ H Q => ∃ a xs, v = .ref a ∧ SqT K H a xs ∧ xs.length = n ∧ t xs σ H Q
/-- o[i] = .. -/
def gSub (to ti : TE) (t : TSet) : TG := fun v σ H Q => to σ H fun o H1 => ti σ H1 fun i H2 => t o i v H2 fun H3 => Q σ H3
/-- target = value -/
def tAsg (te : TE) (g : TG) : TS := fun D σ H => te σ H fun x H1 => g x σ H1 D.nx
/-- name = value -/
theorem ps_set {i : Nat} {x : Str} {e : Expr} {te : TE} {pos' : Pos} (hN : X.N.Nodup) (hi : X.N[i]? = some x) (hx : Loc X.env.scope x) (he : PE X e te) (hs : swapsWith e (some (.Name x pos')) pos.line X.env = pure false := by rfl) (hf : X.fn x = true ∨ X.env.scope.names.lookup x = some .local := by first | exact .inl rfl | exact .inr rfl | assumption) :
    PS X (.Assign [.Name x pos'] e pos) (tAsg te (gName i)) := by
  intro pins s σ H D I h
  refine wpAny_Assign_Name (thn (he pins s σ H _ I h) fun v s1 ⟨y, H1, I1, r1, q1⟩ => ?_) hs
  exact store_ok I1 hN hi hx r1 (fun s2 I2 => ⟨_, H1, I2, q1⟩) hf
/-- a, b = x, y with plain local names: stored from the right; the pair itself is not tracked (the opening rows as in PyProof/Rows/TupAssign.lean:23) -/
def tPar (i j : Nat) (ta : TA) : TS := fun D σ H => ta σ H fun vs H1 => ∃ v w, vs = [v, w] ∧ D.nx ((σ.set i (some v)).set j (some w)) H1
/-- name op= e -/
def tAug (i : Nat) (te : TE) (ti : TIp) : TS := fun D σ H => ∃ x, σ[i]? = some (some x) ∧ te σ H fun y H1 => ti x y H1 fun z H2 => D.nx (σ.set i (some z)) H2
/-- o[i] op= e -/
def tAugS (to ti te : TE) (tget : V → V → Hp → VK → Prop) (tip : TIp) (tset : TSet) : TS := fun D σ H => to σ H fun o H1 => ti σ H1 fun i H2 => tget o i H2 fun x H3 => te σ H3 fun y H4 => tip x y H4 fun z H5 => tset o i z H5 fun H6 => D.nx σ H6
/-- o[i], by values -/
def PGet (X : Cx) (t : V → V → Hp → VK → Prop) : Prop :=
  ∀ (pins : List (Addr × Obj)) (s : Shared) (σ : St) (H : Hp) (o i : V) (ov iv : Value) (Q : VK), Inv X pins σ H s → RelV o ov → RelV i iv → t o i H Q →
    wpAny (model X.prog X.w) X.A (getItem ov iv) (EP X pins σ Q) X.xe s
/-- ints -/
def ipI (f : Int → Int → Int) : TIp := fun x y H Q => ∃ i j, x = .int i ∧ y = .int j ∧ Q (.int (f i j)) H
end

/-! ### while -/
section
variable {X : Cx} {pos : Pos}
/-- the invariant W with its measure -/
def tWhile (c : TT) (tb : TS) : TS := fun D σ H => ∃ W : Nat → St → Hp → Prop, (∃ m, W m σ H) ∧ ∀ m σ H, W m σ H →
  c σ H fun b H1 => if b = true then ∃ N : St → Hp → Prop, (∀ σ' H', N σ' H' → ∃ m', m' < m ∧ W m' σ' H') ∧ tb { D with nx := N, ct := N, bk := D.nx } σ H1 else D.nx σ H1
end

/-! ### what a loop or a comprehension walks -/
/-- at turn i: it yields x (the heap may grow), or it stops -/
structure It where
  go : Nat → Hp → Prop
  yld : Nat → Hp → V → Hp → Prop
  stop : Nat → Hp → Prop
/-- the iterator's own objects may turn: they are not the frame's, not pinned, younger than the entry (or a comprehension's own) -/
def FpOk (X : Cx) (pins : List (Addr × Obj)) (H : Hp) (b : Addr) : Prop :=
  H b = none ∧ b ≠ X.env.locals ∧ b ∉ X.fs ∧ (b ∈ X.ex ∨ X.s₀.heap.objs.size ≤ b) ∧ (∀ x c, X.env.cells.lookup x = some c → c ≠ b) ∧ ∀ p ∈ X.pn ++ pins, p.1 ≠ b
theorem Inv.fpOk {X : Cx} {pins : List (Addr × Obj)} {σ : St} {H H' : Hp} {s : Shared} {b : Addr} (I : Inv X pins σ H s) (hb : s.heap.objs.size ≤ b) (hn : H' b = none) : FpOk X pins H' b := by
  refine ⟨hn, Nat.ne_of_gt (Nat.lt_of_lt_of_le I.lt hb), I.nofs hb, .inr (Nat.le_trans I.sz hb), fun x c e z => ?_, fun p hp z => ?_⟩
  · obtain ⟨v, q⟩ := I.cell x c e
    exact absurd (Nat.lt_of_lt_of_le q.lt (by rw [z]; exact hb)) (Nat.lt_irrefl _)
  · exact absurd (Nat.lt_of_lt_of_le (Heap.lt_size (I.pin p hp).1) (by rw [z]; exact hb)) (Nat.lt_irrefl _)
structure Turn (P : Program) (w : World) (K : PySem.W.Frag) (tg : Expr) (J : It) (fp : List Addr) (it : Addr) (tn : Nat → Heap → Prop) : Prop where
  mem : it ∈ fp
  obj : ∀ i h, tn i h → ∀ b ∈ fp, ∃ o, h.get? b = some o ∧ ∀ v, o.data ≠ .cell v
  keep : ∀ i h h', tn i h → (∀ b ∈ fp, ∀ o, h.get? b = some o → h'.get? b = some o) → tn i h'
  item : ∀ (X : Cx), X.prog = P → X.w = w → X.K = K → X.calm = true → ∀ (i : Nat) (pins : List (Addr × Obj)) (s : Shared) (σ : St) (H : Hp) (E : Value → Shared → Prop), Inv X pins σ H s → (∀ b ∈ fp, FpOk X pins H b) → tn i s.heap → J.go i H →
    wpAny (model P w) X.A (pyNext (.ref it)) (fun r s1 => ∃ u, r = some u ∧
      wpAny (model P w) X.A (letOwnedTupleGo tg (.ref it) u) (fun _ s2 => ∃ x H', Inv X pins σ H' s2 ∧ RelV x u ∧ J.yld i H x H' ∧ tn (i + 1) s2.heap ∧ ∀ b ∈ fp, H' b = none) E s1) E s
  done : ∀ (X : Cx), X.prog = P → X.w = w → X.K = K → X.calm = true → ∀ (i : Nat) (pins : List (Addr × Obj)) (s : Shared) (σ : St) (H : Hp) (E : Value → Shared → Prop), Inv X pins σ H s → (∀ b ∈ fp, FpOk X pins H b) → tn i s.heap → J.stop i H →
    wpAny (model P w) X.A (pyNext (.ref it)) (fun r s1 => r = none ∧ Inv X pins σ H s1) E s
  self : ∀ (A : Around) (i : Nat) (s : Shared) (Q : Value → Shared → Prop) (E : Value → Shared → Prop), tn i s.heap → Q (.ref it) s → wpAny (model P w) A (pyIter (.ref it)) Q E s
abbrev TI := St → Hp → (It → Hp → Prop) → Prop
/-- an iterator has come -/
def PIE (X : Cx) (pins : List (Addr × Obj)) (σ : St) (tg : Expr) (R : It → Hp → Prop) (itv : Value) (s2 : Shared) : Prop :=
  ∃ (it : Addr) (fp : List Addr) (tn : Nat → Heap → Prop) (J : It) (H' : Hp), itv = .ref it ∧ Inv X pins σ H' s2 ∧ Turn X.prog X.w X.K tg J fp it tn ∧ tn 0 s2.heap ∧ (∀ b ∈ fp, FpOk X pins H' b) ∧ R J H'
def PI (X : Cx) (tg iter : Expr) (wi : TI) : Prop :=
  ∀ (pins : List (Addr × Obj)) (s : Shared) (σ : St) (H : Hp) (R : It → Hp → Prop), Inv X pins σ H s → wi σ H R →
    wpAny (model X.prog X.w) X.A (eval iter X.env) (fun v s1 => wpAny (model X.prog X.w) X.A (pyIter v) (PIE X pins σ tg R) X.xe s1) X.xe s

/-- the step ahead of the store is nothing for an iterator that keeps no tuple -/
theorem go_of {M : Model} {A : Around} {E : Value → Shared → Prop} {s : Shared} {tg : Expr} {it : Addr} {u : Value} {o : Obj} {n : String} {vs : Array Value} {Q : Unit → Shared → Prop} (ho : s.heap.get? it = some o) (hc : o.cls = .type n) (hd : o.data = .fields vs)
    (hn : ["enumerate", "zip", "dict_itemiterator", "dict_reverseitemiterator", "odict_iterator", "itertools.zip_longest", "itertools.pairwise"].contains n = false) (hQ : Q () s) : wpAny M A (letOwnedTupleGo tg (.ref it) u) Q E s := by
  unfold letOwnedTupleGo
  cases tg <;> first
    | exact wpAny_pure hQ
    | (cases u <;> first
        | exact wpAny_pure hQ
        | (refine wpAny_bind (wpAny_load ho ?_)
           rw [hc, hd]
           show wpAny M A (if (["enumerate", "zip", "dict_itemiterator", "dict_reverseitemiterator", "odict_iterator", "itertools.zip_longest", "itertools.pairwise"].contains n && vs[0]? == some (rawInt _)) = true then _ else _) Q E s
           rw [if_neg (by intro h; rw [hn, Bool.false_and] at h; cases h)]
           exact wpAny_pure hQ))

/-- the list at a, as it stands at each turn (a loop may append to it) -/
def Itl (K : PySem.W.Frag) (a : Addr) : It :=
  ⟨fun i H => ∃ xs x, SqL K H a xs ∧ xs[i]? = some x, fun i H x H' => H' = H ∧ ∀ xs, SqL K H a xs → xs[i]? = some x, fun i H => ∃ xs, SqL K H a xs ∧ xs.length ≤ i⟩
def Itt (K : PySem.W.Frag) (a : Addr) : It :=
  ⟨fun i H => ∃ xs x, SqT K H a xs ∧ xs[i]? = some x, fun i H x H' => H' = H ∧ ∀ xs, SqT K H a xs → xs[i]? = some x, fun i H => ∃ xs, SqT K H a xs ∧ xs.length ≤ i⟩
/-- lo, lo + 1, .. (n of them) -/
def Itr (lo : Int) (n : Nat) : It := ⟨fun i _ => i < n, fun i H x H' => H' = H ∧ x = .int (lo + i), fun i _ => n ≤ i⟩
theorem turn_list {P : Program} {w : World} {K : PySem.W.Frag} {tg : Expr} (a it : Addr) : Turn P w K tg (Itl K a) [it] it (fun i h => h.IsListIter it a i) where
  mem := by simp
  obj := fun i h st b hb => by
    have e : b = it := by simpa using hb
    subst e
    obtain ⟨o, e, c, d⟩ := st
    exact ⟨o, e, fun v z => by rw [d] at z; cases z⟩
  keep := fun i h h' st k => st.at fun o e => k it (by simp) o e
  item := by
    intro X hP hw hK hc i pins s σ H E I hf st hg
    subst hP hw hK
    obtain ⟨xs, x, hq, hx⟩ := hg
    obtain ⟨its, rv, p, hz⟩ := I.list hq
    obtain ⟨u, hu, ru⟩ := rv.get hx
    obtain ⟨f0, f1, f2, f3, f4, f5⟩ := hf it (by simp)
    refine wpAny_pyNext_list_item st p.isList (x := u) (by simpa using hu) fun h' st' sb => ?_
    have I1 : Inv X pins σ H { s with heap := h' } := I.turned (t' := s.toks) (fun b o hb e => (sb.2 b hb).trans e) f0 f1 f3 f4 f5
    obtain ⟨o, e, c, d⟩ := id st'
    exact ⟨u, rfl, go_of (s := { s with heap := h' }) e c d (by decide) ⟨x, H, I1, ru, ⟨rfl, fun ys hy => by rw [I.list_inj hy hq]; exact hx⟩, st', fun b hb => (hf b hb).1⟩⟩
  done := by
    intro X hP hw hK hc i pins s σ H E I hf st hg
    subst hP hw hK
    obtain ⟨xs, hq, hx⟩ := hg
    obtain ⟨its, rv, p, hz⟩ := I.list hq
    obtain ⟨f0, f1, f2, f3, f4, f5⟩ := hf it (by simp)
    have hl := rv.length
    exact wpAny_pyNext_list_end (I.ok.hd hc) st p.isList (by simp; omega) fun h' eb => ⟨rfl, I.turned (t' := s.toks) (fun b o hb e => eb b o hb e) f0 f1 f3 f4 f5⟩
  self := fun _ _ _ _ _ st h => wpAny_pyIter_listiter st h
theorem turn_tuple {P : Program} {w : World} {K : PySem.W.Frag} {tg : Expr} (a it : Addr) : Turn P w K tg (Itt K a) [it] it (fun i h => h.IsTupleIter it a i) where
  mem := by simp
  obj := fun i h st b hb => by
    have e : b = it := by simpa using hb
    subst e
    obtain ⟨o, e, c, d⟩ := st
    exact ⟨o, e, fun v z => by rw [d] at z; cases z⟩
  keep := fun i h h' st k => st.at fun o e => k it (by simp) o e
  item := by
    intro X hP hw hK hc i pins s σ H E I hf st hg
    subst hP hw hK
    obtain ⟨xs, x, hq, hx⟩ := hg
    obtain ⟨its, rv, p, hz⟩ := I.tuple hq
    obtain ⟨u, hu, ru⟩ := rv.get hx
    obtain ⟨f0, f1, f2, f3, f4, f5⟩ := hf it (by simp)
    refine wpAny_pyNext_tuple_item st (show s.heap.IsTuple a its.toArray from p) (x := u) (by simpa using hu) fun h' st' sb => ?_
    have I1 : Inv X pins σ H { s with heap := h' } := I.turned (t' := s.toks) (fun b o hb e => (sb.2 b hb).trans e) f0 f1 f3 f4 f5
    obtain ⟨o, e, c, d⟩ := id st'
    exact ⟨u, rfl, go_of (s := { s with heap := h' }) e c d (by decide) ⟨x, H, I1, ru, ⟨rfl, fun ys hy => by rw [I.tuple_inj hy hq]; exact hx⟩, st', fun b hb => (hf b hb).1⟩⟩
  done := by
    intro X hP hw hK hc i pins s σ H E I hf st hg
    subst hP hw hK
    obtain ⟨xs, hq, hx⟩ := hg
    obtain ⟨its, rv, p, hz⟩ := I.tuple hq
    obtain ⟨f0, f1, f2, f3, f4, f5⟩ := hf it (by simp)
    have hl := rv.length
    exact wpAny_pyNext_tuple_end (I.ok.hd hc) st (show s.heap.IsTuple a its.toArray from p) (by simp; omega) fun h' eb => ⟨rfl, I.turned (t' := s.toks) (fun b o hb e => eb b o hb e) f0 f1 f3 f4 f5⟩
  self := fun _ _ _ _ _ st h => wpAny_pyIter_tupleiter st h
theorem turn_range {P : Program} {w : World} {K : PySem.W.Frag} {tg : Expr} (it : Addr) (lo : Int) (n : Nat) : Turn P w K tg (Itr lo n) [it] it (fun i h => IsRangeIter h it (lo + (i : Nat) * 1) ((n : Int) - (i : Nat)) 1) where
  mem := by simp
  obj := fun i h st b hb => by
    have e : b = it := by simpa using hb
    subst e
    exact ⟨_, st, fun v z => by
      have z' : Data.fields _ = Data.cell v := z
      cases z'⟩
  keep := fun i h h' st k => k it (by simp) _ st
  item := by
    intro X hP hw hK hc i pins s σ H E I hf st hg
    subst hP hw hK
    obtain ⟨f0, f1, f2, f3, f4, f5⟩ := hf it (by simp)
    have W := Walks.range (prog := X.prog) (w := X.w) (I.ok.hd hc) it lo 1 n
    refine W.item i s _ _ hg st fun v h' tk hv st' kk => ?_
    obtain ⟨t, rfl⟩ := hv
    have I1 : Inv X pins σ H { s with heap := h', toks := tk } := I.turned (fun b o hb e => kk b o (by simpa using hb) e) f0 f1 f3 f4 f5
    refine ⟨_, rfl, go_of (s := { s with heap := h', toks := tk }) (n := "range_iterator") st' rfl rfl (by decide) ⟨.int (lo + i), H, I1, ⟨t, ?_⟩, ⟨rfl, rfl⟩, st', fun b hb => (hf b hb).1⟩⟩
    rw [Int.mul_one]
  done := by
    intro X hP hw hK hc i pins s σ H E I hf st hg
    subst hP hw hK
    obtain ⟨f0, f1, f2, f3, f4, f5⟩ := hf it (by simp)
    exact wpAny_pyNext_range_end (I.ok.hd hc) st (by have : n ≤ i := hg; omega) fun h' eb => ⟨rfl, I.turned (t' := s.toks) (fun b o hb e => eb b o hb e) f0 f1 f3 f4 f5⟩
  self := fun _ _ _ _ _ st h => wpAny_pyIter_rangeiter st h
end L2

namespace L2
open PySem PySem.Spec PyProof.Rows
section
variable {X : Cx} {tg : Expr}
def iList (K : PySem.W.Frag) (tl : TE) : TI := fun σ H R => tl σ H fun x H1 => ∃ a, x = .ref a ∧ (∃ xs, SqL K H1 a xs) ∧ R (Itl K a) H1
def iTup (K : PySem.W.Frag) (tl : TE) : TI := fun σ H R => tl σ H fun x H1 => ∃ a, x = .ref a ∧ (∃ xs, SqT K H1 a xs) ∧ R (Itt K a) H1
theorem pi_list {l : Expr} {tl : TE} (hl : PE X l tl) : PI X tg l (iList X.K tl) := by
  intro pins s σ H R I h
  refine thn (hl pins s σ H _ I h) fun v s1 ⟨x, H1, I1, r1, q1⟩ => ?_
  obtain ⟨a, e, ⟨xs, hq⟩, q⟩ := q1
  subst e
  cases r1
  obtain ⟨its, rv, p, hz⟩ := I1.list hq
  refine wpAny_pyIter_list p.isList ?_
  refine ⟨s1.heap.objs.size, [s1.heap.objs.size], _, _, H1, rfl, I1.kept (t' := s1.toks) fun b o e => Heap.get?_push_of_some _ e, turn_list a _, ⟨_, Heap.get?_push_size _ rfl, rfl, rfl⟩, fun b hb => ?_, q⟩
  have e : b = s1.heap.objs.size := by simpa using hb
  subst e
  exact I1.fpOk (Nat.le_refl _) (I1.hok.fresh (Nat.le_refl _))
theorem pi_tup {l : Expr} {tl : TE} (hl : PE X l tl) : PI X tg l (iTup X.K tl) := by
  intro pins s σ H R I h
  refine thn (hl pins s σ H _ I h) fun v s1 ⟨x, H1, I1, r1, q1⟩ => ?_
  obtain ⟨a, e, ⟨xs, hq⟩, q⟩ := q1
  subst e
  cases r1
  obtain ⟨its, rv, p, hz⟩ := I1.tuple hq
  refine wpAny_pyIter_tuple (show s1.heap.IsTuple a its.toArray from p) ?_
  refine ⟨s1.heap.objs.size, [s1.heap.objs.size], _, _, H1, rfl, I1.kept (t' := s1.toks) fun b o e => Heap.get?_push_of_some _ e, turn_tuple a _, ⟨_, Heap.get?_push_size _ rfl, rfl, rfl⟩, fun b hb => ?_, q⟩
  have e : b = s1.heap.objs.size := by simpa using hb
  subst e
  exact I1.fpOk (Nat.le_refl _) (I1.hok.fresh (Nat.le_refl _))
/-- a range object just made, walked -/
theorem range_it {pins : List (Addr × Obj)} {σ : St} {H : Hp} {s : Shared} {R : It → Hp → Prop} {E : Value → Shared → Prop} {lo hi : Int} {t u v : Tok} {tk : Nat} (I : Inv X pins σ H s) (h1 : -(2 ^ 62) ≤ lo) (h2 : lo < 2 ^ 62) (h3 : -(2 ^ 62) ≤ hi) (h4 : hi < 2 ^ 62)
    (q : R (Itr lo (hi - lo).toNat) H) : wpAny (model X.prog X.w) X.A (pyIter (.ref s.heap.objs.size)) (PIE X pins σ tg R) E { s with heap := s.heap.push { cls := .type "range", data := .fields #[.int lo t, .int hi u, .int 1 v] }, toks := tk } := by
  refine wpAny_pyIter_range (IsRange.new ..) (small_one h1 h2 h3 h4) ?_
  have I1 : Inv X pins σ H { s with heap := s.heap.push { cls := .type "range", data := .fields #[.int lo t, .int hi u, .int 1 v] }, toks := tk } := I.kept fun b o e => Heap.get?_push_of_some _ e
  refine ⟨(s.heap.push { cls := .type "range", data := .fields #[.int lo t, .int hi u, .int 1 v] }).objs.size, [(s.heap.push { cls := .type "range", data := .fields #[.int lo t, .int hi u, .int 1 v] }).objs.size], _, _, H, rfl,
    I1.kept (t' := tk) fun b o e => Heap.get?_push_of_some _ e, turn_range _ lo (hi - lo).toNat, ?_, fun b hb => ?_, q⟩
  · have e1 : lo + ((0 : Nat) : Int) * 1 = lo := by simp
    have e2 : (((hi - lo).toNat : Nat) : Int) - ((0 : Nat) : Int) = Builtin.Range.rangeSize lo hi 1 := by rw [rangeSize_one]; split <;> omega
    show IsRangeIter _ _ (lo + ((0 : Nat) : Int) * 1) ((((hi - lo).toNat : Nat) : Int) - ((0 : Nat) : Int)) 1
    rw [e1, e2]
    exact Heap.get?_push_size _ rfl
  · have e : b = (s.heap.push { cls := .type "range", data := .fields #[.int lo t, .int hi u, .int 1 v] }).objs.size := by simpa using hb
    subst e
    exact I1.fpOk (Nat.le_refl _) (I1.hok.fresh (Nat.le_refl _))
def iRng1 (ta : TA) : TI := fun σ H R => ta σ H fun vs H1 => ∃ j : Int, vs = [.int j] ∧ -(2 ^ 62) ≤ j ∧ j < 2 ^ 62 ∧ R (Itr 0 j.toNat) H1
def iRng2 (ta : TA) : TI := fun σ H R => ta σ H fun vs H1 => ∃ i j : Int, vs = [.int i, .int j] ∧ (-(2 ^ 62) ≤ i ∧ i < 2 ^ 62 ∧ -(2 ^ 62) ≤ j ∧ j < 2 ^ 62) ∧ R (Itr i (j - i).toNat) H1
theorem pi_range1 {a : Expr} {ta : TA} {p pos : Pos} (hg : Gl X "range") (hm : X.mg "range" = none) (ha : PA X [a] ta) (hs : starEach [a] X.env = [(false, eval a X.env)] := by rfl) : PI X tg (.Call (.Name "range" p) [a] [] pos) (iRng1 ta) := by
  intro pins s σ H R I h
  refine Call_ (ld_blt I hg hm boot_range (PyProof.Rows.callWith_type1 (thn (ha pos pins s σ H _ I h) fun us s1 ⟨vs, H1, I1, r1, q1⟩ => ?_) hs rfl))
  obtain ⟨j, e, q1, q2, q⟩ := q1
  subst e
  cases r1 with
  | cons r rr =>
    cases rr
    obtain ⟨t, rfl⟩ := r
    exact call_range_1 (range_it I1 (by omega) (by omega) q1 q2 (by simpa using q))
theorem pi_range2 {a b : Expr} {ta : TA} {p pos : Pos} (hg : Gl X "range") (hm : X.mg "range" = none) (ha : PA X [a, b] ta) (hs : starEach [a, b] X.env = [(false, eval a X.env), (false, eval b X.env)] := by rfl) (hs2 : starEach [b] X.env = [(false, eval b X.env)] := by rfl) :
    PI X tg (.Call (.Name "range" p) [a, b] [] pos) (iRng2 ta) := by
  intro pins s σ H R I h
  refine Call_ (ld_blt I hg hm boot_range (PyProof.Rows.callWith_type1 (thn (ha pos pins s σ H _ I h) fun us s1 ⟨vs, H1, I1, r1, q1⟩ => ?_) (by rw [hs, hs2]) (by rw [hs2]; rfl)))
  obtain ⟨i, j, e, ⟨q1, q2, q3, q4⟩, q⟩ := q1
  subst e
  cases r1 with
  | cons r rr =>
    cases rr with
    | cons r' rr =>
      cases rr
      obtain ⟨t, rfl⟩ := r
      obtain ⟨t', rfl⟩ := r'
      exact call_range_2 (range_it I1 q1 q2 q3 q4 q)

/-! ### for -/
/-- W: the invariant by the turn and a measure; N: what the body is to reach -/
def tFor (wi : TI) (g : TG) (tb : TS) : TS := fun D σ H => wi σ H fun J H1 => ∃ W : Nat → Nat → St → Hp → Prop, (∃ m, W 0 m σ H1) ∧ ∀ i m σ H, W i m σ H →
  (J.stop i H ∧ D.nx σ H) ∨ (J.go i H ∧ ∃ N : St → Hp → Prop, (∀ σ' H', N σ' H' → ∃ m', m' < m ∧ W (i + 1) m' σ' H') ∧ ∀ x H', J.yld i H x H' → g x σ H' fun σ2 H2 => tb { D with nx := N, ct := N, bk := D.nx } σ2 H2)
/-- the records at fp as they stand -/
def pinsAt (fp : List Addr) (h : Heap) : List (Addr × Obj) := fp.filterMap fun b => (h.get? b).map fun o => (b, o)
theorem mem_pinsAt {fp : List Addr} {h : Heap} {b : Addr} {o : Obj} (hb : b ∈ fp) (e : h.get? b = some o) : (b, o) ∈ pinsAt fp h := List.mem_filterMap.mpr ⟨b, hb, by rw [e]; rfl⟩
theorem of_pinsAt {fp : List Addr} {h : Heap} {p : Addr × Obj} (hp : p ∈ pinsAt fp h) : p.1 ∈ fp ∧ h.get? p.1 = some p.2 := by
  obtain ⟨b, hb, e⟩ := List.mem_filterMap.mp hp
  cases q : h.get? b with
  | none => rw [q] at e; cases e
  | some o =>
    rw [q] at e
    have e' : (b, o) = p := Option.some.inj e
    subst e'
    exact ⟨hb, q⟩
theorem Inv.pinned {pins : List (Addr × Obj)} {σ : St} {H : Hp} {s : Shared} {fp : List Addr} (I : Inv X pins σ H s) (hf : ∀ b ∈ fp, FpOk X pins H b) (ho : ∀ b ∈ fp, ∃ o, s.heap.get? b = some o ∧ ∀ v, o.data ≠ .cell v) : Inv X (pins ++ pinsAt fp s.heap) σ H s :=
  I.pins_of fun p hp => (List.mem_append.mp hp).elim (fun z => I.pin p (List.mem_append_right _ z)) fun z => by
    obtain ⟨hb, e⟩ := of_pinsAt z
    obtain ⟨f0, f1, f2, _⟩ := hf p.1 hb
    obtain ⟨o, e', d⟩ := ho p.1 hb
    rw [e] at e'; cases e'
    exact ⟨e, f0, f1, f2, d⟩
theorem Inv.unpinned {pins pl : List (Addr × Obj)} {σ : St} {H : Hp} {s : Shared} (I : Inv X (pins ++ pl) σ H s) : Inv X pins σ H s := I.pins_of fun p hp => I.pin p (List.mem_append_right _ (List.mem_append_left _ hp))
theorem ps_for {iter : Expr} {body : List Stmt} {wi : TI} {g : TG} {tb : TS} {pos : Pos} (hp : PassesOwn (model X.prog X.w) X.A X.env X.xe) (hc : X.calm = true) (hi : PI X tg iter wi) (hg : PG X tg g) (hb : PSs X body tb)
    (hs : ∀ x, foldedSetIterable iter X.env x = pure x := by intro _; rfl) : PS X (.For tg iter body [] pos) (tFor wi g tb) := by
  intro pins s σ H D I h
  refine wpAny_For (thn (hi pins s σ H _ I h) fun v s1 h1 => thn h1 fun itv s2 h2 => ?_) hs
  obtain ⟨it, fp, tn, J, H2, e, I2, T, st2, f2, W, ⟨m0, w0⟩, turn⟩ := h2
  subst e
  -- what stays true of the iterator's objects through the loop
  have stat : ∀ {H' : Hp}, (∀ b ∈ fp, H' b = none) → ∀ b ∈ fp, FpOk X pins H' b := fun hn b hb => ⟨hn b hb, (f2 b hb).2⟩
  refine codeAny_forLoop_any (fun n s' => ∃ i σ' H', Inv X pins σ' H' s' ∧ tn i s'.heap ∧ (∀ b ∈ fp, H' b = none) ∧ W i n σ' H') ?_ m0 ⟨0, σ, H2, I2, st2, fun b hb => (f2 b hb).1, w0⟩
  rintro n s3 ⟨i, σ3, H3, I3, st3, fr3, w3⟩
  rcases turn i n σ3 H3 w3 with ⟨stop, qn⟩ | ⟨go, N, hN, step⟩
  · refine wpAny_passesOwn hp (thn (T.done X rfl rfl rfl hc i pins s3 σ3 H3 X.xe I3 (stat fr3) st3 stop) fun r s4 ⟨hr, I4⟩ => ?_)
    subst hr
    exact wpAny_execs_nil ⟨σ3, H3, I4, qn⟩
  · refine wpAny_passesOwn hp (thn (T.item X rfl rfl rfl hc i pins s3 σ3 H3 X.xe I3 (stat fr3) st3 go) fun r s4 ⟨u, hr, h4⟩ => ?_)
    subst hr
    refine wpAny_passesOwn hp (thn h4 fun _ s5 ⟨x, H5, I5, r5, y5, st5, fr5⟩ => ?_)
    have I5' := I5.pinned (stat fr5) (T.obj _ _ st5)
    refine wpAny_passesOwn hp (thn (hg _ s5 σ3 H5 x u _ I5' r5 (step x H5 y5)) fun _ s6 ⟨σ6, H6, I6, q6⟩ => ?_)
    refine wpAny_passesOwn hp (thn (hb _ s6 σ6 H6 _ I6 q6) fun f s7 q7 => ?_)
    have again : ∀ {σ7 : St} {H7 : Hp}, Inv X (pins ++ pinsAt fp s5.heap) σ7 H7 s7 → N σ7 H7 → ∃ m, m < n ∧ ∃ i σ' H', Inv X pins σ' H' s7 ∧ tn i s7.heap ∧ (∀ b ∈ fp, H' b = none) ∧ W i m σ' H' := fun {σ7 H7} I7 n7 => by
      obtain ⟨m', hm, w7⟩ := hN σ7 H7 n7
      refine ⟨m', hm, i + 1, σ7, H7, I7.unpinned, T.keep _ _ _ st5 fun b hb o e => (I7.pin (b, o) (List.mem_append_right _ (List.mem_append_right _ (mem_pinsAt hb e)))).1, fun b hb => ?_, w7⟩
      obtain ⟨o, e, d⟩ := T.obj _ _ st5 b hb
      exact (I7.pin (b, o) (List.mem_append_right _ (List.mem_append_right _ (mem_pinsAt hb e)))).2.1
    cases f with
    | next => obtain ⟨σ7, H7, I7, n7⟩ := q7; exact again I7 n7
    | cont => obtain ⟨σ7, H7, I7, n7⟩ := q7; exact again I7 n7
    | brk => obtain ⟨σ7, H7, I7, q7⟩ := q7; exact ⟨σ7, H7, I7.unpinned, q7⟩
    | ret v => obtain ⟨x7, σ7, H7, I7, r7, q7⟩ := q7; exact ⟨x7, σ7, H7, I7.unpinned, r7, q7⟩
end

/-! ### the forms one uses -/
/-- over a list that the body leaves as it is -/
theorem for_list {K : PySem.W.Frag} {a : Addr} {xs : List V} {g : TG} {tb : TS} {D : Ends} {σ : St} {H : Hp} (Pv : Nat → St → Hp → Prop) (h0 : Pv 0 σ H) (hl : ∀ i σ H, i ≤ xs.length → Pv i σ H → SqL K H a xs)
    (hs : ∀ i x σ H, xs[i]? = some x → Pv i σ H → g x σ H fun σ2 H2 => tb { D with nx := Pv (i + 1), ct := Pv (i + 1), bk := D.nx } σ2 H2) (hd : ∀ σ H, Pv xs.length σ H → D.nx σ H) :
    ∃ W : Nat → Nat → St → Hp → Prop, (∃ m, W 0 m σ H) ∧ ∀ i m σ H, W i m σ H →
      ((Itl K a).stop i H ∧ D.nx σ H) ∨ ((Itl K a).go i H ∧ ∃ N : St → Hp → Prop, (∀ σ' H', N σ' H' → ∃ m', m' < m ∧ W (i + 1) m' σ' H') ∧ ∀ x H', (Itl K a).yld i H x H' → g x σ H' fun σ2 H2 => tb { D with nx := N, ct := N, bk := D.nx } σ2 H2) := by
  refine ⟨fun i m σ H => m = xs.length - i ∧ i ≤ xs.length ∧ Pv i σ H, ⟨xs.length, by simp, Nat.zero_le _, h0⟩, ?_⟩
  rintro i m σ H ⟨rfl, hi, p⟩
  have q := hl i σ H hi p
  by_cases hlt : i < xs.length
  · refine .inr ⟨⟨xs, xs[i], q, by simp [hlt]⟩, Pv (i + 1), fun σ' H' p' => ⟨xs.length - (i + 1), by omega, rfl, hlt, p'⟩, fun x H' y => ?_⟩
    obtain ⟨e, y⟩ := y
    subst e
    exact hs i x σ _ (y xs q) p
  · have e : i = xs.length := by omega
    subst e
    exact .inl ⟨⟨xs, q, Nat.le_refl _⟩, hd σ H p⟩
theorem for_tup {K : PySem.W.Frag} {a : Addr} {xs : List V} {g : TG} {tb : TS} {D : Ends} {σ : St} {H : Hp} (Pv : Nat → St → Hp → Prop) (h0 : Pv 0 σ H) (hl : ∀ i σ H, i ≤ xs.length → Pv i σ H → SqT K H a xs)
    (hs : ∀ i x σ H, xs[i]? = some x → Pv i σ H → g x σ H fun σ2 H2 => tb { D with nx := Pv (i + 1), ct := Pv (i + 1), bk := D.nx } σ2 H2) (hd : ∀ σ H, Pv xs.length σ H → D.nx σ H) :
    ∃ W : Nat → Nat → St → Hp → Prop, (∃ m, W 0 m σ H) ∧ ∀ i m σ H, W i m σ H →
      ((Itt K a).stop i H ∧ D.nx σ H) ∨ ((Itt K a).go i H ∧ ∃ N : St → Hp → Prop, (∀ σ' H', N σ' H' → ∃ m', m' < m ∧ W (i + 1) m' σ' H') ∧ ∀ x H', (Itt K a).yld i H x H' → g x σ H' fun σ2 H2 => tb { D with nx := N, ct := N, bk := D.nx } σ2 H2) := by
  refine ⟨fun i m σ H => m = xs.length - i ∧ i ≤ xs.length ∧ Pv i σ H, ⟨xs.length, by simp, Nat.zero_le _, h0⟩, ?_⟩
  rintro i m σ H ⟨rfl, hi, p⟩
  have q := hl i σ H hi p
  by_cases hlt : i < xs.length
  · refine .inr ⟨⟨xs, xs[i], q, by simp [hlt]⟩, Pv (i + 1), fun σ' H' p' => ⟨xs.length - (i + 1), by omega, rfl, hlt, p'⟩, fun x H' y => ?_⟩
    obtain ⟨e, y⟩ := y
    subst e
    exact hs i x σ _ (y xs q) p
  · have e : i = xs.length := by omega
    subst e
    exact .inl ⟨⟨xs, q, Nat.le_refl _⟩, hd σ H p⟩
theorem for_range {lo : Int} {n : Nat} {g : TG} {tb : TS} {D : Ends} {σ : St} {H : Hp} (Pv : Nat → St → Hp → Prop) (h0 : Pv 0 σ H)
    (hs : ∀ i σ H, i < n → Pv i σ H → g (.int (lo + i)) σ H fun σ2 H2 => tb { D with nx := Pv (i + 1), ct := Pv (i + 1), bk := D.nx } σ2 H2) (hd : ∀ σ H, Pv n σ H → D.nx σ H) :
    ∃ W : Nat → Nat → St → Hp → Prop, (∃ m, W 0 m σ H) ∧ ∀ i m σ H, W i m σ H →
      ((Itr lo n).stop i H ∧ D.nx σ H) ∨ ((Itr lo n).go i H ∧ ∃ N : St → Hp → Prop, (∀ σ' H', N σ' H' → ∃ m', m' < m ∧ W (i + 1) m' σ' H') ∧ ∀ x H', (Itr lo n).yld i H x H' → g x σ H' fun σ2 H2 => tb { D with nx := N, ct := N, bk := D.nx } σ2 H2) := by
  refine ⟨fun i m σ H => m = n - i ∧ i ≤ n ∧ Pv i σ H, ⟨n, by simp, Nat.zero_le _, h0⟩, ?_⟩
  rintro i m σ H ⟨rfl, hi, p⟩
  by_cases hlt : i < n
  · refine .inr ⟨hlt, Pv (i + 1), fun σ' H' p' => ⟨n - (i + 1), by omega, rfl, hlt, p'⟩, fun x H' y => ?_⟩
    obtain ⟨e, y⟩ := y
    subst e y
    exact hs i σ _ hlt p
  · have e : i = n := by omega
    subst e
    exact .inl ⟨Nat.le_refl _, hd σ H p⟩
end L2

namespace L2
open PySem PySem.Spec PyProof.Rows

abbrev R2 := V → V → Hp → VK → Prop
/-- a two-place operation on values: f is binaryOp op, inplaceOp op or compareOp op -/
def OpR (X : Cx) (f : Value → Value → Sem Value) (r : R2) : Prop :=
  ∀ (pins : List (Addr × Obj)) (s : Shared) (σ : St) (H : Hp) (x y : V) (v u : Value) (Q : VK), Inv X pins σ H s → RelV x v → RelV y u → r x y H Q →
    wpAny (model X.prog X.w) X.A (f v u) (EP X pins σ Q) X.xe s
/-- a one-place operation -/
def UnR (X : Cx) (f : Value → Sem Value) (r : V → Hp → VK → Prop) : Prop :=
  ∀ (pins : List (Addr × Obj)) (s : Shared) (σ : St) (H : Hp) (x : V) (v : Value) (Q : VK), Inv X pins σ H s → RelV x v → r x H Q →
    wpAny (model X.prog X.w) X.A (f v) (EP X pins σ Q) X.xe s
/-- a call of a value that is known (a builtin, a type) with values -/
def CallR (X : Cx) (f : Value) (r : List V → Hp → VK → Prop) : Prop :=
  ∀ (pins : List (Addr × Obj)) (s : Shared) (σ : St) (H : Hp) (xs : List V) (us : List Value) (Q : VK), Inv X pins σ H s → Vals xs us → r xs H Q →
    wpAny (model X.prog X.w) X.A (call f us) (EP X pins σ Q) X.xe s
/-- a value's truth -/
def TruR (X : Cx) (r : V → Hp → (Bool → Hp → Prop) → Prop) : Prop :=
  ∀ (pins : List (Addr × Obj)) (s : Shared) (σ : St) (H : Hp) (x : V) (v : Value) (Q : Bool → Hp → Prop), Inv X pins σ H s → RelV x v → r x H Q →
    wpAny (model X.prog X.w) X.A (truthy v) (TP X pins σ Q) X.xe s

def tOp (r : R2) (ta tb : TE) : TE := fun σ H Q => ta σ H fun x H1 => tb σ H1 fun y H2 => r x y H2 Q
def tUn (r : V → Hp → VK → Prop) (ta : TE) : TE := fun σ H Q => ta σ H fun x H1 => r x H1 Q
/-- ints in, under C, and a value out -/
def rI (C : Int → Int → Prop) (g : Int → Int → V) : R2 := fun x y H Q => ∃ i j, x = .int i ∧ y = .int j ∧ C i j ∧ Q (g i j) H
def rI0 (g : Int → Int → V) : R2 := fun x y H Q => ∃ i j, x = .int i ∧ y = .int j ∧ Q (g i j) H
def rU (g : Int → V) : V → Hp → VK → Prop := fun x H Q => ∃ i, x = .int i ∧ Q (g i) H

section
variable {X : Cx} {a b c : Expr} {ta tb tc : TE} {pos : Pos}

theorem binT (ha : PE X a ta) (hb : PE X b tb) {pins : List (Addr × Obj)} {s : Shared} {σ : St} {H : Hp} {R : V → V → Hp → Prop} (I : Inv X pins σ H s)
    (h : ta σ H fun x H1 => tb σ H1 fun y H2 => R x y H2) {Q : Value → Shared → Prop} {f : Value → Value → Sem Value}
    (hf : ∀ v u s2 x y H2, Inv X pins σ H2 s2 → RelV x v → RelV y u → R x y H2 → wpAny (model X.prog X.w) X.A (f v u) Q X.xe s2) :
    wpAny (model X.prog X.w) X.A (eval a X.env) (fun v s₁ => wpAny (model X.prog X.w) X.A (eval b X.env) (fun u s₂ => wpAny (model X.prog X.w) X.A (f v u) Q X.xe s₂) X.xe s₁) X.xe s := by
  refine thn (ha pins s σ H _ I h) fun v s1 ⟨x, H1, I1, r1, q1⟩ => ?_
  refine thn (hb pins s1 σ H1 _ I1 q1) fun u s2 ⟨y, H2, I2, r2, q2⟩ => ?_
  exact hf v u s2 x y H2 I2 r1 r2 q2

theorem pe_op {op : Operator} {r : R2} (ho : OpR X (binaryOp op) r) (ha : PE X a ta) (hb : PE X b tb) : PE X (.BinOp a op b pos) (tOp r ta tb) := by
  intro pins s σ H Q I h
  exact wpAny_BinOp (binT ha hb I h fun v u s2 x y H2 I2 rx ry q => ho pins s2 σ H2 x y v u Q I2 rx ry q)
theorem pe_un {op : UnaryOp} {r : V → Hp → VK → Prop} (ho : UnR X (unaryOp op) r) (ha : PE X a ta) : PE X (.UnaryOp op a pos) (tUn r ta) := by
  intro pins s σ H Q I h
  exact UnaryOp_ (thn (ha pins s σ H _ I h) fun v s1 ⟨x, H1, I1, r1, q1⟩ => ho pins s1 σ H1 x v Q I1 r1 q1)
/-! ### ints -/
theorem opI {f : Value → Value → Sem Value} {C : Int → Int → Prop} {g : Int → Int → Int}
    (rule : ∀ (i j : Int) (t u : Tok) (s : Shared) (Q : Value → Shared → Prop) (E : Value → Shared → Prop), C i j → Q (.int (g i j) s.toks) { s with toks := s.toks + 1 } → wpAny (model X.prog X.w) X.A (f (.int i t) (.int j u)) Q E s) :
    OpR X f (rI C fun i j => .int (g i j)) := by
  intro pins s σ H x y v u Q I rx ry h
  obtain ⟨i, j, rfl, rfl, hc, q⟩ := h
  obtain ⟨t, rfl⟩ := rx
  obtain ⟨t', rfl⟩ := ry
  exact rule i j t t' s _ _ hc ⟨.int (g i j), H, I.tok _, ⟨_, rfl⟩, q⟩
theorem opI0 {f : Value → Value → Sem Value} {g : Int → Int → Int}
    (rule : ∀ (i j : Int) (t u : Tok) (s : Shared) (Q : Value → Shared → Prop) (E : Value → Shared → Prop), Q (.int (g i j) s.toks) { s with toks := s.toks + 1 } → wpAny (model X.prog X.w) X.A (f (.int i t) (.int j u)) Q E s) :
    OpR X f (rI0 fun i j => .int (g i j)) := by
  intro pins s σ H x y v u Q I rx ry h
  obtain ⟨i, j, rfl, rfl, q⟩ := h
  obtain ⟨t, rfl⟩ := rx
  obtain ⟨t', rfl⟩ := ry
  exact rule i j t t' s _ _ ⟨.int (g i j), H, I.tok _, ⟨_, rfl⟩, q⟩
theorem opB0 {f : Value → Value → Sem Value} {g : Int → Int → Bool}
    (rule : ∀ (i j : Int) (t u : Tok) (s : Shared) (Q : Value → Shared → Prop) (E : Value → Shared → Prop), Q (.bool (g i j)) s → wpAny (model X.prog X.w) X.A (f (.int i t) (.int j u)) Q E s) :
    OpR X f (rI0 fun i j => .bl (g i j)) := by
  intro pins s σ H x y v u Q I rx ry h
  obtain ⟨i, j, rfl, rfl, q⟩ := h
  obtain ⟨t, rfl⟩ := rx
  obtain ⟨t', rfl⟩ := ry
  exact rule i j t t' s _ _ ⟨.bl (g i j), H, I, rfl, q⟩

def CDiv (i j : Int) : Prop := 0 < j ∧ j < 1073741824
def CDivN (i j : Int) : Prop := j ≠ 0 ∧ j.natAbs < 1073741824
def CPow (i j : Int) : Prop := 0 ≤ j ∧ j ≤ 1000000 ∧ i.natAbs < 2 ^ 64
def CMul (i j : Int) : Prop := (-(2 ^ 64) < i ∧ i < 2 ^ 64) ∨ (-(2 ^ 64) < j ∧ j < 2 ^ 64)
theorem CMul.ok {i j : Int} (h : CMul i j) : IntMulOk i j := by
  rcases h with ⟨h1, h2⟩ | ⟨h1, h2⟩
  · exact .of_left (intBits_le_64 h1 h2)
  · exact .of_right (intBits_le_64 h1 h2)
theorem op_add : OpR X (binaryOp .Add) (rI0 fun i j => .int (i + j)) := opI0 fun _ _ _ _ _ _ _ q => add_int q
theorem op_sub : OpR X (binaryOp .Sub) (rI0 fun i j => .int (i - j)) := opI0 fun _ _ _ _ _ _ _ q => sub_int q
theorem op_mul : OpR X (binaryOp .Mult) (rI CMul fun i j => .int (i * j)) := opI fun _ _ _ _ _ _ _ hc q => mul_int q hc.ok
/-- // by a positive divisor -/
theorem op_fdiv : OpR X (binaryOp .FloorDiv) (rI CDiv fun i j => .int (i / j)) := opI fun i j _ _ _ _ _ hc q => by
  have h1 : (0 : Int) < j := hc.1
  have h2 : j < 1073741824 := hc.2
  exact floordiv_int (by omega) (by rw [Int.fdiv_eq_ediv_of_nonneg i (by omega)]; exact q) (.inl (PyProof.noPylong_small (by omega)))
/-- % by a positive divisor of any size -/
theorem op_mod : OpR X (binaryOp .Mod) (rI (fun _ j => 0 < j) fun i j => .int (i % j)) := opI fun i j _ _ _ _ _ hc q => by
  have h1 : (0 : Int) < j := hc
  exact mod_int' (by omega) (by rw [Int.fmod_eq_emod_of_nonneg i (by omega)]; exact q)
theorem unI {f : Value → Sem Value} {g : Int → Int}
    (rule : ∀ (i : Int) (t : Tok) (s : Shared) (Q : Value → Shared → Prop) (E : Value → Shared → Prop), Q (.int (g i) s.toks) { s with toks := s.toks + 1 } → wpAny (model X.prog X.w) X.A (f (.int i t)) Q E s) :
    UnR X f (rU fun i => .int (g i)) := by
  intro pins s σ H x v Q I rx h
  obtain ⟨i, rfl, q⟩ := h
  obtain ⟨t, rfl⟩ := rx
  exact rule i t s _ _ ⟨.int (g i), H, I.tok _, ⟨_, rfl⟩, q⟩
theorem un_neg : UnR X (unaryOp .USub) (rU fun i => .int (-i)) := unI fun _ _ _ _ _ q => neg_int q
/-! ### bools among ints: n += (a < b) -/
end

/-! ### comparisons -/
/-- the scalars that == tells apart as data does -/
def scal : V → V → Bool
  | .non, .non => true | .non, .int _ => true | .int _, .non => true | .non, .bl _ => true | .bl _, .non => true | .non, .str _ => true | .str _, .non => true
  | .int _, .int _ => true | .bl _, .bl _ => true | .str _, .str _ => true | .byt _, .byt _ => true
  | .int _, .str _ => true | .str _, .int _ => true | .bl _, .str _ => true | .str _, .bl _ => true
  | _, _ => false
def rEq : R2 := fun x y H Q => scal x y = true ∧ Q (.bl (decide (x = y))) H
def rNe : R2 := fun x y H Q => scal x y = true ∧ Q (.bl (!decide (x = y))) H

theorem dec_int {i j : Int} : decide (V.int i = V.int j) = (i == j) := by
  rw [Bool.eq_iff_iff]
  simp
theorem dec_bl {i j : Bool} : decide (V.bl i = V.bl j) = (i == j) := by
  rw [Bool.eq_iff_iff]
  simp
theorem dec_str {i j : Str} : decide (V.str i = V.str j) = (i == j) := by
  rw [Bool.eq_iff_iff]
  simp
theorem dec_byt {i j : Array UInt8} : decide (V.byt i = V.byt j) = (i.toList == j.toList) := by
  rw [Bool.eq_iff_iff]
  cases i
  cases j
  simp

section
variable {X : Cx} {a b c : Expr} {ta tb tc : TE} {pos : Pos}
theorem fin_bl {pins : List (Addr × Obj)} {σ : St} {H : Hp} {s : Shared} {Q : VK} {k k' : Bool} (I : Inv X pins σ H s) (q : Q (.bl k) H) (e : k = k') : EP X pins σ Q (.bool k') s := by
  subst e
  exact ⟨.bl k, H, I, rfl, q⟩
theorem op_eq : OpR X (compareOp .Eq) rEq := by
  intro pins s σ H x y v u Q I rx ry h
  obtain ⟨hs, q⟩ := h
  cases x with
  | non =>
    cases rx
    cases y with
    | non => cases ry; exact PySem.EqNone.eq_none_none (fin_bl I q (by simp))
    | bl j => cases ry; exact PySem.EqNone.eq_none_bool (fin_bl I q (by simp))
    | int j => obtain ⟨t', rfl⟩ := ry; exact PySem.EqNone.eq_none_int (fin_bl I q (by simp))
    | str j => obtain ⟨t', rfl⟩ := ry; exact PySem.EqNone.eq_none_str (fin_bl I q (by simp))
    | _ => exact absurd (show false = true from hs) Bool.false_ne_true
  | bl i =>
    cases rx
    cases y with
    | non => cases ry; exact PySem.EqNone.eq_bool_none (fin_bl I q (by simp))
    | bl j => cases ry; exact eq_bool (fin_bl I q dec_bl)
    | str j => obtain ⟨t', rfl⟩ := ry; exact PySem.EqMixed.eq_bool_str (fin_bl I q (by simp))
    | _ => exact absurd (show false = true from hs) Bool.false_ne_true
  | int i =>
    obtain ⟨t, rfl⟩ := rx
    cases y with
    | non => cases ry; exact PySem.EqNone.eq_int_none (fin_bl I q (by simp))
    | int j => obtain ⟨t', rfl⟩ := ry; exact eq_int (fin_bl I q dec_int)
    | str j => obtain ⟨t', rfl⟩ := ry; exact PySem.EqMixed.eq_int_str (fin_bl I q (by simp))
    | _ => exact absurd (show false = true from hs) Bool.false_ne_true
  | str i =>
    obtain ⟨t, rfl⟩ := rx
    cases y with
    | non => cases ry; exact PySem.EqNone.eq_str_none (fin_bl I q (by simp))
    | bl j => cases ry; exact PySem.EqMixed.eq_str_bool (fin_bl I q (by simp))
    | int j => obtain ⟨t', rfl⟩ := ry; exact PySem.EqMixed.eq_str_int (fin_bl I q (by simp))
    | str j => obtain ⟨t', rfl⟩ := ry; exact eq_str (fin_bl I q dec_str)
    | _ => exact absurd (show false = true from hs) Bool.false_ne_true
  | byt i =>
    obtain ⟨t, rfl⟩ := rx
    cases y with
    | byt j => obtain ⟨t', rfl⟩ := ry; exact PySem.W.eq_bytes (fin_bl I q dec_byt)
    | _ => exact absurd (show false = true from hs) Bool.false_ne_true
  | _ => cases y <;> exact absurd (show false = true from hs) Bool.false_ne_true
theorem op_ne : OpR X (compareOp .NotEq) rNe := by
  intro pins s σ H x y v u Q I rx ry h
  obtain ⟨hs, q⟩ := h
  cases x with
  | non =>
    cases rx
    cases y with
    | non => cases ry; exact PySem.EqNone.ne_none_none (fin_bl I q (by simp))
    | bl j => cases ry; exact PySem.EqNone.ne_none_bool (fin_bl I q (by simp))
    | int j => obtain ⟨t', rfl⟩ := ry; exact PySem.EqNone.ne_none_int (fin_bl I q (by simp))
    | str j => obtain ⟨t', rfl⟩ := ry; exact PySem.EqNone.ne_none_str (fin_bl I q (by simp))
    | _ => exact absurd (show false = true from hs) Bool.false_ne_true
  | bl i =>
    cases rx
    cases y with
    | non => cases ry; exact PySem.EqNone.ne_bool_none (fin_bl I q (by simp))
    | bl j => cases ry; exact ne_bool (fin_bl I q (congrArg not dec_bl))
    | str j => obtain ⟨t', rfl⟩ := ry; exact PySem.EqMixed.ne_bool_str (fin_bl I q (by simp))
    | _ => exact absurd (show false = true from hs) Bool.false_ne_true
  | int i =>
    obtain ⟨t, rfl⟩ := rx
    cases y with
    | non => cases ry; exact PySem.EqNone.ne_int_none (fin_bl I q (by simp))
    | int j => obtain ⟨t', rfl⟩ := ry; exact ne_int (fin_bl I q (congrArg not dec_int))
    | str j => obtain ⟨t', rfl⟩ := ry; exact PySem.EqMixed.ne_int_str (fin_bl I q (by simp))
    | _ => exact absurd (show false = true from hs) Bool.false_ne_true
  | str i =>
    obtain ⟨t, rfl⟩ := rx
    cases y with
    | non => cases ry; exact PySem.EqNone.ne_str_none (fin_bl I q (by simp))
    | bl j => cases ry; exact PySem.EqMixed.ne_str_bool (fin_bl I q (by simp))
    | int j => obtain ⟨t', rfl⟩ := ry; exact PySem.EqMixed.ne_str_int (fin_bl I q (by simp))
    | str j => obtain ⟨t', rfl⟩ := ry; exact ne_str (fin_bl I q (congrArg not dec_str))
    | _ => exact absurd (show false = true from hs) Bool.false_ne_true
  | byt i =>
    obtain ⟨t, rfl⟩ := rx
    cases y with
    | byt j => obtain ⟨t', rfl⟩ := ry; exact PySem.W.ne_bytes (fin_bl I q (congrArg not dec_byt))
    | _ => exact absurd (show false = true from hs) Bool.false_ne_true
  | _ => cases y <;> exact absurd (show false = true from hs) Bool.false_ne_true

theorem op_lt : OpR X (compareOp .Lt) (rI0 fun i j => .bl (decide (i < j))) := opB0 fun _ _ _ _ _ _ _ q => lt_int q
theorem op_le : OpR X (compareOp .LtE) (rI0 fun i j => .bl (decide (i ≤ j))) := opB0 fun _ _ _ _ _ _ _ q => le_int q
theorem op_gt : OpR X (compareOp .Gt) (rI0 fun i j => .bl (decide (j < i))) := opB0 fun _ _ _ _ _ _ _ q => gt_int q
theorem op_ge : OpR X (compareOp .GtE) (rI0 fun i j => .bl (decide (j ≤ i))) := opB0 fun _ _ _ _ _ _ _ q => ge_int q
/-- the one string within the other -/
theorem op_in_str : OpR X (compareOp .In) (fun x y H Q => ∃ i j, x = .str i ∧ y = .str j ∧ Q (.bl (!(Builtin.Str.occurrences j i 0 j.length 1).isEmpty)) H) := by
  intro pins s σ H x y v u Q I rx ry h
  obtain ⟨i, j, rfl, rfl, q⟩ := h
  obtain ⟨t, rfl⟩ := rx
  obtain ⟨t', rfl⟩ := ry
  exact in_str (fin_bl I q rfl)

/-- is None, is not None: the right side a value none -/
theorem op_isN : OpR X (compareOp .Is) (fun x y H Q => y = .non ∧ Q (.bl (decide (x = .non))) H) := by
  intro pins s σ H x y v u Q I rx ry h
  obtain ⟨rfl, q⟩ := h
  cases ry
  refine is_none_gen (fin_bl I q ?_)
  cases x <;> first
    | (cases rx; rfl)
    | (obtain ⟨t, rfl⟩ := rx; rfl)
theorem op_notN : OpR X (compareOp .IsNot) (fun x y H Q => y = .non ∧ Q (.bl (!decide (x = .non))) H) := by
  intro pins s σ H x y v u Q I rx ry h
  obtain ⟨rfl, q⟩ := h
  cases ry
  refine isnot_none_gen (fin_bl I q ?_)
  cases x <;> first
    | (cases rx; rfl)
    | (obtain ⟨t, rfl⟩ := rx; rfl)

/-- is, is not of two objects that are tracked lists or instances -/
def isObj : HO → Bool
  | .lst _ => true
  | .ins _ _ _ => true
  | _ => false
/-- two rules for one operation: by cases -/
theorem OpR.or {f : Value → Value → Sem Value} {r r' : R2} (h : OpR X f r) (h' : OpR X f r') : OpR X f (fun x y H Q => r x y H Q ∨ r' x y H Q) := by
  intro pins s σ H x y v u Q I rx ry q
  rcases q with q | q
  · exact h pins s σ H x y v u Q I rx ry q
  · exact h' pins s σ H x y v u Q I rx ry q

theorem nomark (b : Expr) {op : CmpOp} (h : op ≠ .In := by decide) (h2 : op ≠ .NotIn := by decide) : behindInMarks op b = false := by
  have e1 : (op == CmpOp.In) = false := by cases op <;> first | rfl | exact absurd rfl h
  have e2 : (op == CmpOp.NotIn) = false := by cases op <;> first | rfl | exact absurd rfl h2
  cases b <;> simp [behindInMarks, e1, e2]
/-- a comparison as a value; hm: nomark b, or (for in, not in) by with_unfolding_all rfl -/
theorem pe_cmpR {op : CmpOp} {r : R2} (ho : OpR X (compareOp op) r) (ha : PE X a ta) (hb : PE X b tb) (hm : behindInMarks op b = false) : PE X (.Compare a [op] [b] pos) (tOp r ta tb) := by
  intro pins s σ H Q I h
  exact wpAny_Compare1 (binT ha hb I h fun v u s2 x y H2 I2 rx ry q => ho pins s2 σ H2 x y v u Q I2 rx ry q) hm
/-- a reading of a value as a test -/
def tTest (t : TE) : TT := fun σ H Q => t σ H fun x H' => ∃ k, x = .bl k ∧ Q k H'
theorem pt_cmpR {op : CmpOp} {r : R2} (ho : OpR X (compareOp op) r) (ha : PE X a ta) (hb : PE X b tb) (hm : behindInMarks op b = false) : PT X (.Compare a [op] [b] pos) (tTest (tOp r ta tb)) := by
  intro pins s σ H Q I h
  refine wpAny_isTrue_Compare1 (thn (ha pins s σ H _ I h) fun v s1 ⟨x, H1, I1, r1, q1⟩ => thn (hb pins s1 σ H1 _ I1 q1) fun u s2 ⟨y, H2, I2, r2, q2⟩ =>
    thn (ho pins s2 σ H2 x y v u _ I2 r1 r2 q2) fun c s3 ⟨z, H3, I3, r3, k, e, q3⟩ => ?_) hm
  subst e
  cases r3
  exact wpAny_truthy_bool ⟨H3, I3, q3⟩
/-- a op1 b op2 c -/
def tChain (r r' : R2) (ta tb tc : TE) : TE := fun σ H Q => ta σ H fun x H1 => tb σ H1 fun y H2 => r x y H2 fun z H3 => ∃ k, z = .bl k ∧
  (if k = true then tc σ H3 fun w' H4 => r' y w' H4 Q else Q (.bl false) H3)
/-! ### truth -/
/-- a value's truth by the abstract heap -/
def TruV (K : PySem.W.Frag) (x : V) (H : Hp) (k : Bool) : Prop :=
  match x with
  | .non => k = false
  | .bl b => k = b
  | .int i => k = (i != 0)
  | .str y => y.length ≤ sizeLine ∧ k = ((y.length : Int) != 0)
  | .byt y => y.size ≤ sizeLine ∧ k = ((y.size : Int) != 0)
  | .ref p => (∃ xs, SqL K H p xs ∧ k = !xs.isEmpty) ∨ (∃ xs, SqT K H p xs ∧ k = !xs.isEmpty) ∨ ∃ kvs, H p = some (.dK kvs) ∧ k = !kvs.isEmpty
  | _ => False
theorem line63 : (sizeLine : Nat) < 2 ^ 63 := by rw [sizeLine_eq]; decide
/-! ### strs and bytes -/
def PlainIxT (b : Expr) : Prop := ∀ o i, subscripted b false o i = operate [o, i] (getItem o i)
/-! ### scalar builtins, by CallR -/
theorem vals1 {x : V} {us : List Value} (r : Vals [x] us) : ∃ u, us = [u] ∧ RelV x u := by
  cases r with
  | cons r1 r2 => cases r2; exact ⟨_, rfl, r1⟩
theorem vals2 {x y : V} {us : List Value} (r : Vals [x, y] us) : ∃ u w', us = [u, w'] ∧ RelV x u ∧ RelV y w' := by
  cases r with
  | cons r1 r2 =>
    cases r2 with
    | cons r3 r4 => cases r4; exact ⟨_, _, rfl, r1, r3⟩
theorem call_abs : CallR X (.builtin "abs") (fun xs H Q => ∃ i, xs = [.int i] ∧ Q (.int (if i < 0 then -i else i)) H) := by
  intro pins s σ H xs us Q I r h
  obtain ⟨i, rfl, q⟩ := h
  obtain ⟨u, rfl, t, rfl⟩ := vals1 r
  exact call_abs_int fun u tk => ⟨.int (if i < 0 then -i else i), H, I.tok _, ⟨_, rfl⟩, q⟩
theorem call_max2 (hc : X.calm = true) : CallR X (.builtin "max") (fun xs H Q => ∃ i j, xs = [.int i, .int j] ∧ Q (.int (if j > i then j else i)) H) := by
  intro pins s σ H xs us Q I r h
  obtain ⟨i, j, rfl, q⟩ := h
  obtain ⟨u, w', rfl, ⟨t, rfl⟩, ⟨t', rfl⟩⟩ := vals2 r
  refine max_two_ints (I.ok.hd hc) fun h' tk k => ⟨_, H, I.kept k, ?_, q⟩
  by_cases hj : j > i
  · rw [if_pos hj, if_pos hj]; exact ⟨_, rfl⟩
  · rw [if_neg hj, if_neg hj]; exact ⟨_, rfl⟩
theorem call_min2 (hc : X.calm = true) : CallR X (.builtin "min") (fun xs H Q => ∃ i j, xs = [.int i, .int j] ∧ Q (.int (if j < i then j else i)) H) := by
  intro pins s σ H xs us Q I r h
  obtain ⟨i, j, rfl, q⟩ := h
  obtain ⟨u, w', rfl, ⟨t, rfl⟩, ⟨t', rfl⟩⟩ := vals2 r
  refine min_two_ints (I.ok.hd hc) fun h' tk k => ⟨_, H, I.kept k, ?_, q⟩
  by_cases hj : j < i
  · rw [if_pos hj, if_pos hj]; exact ⟨_, rfl⟩
  · rw [if_neg hj, if_neg hj]; exact ⟨_, rfl⟩
/-- len of a str, a bytes, a list, a tuple -/
def LenV (K : PySem.W.Frag) (x : V) (H : Hp) (n : Nat) : Prop :=
  match x with
  | .str y => y.length ≤ sizeLine ∧ n = y.length
  | .byt y => y.size ≤ sizeLine ∧ n = y.size
  | .ref p => (∃ xs, SqL K H p xs ∧ n = xs.length) ∨ ∃ xs, SqT K H p xs ∧ n = xs.length
  | _ => False
end
end L2

namespace L2
open PySem PySem.Spec PyProof.Rows

/-! ### an instance, its attributes a map -/
structure ObjM (h : Heap) (x dx C : Addr) (mA : Str → Option Value) : Prop where
  obj : h.get? x = some (PySem.W.instObj C dx)
  ns : h.Ns1 dx mA
  ne : dx ≠ x

theorem lookIn_ns {h : Heap} {dx : Addr} {mA : Str → Option Value} (n : h.Ns1 dx mA) : ∃ od, h.get? dx = some od ∧ ∀ name, PySem.W.lookIn name od = some (mA name) := by
  obtain ⟨o, es, ep, ho, hd, hk, _, hm⟩ := n
  refine ⟨o, ho, fun name => ?_⟩
  have e := hm name
  unfold nsFind findBy at e
  rw [← Array.find?_toList] at e
  unfold PySem.W.lookIn
  rw [hd]
  dsimp only
  split
  · rename_i y q
    rw [q] at e
    exact congrArg some e
  · rename_i q
    rw [q] at e
    have a : es.toList.any (·.refKey) = false := by
      rw [List.any_eq_false]
      intro y hy
      obtain ⟨z, t, hkey⟩ := hk y (Array.mem_toList_iff.mp hy)
      simp [DictEntry.refKey, hkey]
    have a' : ¬ es.toList.any (·.refKey) = true := by rw [a]; exact Bool.false_ne_true
    rw [if_neg a']
    exact congrArg some e

theorem ObjM.look {h : Heap} {x dx C : Addr} {mA : Str → Option Value} (I : ObjM h x dx C mA) : ∃ od, PySem.W.InstAt h x (PySem.W.instObj C dx) C (some od) ∧ ∀ name, PySem.W.lookIn name od = some (mA name) :=
  let ⟨od, ho, hl⟩ := lookIn_ns I.ns
  ⟨od, ⟨I.obj, rfl, rfl, ho⟩, hl⟩

section
variable {prog : Program} {w : World} {A : Around} {E : Value → Shared → Prop} {s : Shared} {K : PySem.W.Frag} {x dx C f : Addr} {mA : Str → Option Value} {name : Str} {v : Value}

theorem get_map {expr : Bool} {Q : Value → Shared → Prop} (X : K.In s.heap) (I : ObjM s.heap x dx C mA) (hg : PySem.W.plainGet K C name = true) (hh : PySem.W.hasDictIn K C = true)
    (ha : PySem.W.findIn K (.ref C) name = some none) (hv : mA name = some v) (hv' : PySem.W.handedIn v = true) (h : Q v { s with toks := s.toks + 1 }) :
    wpAny (model prog w) A (getAttr (.ref x) name expr) Q E s := by
  obtain ⟨od, J, hl⟩ := I.look
  exact PySem.W.get_value X J (PySem.W.plainGet_of hg).1 (PySem.W.findObj_own hh ha rfl (by rw [hl, hv])) hv' h

theorem get_meth {pl : Sem Bool} {Q : Value × List Value → Shared → Prop} (X : K.In s.heap) (I : ObjM s.heap x dx C mA) (hg : PySem.W.plainGet K C name = true)
    (hf : PySem.W.findIn K (.ref C) name = some (some (.ref f))) (ht : PySem.W.isFn K (.ref f) = true) (hv : mA name = none) (h : Q (.ref f, [.ref x]) s) :
    wpAny (model prog w) A (getMethod (.ref x) name pl) Q E s := by
  obtain ⟨od, J, hl⟩ := I.look
  exact PySem.W.method_fn X J (PySem.W.plainGet_of hg).1 (PySem.W.plainGet_of hg).2 hf (beq_iff_eq.mp ht) (by show (PySem.W.lookIn name od).map (·.isSome) = some false; rw [hl, hv]; rfl) h

theorem set_map {ns : List Str} {Q : Unit → Shared → Prop} (X : K.In s.heap) (I : ObjM s.heap x dx C mA)
    (hs : PySem.W.findIn K (.ref C) "__setattr__" = some (some (.builtin "object.__setattr__"))) (hp : PySem.W.plainOver K C = true) (ht : PySem.W.takerIn K C name = some none) (hh : PySem.W.hasDictIn K C = true)
    (hw : PySem.Within mA ns) (hsz : ns.length ≤ sizeLine)
    (h : ∀ h', ObjM h' x dx C (fun y => if y = name then some v else mA y) → Heap.SameBut dx s.heap h' → Q () { s with heap := h', toks := s.toks + 2 }) :
    wpAny (model prog w) A (setAttr (.ref x) name v) Q E s := by
  obtain ⟨od, J, hl⟩ := I.look
  refine PySem.W.set_plain X J hs (PySem.W.osa_open (s := { s with toks := s.toks + 1 }) (r := none) X J hp ht fun b => ?_)
  obtain ⟨cd, hc, hd'⟩ := PySem.W.any_some hh
  have hx : s.heap.get? x = some ⟨.ref C, some dx, .plain, #[]⟩ := I.obj
  refine wpAny_bind (wpAny_pure (wpAny_bind (wpAny_bind (wpAny_loadPart hx (wpAny_bind (PySem.W.Looks.here (s := { s with toks := s.toks + 1 }) (PySem.W.looks_clsIn X hc) ?_))))))
  rw [hd']
  refine wpAny_pure (a := some dx) (wpAny_bind (wpAny_pure (wpAny_bind ?_)))
  refine wpAny_nsSet1 (s := { s with toks := s.toks + 1 }) I.ns fun h' hn2 hs2 => ?_
  obtain ⟨oD, esD, epD, hoD, hdD, hcD⟩ := hn2.count (PySem.Within.cons name v hw)
  refine wpAny_bind (wpAny_lookBehind hoD (by rw [hdD]; exact pastItsLine_dict (Nat.le_trans hcD (by rw [List.length_cons]; omega))) ?_)
  exact wpAny_pure (h _ ⟨(hs2.2 _ (Ne.symm I.ne)).trans I.obj, hn2, I.ne⟩ hs2)

/-- C(..): the dict at the heap's end, the instance behind it; then its __init__ -/
theorem make_map {R : Result → Shared → Prop} {vs : List Value} {kw : List (Str × Value)} (X : K.In s.heap) (hm : PySem.W.makesIn K C = true)
    (hi : PySem.W.findIn K (.ref C) "__init__" = some (some (.ref f))) (hf : PySem.W.typeIn K (.ref f) = some (.type "function"))
    (h : codeAny (model prog w) (A.under (.builtin "type.__call__" ⟨.ref C :: vs, kw⟩)) (.call (.ref f) ⟨.ref (s.heap.objs.size + 1) :: vs, kw⟩) (PySem.W.InitBack (s.heap.objs.size + 1) R)
      { s with heap := (s.heap.push PySem.W.emptyDict).push (PySem.W.instObj C s.heap.objs.size) }) :
    codeAny (model prog w) A (.call (.ref C) ⟨vs, kw⟩) R s := by
  obtain ⟨hh, g, d, t, os⟩ := s
  exact PySem.W.make_core (PySem.W.makes_of X hm) (PySem.W.looks_findIn X hi) (fun self => PySem.W.bind_fn X self hf) (.inl rfl) h
end

/-! ### the attributes as a list of pairs -/
def putF (f : Str) (v : V) : List (Str × V) → List (Str × V)
  | [] => [(f, v)]
  | (g, x) :: r => if g = f then (g, v) :: r else (g, x) :: putF f v r
theorem lookup_putF (f g : Str) (v : V) : ∀ fs : List (Str × V), (putF f v fs).lookup g = if g = f then some v else fs.lookup g
  | [] => by
    show List.lookup g [(f, v)] = _
    by_cases h : g = f
    · have hb : (g == f) = true := beq_iff_eq.mpr h
      simp only [List.lookup, hb, if_pos h]
    · have hb : (g == f) = false := beq_eq_false_iff_ne.mpr h
      simp only [List.lookup, hb, if_neg h]
  | (k, x) :: r => by
    have ih := lookup_putF f g v r
    rw [show putF f v ((k, x) :: r) = (if k = f then (k, v) :: r else (k, x) :: putF f v r) from rfl]
    by_cases hk : k = f
    · rw [if_pos hk]
      by_cases h : g = k
      · have hb : (g == k) = true := beq_iff_eq.mpr h
        simp only [List.lookup, hb, if_pos (h.trans hk)]
      · have hb : (g == k) = false := beq_eq_false_iff_ne.mpr h
        simp only [List.lookup, hb, if_neg (fun e : g = f => h (e.trans hk.symm))]
    · rw [if_neg hk]
      by_cases h : g = k
      · have hb : (g == k) = true := beq_iff_eq.mpr h
        simp only [List.lookup, hb, if_neg (fun e : g = f => hk (h.symm.trans e))]
      · have hb : (g == k) = false := beq_eq_false_iff_ne.mpr h
        simp only [List.lookup, hb]
        exact ih
theorem keys_putF (f : Str) (v : V) : ∀ fs : List (Str × V), f ∈ (putF f v fs).map (·.1) ∧ ∀ g, g ∈ fs.map (·.1) → g ∈ (putF f v fs).map (·.1)
  | [] => ⟨by simp [putF], fun g h => by simp at h⟩
  | (k, x) :: r => by
    obtain ⟨i1, i2⟩ := keys_putF f v r
    rw [show putF f v ((k, x) :: r) = (if k = f then (k, v) :: r else (k, x) :: putF f v r) from rfl]
    by_cases hk : k = f
    · rw [if_pos hk]
      subst hk
      exact ⟨by simp, fun g h => by simpa using h⟩
    · rw [if_neg hk]
      refine ⟨?_, fun g h => ?_⟩
      · rw [List.map_cons]
        exact List.mem_cons_of_mem _ i1
      · rw [List.map_cons] at h ⊢
        rcases List.mem_cons.mp h with e | e
        · exact List.mem_cons.mpr (.inl e)
        · exact List.mem_cons_of_mem _ (i2 g e)
theorem length_putF (f : Str) (v : V) : ∀ fs : List (Str × V), (putF f v fs).length ≤ fs.length + 1
  | [] => by simp [putF]
  | (k, x) :: r => by
    have ih := length_putF f v r
    rw [show putF f v ((k, x) :: r) = (if k = f then (k, v) :: r else (k, x) :: putF f v r) from rfl]
    by_cases hk : k = f
    · rw [if_pos hk, List.length_cons, List.length_cons]; omega
    · rw [if_neg hk, List.length_cons, List.length_cons]; omega

theorem RelO.some_of {v : V} {o : Option Value} (r : RelO (some v) o) : ∃ u, o = some u ∧ RelV v u := by
  cases o with
  | none => exact (show False from r).elim
  | some u => exact ⟨u, rfl, r⟩
theorem RelO.none_of {o : Option Value} (r : RelO none o) : o = none := by
  cases o with
  | none => rfl
  | some u => exact (show False from r).elim
theorem handed_of {v : V} {u : Value} (r : RelV v u) : PySem.W.handedIn u = true := by
  cases v with
  | non => cases (show u = Value.none from r); rfl
  | bl b => cases (show u = Value.bool b from r); rfl
  | int i => obtain ⟨t, e⟩ := (show ∃ t, u = Value.int i t from r); cases e; rfl
  | str x => obtain ⟨t, e⟩ := (show ∃ t, u = Value.str x t from r); cases e; rfl
  | byt b => obtain ⟨t, e⟩ := (show ∃ t, u = Value.bytes b t from r); cases e; rfl
  | flt b => obtain ⟨t, e⟩ := (show ∃ t, u = Value.float b t from r); cases e; rfl
  | ref a => cases (show u = Value.ref a from r); rfl
  | ty n => cases (show u = Value.type n from r); rfl

section
variable {P : Program} {w : World} {H H' : Hp} {h h' : Heap} {a C dx : Addr} {fs fs' : List (Str × V)}
theorem ins_get (hok : HOk P w H h) (e : H a = some (.ins C dx fs)) : ∃ mA, ObjM h a dx C mA ∧ (∀ f, RelO (fs.lookup f) (mA f)) ∧ PySem.Within mA (fs.map (·.1)) ∧ fs.length ≤ 1000 ∧ H dx = some (.own a) := by
  obtain ⟨d, z, ne, ob, mA, n, r, q⟩ := (show ObjOk P w H h a (.ins C dx fs) from hok a _ e)
  exact ⟨mA, ⟨ob, n, ne⟩, r, q, z, d⟩
end

/-! ### what of the text a class must have -/
structure Cls (K : PySem.W.Frag) (C : Addr) : Prop where
  pg : PySem.W.plainGet K C Str.empty = true
  hd : PySem.W.hasDictIn K C = true
  po : PySem.W.plainOver K C = true
  sa : PySem.W.findIn K (.ref C) "__setattr__" = some (some (.builtin "object.__setattr__"))
theorem Cls.get {K : PySem.W.Frag} {C : Addr} (c : Cls K C) (f : Str) : PySem.W.plainGet K C f = true := c.pg
/-- no class of it has the name -/
def NoAttr (K : PySem.W.Frag) (C : Addr) (f : Str) : Prop := PySem.W.findIn K (.ref C) f = some none
theorem NoAttr.taker {K : PySem.W.Frag} {C : Addr} {f : Str} (n : NoAttr K C f) : PySem.W.takerIn K C f = some none := by
  unfold PySem.W.takerIn
  rw [show PySem.W.findIn K (.ref C) f = some none from n]
  rfl
/-- a constant of the class -/
structure Con (K : PySem.W.Frag) (C : Addr) (f : Str) (v : V) (u : Value) : Prop where
  at_ : PySem.W.findIn K (.ref C) f = some (some u)
  rel : RelV v u
  get : PySem.W.specialIn K u "__get__" = some none
  cp : PySem.W.copiedNames.contains f = false
/-- a method: a plain def of the class or of one above it -/
structure Meth (K : PySem.W.Frag) (C : Addr) (m : Str) (f : Addr) : Prop where
  at_ : PySem.W.findIn K (.ref C) m = some (some (.ref f))
  fn : PySem.W.isFn K (.ref f) = true
  kp : PySem.W.keepIn K (.ref f) = true

section
variable {X : Cx} {pins : List (Addr × Obj)} {σ : St} {H : Hp} {s : Shared} {a C dx : Addr} {fs : List (Str × V)} {f : Str} {v : V} {A : Around} {E : Value → Shared → Prop}

theorem getattr_ok {b : Bool} {Q : Value → Shared → Prop} (I : Inv X pins σ H s) (e : H a = some (.ins C dx fs)) (c : Cls X.K C) (n : NoAttr X.K C f) (l : fs.lookup f = some v)
    (h : ∀ u s', Inv X pins σ H s' → RelV v u → Q u s') : wpAny (model X.prog X.w) A (getAttr (.ref a) f b) Q E s := by
  obtain ⟨mA, O, r, _, _, _⟩ := ins_get I.hok e
  obtain ⟨u, hu, ru⟩ := RelO.some_of (v := v) (o := mA f) (by rw [← l]; exact r f)
  exact get_map I.kIn O (c.get f) c.hd n hu (handed_of ru) (h u _ (I.tok _) ru)

theorem getmeth_ok {m : Str} {g : Addr} {pl : Sem Bool} {Q : Value × List Value → Shared → Prop} (I : Inv X pins σ H s) (e : H a = some (.ins C dx fs)) (c : Cls X.K C) (k : Meth X.K C m g) (l : fs.lookup m = none)
    (h : Q (.ref g, [.ref a]) s) : wpAny (model X.prog X.w) A (getMethod (.ref a) m pl) Q E s := by
  obtain ⟨mA, O, r, _, _, _⟩ := ins_get I.hok e
  have hn : mA m = none := RelO.none_of (by rw [← l]; exact r m)
  exact get_meth I.kIn O (c.get m) k.at_ k.fn hn h

theorem setattr_ok {y : V} {u : Value} {Q : Unit → Shared → Prop} (I : Inv X pins σ H s) (e : H a = some (.ins C dx fs)) (c : Cls X.K C) (n : NoAttr X.K C f) (hl : fs.length < 1000) (ry : RelV y u)
    (h : ∀ s', Inv X pins σ (upd H a (.ins C dx (putF f y fs))) s' → Q () s') : wpAny (model X.prog X.w) A (setAttr (.ref a) f u) Q E s := by
  obtain ⟨mA, O, r, wi, _, ho⟩ := ins_get I.hok e
  have hz : (fs.map (·.1)).length ≤ sizeLine := by rw [List.length_map, sizeLine_eq]; omega
  refine set_map I.kIn O c.sa c.po n.taker c.hd wi hz fun h' O' sb => h _ ?_
  have hd : ∃ o, h'.get? dx = some o := let ⟨o, _, _, e', _⟩ := O'.ns; ⟨o, e'⟩
  refine I.write (x := a) (e := dx) (by rw [e]; exact True.intro) (.inr ho) (fun b q hb z => (sb.2 b hb).trans z) hd ?_
  refine ⟨by rw [upd_ne O.ne]; exact ho, ?_, O.ne, O'.obj, _, O'.ns, fun g => ?_, fun g hg => ?_⟩
  · have := length_putF f y fs; omega
  · show RelO ((putF f y fs).lookup g) (if g = f then some u else mA g)
    rw [lookup_putF]
    by_cases q : g = f
    · rw [if_pos q, if_pos q]; exact ry
    · rw [if_neg q, if_neg q]; exact r g
  · by_cases q : g = f
    · rw [q]; exact (keys_putF f y fs).1
    · refine (keys_putF f y fs).2 g (wi g fun z => hg ?_)
      show (if g = f then some u else mA g) = none
      rw [if_neg q]; exact z

/-- a new instance, tracked, without attributes -/
theorem Inv.made (I : Inv X pins σ H s) : Inv X pins σ (upd (upd H s.heap.objs.size (.own (s.heap.objs.size + 1))) (s.heap.objs.size + 1) (.ins C s.heap.objs.size []))
    { s with heap := (s.heap.push PySem.W.emptyDict).push (PySem.W.instObj C s.heap.objs.size) } := by
  have e1 : (s.heap.push PySem.W.emptyDict).get? s.heap.objs.size = some PySem.W.emptyDict := Heap.get?_push_size s.heap rfl
  have e2 : ((s.heap.push PySem.W.emptyDict).push (PySem.W.instObj C s.heap.objs.size)).get? (s.heap.objs.size + 1) = some (PySem.W.instObj C s.heap.objs.size) := by
    have := Heap.get?_push_size (s.heap.push PySem.W.emptyDict) (o := PySem.W.instObj C s.heap.objs.size) rfl
    rwa [Heap.size_push] at this
  have e3 : (s.heap.push PySem.W.emptyDict).Ns s.heap.objs.size (fun _ => none) := ⟨PySem.W.emptyDict, #[], _, e1, rfl, (fun e he => absurd he (by simp)), fun _ => rfl⟩
  have I1 := I.laid (a := s.heap.objs.size) (o := .own (s.heap.objs.size + 1)) (h' := s.heap.push PySem.W.emptyDict) (t' := s.toks) (fun b u q => Heap.get?_push_of_some _ q) (Nat.le_refl _) ⟨_, e1⟩
  refine I1.laid (a := s.heap.objs.size + 1) (o := .ins C s.heap.objs.size []) (t' := s.toks) (fun b u q => Heap.get?_push_of_some _ q) (Nat.le_of_eq (Heap.size_push _ _)) ?_
  have ne : s.heap.objs.size ≠ s.heap.objs.size + 1 := Nat.ne_of_lt (Nat.lt_succ_self _)
  refine ⟨by rw [upd_ne ne, upd_same], Nat.zero_le _, ne, e2, fun _ => none, (Heap.Ns1.of_empty e3).at fun o q => Heap.get?_push_of_some _ q, fun _ => True.intro, fun y hy => absurd rfl hy⟩

/-- e.f where nothing but the object is asked: through attributeBase (super) and the last hold -/
theorem attr_of {prog : Program} {w : World} {env : Env} {e : Expr} {f : Str} {pos : Pos} {s : Shared} {Q : Value → Shared → Prop} (hb : attributeBase e f env (eval e env) = eval e env)
    (h : wpAny (model prog w) A (eval e env) (fun o s₁ => wpAny (model prog w) A (getAttr o f true) Q E s₁) E s) : wpAny (model prog w) A (eval (.Attribute e f pos) env) Q E s :=
  Attribute_any_ h (by rw [arm_eval_Attribute, hb])
end

/-! ### readings and rules -/
/-- e.f, an attribute of the instance -/
def tFld (K : PySem.W.Frag) (ta : TE) (f : Str) : TE := fun σ H Q => ta σ H fun x H1 => ∃ a C dx fs v, x = .ref a ∧ H1 a = some (.ins C dx fs) ∧ Cls K C ∧ NoAttr K C f ∧ fs.lookup f = some v ∧ Q v H1
/-- e.f, a constant of the class -/
def tCon (K : PySem.W.Frag) (ta : TE) (f : Str) : TE := fun σ H Q => ta σ H fun x H1 => ∃ a C dx fs v u, x = .ref a ∧ H1 a = some (.ins C dx fs) ∧ Cls K C ∧ Con K C f v u ∧ fs.lookup f = none ∧ Q v H1
/-- e.f = value -/
def sFld (K : PySem.W.Frag) (ta tv : TE) (f : Str) : TS := fun D σ H => tv σ H fun y H1 => ta σ H1 fun x H2 => ∃ a C dx fs, x = .ref a ∧ H2 a = some (.ins C dx fs) ∧ Cls K C ∧ NoAttr K C f ∧ fs.length < 1000 ∧
  D.nx σ (upd H2 a (.ins C dx (putF f y fs)))
/-- an augmented operator on two values -/
def InOp (X : Cx) (op : Operator) (rd : V → V → Hp → VK → Prop) : Prop :=
  ∀ (pins : List (Addr × Obj)) (s : Shared) (σ : St) (H : Hp) (x y : V) (u v : Value) (Q : VK), Inv X pins σ H s → RelV x u → RelV y v → rd x y H Q → wpAny (model X.prog X.w) X.A (inplaceOp op u v) (EP X pins σ Q) X.xe s
/-- e.f op= value -/
def sFldAug (K : PySem.W.Frag) (ta tv : TE) (rd : V → V → Hp → VK → Prop) (f : Str) : TS := fun D σ H => ta σ H fun x H1 => ∃ a C dx fs v, x = .ref a ∧ H1 a = some (.ins C dx fs) ∧ Cls K C ∧ NoAttr K C f ∧ fs.lookup f = some v ∧
  tv σ H1 fun y H2 => rd v y H2 fun z H3 => ∃ dx' fs', H3 a = some (.ins C dx' fs') ∧ fs'.length < 1000 ∧ D.nx σ (upd H3 a (.ins C dx' (putF f z fs')))

section
variable {X : Cx} {o e value : Expr} {f : Str} {pos pos' tpos : Pos} {ta tv : TE}
theorem pe_fld (he : PE X e ta) (hb : attributeBase e f X.env (eval e X.env) = eval e X.env) : PE X (.Attribute e f pos) (tFld X.K ta f) := by
  intro pins s σ H Q I h
  refine attr_of hb (thn (he pins s σ H _ I h) fun u s1 ⟨x, H1, I1, rx, a, C, dx, fs, v, ex, ea, c, n, l, q⟩ => ?_)
  subst ex
  obtain rfl : u = Value.ref a := rx
  exact getattr_ok I1 ea c n l fun u' s2 I2 ru => ⟨v, H1, I2, ru, q⟩
theorem ps_fld (ha : PE X o ta) (hv : PE X value tv) (hs : swapsWith value (some (.Attribute o f pos')) pos.line X.env = pure false) : PS X (.Assign [.Attribute o f pos'] value pos) (sFld X.K ta tv f) := by
  intro pins s σ H D I h
  refine plainObj_wpAny_Assign_Attribute (thn (hv pins s σ H _ I h) fun u s1 ⟨y, H1, I1, ry, q⟩ => thn (ha pins s1 σ H1 _ I1 q) fun ov s2 ⟨x, H2, I2, rx, a, C, dx, fs, ex, ea, c, n, l, q2⟩ => ?_) hs
  subst ex
  obtain rfl : ov = Value.ref a := rx
  exact setattr_ok I2 ea c n l ry fun s3 I3 => ⟨σ, _, I3, q2⟩
def rAdd : V → V → Hp → VK → Prop := fun x y H Q => ∃ i j, x = .int i ∧ y = .int j ∧ Q (.int (i + j)) H
def rSub : V → V → Hp → VK → Prop := fun x y H Q => ∃ i j, x = .int i ∧ y = .int j ∧ Q (.int (i - j)) H
end

/-! ### isinstance -/
section
variable {X : Cx} {pins : List (Addr × Obj)} {σ : St} {H : Hp} {s : Shared} {A : Around} {E : Value → Shared → Prop} {Q : Value → Shared → Prop} {c : Value} {b : Bool}
/-- the type of a value, as the fragment's deciders take it; for an instance its class -/
inductive TyOf (K : PySem.W.Frag) (H : Hp) : V → Value → Prop where
  | non : TyOf K H .non (.type "NoneType")
  | bl (x : Bool) : TyOf K H (.bl x) (.type "bool")
  | int (i : Int) : TyOf K H (.int i) (.type "int")
  | str (x : Str) : TyOf K H (.str x) (.type "str")
  | flt (x : UInt64) : TyOf K H (.flt x) (.type "float")
  | lst {a : Addr} {xs : List V} (e : H a = some (.lst xs)) : TyOf K H (.ref a) (.type "list")
  | frz {a : Addr} {o : Obj} {xs : List V} (e : H a = some (.frz o (.lst xs))) : TyOf K H (.ref a) (.type "list")
  | tup {a : Addr} {xs : List V} (e : H a = some (.tup xs)) : TyOf K H (.ref a) (.type "tuple")
  | dK {a : Addr} {kvs : List (Key × V)} (e : H a = some (.dK kvs)) : TyOf K H (.ref a) (.type "dict")
  | dT {a : Addr} {kvs : List (List Key × V)} (e : H a = some (.dT kvs)) : TyOf K H (.ref a) (.type "dict")
  | ins {a C dx : Addr} {fs : List (Str × V)} (e : H a = some (.ins C dx fs)) (cl : Cls K C) (ha : PySem.W.findIn K (.ref C) "__class__" = some (some (.builtin "object.__class__")))
      (hn : PySem.W.specialIn K (.builtin "object.__class__") "__get__" = some (some (.builtin "getset_descriptor.__get__"))) (htk : PySem.W.takesIn K (.builtin "object.__class__") = some true)
      (hm : PySem.W.mroIn K C (.type "object") = some true) : TyOf K H (.ref a) (.ref C)
end
end L2

namespace L2
open PySem PySem.Spec PyProof.Rows

/-! ### room -/
structure Room (k : Nat) (A : Around) : Prop where
  hd : A.handled = none
  dp : A.depth + 3 * k + 5 < recursionLimit
  un : A.units + 16 * k + 200 < cLine
  gd : A.guards = some []
theorem Room.mono {j k : Nat} {A : Around} (r : Room k A) (h : j ≤ k) : Room j A := ⟨r.hd, by have := r.dp; omega, by have := r.un; omega, r.gd⟩
theorem Room.deeper {k : Nat} {A : Around} (r : Room (k + 1) A) (env : Env) : Room k (A.deeper env) :=
  ⟨r.hd, by have := r.dp; show A.depth + 1 + 3 * k + 5 < _; omega, by have := r.un; show A.units + 3 + 16 * k + 200 < _; omega, r.gd⟩
theorem Room.in1 {k : Nat} {A : Around} (r : Room (k + 1) A) : Room k A.in1 :=
  ⟨r.hd, by have := r.dp; show A.depth + 3 * k + 5 < _; omega, by have := r.un; show A.units + 1 + 16 * k + 200 < _; omega, r.gd⟩
theorem make_depth {A : Around} {C : Addr} {us : List Value} {kw : List (Str × Value)} : (A.under (.builtin "type.__call__" ⟨.ref C :: us, kw⟩)).depth = A.depth + 1 := by
  first | rfl | simp [Around.under, Code.weight, Code.isCreation, Code.isGuard, Code.isCaller, Code.frames, Code.isFrame, guardIds]
theorem make_units {A : Around} {C : Addr} {us : List Value} {kw : List (Str × Value)} : (A.under (.builtin "type.__call__" ⟨.ref C :: us, kw⟩)).units = A.units + 1 := by
  first | rfl | simp [Around.under, Code.cUnits, Code.frames, Code.isFrame]
theorem make_guards {A : Around} {C : Addr} {us : List Value} {kw : List (Str × Value)} (h : A.guards = some []) : (A.under (.builtin "type.__call__" ⟨.ref C :: us, kw⟩)).guards = some [] := by
  first | exact h | simp [Around.under, Code.guards, Code.isGuard, guardIds, pushGuards, h]
theorem Room.make {k : Nat} {A : Around} (r : Room (k + 1) A) (C : Addr) (us : List Value) (kw : List (Str × Value)) : Room k (A.under (.builtin "type.__call__" ⟨.ref C :: us, kw⟩)) :=
  ⟨r.hd, by have := r.dp; rw [make_depth]; omega, by have := r.un; rw [make_units]; omega, make_guards r.gd⟩
theorem Room.depth {k : Nat} {A : Around} (r : Room k A) : A.depth < recursionLimit := by have := r.dp; omega
theorem Room.units {k : Nat} {A : Around} (r : Room k A) : A.units + 64 < cLine := by have := r.un; omega
/-! ### argument lists and displays -/
def tNil : TA := fun _ H Q => Q [] H
def tCons (ta : TE) (tr : TA) : TA := fun σ H Q => ta σ H fun x H1 => tr σ H1 fun xs H2 => Q (x :: xs) H2
section
variable {X : Cx} {e : Expr} {es : List Expr} {te : TE} {t : TA} {pos : Pos}
theorem pa_nil : PA X [] tNil := fun _ _ _ _ H Q I h => Calls.spliced_nil ⟨[], H, I, .nil, h⟩
theorem pa_cons (ha : PE X e te) (hr : PA X es t) (hs : starEach (e :: es) X.env = (false, eval e X.env) :: starEach es X.env := by rfl) : PA X (e :: es) (tCons te t) := by
  intro pos pins s σ H Q I h
  rw [hs]
  show wpAny _ _ (spliced ((false, eval e X.env) :: backTo pos (starEach es X.env))) _ _ s
  refine Calls.spliced_cons (thn (ha pins s σ H _ I h) fun u s1 ⟨x, H1, I1, r1, q1⟩ => ?_)
  exact thn (hr pos pins s1 σ H1 _ I1 q1) fun us s2 ⟨xs, H2, I2, r2, q2⟩ => ⟨x :: xs, H2, I2, .cons r1 r2, q2⟩

/-- a tuple, a list of written items -/
def tTup (t : TA) : TE := fun σ H Q => t σ H fun xs H1 => xs.length ≤ sizeLine ∧ ∀ p, H1 p = none → Q (.ref p) (upd H1 p (.tup xs))
def tLst (t : TA) : TE := fun σ H Q => t σ H fun xs H1 => xs.length ≤ sizeLine ∧ ∀ p, H1 p = none → Q (.ref p) (upd H1 p (.lst xs))
theorem pe_tup {x1} (h : PA X es t) : PE X (.Tuple es x1 pos) (tTup t) := by
  intro pins s σ H Q I hq
  refine wpAny_Tuple_spliced (thn (h pos pins s σ H _ I hq) fun us s1 ⟨xs, H1, I1, r, z, q⟩ => ⟨by rw [← r.length]; exact z, ?_⟩)
  have hf : H1 s1.heap.objs.size = none := I1.hok.fresh (Nat.le_refl _)
  refine ⟨.ref s1.heap.objs.size, upd H1 s1.heap.objs.size (.tup xs), I1.laid (t' := s1.toks) (fun b u e => Heap.get?_push_of_some _ e) (Nat.le_refl _) ?_, rfl, q _ hf⟩
  exact ⟨z, us, r, ⟨_, Heap.get?_push_size _ rfl, rfl, _, rfl⟩⟩
theorem pe_lst (h : PA X es t) : PE X (.List es pos) (tLst t) := by
  intro pins s σ H Q I hq
  refine wpAny_List_spliced (thn (h pos pins s σ H _ I hq) fun us s1 ⟨xs, H1, I1, r, z, q⟩ => ⟨by rw [← r.length]; exact z, ?_⟩)
  have hf : H1 s1.heap.objs.size = none := I1.hok.fresh (Nat.le_refl _)
  refine ⟨.ref s1.heap.objs.size, upd H1 s1.heap.objs.size (.lst xs), I1.laid (t' := s1.toks) (fun b u e => Heap.get?_push_of_some _ e) (Nat.le_refl _) ?_, rfl, q _ hf⟩
  exact ⟨z, us, 0, r, Heap.get?_push_size _ rfl⟩
end

/-! ### what a def promises -/
/-- a def's promise: the bound arguments in the parameters' order, the heap, the wanted end, the wanted exception -/
abbrev Sp := List V → Hp → VK → XK → Prop
/-- how an exception lies behind a call (file 08 gives it): the callers' frames, abstract heap and state ahead of the call, the wish, the exception, the state -/
abbrev CXT := List Env → Hp → Shared → XK → Value → Shared → Prop

/-- the state at a call -/
structure Env0 (P : Program) (w : World) (K : PySem.W.Frag) (mg : Str → Option Value) (base : Heap) (A : Around) (outer : List Env) (s : Shared) (H : Hp) : Prop where
  frames : A.frames = some outer
  mod : Mod K mg base
  bs : ∀ b o, base.get? b = some o → s.heap.get? b = some o ∧ H b = none
  bsz : base.objs.size ≤ s.heap.objs.size
  funs : s.heap.FunFrames base outer
  frf : ∀ b ∈ frs outer, H b = none
  hok : HOk P w H s.heap
  bare : AllBare s.gens
/-- a call's end -/
def CE (outer : List Env) (P : Program) (w : World) (H : Hp) (s : Shared) (Q : VK) (u : Value) (s' : Shared) : Prop :=
  ∃ v H', s'.os = s.os ∧ AllBare s'.gens ∧ Un (frs outer) [] H H' s.heap s'.heap ∧ HOk P w H' s'.heap ∧ RelV v u ∧ Q v H'
def CR (CX : CXT) (outer : List Env) (P : Program) (w : World) (H : Hp) (s : Shared) (Q : VK) (E : XK) (r : Result) (s' : Shared) : Prop :=
  match r with
  | .ok (.ret u) => CE outer P w H s Q u s'
  | .ok _ => False
  | .error e => CX outer H s E e s'
structure FnOk (P : Program) (w : World) (K : PySem.W.Frag) (mg : Str → Option Value) (base : Heap) (CX : CXT) (k : Nat) (f : Addr) (fd : FuncData) (ps : List Str) (sp : Sp) : Prop where
  len : ∀ vs H Q E, sp vs H Q E → vs.length = ps.length
  run : ∀ (A : Around) (outer : List Env) (s : Shared) (H : Hp) (args : Args) (us : List Value) (vs : List V) (Q : VK) (E : XK), Room k A → Env0 P w K mg base A outer s H → BindsTo s fd args (ps.zip us) → Vals vs us → sp vs H Q E →
    codeAny (model P w) A (.call (.ref f) args) (CR CX outer P w H s Q E) s
theorem FnOk.mono {P : Program} {w : World} {K : PySem.W.Frag} {mg : Str → Option Value} {base : Heap} {CX : CXT} {j k : Nat} {f : Addr} {fd : FuncData} {ps : List Str} {sp : Sp} (F : FnOk P w K mg base CX j f fd ps sp) (h : j ≤ k) :
    FnOk P w K mg base CX k f fd ps sp := ⟨F.len, fun A outer s H args us vs Q E hr => F.run A outer s H args us vs Q E (hr.mono h)⟩
/-- a weaker promise -/
theorem FnOk.imp {P : Program} {w : World} {K : PySem.W.Frag} {mg : Str → Option Value} {base : Heap} {CX : CXT} {k : Nat} {f : Addr} {fd : FuncData} {ps : List Str} {sp sp' : Sp} (F : FnOk P w K mg base CX k f fd ps sp)
    (h : ∀ vs H Q E, sp' vs H Q E → sp vs H Q E) : FnOk P w K mg base CX k f fd ps sp' :=
  ⟨fun vs H Q E q => F.len vs H Q E (h _ _ _ _ q), fun A outer s H args us vs Q E hr he hb hv hs => F.run A outer s H args us vs Q E hr he hb hv (h _ _ _ _ hs)⟩

theorem Env0.make {P : Program} {w : World} {K : PySem.W.Frag} {mg : Str → Option Value} {base : Heap} {A : Around} {outer : List Env} {s : Shared} {H : Hp} (e : Env0 P w K mg base A outer s H) (C : Addr) (us : List Value) (kw : List (Str × Value)) :
    Env0 P w K mg base (A.under (.builtin "type.__call__" ⟨.ref C :: us, kw⟩)) outer s H := ⟨by first | exact e.frames | (simpa [Around.under, Code.envs, Code.isFrame, pushEnvs] using e.frames), e.mod, e.bs, e.bsz, e.funs, e.frf, e.hok, e.bare⟩
theorem Env0.in1 {P : Program} {w : World} {K : PySem.W.Frag} {mg : Str → Option Value} {base : Heap} {A : Around} {outer : List Env} {s : Shared} {H : Hp} (e : Env0 P w K mg base A outer s H) :
    Env0 P w K mg base A.in1 outer s H := ⟨e.frames, e.mod, e.bs, e.bsz, e.funs, e.frf, e.hok, e.bare⟩

section
variable {X : Cx} {pins : List (Addr × Obj)} {σ : St} {H : Hp} {s s' : Shared}
/-- from a body: what a callee wants -/
theorem Inv.env0 (I : Inv X pins σ H s) : Env0 X.prog X.w X.K X.mg X.base X.A X.stack s H :=
  ⟨I.ok.frames, I.ok.mod, I.bs, Nat.le_trans I.ok.bsz I.sz, I.stack, I.stkFree, I.hok, I.bare⟩
/-- behind a call -/
theorem Inv.after {Q : VK} {u : Value} (I : Inv X pins σ H s) (h : CE X.stack X.prog X.w H s Q u s') : EP X pins σ Q u s' := by
  obtain ⟨v, H', os, bare, un, hok, r, q⟩ := h
  obtain ⟨hh, g, d, t, os'⟩ := s'
  obtain rfl : os' = s.os := os
  exact ⟨v, H', I.call (h' := hh) (g' := g) (d' := d) (t' := t) (ch := []) un hok bare (fun b z => absurd z (by simp)), r, q⟩
end

/-! ### calls -/
/-- f(..): the written arguments, then the defaults dvs; E: what is wanted of an exception -/
def tCall (sp : Sp) (dvs : List V) (E : XK) (t : TA) : TE := fun σ H Q => t σ H fun vs H1 => sp (vs ++ dvs) H1 Q E
/-- o.m(..) of an instance of the class at C -/
def tMeth (C : Addr) (m : Str) (sp : Sp) (dvs : List V) (E : XK) (ta : TE) (t : TA) : TE := fun σ H Q => ta σ H fun x H1 => ∃ a dx fs, x = .ref a ∧ H1 a = some (.ins C dx fs) ∧ fs.lookup m = none ∧
  t σ H1 fun vs H2 => sp (x :: (vs ++ dvs)) H2 Q E
/-- C(..): a new instance and its dict, then __init__ -/
def tMake (C : Addr) (sp : Sp) (dvs : List V) (E : XK) (t : TA) : TE := fun σ H Q => t σ H fun vs H1 => ∀ x dx, H1 x = none → H1 dx = none → dx ≠ x →
  sp (.ref x :: (vs ++ dvs)) (upd (upd H1 dx (.own x)) x (.ins C dx [])) (fun v H2 => v = .non ∧ Q (.ref x) H2) E

/-- how the parameters are bound: us the positional arguments, kw the keywords' values by name, ds the defaults that fill up -/
def Binds (K : PySem.W.Frag) (fd : FuncData) (ps : List Str) (ds : List Value) : Prop :=
  ∀ (s : Shared) (us : List Value), K.In s.heap → (us ++ ds).length = ps.length → BindsTo s fd ⟨us, []⟩ (ps.zip (us ++ ds))
/-- every parameter is given -/
theorem Binds.all {K : PySem.W.Frag} {fd : FuncData} {ps : List Str} (h : ∀ us : List Value, us.length = ps.length → bindArgs fd ⟨us, []⟩ = pure (ps.zip us)) : Binds K fd ps [] := fun s us _ hl => by
  rw [List.append_nil] at hl ⊢
  exact .of_eq (h us hl)

/-- an exception of a callee reaches what this body wants of exceptions -/
def Passes (CX : CXT) (X : Cx) (E : XK) : Prop := ∀ (pins : List (Addr × Obj)) (σ : St) (H : Hp) (s : Shared) (e : Value) (s' : Shared), Inv X pins σ H s → CX X.stack H s E e s' → X.xe e s'

section
variable {X : Cx} {CX : CXT} {k : Nat} {f C : Addr} {fd : FuncData} {ps : List Str} {sp : Sp} {dvs : List V} {ds : List Value} {E : XK} {x m : Str} {p pos apos : Pos} {e o : Expr} {es : List Expr} {ta : TE} {t : TA}

/-- the callee runs -/
theorem run_fn {pins : List (Addr × Obj)} {σ : St} {H : Hp} {s : Shared} {Q : VK} {us : List Value} {vs : List V} (F : FnOk X.prog X.w X.K X.mg X.base CX k f fd ps sp) (hr : Room k X.A) (hb : Binds X.K fd ps ds) (hd : Vals dvs ds) (hx : Passes CX X E)
    (I : Inv X pins σ H s) (r : Vals vs us) (h : sp (vs ++ dvs) H Q E) : wpAny (model X.prog X.w) X.A (call (.ref f) us) (EP X pins σ Q) X.xe s := by
  have r2 : Vals (vs ++ dvs) (us ++ ds) := r.append hd
  have hl : (us ++ ds).length = ps.length := by rw [← r2.length]; exact F.len _ _ _ _ h
  refine wpAny_call (codeAny_mono (F.run X.A X.stack s H ⟨us, []⟩ (us ++ ds) (vs ++ dvs) Q E hr I.env0 (hb s us I.kIn hl) r2 h) fun r s' hq => ?_)
  cases r with
  | error e => exact hx pins σ H s e s' I hq
  | ok fl =>
    cases fl with
    | ret u => exact I.after hq
    | next => exact False.elim hq
    | brk => exact False.elim hq
    | cont => exact False.elim hq

theorem pe_call (F : FnOk X.prog X.w X.K X.mg X.base CX k f fd ps sp) (hr : Room k X.A) (hg : Gl X x) (hm : X.mg x = some (.ref f)) (hk : PySem.W.keepIn X.K (.ref f) = true) (hb : Binds X.K fd ps ds) (hd : Vals dvs ds) (hx : Passes CX X E)
    (ha : PA X (e :: es) t) (hdb : (x == ("__debug__" : Str)) = false := by decide) (he : starEach (e :: es) X.env = (false, eval e X.env) :: starEach es X.env := by rfl) (hpl : (backTo pos (starEach es X.env)).any (·.1) = false := by rfl) :
    PE X (.Call (.Name x p) (e :: es) [] pos) (tCall sp dvs E t) := by
  intro pins s σ H Q I h
  refine wpAny_Call_Name_kw (ld_glob I hg hm ?_ hdb)
  refine PySem.W.callWith_K (h₀ := X.base) I.ok.mod.kin hk (thn (ha pos pins s σ H _ I h) fun us s1 ⟨vs, H1, I1, r, q⟩ => ⟨I1.kIn, ?_⟩) he hpl
  exact run_fn F hr hb hd hx I1 r q
/-- o.m(e, ..) -/
theorem pe_meth {pl : Sem Bool} (he : PE X o ta) (c : Cls X.K C) (hm : Meth X.K C m f) (F : FnOk X.prog X.w X.K X.mg X.base CX k f fd ps sp) (hr : Room k X.A) (hb : Binds X.K fd ps ds) (hd : Vals dvs ds) (hx : Passes CX X E) (ha : PA X (e :: es) t)
    (hst : starEach (e :: es) X.env = (false, eval e X.env) :: starEach es X.env := by rfl) (hpl : (backTo pos (starEach es X.env)).any (·.1) = false := by rfl)
    (ht : eval (.Call (.Attribute o m apos) (e :: es) [] pos) X.env = (do
      let ov ← eval o X.env
      standAt apos.atName
      let (f, first) ← holding [ov] (getMethod ov m pl)
      callWith pos f first (backTo pos (starEach (e :: es) X.env)) (backToKw pos (keywordEach [] X.env))) := by rfl) :
    PE X (.Call (.Attribute o m apos) (e :: es) [] pos) (tMeth C m sp dvs E ta t) := by
  intro pins s σ H Q I h
  refine PySem.W.methodCall_KW (pl := pl) (thn (he pins s σ H _ I h) fun u s1 ⟨x, H1, I1, rx, a, dx, fs, ex, ea, l, q⟩ => ?_) ht
  subst ex
  obtain rfl : u = Value.ref a := rx
  refine getmeth_ok I1 ea c hm l ?_
  refine PySem.W.callWith_K (first := [.ref a]) (h₀ := X.base) I.ok.mod.kin hm.kp (thn (ha pos pins s1 σ H1 _ I1 q) fun us s2 ⟨vs, H2, I2, r, q2⟩ => ⟨I2.kIn, ?_⟩) hst hpl
  exact run_fn (us := .ref a :: us) (vs := .ref a :: vs) F hr hb hd hx I2 (.cons rfl r) q2
/-- what a class must have to be made -/
structure Mk (K : PySem.W.Frag) (C f : Addr) : Prop where
  makes : PySem.W.makesIn K C = true
  init : PySem.W.findIn K (.ref C) "__init__" = some (some (.ref f))
  fn : PySem.W.isFn K (.ref f) = true
  kp : PySem.W.keepIn K (.ref C) = true

theorem run_make {pins : List (Addr × Obj)} {σ : St} {H : Hp} {s : Shared} {Q : VK} {us : List Value} {vs : List V} (M : Mk X.K C f) (F : FnOk X.prog X.w X.K X.mg X.base CX k f fd ps sp) (hr : Room (k + 1) X.A) (hb : Binds X.K fd ps ds) (hd : Vals dvs ds)
    (hx : Passes CX X E) (I : Inv X pins σ H s) (r : Vals vs us)
    (h : ∀ x dx, H x = none → H dx = none → dx ≠ x → sp (.ref x :: (vs ++ dvs)) (upd (upd H dx (.own x)) x (.ins C dx [])) (fun v H2 => v = .non ∧ Q (.ref x) H2) E) :
    wpAny (model X.prog X.w) X.A (call (.ref C) us) (EP X pins σ Q) X.xe s := by
  have hq := h (s.heap.objs.size + 1) s.heap.objs.size (I.hok.fresh (Nat.le_succ _)) (I.hok.fresh (Nat.le_refl _)) (Nat.ne_of_lt (Nat.lt_succ_self _))
  have I2 := Inv.made (C := C) I
  have r2 : Vals (V.ref (s.heap.objs.size + 1) :: (vs ++ dvs)) (Value.ref (s.heap.objs.size + 1) :: (us ++ ds)) := .cons rfl (r.append hd)
  have hl : (Value.ref (s.heap.objs.size + 1) :: us ++ ds).length = ps.length := by
    have e := r2.length
    rw [F.len _ _ _ _ hq] at e
    exact e.symm
  refine wpAny_call (make_map (f := f) I.kIn M.makes M.init (beq_iff_eq.mp M.fn) (codeAny_mono (F.run _ X.stack _ _ ⟨Value.ref (s.heap.objs.size + 1) :: us, []⟩ (Value.ref (s.heap.objs.size + 1) :: (us ++ ds)) _ _ E (hr.make C us [])
    (I2.env0.make C us []) (hb _ (Value.ref (s.heap.objs.size + 1) :: us) I2.kIn hl) r2 hq) fun r s' hq' => ?_))
  cases r with
  | error e => exact hx pins σ _ _ e s' I2 hq'
  | ok fl =>
    cases fl with
    | ret u =>
      obtain ⟨v, H', I3, rv, ev, q3⟩ := I2.after hq'
      subst ev
      exact ⟨rv, ⟨V.ref (s.heap.objs.size + 1), H', I3, rfl, q3⟩⟩
    | next => exact False.elim hq'
    | brk => exact False.elim hq'
    | cont => exact False.elim hq'
theorem pe_make0 (M : Mk X.K C f) (F : FnOk X.prog X.w X.K X.mg X.base CX k f fd ps sp) (hr : Room (k + 1) X.A) (hg : Gl X x) (hm : X.mg x = some (.ref C)) (hb : Binds X.K fd ps ds) (hd : Vals dvs ds) (hx : Passes CX X E)
    (hdb : (x == ("__debug__" : Str)) = false := by decide) : PE X (.Call (.Name x p) [] [] pos) (tMake C sp dvs E tNil) := by
  intro pins s σ H Q I h
  refine wpAny_Call_Name_kw (ld_glob I hg hm ?_ hdb)
  exact PySem.W.callWith_K0 I.kIn M.kp (run_make (us := []) M F hr hb hd hx I .nil h)
end

/-! ### keywords -/
/-- the values of the keywords, from the left -/
def PK (X : Cx) (kws : List Keyword) (t : TA) : Prop :=
  ∀ (pos : Pos) (pins : List (Addr × Obj)) (s : Shared) (σ : St) (H : Hp) (Q : List V → Hp → Prop), Inv X pins σ H s → t σ H Q → wpAny (model X.prog X.w) X.A (evalAll ((backToKw pos (keywordEach kws X.env)).map (·.2))) (AP X pins σ Q) X.xe s
section
variable {X : Cx} {CX : CXT} {k : Nat} {f C : Addr} {fd : FuncData} {ps ks : List Str} {sp : Sp} {E : XK} {x m : Str} {p pos apos kpos : Pos} {e o : Expr} {es : List Expr} {kws : List Keyword} {te ta : TE} {t tk : TA} {nm : Option Str}
/-- how a call with keywords binds: g puts the positional values us and the keywords' values ws (names ks) in the parameters' order, defaults among them -/
structure KBinds (K : PySem.W.Frag) (fd : FuncData) (ps ks : List Str) (g : List Value → List Value → List Value) (gV : List V → List V → List V) : Prop where
  to : ∀ (s : Shared) (us ws : List Value), K.In s.heap → (g us ws).length = ps.length → BindsTo s fd ⟨us, ks.zip ws⟩ (ps.zip (g us ws))
  rel : ∀ {vs : List V} {us : List Value} {zs : List V} {ws : List Value}, Vals vs us → Vals zs ws → Vals (gV vs zs) (g us ws)
def tCallK (sp : Sp) (gV : List V → List V → List V) (E : XK) (t tk : TA) : TE := fun σ H Q => t σ H fun vs H1 => tk σ H1 fun zs H2 => sp (gV vs zs) H2 Q E
variable {g : List Value → List Value → List Value} {gV : List V → List V → List V}
end

/-! ### a def's body keeps its promise -/
/-- names: the parameters first -/
structure FnScope (N P : List Str) (sc : Scope) : Prop where
  kind : sc.kind = .function
  co : sc.isCoroutine = false
  gen : sc.isGenerator = false
  nd : N.Nodup
  pre : N.take P.length = P
  par : ∀ x ∈ P, sc.names.lookup x = some .local ∨ sc.names.lookup x = some .cell
  nofree : ∀ y ∈ sc.names, y.2 ≠ .free

theorem bindL_out {kindOf : Str → Option NameKind} {x : Str} : ∀ {binds : List (Str × Value)} {m : Str → Option Value}, (∀ v, (x, v) ∉ binds) → bindL kindOf binds m x = m x
  | [], _, _ => rfl
  | (n, v) :: r, m, h => by
    unfold bindL
    rw [bindL_out fun w hw => h w (List.mem_cons_of_mem _ hw)]
    split
    · have : x ≠ n := by rintro rfl; exact h v List.mem_cons_self
      simp [this]
    · rfl
theorem bindC_out {kindOf : Str → Option NameKind} {x : Str} : ∀ {binds : List (Str × Value)} {m : Str → Option Value}, (∀ v, (x, v) ∉ binds) → bindC kindOf binds m x = m x
  | [], _, _ => rfl
  | (n, v) :: r, m, h => by
    unfold bindC
    rw [bindC_out fun w hw => h w (List.mem_cons_of_mem _ hw)]
    split
    · rfl
    · have : x ≠ n := by rintro rfl; exact h v List.mem_cons_self
      simp [this]
theorem bindL_get {kindOf : Str → Option NameKind} {x : Str} {v : Value} : ∀ {P : List Str} {vs : List Value} {i : Nat} {m : Str → Option Value}, P.Nodup → P[i]? = some x → vs[i]? = some v → kindOf x = some .local →
    bindL kindOf (P.zip vs) m x = some v
  | [], _, _, _, _, h, _, _ => by simp at h
  | _ :: _, [], _, _, _, _, h, _ => by simp at h
  | p :: P, w :: vs, 0, m, nd, h1, h2, hk => by
    simp at h1 h2; subst h1; subst h2
    show bindL kindOf ((p, w) :: P.zip vs) m p = _
    unfold bindL
    rw [bindL_out fun v hv => (List.nodup_cons.mp nd).1 (List.of_mem_zip hv).1, if_pos hk]
    simp
  | p :: P, w :: vs, i + 1, m, nd, h1, h2, hk => by
    show bindL kindOf ((p, w) :: P.zip vs) m x = _
    unfold bindL
    exact bindL_get (i := i) (List.nodup_cons.mp nd).2 (by simpa using h1) (by simpa using h2) hk
theorem bindC_get {kindOf : Str → Option NameKind} {x : Str} {v : Value} : ∀ {P : List Str} {vs : List Value} {i : Nat} {m : Str → Option Value}, P.Nodup → P[i]? = some x → vs[i]? = some v → kindOf x ≠ some .local →
    bindC kindOf (P.zip vs) m x = some v
  | [], _, _, _, _, h, _, _ => by simp at h
  | _ :: _, [], _, _, _, _, h, _ => by simp at h
  | p :: P, w :: vs, 0, m, nd, h1, h2, hk => by
    simp at h1 h2; subst h1; subst h2
    show bindC kindOf ((p, w) :: P.zip vs) m p = _
    unfold bindC
    rw [bindC_out fun v hv => (List.nodup_cons.mp nd).1 (List.of_mem_zip hv).1, if_neg hk]
    simp
  | p :: P, w :: vs, i + 1, m, nd, h1, h2, hk => by
    show bindC kindOf ((p, w) :: P.zip vs) m x = _
    unfold bindC
    exact bindC_get (i := i) (List.nodup_cons.mp nd).2 (by simpa using h1) (by simpa using h2) hk

/-- the names' values at the entry -/
def start (N : List Str) (vs : List V) : St := vs.map some ++ List.replicate (N.length - vs.length) none

/-- the context of a def's body, at its entry; an exception leaves the frame, then lies as CX says -/
def cxOf (CX : CXT) (P : Program) (w : World) (K : PySem.W.Frag) (mg : Str → Option Value) (base : Heap) (N : List Str) (qual : Str) (scope : Scope) (f : Addr) (cd : Value) (A : Around) (outer : List Env) (s : Shared) (H : Hp) (E : XK) : Cx where
  prog := P
  w := w
  K := K
  mg := mg
  base := base
  A := A.deeper (envOfC qual scope s.heap.objs.size f cd)
  N := N
  s₀ := s
  H₀ := H
  env := envOfC qual scope s.heap.objs.size f cd
  outer := outer
  stack := envOfC qual scope s.heap.objs.size f cd :: outer
  ex := []
  calm := true
  fn := fun _ => true
  pn := []
  xe := fun e s' => wpAny (model P w) (A.deeper (envOfC qual scope s.heap.objs.size f cd)) (leaving (envOfC qual scope s.heap.objs.size f cd) e) (fun _ s'' => CX outer H s E e s'') (fun e' s'' => CX outer H s E e' s'') s'

theorem cell_has {sc : Scope} {n : Nat} {x : Str} (h : sc.names.lookup x = some .cell) : ∃ c, (cellsFrom n sc.names []).lookup x = some c := by
  have q := PySem.W.cellsFrom_some sc.names n [] (.inl h)
  exact Option.isSome_iff_exists.mp q

theorem inv_start {CX : CXT} {P : Program} {w : World} {K : PySem.W.Frag} {mg : Str → Option Value} {base : Heap} {N ps : List Str} {qual : Str} {scope : Scope} {f : Addr} {cd : Value} {A : Around} {outer : List Env} {s s1 : Shared} {H : Hp} {E : XK} {us : List Value} {vs : List V}
    (S : FnScope N ps scope) (hd : A.handled = none) (e0 : Env0 P w K mg base A outer s H) (hl : vs.length = ps.length) (r : Vals vs us)
    (x : InCallC s s.heap.objs.size (bindL (envOfC qual scope s.heap.objs.size f cd).kindOf (ps.zip us) fun _ => none) (cellsFrom (s.heap.objs.size + 1) scope.names []) (bindC (envOfC qual scope s.heap.objs.size f cd).kindOf (ps.zip us) fun _ => none) s1) :
    Inv (cxOf CX P w K mg base N qual scope f cd A outer s H E) [] (start N vs) H s1 := by
  have hpl : ps.length ≤ N.length := by have := congrArg List.length S.pre; rw [List.length_take] at this; omega
  obtain ⟨h1, tk, rfl, hk⟩ := x.done
  have noA : ∀ b : Addr, b ∉ (cxOf CX P w K mg base N qual scope f cd A outer s H E).ex := fun b z => absurd (show b ∈ ([] : List Addr) from z) (by simp)
  refine ⟨⟨e0.mod, S.kind, rfl, rfl, Nat.le_refl _, fun y z c h1 h2 => ?_, fun y hy => ?_, fun y c _ h => ?_, fun _ => hd, Around.frames_deeper e0.frames, .inr ⟨rfl, rfl⟩, fun b z => absurd z (noA b), e0.bs, e0.bsz, fun b _ _ => noA b, fun b z => absurd z (noA b), e0.funs, e0.frf⟩,
    rfl, e0.bare, Un.kept hk, ⟨_, x.toInCall.ns, fun i y v h1 h2 h3 => ?_⟩, fun y c h => ⟨_, x.cell y c h⟩, e0.hok.fresh (Nat.le_refl _), fun y c h => ?_, fun p hp => absurd (show p ∈ ([] : List (Addr × Obj)) from hp) (by simp), e0.hok.kept hk, ?_⟩
  · exact name_of_addr x.apart (PySem.mem_of_lookup h1) (PySem.mem_of_lookup h2)
  · have hy : scope.names.lookup y = some .cell ∨ scope.names.lookup y = some .free := hy
    rcases hy with hy | hy
    · exact cell_has hy
    · exact absurd rfl (S.nofree _ (PySem.mem_of_lookup hy))
  · exact Nat.le_of_lt (x.above y c (PySem.mem_of_lookup h))
  · have hi : i < vs.length := by
      unfold start at h2
      by_cases hi : i < vs.length
      · exact hi
      · rw [List.getElem?_append_right (by simpa using hi)] at h2
        rw [List.getElem?_replicate] at h2
        split at h2 <;> cases h2
    have ha : vs[i]? = some v := by
      unfold start at h2
      rw [List.getElem?_append_left (by simpa using hi), List.getElem?_map] at h2
      cases e : vs[i]? with
      | none => rw [e] at h2; cases h2
      | some a => rw [e] at h2; cases h2; rfl
    obtain ⟨u, hu, rv⟩ := r.get ha
    have hp : ps[i]? = some y := by
      rw [← S.pre, List.getElem?_take_of_lt (by omega)]; exact h1
    have ndP : ps.Nodup := by rw [← S.pre]; exact S.nd.sublist (List.take_sublist _ _)
    refine ⟨u, rv, ?_⟩
    rcases S.par y (List.mem_of_getElem? hp) with k | k
    · exact .inl ⟨k, bindL_get ndP hp hu k⟩
    · obtain ⟨c, e⟩ := cell_has (n := s.heap.objs.size + 1) k
      refine .inr ⟨.inl k, c, e, ?_⟩
      have q := x.cell y c e
      rw [bindC_get ndP hp hu (by show scope.names.lookup y ≠ _; rw [k]; decide)] at q
      exact q
  · exact e0.hok.fresh (Nat.le_of_lt (x.above y c (PySem.mem_of_lookup h)))
  · unfold start
    show _ = N.length
    rw [List.length_append, List.length_map, List.length_replicate]
    omega

/-- THE RULE: a def (or a method) of the text, by its body. The body's reading t is chosen for each entry; it is run at the parameters' values -/
theorem fn_of {CX : CXT} {P : Program} {w : World} {K : PySem.W.Frag} {mg : Str → Option Value} {base : Heap} {k : Nat} {f : Addr} {name qual : Str} {params : Arguments} {body : List Stmt} {scope : Scope} {dV kV doc pm cdv ct oc : Value} {an od : Option Addr}
    {osl : Array (Option Value)} {N ps : List Str} {sp : Sp} (lk : K.lookup f = some ⟨oc, od, .func (PySem.W.fnOf name qual params body scope dV kV doc pm an cdv ct), osl⟩) (hcd : PySem.W.codeIn K cdv qual = true) (S : FnScope N ps scope)
    (len : ∀ vs H Q E, sp vs H Q E → vs.length = ps.length)
    (hbody : ∀ (A : Around) (outer : List Env) (s : Shared) (H : Hp) (vs : List V) (Q : VK) (E : XK), Room k (A.deeper (envOfC qual scope s.heap.objs.size f cdv)) → sp vs H Q E →
      ∃ t, PSs (cxOf CX P w K mg base N qual scope f cdv A outer s H E) body t ∧ t { nx := fun _ H' => Q .non H', rt := Q } (start N vs) H) :
    FnOk P w K mg base CX (k + 1) f (PySem.W.fnOf name qual params body scope dV kV doc pm an cdv ct) ps sp := by
  refine ⟨len, fun A outer s H args us vs Q E hr e0 hb r hsp => ?_⟩
  have hl := len _ _ _ _ hsp
  have KX : K.In s.heap := e0.mod.kin.keeps fun b o e => (e0.bs b o e).1
  have lim : s.heap.NoLimit := e0.mod.nolimit.keeps fun b o e => (e0.bs b o e).1
  have hkind : ∀ y ∈ ps.zip us, scope.names.lookup y.1 = some .local ∨ (scope.names.lookup y.1 = some .cell ∧ ((cellsFrom (s.heap.objs.size + 1) scope.names []).lookup y.1).isSome = true) := fun ⟨n, v⟩ hy => by
    rcases S.par n (List.of_mem_zip hy).1 with q | q
    · exact .inl q
    · exact .inr ⟨q, PySem.W.cellsFrom_some _ _ _ (.inl q)⟩
  refine codeAny_call_function hr.depth (KX _ _ lk) rfl S.co S.gen rfl (PySem.W.codeRec_of KX hcd) (hb _ _ _ _ ?_)
  refine wpAny_newFunctionEnv_cells S.kind hkind fun env he s1 x => ?_
  subst he
  refine ⟨lim.keeps x.toInCall.keep, codeAny_func ?_⟩
  obtain ⟨t, ht, hq⟩ := hbody A outer s H vs Q E (hr.deeper _) hsp
  have I : Inv (cxOf CX P w K mg base N qual scope f cdv A outer s H E) [] (start N vs) H s1 := inv_start S hr.hd e0 hl r x
  refine wpAny_mono (ht [] s1 (start N vs) H _ I hq) (fun fl s' hs => ?_) fun e s' hs => hs
  have fin : ∀ {σ' : St} {H' : Hp} {v : V} {u : Value}, Inv (cxOf CX P w K mg base N qual scope f cdv A outer s H E) [] σ' H' s' → RelV v u → Q v H' → CE outer P w H s Q u s' :=
    fun {σ' H' v u} J rv q => ⟨v, H', J.os, J.bare, J.base, J.hok, rv, q⟩
  cases fl with
  | ret u =>
    obtain ⟨v, σ', H', J, rv, q⟩ := hs
    exact fin J rv q
  | next =>
    obtain ⟨σ', H', J, q⟩ := hs
    exact fin (v := V.non) (u := Value.none) J rfl q
  | brk =>
    obtain ⟨_, _, _, q⟩ := hs
    exact False.elim q
  | cont =>
    obtain ⟨_, _, _, q⟩ := hs
    exact False.elim q
end L2

namespace L2
open PySem PySem.Spec PyProof.Rows
section
variable {X : Cx} {x : Str} {p pos : Pos} {e : Expr} {es : List Expr} {t : TA} {id T : String} {r : List V → Hp → VK → Prop}

def tCB (r : List V → Hp → VK → Prop) (t : TA) : TE := fun σ H Q => t σ H fun vs H1 => r vs H1 Q
/-- f(e, ..), f a built-in function -/
theorem pe_callB (hc : CallR X (.builtin id) r) (hg : Gl X x) (hm : X.mg x = none) (hv : bootBuiltins x = some (.builtin id)) (ha : PA X (e :: es) t) (hn : x ≠ "__name__" := by decide) (hdb : (x == ("__debug__" : Str)) = false := by decide)
    (he : starEach (e :: es) X.env = (false, eval e X.env) :: starEach es X.env := by rfl) (hpl : (backTo pos (starEach es X.env)).any (·.1) = false := by rfl) : PE X (.Call (.Name x p) (e :: es) [] pos) (tCB r t) := by
  intro pins s σ H Q I h
  refine wpAny_Call_Name_kw (ld_blt I hg hm hv ?_ hn hdb)
  exact PyProof.Rows.callWith_builtin1 (thn (ha pos pins s σ H _ I h) fun us s1 ⟨vs, H1, I1, r1, q1⟩ => hc pins s1 σ H1 vs us Q I1 r1 q1) he hpl
/-- T(e, ..), T a built-in type -/
theorem pe_callTy (hc : CallR X (.type T) r) (hg : Gl X x) (hm : X.mg x = none) (hv : bootBuiltins x = some (.type T)) (ha : PA X (e :: es) t) (hn : x ≠ "__name__" := by decide) (hdb : (x == ("__debug__" : Str)) = false := by decide)
    (he : starEach (e :: es) X.env = (false, eval e X.env) :: starEach es X.env := by rfl) (hpl : (backTo pos (starEach es X.env)).any (·.1) = false := by rfl) : PE X (.Call (.Name x p) (e :: es) [] pos) (tCB r t) := by
  intro pins s σ H Q I h
  refine wpAny_Call_Name_kw (ld_blt I hg hm hv ?_ hn hdb)
  exact PyProof.Rows.callWith_type1 (thn (ha pos pins s σ H _ I h) fun us s1 ⟨vs, H1, I1, r1, q1⟩ => hc pins s1 σ H1 vs us Q I1 r1 q1) he hpl
end
end L2

namespace HT
open PySem PyProof.Rows

/-- t < u of tuples of ints -/
def lexLt : List Int → List Int → Bool
  | [], [] => false
  | [], _ :: _ => true
  | _ :: _, [] => false
  | x :: xs, y :: ys => if x = y then lexLt xs ys else decide (x < y)
section
open PySem.SeqAt
open PySem.AutoSeq1 (wpAny_loadPart')
open PySem.MeetsSeq PySem.MeetsSeq2 PySem.MeetsSeq3

end

section
variable {prog : Program} {w : World} {A : Around} {E : Value → Shared → Prop} {s : Shared}

/-- t + u, t not empty -/
theorem cat_tup {t b : Addr} {vs ws : List Value} {Q : Value → Shared → Prop} (ht : IsTup s.heap t vs.toArray) (hb : IsTup s.heap b ws.toArray) (hv : vs ≠ [])
    (h1 : ws = [] → Q (.ref t) s) (h2 : ws ≠ [] → Q (.ref s.heap.objs.size) { s with heap := s.heap.push { cls := .type "tuple", data := .seq (vs ++ ws).toArray } })
    (hsz : vs.length + ws.length ≤ sizeLine) : wpAny (model prog w) A (binaryOp .Add (.ref t) (.ref b)) Q E s := by
  obtain ⟨⟨cls, dd, data, sl⟩, ho, hc, n, hd⟩ := id ht
  obtain ⟨⟨cls2, dd2, data2, sl2⟩, ho2, hc2, n2, hd2⟩ := id hb
  simp only at hc hd hc2 hd2
  subst hc hd hc2 hd2
  have e : vs.toArray ++ ws.toArray = (vs ++ ws).toArray := by simp
  by_cases hw : ws = []
  · exact concat_meets ⟨_, ho, rfl⟩ ⟨_, ho2, rfl⟩ noFill_tuple_add seq_tuple_add PySem.F.slot_tuple_add PySem.F.entry_tuple_add (PySem.F.args_tuple_add_2 _ _)
      (tuple_addW1 t b vs.toArray ws.toArray n n2 dd dd2 sl sl2 (by simpa using hv) (by simp [hw])) ⟨ho, ho2, h1 hw⟩
  · refine concat_meets ⟨_, ho, rfl⟩ ⟨_, ho2, rfl⟩ noFill_tuple_add seq_tuple_add PySem.F.slot_tuple_add PySem.F.entry_tuple_add (PySem.F.args_tuple_add_2 _ _)
      (tuple_addW2 t b vs.toArray ws.toArray n n2 dd dd2 sl sl2 (by simpa using hv) (by simpa using hw) (by rw [List.size_toArray, List.size_toArray]; exact hsz)) ⟨ho, ho2, ?_⟩
    rw [e]
    exact h2 hw

/-! ### t[a:b], not the whole -/
/-- a slice's bound as a place among n (d where it is left out) -/
def sIx (n d : Nat) : Option Int → Nat
  | none => d
  | some v => if v < 0 then (v + (n : Int)).toNat else min v.toNat n
theorem sIx_le (n d : Nat) (hd : d ≤ n) (o : Option Int) : sIx n d o ≤ n := by
  cases o with
  | none => exact hd
  | some v =>
    show (if v < 0 then (v + (n : Int)).toNat else min v.toNat n) ≤ n
    by_cases hv : v < 0
    · rw [if_pos hv]; omega
    · rw [if_neg hv]; exact Nat.min_le_right _ _
theorem clip_eq (v : Int) (n d : Nat) : (if v < 0 then max (v + (n : Int)) 0 else min v (n : Int)) = ((sIx n d (some v) : Nat) : Int) := by
  show (if v < 0 then max (v + (n : Int)) 0 else min v (n : Int)) = (((if v < 0 then (v + (n : Int)).toNat else min v.toNat n) : Nat) : Int)
  by_cases hv : v < 0
  · simp only [if_pos hv]; omega
  · simp only [if_neg hv]; omega
theorem adjust_gen (lo hi : Option Int) (n : Nat) : Builtin.Slice.sliceAdjust lo hi 1 (n : Int) = (((sIx n 0 lo : Nat) : Int), ((sIx n n hi : Nat) : Int)) := by
  have h1 : ¬ ((1 : Int) < 0) := by omega
  unfold Builtin.Slice.sliceAdjust
  simp only [h1, if_false]
  refine Prod.ext ?_ ?_
  · cases lo with
    | none => rfl
    | some v => exact clip_eq v n 0
  · cases hi with
    | none => rfl
    | some v => exact clip_eq v n n
theorem places_gen (i j : Nat) : Builtin.Slice.slicePlaces (i : Int) (j : Int) 1 = j - i := by
  unfold Builtin.Slice.slicePlaces
  have h1 : (1 : Int) > 0 := by omega
  simp only [h1, if_true, Int.ediv_one]
  split <;> omega
theorem slicePart_ {v : Value} {o : Option Int} {Q : Option Int → Shared → Prop} (p : IsPart v o) (h : Q o s) : wpAny (model prog w) A (Builtin.Slice.slicePartIndex v) Q E s := by
  cases p with
  | none => exact slicePart_none h
  | int i t => exact slicePart_int h
theorem sliceApplied_gen {sl : Addr} {vl vu : Value} {lo hi : Option Int} {n : Nat} {Q : Int × Int × Nat → Shared → Prop} (hs : s.heap.IsSliceOf sl vl vu .none) (pl : IsPart vl lo) (pu : IsPart vu hi)
    (h : Q (((sIx n 0 lo : Nat) : Int), 1, sIx n n hi - sIx n 0 lo) s) : wpAny (model prog w) A (Builtin.Slice.sliceApplied (.ref sl) (pure (n : Int))) Q E s := by
  obtain ⟨os, hos, hcs, hds⟩ := id hs
  unfold Builtin.Slice.sliceApplied Builtin.Slice.sliceFields
  refine wpAny_bind (wpAny_bind (wpAny_field hos hds (x := vl) rfl (wpAny_bind (wpAny_field hos hds (x := vu) rfl (wpAny_bind (wpAny_field hos hds (x := .none) rfl (wpAny_pure ?_)))))))
  refine wpAny_bind (slicePart_none ?_)
  show wpAny _ _ (if ((1 : Int) == 0) = true then _ else _) _ _ s
  rw [if_neg (by decide)]
  refine wpAny_bind (slicePart_ pl (wpAny_bind (slicePart_ pu (wpAny_bind (wpAny_pure ?_)))))
  show wpAny _ _ (match Builtin.Slice.sliceAdjust lo hi 1 (n : Int) with | (lo, hi) => pure (lo, (1 : Int), Builtin.Slice.slicePlaces lo hi 1)) _ _ s
  rw [adjust_gen lo hi n]
  show wpAny _ _ (pure (((sIx n 0 lo : Nat) : Int), (1 : Int), Builtin.Slice.slicePlaces ((sIx n 0 lo : Nat) : Int) ((sIx n n hi : Nat) : Int) 1)) _ _ s
  rw [places_gen]
  exact wpAny_pure h
theorem pick_gen (xs : Array Value) (i k : Nat) : ((List.range k).filterMap fun (m : Nat) => xs[((i : Int) + (m : Int) * 1).toNat]?).toArray = ((xs.toList.drop i).take k).toArray := by
  have e : (fun (m : Nat) => xs[((i : Int) + (m : Int) * 1).toNat]?) = fun m => xs[i + m]? := by
    funext m
    have : ((i : Int) + (m : Int) * 1).toNat = i + m := by omega
    rw [this]
  rw [e]
  have := pick_run xs i k
  rw [List.filterMap_map] at this
  have e2 : ((fun x => xs[x]?) ∘ fun x => i + x) = fun m => xs[i + m]? := rfl
  rw [e2] at this
  rw [this]

theorem getItem_tuple_cut {t sl : Addr} {items : Array Value} {vl vu : Value} {lo hi : Option Int} {Q : Value → Shared → Prop} (ht : IsTup s.heap t items) (hs : s.heap.IsSliceOf sl vl vu .none) (pl : IsPart vl lo) (pu : IsPart vu hi)
    (hw : ¬ (sIx items.size 0 lo = 0 ∧ sIx items.size items.size hi = items.size))
    (h : Q (.ref s.heap.objs.size) { s with heap := s.heap.push { cls := .type "tuple", data := .seq ((items.toList.drop (sIx items.size 0 lo)).take (sIx items.size items.size hi - sIx items.size 0 lo)).toArray } })
    (hsz : items.size ≤ sizeLine) : wpAny (model prog w) A (getItem (.ref t) (.ref sl)) Q E s := by
  have htake : sizeOk (.seq ((items.toList.drop (sIx items.size 0 lo)).take (sIx items.size items.size hi - sIx items.size 0 lo)).toArray) := by
    show ((items.toList.drop (sIx items.size 0 lo)).take (sIx items.size items.size hi - sIx items.size 0 lo)).toArray.size ≤ sizeLine
    rw [List.size_toArray, List.length_take, List.length_drop, Array.length_toList]
    omega
  have hj : sIx items.size items.size hi ≤ items.size := sIx_le _ _ (Nat.le_refl _) hi
  obtain ⟨os, hos, hcs, hds⟩ := id hs
  have hTs : s.TypeIs (.ref sl) "slice" := ⟨os, hos, hcs⟩
  unfold getItem
  try with_reducible refine wpAny_holding ?_
  first | refine wpAny_bind (wpAny_pure ?_) | skip
  refine wpAny_bind (wpAny_sequenceKey ht.typeIs (by decide) ?_)
  refine wpAny_bind (wpAny_callSpecial?_slot (name := Str.ofString "__getitem__") ht.typeIs PyProof.Rows.slot_tuple_getitem
    (wpAny_call_entry PyProof.Rows.slot_tuple_getitem ht.typeIs entry_tuple_getitem ?_ (args_tuple_getitem _ _)))
  show wpAny _ _ (Builtin.Tuple.tupleItemsOf (.ref t) >>= _) _ _ s
  refine wpAny_bind (tupleItemsOf_ ht ?_)
  refine wpAny_bind (wpAny_typeOf hTs ?_)
  rw [if_pos (by decide)]
  refine wpAny_bind (sliceApplied_gen hs pl pu ?_)
  have hno : ¬ ((((sIx items.size 0 lo : Nat) : Int) == 0 && (1 : Int) == 1 && (sIx items.size items.size hi - sIx items.size 0 lo) == items.size) = true) := by
    intro q
    rw [Bool.and_eq_true, Bool.and_eq_true] at q
    have q1 : ((sIx items.size 0 lo : Nat) : Int) = 0 := eq_of_beq q.1.1
    have q2 : sIx items.size items.size hi - sIx items.size 0 lo = items.size := eq_of_beq q.2
    exact hw ⟨by omega, by omega⟩
  show wpAny _ _ (if (((sIx items.size 0 lo : Nat) : Int) == 0 && (1 : Int) == 1 && (sIx items.size items.size hi - sIx items.size 0 lo) == items.size) = true then _ else _) _ _ s
  rw [if_neg hno, pick_gen]
  first
    | exact wpAny_bind (m := Builtin.Tuple.tupleExact _) (wpAny_newObj_type (wpAny_pure ⟨_, rfl, wpAny_pure h⟩) htake)
    | exact wpAny_bind (m := Builtin.Tuple.tupleExact _) (wpAny_newObj_type (wpAny_bind (wpAny_pure (wpAny_pure ⟨_, rfl, wpAny_pure h⟩))) htake)
    | exact wpAny_bind (wpAny_bind (m := Builtin.Tuple.tupleExact _) (wpAny_newObj_type (wpAny_pure (wpAny_pure ⟨_, rfl, wpAny_pure h⟩)) htake))
    | exact wpAny_bind (wpAny_bind (m := Builtin.Tuple.tupleExact _) (wpAny_newObj_type (wpAny_pure ⟨_, rfl, wpAny_pure h⟩) htake))
end
end HT

namespace L2
open PySem PySem.Spec PyProof.Rows

/-! ### the parts of a slice -/
abbrev TO := St → Hp → (Option Int → Hp → Prop) → Prop
/-- a slice's part (left out, or an int) -/
def PO (X : Cx) (e : Option Expr) (t : TO) : Prop :=
  ∀ (pins : List (Addr × Obj)) (s : Shared) (σ : St) (H : Hp) (Q : Option Int → Hp → Prop), Inv X pins σ H s → t σ H Q →
    wpAny (model X.prog X.w) X.A (evalPart e X.env) (fun u s' => ∃ o H', Inv X pins σ H' s' ∧ IsPart u o ∧ Q o H') X.xe s
def tNoPart : TO := fun _ H Q => Q none H
def tPart (t : TE) : TO := fun σ H Q => t σ H fun x H1 => ∃ i, x = .int i ∧ Q (some i) H1

section
variable {X : Cx} {e : Expr} {te : TE} {lo hi : Option Expr} {tl th : TO} {pos p2 : Pos}

theorem po_none : PO X none tNoPart := by
  intro pins s σ H Q I h
  rw [evalPart_none]
  exact wpAny_pure ⟨none, H, I, .none, h⟩
theorem po_some (h : PE X e te) : PO X (some e) (tPart te) := by
  intro pins s σ H Q I hw
  rw [evalPart_some]
  refine thn (h pins s σ H _ I hw) fun u s1 ⟨x, H1, I1, r1, q1⟩ => ?_
  obtain ⟨i, rfl, q⟩ := q1
  obtain ⟨t, rfl⟩ := r1
  exact ⟨some i, H1, I1, .int i t, q⟩

/-- what a slice of a value is, by values: the slice object stands at sl -/
def SlR (X : Cx) (r : V → Option Int → Option Int → Hp → VK → Prop) : Prop :=
  ∀ (pins : List (Addr × Obj)) (s : Shared) (σ : St) (H : Hp) (x : V) (v vl vu : Value) (lo hi : Option Int) (sl : Addr) (Q : VK), Inv X pins σ H s → RelV x v → s.heap.IsSliceOf sl vl vu .none → IsPart vl lo → IsPart vu hi → r x lo hi H Q →
    ∃ T id, typeLookup (.type T) "__getitem__" = pure (some (.builtin id)) ∧ s.TypeIs v T ∧ wpAny (model X.prog X.w) X.A (getItem v (.ref sl)) (EP X pins σ Q) X.xe s
theorem SlR.or {r r' : V → Option Int → Option Int → Hp → VK → Prop} (h : SlR X r) (h' : SlR X r') : SlR X (fun x lo hi H Q => r x lo hi H Q ∨ r' x lo hi H Q) := by
  intro pins s σ H x v vl vu lo hi sl Q I rx hs pl pu q
  rcases q with q | q
  · exact h pins s σ H x v vl vu lo hi sl Q I rx hs pl pu q
  · exact h' pins s σ H x v vl vu lo hi sl Q I rx hs pl pu q
def tSl (r : V → Option Int → Option Int → Hp → VK → Prop) (te : TE) (tl th : TO) : TE := fun σ H Q => te σ H fun x H1 => tl σ H1 fun l H2 => th σ H2 fun u H3 => r x l u H3 Q
/-- a[lo:hi], any a -/
theorem pe_slice {r : V → Option Int → Option Int → Hp → VK → Prop} (hr : SlR X r) (he : PE X e te) (hl : PO X lo tl) (hu : PO X hi th) : PE X (.Subscript e (.Slice lo hi none p2) pos) (tSl r te tl th) := by
  intro pins s σ H Q I h
  refine Subscript_ (thn (he pins s σ H _ I h) fun v s1 ⟨x, H1, I1, r1, q1⟩ => ?_)
  refine wpAny_Slice (thn (hl pins s1 σ H1 _ I1 q1) fun vl s2 ⟨l, H2, I2, pl, q2⟩ => thn (hu pins s2 σ H2 _ I2 q2) fun vu s3 ⟨u, H3, I3, pu, q3⟩ => ?_)
  rw [evalPart_none]
  refine wpAny_pure ?_
  have I4 : Inv X pins σ H3 { s3 with heap := s3.heap.push { cls := .type "slice", data := .fields #[vl, vu, .none] } } := I3.kept (t' := s3.toks) fun b ob q => Heap.get?_push_of_some _ q
  obtain ⟨T, id, hT, ht, hg⟩ := hr pins { s3 with heap := s3.heap.push { cls := .type "slice", data := .fields #[vl, vu, .none] } } σ H3 x v vl vu l u s3.heap.objs.size Q I4 r1 (Heap.IsSliceOf.new ..) pl pu q3
  show wpAny (model X.prog X.w) X.A (subscriptTail e (.Slice lo hi none p2) v (.ref s3.heap.objs.size)) (EP X pins σ Q) X.xe { s3 with heap := s3.heap.push { cls := .type "slice", data := .fields #[vl, vu, .none] } }
  exact tail_any (ops := [.ref s3.heap.objs.size, v]) ht hT hg (by with_unfolding_all rfl)

/-- the items of xs[lo:hi] -/
def cutV (xs : List V) (lo hi : Option Int) : List V := (xs.drop (HT.sIx xs.length 0 lo)).take (HT.sIx xs.length xs.length hi - HT.sIx xs.length 0 lo)
theorem cutV_length (xs : List V) (lo hi : Option Int) : (cutV xs lo hi).length ≤ xs.length := by
  unfold cutV
  rw [List.length_take, List.length_drop]
  omega
/-- t[lo:hi], not the whole of it (the whole would be t itself) -/
def rSlT (K : PySem.W.Frag) : V → Option Int → Option Int → Hp → VK → Prop := fun x lo hi H Q => ∃ a xs, x = .ref a ∧ SqT K H a xs ∧
  ¬ (HT.sIx xs.length 0 lo = 0 ∧ HT.sIx xs.length xs.length hi = xs.length) ∧ ∀ p, H p = none → Q (.ref p) (upd H p (.tup (cutV xs lo hi)))
theorem sl_tup : SlR X (rSlT X.K) := by
  intro pins s σ H x v vl vu lo hi sl Q I rx hs pl pu h
  obtain ⟨a, xs, rfl, hx, hw, q⟩ := h
  cases rx
  obtain ⟨its, r, ht, hz⟩ := I.tuple hx
  have hlen : its.toArray.size = xs.length := by rw [List.size_toArray]; exact r.length.symm
  refine ⟨"tuple", _, PyProof.Rows.slot_tuple_getitem.lookup, ht.typeIs, ?_⟩
  refine HT.getItem_tuple_cut ht hs pl pu (by rw [hlen]; exact hw) ?_ (by rw [hlen]; exact hz)
  rw [hlen]
  refine ⟨.ref s.heap.objs.size, _, I.laid (t' := s.toks) (o := .tup (cutV xs lo hi)) (fun b ob q => Heap.get?_push_of_some _ q) (Nat.le_refl _) ?_, rfl, q _ (I.hok.fresh (Nat.le_refl _))⟩
  exact ⟨Nat.le_trans (cutV_length xs lo hi) hz, _, (r.drop (HT.sIx xs.length 0 lo)).take (HT.sIx xs.length xs.length hi - HT.sIx xs.length 0 lo), IsTup.new _ _⟩

/-! ### t < u, t + u -/
def rLtT (K : PySem.W.Frag) : R2 := fun x y H Q => ∃ a b ns ms, x = .ref a ∧ y = .ref b ∧ SqT K H a (ns.map V.int) ∧ SqT K H b (ms.map V.int) ∧ Q (.bl (HT.lexLt ns ms)) H
/-- t + u, t not empty: u empty gives t itself -/
def rCatT (K : PySem.W.Frag) : R2 := fun x y H Q => ∃ a b xs ys, x = .ref a ∧ y = .ref b ∧ SqT K H a xs ∧ SqT K H b ys ∧ xs ≠ [] ∧ xs.length + ys.length ≤ sizeLine ∧
  (ys = [] → Q (.ref a) H) ∧ (ys ≠ [] → ∀ p, H p = none → Q (.ref p) (upd H p (.tup (xs ++ ys))))
theorem Vals.nil_iff {xs : List V} {us : List Value} (r : Vals xs us) : us = [] ↔ xs = [] := by
  cases r with
  | nil => simp
  | cons _ _ => simp
theorem op_catT : OpR X (binaryOp .Add) (rCatT X.K) := by
  intro pins s σ H x y v u Q I rx ry h
  obtain ⟨a, b, xs, ys, rfl, rfl, ha, hb, hx, hz, q1, q2⟩ := h
  cases rx
  cases ry
  obtain ⟨its, r1, p1, _⟩ := I.tuple ha
  obtain ⟨its2, r2, p2, _⟩ := I.tuple hb
  refine HT.cat_tup p1 p2 (fun z => hx (r1.nil_iff.mp z)) (fun z => ⟨.ref a, H, I, rfl, q1 (r2.nil_iff.mp z)⟩) (fun z => ?_) (by rw [← r1.length, ← r2.length]; exact hz)
  refine ⟨.ref s.heap.objs.size, _, I.laid (t' := s.toks) (o := .tup (xs ++ ys)) (fun b ob q => Heap.get?_push_of_some _ q) (Nat.le_refl _) ?_, rfl, q2 (fun w => z (r2.nil_iff.mpr w)) _ (I.hok.fresh (Nat.le_refl _))⟩
  exact ⟨by rw [List.length_append]; exact hz, _, r1.append r2, IsTup.new _ _⟩
end
end L2

namespace L2
open PySem PySem.Spec PyProof.Rows

/-! ### places -/
/-- the place that an index of any sign means -/
def ixN (n : Nat) (i : Int) : Option Nat := if 0 ≤ i then (if i < n then some i.toNat else none) else if -(n : Int) ≤ i then some (i + n).toNat else none
def atI {α : Type} (xs : List α) (i : Int) : Option α := (ixN xs.length i).bind fun j => xs[j]?
theorem ixN_seq {n : Nat} {i : Int} {j : Nat} (h : ixN n i = some j) : seqIndex? i n = some j ∧ j < n ∧ -(n : Int) ≤ i ∧ i < n := by
  unfold ixN at h
  by_cases h0 : 0 ≤ i
  · rw [if_pos h0] at h
    by_cases h1 : i < n
    · rw [if_pos h1] at h
      have e : i.toNat = j := Option.some.inj h
      exact ⟨by rw [seqIndex_of h0 h1, e], by omega, by omega, h1⟩
    · rw [if_neg h1] at h; cases h
  · rw [if_neg h0] at h
    by_cases h1 : -(n : Int) ≤ i
    · rw [if_pos h1] at h
      have e : (i + n).toNat = j := Option.some.inj h
      exact ⟨by rw [seqIndex_neg (by omega) h1, e], by omega, h1, by omega⟩
    · rw [if_neg h1] at h; cases h
theorem atI_get {α : Type} {xs : List α} {i : Int} {v : α} (h : atI xs i = some v) : ∃ j, seqIndex? i xs.length = some j ∧ xs[j]? = some v ∧ j < xs.length ∧ -(xs.length : Int) ≤ i ∧ i < xs.length := by
  unfold atI at h
  cases e : ixN xs.length i with
  | none => rw [e] at h; cases h
  | some j =>
    rw [e] at h
    obtain ⟨h1, h2, h3, h4⟩ := ixN_seq e
    exact ⟨j, h1, h, h2, h3, h4⟩
theorem atI_nat {α : Type} {xs : List α} {j : Nat} {v : α} (h : xs[j]? = some v) : atI xs (j : Int) = some v := by
  have hj : j < xs.length := (List.getElem?_eq_some_iff.mp h).1
  have e : ixN xs.length (j : Int) = some j := by
    unfold ixN
    rw [if_pos (by omega), if_pos (by omega)]; simp
  unfold atI; rw [e]; exact h
/-! ### what may be subscripted -/
/-- what stands as an index of a plain subscript -/
def PlainIx (b : Expr) : Prop := ∀ o i, subscripted b false o i = operate [o, i] (getItem o i)
/-- a subscript by values -/
def IxR (X : Cx) (r : R2) : Prop :=
  ∀ (value slice : Expr) (pins : List (Addr × Obj)) (s : Shared) (σ : St) (H : Hp) (x y : V) (v u : Value) (Q : VK), Inv X pins σ H s → RelV x v → RelV y u → r x y H Q →
    subscripted slice false v u = operate [v, u] (getItem v u) → wpAny (model X.prog X.w) X.A (subscriptTail value slice v u) (EP X pins σ Q) X.xe s
/-- a call of a builtin's method by values: the receiver, the arguments -/
def MtR (X : Cx) (id : String) (r : V → List V → Hp → VK → Prop) : Prop :=
  ∀ (pins : List (Addr × Obj)) (s : Shared) (σ : St) (H : Hp) (x : V) (xs : List V) (v : Value) (us : List Value) (Q : VK), Inv X pins σ H s → RelV x v → Vals xs us → r x xs H Q →
    wpAny (model X.prog X.w) X.A (call (.builtin id) (v :: us)) (EP X pins σ Q) X.xe s
section
variable {X : Cx} {a b : Expr} {ta tb : TE} {pos : Pos}
theorem IxR.or {r r' : R2} (h : IxR X r) (h' : IxR X r') : IxR X (fun x y H Q => r x y H Q ∨ r' x y H Q) := by
  intro value slice pins s σ H x y v u Q I rx ry q hs
  rcases q with q | q
  · exact h value slice pins s σ H x y v u Q I rx ry q hs
  · exact h' value slice pins s σ H x y v u Q I rx ry q hs
theorem MtR.or {id : String} {r r' : V → List V → Hp → VK → Prop} (h : MtR X id r) (h' : MtR X id r') : MtR X id (fun x xs H Q => r x xs H Q ∨ r' x xs H Q) := by
  intro pins s σ H x xs v us Q I rx rs q
  rcases q with q | q
  · exact h pins s σ H x xs v us Q I rx rs q
  · exact h' pins s σ H x xs v us Q I rx rs q
/-- a[b] -/
theorem pe_ix {r : R2} (hr : IxR X r) (ha : PE X a ta) (hb : PE X b tb) (hs : PlainIx b) : PE X (.Subscript a b pos) (tOp r ta tb) := by
  intro pins s σ H Q I h
  exact Subscript_ (binT ha hb I h fun v u s2 x y H2 I2 rx ry q => hr a b pins s2 σ H2 x y v u Q I2 rx ry q (hs _ _))

def rIxL (K : PySem.W.Frag) : R2 := fun x y H Q => ∃ p xs i v, x = .ref p ∧ y = .int i ∧ SqL K H p xs ∧ atI xs i = some v ∧ Q v H
def rIxT (K : PySem.W.Frag) : R2 := fun x y H Q => ∃ p xs i v, x = .ref p ∧ y = .int i ∧ SqT K H p xs ∧ atI xs i = some v ∧ Q v H
def rIxS : R2 := fun x y H Q => ∃ z i c, x = .str z ∧ y = .int i ∧ z.length ≤ sizeLine ∧ atI z.cps.toList i = some c ∧ Q (.str ⟨#[c]⟩) H
theorem ix_list : IxR X (rIxL X.K) := by
  intro value slice pins s σ H x y v u Q I rx ry h hs
  obtain ⟨p, xs, i, z, rfl, rfl, hq, he, q⟩ := h
  cases rx
  obtain ⟨t, rfl⟩ := ry
  obtain ⟨its, r, pl, hz⟩ := I.list hq
  obtain ⟨j, h1, h2, h3, h4, h5⟩ := atI_get he
  obtain ⟨w, ew, rw'⟩ := r.get h2
  have hl := r.length
  have hn := line63
  have fin : EP X pins σ Q w s := ⟨z, H, I, rw', q⟩
  by_cases h0 : 0 ≤ i
  · have hj : i.toNat = j := by
      rw [seqIndex_of h0 h5] at h1
      exact Option.some.inj h1
    exact item_listR pl.isList h0 (by omega) (by rw [hj]; simpa using ew) fin hs
  · have hj : (i + (its.toArray.size : Int)).toNat = j := by
      rw [seqIndex_neg (by omega) h4] at h1
      rw [List.size_toArray, ← hl]
      exact Option.some.inj h1
    exact subscriptTail_builtinR (x := w) pl.isList.typeIs slot_list_getitem.lookup
      (wpAny_getItem_list_neg (Q := fun r s' => r = w ∧ EP X pins σ Q r s') pl.isList (by omega) (by rw [List.size_toArray] <;> omega) (by omega) (by rw [hj]; simpa using ew) ⟨rfl, fin⟩) hs
theorem ix_tup : IxR X (rIxT X.K) := by
  intro value slice pins s σ H x y v u Q I rx ry h hs
  obtain ⟨p, xs, i, z, rfl, rfl, hq, he, q⟩ := h
  cases rx
  obtain ⟨t, rfl⟩ := ry
  obtain ⟨its, r, pl, hz⟩ := I.tuple hq
  obtain ⟨j, h1, h2, h3, h4, h5⟩ := atI_get he
  obtain ⟨w, ew, rw'⟩ := r.get h2
  have hl := r.length
  have hn := line63
  have fin : EP X pins σ Q w s := ⟨z, H, I, rw', q⟩
  exact subscriptTail_builtinR (x := w) pl.typeIs slot_tuple_getitem.lookup
    (getItem_tuple (j := j) (Q := fun r s' => r = w ∧ EP X pins σ Q r s') pl (by omega) (by omega) (by rw [List.size_toArray, ← hl]; exact h1) (by simpa using ew) ⟨rfl, fin⟩) hs
/-- list, tuple or str -/
def rIx (K : PySem.W.Frag) : R2 := fun x y H Q => rIxL K x y H Q ∨ rIxT K x y H Q ∨ rIxS x y H Q
/-! ### xs[i] = v, any sign -/
theorem Inv.lst {pins : List (Addr × Obj)} {σ : St} {H : Hp} {s : Shared} {p : Addr} {xs : List V} (I : Inv X pins σ H s) (h : H p = some (.lst xs)) :
    ∃ (its : List Value) (n : Nat), Vals xs its ∧ s.heap.get? p = some { cls := .type "list", data := .seq its.toArray n } ∧ xs.length ≤ sizeLine := by
  obtain ⟨z, its, n, r, e⟩ := I.hok p _ h
  exact ⟨its, n, r, e, z⟩
def rSetL : V → V → V → Hp → (Hp → Prop) → Prop := fun o i v H Q => ∃ p xs k j, o = .ref p ∧ i = .int k ∧ H p = some (.lst xs) ∧ ixN xs.length k = some j ∧ Q (upd H p (.lst (xs.set j v)))
/-! ### slices -/
theorem slice_bounds (lo hi : Option Int) (n : Nat) : (sliceBounds lo hi none n).1 = ((HT.sIx n 0 lo : Nat) : Int) ∧ (sliceBounds lo hi none n).2.1 = ((HT.sIx n n hi : Nat) : Int) ∧ (sliceBounds lo hi none n).2.2 = 1 := by
  refine ⟨?_, ?_, rfl⟩
  · cases lo with
    | none => simp [sliceBounds, HT.sIx]
    | some i =>
      simp only [sliceBounds, HT.sIx, Option.getD_none, show (1 : Int) > 0 by decide, if_true]
      by_cases h : i < 0
      · simp only [h, if_true] <;> omega
      · simp only [h, if_false] <;> omega
  · cases hi with
    | none => simp [sliceBounds, HT.sIx]
    | some i =>
      simp only [sliceBounds, HT.sIx, Option.getD_none, show (1 : Int) > 0 by decide, if_true]
      by_cases h : i < 0
      · simp only [h, if_true] <;> omega
      · simp only [h, if_false] <;> omega
theorem slicePick_cut (its : List Value) (lo hi : Option Int) : slicePick its.toArray lo hi none = ((its.drop (HT.sIx its.length 0 lo)).take (HT.sIx its.length its.length hi - HT.sIx its.length 0 lo)).toArray := by
  obtain ⟨h1, h2, h3⟩ := slice_bounds lo hi its.toArray.size
  unfold slicePick
  rw [h1, h2, h3]
  simp only [sliceRange_one, pick_run, List.size_toArray] <;> rfl
/-- xs[lo:hi] of a list: a new list -/
def rSlL (K : PySem.W.Frag) : V → Option Int → Option Int → Hp → VK → Prop := fun x lo hi H Q => ∃ a xs, x = .ref a ∧ SqL K H a xs ∧ ∀ p, H p = none → Q (.ref p) (upd H p (.lst (cutV xs lo hi)))
theorem sl_list : SlR X (rSlL X.K) := by
  intro pins s σ H x v vl vu lo hi sl Q I rx hs pl pu h
  obtain ⟨a, xs, rfl, hx, q⟩ := h
  cases rx
  obtain ⟨its, r, ht, hz⟩ := I.list hx
  have hlen := r.length
  refine ⟨"list", _, slot_list_getitem.lookup, ht.isList.typeIs, ?_⟩
  refine wpAny_getItem_list_slice ht.isList hs pl pu .none (by simp) ?_ (by rw [List.size_toArray] <;> omega)
  rw [slicePick_cut, ← hlen]
  refine ⟨.ref s.heap.objs.size, _, I.laid (t' := s.toks) (o := .lst (cutV xs lo hi)) (fun b ob q => Heap.get?_push_of_some _ q) (Nat.le_refl _) ?_, rfl, q _ (I.hok.fresh (Nat.le_refl _))⟩
  exact ⟨Nat.le_trans (cutV_length xs lo hi) hz, _, 0, (r.drop (HT.sIx xs.length 0 lo)).take (HT.sIx xs.length xs.length hi - HT.sIx xs.length 0 lo), Heap.get?_push_size _ rfl⟩

/-! ### in, not in: flat items -/
def flatV : V → Bool
  | .non => true
  | .bl _ => true
  | .int _ => true
  | .str _ => true
  | _ => false
/-- == of flat values -/
def eqV : V → V → Bool
  | .non, .non => true
  | .bl a, .bl b => a == b
  | .bl a, .int b => (if a then 1 else 0) == b
  | .int a, .bl b => a == (if b then 1 else 0)
  | .int a, .int b => a == b
  | .str a, .str b => a == b
  | _, _ => false
theorem eqAt_V {A : Around} {s : Shared} {y x : V} {u v : Value} (ry : RelV y u) (rx : RelV x v) (fy : flatV y = true) (fx : flatV x = true) : SeqAt.EqAt A s u v (eqV y x) := by
  cases y with
  | non =>
    cases ry
    cases x with
    | non => cases rx; exact SeqAt.EqAt.same _
    | bl b => cases rx; exact SeqAt.EqAt.none_bool b
    | int b => obtain ⟨t, rfl⟩ := rx; exact SeqAt.EqAt.none_int b t
    | str b => obtain ⟨t, rfl⟩ := rx; exact SeqAt.EqAt.none_str b t
    | _ => exact absurd (show false = true from fx) Bool.false_ne_true
  | bl a =>
    cases ry
    cases x with
    | non => cases rx; exact SeqAt.EqAt.bool_none a
    | bl b => cases rx; exact SeqAt.EqAt.bool_bool a b
    | int b => obtain ⟨t, rfl⟩ := rx; exact SeqAt.EqAt.bool_int a b t
    | str b => obtain ⟨t, rfl⟩ := rx; exact SeqAt.EqAt.bool_str a b t
    | _ => exact absurd (show false = true from fx) Bool.false_ne_true
  | int a =>
    obtain ⟨t', rfl⟩ := ry
    cases x with
    | non => cases rx; exact SeqAt.EqAt.int_none a t'
    | bl b => cases rx; exact SeqAt.EqAt.int_bool a t' b
    | int b => obtain ⟨t, rfl⟩ := rx; exact SeqAt.EqAt.int_int a t' b t
    | str b => obtain ⟨t, rfl⟩ := rx; exact SeqAt.EqAt.int_str a t' b t
    | _ => exact absurd (show false = true from fx) Bool.false_ne_true
  | str a =>
    obtain ⟨t', rfl⟩ := ry
    cases x with
    | non => cases rx; exact SeqAt.EqAt.str_none a t'
    | bl b => cases rx; exact SeqAt.EqAt.str_bool a t' b
    | int b => obtain ⟨t, rfl⟩ := rx; exact SeqAt.EqAt.str_int a t' b t
    | str b => obtain ⟨t, rfl⟩ := rx; exact SeqAt.EqAt.str_str a t' b t
    | _ => exact absurd (show false = true from fx) Bool.false_ne_true
  | _ => exact absurd (show false = true from fy) Bool.false_ne_true
/-- the items' answers, read off the values (a value's own answer does not lean on its token) -/
def eqU (x : V) (u : Value) : Bool := match u with
  | .none => eqV .non x
  | .bool b => eqV (.bl b) x
  | .int i _ => eqV (.int i) x
  | .str z _ => eqV (.str z) x
  | _ => false
theorem eqU_of {x y : V} {u : Value} (r : RelV y u) (f : flatV y = true) : eqU x u = eqV y x := by
  cases y with
  | non => cases r; rfl
  | bl b => cases r; rfl
  | int i => obtain ⟨t, rfl⟩ := r; rfl
  | str z => obtain ⟨t, rfl⟩ := r; rfl
  | _ => exact absurd (show false = true from f) Bool.false_ne_true
theorem any_eqU {x : V} : ∀ {xs : List V} {us : List Value}, Vals xs us → xs.all flatV = true → us.any (eqU x) = xs.any fun y => eqV y x
  | _, _, .nil, _ => rfl
  | y :: xs, u :: us, .cons r t, f => by
    rw [List.all_cons, Bool.and_eq_true] at f
    rw [List.any_cons, List.any_cons, eqU_of r f.1, any_eqU t f.2]
theorem mem_eqAt {A : Around} {s : Shared} {x : V} {v : Value} (rx : RelV x v) (fx : flatV x = true) : ∀ {xs : List V} {us : List Value}, Vals xs us → xs.all flatV = true → ∀ u ∈ us, SeqAt.EqAt A s u v (eqU x u)
  | _, _, .nil, _ => fun u hu => by cases hu
  | y :: xs, u :: us, .cons r t, f => fun u' hu => by
    rw [List.all_cons, Bool.and_eq_true] at f
    rcases List.mem_cons.mp hu with rfl | hu
    · rw [eqU_of r f.1]; exact eqAt_V r rx f.1 fx
    · exact mem_eqAt rx fx t f.2 u' hu
def inV (x : V) (xs : List V) : Bool := xs.any fun y => eqV y x
/-- x in a list or tuple of flat items -/
def rIn (K : PySem.W.Frag) (neg : Bool) : R2 := fun x y H Q => ∃ p xs, y = .ref p ∧ (SqL K H p xs ∨ SqT K H p xs) ∧ flatV x = true ∧ xs.all flatV = true ∧ Q (.bl (if neg then !inV x xs else inV x xs)) H
theorem op_notIn_seq : OpR X (compareOp .NotIn) (rIn X.K true) := by
  intro pins s σ H x y v u Q I rx ry h
  obtain ⟨p, xs, rfl, hq, fx, fs, q⟩ := h
  cases ry
  rcases hq with hq | hq
  · obtain ⟨its, r, pl, hz⟩ := I.list hq
    refine SeqAt.notIn_listAt (eqU x) pl.isList (fun w hw => mem_eqAt rx fx r fs w (by simpa using hw)) ⟨.bl _, H, I, rfl, ?_⟩
    rw [show its.toArray.any (eqU x) = its.any (eqU x) by simp, any_eqU r fs]
    exact q
  · obtain ⟨its, r, pl, hz⟩ := I.tuple hq
    refine SeqAt.notIn_tupleAt (eqU x) pl (fun w hw => mem_eqAt rx fx r fs w (by simpa using hw)) ⟨.bl _, H, I, rfl, ?_⟩
    rw [show its.toArray.any (eqU x) = its.any (eqU x) by simp, any_eqU r fs]
    exact q
/-! ### len, list(x), tuple(x) of any list or tuple that is read -/
theorem call_len_seq : CallR X (.builtin "len") (fun xs H Q => ∃ p ys, xs = [.ref p] ∧ (SqL X.K H p ys ∨ SqT X.K H p ys) ∧ Q (.int ys.length) H) := by
  intro pins s σ H xs us Q I r h
  obtain ⟨p, ys, rfl, hq, q⟩ := h
  obtain ⟨u, rfl, rx⟩ := vals1 r
  cases rx
  have hn := line63
  rcases hq with hq | hq
  · obtain ⟨its, r', pl, hz⟩ := I.list hq
    have hlen := r'.length
    exact Calls.call_len_list pl.isList (by simp only [List.size_toArray] <;> omega) ⟨.int ys.length, H, I.tok _, ⟨s.toks + 1, by rw [List.size_toArray, hlen]⟩, q⟩
  · obtain ⟨its, r', pl, hz⟩ := I.tuple hq
    have hlen := r'.length
    exact len_tuple pl (by simp only [List.size_toArray] <;> omega) ⟨.int ys.length, H, I.tok _, ⟨s.toks + 1, by rw [List.size_toArray, hlen]⟩, q⟩
theorem call_len_str : CallR X (.builtin "len") (fun xs H Q => ∃ z, xs = [.str z] ∧ z.length ≤ sizeLine ∧ Q (.int z.length) H) := by
  intro pins s σ H xs us Q I r h
  obtain ⟨z, rfl, hz, q⟩ := h
  obtain ⟨u, rfl, t, rfl⟩ := vals1 r
  have hn := line63
  exact len_str (by omega) ⟨.int z.length, H, I.tok _, ⟨_, rfl⟩, q⟩
theorem CallR.or {f : Value} {r r' : List V → Hp → VK → Prop} (h : CallR X f r) (h' : CallR X f r') : CallR X f (fun xs H Q => r xs H Q ∨ r' xs H Q) := by
  intro pins s σ H xs us Q I rs q
  rcases q with q | q
  · exact h pins s σ H xs us Q I rs q
  · exact h' pins s σ H xs us Q I rs q
theorem call_tuple_of : CallR X (.type "tuple") (fun xs H Q => ∃ p ys, xs = [.ref p] ∧ ((SqL X.K H p ys ∧ ∀ l, H l = none → Q (.ref l) (upd H l (.tup ys))) ∨ (SqT X.K H p ys ∧ Q (.ref p) H))) := by
  intro pins s σ H xs us Q I r h
  obtain ⟨p, ys, rfl, h⟩ := h
  obtain ⟨u, rfl, rx⟩ := vals1 r
  cases rx
  rcases h with ⟨hq, q⟩ | ⟨hq, q⟩
  · obtain ⟨its, r', pl, hz⟩ := I.list hq
    have hlen := r'.length
    refine call_tuple_list pl.isList (fun h' kp => ?_) (by simp only [List.size_toArray] <;> omega)
    have I1 : Inv X pins σ H { s with heap := h' } := I.kept (t' := s.toks) kp
    have I2 : Inv X pins σ (upd H h'.objs.size (.tup ys)) { s with heap := h'.push { cls := .type "tuple", data := .seq its.toArray } } :=
      I1.laid (t' := s.toks) (fun b o e => Heap.get?_push_of_some _ e) (Nat.le_refl _) (show ObjOk X.prog X.w _ _ _ (.tup ys) from ⟨hz, its, r', IsTup.new _ _⟩)
    exact ⟨.ref h'.objs.size, _, I2, rfl, q _ (I1.hok.fresh (Nat.le_refl _))⟩
  · obtain ⟨its, r', pl, hz⟩ := I.tuple hq
    exact call_tuple_same pl ⟨.ref p, H, I, rfl, q⟩

/-! ### the call of a builtin's method: o.m(..) -/
/-- the value is of that builtin type -/
def tyV (K : PySem.W.Frag) (T : String) (x : V) (H : Hp) : Prop := match x with
  | .str _ => T = "str"
  | .int _ => T = "int"
  | .ref p => (T = "list" ∧ ∃ xs, SqL K H p xs) ∨ (T = "tuple" ∧ ∃ o, K.lookup p = some o ∧ o.cls = .type "tuple" ∧ o.dict = none) ∨
      (T = "dict" ∧ ((∃ kvs, H p = some (.dK kvs)) ∨ ∃ kvs, H p = some (.dT kvs))) ∨ (T = "set" ∧ ∃ S n, H p = some (.set S n))
  | _ => False
theorem tyV_is {pins : List (Addr × Obj)} {σ : St} {H : Hp} {s : Shared} {T : String} {x : V} {v : Value} (I : Inv X pins σ H s) (r : RelV x v) (ty : tyV X.K T x H) :
    s.TypeIs v T ∧ ∀ a, v = .ref a → ∃ ob, s.heap.get? a = some ob ∧ ob.dict = none := by
  cases x with
  | str z =>
    obtain ⟨t, rfl⟩ := r
    cases (show T = "str" from ty)
    exact ⟨typeIs_str s z t, fun _ e => nomatch e⟩
  | int i =>
    obtain ⟨t, rfl⟩ := r
    cases (show T = "int" from ty)
    exact ⟨typeIs_int s i t, fun _ e => nomatch e⟩
  | ref p =>
    cases r
    rcases ty with ⟨rfl, xs, hq⟩ | ⟨rfl, o, hk, hc, hd⟩ | ⟨rfl, hk⟩ | ⟨rfl, S, n, hk⟩
    · obtain ⟨its, _, pl, _⟩ := I.list hq
      refine ⟨pl.isList.typeIs, fun a e => ?_⟩
      cases e
      obtain ⟨o, n, e, c, hd, _⟩ := pl
      exact ⟨o, e, hd⟩
    · refine ⟨⟨o, I.kIn p o hk, hc⟩, fun a e => ?_⟩
      cases e
      exact ⟨o, I.kIn _ o hk, hd⟩
    · have z : ∃ o, s.heap.get? p = some o ∧ o.ExactDict := by
        rcases hk with ⟨kvs, hk⟩ | ⟨kvs, hk⟩
        · obtain ⟨_, _, _, _, o, _, _, e, ex, _⟩ := I.hok p _ hk
          exact ⟨o, e, ex⟩
        · obtain ⟨_, _, _, _, o, _, _, e, ex, _⟩ := I.hok p _ hk
          exact ⟨o, e, ex⟩
      obtain ⟨o, e, ex⟩ := z
      refine ⟨⟨o, e, ex.1⟩, fun a e2 => ?_⟩
      cases e2
      exact ⟨o, e, ex.2.1⟩
    · obtain ⟨o, _, _, _, e, ex, _⟩ := I.hok p _ hk
      refine ⟨⟨o, e, ex.1⟩, fun a e2 => ?_⟩
      cases e2
      exact ⟨o, e, ex.2.1⟩
  | _ => exact False.elim ty
def tBM0 (K : PySem.W.Frag) (T : String) (r : V → List V → Hp → VK → Prop) (to : TE) : TE := fun σ H Q => to σ H fun x H1 => tyV K T x H1 ∧ r x [] H1 Q
def tBM (K : PySem.W.Frag) (T : String) (r : V → List V → Hp → VK → Prop) (to : TE) (t : TA) : TE := fun σ H Q => to σ H fun x H1 => tyV K T x H1 ∧ t σ H1 fun xs H2 => r x xs H2 Q
variable {o e : Expr} {es : List Expr} {to : TE} {t : TA} {name : Str} {apos cpos : Pos} {T id : String} {r : V → List V → Hp → VK → Prop}
theorem pe_bm (pa : PlainAttrs T) (slot : Slot T name id) (hty : typeOf (.builtin id) = pure (.type "method_descriptor")) (hm : MtR X id r) (ho : PE X o to) (ha : PA X (e :: es) t)
    (hbase : attributeBase o name X.env (eval o X.env) = eval o X.env := by rfl)
    (hfew : ((backTo cpos (starEach (e :: es) X.env)).all (fun x => !x.1) && (backToKw cpos (keywordEach [] X.env)).all (fun x => x.1.isSome)
      && decide ((e :: es).length + ([] : List Keyword).length + (if ([] : List Keyword).isEmpty then 0 else 1) < 30)) = true := by rfl)
    (hline : (apos.endLine == cpos.line) = true := by rfl) (hs : starEach (e :: es) X.env = (false, eval e X.env) :: starEach es X.env := by rfl) (hplain : (backTo cpos (starEach es X.env)).any (·.1) = false := by rfl) :
    PE X (.Call (.Attribute o name apos) (e :: es) [] cpos) (tBM X.K T r to t) := by
  intro pins s σ H Q I h
  refine wpAny_Call_method_late hbase hfew hline rfl (thn (ho pins s σ H _ I h) fun v s1 ⟨x, H1, I1, r1, ty, q1⟩ => ?_)
  obtain ⟨h1, h2⟩ := tyV_is I1 r1 ty
  refine ⟨T, id, pa, slot, hty, h1, h2, ?_⟩
  have hA := ha cpos pins s1 σ H1 _ I1 q1
  rw [hs] at hA ⊢
  refine Calls.callWith_builtin (by show (false || (backTo cpos (starEach es X.env)).any (·.1)) = false; rw [hplain] <;> rfl) (Calls.evalArgs_plain ?_)
  exact thn hA fun us s2 ⟨vs, H2, I2, r2, q2⟩ => hm pins s2 σ H2 x vs v us Q I2 r1 r2 q2
/- xs.append(e), list.index on a module's tuple .. are MtR facts of 06m -/
end
end L2

namespace L2
open PySem PySem.Spec PyProof.Rows

def MtM (X : Cx) (id : String) (r : V → List V → Hp → VK → Prop) : Prop :=
  ∀ (pins : List (Addr × Obj)) (s : Shared) (σ : St) (H : Hp) (x : V) (xs : List V) (v : Value) (us : List Value) (Q : VK), Inv X pins σ H s → RelV x v → Vals xs us → r x xs H Q →
    wpAny (model X.prog X.w) X.A (call (.builtin id) (v :: us)) (EP X pins σ Q) X.xe s

/-! ### lists of values -/
theorem Vals.one : ∀ {x : V} {us : List Value}, Vals [x] us → ∃ u, us = [u] ∧ RelV x u
  | _, _, .cons r .nil => ⟨_, rfl, r⟩
theorem Vals.two : ∀ {x y : V} {us : List Value}, Vals [x, y] us → ∃ u v, us = [u, v] ∧ RelV x u ∧ RelV y v
  | _, _, _, .cons r (.cons q .nil) => ⟨_, _, rfl, r, q⟩
theorem Vals.zero : ∀ {us : List Value}, Vals [] us → us = []
  | _, .nil => rfl
theorem Vals.dropLast {xs : List V} {us : List Value} (h : Vals xs us) : Vals xs.dropLast us.dropLast := by
  induction h with
  | nil => exact .nil
  | cons r t ih =>
    cases t with
    | nil => exact .nil
    | cons q t' => exact .cons r ih
theorem Vals.eraseIdx : ∀ {xs : List V} {us : List Value} (i : Nat), Vals xs us → Vals (xs.eraseIdx i) (us.eraseIdx i)
  | _, _, _, .nil => .nil
  | _, _, 0, .cons _ t => t
  | _, _, i + 1, .cons r t => .cons r (Vals.eraseIdx i t)
theorem Vals.reverse {xs : List V} {us : List Value} (h : Vals xs us) : Vals xs.reverse us.reverse := by
  induction h with
  | nil => exact .nil
  | cons r t ih => rw [List.reverse_cons, List.reverse_cons]; exact Vals.append ih (.cons r .nil)
theorem Vals.rep {xs : List V} {us : List Value} (h : Vals xs us) : ∀ k : Nat, Vals (List.replicate k xs).flatten (List.replicate k us).flatten
  | 0 => .nil
  | k + 1 => by
    rw [List.replicate_succ, List.replicate_succ, List.flatten_cons, List.flatten_cons]
    exact Vals.append h (Vals.rep h k)
section
variable {X : Cx} {pins : List (Addr × Obj)} {σ : St} {H : Hp} {s : Shared} {l b : Addr} {xs ys zs : List V}

/-! ### the two steps: a tracked list is rewritten, a new list is laid -/
theorem Inv.lset {its its' : List Value} {n : Nat} {f : Array Value → Array Value} {t' : Nat} (I : Inv X pins σ H s) (hH : H l = some (.lst xs))
    (e : s.heap.get? l = some { cls := .type "list", data := .seq its.toArray n }) (hf : f its.toArray = its'.toArray) (hv : Vals ys its') (hz : ys.length ≤ sizeLine) :
    Inv X pins σ (upd H l (.lst ys)) { s with heap := s.heap.update l (Obj.mapSeq f), toks := t' } := by
  have q := PySem.IsL.update e f
  rw [hf] at q
  refine I.write (x := l) (e := l) (by rw [hH]; exact trivial) (.inl rfl) (fun b' u hb hu => (Heap.get?_update_other s.heap (Obj.mapSeq f) (Ne.symm hb)).trans hu) ⟨_, q⟩ ?_
  exact ⟨hz, its', _, hv, q⟩
theorem Inv.lnew {its : List Value} {t' : Nat} (I : Inv X pins σ H s) (hv : Vals ys its) (hz : ys.length ≤ sizeLine) :
    Inv X pins σ (upd H s.heap.objs.size (.lst ys)) { s with heap := s.heap.push { cls := .type "list", data := .seq its.toArray }, toks := t' } :=
  I.laid (fun _ _ q => Heap.get?_push_of_some _ q) (Nat.le_refl _) ⟨hz, its, 0, hv, Heap.get?_push_size _ rfl⟩
theorem Inv.fresh (I : Inv X pins σ H s) : H s.heap.objs.size = none := I.hok.fresh (Nat.le_refl _)
theorem Inv.lstM (I : Inv X pins σ H s) (hH : H l = some (.lst xs)) : xs.length ≤ sizeLine ∧ ∃ (its : List Value) (n : Nat), Vals xs its ∧ xs.length = its.length ∧ s.heap.get? l = some { cls := .type "list", data := .seq its.toArray n } := by
  obtain ⟨z, its, n, r, e⟩ := I.hok l _ hH
  exact ⟨z, its, n, r, r.length, e⟩

end

section
variable {X : Cx}

/-! ### methods -/
def rAppend : V → List V → Hp → VK → Prop := fun x vs H Q => ∃ l xs y, x = .ref l ∧ vs = [y] ∧ H l = some (.lst xs) ∧ xs.length < sizeLine ∧ Q .non (upd H l (.lst (xs ++ [y])))
theorem mt_append : MtM X "list.append" rAppend := by
  intro pins s σ H x vs v us Q I rx rv h
  obtain ⟨l, xs, y, rfl, rfl, hH, hz, q⟩ := h
  cases rx
  obtain ⟨u, rfl, ru⟩ := rv.one
  obtain ⟨z, its, n, r, hl, e⟩ := I.lstM hH
  refine call_meets F.slot_list_append ⟨_, e, rfl⟩ F.entry_list_append (F.args_list_append_2 _ _) (PySem.list_append l its.toArray n u (by rw [List.size_toArray]; omega)) ⟨e, ?_⟩
  refine ⟨.non, _, I.lset (its' := its ++ [u]) hH e (by simp) (r.append (.cons ru .nil)) ?_, rfl, q⟩
  rw [List.length_append, List.length_singleton]
  omega

def rExtend : V → List V → Hp → VK → Prop := fun x vs H Q => ∃ l b xs zs, x = .ref l ∧ vs = [.ref b] ∧ H l = some (.lst xs) ∧ H b = some (.lst zs) ∧ xs.length + zs.length ≤ sizeLine ∧ Q .non (upd H l (.lst (xs ++ zs)))
def rPop : V → List V → Hp → VK → Prop := fun x vs H Q => ∃ l xs y, x = .ref l ∧ vs = [] ∧ H l = some (.lst xs) ∧ xs[xs.length - 1]? = some y ∧ Q y (upd H l (.lst xs.dropLast))
def rPopAt : V → List V → Hp → VK → Prop := fun x vs H Q => ∃ l xs i k y, x = .ref l ∧ vs = [.int i] ∧ H l = some (.lst xs) ∧ -(2 ^ 63) ≤ i ∧ i < 2 ^ 63 ∧ seqIndex? i xs.length = some k ∧ xs[k]? = some y ∧ Q y (upd H l (.lst (xs.eraseIdx k)))
def rReverse : V → List V → Hp → VK → Prop := fun x vs H Q => ∃ l xs, x = .ref l ∧ vs = [] ∧ H l = some (.lst xs) ∧ Q .non (upd H l (.lst xs.reverse))
def rClear : V → List V → Hp → VK → Prop := fun x vs H Q => ∃ l xs, x = .ref l ∧ vs = [] ∧ H l = some (.lst xs) ∧ Q .non (upd H l (.lst []))
/-! ### list + list, list += list, list * int -/
def rCat : R2 := fun x y H Q => ∃ l b xs zs, x = .ref l ∧ y = .ref b ∧ H l = some (.lst xs) ∧ H b = some (.lst zs) ∧ xs.length + zs.length ≤ sizeLine ∧ ∀ p, H p = none → Q (.ref p) (upd H p (.lst (xs ++ zs)))
theorem op_cat : OpR X (binaryOp .Add) rCat := by
  intro pins s σ H x y v u Q I rx ry h
  obtain ⟨l, b, xs, zs, rfl, rfl, hH, hB, hz, q⟩ := h
  cases rx
  cases ry
  obtain ⟨z, its, n, r, hl, e⟩ := I.lstM hH
  obtain ⟨z2, its2, n2, r2, hl2, e2⟩ := I.lstM hB
  refine PySem.P.add_list e e2 ?_ (by rw [List.size_toArray, List.size_toArray]; omega)
  have ea : its.toArray ++ its2.toArray = (its ++ its2).toArray := by simp
  rw [ea]
  exact ⟨.ref _, _, I.lnew (t' := s.toks) (r.append r2) (by rw [List.length_append]; omega), rfl, q _ I.fresh⟩
/-- a list times an int (a negative one is nothing) -/
def rRep : R2 := fun x y H Q => ∃ l k xs, x = .ref l ∧ y = .int k ∧ H l = some (.lst xs) ∧ -(2 ^ 63) ≤ k ∧ k < 2 ^ 63 ∧ xs.length * k.toNat ≤ sizeLine ∧
  ∀ p, H p = none → Q (.ref p) (upd H p (.lst (List.replicate k.toNat xs).flatten))
/-! ### del xs[i] -/
end

/-! ### xs[a:b] = ys -/
section
variable {prog : Program} {w : World} {A : Around} {E : Value → Shared → Prop} {s : Shared}
end

section
variable {X : Cx}
end
end L2

namespace Att
open PySem PySem.W PySem.Calls PyProof.Rows

/-! ### the script -/
theorem ints_of_wellAll {P : Params} {h : Heap} : ∀ (ns : List Int) (vs : List Value), WellAll P h vs (ns.map WData.int) → IntsAre vs ns := by
  intro ns
  induction ns with
  | nil =>
    intro vs w
    rw [List.map_nil] at w
    cases w
    exact .nil
  | cons n ns ih =>
    intro vs w
    rw [List.map_cons] at w
    cases w with
    | cons a b =>
      cases a
      exact .cons _ _ (ih _ b)

theorem script_of {l : OpenLaw} {n : Nat} (hn : l.most = some n) {P : Params} {h : Heap} {args : List WData} {vals : List Value}
    (hpre : l.row.toRowW.claim.pre args = true) (hwl : WellAll P h vals args) :
    ∃ a vs ns, vals = [Value.ref a] ∧ args = [WData.list (ns.map WData.int)] ∧ h.get? a = some { cls := .type "list", data := .seq vs.toArray } ∧ IntsAre vs ns ∧ ns.length ≤ n := by
  have hsh : WShape.hasAll [] args [.list .int] = true := (pre_splitW hpre).1
  have hc : l.pre.holds [] { args := args } = true := (pre_splitW hpre).2
  obtain ⟨d, r, rfl, h1, h2⟩ := hasAllW_cons hsh
  obtain rfl := hasAllW_nil h2
  obtain ⟨xs, rfl, h3⟩ := hasW_list h1
  obtain ⟨ns, rfl⟩ := items_int h3
  have hlen : ns.length ≤ n := by
    unfold OpenLaw.pre at hc
    have h4 : (WTm.not (.lt (.lit (.int (n : Int))) (.len (.arg 0)))).holds [] { args := [.list (ns.map .int)] } = true := by
      have h4 := (holds_andW hc).1
      rw [hn] at h4
      exact h4
    have h5 := condW_of h4 (w_not (w_lt w_lit (w_len_list (w_arg rfl))))
    rw [List.length_map] at h5
    refine Nat.le_of_not_lt fun q => ?_
    have q' : (n : Int) < ((ns.length : Nat) : Int) := by omega
    first
      | (rw [decide_eq_true q'] at h5; exact absurd h5 (by decide))
      | (simp at h5; omega)
  cases hwl with
  | cons w1 w2 =>
    cases w2
    cases w1 with
    | list ho hall => exact ⟨_, _, ns, rfl, rfl, ho, ints_of_wellAll ns _ hall, hlen⟩

theorem post_true (l : OpenLaw) (args : List WData) : l.row.toRowW.claim.post args (.bool true) args = true :=
  postW_of (r := l.row.toRowW) (X := (true == true))
    (show WShape.has [] (.bool true) .bool = true by first | rfl | decide | simp [WShape.has, WShape.arms, WShape.armsAll])
    (show (WTm.eq .res (.lit (.bool true))).value [] { args := args, res := some (.bool true), after := args } = some (.bool (true == true)) from w_eq_bool (w_res rfl) w_lit) rfl

/-! ### the attachment: holds_open's last premise (the goal 'hc' behind k_head) from a wpAny of the law's body -/
/-- the same from a codeAny of the CALL (for a layer whose function contracts speak of calls) -/
theorem attach_call {l : OpenLaw} {n : Nat} {q : Program} {loose : List Str} {XP : (Str → Option Value) → Heap → Prop} {YP : World → Heap → Prop} {d : DefRec}
    (hn : l.most = some n) (hdf : d.params.defaults = [])
    (call : ∀ (w : World) (s₀ s₁ : Shared) (mg mb : Str → Option Value) (fa : Addr) (o : Obj) (pm cd doc : Value) (a : Addr) (vs : List Value) (ns : List Int),
      Ground q loose [] XP w s₀ mg mb s₁.heap → YP w s₁.heap →
      s₁.heap.get? fa = some o → o.data = .func (docDef d.name d.params d.body d.scope pm cd doc) → s₁.heap.CodeRec cd d.name → mg d.name = some (.ref fa) →
      s₁.heap.get? a = some { cls := .type "list", data := .seq vs.toArray } → IntsAre vs ns → ns.length ≤ n → s₁.gens = #[] →
      codeAny (model l.prog w) callerA (.call (.ref fa) ⟨[.ref a], []⟩) (fun r s' => r = .ok (.ret (.bool true)) ∧ OldK s₁.heap s'.heap ∧ s'.os = s₁.os ∧ AllBare s'.gens) s₁) :
    WalkO q loose XP YP l.row.toRowW d [] (fun f vs => PySem.call f vs) := by
  intro w s₀ s₁ mg mb G Y fa o pm cd doc dV kV ho hd hcd hD hmg hg args vals as hpre hlay hrd hwl hlo
  obtain rfl : dV = .none := Dflts.none hD hdf
  obtain rfl : kV = .none := Dflts.noKw hD
  obtain ⟨a, vs, ns, rfl, rfl, hobj, hints, hlen⟩ := script_of hn hpre hwl
  refine enter_call (codeAny_mono (call w s₀ s₁ mg mb fa o pm cd doc a vs ns G Y ho (fd_plain hd) hcd hmg hobj hints hlen hg) fun r s' hq => ?_)
  obtain ⟨rfl, h2, h3, h4⟩ := hq
  exact ⟨.inl ⟨.bool true, .bool true, [], rfl, fun _ => rfl, .bool true, post_true l _, fun _ => ⟨List.Pairwise.nil, fun _ hm => (nomatch hm)⟩⟩, h2, h3, h4⟩

/-! ### rules over ANY heap (no ledger) from facts about the written part K: the library's own take a ledger (News) for what they write -/
section
variable {prog : Program} {w : World} {A : Around} {E : Value → Shared → Prop} {s : Shared} {K : Frag}

/-! the whole heap as the ledger: makes every rule that writes through a ledger a rule over any heap -/
def noObjs (h : Heap) : Heap := { h with objs := #[] }
def ledger (h : Heap) (L d : Addr) : List (Addr × Obj) := (List.range h.objs.size).filterMap fun a => if a = L ∨ a = d then none else (h.get? a).map fun o => (a, o)
end
end Att

namespace L2
open PySem PySem.Spec PyProof.Rows

theorem vals_ints : ∀ {vs : List Value} {ns : List Int}, IntsAre vs ns → Vals (ns.map V.int) vs
  | _, _, .nil => .nil
  | _, _, .cons n t h => .cons ⟨t, rfl⟩ (vals_ints h)

/-- nothing is tracked but the script, known to the object (or it is an object of the module) -/
def Only (H : Hp) : Prop := ∀ b, H b = none ∨ ∃ o xs, H b = some (.frz o (.lst xs))

/-- THE HEAD: the law's promise, at the heap behind the top. F, the promise of the law's def, may use that base is part of the heap (so K.In base, base.Ns mainGlobals mg stand in Mod) -/
theorem law_call {P : Program} {w : World} {K : PySem.W.Frag} {mg mb : Str → Option Value} {CX : CXT} {k : Nat} {fa a : Addr} {fd : FuncData} {x : Str} {sp : Sp} {s₁ : Shared} {vs : List Value} {ns : List Int}
    (KX : K.In s₁.heap) (hns : s₁.heap.Ns mainGlobals mg) (hb : s₁.heap.Ns builtinsNs mb) (hbb : ∀ x : Str, x ≠ "__name__" → mb x = bootBuiltins x) (hlim : s₁.heap.NoLimit) (hg : s₁.gens = #[])
    (ha : s₁.heap.get? a = some { cls := .type "list", data := .seq vs.toArray }) (hi : IntsAre vs ns) (hl : ns.length ≤ sizeLine) (hr : Room k callerA)
    (F : ∀ base : Heap, K.In base → base.Ns mainGlobals mg → FnOk P w K mg base CX k fa fd [x] sp) (hbind : ∀ (s : Shared) (u : Value), BindsTo s fd ⟨[u], []⟩ [(x, u)])
    (hsp : ∀ H : Hp, Only H → SqL K H a (ns.map V.int) → sp [.ref a] H (fun v _ => v = .bl true) fun _ _ _ => False)
    (hCX : ∀ H e s', CX [] H s₁ (fun _ _ _ => False) e s' → False) :
    codeAny (model P w) callerA (.call (.ref fa) ⟨[.ref a], []⟩) (fun r s' => r = .ok (.ret (.bool true)) ∧ OldK s₁.heap s'.heap ∧ s'.os = s₁.os ∧ AllBare s'.gens) s₁ := by
  have rv := vals_ints hi
  have lenV := hi.length
  -- from an abstract heap in which nothing but the script may be tracked
  have core : ∀ H : Hp, Only H → SqL K H a (ns.map V.int) → HOk P w H s₁.heap → (∀ b, H b ≠ none → b = a) → (H a ≠ none → K.lookup a = none) →
      codeAny (model P w) callerA (.call (.ref fa) ⟨[.ref a], []⟩) (fun r s' => r = .ok (.ret (.bool true)) ∧ OldK s₁.heap s'.heap ∧ s'.os = s₁.os ∧ AllBare s'.gens) s₁ := by
    intro H hO hS hok hA hK
    have base_of : ∀ {b : Addr} {o : Obj}, s₁.heap.get? b = some o → H b = none → (hidT s₁.heap H).get? b = some o := fun e n => hidT_get e n
    have noA : ∀ {b : Addr} {o : Obj} {es : Array DictEntry} {ep : Nat}, s₁.heap.get? b = some o → o.data = .dict es ep → H b = none := fun {b o es ep} e d => by
      cases q : H b with
      | none => rfl
      | some u =>
        have e' : b = a := hA b (by rw [q]; simp)
        subst e'
        rw [ha] at e; cases e
        have d' : Data.seq vs.toArray _ = Data.dict es ep := d
        cases d'
    have nsK : ∀ {b : Addr} {m : Str → Option Value}, s₁.heap.Ns b m → (hidT s₁.heap H).Ns b m := fun {b m} ⟨o, es, ep, e, d, r⟩ => ⟨o, es, ep, base_of e (noA e d), d, r⟩
    have hKb : K.In (hidT s₁.heap H) := fun b o e => base_of (KX b o e) (by
      cases q : H b with
      | none => rfl
      | some u =>
        have e' : b = a := hA b (by rw [q]; simp)
        subst e'
        rw [hK (by rw [q]; simp)] at e; cases e)
    have hM : Mod K mg (hidT s₁.heap H) := ⟨hKb, nsK hns, ⟨mb, nsK hb, hbb⟩, let ⟨mc, h1, h2⟩ := hlim; ⟨mc, nsK h1, h2⟩⟩
    have e0 : Env0 P w K mg (hidT s₁.heap H) callerA [] s₁ H := ⟨rfl, hM, fun b o e => of_hidT e, Nat.le_of_eq (hidT_size _ _), trivial, fun b hb => absurd (show b ∈ ([] : List Addr) from hb) (by simp), hok, .of_eq hg⟩
    refine codeAny_mono ((F _ hKb (nsK hns)).run callerA [] s₁ H ⟨[.ref a], []⟩ [.ref a] [.ref a] _ _ hr e0 (hbind s₁ (.ref a)) (.cons rfl .nil) (hsp H hO hS)) fun r s' h => ?_
    cases r with
    | error e => exact (hCX H e s' h).elim
    | ok fl =>
      cases fl with
      | next => exact False.elim h
      | brk => exact False.elim h
      | cont => exact False.elim h
      | ret u =>
        obtain ⟨v, H', os, bare, un, hok', r', q⟩ := h
        have q' : v = .bl true := q
        subst q'
        obtain rfl : u = Value.bool true := r'
        refine ⟨rfl, OldK.of_keep fun b o e => ?_, os, bare⟩
        cases q : H b with
        | none => exact un.keep b o e q (by intro z; exact absurd (show b ∈ ([] : List Addr) from z) (by simp)) (by simp)
        | some u =>
          rcases hO b with z | ⟨ob, xs, z⟩
          · rw [q] at z; cases z
          · have z2 := un.frzs b ob _ z
            obtain ⟨e1, _⟩ := hok b _ z
            obtain ⟨e2, _⟩ := hok' b _ z2
            rw [e] at e1; cases e1
            exact e2
  cases hk : K.lookup a with
  | some o =>
    -- the script is one of the module's own objects
    have e := KX a o hk
    rw [ha] at e
    cases e
    refine core (fun _ => none) (fun _ => .inl rfl) (.inr ⟨_, vs.toArray, _, hk, rfl, rfl, rfl, by rw [List.size_toArray, lenV]; exact hl, by simpa using rv⟩) (fun b u z => by have z' : (none : Option HO) = some u := z; cases z') (fun b z => absurd rfl z) fun z => absurd rfl z
  | none =>
    refine core (fun b => if b = a then some (.frz { cls := .type "list", data := .seq vs.toArray } (.lst (ns.map V.int))) else none) (fun b => ?_) (.inl (.inr ⟨{ cls := .type "list", data := .seq vs.toArray }, if_pos rfl⟩)) (fun b u z => ?_) (fun b z => ?_) fun _ => hk
    · by_cases hb : b = a
      · exact .inr ⟨_, _, if_pos hb⟩
      · exact .inl (if_neg hb)
    · by_cases hb : b = a
      · have z' := (if_pos hb).symm.trans z
        cases z'
        subst hb
        exact ⟨ha, by rw [List.length_map]; exact hl, vs, _, rv, ha⟩
      · have z' := (if_neg hb).symm.trans z
        cases z'
    · by_cases hb : b = a
      · exact hb
      · exact absurd (if_neg hb) z
end L2

namespace L2
open PySem PySem.Spec PyProof.Rows

abbrev KOf {K : PySem.W.Frag} {h : Heap} (_ : K.In h) : PySem.W.Frag := K

/-- the goal that k_head leaves (case hc), from the law's promise. F gives the function object fd (K's own) once, then the promise over every base -/
theorem walk_of {l : PySem.W.OpenLaw} {n k : Nat} {q : Program} {loose : List Str} {XP : (Str → Option Value) → Heap → Prop} {YP : World → Heap → Prop} {d : DefRec} {K : Params → PySem.W.Frag} {CX : World → CXT} {sp : World → Sp} {x : Str}
    (hn : l.most = some n) (hn2 : n ≤ sizeLine) (hdf : d.params.defaults = []) (hr : Room k callerA)
    (hY : ∀ (w : World) (h : Heap), YP w h → (K w.params).In h)
    (F : ∀ (w : World) (mg : Str → Option Value) (fa : Addr) (h : Heap), (K w.params).In h → h.Ns mainGlobals mg → mg d.name = some (.ref fa) →
      ∃ fd : FuncData, (∀ (s : Shared) (u : Value), BindsTo s fd ⟨[u], []⟩ [(x, u)]) ∧
        ∀ base : Heap, (K w.params).In base → base.Ns mainGlobals mg → FnOk l.prog w (K w.params) mg base (CX w) k fa fd [x] (sp w))
    (hsp : ∀ (w : World) (H : Hp) (a : Addr) (ns : List Int), ns.length ≤ n → Only H → SqL (K w.params) H a (ns.map V.int) → sp w [.ref a] H (fun v _ => v = .bl true) fun _ _ _ => False)
    (hCX : ∀ (w : World) (H : Hp) (s : Shared) (e : Value) (s' : Shared), CX w [] H s (fun _ _ _ => False) e s' → False) :
    PySem.W.WalkO q loose XP YP l.row.toRowW d [] (fun f vs => PySem.call f vs) := by
  refine Att.attach_call hn hdf fun w s₀ s₁ mg mb fa o pm cd doc a vs ns G Y ho hd hcd hmg hobj hints hlen hg => ?_
  have KX := hY w _ Y
  obtain ⟨fd, hb, hF⟩ := F w mg fa _ KX G.T.g hmg
  exact law_call KX G.T.g G.T.b G.T.builtins G.T.nolimit hg hobj hints (Nat.le_trans hlen hn2) hr hF hb (fun H hO hS => hsp w H a ns hlen hO hS) fun H e s' => hCX w H s₁ e s'
end L2

/- THE LAST THEOREM (shape; LID, My.* are yours):
   My.Adr: a structure of the addresses that your layer names (classes, functions); My.Txt K t: a structure (Prop) of the equations over K;
   My.txt_mk : {K} {implicit addresses ..} (e1 : nsIn K mainGlobals "law" = some (some (.ref f))) (e2 : K.lookup f = some ⟨oc, od, .func (fnOf "law" "law" params body scope dV kV doc pm an cdv ct), sl⟩) (e3 : codeIn K cdv "law" = true) .. : ∃ t, My.Txt K t

set_option maxRecDepth 100000 in
set_option maxHeartbeats 0 in
theorem PySem.Challenge.cw_LID_holds : PySem.Challenge.rw_LID.Holds := by
  w_on; o_law; k_head; (case hw => w_witness2)
  k_fill
  refine L2.walk_of (l := PySem.Challenge.rw_LID) (n := 63) (k := 40) (x := "script") (CX := fun w => ..) (sp := fun _ => My.sp_law) rfl (by decide) rfl ⟨rfl, by decide, by decide⟩ (fun w h Y => PySem.W.kIn_of Y) ?F ?S ?C
  case F =>
    intro w mg fa h KX G hmg
    have T : ∃ t, My.Txt (L2.KOf KX) t := by
      dsimp only [L2.KOf]                          -- K must stand as «<heap const> w.params» for k_is
      refine' My.txt_mk ?e1 ?e2 ?e3 ..
      (case e1 => PySem.W.k_is)                    -- in the order: a name -> its address -> its object -> its parts
      (case e2 => PySem.W.k_is)
      ..
    obtain ⟨t, T⟩ := T
    have e0 := hmg.symm.trans (PySem.W.mg_of KX G T.law)
    cases e0                                       -- fa is the law's own address
    exact ⟨_, fun s u => .of_eq rfl, fun base kb nb => My.law_fn T kb nb⟩     -- if «.of_eq rfl» comes too early: refine' ⟨_, ?b, fun base kb nb => My.law_fn T kb nb⟩; exact fun s u => .of_eq rfl
  case S => exact fun w H a ns hl hO hS => ..
  case C => exact ..
(the tactic k_is has no namespace: write k_is) -/

/-! SHORT WORDS over the layer: a def of the text, its body, what a loop and a test want. -/
namespace L2
open PySem PySem.Spec PyProof.Rows

/-! ### the text by places -/
/-- the j-th statement of a class's body -/
def inClass (s : Stmt) (j : Nat) : Stmt := match s with
  | .ClassDef _ _ _ body _ _ _ _ _ _ _ => body.getD j (.Pass ⟨0, 0, 0, 0⟩)
  | _ => .Pass ⟨0, 0, 0, 0⟩
def defArgs (s : Stmt) : Arguments := match s with
  | .FunctionDef _ a _ _ _ _ _ _ _ _ => a
  | _ => { posonlyargs := [], args := [], vararg := none, kwonlyargs := [], kw_defaults := [], kwarg := none, defaults := [] }
def defBody (s : Stmt) : List Stmt := match s with
  | .FunctionDef _ _ b _ _ _ _ _ _ _ => b
  | _ => []
def defScope (s : Stmt) : Scope := match s with
  | .FunctionDef _ _ _ _ _ _ sc _ _ _ => sc
  | _ => { kind := .function, names := [], isGenerator := false, isCoroutine := false }

/-! ### no exception leaves a def -/
abbrev CX0 : CXT := fun _ _ _ _ _ _ => False
abbrev E0 : XK := fun _ _ _ => False
theorem pass0 {X : Cx} : Passes CX0 X E0 := fun _ _ _ _ _ _ _ h => h.elim

/-! ### a def (or method) of the text as it stands behind the top -/
structure Fun (K : PySem.W.Frag) (x qual : Str) (st : Stmt) (f : Addr) (fd : FuncData) : Prop where
  ex : ∃ (oc : Value) (od : Option Addr) (kV doc pm : Value) (an : Option Addr) (cdv ct : Value) (osl : Array (Option Value)),
    fd = PySem.W.fnOf x qual (defArgs st) (defBody st) (defScope st) .none kV doc pm an cdv ct ∧ K.lookup f = some ⟨oc, od, .func fd, osl⟩ ∧ PySem.W.codeIn K cdv qual = true
  kp : PySem.W.keepIn K (.ref f) = true
section
variable {P : Program} {w : World} {K : PySem.W.Frag} {mg : Str → Option Value} {base : Heap}
/-- THE RULE for a def: its body as a term of rules, and the reading of that term -/
theorem Fun.ok {x qual : Str} {st : Stmt} {f : Addr} {fd : FuncData} {N ps : List Str} {k : Nat} {sp : Sp} (F : Fun K x qual st f fd) (S : FnScope N ps (defScope st)) (len : ∀ vs H Q E, sp vs H Q E → vs.length = ps.length)
    (hbody : ∀ (cdv : Value) (A : Around) (outer : List Env) (s : Shared) (H : Hp) (vs : List V) (Q : VK) (E : XK), Room k (A.deeper (envOfC qual (defScope st) s.heap.objs.size f cdv)) → sp vs H Q E →
      ∃ t, PSs (cxOf CX0 P w K mg base N qual (defScope st) f cdv A outer s H E).nox (defBody st) t ∧ t { nx := fun _ H' => Q .non H', rt := Q } (start N vs) H) : FnOk P w K mg base CX0 (k + 1) f fd ps sp := by
  obtain ⟨oc, od, kV, doc, pm, an, cdv, ct, osl, rfl, lk, hcd⟩ := F.ex
  refine fn_of lk hcd S len fun A outer s H vs Q E hr hsp => ?_
  obtain ⟨t, h, q⟩ := hbody cdv A outer s H vs Q E hr hsp
  exact ⟨t, h.nox, q⟩
/-- how its arguments bind (no defaults): h is «fun _ _ _ _ _ _ us hl => match us, hl with | [_, _], _ => rfl», one _ a parameter -/
theorem Fun.binds {x qual : Str} {st : Stmt} {f : Addr} {fd : FuncData} {ps : List Str} (F : Fun K x qual st f fd)
    (h : ∀ (kV doc pm : Value) (an : Option Addr) (cdv ct : Value) (us : List Value), us.length = ps.length → bindArgs (PySem.W.fnOf x qual (defArgs st) (defBody st) (defScope st) .none kV doc pm an cdv ct) ⟨us, []⟩ = pure (ps.zip us)) : Binds K fd ps [] := by
  obtain ⟨oc, od, kV, doc, pm, an, cdv, ct, osl, rfl, lk, hcd⟩ := F.ex
  exact .all (h kV doc pm an cdv ct)
theorem fun_mk {x qual : Str} {st : Stmt} {f : Addr} {oc : Value} {od an : Option Addr} {osl : Array (Option Value)} {kV doc pm cdv ct : Value} (l : K.lookup f = some ⟨oc, od, .func (PySem.W.fnOf x qual (defArgs st) (defBody st) (defScope st) .none kV doc pm an cdv ct), osl⟩)
    (c : PySem.W.codeIn K cdv qual = true) (k : PySem.W.keepIn K (.ref f) = true) : Fun K x qual st f (PySem.W.fnOf x qual (defArgs st) (defBody st) (defScope st) .none kV doc pm an cdv ct) := ⟨⟨oc, od, kV, doc, pm, an, cdv, ct, osl, rfl, l, c⟩, k⟩
end
theorem hu_of {A : Around} {k : Nat} (hr : Room k A) : A.units + 1 < cLine := Nat.lt_of_le_of_lt (Nat.add_le_add_left (by decide : 1 ≤ 64) _) hr.units
theorem small1000 {n : Nat} (h : n ≤ 1000) : n < sizeLine := Nat.lt_of_le_of_lt h (by decide)

/-! ### expressions in short: the name that stands in the i-th slot -/
section
variable {X : Cx}
theorem pv (i : Nat) {x : Str} {pos : Pos} (hN : X.N[i]? = some x := by rfl) (hv : Vis X.env.scope x := by first | exact Or.inl rfl | exact Or.inr (Or.inl rfl) | exact Or.inr (Or.inr rfl)) (hd : (x == ("__debug__" : Str)) = false := by decide)
    (hcd : (x == ("__classdict__" : Str)) = false := by decide) : PE X (.Name x pos) (tVar i) := pe_var hN hv hd hcd
end

/-! ### tests -/
theorem iteF {A B : Prop} (h : B) : if false = true then A else B := by
  rw [if_neg Bool.false_ne_true]
  exact h
theorem iteT {A B : Prop} (h : A) : if true = true then A else B := by
  rw [if_pos rfl]
  exact h
theorem ite2 {c A B : Prop} [Decidable c] (h1 : c → A) (h2 : ¬ c → B) : if c then A else B := by
  by_cases h : c
  · rw [if_pos h]
    exact h1 h
  · rw [if_neg h]
    exact h2 h
/-! ### heaps -/
/-- all that was tracked is as it was -/
def Same (H H' : Hp) : Prop := ∀ b o, H b = some o → H' b = some o
theorem Same.refl (H : Hp) : Same H H := fun _ _ h => h
theorem Same.trans {H H1 H2 : Hp} (a : Same H H1) (b : Same H1 H2) : Same H H2 := fun c o h => b c o (a c o h)
theorem Same.free {H H' : Hp} (e : Same H H') {l : Addr} (h : H' l = Option.none) : H l = Option.none := by
  cases q : H l with
  | none => rfl
  | some o =>
    rw [e l o q] at h
    cases h
theorem Same.seq {K : PySem.W.Frag} {H H' : Hp} {a : Addr} {xs : List V} (e : Same H H') (h : SqL K H a xs) : SqL K H' a xs := by
  rcases h with (h | ⟨o, h⟩) | h
  · exact .inl (.inl (e _ _ h))
  · exact .inl (.inr ⟨o, e _ _ h⟩)
  · exact .inr h

end L2

/-! OWN RULES over the hand layer: texts cut and walked, a comprehension, all, isinstance. -/
namespace L2
open PySem PySem.Spec PyProof.Rows
section
variable {X : Cx} {e l : Expr} {te tl : TE} {pos : Pos} {tg : Expr}

/-! ### a text cut -/
def rSlS : V → Option Int → Option Int → Hp → VK → Prop := fun x lo hi H Q => ∃ z, x = .str z ∧ z.length ≤ sizeLine ∧ Q (.str (Txt.slice z lo hi)) H
/-! ### a text walked -/
def Its (z : Str) : It := ⟨fun i _ => i < z.length, fun i H x H' => H' = H ∧ ∃ c, z.cps[i]? = some c ∧ x = .str ⟨#[c]⟩, fun i _ => z.length ≤ i⟩
theorem turn_str {P : Program} {w : World} {K : PySem.W.Frag} {ty : String} (hty : ty = "str_ascii_iterator" ∨ ty = "str_iterator") (it : Addr) (z : Str) (t : Tok) : Turn P w K tg (Its z) [it] it (fun i h => h.IsStrIter it ty z t i) where
  mem := by simp
  obj := fun i h st b hb => by
    have e : b = it := by simpa using hb
    subst e
    obtain ⟨o, e, c, d⟩ := st
    exact ⟨o, e, fun v z => by rw [d] at z; cases z⟩
  keep := fun i h h' st k => by
    obtain ⟨o, e, r⟩ := st
    exact ⟨o, k it (by simp) o e, r⟩
  item := by
    intro X hP hw hK hc i pins s σ H E I hf st hg
    subst hP hw hK
    have hi : i < z.cps.size := hg
    have hx : z.cps[i]? = some z.cps[i] := by simp [hi]
    obtain ⟨f0, f1, f2, f3, f4, f5⟩ := hf it (by simp)
    rcases hty with rfl | rfl
    · refine wpAny_pyNext_ascii_item st hx fun h' st' sb => ?_
      have I1 : Inv X pins σ H { s with heap := h', toks := s.toks + 1 } := I.turned (t' := s.toks + 1) (fun b o hb e => (sb.2 b hb).trans e) f0 f1 f3 f4 f5
      obtain ⟨o, e, c, d⟩ := id st'
      exact ⟨_, rfl, go_of (s := { s with heap := h', toks := s.toks + 1 }) e c d (by decide) ⟨.str ⟨#[z.cps[i]]⟩, H, I1, ⟨_, rfl⟩, ⟨rfl, _, hx, rfl⟩, st', fun b hb => (hf b hb).1⟩⟩
    · refine wpAny_pyNext_wide_item st hx fun h' st' sb => ?_
      have I1 : Inv X pins σ H { s with heap := h', toks := s.toks + 1 } := I.turned (t' := s.toks + 1) (fun b o hb e => (sb.2 b hb).trans e) f0 f1 f3 f4 f5
      obtain ⟨o, e, c, d⟩ := id st'
      exact ⟨_, rfl, go_of (s := { s with heap := h', toks := s.toks + 1 }) e c d (by decide) ⟨.str ⟨#[z.cps[i]]⟩, H, I1, ⟨_, rfl⟩, ⟨rfl, _, hx, rfl⟩, st', fun b hb => (hf b hb).1⟩⟩
  done := by
    intro X hP hw hK hc i pins s σ H E I hf st hg
    subst hP hw hK
    have hi : z.cps.size ≤ i := hg
    have hx : z.cps[i]? = none := by simp [hi]
    obtain ⟨f0, f1, f2, f3, f4, f5⟩ := hf it (by simp)
    rcases hty with rfl | rfl
    · exact wpAny_pyNext_ascii_end (I.ok.hd hc) st hx fun h' eb => ⟨rfl, I.turned (t' := s.toks) (fun b o hb e => eb b o hb e) f0 f1 f3 f4 f5⟩
    · exact wpAny_pyNext_wide_end (I.ok.hd hc) st hx fun h' eb => ⟨rfl, I.turned (t' := s.toks) (fun b o hb e => eb b o hb e) f0 f1 f3 f4 f5⟩
  self := fun _ _ _ _ _ st h => by
    rcases hty with rfl | rfl
    · exact wpAny_pyIter_striter_ascii st h
    · exact wpAny_pyIter_striter_wide st h
def iStr (tl : TE) : TI := fun σ H R => tl σ H fun x H1 => ∃ z, x = .str z ∧ R (Its z) H1
theorem pi_str (hl : PE X l tl) : PI X tg l (iStr tl) := by
  intro pins s σ H R I h
  refine thn (hl pins s σ H _ I h) fun v s1 ⟨x, H1, I1, r1, q1⟩ => ?_
  obtain ⟨z, e, q⟩ := q1
  subst e
  obtain ⟨t, rfl⟩ := r1
  have fp : ∀ b ∈ [s1.heap.objs.size], FpOk X pins H1 b := fun b hb => by
    have e : b = s1.heap.objs.size := by simpa using hb
    subst e
    exact I1.fpOk (Nat.le_refl _) (I1.hok.fresh (Nat.le_refl _))
  cases ha : z.cps.all (· < 128) with
  | true =>
    refine wpAny_pyIter_ascii ha ?_
    exact ⟨s1.heap.objs.size, [s1.heap.objs.size], _, _, H1, rfl, I1.kept (t' := s1.toks) fun b o e => Heap.get?_push_of_some _ e, turn_str (.inl rfl) _ z t, ⟨_, Heap.get?_push_size _ rfl, rfl, rfl⟩, fp, q⟩
  | false =>
    refine wpAny_pyIter_wide ha ?_
    exact ⟨s1.heap.objs.size, [s1.heap.objs.size], _, _, H1, rfl, I1.kept (t' := s1.toks) fun b o e => Heap.get?_push_of_some _ e, turn_str (.inr rfl) _ z t, ⟨_, Heap.get?_push_size _ rfl, rfl, rfl⟩, fp, q⟩
/-! ### all of a list of bools -/
theorem call_all_bools (hc : X.calm = true) : CallR X (.builtin "all") (fun xs H Q => ∃ (p : Addr) (bs : List Bool), xs = [.ref p] ∧ SqL X.K H p (bs.map V.bl) ∧ Q (.bl (bs.all id)) H) := by
  intro pins s σ H xs us Q I r h
  obtain ⟨p, bs, rfl, hq, q⟩ := h
  obtain ⟨u, rfl, rx⟩ := vals1 r
  cases rx
  obtain ⟨its, rv, pl, hz⟩ := I.list hq
  have hl := rv.length
  rw [List.length_map] at hl
  have hp : p < s.heap.objs.size := by
    obtain ⟨o, ho, _⟩ := pl.isList
    exact Heap.lt_size ho
  have hne : p ≠ s.heap.objs.size := Nat.ne_of_lt hp
  refine call_all_walk (wpAny_pyIter_list pl.isList ?_)
  refine ⟨s.heap.objs.size, [s.heap.objs.size, p], [s.heap.objs.size], its.toArray.size, _, _, fun i => bs.getD i true, rfl, Walks.list (show X.A.in1.handled = none from I.ok.hd hc) _ p hne its.toArray, ⟨⟨_, Heap.get?_push_size _ rfl, rfl, rfl⟩, pl.isList.push _⟩, ?_, fun h' tk hk => ?_⟩
  · intro i v s' Q' E' hv hQ
    have hv' : its[i]? = some v := by simpa using hv
    have hi : i < its.length := (List.getElem?_eq_some_iff.mp hv').1
    have hb : bs[i]? = some (bs.getD i true) := by
      rw [List.getD_eq_getElem?_getD, List.getElem?_eq_getElem (by omega)]
      rfl
    obtain ⟨w', e1, e2⟩ := rv.get (i := i) (x := .bl (bs.getD i true)) (by rw [List.getElem?_map, hb]; rfl)
    rw [hv'] at e1
    cases e1
    cases (show v = Value.bool _ from e2)
    exact wpAny_truthy_bool hQ
  · have e : (List.range its.toArray.size).all (fun i => bs.getD i true) = bs.all id := by
      rw [Bool.eq_iff_iff, List.all_eq_true, List.all_eq_true]
      constructor
      · intro h x hx
        obtain ⟨i, hi, rfl⟩ := List.mem_iff_getElem.mp hx
        have := h i (List.mem_range.mpr (by simp only [List.size_toArray]; omega))
        rw [List.getD_eq_getElem?_getD, List.getElem?_eq_getElem hi] at this
        exact this
      · intro h i hi
        have hi' : i < bs.length := by have := List.mem_range.mp hi; simp only [List.size_toArray] at this; omega
        rw [List.getD_eq_getElem?_getD, List.getElem?_eq_getElem hi']
        exact h _ (List.getElem_mem hi')
    refine ⟨.bl (bs.all id), H, I.kept (t' := tk) fun b o eb => hk b o ?_ (Heap.get?_push_of_some _ eb), congrArg Value.bool e, q⟩
    intro hm
    have : b = s.heap.objs.size := by simpa using hm
    exact absurd (Heap.lt_size eb) (by rw [this]; exact Nat.lt_irrefl _)

/-! ### isinstance(x, T), T a built-in type -/
end

/-! ### a comprehension: its block is a context of its own -/
structure Clo (X : Cx) (scope : Scope) (cl : List (Str × Addr)) : Prop where
  eq : closureFor scope X.env = pure cl
  sub : ∀ y c, cl.lookup y = some c → X.env.cells.lookup y = some c
  has : ∀ y, ((relabel scope X.env).names.lookup y = some .cell ∨ (relabel scope X.env).names.lookup y = some .free) → ∃ c, cl.lookup y = some c
theorem clo_none {X : Cx} {scope : Scope} (hfree : ∀ x ∈ scope.names, x.2 ≠ .free) (hcell : ∀ x ∈ scope.names, x.2 ≠ .cell) : Clo X scope [] := by
  refine ⟨closureFor_none hfree, fun y c h => by simp at h, fun y h => ?_⟩
  have e : (relabel scope X.env).names = scope.names := by
    unfold relabel
    refine map_eq_self (fun x hx => ?_)
    obtain ⟨n, k⟩ := x
    have : (k == NameKind.free) = false := by simpa using hfree _ hx
    simp [this]
  rw [e] at h
  rcases h with h | h
  · exact absurd rfl (hcell _ (PySem.mem_of_lookup h))
  · exact absurd rfl (hfree _ (PySem.mem_of_lookup h))

def cxComp (X : Cx) (N' : List Str) (scope : Scope) (cl : List (Str × Addr)) (fp : List Addr) (s₃ : Shared) (H₃ : Hp) : Cx where
  prog := X.prog
  w := X.w
  K := X.K
  mg := X.mg
  base := X.base
  A := X.A
  N := N'
  s₀ := s₃
  H₀ := H₃
  env := compEnvC scope cl s₃.heap.objs.size X.env
  outer := X.stack
  stack := X.stack
  ex := fp
  calm := X.calm
  fn := fun _ => false
  pn := []
  xe := fun _ _ => False

/-- the free names' values -/
def fvs (σ : St) (ix : List Nat) : St := ix.map fun i => (σ[i]?).join
def tLC (wi : TI) (ix : List Nat) (te : TE) : TE := fun σ H Q => wi σ H fun J H1 => ∀ D, H1 D = none →
  ∃ W : Nat → Nat → List V → Hp → Prop, (∃ m, W 0 m [] (upd H1 D (.lst []))) ∧
    ∀ i m ys H', W i m ys H' → H' D = some (.lst ys) ∧
      ((J.stop i H' ∧ Q (.ref D) H') ∨ (J.go i H' ∧ ∀ x H'', J.yld i H' x H'' → te (some x :: fvs σ ix) H'' fun y H3 =>
        H3 D = some (.lst ys) ∧ ys.length < sizeLine ∧ ∃ m', m' < m ∧ W (i + 1) m' (ys ++ [y]) (upd H3 D (.lst (ys ++ [y])))))

/-- the loop of a comprehension, with the step ahead of the store -/
theorem compLoop_go {prog : Program} {w : World} {A : Around} {R : Result → Shared → Prop} {s : Shared} {elt target iter : Expr} {scope : Scope} {pos : Pos} {it acc : Value} {env : Env} (I : Nat → Shared → Prop)
    (turn : ∀ n s, I n s → wpAny (model prog w) A (pyNext it) (fun r s₁ => match r with
      | none => R (.ok .next) s₁
      | some v => wpAny (model prog w) A (letOwnedTupleGo target it v) (fun _ s₁' => wpAny (model prog w) A (assign target env v) (fun _ s₂ => wpAny (model prog w) A (eval elt env) (fun x s₃ =>
          wpAny (model prog w) A (call (.builtin "list.append") [acc, x]) (fun _ s₄ => ∃ m, m < n ∧ I m s₄) (notedBy (model prog w) A env fun e s' => R (.error e) s') s₃)
          (notedBy (model prog w) A env fun e s' => R (.error e) s') s₂) (notedBy (model prog w) A env fun e s' => R (.error e) s') s₁') (notedBy (model prog w) A env fun e s' => R (.error e) s') s₁) (notedBy (model prog w) A env fun e s' => R (.error e) s') s)
    (n : Nat) (h : I n s) :
    codeAny (model prog w) A (.compLoop (.ListComp elt [⟨target, iter, [], 0⟩] scope pos) 0 it acc env) R s := by
  refine codeAny_loop rfl I (fun n s hI => ?_) n h
  show wpAny _ _ ((compTurn (.ListComp elt [⟨target, iter, [], 0⟩] scope pos) 0 it acc env).onRaise (fun x => do noteFrame x env; theTreesLotGoes x)) _ _ s
  refine wpAny_noted ?_
  rw [compTurn_list1]
  refine wpAny_bind (wpAny_standAt (wpAny_bind (wpAny_mono (turn n s hI) (fun r s₁ h₁ => ?_) fun _ _ h' => h')))
  cases r with
  | none => exact wpAny_pure h₁
  | some v =>
    refine wpAny_bind (wpAny_mono h₁ (fun _ s₁' h₁' => ?_) fun _ _ h' => h')
    exact wpAny_bind (wpAny_mono h₁' (fun _ s₂ h₂ => wpAny_bind (wpAny_bind (wpAny_mono h₂ (fun x s₃ h₃ => wpAny_bind (wpAny_mono h₃
      (fun _ s₄ h₄ => wpAny_pure (wpAny_pure ⟨rfl, h₄⟩)) fun _ _ h' => h')) fun _ _ h' => h'))) fun _ _ h' => h')

section
variable {X : Cx} {N' : List Str} {scope : Scope} {cl : List (Str × Addr)} {fp : List Addr} {pins : List (Addr × Obj)} {σ : St} {H : Hp} {s : Shared}
/-- the block's context stands -/
theorem comp_ok (I : Inv X pins σ H s) (C : Clo X scope cl) (hkind : scope.kind = .function) (hf : ∀ b ∈ fp, FpOk X pins H b) (hlt : ∀ b ∈ fp, b < s.heap.objs.size) : (cxComp X N' scope cl fp s H).Ok where
  mod := I.ok.mod
  kind := hkind
  glob := I.ok.glob
  blt := I.ok.blt
  above := Nat.le_refl _
  inj := fun x y c h1 h2 => I.ok.inj x y c (C.sub x c h1) (C.sub y c h2)
  has := fun x h => C.has x h
  cab := fun x c h => by cases (show false = true from h)
  hd := I.ok.hd
  frames := I.ok.frames
  stk := .inl rfl
  exf := fun b hb => ⟨Nat.ne_of_lt (hlt b hb), fun x c h => (hf b hb).2.2.2.2.1 x c (C.sub x c h)⟩
  bs := fun b o h => I.bs b o h
  bsz := Nat.le_trans I.ok.bsz I.sz
  noex := fun b o h hb => by
    rcases (hf b hb).2.2.2.1 with z | z
    · exact I.ok.noex b o h z
    · exact absurd (Nat.lt_of_lt_of_le (Heap.lt_size h) (Nat.le_trans I.ok.bsz z)) (Nat.lt_irrefl _)
  exfs := fun b hb hs => by
    rcases List.mem_cons.mp (I.stkSub b hs) with z | z
    · exact (hf b hb).2.1 z
    · exact (hf b hb).2.2.1 z
  funs := I.stack
  frf := I.stkFree
/-- the block's entry -/
theorem comp_start {ix : List Nat} {h₁ : Heap} {t' : Nat} {m : Str → Option Value} (I : Inv X pins σ H s) (C : Clo X scope cl) (hkind : scope.kind = .function) (hf : ∀ b ∈ fp, FpOk X pins H b) (hlt : ∀ b ∈ fp, b < s.heap.objs.size)
    (hlen : N'.length = ix.length + 1) (hix : ∀ (j i : Nat), ix[j]? = some i → ∃ y, X.N[i]? = some y ∧ N'[j + 1]? = some y ∧ (X.env.kindOf y = some .cell ∨ X.env.kindOf y = some .free) ∧ ((relabel scope X.env).names.lookup y = some .cell ∨ (relabel scope X.env).names.lookup y = some .free))
    (hn : h₁.Ns s.heap.objs.size m) (hk : ∀ b o, s.heap.get? b = some o → h₁.get? b = some o) : Inv (cxComp X N' scope cl fp s H) [] (none :: fvs σ ix) H { s with heap := h₁, toks := t' } := by
  have cellK : ∀ x c, cl.lookup x = some c → ∃ v, h₁.IsCell c v := fun x c h => by
    obtain ⟨v, o, ho, hd⟩ := I.cell x c (C.sub x c h)
    exact ⟨v, o, hk c o ho, hd⟩
  refine ⟨comp_ok I C hkind hf hlt, rfl, I.bare, Un.kept hk, ⟨m, hn, fun i y v h1 h2 h3 => ?_⟩, cellK, I.hok.fresh (Nat.le_refl _), fun x c h => I.freeC x c (C.sub x c h), fun p hp => absurd (show p ∈ ([] : List (Addr × Obj)) from hp) (by simp), I.hok.kept hk, ?_⟩
  · cases i with
    | zero => cases (show some (none : Option V) = some (some v) from h2)
    | succ j =>
      have h2' : (fvs σ ix)[j]? = some (some v) := h2
      unfold fvs at h2'
      rw [List.getElem?_map] at h2'
      cases e : ix[j]? with
      | none => rw [e] at h2'; cases h2'
      | some i =>
        rw [e] at h2'
        have h4 : (σ[i]?).join = some v := Option.some.inj h2'
        have h5 : σ[i]? = some (some v) := by
          cases e' : σ[i]? with
          | none => rw [e'] at h4; cases h4
          | some q =>
            rw [e'] at h4
            have h6 : q = some v := h4
            rw [h6]
        obtain ⟨y', n1, n2, k1, k2⟩ := hix j i e
        have ey : y' = y := Option.some.inj (n2.symm.trans h1)
        subst ey
        obtain ⟨m0, hn0, hl0⟩ := I.loc
        have hv0 : Vis X.env.scope y' := k1.elim (fun z => .inr (.inl z)) fun z => .inr (.inr z)
        obtain ⟨u, ru, l⟩ := hl0 i y' v n1 h5 hv0
        refine ⟨u, ru, .inr ⟨k2, ?_⟩⟩
        rcases l with ⟨k, _⟩ | ⟨_, c, ec, o, ho, hd⟩
        · rcases k1 with z | z
          · rw [z] at k; cases k
          · rw [z] at k; cases k
        · obtain ⟨c', ec'⟩ := C.has y' k2
          have : c' = c := Option.some.inj ((C.sub _ _ ec').symm.trans ec)
          subst this
          exact ⟨c', ec', o, hk c' o ho, hd⟩
  · show (none :: fvs σ ix : St).length = N'.length
    rw [hlen]
    simp [fvs]
/-- the block is left -/
theorem comp_end {σ' : St} {H' : Hp} {s' : Shared} {h' : Heap} (I : Inv X pins σ H s) (J : Inv (cxComp X N' scope cl fp s H) [] σ' H' s') (hf : ∀ b ∈ fp, FpOk X pins H b) (hs : Heap.SameBut s.heap.objs.size s'.heap h') : Inv X pins σ H' { s' with heap := h' } := by
  have ne : ∀ b o, s.heap.get? b = some o → b ≠ s.heap.objs.size := fun b o e => Nat.ne_of_lt (Heap.lt_size e)
  have eq : ∀ b, b ≠ s.heap.objs.size → h'.get? b = s'.heap.get? b := fun b hb => hs.2 b hb
  have B := J.base
  have u : Un (frs X.stack) fp H H' s.heap h' :=
    ⟨fun b o e n h1 h2 => (eq b (ne b o e)).trans (B.keep b o e n h1 h2), fun b o e n h1 h2 => by
      obtain ⟨sl, q⟩ := B.slot b o e n h1 h2
      exact ⟨sl, (eq b (ne b o e)).trans q⟩, fun b o e n h1 => B.free b o e n h1, fun b o e h1 => by
      obtain ⟨o', q⟩ := B.there b o e h1
      exact ⟨o', (eq b (ne b o e)).trans q⟩, B.tups, B.frzs, B.tbls⟩
  have hfree : H' s.heap.objs.size = none := J.free
  have hok : HOk X.prog X.w H' h' := fun b ob e => by
    refine (J.hok b ob e).stay (fun c w' hc q => (eq c ?_).trans q) (fun _ q => q) fun _ _ q => q
    rintro rfl
    rcases hc with z | z
    · rw [← z, hfree] at e; cases e
    · rw [hfree] at z; cases z
  exact I.call' (s' := { s' with heap := h' }) (ch := fp) J.os u hok J.bare fun b hb => ⟨(hf b hb).2.2.2.1, (hf b hb).2.1, (hf b hb).2.2.2.2.1, (hf b hb).2.2.2.2.2⟩
end

section
variable {X : Cx} {N' : List Str} {scope : Scope} {elt iter : Expr} {x : Str} {px pos : Pos} {wi : TI} {te : TE} {ix : List Nat}
theorem pe_lc (hc : X.calm = true) (hkind : scope.kind = .function) (hcell : ∀ y ∈ scope.names, y.2 ≠ .cell) (hnames : ∀ y ∈ scope.names, y.2 = .local → scope.names.lookup y.1 = some .local) (hx : scope.names.lookup x = some .local)
    (hclo : X.Ok → ∃ cl, Clo X scope cl) (hN : N'.Nodup) (hN0 : N'[0]? = some x) (hlen : N'.length = ix.length + 1)
    (hix : ∀ (j i : Nat), ix[j]? = some i → ∃ y, X.N[i]? = some y ∧ N'[j + 1]? = some y ∧ (X.env.kindOf y = some .cell ∨ X.env.kindOf y = some .free) ∧ ((relabel scope X.env).names.lookup y = some .cell ∨ (relabel scope X.env).names.lookup y = some .free))
    (hi : PI X (.Name x px) iter wi) (he : ∀ cl fp s₃ H₃, PE (cxComp X N' scope cl fp s₃ H₃) elt te) (hs : ∀ v, foldedSetIterable iter X.env v = pure v := by intro _; rfl) :
    PE X (.ListComp elt [⟨.Name x px, iter, [], 0⟩] scope pos) (tLC wi ix te) := by
  intro pins s σ H Q I h
  obtain ⟨cl, C⟩ := hclo I.ok
  rw [eval_ListComp]
  refine wpAny_comprehension_free (use := none) rfl hs C.eq hkind hnames (thn (hi pins s σ H _ I h) fun v s1 h1 => thn h1 fun itv s2 h2 => ?_)
  obtain ⟨it, fp, tn, J, H2, e, I2, T, st2, f2, q2⟩ := h2
  subst e
  have hD : H2 s2.heap.objs.size = none := I2.fresh
  obtain ⟨W, ⟨m0, w0⟩, turn⟩ := q2 s2.heap.objs.size hD
  refine wpAny_newObj_type (wpAny_newFunctionEnv hcell (by intro y hy; simp at hy) (fun h₁ hns₁ hsb₁ => ?_) hkind)
  dsimp only at hns₁ hsb₁ ⊢
  have I3 : Inv X pins σ (upd H2 s2.heap.objs.size (.lst [])) { s2 with heap := s2.heap.push { cls := .type "list", data := .seq ([] : List Value).toArray }, toks := s2.toks } := I2.lnew .nil (Nat.zero_le _)
  generalize hs3 : ({ s2 with heap := s2.heap.push { cls := .type "list", data := .seq ([] : List Value).toArray }, toks := s2.toks } : Shared) = s3 at I3
  have e3 : s3.heap = s2.heap.push { cls := .type "list", data := .seq ([] : List Value).toArray } := by rw [← hs3]
  generalize hDD : s2.heap.objs.size = D at *
  generalize hH3 : upd H2 D (.lst []) = H3 at *
  have lt2 : ∀ b ∈ fp, b < s2.heap.objs.size := fun b hb => by
    obtain ⟨o, ho, _⟩ := T.obj 0 _ st2 b hb
    exact Heap.lt_size ho
  have neD : ∀ b ∈ fp, b ≠ D := fun b hb => by rw [← hDD]; exact Nat.ne_of_lt (lt2 b hb)
  have f3 : ∀ b ∈ fp, FpOk X pins H3 b := fun b hb => ⟨by rw [← hH3, upd_ne (neD b hb)]; exact (f2 b hb).1, (f2 b hb).2⟩
  have sz3 : s3.heap.objs.size = D + 1 := by rw [e3, Heap.size_push, hDD]
  have lt3 : ∀ b ∈ fp, b < s3.heap.objs.size := fun b hb => by have q := lt2 b hb; rw [sz3]; rw [hDD] at q; exact Nat.lt_succ_of_lt q
  have old : ∀ b o, s3.heap.get? b = some o → h₁.get? b = some o := fun b o eb => by
    have hb : b < D + 1 := by rw [← sz3]; exact Heap.lt_size eb
    refine hsb₁.extBut b o ?_ (Heap.get?_push_of_some _ (by rw [← e3]; exact eb))
    rw [Heap.size_push, hDD]
    exact Nat.ne_of_lt hb
  have szC : (s2.heap.push { cls := .type "list", data := .seq ([] : List Value).toArray }).objs.size = s3.heap.objs.size := by rw [e3]
  have os3 : s3.os = s2.os := by rw [← hs3]
  rw [szC] at hns₁ hsb₁
  have I4 : Inv (cxComp X N' scope cl fp s3 H3) [] (none :: fvs σ ix) H3 { s3 with heap := h₁, toks := s2.toks + ([] : List (Str × Value)).length } := comp_start I3 C hkind f3 lt3 hlen hix hns₁ old
  have st4 : tn 0 h₁ := T.keep 0 _ _ st2 fun b hb o eb => old b o (by rw [e3]; exact Heap.get?_push_of_some _ eb)
  have stat : ∀ {H' : Hp}, (∀ b ∈ fp, H' b = none) → ∀ b ∈ fp, FpOk (cxComp X N' scope cl fp s3 H3) [] H' b := fun hn b hb =>
    ⟨hn b hb, Nat.ne_of_lt (lt3 b hb), fun hs' => (comp_ok (N' := N') I3 C hkind f3 lt3).exfs b hb hs', .inl hb, fun y c hy => ((comp_ok (N' := N') I3 C hkind f3 lt3).exf b hb).2 y c hy, fun p hp => absurd (show p ∈ ([] : List (Addr × Obj)) from hp) (by simp)⟩
  have loop : ∀ s4 : Shared, s4 = { s3 with heap := h₁, toks := s2.toks + ([] : List (Str × Value)).length } →
      codeAny (model X.prog X.w) X.A (.compLoop (.ListComp elt [⟨.Name x px, iter, [], 0⟩] scope pos) 0 (.ref it) (.ref D) (compEnvC scope cl s3.heap.objs.size X.env))
        (compPost (model X.prog X.w) X.A X.xe none (EP X pins σ Q) (.ref D) s3.heap.objs.size) s4 := by
    rintro s4 rfl
    refine compLoop_go (fun n s' => ∃ i σ0 H' ys, Inv (cxComp X N' scope cl fp s3 H3) [] (σ0 :: fvs σ ix) H' s' ∧ tn i s'.heap ∧ (∀ b ∈ fp, H' b = none) ∧ W i n ys H') ?_ m0 ⟨0, none, H3, [], I4, st4, fun b hb => (f3 b hb).1, w0⟩
    rintro n s5 ⟨i, σ0, H5, ys, I5, st5, fr5, w5⟩
    obtain ⟨hD5, alt⟩ := turn i n ys H5 w5
    rcases alt with ⟨stop, q⟩ | ⟨go, step⟩
    · refine thn (T.done (cxComp X N' scope cl fp s3 H3) rfl rfl rfl hc i [] s5 _ H5 _ I5 (stat fr5) st5 stop) fun r s6 ⟨hr, I6⟩ => ?_
      subst hr
      obtain ⟨m, hn, _⟩ := I6.loc
      exact ⟨m, hn, fun h' hsb => ⟨.ref D, H5, comp_end I3 I6 f3 hsb, rfl, q⟩⟩
    · refine thn (T.item (cxComp X N' scope cl fp s3 H3) rfl rfl rfl hc i [] s5 _ H5 _ I5 (stat fr5) st5 go) fun r s6 ⟨u, hr, h6⟩ => ?_
      subst hr
      refine thn h6 fun _ s7 ⟨y7, H7, I7, r7, yl7, st7, fr7⟩ => ?_
      have I7' := I7.pinned (stat fr7) (T.obj _ _ st7)
      have G : PG (cxComp X N' scope cl fp s3 H3) (.Name x px) (gName 0) := pg_name hN hN0 (.inl (lookup_relabel_local hx)) (.inr (lookup_relabel_local hx))
      refine wpAny_mono (G _ s7 _ H7 y7 u (fun σ' H' => σ' = some y7 :: fvs σ ix ∧ H' = H7) I7' r7 ⟨rfl, rfl⟩) (fun _ s8 h8 => ?_) fun _ _ f => False.elim f
      obtain ⟨σ8, H8, I8, rfl, rfl⟩ := h8
      refine wpAny_mono (he cl fp s3 H3 _ s8 _ H8 _ I8 (step y7 H8 yl7)) (fun yv s9 h9 => ?_) fun _ _ f => False.elim f
      obtain ⟨y9, H9, I9, r9, hD9, hl9, m', hm', w9⟩ := h9
      refine wpAny_mono (mt_append (X := cxComp X N' scope cl fp s3 H3) _ s9 _ H9 (.ref D) [y9] (.ref D) [yv] (fun _ H' => H' = upd H9 D (.lst (ys ++ [y9]))) I9 rfl (.cons r9 .nil) ⟨D, ys, y9, rfl, rfl, hD9, hl9, rfl⟩) (fun _ s10 h10 => ?_) fun _ _ f => False.elim f
      obtain ⟨_, H10, I10, _, rfl⟩ := h10
      refine ⟨m', hm', i + 1, some y7, _, ys ++ [y9], I10.unpinned, T.keep _ _ _ st7 fun b hb o eb => (I10.pin (b, o) (List.mem_append_right _ (List.mem_append_right _ (mem_pinsAt hb eb)))).1, fun b hb => ?_, w9⟩
      obtain ⟨o, eb, d⟩ := T.obj _ _ st7 b hb
      exact (I10.pin (b, o) (List.mem_append_right _ (List.mem_append_right _ (mem_pinsAt hb eb)))).2.1
  subst hs3
  have fin := codeAny_compStart_list (loop _ rfl) (T.self X.A 0 _ _ _ st4 (loop _ rfl))
  exact fin
end
end L2

/-! OWN RULES: texts with fields, lists or tuples walked, closures of comprehensions, comprehensions with a test. Behind Ext. -/
namespace L2
open PySem PySem.Spec PyProof.Rows
section
variable {X : Cx} {e l : Expr} {es : List Expr} {te tl : TE} {pos : Pos} {tg : Expr}
/-! ### f-strings -/
def tFmt (te : TE) : TE := fun σ H Q => te σ H fun x H1 => (∃ z, x = .str z ∧ z.length ≤ sizeLine ∧ Q (.str z) H1) ∨ ∃ i : Int, x = .int i ∧ i.natAbs.log2 < 1920 ∧ Q (.str (toString i)) H1
theorem pe_fv (he : PE X e te) : PE X (.FormattedValue e (-1) none pos) (tFmt te) := by
  intro pins s σ H Q I h
  refine FormattedValue_plain (thn (he pins s σ H _ I h) fun v s1 ⟨x, H1, I1, r1, q1⟩ => ?_)
  rcases q1 with ⟨z, rfl, hz, q⟩ | ⟨i, rfl, hi, q⟩
  · obtain ⟨t, rfl⟩ := r1
    exact formatField_str (fun t' tk => ⟨.str z, H1, I1.tok _, ⟨_, rfl⟩, q⟩) hz
  · obtain ⟨t, rfl⟩ := r1
    exact formatField_int_small hi ⟨.str _, H1, I1.tok _, ⟨_, rfl⟩, q⟩
def tRepr (te : TE) : TE := fun σ H Q => te σ H fun x H1 => ∃ z, x = .str z ∧ (reprText z).length ≤ sizeLine ∧ Q (.str (reprText z)) H1
theorem pe_fvr (he : PE X e te) : PE X (.FormattedValue e 114 none pos) (tRepr te) := by
  intro pins s σ H Q I h
  refine wpAny_FormattedValue_repr (thn (he pins s σ H _ I h) fun v s1 ⟨x, H1, I1, r1, q1⟩ => ?_)
  obtain ⟨z, rfl, hz, q⟩ := q1
  obtain ⟨t, rfl⟩ := r1
  refine wpAny_pyReprObj_str ?_ hz
  exact formatField_str (fun t' tk => ⟨.str (reprText z), H1, I1.tok _, ⟨_, rfl⟩, q⟩) hz
abbrev TJ := St → Hp → Str → (Str → Hp → Prop) → Prop
def PJ (X : Cx) (es : List Expr) (t : TJ) : Prop :=
  ∀ (pins : List (Addr × Obj)) (s : Shared) (σ : St) (H : Hp) (acc : Str) (Q : Str → Hp → Prop) (R : Str → Shared → Prop), Inv X pins σ H s → t σ H acc Q → (∀ out s1 H1, Inv X pins σ H1 s1 → Q out H1 → R out s1) → Joins (model X.prog X.w) X.A X.xe (evalEach es X.env) acc R s
def jNil : TJ := fun _ H acc Q => Q acc H
def jCons (te : TE) (t : TJ) : TJ := fun σ H acc Q => te σ H fun x H1 => ∃ y, x = .str y ∧ (acc ++ y).length ≤ sizeLine ∧ t σ H1 (acc ++ y) Q
theorem pj_nil : PJ X [] jNil := fun _ _ _ _ _ _ _ I h k => k _ _ _ I h
theorem pj_cons {t : TJ} (he : PE X e te) (hr : PJ X es t) : PJ X (e :: es) (jCons te t) := by
  intro pins s σ H acc Q R I h k
  refine thn (he pins s σ H _ I h) fun v s1 ⟨x, H1, I1, r1, q1⟩ => ?_
  obtain ⟨y, rfl, hz, q⟩ := q1
  obtain ⟨t, rfl⟩ := r1
  exact ⟨y, _, rfl, hz, hr pins s1 σ H1 _ Q R I1 q k⟩
def tJoined (t : TJ) : TE := fun σ H Q => t σ H Str.empty fun out H1 => out.length ≤ sizeLine ∧ Q (.str out) H1
theorem pe_joined {v1 v2 : Expr} {t : TJ} (h : PJ X (v1 :: v2 :: es) t) : PE X (.JoinedStr (v1 :: v2 :: es) pos) (tJoined t) := by
  intro pins s σ H Q I hw
  exact wpAny_JoinedStr (h pins s σ H _ _ _ I hw fun out s1 H1 I1 q => ⟨q.1, .str out, H1, I1.tok _, ⟨_, rfl⟩, q.2⟩)

/-! ### a list or a tuple walked -/
def iSeq (K : PySem.W.Frag) (tl : TE) : TI := fun σ H R => tl σ H fun x H1 => ∃ a, x = .ref a ∧ (((∃ xs, SqL K H1 a xs) ∧ R (Itl K a) H1) ∨ ((∃ xs, SqT K H1 a xs) ∧ R (Itt K a) H1))
theorem pi_seq (hl : PE X l tl) : PI X tg l (iSeq X.K tl) := by
  intro pins s σ H R I h
  refine thn (hl pins s σ H _ I h) fun v s1 ⟨x, H1, I1, r1, q1⟩ => ?_
  obtain ⟨a, rfl, q⟩ := q1
  cases r1
  have fp : ∀ b ∈ [s1.heap.objs.size], FpOk X pins H1 b := fun b hb => by
    have e : b = s1.heap.objs.size := by simpa using hb
    subst e
    exact I1.fpOk (Nat.le_refl _) (I1.hok.fresh (Nat.le_refl _))
  rcases q with ⟨⟨xs, hq⟩, q⟩ | ⟨⟨xs, hq⟩, q⟩
  · obtain ⟨its, rv, p, hz⟩ := I1.list hq
    refine wpAny_pyIter_list p.isList ?_
    exact ⟨s1.heap.objs.size, [s1.heap.objs.size], _, _, H1, rfl, I1.kept (t' := s1.toks) fun b o e => Heap.get?_push_of_some _ e, turn_list a _, ⟨_, Heap.get?_push_size _ rfl, rfl, rfl⟩, fp, q⟩
  · obtain ⟨its, rv, p, hz⟩ := I1.tuple hq
    refine wpAny_pyIter_tuple (show s1.heap.IsTuple a its.toArray from p) ?_
    exact ⟨s1.heap.objs.size, [s1.heap.objs.size], _, _, H1, rfl, I1.kept (t' := s1.toks) fun b o e => Heap.get?_push_of_some _ e, turn_tuple a _, ⟨_, Heap.get?_push_size _ rfl, rfl, rfl⟩, fp, q⟩
end

/-! ### a comprehension's closure -/
theorem clo_loop {env : Env} : ∀ (l : List (Str × NameKind)) (acc : List (Str × Addr)), (∀ y ∈ l, y.2 = .free → ∃ c, env.cells.lookup y.1 = some c) →
    ∃ cl, (forIn l acc (fun (y : Str × NameKind) cs => if (y.2 == NameKind.free) = true then do let c ← cellOf env y.1; pure (ForInStep.yield ((y.1, c) :: cs)) else pure (ForInStep.yield cs)) : Sem (List (Str × Addr))) = pure cl ∧
      (∀ y c, cl.lookup y = some c → acc.lookup y = some c ∨ env.cells.lookup y = some c) ∧ ∀ y, ((y, NameKind.free) ∈ l ∨ ∃ c, acc.lookup y = some c) → ∃ c, cl.lookup y = some c
  | [], acc, _ => ⟨acc, rfl, fun _ _ h => .inl h, fun y h => h.elim (fun z => by cases z) fun z => z⟩
  | (n, k) :: r, acc, hf => by
    by_cases hk : k = .free
    · subst hk
      obtain ⟨c, hc⟩ := hf (n, .free) List.mem_cons_self rfl
      obtain ⟨cl, e1, e2, e3⟩ := clo_loop r ((n, c) :: acc) fun y hy => hf y (List.mem_cons_of_mem _ hy)
      refine ⟨cl, ?_, fun y d h => ?_, fun y h => ?_⟩
      · rw [List.forIn_cons]
        have ec : cellOf env n = pure c := by unfold cellOf; rw [show env.cells.lookup n = some c from hc]
        have eb : (NameKind.free == NameKind.free) = true := rfl
        simp only [eb, if_true, ec, pure_bind]
        exact e1
      · rcases e2 y d h with z | z
        · by_cases hy : y = n
          · subst hy
            rw [List.lookup_cons, beq_self_eq_true] at z
            cases z
            exact .inr hc
          · rw [List.lookup_cons, beq_eq_false_iff_ne.mpr hy] at z
            exact .inl z
        · exact .inr z
      · refine e3 y ?_
        by_cases hy : y = n
        · subst hy
          exact .inr ⟨c, by rw [List.lookup_cons, beq_self_eq_true]⟩
        · rcases h with z | ⟨d, z⟩
          · rcases List.mem_cons.mp z with z | z
            · exact absurd (congrArg Prod.fst z) hy
            · exact .inl z
          · exact .inr ⟨d, by rw [List.lookup_cons, beq_eq_false_iff_ne.mpr hy]; exact z⟩
    · obtain ⟨cl, e1, e2, e3⟩ := clo_loop r acc fun y hy => hf y (List.mem_cons_of_mem _ hy)
      refine ⟨cl, ?_, e2, fun y h => e3 y ?_⟩
      · rw [List.forIn_cons]
        have hb : (k == NameKind.free) = false := by simpa using hk
        simp only [hb, Bool.false_eq_true, if_false, pure_bind]
        exact e1
      · rcases h with z | z
        · rcases List.mem_cons.mp z with z | z
          · exact absurd (congrArg Prod.snd z).symm hk
          · exact .inl z
        · exact .inr z
theorem clo_of {X : Cx} {scope sc : Scope} (ok : X.Ok) (hsc : X.env.scope = sc) (hcell : ∀ x ∈ scope.names, x.2 ≠ .cell)
    (hf : ∀ y ∈ scope.names, y.2 = .free → sc.names.lookup y.1 = some .cell ∨ sc.names.lookup y.1 = some .free) : ∃ cl, Clo X scope cl := by
  obtain ⟨cl, e1, e2, e3⟩ := clo_loop (env := X.env) scope.names [] fun y hy h => ok.has y.1 (by
    show X.env.scope.names.lookup y.1 = _ ∨ X.env.scope.names.lookup y.1 = _
    rw [hsc]
    exact hf y hy h)
  refine ⟨cl, ?_, fun y c h => (e2 y c h).elim (fun z => by cases z) fun z => z, fun y h => e3 y (.inl ?_)⟩
  · unfold closureFor
    have e0 : (forIn scope.names ([] : List (Str × Addr)) (fun (x : Str × NameKind) cs => match x with
        | (name, kind) => if (kind == NameKind.free) = true then do let c ← cellOf X.env name; pure (ForInStep.yield ((name, c) :: cs)) else pure (ForInStep.yield cs)) : Sem (List (Str × Addr))) = pure cl := e1
    show (forIn scope.names ([] : List (Str × Addr)) _ >>= fun z => pure z) = pure cl
    rw [bind_pure]
    exact e0
  · have m : ∃ k, (k = .cell ∨ k = .free) ∧ (y, k) ∈ (relabel scope X.env).names := by
      rcases h with h | h
      · exact ⟨_, .inl rfl, PySem.mem_of_lookup h⟩
      · exact ⟨_, .inr rfl, PySem.mem_of_lookup h⟩
    obtain ⟨k, hk, hm⟩ := m
    unfold relabel at hm
    obtain ⟨⟨n0, k0⟩, h0, ez⟩ := List.mem_map.mp hm
    by_cases hc : (k0 == NameKind.free && X.env.scope.kind == .function && X.env.kindOf n0 == some .cell) = true
    · dsimp only at ez
      rw [if_pos hc] at ez
      have en : n0 = y := congrArg Prod.fst ez
      have ef : k0 = .free := by
        rw [Bool.and_eq_true, Bool.and_eq_true] at hc
        simpa using hc.1.1
      rw [en, ef] at h0
      exact h0
    · dsimp only at ez
      rw [if_neg hc] at ez
      have en : n0 = y := congrArg Prod.fst ez
      have ek : k0 = k := congrArg Prod.snd ez
      rw [en, ek] at h0
      rcases hk with z | z
      · exact absurd z (hcell _ h0)
      · rw [z] at h0
        exact h0

/-! ### [elt for x in iter if c] -/
def tLCI (wi : TI) (ix : List Nat) (tc : TT) (te : TE) : TE := fun σ H Q => wi σ H fun J H1 => ∀ D, H1 D = none →
  ∃ W : Nat → Nat → List V → Hp → Prop, (∃ m, W 0 m [] (upd H1 D (.lst []))) ∧
    ∀ i m ys H', W i m ys H' → H' D = some (.lst ys) ∧
      ((J.stop i H' ∧ Q (.ref D) H') ∨ (J.go i H' ∧ ∀ x H'', J.yld i H' x H'' → tc (some x :: fvs σ ix) H'' fun b H3 =>
        if b = true then te (some x :: fvs σ ix) H3 fun y H4 => H4 D = some (.lst ys) ∧ ys.length < sizeLine ∧ ∃ m', m' < m ∧ W (i + 1) m' (ys ++ [y]) (upd H4 D (.lst (ys ++ [y])))
        else ∃ m', m' < m ∧ W (i + 1) m' ys H3))
theorem compLoop_goI {prog : Program} {w : World} {A : Around} {R : Result → Shared → Prop} {s : Shared} {elt target iter c : Expr} {scope : Scope} {pos : Pos} {it acc : Value} {env : Env} (J : Nat → Shared → Prop)
    (step : ∀ n s, J n s → wpAny (model prog w) A (pyNext it) (fun r s1 => match r with
      | none => R (.ok .next) s1
      | some v => wpAny (model prog w) A (letOwnedTupleGo target it v) (fun _ s2 => wpAny (model prog w) A (assign target env v) (fun _ s3 => wpAny (model prog w) A (isTrue c env (eval c env)) (fun b s4 => if b = true then wpAny (model prog w) A (eval elt env) (fun x s5 =>
          wpAny (model prog w) A (call (.builtin "list.append") [acc, x]) (fun _ s6 => ∃ m, m < n ∧ J m s6) (notedBy (model prog w) A env fun e s' => R (.error e) s') s5) (notedBy (model prog w) A env fun e s' => R (.error e) s') s4
          else ∃ m, m < n ∧ J m s4) (notedBy (model prog w) A env fun e s' => R (.error e) s') s3)
          (notedBy (model prog w) A env fun e s' => R (.error e) s') s2) (notedBy (model prog w) A env fun e s' => R (.error e) s') s1) (notedBy (model prog w) A env fun e s' => R (.error e) s') s)
    (n : Nat) (h0 : J n s) : codeAny (model prog w) A (.compLoop (.ListComp elt [⟨target, iter, [c], 0⟩] scope pos) 0 it acc env) R s := by
  refine codeAny_loop rfl J (fun n s hJ => ?_) n h0
  show wpAny _ A ((compTurn (.ListComp elt [⟨target, iter, [c], 0⟩] scope pos) 0 it acc env).onRaise (fun x => do noteFrame x env; theTreesLotGoes x)) _ _ s
  refine wpAny_noted ?_
  rw [compTurn_list]
  refine wpAny_bind (wpAny_standAt (wpAny_bind (wpAny_mono (step n s hJ) (fun r s1 h1 => ?_) fun _ _ z => z)))
  cases r with
  | none => exact wpAny_pure h1
  | some v =>
    refine wpAny_bind (wpAny_mono h1 (fun _ s2 h2 => ?_) fun _ _ z => z)
    refine wpAny_bind (wpAny_mono h2 (fun _ s3 h3 => ?_) fun _ _ z => z)
    refine wpAny_bind ?_
    rw [List.forIn_cons]
    refine wpAny_bind ?_
    rw [if_pos rfl]
    refine wpAny_bind (wpAny_mono h3 (fun b s4 h4 => wpAny_pure ?_) fun _ _ z => z)
    show wpAny _ A (forIn ([] : List Expr) b _) _ _ s4
    rw [List.forIn_nil]
    refine wpAny_pure ?_
    cases b with
    | false => exact wpAny_pure ⟨rfl, h4⟩
    | true => exact wpAny_bind (wpAny_bind (wpAny_mono h4 (fun x s5 h5 => wpAny_bind (wpAny_mono h5 (fun _ s6 h6 => wpAny_pure (wpAny_pure ⟨rfl, h6⟩)) fun _ _ z => z)) fun _ _ z => z))
section
variable {X : Cx} {N' : List Str} {scope : Scope} {elt iter c : Expr} {x : Str} {px pos : Pos} {wi : TI} {tc : TT} {te : TE} {ix : List Nat}
theorem pe_lci (hc : X.calm = true) (hkind : scope.kind = .function) (hcell : ∀ y ∈ scope.names, y.2 ≠ .cell) (hnames : ∀ y ∈ scope.names, y.2 = .local → scope.names.lookup y.1 = some .local) (hx : scope.names.lookup x = some .local)
    (hclo : X.Ok → ∃ cl, Clo X scope cl) (hN : N'.Nodup) (hN0 : N'[0]? = some x) (hlen : N'.length = ix.length + 1)
    (hix : ∀ (j i : Nat), ix[j]? = some i → ∃ y, X.N[i]? = some y ∧ N'[j + 1]? = some y ∧ (X.env.kindOf y = some .cell ∨ X.env.kindOf y = some .free) ∧ ((relabel scope X.env).names.lookup y = some .cell ∨ (relabel scope X.env).names.lookup y = some .free))
    (hi : PI X (.Name x px) iter wi) (ht : ∀ cl fp s₃ H₃, PT (cxComp X N' scope cl fp s₃ H₃) c tc) (he : ∀ cl fp s₃ H₃, PE (cxComp X N' scope cl fp s₃ H₃) elt te) (hs : ∀ v, foldedSetIterable iter X.env v = pure v := by intro _; rfl) :
    PE X (.ListComp elt [⟨.Name x px, iter, [c], 0⟩] scope pos) (tLCI wi ix tc te) := by
  intro pins s σ H Q I h
  obtain ⟨cl, C⟩ := hclo I.ok
  rw [eval_ListComp]
  refine wpAny_comprehension_free (use := none) rfl hs C.eq hkind hnames (thn (hi pins s σ H _ I h) fun v s1 h1 => thn h1 fun itv s2 h2 => ?_)
  obtain ⟨it, fp, tn, J, H2, e, I2, T, st2, f2, q2⟩ := h2
  subst e
  have hD : H2 s2.heap.objs.size = none := I2.fresh
  obtain ⟨W, ⟨m0, w0⟩, turn⟩ := q2 s2.heap.objs.size hD
  refine wpAny_newObj_type (wpAny_newFunctionEnv hcell (by intro y hy; simp at hy) (fun h₁ hns₁ hsb₁ => ?_) hkind)
  dsimp only at hns₁ hsb₁ ⊢
  have I3 : Inv X pins σ (upd H2 s2.heap.objs.size (.lst [])) { s2 with heap := s2.heap.push { cls := .type "list", data := .seq ([] : List Value).toArray }, toks := s2.toks } := I2.lnew .nil (Nat.zero_le _)
  generalize hs3 : ({ s2 with heap := s2.heap.push { cls := .type "list", data := .seq ([] : List Value).toArray }, toks := s2.toks } : Shared) = s3 at I3
  have e3 : s3.heap = s2.heap.push { cls := .type "list", data := .seq ([] : List Value).toArray } := by rw [← hs3]
  generalize hDD : s2.heap.objs.size = D at *
  generalize hH3 : upd H2 D (.lst []) = H3 at *
  have lt2 : ∀ b ∈ fp, b < s2.heap.objs.size := fun b hb => by
    obtain ⟨o, ho, _⟩ := T.obj 0 _ st2 b hb
    exact Heap.lt_size ho
  have neD : ∀ b ∈ fp, b ≠ D := fun b hb => by rw [← hDD]; exact Nat.ne_of_lt (lt2 b hb)
  have f3 : ∀ b ∈ fp, FpOk X pins H3 b := fun b hb => ⟨by rw [← hH3, upd_ne (neD b hb)]; exact (f2 b hb).1, (f2 b hb).2⟩
  have sz3 : s3.heap.objs.size = D + 1 := by rw [e3, Heap.size_push, hDD]
  have lt3 : ∀ b ∈ fp, b < s3.heap.objs.size := fun b hb => by have q := lt2 b hb; rw [sz3]; rw [hDD] at q; exact Nat.lt_succ_of_lt q
  have old : ∀ b o, s3.heap.get? b = some o → h₁.get? b = some o := fun b o eb => by
    have hb : b < D + 1 := by rw [← sz3]; exact Heap.lt_size eb
    refine hsb₁.extBut b o ?_ (Heap.get?_push_of_some _ (by rw [← e3]; exact eb))
    rw [Heap.size_push, hDD]
    exact Nat.ne_of_lt hb
  have szC : (s2.heap.push { cls := .type "list", data := .seq ([] : List Value).toArray }).objs.size = s3.heap.objs.size := by rw [e3]
  rw [szC] at hns₁ hsb₁
  have I4 : Inv (cxComp X N' scope cl fp s3 H3) [] (none :: fvs σ ix) H3 { s3 with heap := h₁, toks := s2.toks + ([] : List (Str × Value)).length } := comp_start I3 C hkind f3 lt3 hlen hix hns₁ old
  have st4 : tn 0 h₁ := T.keep 0 _ _ st2 fun b hb o eb => old b o (by rw [e3]; exact Heap.get?_push_of_some _ eb)
  have stat : ∀ {H' : Hp}, (∀ b ∈ fp, H' b = none) → ∀ b ∈ fp, FpOk (cxComp X N' scope cl fp s3 H3) [] H' b := fun hn b hb =>
    ⟨hn b hb, Nat.ne_of_lt (lt3 b hb), fun hs' => (comp_ok (N' := N') I3 C hkind f3 lt3).exfs b hb hs', .inl hb, fun y c hy => ((comp_ok (N' := N') I3 C hkind f3 lt3).exf b hb).2 y c hy, fun p hp => absurd (show p ∈ ([] : List (Addr × Obj)) from hp) (by simp)⟩
  have loop : ∀ s4 : Shared, s4 = { s3 with heap := h₁, toks := s2.toks + ([] : List (Str × Value)).length } →
      codeAny (model X.prog X.w) X.A (.compLoop (.ListComp elt [⟨.Name x px, iter, [c], 0⟩] scope pos) 0 (.ref it) (.ref D) (compEnvC scope cl s3.heap.objs.size X.env))
        (compPost (model X.prog X.w) X.A X.xe none (EP X pins σ Q) (.ref D) s3.heap.objs.size) s4 := by
    rintro s4 rfl
    refine compLoop_goI (fun n s' => ∃ i σ0 H' ys, Inv (cxComp X N' scope cl fp s3 H3) [] (σ0 :: fvs σ ix) H' s' ∧ tn i s'.heap ∧ (∀ b ∈ fp, H' b = none) ∧ W i n ys H') ?_ m0 ⟨0, none, H3, [], I4, st4, fun b hb => (f3 b hb).1, w0⟩
    rintro n s5 ⟨i, σ0, H5, ys, I5, st5, fr5, w5⟩
    obtain ⟨hD5, alt⟩ := turn i n ys H5 w5
    rcases alt with ⟨stop, q⟩ | ⟨go, step⟩
    · refine thn (T.done (cxComp X N' scope cl fp s3 H3) rfl rfl rfl hc i [] s5 _ H5 _ I5 (stat fr5) st5 stop) fun r s6 ⟨hr, I6⟩ => ?_
      subst hr
      obtain ⟨m, hn, _⟩ := I6.loc
      exact ⟨m, hn, fun h' hsb => ⟨.ref D, H5, comp_end I3 I6 f3 hsb, rfl, q⟩⟩
    · refine thn (T.item (cxComp X N' scope cl fp s3 H3) rfl rfl rfl hc i [] s5 _ H5 _ I5 (stat fr5) st5 go) fun r s6 ⟨u, hr, h6⟩ => ?_
      subst hr
      refine thn h6 fun _ s7 ⟨y7, H7, I7, r7, yl7, st7, fr7⟩ => ?_
      have I7' := I7.pinned (stat fr7) (T.obj _ _ st7)
      have G : PG (cxComp X N' scope cl fp s3 H3) (.Name x px) (gName 0) := pg_name hN hN0 (.inl (lookup_relabel_local hx)) (.inr (lookup_relabel_local hx))
      refine wpAny_mono (G _ s7 _ H7 y7 u (fun σ' H' => σ' = some y7 :: fvs σ ix ∧ H' = H7) I7' r7 ⟨rfl, rfl⟩) (fun _ s8 h8 => ?_) fun _ _ f => False.elim f
      obtain ⟨σ8, H8, I8, rfl, rfl⟩ := h8
      have fin : ∀ {σ9 : Option V} {H9 : Hp} {s9 : Shared} {zs : List V} {m' : Nat}, Inv (cxComp X N' scope cl fp s3 H3) ([] ++ pinsAt fp s7.heap) (σ9 :: fvs σ ix) H9 s9 → m' < n → W (i + 1) m' zs H9 → ∃ m, m < n ∧ ∃ i σ0 H' ys, Inv (cxComp X N' scope cl fp s3 H3) [] (σ0 :: fvs σ ix) H' s9 ∧ tn i s9.heap ∧ (∀ b ∈ fp, H' b = none) ∧ W i m ys H' := fun {σ9 H9 s9 zs m'} I9 hm' w9 => by
        refine ⟨m', hm', i + 1, σ9, H9, zs, I9.unpinned, T.keep _ _ _ st7 fun b hb o eb => (I9.pin (b, o) (List.mem_append_right _ (List.mem_append_right _ (mem_pinsAt hb eb)))).1, fun b hb => ?_, w9⟩
        obtain ⟨o, eb, d⟩ := T.obj _ _ st7 b hb
        exact (I9.pin (b, o) (List.mem_append_right _ (List.mem_append_right _ (mem_pinsAt hb eb)))).2.1
      refine wpAny_mono (ht cl fp s3 H3 _ s8 _ H8 _ I8 (step y7 H8 yl7)) (fun b s9 h9 => ?_) fun _ _ f => False.elim f
      obtain ⟨H9, I9, q9⟩ := h9
      cases b with
      | false =>
        obtain ⟨m', hm', w9⟩ := q9
        exact fin I9 hm' w9
      | true =>
        refine wpAny_mono (he cl fp s3 H3 _ s9 _ H9 _ I9 q9) (fun yv s10 h10 => ?_) fun _ _ f => False.elim f
        obtain ⟨y10, H10, I10, r10, hD10, hl10, m', hm', w10⟩ := h10
        refine wpAny_mono (mt_append (X := cxComp X N' scope cl fp s3 H3) _ s10 _ H10 (.ref D) [y10] (.ref D) [yv] (fun _ H' => H' = upd H10 D (.lst (ys ++ [y10]))) I10 rfl (.cons r10 .nil) ⟨D, ys, y10, rfl, rfl, hD10, hl10, rfl⟩) (fun _ s11 h11 => ?_) fun _ _ f => False.elim f
        obtain ⟨_, H11, I11, _, rfl⟩ := h11
        exact fin I11 hm' w10
  subst hs3
  have fin := codeAny_compStart_list (loop _ rfl) (T.self X.A 0 _ _ _ st4 (loop _ rfl))
  exact fin
end
end L2

/-! OWN: name = [comprehension], where the store comes ahead of the block's end. Behind Ext2. -/
namespace L2
open PySem PySem.Spec PyProof.Rows
theorem Inv.skip {X : Cx} {pins : List (Addr × Obj)} {σ : St} {H : Hp} {s : Shared} {h' : Heap} {C : Addr} (I : Inv X pins σ H s) (hs : Heap.SameBut C s.heap h') (hC : X.s₀.heap.objs.size ≤ C) (hl : C ≠ X.env.locals) (hcl : ∀ x c, X.env.cells.lookup x = some c → c ≠ C) (hp : ∀ p ∈ X.pn ++ pins, p.1 ≠ C) (hf : H C = none) :
    Inv X pins σ H { s with heap := h' } := by
  have eq : ∀ b, b ≠ C → h'.get? b = s.heap.get? b := fun b hb => hs.2 b hb
  have nm : ∀ {b : Addr}, b ∉ [C] → b ≠ C := fun h z => h (by rw [z]; exact List.mem_cons_self)
  have u : Un (frs X.stack) [C] H H s.heap h' := ⟨fun b o e _ _ h2 => (eq b (nm h2)).trans e, fun b o e _ _ h2 => ⟨o.slots, (eq b (nm h2)).trans e⟩, fun b o e n _ => n, fun b o e h1 => ⟨o, (eq b (nm h1)).trans e⟩, fun _ _ q => q, fun _ _ _ q => q, fun _ ps q => ⟨#[], by rw [q]; simp⟩⟩
  have hok : HOk X.prog X.w H h' := fun b ob e => by
    refine (I.hok b ob e).stay (fun c w' hq q => (eq c ?_).trans q) (fun _ q => q) fun _ _ q => q
    rintro rfl
    rcases hq with z | z
    · rw [← z, hf] at e; cases e
    · rw [hf] at z; cases z
  refine I.call' (s' := { s with heap := h' }) (ch := [C]) rfl u hok I.bare fun b hb => ?_
  have e : b = C := List.mem_singleton.mp hb
  subst e
  exact ⟨.inr hC, hl, hcl, hp⟩
section
variable {X : Cx} {N' : List Str} {scope : Scope} {elt iter : Expr} {x : Str} {px pos : Pos} {wi : TI} {te : TE} {ix : List Nat}
end
section
variable {X : Cx} {N' : List Str} {scope : Scope} {elt iter c : Expr} {x : Str} {px pos : Pos} {wi : TI} {tc : TT} {te : TE} {ix : List Nat}
theorem ps_setLCI {i : Nat} {y0 : Str} {py spos : Pos} (hNy : X.N.Nodup) (hiy : X.N[i]? = some y0) (hy : Loc X.env.scope y0) (hc : X.calm = true) (hkind : scope.kind = .function) (hcell : ∀ y ∈ scope.names, y.2 ≠ .cell) (hnames : ∀ y ∈ scope.names, y.2 = .local → scope.names.lookup y.1 = some .local) (hx : scope.names.lookup x = some .local)
    (hclo : X.Ok → ∃ cl, Clo X scope cl) (hN : N'.Nodup) (hN0 : N'[0]? = some x) (hlen : N'.length = ix.length + 1)
    (hix : ∀ (j i : Nat), ix[j]? = some i → ∃ y, X.N[i]? = some y ∧ N'[j + 1]? = some y ∧ (X.env.kindOf y = some .cell ∨ X.env.kindOf y = some .free) ∧ ((relabel scope X.env).names.lookup y = some .cell ∨ (relabel scope X.env).names.lookup y = some .free))
    (hi : PI X (.Name x px) iter wi) (ht : ∀ cl fp s₃ H₃, PT (cxComp X N' scope cl fp s₃ H₃) c tc) (he : ∀ cl fp s₃ H₃, PE (cxComp X N' scope cl fp s₃ H₃) elt te) (hsw : swapsWith (.ListComp elt [⟨.Name x px, iter, [c], 0⟩] scope pos) (some (.Name y0 py)) spos.line X.env = pure true := by rfl)
    (hf : X.fn y0 = true ∨ X.env.scope.names.lookup y0 = some .local := by first | exact .inl rfl | exact .inr rfl | assumption) (hs : ∀ v, foldedSetIterable iter X.env v = pure v := by intro _; rfl) :
    PS X (.Assign [.Name y0 py] (.ListComp elt [⟨.Name x px, iter, [c], 0⟩] scope pos) spos) (tAsg (tLCI wi ix tc te) (gName i)) := by
  intro pins s σ H Dn I h
  obtain ⟨cl, C⟩ := hclo I.ok
  rw [exec_Assign_Name_used _ _ _ _ hsw]
  refine wpAny_bind (wpAny_standAt (wpAny_bind ?_))
  rw [arm_evalThenUse_ListComp]
  refine wpAny_bind (wpAny_mono (wpAny_comprehension_free (use := some (assign (.Name y0 py) X.env)) (Q := fun _ s' => ∃ σ' H', Inv X pins σ' H' s' ∧ Dn.nx σ' H') rfl hs C.eq hkind hnames (thn (hi pins s σ H _ I h) fun v s1 h1 => thn h1 fun itv s2 h2 => ?_)) (fun _ s' h' => wpAny_pure (wpAny_pure h')) fun _ _ z => z)
  obtain ⟨it, fp, tn, J, H2, e, I2, T, st2, f2, q2⟩ := h2
  subst e
  have hD : H2 s2.heap.objs.size = none := I2.fresh
  obtain ⟨W, ⟨m0, w0⟩, turn⟩ := q2 s2.heap.objs.size hD
  refine wpAny_newObj_type (wpAny_newFunctionEnv hcell (by intro y hy; simp at hy) (fun h₁ hns₁ hsb₁ => ?_) hkind)
  dsimp only at hns₁ hsb₁ ⊢
  have I3 : Inv X pins σ (upd H2 s2.heap.objs.size (.lst [])) { s2 with heap := s2.heap.push { cls := .type "list", data := .seq ([] : List Value).toArray }, toks := s2.toks } := I2.lnew .nil (Nat.zero_le _)
  generalize hs3 : ({ s2 with heap := s2.heap.push { cls := .type "list", data := .seq ([] : List Value).toArray }, toks := s2.toks } : Shared) = s3 at I3
  have e3 : s3.heap = s2.heap.push { cls := .type "list", data := .seq ([] : List Value).toArray } := by rw [← hs3]
  generalize hDD : s2.heap.objs.size = D at *
  generalize hH3 : upd H2 D (.lst []) = H3 at *
  have lt2 : ∀ b ∈ fp, b < s2.heap.objs.size := fun b hb => by
    obtain ⟨o, ho, _⟩ := T.obj 0 _ st2 b hb
    exact Heap.lt_size ho
  have neD : ∀ b ∈ fp, b ≠ D := fun b hb => by rw [← hDD]; exact Nat.ne_of_lt (lt2 b hb)
  have f3 : ∀ b ∈ fp, FpOk X pins H3 b := fun b hb => ⟨by rw [← hH3, upd_ne (neD b hb)]; exact (f2 b hb).1, (f2 b hb).2⟩
  have sz3 : s3.heap.objs.size = D + 1 := by rw [e3, Heap.size_push, hDD]
  have lt3 : ∀ b ∈ fp, b < s3.heap.objs.size := fun b hb => by have q := lt2 b hb; rw [sz3]; rw [hDD] at q; exact Nat.lt_succ_of_lt q
  have old : ∀ b o, s3.heap.get? b = some o → h₁.get? b = some o := fun b o eb => by
    have hb : b < D + 1 := by rw [← sz3]; exact Heap.lt_size eb
    refine hsb₁.extBut b o ?_ (Heap.get?_push_of_some _ (by rw [← e3]; exact eb))
    rw [Heap.size_push, hDD]
    exact Nat.ne_of_lt hb
  have szC : (s2.heap.push { cls := .type "list", data := .seq ([] : List Value).toArray }).objs.size = s3.heap.objs.size := by rw [e3]
  rw [szC] at hns₁ hsb₁
  have I4 : Inv (cxComp X N' scope cl fp s3 H3) [] (none :: fvs σ ix) H3 { s3 with heap := h₁, toks := s2.toks + ([] : List (Str × Value)).length } := comp_start I3 C hkind f3 lt3 hlen hix hns₁ old
  have st4 : tn 0 h₁ := T.keep 0 _ _ st2 fun b hb o eb => old b o (by rw [e3]; exact Heap.get?_push_of_some _ eb)
  have stat : ∀ {H' : Hp}, (∀ b ∈ fp, H' b = none) → ∀ b ∈ fp, FpOk (cxComp X N' scope cl fp s3 H3) [] H' b := fun hn b hb =>
    ⟨hn b hb, Nat.ne_of_lt (lt3 b hb), fun hs' => (comp_ok (N' := N') I3 C hkind f3 lt3).exfs b hb hs', .inl hb, fun y c hy => ((comp_ok (N' := N') I3 C hkind f3 lt3).exf b hb).2 y c hy, fun p hp => absurd (show p ∈ ([] : List (Addr × Obj)) from hp) (by simp)⟩
  have loop : ∀ s4 : Shared, s4 = { s3 with heap := h₁, toks := s2.toks + ([] : List (Str × Value)).length } →
      codeAny (model X.prog X.w) X.A (.compLoop (.ListComp elt [⟨.Name x px, iter, [c], 0⟩] scope pos) 0 (.ref it) (.ref D) (compEnvC scope cl s3.heap.objs.size X.env))
        (compPost (model X.prog X.w) X.A X.xe (some (assign (.Name y0 py) X.env)) (fun _ s' => ∃ σ' H', Inv X pins σ' H' s' ∧ Dn.nx σ' H') (.ref D) s3.heap.objs.size) s4 := by
    rintro s4 rfl
    refine compLoop_goI (fun n s' => ∃ i σ0 H' ys, Inv (cxComp X N' scope cl fp s3 H3) [] (σ0 :: fvs σ ix) H' s' ∧ tn i s'.heap ∧ (∀ b ∈ fp, H' b = none) ∧ W i n ys H') ?_ m0 ⟨0, none, H3, [], I4, st4, fun b hb => (f3 b hb).1, w0⟩
    rintro n s5 ⟨i, σ0, H5, ys, I5, st5, fr5, w5⟩
    obtain ⟨hD5, alt⟩ := turn i n ys H5 w5
    rcases alt with ⟨stop, q⟩ | ⟨go, step⟩
    · refine thn (T.done (cxComp X N' scope cl fp s3 H3) rfl rfl rfl hc i [] s5 _ H5 _ I5 (stat fr5) st5 stop) fun r s6 ⟨hr, I6⟩ => ?_
      subst hr
      obtain ⟨m, hn, _⟩ := I6.loc
      have Io : Inv X pins σ H5 s6 := comp_end (h' := s6.heap) I3 I6 f3 ⟨rfl, fun _ _ => rfl⟩
      refine wpAny_assign_Name (store_ok2 (v := .ref D) Io hNy hiy hy rfl (fun s7 I7 ⟨a, sb, ha⟩ => ?_) hf)
      have ltC : ∀ x c, X.env.cells.lookup x = some c → c < s3.heap.objs.size := fun x c e => by
        obtain ⟨v, hv⟩ := I3.cell x c e
        exact hv.lt
      have hCa : s3.heap.objs.size ≠ a := by
        rintro rfl
        rcases ha with z | z
        · exact absurd I3.lt (by rw [← z]; exact Nat.lt_irrefl _)
        · exact absurd (ltC _ _ z) (Nat.lt_irrefl _)
      refine ⟨m, hn.sameBut sb hCa, fun h' hsb => ⟨_, H5, ?_, q⟩⟩
      exact I7.skip hsb I3.sz (Nat.ne_of_gt I3.lt) (fun x c e => Nat.ne_of_lt (ltC x c e)) (fun p hp => Nat.ne_of_lt (Heap.lt_size (I3.pin p hp).1)) I6.free
    · refine thn (T.item (cxComp X N' scope cl fp s3 H3) rfl rfl rfl hc i [] s5 _ H5 _ I5 (stat fr5) st5 go) fun r s6 ⟨u, hr, h6⟩ => ?_
      subst hr
      refine thn h6 fun _ s7 ⟨y7, H7, I7, r7, yl7, st7, fr7⟩ => ?_
      have I7' := I7.pinned (stat fr7) (T.obj _ _ st7)
      have G : PG (cxComp X N' scope cl fp s3 H3) (.Name x px) (gName 0) := pg_name hN hN0 (.inl (lookup_relabel_local hx)) (.inr (lookup_relabel_local hx))
      refine wpAny_mono (G _ s7 _ H7 y7 u (fun σ' H' => σ' = some y7 :: fvs σ ix ∧ H' = H7) I7' r7 ⟨rfl, rfl⟩) (fun _ s8 h8 => ?_) fun _ _ f => False.elim f
      obtain ⟨σ8, H8, I8, rfl, rfl⟩ := h8
      have fin : ∀ {σ9 : Option V} {H9 : Hp} {s9 : Shared} {zs : List V} {m' : Nat}, Inv (cxComp X N' scope cl fp s3 H3) ([] ++ pinsAt fp s7.heap) (σ9 :: fvs σ ix) H9 s9 → m' < n → W (i + 1) m' zs H9 → ∃ m, m < n ∧ ∃ i σ0 H' ys, Inv (cxComp X N' scope cl fp s3 H3) [] (σ0 :: fvs σ ix) H' s9 ∧ tn i s9.heap ∧ (∀ b ∈ fp, H' b = none) ∧ W i m ys H' := fun {σ9 H9 s9 zs m'} I9 hm' w9 => by
        refine ⟨m', hm', i + 1, σ9, H9, zs, I9.unpinned, T.keep _ _ _ st7 fun b hb o eb => (I9.pin (b, o) (List.mem_append_right _ (List.mem_append_right _ (mem_pinsAt hb eb)))).1, fun b hb => ?_, w9⟩
        obtain ⟨o, eb, d⟩ := T.obj _ _ st7 b hb
        exact (I9.pin (b, o) (List.mem_append_right _ (List.mem_append_right _ (mem_pinsAt hb eb)))).2.1
      refine wpAny_mono (ht cl fp s3 H3 _ s8 _ H8 _ I8 (step y7 H8 yl7)) (fun b s9 h9 => ?_) fun _ _ f => False.elim f
      obtain ⟨H9, I9, q9⟩ := h9
      cases b with
      | false =>
        obtain ⟨m', hm', w9⟩ := q9
        exact fin I9 hm' w9
      | true =>
        refine wpAny_mono (he cl fp s3 H3 _ s9 _ H9 _ I9 q9) (fun yv s10 h10 => ?_) fun _ _ f => False.elim f
        obtain ⟨y10, H10, I10, r10, hD10, hl10, m', hm', w10⟩ := h10
        refine wpAny_mono (mt_append (X := cxComp X N' scope cl fp s3 H3) _ s10 _ H10 (.ref D) [y10] (.ref D) [yv] (fun _ H' => H' = upd H10 D (.lst (ys ++ [y10]))) I10 rfl (.cons r10 .nil) ⟨D, ys, y10, rfl, rfl, hD10, hl10, rfl⟩) (fun _ s11 h11 => ?_) fun _ _ f => False.elim f
        obtain ⟨_, H11, I11, _, rfl⟩ := h11
        exact fin I11 hm' w10
  subst hs3
  have fin := codeAny_compStart_list (loop _ rfl) (T.self X.A 0 _ _ _ st4 (loop _ rfl))
  exact fin
end
end L2

/-! OWN: values with all that they hold; == and in, deep. Behind the layer. -/
namespace L2
open PySem PySem.Spec PyProof.Rows
inductive Dt where
  | non | bl (b : Bool) | int (i : Int) | str (x : Str) | tup (xs : List Dt) | lst (xs : List Dt)
mutual
def peq : Dt → Dt → Bool
  | .non, .non => true
  | .bl a, .bl b => a == b
  | .bl a, .int b => (if a then 1 else 0) == b
  | .int a, .bl b => a == (if b then 1 else 0)
  | .int a, .int b => a == b
  | .str a, .str b => a == b
  | .tup xs, .tup ys => peqs xs ys
  | .lst xs, .lst ys => peqs xs ys
  | _, _ => false
def peqs : List Dt → List Dt → Bool
  | [], [] => true
  | x :: xs, y :: ys => peq x y && peqs xs ys
  | _, _ => false
end
mutual
def dep : Dt → Nat
  | .tup xs => deps xs + 1
  | .lst xs => deps xs + 1
  | _ => 0
def deps : List Dt → Nat
  | [] => 0
  | x :: xs => max (dep x) (deps xs)
end
mutual
def nob : Dt → Bool
  | .bl _ => false
  | .tup xs => nobs xs
  | .lst xs => nobs xs
  | _ => true
def nobs : List Dt → Bool
  | [] => true
  | x :: xs => nob x && nobs xs
end
mutual
theorem peq_refl : ∀ d : Dt, peq d d = true
  | .non => rfl
  | .bl _ => by simp [peq]
  | .int _ => by simp [peq]
  | .str _ => by simp [peq]
  | .tup xs => by simp only [peq]; exact peqs_refl xs
  | .lst xs => by simp only [peq]; exact peqs_refl xs
theorem peqs_refl : ∀ d : List Dt, peqs d d = true
  | [] => by simp [peqs]
  | x :: xs => by simp only [peqs, peq_refl x, peqs_refl xs, Bool.and_self]
end
mutual
theorem peq_eq : ∀ d e : Dt, nob d = true → nob e = true → peq d e = true → d = e
  | .non, e, _, _, h => by cases e <;> first | rfl | (simp [peq] at h)
  | .bl _, e, h, _, _ => by simp [nob] at h
  | .int _, e, _, h2, h => by cases e <;> first | (simp [nob] at h2; done) | (simp [peq] at h; done) | (simp [peq] at h; rw [h])
  | .str _, e, _, h2, h => by cases e <;> first | (simp [peq] at h; done) | (simp [peq] at h; rw [h])
  | .tup xs, e, h1, h2, h => by
    cases e with
    | tup ys => simp only [peq] at h; simp only [nob] at h1 h2; rw [peqs_eq xs ys h1 h2 h]
    | _ => simp [peq] at h
  | .lst xs, e, h1, h2, h => by
    cases e with
    | lst ys => simp only [peq] at h; simp only [nob] at h1 h2; rw [peqs_eq xs ys h1 h2 h]
    | _ => simp [peq] at h
theorem peqs_eq : ∀ d e : List Dt, nobs d = true → nobs e = true → peqs d e = true → d = e
  | [], e, _, _, h => by cases e <;> first | rfl | (simp [peqs] at h)
  | x :: xs, e, h1, h2, h => by
    cases e with
    | nil => simp [peqs] at h
    | cons y ys =>
      simp only [peqs, Bool.and_eq_true] at h
      simp only [nobs, Bool.and_eq_true] at h1 h2
      rw [peq_eq x y h1.1 h2.1 h.1, peqs_eq xs ys h1.2 h2.2 h.2]
end

/-! ### a value stands for a datum -/
mutual
def Has (K : PySem.W.Frag) (H : Hp) : Dt → V → Prop
  | .non, v => v = .non
  | .bl b, v => v = .bl b
  | .int i, v => v = .int i
  | .str x, v => v = .str x
  | .tup ds, v => ∃ a xs, v = .ref a ∧ SqT K H a xs ∧ HasL K H ds xs
  | .lst ds, v => ∃ a xs, v = .ref a ∧ SqL K H a xs ∧ HasL K H ds xs
def HasL (K : PySem.W.Frag) (H : Hp) : List Dt → List V → Prop
  | [], vs => vs = []
  | d :: ds, vs => ∃ v r, vs = v :: r ∧ Has K H d v ∧ HasL K H ds r
end
theorem HasL.length {K : PySem.W.Frag} {H : Hp} : ∀ {ds : List Dt} {vs : List V}, HasL K H ds vs → ds.length = vs.length
  | [], vs, h => by simp only [HasL] at h; rw [h]; rfl
  | d :: ds, vs, h => by
    simp only [HasL] at h
    obtain ⟨v, r, rfl, _, h2⟩ := h
    rw [List.length_cons, List.length_cons, HasL.length h2]
theorem HasL.get {K : PySem.W.Frag} {H : Hp} : ∀ {ds : List Dt} {vs : List V} {i : Nat} {v : V}, HasL K H ds vs → vs[i]? = some v → ∃ d, ds[i]? = some d ∧ Has K H d v
  | [], vs, i, v, h, e => by simp only [HasL] at h; rw [h] at e; simp at e
  | d :: ds, vs, i, v, h, e => by
    simp only [HasL] at h
    obtain ⟨v0, r, rfl, h1, h2⟩ := h
    cases i with
    | zero => simp at e; subst e; exact ⟨d, rfl, h1⟩
    | succ i =>
      obtain ⟨d', e1, e2⟩ := HasL.get (i := i) h2 (by simpa using e)
      exact ⟨d', by simpa using e1, e2⟩
theorem HasL.getD {K : PySem.W.Frag} {H : Hp} : ∀ {ds : List Dt} {vs : List V} {i : Nat} {d : Dt}, HasL K H ds vs → ds[i]? = some d → ∃ v, vs[i]? = some v ∧ Has K H d v
  | [], vs, i, d, h, e => by simp at e
  | d0 :: ds, vs, i, d, h, e => by
    simp only [HasL] at h
    obtain ⟨v0, r, rfl, h1, h2⟩ := h
    cases i with
    | zero => simp at e; subst e; exact ⟨v0, rfl, h1⟩
    | succ i =>
      obtain ⟨v, e1, e2⟩ := HasL.getD (i := i) h2 (by simpa using e)
      exact ⟨v, by simpa using e1, e2⟩
theorem HasL.append {K : PySem.W.Frag} {H : Hp} : ∀ {ds es : List Dt} {vs ws : List V}, HasL K H ds vs → HasL K H es ws → HasL K H (ds ++ es) (vs ++ ws)
  | [], es, vs, ws, h, h' => by simp only [HasL] at h; rw [h]; exact h'
  | d :: ds, es, vs, ws, h, h' => by
    simp only [HasL] at h
    obtain ⟨v, r, rfl, h1, h2⟩ := h
    show HasL K H (d :: (ds ++ es)) (v :: (r ++ ws))
    simp only [HasL]
    exact ⟨v, r ++ ws, rfl, h1, HasL.append h2 h'⟩
theorem HasL.one {K : PySem.W.Frag} {H : Hp} {d : Dt} {v : V} (h : Has K H d v) : HasL K H [d] [v] := by
  simp only [HasL]
  exact ⟨v, [], rfl, h, rfl⟩
theorem HasL.ints {K : PySem.W.Frag} {H : Hp} : ∀ ns : List Int, HasL K H (ns.map Dt.int) (ns.map V.int)
  | [] => by simp [HasL]
  | n :: ns => by
    simp only [List.map_cons, HasL]
    exact ⟨_, _, rfl, by simp only [Has], HasL.ints ns⟩

/-! ### what stays: data without lists, where tuples stay -/
mutual
def nol : Dt → Bool
  | .lst _ => false
  | .tup xs => nols xs
  | _ => true
def nols : List Dt → Bool
  | [] => true
  | x :: xs => nol x && nols xs
end
def KeepT (H H' : Hp) : Prop := ∀ b xs, Rd H b (.tup xs) → Rd H' b (.tup xs)
theorem KeepT.sq {K : PySem.W.Frag} {H H' : Hp} {a : Addr} {xs : List V} (k : KeepT H H') (h : SqT K H a xs) : SqT K H' a xs := h.elim (fun z => .inl (k a xs z)) .inr
theorem KeepT.refl (H : Hp) : KeepT H H := fun _ _ h => h
theorem KeepT.trans {H H1 H2 : Hp} (a : KeepT H H1) (b : KeepT H1 H2) : KeepT H H2 := fun c xs h => b c xs (a c xs h)
theorem KeepT.of_same {H H' : Hp} (e : Same H H') : KeepT H H' := fun b xs h => by
  rcases h with h | ⟨o, h⟩
  · exact .inl (e _ _ h)
  · exact .inr ⟨o, e _ _ h⟩
theorem KeepT.lst {H : Hp} {l : Addr} {xs ys : List V} (h : H l = some (.lst xs)) : KeepT H (upd H l (.lst ys)) := fun b zs q => by
  rcases q with q | ⟨o, q⟩
  · exact .inl (by rw [upd_ne (ne_of q h (fun z => by cases z))]; exact q)
  · exact .inr ⟨o, by rw [upd_ne (ne_of q h (fun z => by cases z))]; exact q⟩
theorem KeepT.new {H : Hp} {l : Addr} {o : HO} (h : H l = none) : KeepT H (upd H l o) := KeepT.of_same fun b u q => by rw [upd_ne (ne_of_none q h)]; exact q
mutual
theorem Has.keep {K : PySem.W.Frag} {H H' : Hp} (k : KeepT H H') : ∀ {d : Dt} {v : V}, nol d = true → Has K H d v → Has K H' d v
  | .non, v, _, h => by simp only [Has] at h ⊢; exact h
  | .bl _, v, _, h => by simp only [Has] at h ⊢; exact h
  | .int _, v, _, h => by simp only [Has] at h ⊢; exact h
  | .str _, v, _, h => by simp only [Has] at h ⊢; exact h
  | .tup ds, v, n, h => by
    simp only [Has] at h ⊢
    simp only [nol] at n
    obtain ⟨a, xs, e, h1, h2⟩ := h
    exact ⟨a, xs, e, k.sq h1, HasL.keep k n h2⟩
  | .lst _, v, n, h => by simp [nol] at n
theorem HasL.keep {K : PySem.W.Frag} {H H' : Hp} (k : KeepT H H') : ∀ {ds : List Dt} {vs : List V}, nols ds = true → HasL K H ds vs → HasL K H' ds vs
  | [], vs, _, h => by simp only [HasL] at h ⊢; exact h
  | d :: ds, vs, n, h => by
    simp only [HasL] at h ⊢
    simp only [nols, Bool.and_eq_true] at n
    obtain ⟨v, r, e, h1, h2⟩ := h
    exact ⟨v, r, e, Has.keep k n.1 h1, HasL.keep k n.2 h2⟩
end

/-! ### one value stands for one datum -/
section
variable {X : Cx} {pins : List (Addr × Obj)} {σ : St} {H : Hp} {s : Shared}
theorem sq_apart (I : Inv X pins σ H s) {a : Addr} {xs ys : List V} (h : SqL X.K H a xs) (h' : SqT X.K H a ys) : False := by
  obtain ⟨its, _, p, _⟩ := I.list h
  obtain ⟨jts, _, q, _⟩ := I.tuple h'
  obtain ⟨o, e, c, _⟩ := p.isList
  obtain ⟨o', e', c', _⟩ := q
  rw [e] at e'
  cases e'
  rw [c] at c'
  exact absurd (Value.type.inj c') (by decide)
mutual
theorem Has.inj (I : Inv X pins σ H s) : ∀ (d e : Dt) (v : V), Has X.K H d v → Has X.K H e v → d = e
  | .non, e, v, h, h' => by
    simp only [Has] at h
    subst h
    cases e <;> simp only [Has] at h' <;> first | rfl | (cases h'; done) | (obtain ⟨_, _, z, _⟩ := h'; cases z)
  | .bl b, e, v, h, h' => by
    simp only [Has] at h
    subst h
    cases e <;> simp only [Has] at h' <;> first | (cases h'; done) | (cases h'; rfl) | (obtain ⟨_, _, z, _⟩ := h'; cases z)
  | .int b, e, v, h, h' => by
    simp only [Has] at h
    subst h
    cases e <;> simp only [Has] at h' <;> first | (cases h'; done) | (cases h'; rfl) | (obtain ⟨_, _, z, _⟩ := h'; cases z)
  | .str b, e, v, h, h' => by
    simp only [Has] at h
    subst h
    cases e <;> simp only [Has] at h' <;> first | (cases h'; done) | (cases h'; rfl) | (obtain ⟨_, _, z, _⟩ := h'; cases z)
  | .tup ds, e, v, h, h' => by
    simp only [Has] at h
    obtain ⟨a, xs, rfl, h1, h2⟩ := h
    cases e with
    | tup es =>
      simp only [Has] at h'
      obtain ⟨a', ys, z, h3, h4⟩ := h'
      cases z
      rw [I.tuple_inj h3 h1] at h4
      rw [HasL.inj I ds es xs h2 h4]
    | lst es =>
      simp only [Has] at h'
      obtain ⟨a', ys, z, h3, h4⟩ := h'
      cases z
      exact (sq_apart I h3 h1).elim
    | _ => simp only [Has] at h'; cases h'
  | .lst ds, e, v, h, h' => by
    simp only [Has] at h
    obtain ⟨a, xs, rfl, h1, h2⟩ := h
    cases e with
    | lst es =>
      simp only [Has] at h'
      obtain ⟨a', ys, z, h3, h4⟩ := h'
      cases z
      rw [I.list_inj h3 h1] at h4
      rw [HasL.inj I ds es xs h2 h4]
    | tup es =>
      simp only [Has] at h'
      obtain ⟨a', ys, z, h3, h4⟩ := h'
      cases z
      exact (sq_apart I h1 h3).elim
    | _ => simp only [Has] at h'; cases h'
theorem HasL.inj (I : Inv X pins σ H s) : ∀ (ds es : List Dt) (vs : List V), HasL X.K H ds vs → HasL X.K H es vs → ds = es
  | [], es, vs, h, h' => by
    simp only [HasL] at h
    subst h
    cases es with
    | nil => rfl
    | cons e es => simp only [HasL] at h'; obtain ⟨_, _, z, _⟩ := h'; cases z
  | d :: ds, es, vs, h, h' => by
    simp only [HasL] at h
    obtain ⟨v, r, rfl, h1, h2⟩ := h
    cases es with
    | nil => simp only [HasL] at h'; cases h'
    | cons e es =>
      simp only [HasL] at h'
      obtain ⟨v', r', z, h3, h4⟩ := h'
      cases z
      rw [Has.inj I d e v h1 h3, HasL.inj I ds es r h2 h4]
end

/-! ### == -/
def eqAtN (ds es : List Dt) (j : Nat) : Bool := match ds[j]?, es[j]? with
  | some d, some e => peq d e
  | _, _ => true
theorem eqAtN_zero (d e : Dt) (ds es : List Dt) : eqAtN (d :: ds) (e :: es) 0 = peq d e := rfl
theorem all_eqs : ∀ (ds es : List Dt), ((List.range (min ds.length es.length)).all (eqAtN ds es) && ds.length == es.length) = peqs ds es
  | [], [] => by simp [peqs]
  | [], e :: es => by simp [peqs]
  | d :: ds, [] => by simp [peqs]
  | d :: ds, e :: es => by
    have ih := all_eqs ds es
    have e1 : min (d :: ds).length (e :: es).length = min ds.length es.length + 1 := by simp only [List.length_cons]; omega
    rw [e1, List.range_succ_eq_map, List.all_cons, eqAtN_zero, List.all_map]
    have e2 : (eqAtN (d :: ds) (e :: es) ∘ Nat.succ) = eqAtN ds es := by funext j; rfl
    rw [e2, List.length_cons, List.length_cons]
    simp only [peqs]
    rw [← ih, Bool.and_assoc]
    congr 2
    simp
theorem all_eqs' {ds es : List Dt} (h : ds.length = es.length) : (List.range ds.length).all (eqAtN ds es) = peqs ds es := by
  rw [← all_eqs, ← h, Nat.min_self]
  simp
theorem peqs_len {ds es : List Dt} (h : ds.length ≠ es.length) : peqs ds es = false := by
  rw [← all_eqs]
  have : (ds.length == es.length) = false := by simpa using h
  rw [this, Bool.and_false]
theorem tupOf (I : Inv X pins σ H s) {a : Addr} {xs : List V} {ds : List Dt} (h : SqT X.K H a xs) (g : HasL X.K H ds xs) : ∃ its : List Value, Vals xs its ∧ s.heap.IsTuple a its.toArray ∧ its.toArray.size = ds.length := by
  obtain ⟨its, r, p, _⟩ := I.tuple h
  exact ⟨its, r, p, by rw [List.size_toArray, ← r.length, ← g.length]⟩
theorem lstOf (I : Inv X pins σ H s) {a : Addr} {xs : List V} {ds : List Dt} (h : SqL X.K H a xs) (g : HasL X.K H ds xs) : ∃ its : List Value, Vals xs its ∧ s.heap.IsList a its.toArray ∧ its.toArray.size = ds.length := by
  obtain ⟨its, r, p, _⟩ := I.list h
  exact ⟨its, r, p.isList, by rw [List.size_toArray, ← r.length, ← g.length]⟩
/-- what is asked of the items -/
def EqItems (s : Shared) (A : Around) (ds es : List Dt) (xs ys : List V) : Prop :=
  ∀ (us zs : List Value), Vals xs us → Vals ys zs → ∀ (j : Nat) (u z : Value), us[j]? = some u → zs[j]? = some z → SeqAt.EqAt A.in1 s u z (eqAtN ds es j)
theorem rcTT (I : Inv X pins σ H s) {A : Around} {a b : Addr} {xs ys : List V} {ds es : List Dt} (h1 : SqT X.K H a xs) (g1 : HasL X.K H ds xs) (h2 : SqT X.K H b ys) (g2 : HasL X.K H es ys) (hu : A.units < cLine)
    (he : EqItems s A ds es xs ys) : SeqAt.RcAt A s (.ref a) (.ref b) (peqs ds es) ∧ SeqAt.RcNeAt A s (.ref a) (.ref b) (!peqs ds es) := by
  obtain ⟨its, r1, p1, z1⟩ := tupOf I h1 g1
  obtain ⟨jts, r2, p2, z2⟩ := tupOf I h2 g2
  have q : ∀ j (k1 : j < its.toArray.size) (k2 : j < jts.toArray.size), SeqAt.EqAt A.in1 s its.toArray[j] jts.toArray[j] (eqAtN ds es j) := fun j k1 k2 => he its jts r1 r2 j _ _ (by simp at k1 ⊢) (by simp at k2 ⊢)
  have t1 := SeqAt.RcAt.tuples (e := eqAtN ds es) p1 p2 hu q
  have t2 := SeqAt.RcNeAt.tuples (e := eqAtN ds es) p1 p2 hu q
  rw [z1, z2, all_eqs] at t1 t2
  exact ⟨t1, t2⟩
theorem rcLL (I : Inv X pins σ H s) {A : Around} {a b : Addr} {xs ys : List V} {ds es : List Dt} (h1 : SqL X.K H a xs) (g1 : HasL X.K H ds xs) (h2 : SqL X.K H b ys) (g2 : HasL X.K H es ys) (hu : A.units < cLine)
    (he : EqItems s A ds es xs ys) : SeqAt.RcAt A s (.ref a) (.ref b) (peqs ds es) ∧ SeqAt.RcNeAt A s (.ref a) (.ref b) (!peqs ds es) := by
  obtain ⟨its, r1, p1, z1⟩ := lstOf I h1 g1
  obtain ⟨jts, r2, p2, z2⟩ := lstOf I h2 g2
  by_cases hl : ds.length = es.length
  · have q : ∀ j (k1 : j < its.toArray.size) (k2 : j < jts.toArray.size), SeqAt.EqAt A.in1 s its.toArray[j] jts.toArray[j] (eqAtN ds es j) := fun j k1 k2 => he its jts r1 r2 j _ _ (by simp at k1 ⊢) (by simp at k2 ⊢)
    have t1 := SeqAt.RcAt.lists (e := eqAtN ds es) p1 p2 (by rw [z1, z2, hl]) hu q
    have t2 := SeqAt.RcNeAt.lists (e := eqAtN ds es) p1 p2 (by rw [z1, z2, hl]) hu q
    rw [z1, all_eqs' hl] at t1 t2
    exact ⟨t1, t2⟩
  · have hne : (its.toArray.size != jts.toArray.size) = true := by rw [z1, z2]; simpa using hl
    rw [peqs_len hl]
    exact ⟨SeqAt.RcAt.lists_lengths p1 p2 hne hu, SeqAt.RcNeAt.lists_lengths p1 p2 hne hu⟩
theorem unitsOf {A : Around} {d : Dt} (h : A.units + dep d < cLine) : A.units < cLine := Nat.lt_of_le_of_lt (Nat.le_add_right _ _) h
mutual
theorem eqAt_D (I : Inv X pins σ H s) : ∀ (d e : Dt) (v w : V) (u z : Value) (A : Around), Has X.K H d v → Has X.K H e w → RelV v u → RelV w z → A.units + dep d < cLine → SeqAt.EqAt A s u z (peq d e)
  | .non, e, v, w, u, z, A, h, h', r, r', hu => by
    have hu' := unitsOf hu
    simp only [Has] at h
    subst h
    cases e with
    | tup es =>
      simp only [Has] at h'
      obtain ⟨b, ys, rfl, h3, h4⟩ := h'
      obtain ⟨_, _, p, _⟩ := tupOf I h3 h4
      cases (show z = Value.ref b from r')
      cases (show u = Value.none from r)
      exact SeqAt.EqAt.none_tuple p hu'
    | lst es =>
      simp only [Has] at h'
      obtain ⟨b, ys, rfl, h3, h4⟩ := h'
      obtain ⟨_, _, p, _⟩ := lstOf I h3 h4
      cases (show z = Value.ref b from r')
      cases (show u = Value.none from r)
      exact SeqAt.EqAt.none_list p hu'
    | _ => simp only [Has] at h'; subst h'; exact eqAt_V r r' rfl rfl
  | .bl k, e, v, w, u, z, A, h, h', r, r', hu => by
    have hu' := unitsOf hu
    simp only [Has] at h
    subst h
    cases e with
    | tup es =>
      simp only [Has] at h'
      obtain ⟨b, ys, rfl, h3, h4⟩ := h'
      obtain ⟨_, _, p, _⟩ := tupOf I h3 h4
      cases (show z = Value.ref b from r')
      cases (show u = Value.bool k from r)
      exact SeqAt.EqAt.bool_tuple k p hu'
    | lst es =>
      simp only [Has] at h'
      obtain ⟨b, ys, rfl, h3, h4⟩ := h'
      obtain ⟨_, _, p, _⟩ := lstOf I h3 h4
      cases (show z = Value.ref b from r')
      cases (show u = Value.bool k from r)
      exact SeqAt.EqAt.bool_list k p hu'
    | _ => simp only [Has] at h'; subst h'; exact eqAt_V r r' rfl rfl
  | .int k, e, v, w, u, z, A, h, h', r, r', hu => by
    have hu' := unitsOf hu
    simp only [Has] at h
    subst h
    cases e with
    | tup es =>
      simp only [Has] at h'
      obtain ⟨b, ys, rfl, h3, h4⟩ := h'
      obtain ⟨_, _, p, _⟩ := tupOf I h3 h4
      cases (show z = Value.ref b from r')
      obtain ⟨t, rfl⟩ := r
      exact SeqAt.EqAt.int_tuple k t p hu'
    | lst es =>
      simp only [Has] at h'
      obtain ⟨b, ys, rfl, h3, h4⟩ := h'
      obtain ⟨_, _, p, _⟩ := lstOf I h3 h4
      cases (show z = Value.ref b from r')
      obtain ⟨t, rfl⟩ := r
      exact SeqAt.EqAt.int_list k t p hu'
    | _ => simp only [Has] at h'; subst h'; exact eqAt_V r r' rfl rfl
  | .str k, e, v, w, u, z, A, h, h', r, r', hu => by
    have hu' := unitsOf hu
    simp only [Has] at h
    subst h
    cases e with
    | tup es =>
      simp only [Has] at h'
      obtain ⟨b, ys, rfl, h3, h4⟩ := h'
      obtain ⟨_, _, p, _⟩ := tupOf I h3 h4
      cases (show z = Value.ref b from r')
      obtain ⟨t, rfl⟩ := r
      exact SeqAt.EqAt.str_tuple k t p hu'
    | lst es =>
      simp only [Has] at h'
      obtain ⟨b, ys, rfl, h3, h4⟩ := h'
      obtain ⟨_, _, p, _⟩ := lstOf I h3 h4
      cases (show z = Value.ref b from r')
      obtain ⟨t, rfl⟩ := r
      exact SeqAt.EqAt.str_list k t p hu'
    | _ => simp only [Has] at h'; subst h'; exact eqAt_V r r' rfl rfl
  | .tup ds, e, v, w, u, z, A, h, h', r, r', hu => by
    have hu' := unitsOf hu
    have hd := h
    simp only [Has] at h
    obtain ⟨a, xs, rfl, h1, h2⟩ := h
    cases (show u = Value.ref a from r)
    obtain ⟨_, _, p, _⟩ := tupOf I h1 h2
    have hi : A.in1.units + deps ds < cLine := by simp only [dep] at hu; rw [Around.in1_units]; omega
    cases e with
    | tup es =>
      have he := h'
      simp only [Has] at h'
      obtain ⟨b, ys, rfl, h3, h4⟩ := h'
      cases (show z = Value.ref b from r')
      by_cases hab : a = b
      · subst hab
        rw [Has.inj I _ _ _ hd he, peq_refl]
        exact SeqAt.EqAt.same _
      · have q := (rcTT I h1 h2 h3 h4 hu' fun us zs ru rz j u z e1 e2 => eqAt_L I ds es xs ys us zs A.in1 h2 h4 ru rz hi j u z e1 e2).1
        simp only [peq]
        exact SeqAt.EqAt.of_refs hab q
    | lst es =>
      simp only [Has] at h'
      obtain ⟨b, ys, rfl, h3, h4⟩ := h'
      cases (show z = Value.ref b from r')
      obtain ⟨_, _, p', _⟩ := lstOf I h3 h4
      exact SeqAt.EqAt.tuple_list p p' hu'
    | non => simp only [Has] at h'; subst h'; cases (show z = Value.none from r'); exact SeqAt.EqAt.tuple_none p hu'
    | bl k => simp only [Has] at h'; subst h'; cases (show z = Value.bool k from r'); exact SeqAt.EqAt.tuple_bool k p hu'
    | int k => simp only [Has] at h'; subst h'; obtain ⟨t, rfl⟩ := r'; exact SeqAt.EqAt.tuple_int k t p hu'
    | str k => simp only [Has] at h'; subst h'; obtain ⟨t, rfl⟩ := r'; exact SeqAt.EqAt.tuple_str k t p hu'
  | .lst ds, e, v, w, u, z, A, h, h', r, r', hu => by
    have hu' := unitsOf hu
    have hd := h
    simp only [Has] at h
    obtain ⟨a, xs, rfl, h1, h2⟩ := h
    cases (show u = Value.ref a from r)
    obtain ⟨_, _, p, _⟩ := lstOf I h1 h2
    have hi : A.in1.units + deps ds < cLine := by simp only [dep] at hu; rw [Around.in1_units]; omega
    cases e with
    | lst es =>
      have he := h'
      simp only [Has] at h'
      obtain ⟨b, ys, rfl, h3, h4⟩ := h'
      cases (show z = Value.ref b from r')
      by_cases hab : a = b
      · subst hab
        rw [Has.inj I _ _ _ hd he, peq_refl]
        exact SeqAt.EqAt.same _
      · have q := (rcLL I h1 h2 h3 h4 hu' fun us zs ru rz j u z e1 e2 => eqAt_L I ds es xs ys us zs A.in1 h2 h4 ru rz hi j u z e1 e2).1
        simp only [peq]
        exact SeqAt.EqAt.of_refs hab q
    | tup es =>
      simp only [Has] at h'
      obtain ⟨b, ys, rfl, h3, h4⟩ := h'
      cases (show z = Value.ref b from r')
      obtain ⟨_, _, p', _⟩ := tupOf I h3 h4
      exact SeqAt.EqAt.list_tuple p p' hu'
    | non => simp only [Has] at h'; subst h'; cases (show z = Value.none from r'); exact SeqAt.EqAt.list_none p hu'
    | bl k => simp only [Has] at h'; subst h'; cases (show z = Value.bool k from r'); exact SeqAt.EqAt.list_bool k p hu'
    | int k => simp only [Has] at h'; subst h'; obtain ⟨t, rfl⟩ := r'; exact SeqAt.EqAt.list_int k t p hu'
    | str k => simp only [Has] at h'; subst h'; obtain ⟨t, rfl⟩ := r'; exact SeqAt.EqAt.list_str k t p hu'
theorem eqAt_L (I : Inv X pins σ H s) : ∀ (ds es : List Dt) (vs ws : List V) (us zs : List Value) (A : Around), HasL X.K H ds vs → HasL X.K H es ws → Vals vs us → Vals ws zs → A.units + deps ds < cLine →
    ∀ (j : Nat) (u z : Value), us[j]? = some u → zs[j]? = some z → SeqAt.EqAt A s u z (eqAtN ds es j)
  | [], es, vs, ws, us, zs, A, h, h', r, r', hu, j, u, z, e1, e2 => by
    simp only [HasL] at h
    subst h
    cases r
    simp at e1
  | d :: ds, es, vs, ws, us, zs, A, h, h', r, r', hu, j, u, z, e1, e2 => by
    simp only [HasL] at h
    obtain ⟨v, rs, rfl, h1, h2⟩ := h
    cases r with
    | cons r1 r2 =>
      cases es with
      | nil =>
        simp only [HasL] at h'
        subst h'
        cases r'
        simp at e2
      | cons e es =>
        simp only [HasL] at h'
        obtain ⟨w, rt, rfl, h3, h4⟩ := h'
        simp only [deps] at hu
        cases r' with
        | cons r3 r4 =>
          cases j with
          | zero =>
            simp at e1 e2
            subst e1 e2
            exact eqAt_D I d e v w _ _ A h1 h3 r1 r3 (by omega)
          | succ j => exact eqAt_L I ds es rs rt _ _ A h2 h4 r2 r4 (by omega) j u z (by simpa using e1) (by simpa using e2)
end
end
end L2

namespace L2
open PySem PySem.Spec PyProof.Rows
section
variable {X : Cx} {pins : List (Addr × Obj)} {σ : St} {H : Hp} {s : Shared}
/-- == and != of any two data -/
theorem rc_D (I : Inv X pins σ H s) (A : Around) (d e : Dt) (v w : V) (u z : Value) (h : Has X.K H d v) (h' : Has X.K H e w) (r : RelV v u) (r' : RelV w z) (hu : A.units + dep d < cLine) :
    SeqAt.RcAt A s u z (peq d e) ∧ SeqAt.RcNeAt A s u z (!peq d e) := by
  have hu' := unitsOf hu
  cases d with
  | non =>
    simp only [Has] at h
    subst h
    cases (show u = Value.none from r)
    cases e with
    | non =>
      simp only [Has] at h'
      subst h'
      cases (show z = Value.none from r')
      exact ⟨SeqAt.RcAt.none_none, SeqAt.RcNeAt.none_none⟩
    | bl k2 =>
      simp only [Has] at h'
      subst h'
      cases (show z = Value.bool k2 from r')
      exact ⟨SeqAt.RcAt.none_bool k2, SeqAt.RcNeAt.none_bool k2⟩
    | int k2 =>
      simp only [Has] at h'
      subst h'
      obtain ⟨t2, rfl⟩ := r'
      exact ⟨SeqAt.RcAt.none_int k2 t2, SeqAt.RcNeAt.none_int k2 t2⟩
    | str k2 =>
      simp only [Has] at h'
      subst h'
      obtain ⟨t2, rfl⟩ := r'
      exact ⟨SeqAt.RcAt.none_str k2 t2, SeqAt.RcNeAt.none_str k2 t2⟩
    | tup es =>
      simp only [Has] at h'
      obtain ⟨b, ys, rfl, h3, h4⟩ := h'
      obtain ⟨_, _, p, _⟩ := tupOf I h3 h4
      cases (show z = Value.ref b from r')
      exact ⟨SeqAt.RcAt.none_tuple p hu', SeqAt.RcNeAt.none_tuple p hu'⟩
    | lst es =>
      simp only [Has] at h'
      obtain ⟨b, ys, rfl, h3, h4⟩ := h'
      obtain ⟨_, _, p, _⟩ := lstOf I h3 h4
      cases (show z = Value.ref b from r')
      exact ⟨SeqAt.RcAt.none_list p hu', SeqAt.RcNeAt.none_list p hu'⟩
  | bl k1 =>
    simp only [Has] at h
    subst h
    cases (show u = Value.bool k1 from r)
    cases e with
    | non =>
      simp only [Has] at h'
      subst h'
      cases (show z = Value.none from r')
      exact ⟨SeqAt.RcAt.bool_none k1, SeqAt.RcNeAt.bool_none k1⟩
    | bl k2 =>
      simp only [Has] at h'
      subst h'
      cases (show z = Value.bool k2 from r')
      exact ⟨SeqAt.RcAt.bool_bool k1 k2, SeqAt.RcNeAt.bool_bool k1 k2⟩
    | int k2 =>
      simp only [Has] at h'
      subst h'
      obtain ⟨t2, rfl⟩ := r'
      exact ⟨SeqAt.RcAt.bool_int k1 k2 t2, SeqAt.RcNeAt.bool_int k1 k2 t2⟩
    | str k2 =>
      simp only [Has] at h'
      subst h'
      obtain ⟨t2, rfl⟩ := r'
      exact ⟨SeqAt.RcAt.bool_str k1 k2 t2, SeqAt.RcNeAt.bool_str k1 k2 t2⟩
    | tup es =>
      simp only [Has] at h'
      obtain ⟨b, ys, rfl, h3, h4⟩ := h'
      obtain ⟨_, _, p, _⟩ := tupOf I h3 h4
      cases (show z = Value.ref b from r')
      exact ⟨SeqAt.RcAt.bool_tuple k1 p hu', SeqAt.RcNeAt.bool_tuple k1 p hu'⟩
    | lst es =>
      simp only [Has] at h'
      obtain ⟨b, ys, rfl, h3, h4⟩ := h'
      obtain ⟨_, _, p, _⟩ := lstOf I h3 h4
      cases (show z = Value.ref b from r')
      exact ⟨SeqAt.RcAt.bool_list k1 p hu', SeqAt.RcNeAt.bool_list k1 p hu'⟩
  | int k1 =>
    simp only [Has] at h
    subst h
    obtain ⟨t1, rfl⟩ := r
    cases e with
    | non =>
      simp only [Has] at h'
      subst h'
      cases (show z = Value.none from r')
      exact ⟨SeqAt.RcAt.int_none k1 t1, SeqAt.RcNeAt.int_none k1 t1⟩
    | bl k2 =>
      simp only [Has] at h'
      subst h'
      cases (show z = Value.bool k2 from r')
      exact ⟨SeqAt.RcAt.int_bool k1 t1 k2, SeqAt.RcNeAt.int_bool k1 t1 k2⟩
    | int k2 =>
      simp only [Has] at h'
      subst h'
      obtain ⟨t2, rfl⟩ := r'
      exact ⟨SeqAt.RcAt.int_int k1 t1 k2 t2, SeqAt.RcNeAt.int_int k1 t1 k2 t2⟩
    | str k2 =>
      simp only [Has] at h'
      subst h'
      obtain ⟨t2, rfl⟩ := r'
      exact ⟨SeqAt.RcAt.int_str k1 t1 k2 t2, SeqAt.RcNeAt.int_str k1 t1 k2 t2⟩
    | tup es =>
      simp only [Has] at h'
      obtain ⟨b, ys, rfl, h3, h4⟩ := h'
      obtain ⟨_, _, p, _⟩ := tupOf I h3 h4
      cases (show z = Value.ref b from r')
      exact ⟨SeqAt.RcAt.int_tuple k1 t1 p hu', SeqAt.RcNeAt.int_tuple k1 t1 p hu'⟩
    | lst es =>
      simp only [Has] at h'
      obtain ⟨b, ys, rfl, h3, h4⟩ := h'
      obtain ⟨_, _, p, _⟩ := lstOf I h3 h4
      cases (show z = Value.ref b from r')
      exact ⟨SeqAt.RcAt.int_list k1 t1 p hu', SeqAt.RcNeAt.int_list k1 t1 p hu'⟩
  | str k1 =>
    simp only [Has] at h
    subst h
    obtain ⟨t1, rfl⟩ := r
    cases e with
    | non =>
      simp only [Has] at h'
      subst h'
      cases (show z = Value.none from r')
      exact ⟨SeqAt.RcAt.str_none k1 t1, SeqAt.RcNeAt.str_none k1 t1⟩
    | bl k2 =>
      simp only [Has] at h'
      subst h'
      cases (show z = Value.bool k2 from r')
      exact ⟨SeqAt.RcAt.str_bool k1 t1 k2, SeqAt.RcNeAt.str_bool k1 t1 k2⟩
    | int k2 =>
      simp only [Has] at h'
      subst h'
      obtain ⟨t2, rfl⟩ := r'
      exact ⟨SeqAt.RcAt.str_int k1 t1 k2 t2, SeqAt.RcNeAt.str_int k1 t1 k2 t2⟩
    | str k2 =>
      simp only [Has] at h'
      subst h'
      obtain ⟨t2, rfl⟩ := r'
      exact ⟨SeqAt.RcAt.str_str k1 t1 k2 t2, SeqAt.RcNeAt.str_str k1 t1 k2 t2⟩
    | tup es =>
      simp only [Has] at h'
      obtain ⟨b, ys, rfl, h3, h4⟩ := h'
      obtain ⟨_, _, p, _⟩ := tupOf I h3 h4
      cases (show z = Value.ref b from r')
      exact ⟨SeqAt.RcAt.str_tuple k1 t1 p hu', SeqAt.RcNeAt.str_tuple k1 t1 p hu'⟩
    | lst es =>
      simp only [Has] at h'
      obtain ⟨b, ys, rfl, h3, h4⟩ := h'
      obtain ⟨_, _, p, _⟩ := lstOf I h3 h4
      cases (show z = Value.ref b from r')
      exact ⟨SeqAt.RcAt.str_list k1 t1 p hu', SeqAt.RcNeAt.str_list k1 t1 p hu'⟩
  | tup ds =>
    simp only [Has] at h
    obtain ⟨a, xs, rfl, h1, h2⟩ := h
    cases (show u = Value.ref a from r)
    obtain ⟨_, _, p, _⟩ := tupOf I h1 h2
    have hi : A.in1.units + deps ds < cLine := by simp only [dep] at hu; rw [Around.in1_units]; omega
    cases e with
    | non =>
      simp only [Has] at h'
      subst h'
      cases (show z = Value.none from r')
      exact ⟨SeqAt.RcAt.tuple_none p hu', SeqAt.RcNeAt.tuple_none p hu'⟩
    | bl k2 =>
      simp only [Has] at h'
      subst h'
      cases (show z = Value.bool k2 from r')
      exact ⟨SeqAt.RcAt.tuple_bool k2 p hu', SeqAt.RcNeAt.tuple_bool k2 p hu'⟩
    | int k2 =>
      simp only [Has] at h'
      subst h'
      obtain ⟨t2, rfl⟩ := r'
      exact ⟨SeqAt.RcAt.tuple_int k2 t2 p hu', SeqAt.RcNeAt.tuple_int k2 t2 p hu'⟩
    | str k2 =>
      simp only [Has] at h'
      subst h'
      obtain ⟨t2, rfl⟩ := r'
      exact ⟨SeqAt.RcAt.tuple_str k2 t2 p hu', SeqAt.RcNeAt.tuple_str k2 t2 p hu'⟩
    | tup es =>
      simp only [Has] at h'
      obtain ⟨b, ys, rfl, h3, h4⟩ := h'
      cases (show z = Value.ref b from r')
      simp only [peq]
      exact rcTT I h1 h2 h3 h4 hu' fun us zs ru rz j u z e1 e2 => eqAt_L I ds es xs ys us zs A.in1 h2 h4 ru rz hi j u z e1 e2
    | lst es =>
      simp only [Has] at h'
      obtain ⟨b, ys, rfl, h3, h4⟩ := h'
      cases (show z = Value.ref b from r')
      obtain ⟨_, _, p', _⟩ := lstOf I h3 h4
      exact ⟨SeqAt.RcAt.tuple_list p p' hu', SeqAt.RcNeAt.tuple_list p p' hu'⟩
  | lst ds =>
    simp only [Has] at h
    obtain ⟨a, xs, rfl, h1, h2⟩ := h
    cases (show u = Value.ref a from r)
    obtain ⟨_, _, p, _⟩ := lstOf I h1 h2
    have hi : A.in1.units + deps ds < cLine := by simp only [dep] at hu; rw [Around.in1_units]; omega
    cases e with
    | non =>
      simp only [Has] at h'
      subst h'
      cases (show z = Value.none from r')
      exact ⟨SeqAt.RcAt.list_none p hu', SeqAt.RcNeAt.list_none p hu'⟩
    | bl k2 =>
      simp only [Has] at h'
      subst h'
      cases (show z = Value.bool k2 from r')
      exact ⟨SeqAt.RcAt.list_bool k2 p hu', SeqAt.RcNeAt.list_bool k2 p hu'⟩
    | int k2 =>
      simp only [Has] at h'
      subst h'
      obtain ⟨t2, rfl⟩ := r'
      exact ⟨SeqAt.RcAt.list_int k2 t2 p hu', SeqAt.RcNeAt.list_int k2 t2 p hu'⟩
    | str k2 =>
      simp only [Has] at h'
      subst h'
      obtain ⟨t2, rfl⟩ := r'
      exact ⟨SeqAt.RcAt.list_str k2 t2 p hu', SeqAt.RcNeAt.list_str k2 t2 p hu'⟩
    | tup es =>
      simp only [Has] at h'
      obtain ⟨b, ys, rfl, h3, h4⟩ := h'
      cases (show z = Value.ref b from r')
      obtain ⟨_, _, p', _⟩ := tupOf I h3 h4
      exact ⟨SeqAt.RcAt.list_tuple p p' hu', SeqAt.RcNeAt.list_tuple p p' hu'⟩
    | lst es =>
      simp only [Has] at h'
      obtain ⟨b, ys, rfl, h3, h4⟩ := h'
      cases (show z = Value.ref b from r')
      simp only [peq]
      exact rcLL I h1 h2 h3 h4 hu' fun us zs ru rz j u z e1 e2 => eqAt_L I ds es xs ys us zs A.in1 h2 h4 ru rz hi j u z e1 e2
def rEqD (K : PySem.W.Frag) : R2 := fun x y H Q => ∃ d e, Has K H d x ∧ Has K H e y ∧ dep d ≤ 60 ∧ Q (.bl (peq d e)) H
def rNeD (K : PySem.W.Frag) : R2 := fun x y H Q => ∃ d e, Has K H d x ∧ Has K H e y ∧ dep d ≤ 60 ∧ Q (.bl (!peq d e)) H
theorem op_eqD (hu : X.A.units + 64 < cLine) : OpR X (compareOp .Eq) (rEqD X.K) := by
  intro pins s σ H x y v u Q I rx ry h
  obtain ⟨d, e, h1, h2, hd, q⟩ := h
  exact (rc_D I X.A d e x y v u h1 h2 rx ry (by omega)).1 _ _ _ _ ⟨.bl _, H, I, rfl, q⟩
/-! ### in, not in, index -/
open Classical in
/-- does this value stand for a datum that is like d -/
noncomputable def hitD (K : PySem.W.Frag) (H : Hp) (d : Dt) (u : Value) : Bool := decide (∃ (v : V) (d' : Dt), RelV v u ∧ Has K H d' v ∧ peq d' d = true)
open Classical in
theorem hitD_of (I : Inv X pins σ H s) {d d' : Dt} {v : V} {u : Value} (r : RelV v u) (h : Has X.K H d' v) : hitD X.K H d u = peq d' d := by
  unfold hitD
  cases e : peq d' d with
  | true => exact decide_eq_true ⟨v, d', r, h, e⟩
  | false =>
    refine decide_eq_false fun ⟨v', d2, r', h', e'⟩ => ?_
    rw [r'.inj r] at h'
    rw [Has.inj I _ _ _ h' h, e] at e'
    cases e'
theorem any_hitD (I : Inv X pins σ H s) {d : Dt} : ∀ {ds : List Dt} {vs : List V} {us : List Value}, HasL X.K H ds vs → Vals vs us → us.any (hitD X.K H d) = ds.any fun d' => peq d' d
  | [], vs, us, h, r => by
    simp only [HasL] at h
    subst h
    cases r
    rfl
  | d' :: ds, vs, us, h, r => by
    simp only [HasL] at h
    obtain ⟨v, rs, rfl, h1, h2⟩ := h
    cases r with
    | cons r1 r2 => rw [List.any_cons, List.any_cons, hitD_of I r1 h1, any_hitD I h2 r2]
theorem mem_hitD (I : Inv X pins σ H s) {A : Around} {d : Dt} {x : V} {ux : Value} (hx : Has X.K H d x) (rx : RelV x ux) : ∀ {ds : List Dt} {vs : List V} {us : List Value}, HasL X.K H ds vs → Vals vs us → A.units + deps ds < cLine → ∀ u ∈ us, SeqAt.EqAt A s u ux (hitD X.K H d u)
  | [], vs, us, h, r, hu, u, hm => by
    simp only [HasL] at h
    subst h
    cases r
    cases hm
  | d' :: ds, vs, us, h, r, hu, u, hm => by
    simp only [HasL] at h
    obtain ⟨v, rs, rfl, h1, h2⟩ := h
    simp only [deps] at hu
    cases r with
    | cons r1 r2 =>
      rcases List.mem_cons.mp hm with rfl | hm
      · rw [hitD_of I r1 h1]
        exact eqAt_D I d' d v x _ _ A h1 hx r1 rx (by omega)
      · exact mem_hitD I hx rx h2 r2 (by omega) u hm
def rInD (K : PySem.W.Frag) (neg : Bool) : R2 := fun x y H Q => ∃ p xs ds d, y = .ref p ∧ (SqL K H p xs ∨ SqT K H p xs) ∧ HasL K H ds xs ∧ Has K H d x ∧ deps ds ≤ 60 ∧ Q (.bl (if neg then !(ds.any fun d' => peq d' d) else ds.any fun d' => peq d' d)) H
theorem op_inD (hu : X.A.units + 64 < cLine) : OpR X (compareOp .In) (rInD X.K false) := by
  intro pins s σ H x y v u Q I rx ry h
  obtain ⟨p, xs, ds, d, rfl, hq, hs, hx, hd, q⟩ := h
  cases ry
  have hin : X.A.in1.units + deps ds < cLine := by rw [Around.in1_units]; omega
  rcases hq with hq | hq
  · obtain ⟨its, r, pl, hz⟩ := I.list hq
    refine SeqAt.in_listAt (hitD X.K H d) pl.isList (fun w hw => mem_hitD I hx rx hs r hin w (by simpa using hw)) ⟨.bl _, H, I, rfl, ?_⟩
    rw [show its.toArray.any (hitD X.K H d) = its.any (hitD X.K H d) by simp, any_hitD I hs r]
    exact q
  · obtain ⟨its, r, pl, hz⟩ := I.tuple hq
    refine SeqAt.in_tupleAt (hitD X.K H d) pl (fun w hw => mem_hitD I hx rx hs r hin w (by simpa using hw)) ⟨.bl _, H, I, rfl, ?_⟩
    rw [show its.toArray.any (hitD X.K H d) = its.any (hitD X.K H d) by simp, any_hitD I hs r]
    exact q
theorem op_notInD (hu : X.A.units + 64 < cLine) : OpR X (compareOp .NotIn) (rInD X.K true) := by
  intro pins s σ H x y v u Q I rx ry h
  obtain ⟨p, xs, ds, d, rfl, hq, hs, hx, hd, q⟩ := h
  cases ry
  have hin : X.A.in1.units + deps ds < cLine := by rw [Around.in1_units]; omega
  rcases hq with hq | hq
  · obtain ⟨its, r, pl, hz⟩ := I.list hq
    refine SeqAt.notIn_listAt (hitD X.K H d) pl.isList (fun w hw => mem_hitD I hx rx hs r hin w (by simpa using hw)) ⟨.bl _, H, I, rfl, ?_⟩
    rw [show its.toArray.any (hitD X.K H d) = its.any (hitD X.K H d) by simp, any_hitD I hs r]
    exact q
  · obtain ⟨its, r, pl, hz⟩ := I.tuple hq
    refine SeqAt.notIn_tupleAt (hitD X.K H d) pl (fun w hw => mem_hitD I hx rx hs r hin w (by simpa using hw)) ⟨.bl _, H, I, rfl, ?_⟩
    rw [show its.toArray.any (hitD X.K H d) = its.any (hitD X.K H d) by simp, any_hitD I hs r]
    exact q
/-- the place of the first that is like d -/
def rIndexD (K : PySem.W.Frag) : V → List V → Hp → VK → Prop := fun x vs H Q => ∃ l xs ds y d j, x = .ref l ∧ vs = [y] ∧ H l = some (.lst xs) ∧ HasL K H ds xs ∧ Has K H d y ∧ deps ds ≤ 60 ∧
  (∃ dj, ds[j]? = some dj ∧ peq dj d = true) ∧ (∀ m dm, m < j → ds[m]? = some dm → peq dm d = false) ∧ Q (.int (j : Nat)) H
theorem mt_indexD (hu : X.A.units + 64 < cLine) : MtM X "list.index" (rIndexD X.K) := by
  intro pins s σ H x vs v us Q I rx rv h
  obtain ⟨l, xs, ds, y, d, j, rfl, rfl, hH, hs, hy, hd, ⟨dj, ej, hj⟩, hno, q⟩ := h
  cases rx
  obtain ⟨u, rfl, ru⟩ := rv.one
  obtain ⟨z, its, n, r, hl, e⟩ := I.lstM hH
  have hlen := hs.length
  have hjl : j < ds.length := (List.getElem?_eq_some_iff.mp ej).1
  have hin : X.A.in1.units + deps ds < cLine := by rw [Around.in1_units]; omega
  have at_ : ∀ m (hm : m < its.toArray.size), ∃ dm, ds[m]? = some dm ∧ hitD X.K H d its.toArray[m] = peq dm d := fun m hm => by
    have hm' : m < ds.length := by rw [List.size_toArray] at hm; omega
    obtain ⟨w, e1, e2⟩ := hs.getD (List.getElem?_eq_getElem hm')
    obtain ⟨wv, e3, e4⟩ := r.get e1
    have e5 : its.toArray[m] = wv := by
      have : its[m]? = some wv := e3
      simp only [List.getElem_toArray]
      rw [List.getElem?_eq_getElem (by rw [List.size_toArray] at hm; exact hm)] at this
      exact Option.some.inj this
    exact ⟨_, List.getElem?_eq_getElem hm', by rw [e5]; exact hitD_of I e4 e2⟩
  have hjs : j < its.toArray.size := by rw [List.size_toArray]; omega
  have hsm : (j : Int) < 2 ^ 63 - 1 := by
    have := sizeLine_eq
    omega
  refine call_meets F.slot_list_index ⟨_, e, rfl⟩ F.entry_list_index (F.args_list_index_2 _ _) (SeqAt.list_indexAt l its.toArray n none #[] u (hitD X.K H d) j hjs hsm ?_ ?_) ⟨e, ?_, ?_⟩
  · obtain ⟨dm, e1, e2⟩ := at_ j hjs
    rw [ej] at e1
    cases e1
    rw [e2, hj]
  · intro m hm hlt
    obtain ⟨dm, e1, e2⟩ := at_ m hm
    rw [e2, hno m dm hlt e1]
  · intro w hw
    exact mem_hitD I hy ru hs r hin w (by simpa using hw)
  · exact ⟨.int (j : Nat), H, I.tok _, ⟨_, rfl⟩, q⟩
end
end L2

/-! OWN: forms that the laws share: a def with all that a caller asks, comprehensions by an invariant, walks by any iterator. Behind Ext2, Deep2. -/
namespace L2
open PySem PySem.Spec PyProof.Rows
/-- a def with its promise, as a caller asks it -/
structure FB (P : Program) (w : World) (K : PySem.W.Frag) (mg : Str → Option Value) (base : Heap) (CX : CXT) (k : Nat) (x : Str) (f : Addr) (fd : FuncData) (ps : List Str) (sp : Sp) : Prop where
  ok : FnOk P w K mg base CX k f fd ps sp
  b : Binds K fd ps []
  kp : PySem.W.keepIn K (.ref f) = true
  m : mg x = some (.ref f)
theorem bsz (n : Nat) (h : n ≤ 1000) : n ≤ sizeLine := Nat.le_of_lt (small1000 h)
theorem atI_ints {ns : List Int} {i : Nat} {n : Int} (h : ns[i]? = some n) : atI (ns.map V.int) (i : Int) = some (.int n) := atI_nat (by rw [List.getElem?_map, h]; rfl)
theorem take_snoc {α : Type} {xs : List α} {i : Nat} {x : α} (h : xs[i]? = some x) : xs.take (i + 1) = xs.take i ++ [x] := by
  rw [List.take_add_one, h]
  rfl
theorem sameNew {H : Hp} {p : Addr} (h : H p = none) (o : HO) : Same H (upd H p o) := fun b u q => by rw [upd_ne (ne_of_none q h)]; exact q
theorem Same.upd {H0 H : Hp} {l : Addr} {o : HO} (s : Same H0 H) (h : H0 l = none) : Same H0 (upd H l o) := fun b u q => by rw [upd_ne (ne_of_none q h)]; exact s b u q
theorem Same.kt {H H' : Hp} (s : Same H H') : KeepT H H' := KeepT.of_same s
theorem Same.tup {K : PySem.W.Frag} {H H' : Hp} {a : Addr} {xs : List V} (s : Same H H') (h : SqT K H a xs) : SqT K H' a xs := s.kt.sq h

/-! ### an iterator of n turns -/
structure Wk (J : It) (n : Nat) (Ok : Hp → Prop) : Prop where
  stop : ∀ i H, Ok H → n ≤ i → J.stop i H
  go : ∀ i H, Ok H → i < n → J.go i H
theorem wk_list {K : PySem.W.Frag} {a : Addr} {xs : List V} : Wk (Itl K a) xs.length (fun H => SqL K H a xs) := ⟨fun _ _ h hi => ⟨xs, h, hi⟩, fun i _ h hi => ⟨xs, xs[i], h, by simp [hi]⟩⟩
theorem wk_tup {K : PySem.W.Frag} {a : Addr} {xs : List V} : Wk (Itt K a) xs.length (fun H => SqT K H a xs) := ⟨fun _ _ h hi => ⟨xs, h, hi⟩, fun i _ h hi => ⟨xs, xs[i], h, by simp [hi]⟩⟩
/-- what a turn of a comprehension is to reach -/
def LcW (n : Nat) (D : Addr) (Pv : Nat → List V → Hp → Prop) (i m : Nat) (ys : List V) (H : Hp) : Prop := m = n - i ∧ i ≤ n ∧ ys.length ≤ i ∧ H D = some (.lst ys) ∧ Pv i ys H
def LcPost (n : Nat) (D : Addr) (Pv : Nat → List V → Hp → Prop) (i : Nat) (ys : List V) : VK := fun y H3 => H3 D = some (.lst ys) ∧ ys.length < sizeLine ∧ ∃ m', m' < n - i ∧ LcW n D Pv (i + 1) m' (ys ++ [y]) (upd H3 D (.lst (ys ++ [y])))
def LcSkip (n : Nat) (D : Addr) (Pv : Nat → List V → Hp → Prop) (i : Nat) (ys : List V) (H3 : Hp) : Prop := ∃ m', m' < n - i ∧ LcW n D Pv (i + 1) m' ys H3
theorem lc_post {n : Nat} {D : Addr} {Pv : Nat → List V → Hp → Prop} {i : Nat} {ys : List V} {y : V} {H3 : Hp} (hn : n ≤ sizeLine) (hi : i < n) (hl : ys.length ≤ i) (hD : H3 D = some (.lst ys)) (p : Pv (i + 1) (ys ++ [y]) (upd H3 D (.lst (ys ++ [y])))) : LcPost n D Pv i ys y H3 :=
  ⟨hD, by omega, n - (i + 1), by omega, rfl, hi, by rw [List.length_append, List.length_singleton]; omega, upd_same, p⟩
theorem lc_skip {n : Nat} {D : Addr} {Pv : Nat → List V → Hp → Prop} {i : Nat} {ys : List V} {H3 : Hp} (hi : i < n) (hl : ys.length ≤ i) (hD : H3 D = some (.lst ys)) (p : Pv (i + 1) ys H3) : LcSkip n D Pv i ys H3 :=
  ⟨n - (i + 1), by omega, rfl, hi, by omega, hD, p⟩
theorem lc_by {J : It} {n : Nat} {Ok : Hp → Prop} {te : TE} {fv : St} {H1 : Hp} {D : Addr} {R : Hp → Prop} (W : Wk J n Ok) (Pv : Nat → List V → Hp → Prop) (hok : ∀ i ys H, Pv i ys H → Ok H) (h0 : Pv 0 [] (upd H1 D (.lst [])))
    (hs : ∀ i ys H' x H'', i < n → ys.length ≤ i → H' D = some (.lst ys) → Pv i ys H' → J.yld i H' x H'' → te (some x :: fv) H'' (LcPost n D Pv i ys)) (hd : ∀ ys H', H' D = some (.lst ys) → Pv n ys H' → R H') :
    ∃ W : Nat → Nat → List V → Hp → Prop, (∃ m, W 0 m [] (upd H1 D (.lst []))) ∧ ∀ i m ys H', W i m ys H' → H' D = some (.lst ys) ∧
      ((J.stop i H' ∧ R H') ∨ (J.go i H' ∧ ∀ x H'', J.yld i H' x H'' → te (some x :: fv) H'' fun y H3 => H3 D = some (.lst ys) ∧ ys.length < sizeLine ∧ ∃ m', m' < m ∧ W (i + 1) m' (ys ++ [y]) (upd H3 D (.lst (ys ++ [y]))))) := by
  refine ⟨LcW n D Pv, ⟨n, rfl, Nat.zero_le _, Nat.zero_le _, upd_same, h0⟩, ?_⟩
  rintro i m ys H' ⟨rfl, hi, hl, hD, p⟩
  refine ⟨hD, ?_⟩
  by_cases hlt : i < n
  · exact .inr ⟨W.go i H' (hok _ _ _ p) hlt, fun x H'' y => hs i ys H' x H'' hlt hl hD p y⟩
  · have e : i = n := by omega
    subst e
    exact .inl ⟨W.stop i H' (hok _ _ _ p) (Nat.le_refl _), hd ys H' hD p⟩
theorem lci_by {J : It} {n : Nat} {Ok : Hp → Prop} {tc : TT} {te : TE} {fv : St} {H1 : Hp} {D : Addr} {R : Hp → Prop} (W : Wk J n Ok) (Pv : Nat → List V → Hp → Prop) (hok : ∀ i ys H, Pv i ys H → Ok H) (h0 : Pv 0 [] (upd H1 D (.lst [])))
    (hs : ∀ i ys H' x H'', i < n → ys.length ≤ i → H' D = some (.lst ys) → Pv i ys H' → J.yld i H' x H'' → tc (some x :: fv) H'' fun b H3 => if b = true then te (some x :: fv) H3 (LcPost n D Pv i ys) else LcSkip n D Pv i ys H3)
    (hd : ∀ ys H', H' D = some (.lst ys) → Pv n ys H' → R H') :
    ∃ W : Nat → Nat → List V → Hp → Prop, (∃ m, W 0 m [] (upd H1 D (.lst []))) ∧ ∀ i m ys H', W i m ys H' → H' D = some (.lst ys) ∧
      ((J.stop i H' ∧ R H') ∨ (J.go i H' ∧ ∀ x H'', J.yld i H' x H'' → tc (some x :: fv) H'' fun b H3 =>
        if b = true then te (some x :: fv) H3 fun y H4 => H4 D = some (.lst ys) ∧ ys.length < sizeLine ∧ ∃ m', m' < m ∧ W (i + 1) m' (ys ++ [y]) (upd H4 D (.lst (ys ++ [y])))
        else ∃ m', m' < m ∧ W (i + 1) m' ys H3)) := by
  refine ⟨LcW n D Pv, ⟨n, rfl, Nat.zero_le _, Nat.zero_le _, upd_same, h0⟩, ?_⟩
  rintro i m ys H' ⟨rfl, hi, hl, hD, p⟩
  refine ⟨hD, ?_⟩
  by_cases hlt : i < n
  · exact .inr ⟨W.go i H' (hok _ _ _ p) hlt, fun x H'' y => hs i ys H' x H'' hlt hl hD p y⟩
  · have e : i = n := by omega
    subst e
    exact .inl ⟨W.stop i H' (hok _ _ _ p) (Nat.le_refl _), hd ys H' hD p⟩
theorem for_by {J : It} {n : Nat} {Ok : Hp → Prop} {g : TG} {tb : TS} {D : Ends} {σ : St} {H : Hp} (W : Wk J n Ok) (Pv : Nat → St → Hp → Prop) (hok : ∀ i σ H, Pv i σ H → Ok H) (h0 : Pv 0 σ H)
    (hs : ∀ i σ H x H', i < n → Pv i σ H → J.yld i H x H' → g x σ H' fun σ2 H2 => tb { D with nx := Pv (i + 1), ct := Pv (i + 1), bk := D.nx } σ2 H2) (hd : ∀ σ H, Pv n σ H → D.nx σ H) :
    ∃ W : Nat → Nat → St → Hp → Prop, (∃ m, W 0 m σ H) ∧ ∀ i m σ H, W i m σ H →
      (J.stop i H ∧ D.nx σ H) ∨ (J.go i H ∧ ∃ N : St → Hp → Prop, (∀ σ' H', N σ' H' → ∃ m', m' < m ∧ W (i + 1) m' σ' H') ∧ ∀ x H', J.yld i H x H' → g x σ H' fun σ2 H2 => tb { D with nx := N, ct := N, bk := D.nx } σ2 H2) := by
  refine ⟨fun i m σ H => m = n - i ∧ i ≤ n ∧ Pv i σ H, ⟨n, by simp, Nat.zero_le _, h0⟩, ?_⟩
  rintro i m σ H ⟨rfl, hi, p⟩
  by_cases hlt : i < n
  · exact .inr ⟨W.go i H (hok _ _ _ p) hlt, Pv (i + 1), fun σ' H' p' => ⟨n - (i + 1), by omega, rfl, hlt, p'⟩, fun x H' y => hs i σ H x H' hlt p y⟩
  · have e : i = n := by omega
    subst e
    exact .inl ⟨W.stop i H (hok _ _ _ p) (Nat.le_refl _), hd σ H p⟩

/-! ### data that stand -/
theorem Has.int {K : PySem.W.Frag} {H : Hp} {i : Int} : Has K H (.int i) (.int i) := by simp only [Has]
theorem HasL.nil {K : PySem.W.Frag} {H : Hp} : HasL K H [] [] := by simp only [HasL]
theorem HasL.cons {K : PySem.W.Frag} {H : Hp} {d : Dt} {ds : List Dt} {v : V} {vs : List V} (h : Has K H d v) (r : HasL K H ds vs) : HasL K H (d :: ds) (v :: vs) := by
  simp only [HasL]
  exact ⟨v, vs, rfl, h, r⟩
theorem Has.tup' {K : PySem.W.Frag} {H : Hp} {ds : List Dt} {a : Addr} {xs : List V} (h : SqT K H a xs) (r : HasL K H ds xs) : Has K H (.tup ds) (.ref a) := by
  simp only [Has]
  exact ⟨a, xs, rfl, h, r⟩
theorem Has.lst' {K : PySem.W.Frag} {H : Hp} {ds : List Dt} {a : Addr} {xs : List V} (h : SqL K H a xs) (r : HasL K H ds xs) : Has K H (.lst ds) (.ref a) := by
  simp only [Has]
  exact ⟨a, xs, rfl, h, r⟩
theorem hasl_ints {K : PySem.W.Frag} {H : Hp} : ∀ {ns : List Int} {vs : List V}, HasL K H (ns.map Dt.int) vs → vs = ns.map V.int
  | [], vs, h => by simp only [List.map_nil, HasL] at h; rw [h]; rfl
  | n :: ns, vs, h => by
    simp only [List.map_cons, HasL] at h
    obtain ⟨v, r, rfl, h1, h2⟩ := h
    simp only [Has] at h1
    rw [h1, hasl_ints h2]
    rfl
/-- a tuple of two numbers -/
def dP (t : Int × Int) : Dt := .tup [.int t.1, .int t.2]
/-- len of a list or a tuple, where the context is a comprehension's -/
abbrev rLenS (K : PySem.W.Frag) : List V → Hp → VK → Prop := fun xs H Q => ∃ p ys, xs = [.ref p] ∧ (SqL K H p ys ∨ SqT K H p ys) ∧ Q (.int ys.length) H
end L2

/-! OWN: dict(list of pairs), below the layer. -/
namespace PySem
open Sem (wp)
namespace F
end F
section
variable {prog : Program} {w : World} {K : Type} [DecidableEq K] {knd : KeyKind prog w K} {A : Around}
def pairsTo (ks : Nat → K) (vals : Nat → Value) (n : Nat) : List (K × Value) := (List.range n).foldl (fun acc j => stored acc (ks j) (vals j)) []
end
end PySem

namespace L2
open PySem PySem.Spec PyProof.Rows

/-! ### lists of pairs as tables -/
section
variable {κ : Type} [DecidableEq κ]
def valV (kvs : List (κ × V)) (k : κ) : Option V := (kvs.find? fun kv => decide (kv.1 = k)).map (·.2)
/-- in its place, or at the end -/
def putK (kvs : List (κ × V)) (k : κ) (v : V) : List (κ × V) :=
  if (kvs.any fun kv => decide (kv.1 = k)) = true then kvs.map (fun kv => if kv.1 = k then (kv.1, v) else kv) else kvs ++ [(k, v)]
def dropK (kvs : List (κ × V)) (k : κ) : List (κ × V) := kvs.filter fun kv => decide (kv.1 ≠ k)

theorem valV_nil {k : κ} : valV ([] : List (κ × V)) k = none := rfl
theorem valV_pos {p : κ × V} {r : List (κ × V)} {k : κ} (e : p.1 = k) : valV (p :: r) k = some p.2 := by simp [valV, List.find?_cons, e]
theorem valV_neg {p : κ × V} {r : List (κ × V)} {k : κ} (e : ¬ p.1 = k) : valV (p :: r) k = valV r k := by simp [valV, List.find?_cons, e]
theorem valV_any (k : κ) : ∀ kvs : List (κ × V), (kvs.any fun kv => decide (kv.1 = k)) = (valV kvs k).isSome
  | [] => rfl
  | p :: r => by
    rw [List.any_cons]
    by_cases e : p.1 = k
    · simp only [valV_pos e, decide_eq_true e, Bool.true_or, Option.isSome_some]
    · rw [valV_neg e, decide_eq_false e, Bool.false_or]; exact valV_any k r
theorem valV_map (k j : κ) (y : V) : ∀ kvs : List (κ × V), valV (kvs.map fun kv => if kv.1 = k then (kv.1, y) else kv) j = (valV kvs j).map fun x => if j = k then y else x
  | [] => rfl
  | p :: r => by
    have ih := valV_map k j y r
    rw [List.map_cons]
    by_cases h : p.1 = k
    · rw [if_pos h]
      by_cases e : p.1 = j
      · rw [valV_pos (p := (p.1, y)) e, valV_pos e, Option.map_some, if_pos (e.symm.trans h)]
      · rw [valV_neg (p := (p.1, y)) e, valV_neg e, ih]
    · rw [if_neg h]
      by_cases e : p.1 = j
      · rw [valV_pos (p := p) e, valV_pos e, Option.map_some, if_neg (fun z => h (e.trans z))]
      · rw [valV_neg (p := p) e, valV_neg e, ih]
theorem valV_snoc (k j : κ) (y : V) : ∀ kvs : List (κ × V), valV kvs k = none → valV (kvs ++ [(k, y)]) j = if j = k then some y else valV kvs j
  | [], _ => by
    by_cases e : k = j
    · rw [if_pos e.symm]; exact valV_pos (p := (k, y)) e
    · rw [if_neg (fun z => e z.symm)]; exact valV_neg (p := (k, y)) e
  | p :: r, hn => by
    rw [List.cons_append]
    have hk : ¬ p.1 = k := fun z => by rw [valV_pos z] at hn; cases hn
    rw [valV_neg hk] at hn
    have ih := valV_snoc k j y r hn
    by_cases e : p.1 = j
    · rw [valV_pos e, valV_pos e, if_neg (fun z => hk (e.trans z))]
    · rw [valV_neg e, valV_neg e, ih]
theorem valV_put (kvs : List (κ × V)) (k j : κ) (y : V) : valV (putK kvs k y) j = if j = k then some y else valV kvs j := by
  unfold putK
  by_cases a : (kvs.any fun kv => decide (kv.1 = k)) = true
  · rw [if_pos a, valV_map]
    rw [valV_any] at a
    by_cases e : j = k
    · obtain ⟨x, hx⟩ := Option.isSome_iff_exists.mp a
      rw [if_pos e, e, hx, Option.map_some, if_pos rfl]
    · rw [if_neg e]
      cases valV kvs j with
      | none => rfl
      | some x => rw [Option.map_some, if_neg e]
  · rw [if_neg a]
    refine valV_snoc k j y kvs ?_
    rw [valV_any] at a
    cases q : valV kvs k with
    | none => rfl
    | some x => rw [q] at a; exact (a rfl).elim
theorem length_putK (kvs : List (κ × V)) (k : κ) (v : V) : (putK kvs k v).length ≤ kvs.length + 1 := by
  unfold putK
  split
  · rw [List.length_map]; omega
  · rw [List.length_append, List.length_cons, List.length_nil]; omega
theorem RelO.isSome_eq {o : Option V} {u : Option Value} (r : RelO o u) : o.isSome = u.isSome := by
  cases o with
  | none => cases u with
    | none => rfl
    | some _ => exact (show False from r).elim
  | some _ => cases u with
    | none => exact (show False from r).elim
    | some _ => rfl
theorem RelO.getD {o : Option V} {u : Option Value} {d : V} {d' : Value} (r : RelO o u) (rd : RelV d d') : RelV (o.getD d) (u.getD d') := by
  cases o with
  | none => cases u with
    | none => exact rd
    | some _ => exact (show False from r).elim
  | some _ => cases u with
    | none => exact (show False from r).elim
    | some _ => exact r

/-- raw tables of the same keys -/
theorem KV.val {kvs : List (κ × V)} {vs : List (κ × Value)} (r : KV kvs vs) (k : κ) : RelO (valV kvs k) (valueAt vs k) := by
  unfold KV at r
  induction r with
  | nil => exact True.intro
  | @cons p q ps qs h t ih =>
    obtain ⟨h1, h2⟩ := h
    by_cases e : p.1 = k
    · have e' : q.1 = k := h1.symm.trans e
      have b : valueAt (q :: qs) k = some q.2 := by simp [valueAt, List.find?_cons, e']
      rw [valV_pos e, b]; exact h2
    · have e' : ¬ q.1 = k := fun z => e (h1.trans z)
      have b : valueAt (q :: qs) k = valueAt qs k := by simp [valueAt, List.find?_cons, e']
      rw [valV_neg e, b]; exact ih
theorem KV.any {kvs : List (κ × V)} {vs : List (κ × Value)} (r : KV kvs vs) (k : κ) : (kvs.any fun kv => decide (kv.1 = k)) = vs.any fun kv => decide (kv.1 = k) := by
  unfold KV at r
  induction r with
  | nil => rfl
  | cons h t ih => rw [List.any_cons, List.any_cons, ih, h.1]
theorem KV.repl {kvs : List (κ × V)} {vs : List (κ × Value)} (r : KV kvs vs) (k : κ) {y : V} {u : Value} (ry : RelV y u) :
    KV (kvs.map fun kv => if kv.1 = k then (kv.1, y) else kv) (vs.map fun kv => if kv.1 = k then (kv.1, u) else kv) := by
  unfold KV at r ⊢
  induction r with
  | nil => exact .nil
  | @cons p q ps qs h t ih =>
    rw [List.map_cons, List.map_cons]
    refine .cons ?_ ih
    obtain ⟨h1, h2⟩ := h
    by_cases e : p.1 = k
    · rw [if_pos e, if_pos (h1.symm.trans e)]; exact ⟨h1, ry⟩
    · rw [if_neg e, if_neg (fun z => e (h1.trans z))]; exact ⟨h1, h2⟩
theorem KV.put {kvs : List (κ × V)} {vs : List (κ × Value)} (r : KV kvs vs) (k : κ) {y : V} {u : Value} (ry : RelV y u) : KV (putK kvs k y) (stored vs k u) := by
  unfold putK stored
  rw [r.any k]
  by_cases e : (vs.any fun kv => decide (kv.1 = k)) = true
  · rw [if_pos e, if_pos e]; exact r.repl k ry
  · rw [if_neg e, if_neg e]; exact Paired.snoc r ⟨rfl, ry⟩
theorem KV.drop {kvs : List (κ × V)} {vs : List (κ × Value)} (r : KV kvs vs) (k : κ) : KV (dropK kvs k) (without vs k) := by
  unfold KV at r ⊢
  unfold dropK without
  induction r with
  | nil => exact .nil
  | @cons p q ps qs h t ih =>
    obtain ⟨h1, h2⟩ := h
    rw [List.filter_cons, List.filter_cons]
    by_cases e : p.1 = k
    · have a : ¬ decide (p.1 ≠ k) = true := by simp [e]
      have b : ¬ decide (q.1 ≠ k) = true := by simp [h1.symm.trans e]
      rw [if_neg a, if_neg b]; exact ih
    · have e' : ¬ q.1 = k := fun z => e (h1.trans z)
      have a : decide (p.1 ≠ k) = true := by simp [e]
      have b : decide (q.1 ≠ k) = true := by simp [e']
      rw [if_pos a, if_pos b]; exact .cons ⟨h1, h2⟩ ih
theorem KV.keys {kvs : List (κ × V)} {vs : List (κ × Value)} (r : KV kvs vs) : kvs.map (·.1) = vs.map (·.1) := by
  unfold KV at r
  induction r with
  | nil => rfl
  | cons h t ih => rw [List.map_cons, List.map_cons, ih, h.1]
theorem KV.length {kvs : List (κ × V)} {vs : List (κ × Value)} (r : KV kvs vs) : kvs.length = vs.length := Paired.length r
end


/-! ### a tracked dict, its keys ints and texts or tuples of these -/
theorem kV_is {P : Program} {w : World} {k : Key} {u : Value} (r : RelV (kV k) u) : (mixKind P w).is k u = true := by
  cases k with
  | inl i => obtain ⟨t, e⟩ := (show ∃ t, u = Value.int i t from r); subst e; exact mixKind_int P w i t
  | inr x => obtain ⟨t, e⟩ := (show ∃ t, u = Value.str x t from r); subst e; exact mixKind_str P w x t
theorem items_are {P : Program} {w : World} : ∀ {ks : List Key} {us : List Value}, Vals (ks.map kV) us → ItemsAre (mixKind P w) ks us
  | [], _, r => by rw [List.map_nil] at r; cases r; exact .nil
  | k :: ks, _, r => by
    rw [List.map_cons] at r
    cases r with
    | cons h t => exact .cons (kV_is h) (items_are t)

/-- raw entries of a dict with tuple keys -/
abbrev KT (H : Hp) : List (List Key × V) → List (List Key × Addr × Value) → Prop := Paired fun p q => p.1 = q.1 ∧ H q.2.1 = some (.tup (p.1.map kV)) ∧ RelV p.2 q.2.2
theorem KT.val {H : Hp} {kvs : List (List Key × V)} {xs : List (List Key × Addr × Value)} (r : KT H kvs xs) (k : List Key) : RelO (valV kvs k) ((atKey xs k).map (·.2)) := by
  induction r with
  | nil => exact True.intro
  | @cons p q ps qs h t ih =>
    obtain ⟨h1, _, h2⟩ := h
    by_cases e : p.1 = k
    · have e' : q.1 = k := h1.symm.trans e
      have b : atKey (q :: qs) k = some q.2 := by simp [atKey, List.find?_cons, e']
      rw [valV_pos e, b]; exact h2
    · have e' : ¬ q.1 = k := fun z => e (h1.trans z)
      have b : atKey (q :: qs) k = atKey qs k := by simp [atKey, List.find?_cons, e']
      rw [valV_neg e, b]; exact ih
theorem KT.repl {H : Hp} {kvs : List (List Key × V)} {xs : List (List Key × Addr × Value)} (r : KT H kvs xs) (k : List Key) {y : V} {u : Value} (ry : RelV y u) :
    KT H (kvs.map fun kv => if kv.1 = k then (kv.1, y) else kv) (xs.map (putAt k u)) := by
  induction r with
  | nil => exact .nil
  | @cons p q ps qs h t ih =>
    rw [List.map_cons, List.map_cons]
    refine .cons ?_ ih
    obtain ⟨h1, h2, h3⟩ := h
    unfold putAt
    by_cases e : p.1 = k
    · rw [if_pos e, if_pos (h1.symm.trans e)]; exact ⟨h1, h2, ry⟩
    · rw [if_neg e, if_neg (fun z => e (h1.trans z))]; exact ⟨h1, h2, h3⟩
theorem KT.put {H : Hp} {kvs : List (List Key × V)} {xs : List (List Key × Addr × Value)} (r : KT H kvs xs) (k : List Key) {b : Addr} {y : V} {u : Value} (hb : H b = some (.tup (k.map kV))) (ry : RelV y u) :
    KT H (putK kvs k y) (storedH xs k b u) := by
  have e : (kvs.any fun kv => decide (kv.1 = k)) = (atKey xs k).isSome := by
    rw [valV_any, (r.val k).isSome_eq, Option.isSome_map]
  unfold putK storedH
  rw [e]
  by_cases q : (atKey xs k).isSome = true
  · rw [if_pos q, if_pos q]; exact r.repl k ry
  · rw [if_neg q, if_neg q]; exact Paired.snoc r ⟨rfl, hb, ry⟩
theorem KT.keeps {H H' : Hp} {kvs : List (List Key × V)} {xs : List (List Key × Addr × Value)} (r : KT H kvs xs) (ht : ∀ b ys, H b = some (.tup ys) → H' b = some (.tup ys)) : KT H' kvs xs :=
  Paired.mapP r fun _ _ z => ⟨z.1, ht _ _ z.2.1, z.2.2⟩

section
variable {P : Program} {w : World} {H : Hp} {h : Heap} {a : Addr}
theorem rd_of {u : HO} (ok : HOk P w H h) (e : Rd H a u) : ObjOk P w H h a u := e.ok ok
theorem dk_rd {kvs : List (Key × V)} (ok : HOk P w H h) (e : Rd H a (.dK kvs)) : kvs.length ≤ sizeLine ∧ (a == sysModules) = false ∧ ∃ vs, KV kvs vs ∧ h.DictOf (mixKind P w) a vs :=
  show ObjOk P w H h a (.dK kvs) from rd_of ok e
theorem dk_of {kvs : List (Key × V)} (ok : HOk P w H h) (e : H a = some (.dK kvs)) : kvs.length ≤ sizeLine ∧ (a == sysModules) = false ∧ ∃ vs, KV kvs vs ∧ h.DictOf (mixKind P w) a vs := dk_rd ok (.inl e)
/-- a tracked tuple of ints and texts is a key -/
theorem key_of {ks : List Key} (ok : HOk P w H h) (e : H a = some (.tup (ks.map kV))) : (tupleKind (mixKind P w)).is h ks a := by
  obtain ⟨_, its, r, o, h1, h2, n, h3⟩ := (show ObjOk P w H h a (.tup (ks.map kV)) from ok a _ e)
  exact ⟨o, its.toArray, n, h1, h2, h3, by simpa using items_are r⟩
theorem dt_rd {kvs : List (List Key × V)} (ok : HOk P w H h) (e : Rd H a (.dT kvs)) : kvs.length ≤ sizeLine ∧ (a == sysModules) = false ∧
    ∃ xs, KT H kvs xs ∧ h.DictOfH (tupleKind (mixKind P w)) a xs := by
  obtain ⟨z, y, xs, r, o, es, ep, h1, h2, h3, h4, h5⟩ := (show ObjOk P w H h a (.dT kvs) from rd_of ok e)
  refine ⟨z, y, xs, r, o, es, ep, h1, h2, h3, h4, fun x hx => ?_, h5⟩
  have all : ∀ {l : List (List Key × V)} {m : List (List Key × Addr × Value)}, KT H l m → ∀ x ∈ m, (tupleKind (mixKind P w)).is h x.1 x.2.1 := by
    intro l m q
    induction q with
    | nil => intro x hx; exact nomatch hx
    | @cons p q ps qs hq t ih =>
      intro x hx
      rcases List.mem_cons.mp hx with e | hx
      · subst e
        exact key_of ok (by rw [← hq.1]; exact hq.2.1)
      · exact ih x hx
  exact all r x hx
theorem dt_of {kvs : List (List Key × V)} (ok : HOk P w H h) (e : H a = some (.dT kvs)) : kvs.length ≤ sizeLine ∧ (a == sysModules) = false ∧
    ∃ xs, KT H kvs xs ∧ h.DictOfH (tupleKind (mixKind P w)) a xs := dt_rd ok (.inl e)
end

/-- what the dict at a holds at the key y -/
def DGet (H : Hp) (a : Addr) (y : V) (r : Option V) : Prop :=
  (∃ kvs k, Rd H a (.dK kvs) ∧ y = kV k ∧ r = valV kvs k) ∨ ∃ kvs k b, Rd H a (.dT kvs) ∧ y = .ref b ∧ H b = some (.tup (k.map kV)) ∧ r = valV kvs k
/-- the heap behind a[y] = v -/
def DPut (H : Hp) (a : Addr) (y v : V) (H' : Hp) : Prop :=
  (∃ kvs k, H a = some (.dK kvs) ∧ y = kV k ∧ kvs.length < sizeLine ∧ H' = upd H a (.dK (putK kvs k v))) ∨
  ∃ kvs k b, H a = some (.dT kvs) ∧ y = .ref b ∧ H b = some (.tup (k.map kV)) ∧ kvs.length < sizeLine ∧ H' = upd H a (.dT (putK kvs k v))
theorem DGet.k {H : Hp} {a : Addr} {kvs : List (Key × V)} {k : Key} (e : H a = some (.dK kvs)) : DGet H a (kV k) (valV kvs k) := .inl ⟨kvs, k, .inl e, rfl, rfl⟩
theorem DGet.t {H : Hp} {a b : Addr} {kvs : List (List Key × V)} {k : List Key} (e : H a = some (.dT kvs)) (eb : H b = some (.tup (k.map kV))) : DGet H a (.ref b) (valV kvs k) := .inr ⟨kvs, k, b, .inl e, rfl, eb, rfl⟩
theorem DPut.k {H : Hp} {a : Addr} {kvs : List (Key × V)} {k : Key} {v : V} (e : H a = some (.dK kvs)) (hl : kvs.length < sizeLine) : DPut H a (kV k) v (upd H a (.dK (putK kvs k v))) := .inl ⟨kvs, k, e, rfl, hl, rfl⟩
theorem DPut.t {H : Hp} {a b : Addr} {kvs : List (List Key × V)} {k : List Key} {v : V} (e : H a = some (.dT kvs)) (eb : H b = some (.tup (k.map kV))) (hl : kvs.length < sizeLine) :
    DPut H a (.ref b) v (upd H a (.dT (putK kvs k v))) := .inr ⟨kvs, k, b, e, rfl, eb, hl, rfl⟩


section
variable {X : Cx} {pins : List (Addr × Obj)} {σ : St} {H : Hp} {s : Shared} {a : Addr} {y v : V} {u r : Value} {o : Option V} {A : Around} {E : Value → Shared → Prop}

theorem Inv.big (I : Inv X pins σ H s) : sysModules < s.heap.objs.size := by
  have h : mainGlobals < s.heap.objs.size := (I.mod.glob.keeps I.bk).lt
  exact Nat.lt_trans (by decide) h

/-- d[y], there -/
theorem d_getItem {Q : Value → Shared → Prop} (hu : A.units + 1 < cLine) (I : Inv X pins σ H s) (g : DGet H a y (some v)) (ry : RelV y u) (h : ∀ w' s', Inv X pins σ H s' → RelV v w' → Q w' s') :
    wpAny (model X.prog X.w) A (getItem (.ref a) u) Q E s := by
  rcases g with ⟨kvs, k, e, ey, l⟩ | ⟨kvs, k, b, e, ey, eb, l⟩
  · subst ey
    obtain ⟨z, hd, vs, rel, dd⟩ := dk_rd I.hok e
    obtain ⟨w', hw, rw'⟩ := RelO.some_of (v := v) (o := valueAt vs k) (by rw [l]; exact rel.val k)
    exact wpAny_getItem_of (kV_is ry) dd.mapOf hw (h w' _ (I.tok _) rw')
  · subst ey
    cases (show u = Value.ref b from ry)
    obtain ⟨z, hd, xs, rel, dd⟩ := dt_rd I.hok e
    obtain ⟨w', hw, rw'⟩ := RelO.some_of (v := v) (o := (atKey xs k).map (·.2)) (by rw [l]; exact rel.val k)
    obtain ⟨p, hp, hp2⟩ := Option.map_eq_some_iff.mp hw
    refine wpAny_getItem_heap (tupleKind_room_in1 hu) (key_of I.hok eb) dd hp ?_
    rw [hp2]
    exact h w' _ (I.tok _) rw'
/-- a dict's object is replaced -/
theorem d_write {h' : Heap} {t' : Nat} {ob : HO} (I : Inv X pins σ H s) (mu : Mut (H a)) (hs : Heap.SameBut a s.heap h') (he : ∃ q, h'.get? a = some q) (new : ObjOk X.prog X.w (upd H a ob) h' a ob) :
    Inv X pins σ (upd H a ob) { s with heap := h', toks := t' } :=
  I.write (x := a) (e := a) mu (.inl rfl) (fun b q hb z => (hs.2 b hb).trans z) he new
theorem dk_new {P : Program} {w : World} {H' : Hp} {h' : Heap} {kvs : List (Key × V)} {vs : List (Key × Value)} (z : kvs.length ≤ sizeLine) (hd : (a == sysModules) = false) (rel : KV kvs vs) (dd : h'.DictOf (mixKind P w) a vs) :
    ObjOk P w H' h' a (.dK kvs) := ⟨z, hd, vs, rel, dd⟩
/-- d[y] = v -/
theorem d_setItem {H' : Hp} {Q : Unit → Shared → Prop} (hu : A.units + 1 < cLine) (I : Inv X pins σ H s) (g : DPut H a y v H') (ry : RelV y u) (rv : RelV v r) (h : ∀ s', Inv X pins σ H' s' → Q () s') :
    wpAny (model X.prog X.w) A (setItem (.ref a) u r) Q E s := by
  rcases g with ⟨kvs, k, e, ey, l, eH⟩ | ⟨kvs, k, b, e, ey, eb, l, eH⟩
  · subst ey eH
    obtain ⟨z, hd, vs, rel, dd⟩ := dk_of I.hok e
    have hz : vs.length ≤ sizeLine := by rw [← rel.length]; exact z
    have hl : (putK kvs k v).length ≤ sizeLine := by have := length_putK kvs k v; omega
    refine wpAny_setItem_pairs (hsz := hz) (kV_is ry) dd fun h' dd' hs => h _ ?_
    have he : ∃ q, h'.get? a = some q := let ⟨q, _, _, hq, _⟩ := dd'; ⟨q, hq⟩
    exact d_write I (by rw [e]; exact True.intro) hs he (dk_new hl hd (rel.put k rv) dd')
  · subst ey eH
    cases (show u = Value.ref b from ry)
    obtain ⟨z, hd, xs, rel, dd⟩ := dt_of I.hok e
    have hz : xs.length ≤ sizeLine := by rw [← Paired.length rel]; exact z
    have hl : (putK kvs k v).length ≤ sizeLine := by have := length_putK kvs k v; omega
    refine wpAny_setItem_heap (hsz := hz) (tupleKind_room_in1 hu) (key_of I.hok eb) dd fun h' dd' hs => h _ ?_
    obtain ⟨q, es, ep, hq, h2, h3, h4, _, h5⟩ := dd'
    refine d_write I (by rw [e]; exact True.intro) hs ⟨q, hq⟩ ⟨hl, hd, _, (rel.put k eb rv).keeps fun c ys ec => ?_, q, es, ep, hq, h2, h3, h4, h5⟩
    rw [upd_ne (ne_of ec e (fun z => nomatch z))]
    exact ec
end

section
variable {X : Cx} {pins : List (Addr × Obj)} {σ : St} {H : Hp} {s : Shared} {a : Addr} {kvs : List (Key × V)} {k : Key} {u : Value} {A : Around} {E : Value → Shared → Prop}
end


/-! ### readings and rules -/
/-- the element of a subscription, not a slice -/
def NoSl (i : Expr) : Prop := ∀ ov iv, subscripted i false ov iv = operate [ov, iv] (getItem ov iv)
theorem subD_of {prog : Program} {w : World} {A : Around} {E : Value → Shared → Prop} {s : Shared} {env : Env} {value slice : Expr} {pos : Pos} {T id : String} {Q : Value → Shared → Prop}
    (hl : typeLookup (.type T) "__getitem__" = pure (some (.builtin id))) (hs : NoSl slice)
    (h : wpAny (model prog w) A (eval value env) (fun o s₁ => wpAny (model prog w) A (eval slice env) (fun i s₂ => s₂.TypeIs o T ∧ wpAny (model prog w) A (getItem o i) Q E s₂) E s₁) E s) :
    wpAny (model prog w) A (eval (.Subscript value slice pos) env) Q E s := by
  refine Subscript_ (wpAny_mono h (fun o s₁ h₁ => wpAny_mono h₁ (fun i s₂ h₂ => ?_) fun _ _ x => x) fun _ _ x => x)
  obtain ⟨hT, h₂⟩ := h₂
  unfold subscriptTail
  refine wpAny_bind ?_
  rw [getitemInPython_of_ne hT.not_modules]
  refine wpAny_bind (wpAny_specialOf hT hl ?_)
  have fin : wpAny (model prog w) A (subscripted slice false o i) (fun r s₃ => wpAny (model prog w) A (letTemporaryGo value o r >>= fun _ => pure r) Q E s₃) E s₂ := by
    rw [hs o i]
    exact wpAny_operating (wpAny_mono h₂ (fun r s₃ h₃ => wpAny_bind (wpAny_letTemporaryGo (wpAny_pure h₃))) fun _ _ x => x)
  first
    | exact wpAny_pure (wpAny_bind fin)
    | exact wpAny_bind (wpAny_pure (wpAny_bind fin))
    | exact wpAny_bind fin

theorem dict_typeIs {X : Cx} {pins : List (Addr × Obj)} {σ : St} {H : Hp} {s : Shared} {a : Addr} {y : V} {o : Option V} (I : Inv X pins σ H s) (g : DGet H a y o) : s.TypeIs (.ref a) "dict" := by
  rcases g with ⟨kvs, k, e, _, _⟩ | ⟨kvs, k, b, e, _, _, _⟩
  · obtain ⟨_, _, vs, _, dd⟩ := dk_rd I.hok e
    exact dd.typeIs
  · obtain ⟨_, _, xs, _, dd⟩ := dt_rd I.hok e
    exact dd.typeIs
/-- d[y] -/
def tDGet (td ty : TE) : TE := fun σ H Q => td σ H fun x H1 => ty σ H1 fun y H2 => ∃ a v, x = .ref a ∧ DGet H2 a y (some v) ∧ Q v H2
/-- y in d, y not in d -/
def tDIn (ty td : TE) : TE := fun σ H Q => ty σ H fun y H1 => td σ H1 fun x H2 => ∃ a o, x = .ref a ∧ DGet H2 a y o ∧ Q (.bl o.isSome) H2
def tDNotIn (ty td : TE) : TE := fun σ H Q => ty σ H fun y H1 => td σ H1 fun x H2 => ∃ a o, x = .ref a ∧ DGet H2 a y o ∧ Q (.bl (!o.isSome)) H2
/-- d[y] = v -/
def sDPut (td ty tv : TE) : TS := fun D σ H => tv σ H fun v H1 => td σ H1 fun x H2 => ty σ H2 fun y H3 => ∃ a H4, x = .ref a ∧ DPut H3 a y v H4 ∧ D.nx σ H4
/-- d[y] op= v -/
def sDAug (td ty tv : TE) (rd : V → V → Hp → VK → Prop) : TS := fun D σ H => td σ H fun x H1 => ty σ H1 fun y H2 => ∃ a v, x = .ref a ∧ DGet H2 a y (some v) ∧
  tv σ H2 fun y2 H3 => rd v y2 H3 fun z H4 => ∃ H5, DPut H4 a y z H5 ∧ D.nx σ H5
/-- del d[y] -/
def sDDel (td ty : TE) : TS := fun D σ H => td σ H fun x H1 => ty σ H1 fun y H2 => ∃ a kvs k, x = .ref a ∧ H2 a = some (.dK kvs) ∧ y = kV k ∧ (valV kvs k).isSome = true ∧ D.nx σ (upd H2 a (.dK (dropK kvs k)))

section
variable {X : Cx} {o i e value : Expr} {pos pos' tpos : Pos} {td ty tv : TE}
theorem pe_dget (hu : X.A.units + 1 < cLine) (ho : PE X o td) (hi : PE X i ty) (hs : NoSl i) : PE X (.Subscript o i pos) (tDGet td ty) := by
  intro pins s σ H Q I h
  refine subD_of PySem.F.slot_dict_getitem.lookup hs (thn (ho pins s σ H _ I h) fun u s1 ⟨x, H1, I1, rx, q1⟩ => thn (hi pins s1 σ H1 _ I1 q1) fun iv s2 ⟨y, H2, I2, ry, a, v, ex, g, q2⟩ => ?_)
  subst ex
  obtain rfl : u = Value.ref a := rx
  exact ⟨dict_typeIs I2 g, d_getItem hu I2 g ry fun w' s3 I3 rw' => ⟨v, H2, I3, rw', q2⟩⟩
theorem ps_dput (hu : X.A.units + 1 < cLine) (ho : PE X o td) (hi : PE X i ty) (hv : PE X value tv) (hs : swapsWith value (some (.Subscript o i pos')) pos.line X.env = pure false) :
    PS X (.Assign [.Subscript o i pos'] value pos) (sDPut td ty tv) := by
  intro pins s σ H D I h
  refine wpAny_Assign_Subscript (thn (hv pins s σ H _ I h) fun r s1 ⟨v, H1, I1, rv, q1⟩ => thn (ho pins s1 σ H1 _ I1 q1) fun u s2 ⟨x, H2, I2, rx, q2⟩ => thn (hi pins s2 σ H2 _ I2 q2) fun iv s3 ⟨y, H3, I3, ry, a, H4, ex, g, q3⟩ => ?_) hs
  subst ex
  obtain rfl : u = Value.ref a := rx
  exact d_setItem hu I3 g ry rv fun s4 I4 => ⟨σ, H4, I4, q3⟩
end


/-! ### displays -/
theorem dk_empty {P : Program} {w : World} {H : Hp} (h : Heap) (hb : sysModules < h.objs.size) : ObjOk P w H (h.push { cls := .type "dict", data := .dict #[] }) h.objs.size (.dK []) :=
  ⟨Nat.zero_le _, beq_eq_false_iff_ne.mpr (Ne.symm (Nat.ne_of_lt hb)), [], .nil, Heap.DictOf.new h⟩
/-- {}, to be a dict of the kind that is wanted -/
def tDNewK : TE := fun _ H Q => ∀ p, H p = none → Q (.ref p) (upd H p (.dK []))
def tDNewT : TE := fun _ H Q => ∀ p, H p = none → Q (.ref p) (upd H p (.dT []))
section
variable {X : Cx} {pos : Pos}
theorem pe_dnewK : PE X (.Dict [] [] pos) tDNewK := fun pins s σ H Q I h =>
  wpAny_Dict_empty ⟨.ref s.heap.objs.size, _, I.laid (a := s.heap.objs.size) (o := .dK []) (t' := s.toks) (fun _ _ q => Heap.get?_push_of_some _ q) (Nat.le_refl _) (dk_empty s.heap I.big), rfl, h _ (I.hok.fresh (Nat.le_refl _))⟩
end

/-- the pairs of a display, from the left -/
def tPairs : List (TE × TE) → St → Hp → (List (V × V) → Hp → Prop) → Prop
  | [], _, H, Q => Q [] H
  | (tk, tv) :: r, σ, H, Q => tk σ H fun x H1 => tv σ H1 fun y H2 => tPairs r σ H2 fun ps H3 => Q ((x, y) :: ps) H3
abbrev VV : List (V × V) → List (Value × Value) → Prop := Paired fun p q => RelV p.1 q.1 ∧ RelV p.2 q.2
def PPs (X : Cx) (pos : Pos) (keys : List (Option Expr)) (values : List Expr) (trs : List (TE × TE)) : Prop :=
  ∀ (pins : List (Addr × Obj)) (s : Shared) (σ : St) (H : Hp) (Q : List (V × V) → Hp → Prop), Inv X pins σ H s → tPairs trs σ H Q →
    wpAny (model X.prog X.w) X.A (evalPairs (pairTrees keys values X.env pos)) (fun vs s' => ∃ ps H', Inv X pins σ H' s' ∧ VV ps vs ∧ Q ps H') X.xe s
def mergeK (kvs more : List (Key × V)) : List (Key × V) := more.foldl (fun acc kv => putK acc kv.1 kv.2) kvs
theorem KV.merge : ∀ {more : List (Key × V)} {rs : List (Key × Value)} {kvs : List (Key × V)} {vs : List (Key × Value)}, KV more rs → KV kvs vs → KV (mergeK kvs more) (merged vs rs) := by
  intro more rs kvs vs r
  unfold KV at r
  induction r generalizing kvs vs with
  | nil => intro q; exact q
  | @cons p q ps qs h t ih =>
    intro r0
    have e : KV (putK kvs p.1 p.2) (stored vs q.1 q.2) := by
      have := r0.put p.1 h.2
      rw [← h.1]; exact this
    exact ih e
/-- {k: v, ..} with keys ints and texts; the new dict stands empty while the pairs are made -/
def tDisp (trs : List (TE × TE)) : TE := fun σ H Q => ∀ p, H p = none → tPairs trs σ (upd H p (.dK [])) fun ps H2 => H2 p = some (.dK []) ∧ ∃ kvs : List (Key × V), ps = kvs.map (fun kv => (kV kv.1, kv.2)) ∧ kvs.length ≤ 15 ∧ Q (.ref p) (upd H2 p (.dK (mergeK [] kvs)))
/-! ### methods -/
/-- a method call o.m(e) of a built-in, with one argument: what must be seen of the text -/
structure M1 (X : Cx) (o : Expr) (m : Str) (apos : Pos) (e : Expr) (cpos : Pos) : Prop where
  base : attributeBase o m X.env (eval o X.env) = eval o X.env
  few : ((backTo cpos (starEach [e] X.env)).all (fun x => !x.1) && (backToKw cpos (keywordEach [] X.env)).all (fun x => x.1.isSome)
    && decide (([e] : List Expr).length + ([] : List Keyword).length + (if ([] : List Keyword).isEmpty then 0 else 1) < 30)) = true
  line : (apos.endLine == cpos.line) = true
  trees : backTo cpos (starEach [e] X.env) = [(false, eval e X.env)]
structure M2 (X : Cx) (o : Expr) (m : Str) (apos : Pos) (e f : Expr) (cpos : Pos) : Prop where
  base : attributeBase o m X.env (eval o X.env) = eval o X.env
  few : ((backTo cpos (starEach [e, f] X.env)).all (fun x => !x.1) && (backToKw cpos (keywordEach [] X.env)).all (fun x => x.1.isSome)
    && decide (([e, f] : List Expr).length + ([] : List Keyword).length + (if ([] : List Keyword).isEmpty then 0 else 1) < 30)) = true
  line : (apos.endLine == cpos.line) = true
  trees : backTo cpos (starEach [e, f] X.env) = [(false, eval e X.env), (false, eval f X.env)]

/-- a is a dict, whatever its keys -/
def IsD (H : Hp) (a : Addr) : Prop := (∃ kvs, Rd H a (.dK kvs)) ∨ ∃ kvs, Rd H a (.dT kvs)
theorem isD_at {X : Cx} {pins : List (Addr × Obj)} {σ : St} {H : Hp} {s : Shared} {a : Addr} (I : Inv X pins σ H s) (d : IsD H a) :
    s.TypeIs (.ref a) "dict" ∧ (∀ b, Value.ref a = .ref b → ∃ ob, s.heap.get? b = some ob ∧ ob.dict = none) ∧ (a == sysModules) = false := by
  rcases d with ⟨kvs, e⟩ | ⟨kvs, e⟩
  · obtain ⟨_, hd, vs, _, dd⟩ := dk_rd I.hok e
    refine ⟨dd.typeIs, fun b q => ?_, hd⟩
    cases q
    obtain ⟨ob, _, _, h1, h2, _⟩ := dd
    exact ⟨ob, h1, h2.2.1⟩
  · obtain ⟨_, hd, xs, _, dd⟩ := dt_rd I.hok e
    refine ⟨dd.typeIs, fun b q => ?_, hd⟩
    cases q
    obtain ⟨ob, _, _, h1, h2, _⟩ := dd
    exact ⟨ob, h1, h2.2.1⟩

section
variable {X : Cx} {pins : List (Addr × Obj)} {σ : St} {H : Hp} {s : Shared} {a : Addr} {y d : V} {u r : Value} {o : Option V} {A : Around} {E : Value → Shared → Prop}
/-- d.get(y, x) -/
theorem d_get2 {Q : Value → Shared → Prop} (hu : A.units + 1 < cLine) (I : Inv X pins σ H s) (g : DGet H a y o) (ry : RelV y u) (rd : RelV d r) (h : ∀ w' s', Inv X pins σ H s' → RelV (o.getD d) w' → Q w' s') :
    wpAny (model X.prog X.w) A (call (.builtin "dict.get") [.ref a, u, r]) Q E s := by
  rcases g with ⟨kvs, k, e, ey, l⟩ | ⟨kvs, k, b, e, ey, eb, l⟩
  · subst ey
    obtain ⟨z, hd, vs, rel, dd⟩ := dk_rd I.hok e
    refine call_meetsIn PySem.F.slot_dict_get dd.typeIs PySem.F.entry_dict_get (PySem.F.args_dict_get_3 _ _ _) (meets_dict_get_default (mixKind X.prog X.w) a (kV_is ry) hd r) ⟨_, dd.mapOf, h _ _ (I.tok _) ?_⟩
    rw [l]
    exact (rel.val k).getD rd
  · subst ey
    cases (show u = Value.ref b from ry)
    obtain ⟨z, hd, xs, rel, dd⟩ := dt_rd I.hok e
    refine call_meetsIn PySem.F.slot_dict_get dd.typeIs PySem.F.entry_dict_get (PySem.F.args_dict_get_3 _ _ _) (meetsH_dict_get_default (tupleKind (mixKind X.prog X.w)) a b hd r) ⟨tupleKind_room_in1 hu, k, xs, key_of I.hok eb, dd, h _ _ (I.tok _) ?_⟩
    rw [l]
    exact (rel.val k).getD rd
end

def tDGet1 (td ty : TE) : TE := fun σ H Q => td σ H fun x H1 => ∃ a, x = .ref a ∧ IsD H1 a ∧ ty σ H1 fun y H2 => ∃ o, DGet H2 a y o ∧ Q (o.getD .non) H2
def tDGet2 (td ty tx : TE) : TE := fun σ H Q => td σ H fun x H1 => ∃ a, x = .ref a ∧ IsD H1 a ∧ ty σ H1 fun y H2 => tx σ H2 fun z H3 => ∃ o, DGet H3 a y o ∧ Q (o.getD z) H3
/-- d.pop(k): there; d.pop(k, x): there or not -/
def tDPop1 (td ty : TE) : TE := fun σ H Q => td σ H fun x H1 => ∃ a, x = .ref a ∧ IsD H1 a ∧ ty σ H1 fun y H2 => ∃ kvs k v, H2 a = some (.dK kvs) ∧ y = kV k ∧ valV kvs k = some v ∧ Q v (upd H2 a (.dK (dropK kvs k)))
def tDPop2 (td ty tx : TE) : TE := fun σ H Q => td σ H fun x H1 => ∃ a, x = .ref a ∧ IsD H1 a ∧ ty σ H1 fun y H2 => tx σ H2 fun z H3 => ∃ kvs k, H3 a = some (.dK kvs) ∧ y = kV k ∧
  (∀ v, valV kvs k = some v → Q v (upd H3 a (.dK (dropK kvs k)))) ∧ (valV kvs k = none → Q z H3)
section
variable {X : Cx} {o e f : Expr} {apos cpos : Pos} {td ty tx : TE}
theorem pe_dget2 (hu : X.A.units + 1 < cLine) (ho : PE X o td) (he : PE X e ty) (hf : PE X f tx) (m : M2 X o "get" apos e f cpos) : PE X (.Call (.Attribute o "get" apos) [e, f] [] cpos) (tDGet2 td ty tx) := by
  intro pins s σ H Q I h
  refine wpAny_Call_method m.base m.few m.line PySem.F.plainAttrs_dict PySem.F.slot_dict_get PySem.F.type_dict_get (thn (ho pins s σ H _ I h) fun u s1 ⟨x, H1, I1, rx, a, ex, d, q1⟩ => ?_)
  subst ex
  obtain rfl : u = Value.ref a := rx
  obtain ⟨t1, t2, _⟩ := isD_at I1 d
  refine ⟨t1, t2, ?_⟩
  rw [m.trees]
  refine Calls.callWith_builtin rfl (Calls.evalArgs_plain (Calls.spliced_cons (thn (he pins s1 σ H1 _ I1 q1) fun iv s2 ⟨y, H2, I2, ry, q2⟩ =>
    Calls.spliced_cons (thn (hf pins s2 σ H2 _ I2 q2) fun fv s3 ⟨z, H3, I3, rz, ov, g, q3⟩ => Calls.spliced_nil ?_))))
  exact d_get2 hu I3 g ry rz fun w' s4 I4 rw' => ⟨_, H3, I4, rw', q3⟩
end

/-! ### dict(d): a copy -/
section
variable {X : Cx} {pins : List (Addr × Obj)} {σ : St} {H : Hp} {s : Shared} {a : Addr} {kvs : List (Key × V)} {A : Around} {E : Value → Shared → Prop}
end


section
variable {X : Cx} {pins : List (Addr × Obj)} {σ : St} {H : Hp} {s : Shared} {a : Addr} {y : V} {u : Value} {A : Around} {E : Value → Shared → Prop}
end
end L2

namespace L2
open PySem PySem.Spec PyProof.Rows
section
variable {X : Cx}
end
/-! ### a dict's pairs: keys that differ -/
section
variable {κ : Type} [DecidableEq κ]
end
end L2

/-! OWN: dicts of pairs, any, and what else the later laws ask of built-in functions. Behind Dp, Dct, Bs. -/
namespace L2
open PySem PySem.Spec PyProof.Rows
section
variable {X : Cx}
/-- any of a list of bools -/
theorem call_any_bools (hc : X.calm = true) : CallR X (.builtin "any") (fun xs H Q => ∃ (p : Addr) (bs : List Bool), xs = [.ref p] ∧ SqL X.K H p (bs.map V.bl) ∧ Q (.bl (bs.any id)) H) := by
  intro pins s σ H xs us Q I r h
  obtain ⟨p, bs, rfl, hq, q⟩ := h
  obtain ⟨u, rfl, ru⟩ := vals1 r
  cases (show u = Value.ref p from ru)
  obtain ⟨its, rv, pl, hz⟩ := I.list hq
  have hl := rv.length
  rw [List.length_map] at hl
  have hp : p < s.heap.objs.size := by
    obtain ⟨o, ho, _⟩ := pl.isList
    exact Heap.lt_size ho
  have hne : p ≠ s.heap.objs.size := Nat.ne_of_lt hp
  refine call_any_walk (wpAny_pyIter_list pl.isList ?_)
  refine ⟨s.heap.objs.size, [s.heap.objs.size, p], [s.heap.objs.size], its.toArray.size, _, _, fun i => bs.getD i true, rfl, Walks.list (show X.A.in1.handled = none from I.ok.hd hc) _ p hne its.toArray, ⟨⟨_, Heap.get?_push_size _ rfl, rfl, rfl⟩, pl.isList.push _⟩, ?_, fun h' tk hk => ?_⟩
  · intro i v s' Q' E' hv hQ
    have hv' : its[i]? = some v := by simpa using hv
    have hi : i < its.length := (List.getElem?_eq_some_iff.mp hv').1
    have hb : bs[i]? = some (bs.getD i true) := by
      rw [List.getD_eq_getElem?_getD, List.getElem?_eq_getElem (by omega)]
      rfl
    obtain ⟨w', e1, e2⟩ := rv.get (i := i) (x := .bl (bs.getD i true)) (by rw [List.getElem?_map, hb]; rfl)
    rw [hv'] at e1
    cases e1
    cases (show v = Value.bool _ from e2)
    exact wpAny_truthy_bool hQ
  · have e : (List.range its.toArray.size).any (fun i => bs.getD i true) = bs.any id := by
      rw [Bool.eq_iff_iff, List.any_eq_true, List.any_eq_true]
      constructor
      · rintro ⟨i, hi, hb⟩
        have hi' : i < bs.length := by have := List.mem_range.mp hi; simp only [List.size_toArray] at this; omega
        rw [List.getD_eq_getElem?_getD, List.getElem?_eq_getElem hi'] at hb
        exact ⟨bs[i], List.getElem_mem hi', hb⟩
      · rintro ⟨x, hx, hb⟩
        obtain ⟨i, hi, rfl⟩ := List.mem_iff_getElem.mp hx
        refine ⟨i, List.mem_range.mpr (by simp only [List.size_toArray]; omega), ?_⟩
        rw [List.getD_eq_getElem?_getD, List.getElem?_eq_getElem hi]
        exact hb
    refine ⟨.bl (bs.any id), H, I.kept (t' := tk) fun b o eb => hk b o ?_ (Heap.get?_push_of_some _ eb), congrArg Value.bool e, q⟩
    intro hm
    have : b = s.heap.objs.size := by simpa using hm
    exact absurd (Heap.lt_size eb) (by rw [this]; exact Nat.lt_irrefl _)
end
end L2

/-! OWN: rows of parts, sets of held parts, and when a learnt line is right (the mathematics). Behind Ext3. -/
namespace L2
open PySem PySem.Spec PyProof.Rows
/-! ### rows in the heap -/
def dRow (r : List Int) : Dt := .tup (r.map Dt.int)
def SqInt (K : PySem.W.Frag) (H : Hp) (q : Addr) (ps : List Int) : Prop := SqL K H q (ps.map V.int) ∨ SqT K H q (ps.map V.int)
theorem SqInt.same {K : PySem.W.Frag} {H H' : Hp} {q : Addr} {ps : List Int} (h : SqInt K H q ps) (s : Same H H') : SqInt K H' q ps := h.elim (fun z => .inl (s.seq z)) fun z => .inr (s.tup z)
theorem ints_at {ps : List Int} {i : Nat} {x : V} (h : (ps.map V.int)[i]? = some x) : ∃ k, ps[i]? = some k ∧ x = .int k := by
  rw [List.getElem?_map] at h
  cases e : ps[i]? with
  | none => rw [e] at h; cases h
  | some k =>
    rw [e] at h
    exact ⟨k, rfl, (Option.some.inj h).symm⟩
theorem inV_ints (n : Int) : ∀ ps : List Int, inV (.int n) (ps.map V.int) = decide (n ∈ ps)
  | [] => by simp [inV]
  | p :: ps => by
    have ih := inV_ints n ps
    unfold inV at ih ⊢
    rw [List.map_cons, List.any_cons, ih]
    show (p == n || decide (n ∈ ps)) = decide (n ∈ p :: ps)
    by_cases e : p = n
    · subst e
      simp
    · have e' : ¬ n = p := fun z => e z.symm
      simp [e, e']
/-! ### each once -/
def once : List Int → List Int → List Int
  | acc, [] => acc
  | acc, p :: ps => once (if p ∈ acc then acc else acc ++ [p]) ps
theorem once_len : ∀ (ps acc : List Int), (once acc ps).length ≤ acc.length + ps.length
  | [], acc => by simp [once]
  | p :: ps, acc => by
    unfold once
    have h := once_len ps (if p ∈ acc then acc else acc ++ [p])
    split at h <;> simp only [List.length_append, List.length_cons, List.length_singleton, List.length_nil] at h ⊢ <;> split <;> simp_all <;> omega
theorem once_take {ps : List Int} {i : Nat} {k : Int} : ∀ {acc : List Int}, ps[i]? = some k → once acc (ps.take (i + 1)) = if k ∈ once acc (ps.take i) then once acc (ps.take i) else once acc (ps.take i) ++ [k] := by
  induction ps generalizing i with
  | nil => intro acc h; simp at h
  | cons p ps ih =>
    intro acc h
    cases i with
    | zero =>
      simp at h
      subst h
      simp [once]
    | succ i =>
      simp only [List.take_succ_cons, once]
      exact ih (by simpa using h)
/-! ### a dict as a set of parts -/
structure Dset (H : Hp) (d : Addr) (hs : List Int) : Prop where
  ex : ∃ kvs : List (Key × V), H d = some (.dK kvs) ∧ (∀ n : Int, (valV kvs (Sum.inl n)).isSome = decide (n ∈ hs)) ∧ kvs.length ≤ hs.length
theorem putK_len (kvs : List (Key × V)) (k : Key) (v : V) : (putK kvs k v).length ≤ kvs.length + 1 := by
  unfold putK
  split
  · rw [List.length_map]; omega
  · rw [List.length_append]; simp
theorem valV_putI (kvs : List (Key × V)) (n m : Int) (v : V) : (valV (putK kvs (Sum.inl n) v) (Sum.inl m)).isSome = (decide (m = n) || (valV kvs (Sum.inl m)).isSome) := by
  rw [valV_put]
  by_cases e : m = n
  · rw [if_pos (by rw [e]), decide_eq_true e]
    rfl
  · rw [if_neg (fun z => e (by injection z)), decide_eq_false e, Bool.false_or]
theorem Dset.put {H : Hp} {d : Addr} {hs : List Int} {kvs : List (Key × V)} {n : Int} {v : V} (h2 : ∀ n : Int, (valV kvs (Sum.inl n)).isSome = decide (n ∈ hs)) (h3 : kvs.length ≤ hs.length) : Dset (upd H d (.dK (putK kvs (Sum.inl n) v))) d (hs ++ [n]) := by
  refine ⟨_, upd_same, fun m => ?_, ?_⟩
  · rw [valV_putI, h2]
    by_cases e : m = n
    · subst e
      simp
    · simp [e]
  · have := putK_len kvs (Sum.inl n) v
    rw [List.length_append]
    simp only [List.length_singleton]
    omega
/-- the pairs (p, True) -/
def tkv (ps : List Int) : List (Key × V) := ps.map fun p => (Sum.inl p, V.bl true)
theorem tkv_ok : ∀ ps : List Int, (∀ n : Int, (valV (mergeK [] (tkv ps)) (Sum.inl n)).isSome = decide (n ∈ ps)) ∧ (mergeK [] (tkv ps)).length ≤ ps.length := by
  intro ps
  suffices h : ∀ (kvs : List (Key × V)) (hs : List Int), (∀ n : Int, (valV kvs (Sum.inl n)).isSome = decide (n ∈ hs)) → kvs.length ≤ hs.length → (∀ n : Int, (valV (mergeK kvs (tkv ps)) (Sum.inl n)).isSome = decide (n ∈ hs ++ ps)) ∧ (mergeK kvs (tkv ps)).length ≤ (hs ++ ps).length by
    have := h [] [] (fun n => by simp [valV_nil]) (Nat.le_refl _)
    simpa using this
  induction ps with
  | nil => intro kvs hs h1 h2; simpa [tkv, mergeK] using ⟨h1, h2⟩
  | cons p ps ih =>
    intro kvs hs h1 h2
    have e : mergeK kvs (tkv (p :: ps)) = mergeK (putK kvs (Sum.inl p) (.bl true)) (tkv ps) := rfl
    rw [e, show hs ++ p :: ps = (hs ++ [p]) ++ ps by simp]
    refine ih _ _ (fun n => ?_) ?_
    · rw [valV_putI, h1]
      by_cases e : n = p
      · subst e
        simp
      · simp [e]
    · have := putK_len kvs (Sum.inl p) (.bl true)
      rw [List.length_append]
      simp only [List.length_singleton]
      omega
theorem Dset.of {H : Hp} {d : Addr} {ps : List Int} : Dset (upd H d (.dK (mergeK [] (tkv ps)))) d ps := ⟨_, upd_same, (tkv_ok ps).1, (tkv_ok ps).2⟩
theorem Dset.same {H H' : Hp} {d : Addr} {hs : List Int} (h : Dset H d hs) (s : Same H H') : Dset H' d hs := by
  obtain ⟨kvs, h1, h2, h3⟩ := h.ex
  exact ⟨kvs, s _ _ h1, h2, h3⟩
/-! ### when a learnt line is right -/
def nf (row held : List Int) : List Int := once [] (row.filter fun p => decide (-p ∉ held))
def rowAt (Rs : List (List Int)) (h : Int) : List Int := Rs.getD h.toNat []
def goL (Rs : List (List Int)) : List Int → List Int → Bool
  | _, [] => false
  | held, [h] => (nf (rowAt Rs h) held).isEmpty
  | held, h :: h' :: r => match nf (rowAt Rs h) held with
    | [x] => if x ∈ held then false else goL Rs (held ++ [x]) (h' :: r)
    | _ => false
def badHints (n : Nat) (hs : List Int) : Bool := hs.isEmpty || hs.any (fun h => decide (h < 0)) || hs.any (fun h => decide ((n : Int) ≤ h))
def isLearnt (Rs : List (List Int)) (ps hs : List Int) : Bool := if badHints Rs.length hs = true then false else goL Rs (ps.map fun p => -p) hs
/-- the law's own way -/
def leftL (row held : List Int) : Option (List Int) := if row.any (fun p => decide (p ∈ held)) = true then none else some (row.filter fun p => decide (-p ∉ held))
def rightL (Rs : List (List Int)) : List Int → List Int → Bool
  | _, [] => false
  | held, [h] => match leftL (rowAt Rs h) held with
    | some l => l.isEmpty
    | none => false
  | held, h :: h' :: r => match leftL (rowAt Rs h) held with
    | some [x] => rightL Rs (held ++ [x]) (h' :: r)
    | _ => false
def Cons (held : List Int) : Prop := ∀ x ∈ held, -x ∉ held
end L2

/-! OWN: is of bools; min and max of a list or a tuple of numbers. Behind Rw. -/
namespace L2
open PySem PySem.Spec PyProof.Rows
theorem best_lt (val : Nat → Int) : ∀ k, argBest (fun i j => decide (val i < val j)) k ≤ k ∧ ∀ i, i ≤ k → val (argBest (fun i j => decide (val i < val j)) k) ≤ val i
  | 0 => ⟨Nat.le_refl _, fun i hi => by
      have e : i = 0 := by omega
      subst e
      exact Int.le_refl _⟩
  | k + 1 => by
    obtain ⟨h1, h2⟩ := best_lt val k
    unfold argBest
    by_cases e : val (k + 1) < val (argBest (fun i j => decide (val i < val j)) k)
    · rw [if_pos (decide_eq_true e)]
      refine ⟨Nat.le_refl _, fun i hi => ?_⟩
      by_cases hk : i = k + 1
      · rw [hk]
        exact Int.le_refl _
      · have := h2 i (by omega)
        omega
    · rw [if_neg (fun z => e (of_decide_eq_true z))]
      refine ⟨by omega, fun i hi => ?_⟩
      by_cases hk : i = k + 1
      · rw [hk]
        omega
      · exact h2 i (by omega)
theorem best_gt (val : Nat → Int) : ∀ k, argBest (fun i j => decide (val i > val j)) k ≤ k ∧ ∀ i, i ≤ k → val i ≤ val (argBest (fun i j => decide (val i > val j)) k)
  | 0 => ⟨Nat.le_refl _, fun i hi => by
      have e : i = 0 := by omega
      subst e
      exact Int.le_refl _⟩
  | k + 1 => by
    obtain ⟨h1, h2⟩ := best_gt val k
    unfold argBest
    by_cases e : val (k + 1) > val (argBest (fun i j => decide (val i > val j)) k)
    · rw [if_pos (decide_eq_true e)]
      refine ⟨Nat.le_refl _, fun i hi => ?_⟩
      by_cases hk : i = k + 1
      · rw [hk]
        exact Int.le_refl _
      · have := h2 i (by omega)
        omega
    · rw [if_neg (fun z => e (of_decide_eq_true z))]
      refine ⟨by omega, fun i hi => ?_⟩
      by_cases hk : i = k + 1
      · rw [hk]
        omega
      · exact h2 i (by omega)
theorem getD_mem {ns : List Int} {i : Nat} (h : i < ns.length) : ns.getD i 0 ∈ ns := by
  rw [List.getD_eq_getElem?_getD, List.getElem?_eq_getElem h]
  exact List.getElem_mem h
theorem mem_getD {ns : List Int} {n : Int} (h : n ∈ ns) : ∃ i, i < ns.length ∧ ns.getD i 0 = n := by
  obtain ⟨i, hi, e⟩ := List.mem_iff_getElem.mp h
  exact ⟨i, hi, by rw [List.getD_eq_getElem?_getD, List.getElem?_eq_getElem hi]; exact e⟩
section
variable {X : Cx}
theorem op_isnotB : OpR X (compareOp .IsNot) (fun x y H Q => ∃ a b, x = .bl a ∧ y = .bl b ∧ Q (.bl (a != b)) H) := by
  intro pins s σ H x y v u Q I rx ry h
  obtain ⟨a, b, rfl, rfl, q⟩ := h
  cases rx
  cases ry
  exact isnot_bool (fin_bl I q rfl)
theorem valsInt {ns : List Int} {its : List Value} (rv : Vals (ns.map V.int) its) : ∀ (i : Nat) (v : Value), its.toArray[i]? = some v → ∃ t, v = .int (ns.getD i 0) t := fun i v hv => by
  have hv' : its[i]? = some v := by simpa using hv
  have hi : i < its.length := (List.getElem?_eq_some_iff.mp hv').1
  have hl := rv.length
  rw [List.length_map] at hl
  have hb : ns[i]? = some (ns.getD i 0) := by
    rw [List.getD_eq_getElem?_getD, List.getElem?_eq_getElem (by omega)]
    rfl
  obtain ⟨w', e1, e2⟩ := rv.get (i := i) (x := .int (ns.getD i 0)) (by rw [List.getElem?_map, hb]; rfl)
  rw [hv'] at e1
  cases e1
  exact e2
/-- min of numbers -/
theorem call_minL (hc : X.calm = true) : CallR X (.builtin "min") (fun xs H Q => ∃ (p : Addr) (ns : List Int), xs = [.ref p] ∧ SqInt X.K H p ns ∧ ns ≠ [] ∧ ∀ m, m ∈ ns → (∀ n ∈ ns, m ≤ n) → Q (.int m) H) := by
  intro pins s σ H xs us Q I r h
  obtain ⟨p, ns, rfl, hq, hne, q⟩ := h
  obtain ⟨u, rfl, ru⟩ := vals1 r
  cases (show u = Value.ref p from ru)
  have fin : ∀ {its : List Value} {v : Value} {h' : Heap} {tk : Nat}, Vals (ns.map V.int) its → its.toArray[argBest (fun i j => decide (ns.getD i 0 < ns.getD j 0)) (its.toArray.size - 1)]? = some v → (∀ b o, s.heap.get? b = some o → h'.get? b = some o) → EP X pins σ Q v { s with heap := h', toks := tk } := fun {its v h' tk} rv hP hk => by
    obtain ⟨t, rfl⟩ := valsInt rv _ _ hP
    have hl := rv.length
    rw [List.length_map] at hl
    have n0 : 0 < ns.length := List.length_pos_iff.mpr hne
    have es : its.toArray.size - 1 = ns.length - 1 := by simp only [List.size_toArray]; omega
    rw [es]
    obtain ⟨b1, b2⟩ := best_lt (fun i => ns.getD i 0) (ns.length - 1)
    exact ⟨.int _, H, I.kept (t' := tk) hk, ⟨t, rfl⟩, q _ (getD_mem (by omega)) fun n hn => by
      obtain ⟨i, hi, e⟩ := mem_getD hn
      rw [← e]
      exact b2 i (by omega)⟩
  have n0 : 0 < ns.length := List.length_pos_iff.mpr hne
  rcases hq with hq | hq
  · obtain ⟨its, rv, pl, hz⟩ := I.list hq
    have hl := rv.length
    rw [List.length_map] at hl
    have hp : p < s.heap.objs.size := by
      obtain ⟨o, ho, _⟩ := pl.isList
      exact Heap.lt_size ho
    refine call_min_walk (wpAny_pyIter_list pl.isList ?_)
    refine ⟨s.heap.objs.size, [s.heap.objs.size, p], [s.heap.objs.size], its.toArray.size, _, _, fun i j => decide (ns.getD i 0 < ns.getD j 0), rfl, Walks.list (show X.A.in1.handled = none from I.ok.hd hc) _ p (Nat.ne_of_lt hp) its.toArray, ⟨⟨_, Heap.get?_push_size _ rfl, rfl, rfl⟩, pl.isList.push _⟩, fun b hb => ?_, by simp only [List.size_toArray]; omega, CmpOf.ints_lt (fun i => ns.getD i 0) (valsInt rv), fun v h' tk hP hk => fin rv hP fun b o e => hk b o (fun hm => ?_) (Heap.get?_push_of_some _ e)⟩
    · show b < (s.heap.push _).objs.size
      rw [Heap.size_push]
      simp only [List.mem_cons, List.not_mem_nil, or_false] at hb
      rcases hb with rfl | rfl
      · exact Nat.lt_succ_self _
      · exact Nat.lt_succ_of_lt hp
    · have : b = s.heap.objs.size := by simpa using hm
      exact absurd (Heap.lt_size e) (by rw [this]; exact Nat.lt_irrefl _)
  · obtain ⟨its, rv, pl, hz⟩ := I.tuple hq
    have hl := rv.length
    rw [List.length_map] at hl
    have pt : s.heap.IsTuple p its.toArray := pl
    have hp : p < s.heap.objs.size := by
      obtain ⟨o, ho, _⟩ := id pt
      exact Heap.lt_size ho
    refine call_min_walk (wpAny_pyIter_tuple pt ?_)
    refine ⟨s.heap.objs.size, [s.heap.objs.size, p], [s.heap.objs.size], its.toArray.size, _, _, fun i j => decide (ns.getD i 0 < ns.getD j 0), rfl, Walks.tuple (show X.A.in1.handled = none from I.ok.hd hc) _ p (Nat.ne_of_lt hp) its.toArray, ⟨⟨_, Heap.get?_push_size _ rfl, rfl, rfl⟩, pt.push _⟩, fun b hb => ?_, by simp only [List.size_toArray]; omega, CmpOf.ints_lt (fun i => ns.getD i 0) (valsInt rv), fun v h' tk hP hk => fin rv hP fun b o e => hk b o (fun hm => ?_) (Heap.get?_push_of_some _ e)⟩
    · show b < (s.heap.push _).objs.size
      rw [Heap.size_push]
      simp only [List.mem_cons, List.not_mem_nil, or_false] at hb
      rcases hb with rfl | rfl
      · exact Nat.lt_succ_self _
      · exact Nat.lt_succ_of_lt hp
    · have : b = s.heap.objs.size := by simpa using hm
      exact absurd (Heap.lt_size e) (by rw [this]; exact Nat.lt_irrefl _)
/-- max of numbers -/
theorem call_maxL (hc : X.calm = true) : CallR X (.builtin "max") (fun xs H Q => ∃ (p : Addr) (ns : List Int), xs = [.ref p] ∧ SqInt X.K H p ns ∧ ns ≠ [] ∧ ∀ m, m ∈ ns → (∀ n ∈ ns, n ≤ m) → Q (.int m) H) := by
  intro pins s σ H xs us Q I r h
  obtain ⟨p, ns, rfl, hq, hne, q⟩ := h
  obtain ⟨u, rfl, ru⟩ := vals1 r
  cases (show u = Value.ref p from ru)
  have fin : ∀ {its : List Value} {v : Value} {h' : Heap} {tk : Nat}, Vals (ns.map V.int) its → its.toArray[argBest (fun i j => decide (ns.getD i 0 > ns.getD j 0)) (its.toArray.size - 1)]? = some v → (∀ b o, s.heap.get? b = some o → h'.get? b = some o) → EP X pins σ Q v { s with heap := h', toks := tk } := fun {its v h' tk} rv hP hk => by
    obtain ⟨t, rfl⟩ := valsInt rv _ _ hP
    have hl := rv.length
    rw [List.length_map] at hl
    have n0 : 0 < ns.length := List.length_pos_iff.mpr hne
    have es : its.toArray.size - 1 = ns.length - 1 := by simp only [List.size_toArray]; omega
    rw [es]
    obtain ⟨b1, b2⟩ := best_gt (fun i => ns.getD i 0) (ns.length - 1)
    exact ⟨.int _, H, I.kept (t' := tk) hk, ⟨t, rfl⟩, q _ (getD_mem (by omega)) fun n hn => by
      obtain ⟨i, hi, e⟩ := mem_getD hn
      rw [← e]
      exact b2 i (by omega)⟩
  have n0 : 0 < ns.length := List.length_pos_iff.mpr hne
  rcases hq with hq | hq
  · obtain ⟨its, rv, pl, hz⟩ := I.list hq
    have hl := rv.length
    rw [List.length_map] at hl
    have hp : p < s.heap.objs.size := by
      obtain ⟨o, ho, _⟩ := pl.isList
      exact Heap.lt_size ho
    refine call_max_walk (wpAny_pyIter_list pl.isList ?_)
    refine ⟨s.heap.objs.size, [s.heap.objs.size, p], [s.heap.objs.size], its.toArray.size, _, _, fun i j => decide (ns.getD i 0 > ns.getD j 0), rfl, Walks.list (show X.A.in1.handled = none from I.ok.hd hc) _ p (Nat.ne_of_lt hp) its.toArray, ⟨⟨_, Heap.get?_push_size _ rfl, rfl, rfl⟩, pl.isList.push _⟩, fun b hb => ?_, by simp only [List.size_toArray]; omega, CmpOf.ints_gt (fun i => ns.getD i 0) (valsInt rv), fun v h' tk hP hk => fin rv hP fun b o e => hk b o (fun hm => ?_) (Heap.get?_push_of_some _ e)⟩
    · show b < (s.heap.push _).objs.size
      rw [Heap.size_push]
      simp only [List.mem_cons, List.not_mem_nil, or_false] at hb
      rcases hb with rfl | rfl
      · exact Nat.lt_succ_self _
      · exact Nat.lt_succ_of_lt hp
    · have : b = s.heap.objs.size := by simpa using hm
      exact absurd (Heap.lt_size e) (by rw [this]; exact Nat.lt_irrefl _)
  · obtain ⟨its, rv, pl, hz⟩ := I.tuple hq
    have hl := rv.length
    rw [List.length_map] at hl
    have pt : s.heap.IsTuple p its.toArray := pl
    have hp : p < s.heap.objs.size := by
      obtain ⟨o, ho, _⟩ := id pt
      exact Heap.lt_size ho
    refine call_max_walk (wpAny_pyIter_tuple pt ?_)
    refine ⟨s.heap.objs.size, [s.heap.objs.size, p], [s.heap.objs.size], its.toArray.size, _, _, fun i j => decide (ns.getD i 0 > ns.getD j 0), rfl, Walks.tuple (show X.A.in1.handled = none from I.ok.hd hc) _ p (Nat.ne_of_lt hp) its.toArray, ⟨⟨_, Heap.get?_push_size _ rfl, rfl, rfl⟩, pt.push _⟩, fun b hb => ?_, by simp only [List.size_toArray]; omega, CmpOf.ints_gt (fun i => ns.getD i 0) (valsInt rv), fun v h' tk hP hk => fin rv hP fun b o e => hk b o (fun hm => ?_) (Heap.get?_push_of_some _ e)⟩
    · show b < (s.heap.push _).objs.size
      rw [Heap.size_push]
      simp only [List.mem_cons, List.not_mem_nil, or_false] at hb
      rcases hb with rfl | rfl
      · exact Nat.lt_succ_self _
      · exact Nat.lt_succ_of_lt hp
    · have : b = s.heap.objs.size := by simpa using hm
      exact absurd (Heap.lt_size e) (by rw [this]; exact Nat.lt_irrefl _)
end
end L2

/-! OWN: comprehensions whose target is any (pairs, triples); list ways that the layer lacks. Behind Ext5. -/
namespace L2
open PySem PySem.Spec PyProof.Rows
def tLCG (wi : TI) (L : Nat) (ix : List Nat) (g : TG) (te : TE) : TE := fun σ H Q => wi σ H fun J H1 => ∀ D, H1 D = none →
  ∃ W : Nat → Nat → List V → Hp → Prop, (∃ m, W 0 m [] (upd H1 D (.lst []))) ∧
    ∀ i m ys H', W i m ys H' → H' D = some (.lst ys) ∧
      ((J.stop i H' ∧ Q (.ref D) H') ∨ (J.go i H' ∧ ∀ x H'', J.yld i H' x H'' → ∀ σ0 : St, σ0.length = L → g x (σ0 ++ fvs σ ix) H'' fun σ' H2 => ∃ σ1 : St, σ1.length = L ∧ σ' = σ1 ++ fvs σ ix ∧ te σ' H2 fun y H3 =>
        H3 D = some (.lst ys) ∧ ys.length < sizeLine ∧ ∃ m', m' < m ∧ W (i + 1) m' (ys ++ [y]) (upd H3 D (.lst (ys ++ [y])))))
def tLCIG (wi : TI) (L : Nat) (ix : List Nat) (g : TG) (tc : TT) (te : TE) : TE := fun σ H Q => wi σ H fun J H1 => ∀ D, H1 D = none →
  ∃ W : Nat → Nat → List V → Hp → Prop, (∃ m, W 0 m [] (upd H1 D (.lst []))) ∧
    ∀ i m ys H', W i m ys H' → H' D = some (.lst ys) ∧
      ((J.stop i H' ∧ Q (.ref D) H') ∨ (J.go i H' ∧ ∀ x H'', J.yld i H' x H'' → ∀ σ0 : St, σ0.length = L → g x (σ0 ++ fvs σ ix) H'' fun σ' H2 => ∃ σ1 : St, σ1.length = L ∧ σ' = σ1 ++ fvs σ ix ∧ tc σ' H2 fun b H3 =>
        if b = true then te σ' H3 fun y H4 => H4 D = some (.lst ys) ∧ ys.length < sizeLine ∧ ∃ m', m' < m ∧ W (i + 1) m' (ys ++ [y]) (upd H4 D (.lst (ys ++ [y])))
        else ∃ m', m' < m ∧ W (i + 1) m' ys H3))
section
variable {X : Cx} {N' : List Str} {scope : Scope} {cl : List (Str × Addr)} {fp : List Addr} {pins : List (Addr × Obj)} {σ : St} {H : Hp} {s : Shared}
end
section
variable {X : Cx} {N' : List Str} {scope : Scope} {elt iter tg : Expr} {L : Nat} {pos : Pos} {wi : TI} {g : TG} {te : TE} {ix : List Nat}
end
section
variable {X : Cx} {N' : List Str} {scope : Scope} {elt iter c tg : Expr} {L : Nat} {pos : Pos} {wi : TI} {g : TG} {tc : TT} {te : TE} {ix : List Nat}
end
end L2

/-! OWN: enumerate of a list in a for with a pair ahead; list.insert. Behind Ext6. -/
namespace L2
open PySem PySem.Spec PyProof.Rows
/-- iterator records have turned and a new object is laid -/
theorem Inv.turnedLaid {X : Cx} {pins : List (Addr × Obj)} {σ : St} {H : Hp} {s : Shared} {h' : Heap} {fp : List Addr} {a : Addr} {o : HO} {t' : Nat} (I : Inv X pins σ H s) (hf : ∀ b ∈ fp, FpOk X pins H b) (k : ∀ b u, b ∉ fp → s.heap.get? b = some u → h'.get? b = some u) (hp : s.heap.objs.size ≤ a) (new : ObjOk X.prog X.w (upd H a o) h' a o) :
    Inv X pins σ (upd H a o) { s with heap := h', toks := t' } := by
  have hn := I.hok.fresh hp
  have nfp : ∀ b u, H b = some u → b ∉ fp := fun b u e z => by rw [(hf b z).1] at e; cases e
  have un : Un (frs X.stack) fp H (upd H a o) s.heap h' := ⟨fun b u q _ _ hx => k b u hx q, fun b u q _ _ hx => ⟨u.slots, k b u hx q⟩, fun b u q n _ => by rw [upd_ne (Nat.ne_of_lt (Nat.lt_of_lt_of_le (Heap.lt_size q) hp))]; exact n,
    fun b u q hx => ⟨u, k b u hx q⟩, fun b xs q => by rw [upd_ne (ne_of_none q hn)]; exact q, fun b u xs q => by rw [upd_ne (ne_of_none q hn)]; exact q, fun b ps q => ⟨#[], by rw [upd_ne (ne_of_none q hn), q]; simp⟩⟩
  have hok : HOk X.prog X.w (upd H a o) h' := fun b u e => by
    by_cases hb : b = a
    · subst hb; rw [upd_same] at e; cases e; exact new
    · rw [upd_ne hb] at e
      refine (I.hok b u e).stay (fun c v hc q => k c v ?_ q) (fun c q => by rw [upd_ne (ne_of_none q hn)]; exact q) fun c xs q => by rw [upd_ne (ne_of_none q hn)]; exact q
      rcases hc with z | z
      · rw [z]; exact nfp b u e
      · exact nfp c _ z
  exact I.call (g' := s.gens) (d' := s.drawn) (ch := fp) un hok I.bare fun b hb => ⟨(hf b hb).2.2.2.1, (hf b hb).2.1, (hf b hb).2.2.2.2.1, (hf b hb).2.2.2.2.2⟩
def Ite (K : PySem.W.Frag) (a : Addr) : It :=
  ⟨fun i H => ∃ xs x, SqL K H a xs ∧ xs[i]? = some x, fun i H x H' => ∃ p y, x = .ref p ∧ H p = none ∧ H' = upd H p (.tup [.int i, y]) ∧ ∀ xs, SqL K H a xs → xs[i]? = some y, fun i H => ∃ xs, SqL K H a xs ∧ xs.length ≤ i⟩
section
variable {X : Cx}
def iEnum (K : PySem.W.Frag) (ta : TA) : TI := fun σ H R => ta σ H fun vs H1 => ∃ a, vs = [.ref a] ∧ (∃ xs, SqL K H1 a xs) ∧ R (Ite K a) H1
def rInsert : V → List V → Hp → VK → Prop := fun x vs H Q => ∃ l xs i y, x = .ref l ∧ vs = [.int (i : Nat), y] ∧ H l = some (.lst xs) ∧ i ≤ xs.length ∧ xs.length < sizeLine ∧ Q .non (upd H l (.lst (xs.take i ++ y :: xs.drop i)))
end
end L2

/-! OWN: growing a trail by rows: the mathematics. Behind Ext7. -/
namespace L2
open PySem
def opn (row hs : List Int) : List Int := once [] (row.filter fun p => decide (p ∉ hs) && decide (-p ∉ hs))
def isDue (row hs : List Int) : Bool := !(row.any fun p => decide (p ∈ hs)) && decide ((opn row hs).length ≤ 1)
def NoneAhead (Rs : List (List Int)) (hs : List Int) (k : Nat) : Prop := ∀ j, j < k → ∀ r, Rs[j]? = some r → isDue r hs = false
def FirstDue (Rs : List (List Int)) (hs : List Int) : Option Nat → Prop
  | none => NoneAhead Rs hs Rs.length
  | some k => (∃ r, Rs[k]? = some r ∧ isDue r hs = true) ∧ NoneAhead Rs hs k
inductive Grown (Rs : List (List Int)) : List (Int × Int) → List Int → List (Int × Int) → Option Nat → Prop
  | stop {lg : List (Int × Int)} {hs : List Int} : NoneAhead Rs hs Rs.length → Grown Rs lg hs lg none
  | fail {lg : List (Int × Int)} {hs r : List Int} {k : Nat} : Rs[k]? = some r → isDue r hs = true → NoneAhead Rs hs k → opn r hs = [] → Grown Rs lg hs lg (some k)
  | step {lg lg' : List (Int × Int)} {hs r t : List Int} {k : Nat} {a : Int} {o : Option Nat} : Rs[k]? = some r → isDue r hs = true → NoneAhead Rs hs k → opn r hs = a :: t → Grown Rs (lg ++ [(a, (k : Int))]) (hs ++ [a]) lg' o → Grown Rs lg hs lg' o
def oV : Option Nat → V
  | none => .non
  | some k => .int (k : Int)
def left (U hs : List Int) : Nat := (U.filter fun p => decide (p ∉ hs)).length
def dQT (p : Int) : Dt := .tup [.int p, .bl true]
def mixF (c k : Int) : Int := (c + 7919 * k + 1) * 48271 % 1000003 * ((c + 7919 * k + 1) * 48271 % 1000003) % 999983
/-- a trail's parts: of atoms 1 to m, none with its opposite -/
structure TrOk (m : Int) (ts : List (Int × Int)) : Prop where
  rng : ∀ t ∈ ts, t.1 ≠ 0 ∧ -m ≤ t.1 ∧ t.1 ≤ m
  con : ∀ x ∈ ts.map Prod.fst, -x ∉ ts.map Prod.fst
theorem TrOk.nil {m : Int} : TrOk m [] := ⟨fun _ h => absurd h (by simp), fun _ h => absurd h (by simp)⟩
theorem TrOk.snoc {m a b y : Int} {ts : List (Int × Int)} (h : TrOk m ts) (hb : b = a ∨ b = -a) (h1 : 1 ≤ a) (h2 : a ≤ m) (n1 : a ∉ ts.map Prod.fst) (n2 : -a ∉ ts.map Prod.fst) : TrOk m (ts ++ [(b, y)]) := by
  refine ⟨fun t ht => ?_, fun x hx => ?_⟩
  · rcases List.mem_append.mp ht with q | q
    · exact h.rng t q
    · cases List.mem_singleton.mp q
      rcases hb with rfl | rfl
      · exact ⟨by show b ≠ 0; omega, by show -m ≤ b; omega, h2⟩
      · exact ⟨by show -a ≠ 0; omega, by show -m ≤ -a; omega, by show -a ≤ m; omega⟩
  · rw [List.map_append] at hx ⊢
    have nb : b ∉ ts.map Prod.fst ∧ -b ∉ ts.map Prod.fst := by
      rcases hb with rfl | rfl
      · exact ⟨n1, n2⟩
      · exact ⟨n2, by rw [Int.neg_neg]; exact n1⟩
    have hb0 : b ≠ -b := by omega
    rcases List.mem_append.mp hx with q | q
    · intro z
      rcases List.mem_append.mp z with z | z
      · exact h.con x q z
      · have e : -x = b := List.mem_singleton.mp z
        have e2 : x = -b := by omega
        rw [e2] at q
        exact nb.2 q
    · have e : x = b := List.mem_singleton.mp q
      subst e
      intro z
      rcases List.mem_append.mp z with z | z
      · exact nb.2 z
      · have e : -x = x := List.mem_singleton.mp z
        exact hb0 e.symm
def rnd (m : Int) (ts : List (Int × Int)) (a : Int) : List Int := (ts.map Prod.fst).filter fun p => decide (p = a) || decide (p = -a)
def ins {α : Type} (xs : List α) (i : Nat) (y : α) : List α := xs.take i ++ y :: xs.drop i
def U40 : List Int := (List.range 121).map fun i : Nat => (i : Int) - 60
theorem HasL.ins {K : PySem.W.Frag} {H : Hp} {d : Dt} {v : V} (h : Has K H d v) : ∀ (i : Nat) {ds : List Dt} {vs : List V}, HasL K H ds vs → HasL K H (L2.ins ds i d) (L2.ins vs i v)
  | 0, _, _, hl => .cons h hl
  | i + 1, [], vs, hl => by
    have e : vs = [] := by have := hl.length; cases vs with | nil => rfl | cons a t => cases this
    subst e
    exact .cons h .nil
  | i + 1, d' :: ds, vs, hl => by
    cases vs with
    | nil => have := hl.length; cases this
    | cons v' vs =>
      simp only [HasL] at hl
      obtain ⟨u, us, q, h1, h2⟩ := hl
      cases q
      exact .cons h1 (HasL.ins h i h2)
def RowK (r : List Int) : Prop := r.length ≤ 20 ∧ ((∀ p ∈ r, -40 ≤ p ∧ p ≤ 40) ∨ r = [50, 51])
theorem HasL.rep {K : PySem.W.Frag} {H : Hp} {d : Dt} {v : V} (h : Has K H d v) : ∀ k, HasL K H (List.replicate k d) (List.replicate k v)
  | 0 => .nil
  | k + 1 => .cons h (HasL.rep h k)
/-- all stand but what is at d -/
def SameX (d : Addr) (H H' : Hp) : Prop := ∀ b o, b ≠ d → H b = some o → H' b = some o
theorem SameX.refl (d : Addr) (H : Hp) : SameX d H H := fun _ _ _ h => h
theorem SameX.trans {d : Addr} {H H1 H2 : Hp} (a : SameX d H H1) (b : SameX d H1 H2) : SameX d H H2 := fun c o n h => b c o n (a c o n h)
theorem Same.x {H H' : Hp} (s : Same H H') (d : Addr) : SameX d H H' := fun b o _ h => s b o h
theorem SameX.put {d : Addr} (H : Hp) (o : HO) : SameX d H (upd H d o) := fun b u n h => by rw [upd_ne n]; exact h
theorem SameX.kt {d : Addr} {H H' : Hp} {kvs : List (Key × V)} (s : SameX d H H') (h : H d = some (.dK kvs)) : KeepT H H' := fun b us z => by
  have nb : b ≠ d := fun e => by
    rw [e] at z
    rcases z with z | ⟨o, z⟩
    · rw [h] at z; cases z
    · rw [h] at z; cases z
  rcases z with z | ⟨o, z⟩
  · exact .inl (s _ _ nb z)
  · exact .inr ⟨o, s _ _ nb z⟩
theorem Dset.ne {H : Hp} {d l : Addr} {hs : List Int} {xs : List V} (h : Dset H d hs) (hl : H l = some (.lst xs)) : l ≠ d := fun e => by
  obtain ⟨kvs, hk, _⟩ := h.ex
  rw [e, hk] at hl
  cases hl
theorem SameX.lst {d l : Addr} {H H' : Hp} {hs : List Int} {xs : List V} (s : SameX d H H') (h : Dset H d hs) (hl : H l = some (.lst xs)) : H' l = some (.lst xs) := s _ _ (h.ne hl) hl
def anyHeld (row hs : List Int) : Bool := row.any fun p => decide (p ∈ hs)
def Forc (Rs : List (List Int)) : List Int → List (Int × Int) → Prop
  | _, [] => True
  | hs, (a, y) :: es => (∃ k r, y = (k : Nat) ∧ Rs[k]? = some r ∧ (r.any fun p => decide (p ∈ hs)) = false ∧ opn r hs = [a] ∧ NoneAhead Rs hs k) ∧ Forc Rs (hs ++ [a]) es
def FinO (Rs : List (List Int)) (hs : List Int) : Option Nat → Prop
  | none => NoneAhead Rs hs Rs.length
  | some k => ∃ r, Rs[k]? = some r ∧ (r.any fun p => decide (p ∈ hs)) = false ∧ opn r hs = [] ∧ NoneAhead Rs hs k
theorem Forc.drop {Rs : List (List Int)} : ∀ {es : List (Int × Int)} {hs : List Int} {i : Nat} {t : Int × Int}, Forc Rs hs es → es[i]? = some t → (∃ k r, t.2 = (k : Nat) ∧ Rs[k]? = some r ∧ (r.any fun p => decide (p ∈ hs ++ (es.take i).map Prod.fst)) = false ∧ opn r (hs ++ (es.take i).map Prod.fst) = [t.1] ∧ NoneAhead Rs (hs ++ (es.take i).map Prod.fst) k)
  | (a, y) :: es, hs, 0, t, h, e => by
    cases e
    simpa using h.1
  | (a, y) :: es, hs, i + 1, t, h, e => by
    have := Forc.drop h.2 (i := i) (t := t) e
    simpa [List.append_assoc] using this
end L2

/-! OWN: sep.join(list of texts); texts of numbers; reversed(list) in a for. Behind Ext7. -/
namespace L2
open PySem PySem.Spec PyProof.Rows
def lenS (xs : List Str) : Nat := (xs.map Str.length).sum
section
variable {X : Cx}
def rJoin (K : PySem.W.Frag) : V → List V → Hp → VK → Prop := fun x vs H Q => ∃ sep p xs, x = .str sep ∧ vs = [.ref p] ∧ SqL K H p (xs.map V.str) ∧ lenS xs + xs.length * sep.length ≤ sizeLine ∧ Q (.str (Builtin.Str.glued sep xs)) H
end
end L2

/-! OWN: reversed(list) and zip(list, list) in a for; a walk of a dict's keys (the dict is frozen while it is walked); dict.update(dict). Behind Ext8. -/
namespace L2
open PySem PySem.Spec PyProof.Rows
/-! ### reversed(list) -/
def Itv (K : PySem.W.Frag) (a : Addr) (n : Nat) : It :=
  ⟨fun i H => i < n ∧ ∃ xs, SqL K H a xs ∧ xs.length = n, fun i H x H' => H' = H ∧ ∀ xs, SqL K H a xs → xs[n - 1 - i]? = some x, fun i H => n ≤ i⟩
/-! ### zip(list, list) -/
def Itz (K : PySem.W.Frag) (a b : Addr) : It :=
  ⟨fun i H => ∃ xs ys x y, SqL K H a xs ∧ SqL K H b ys ∧ xs[i]? = some x ∧ ys[i]? = some y, fun i H x H' => ∃ p y z, x = .ref p ∧ H p = none ∧ H' = upd H p (.tup [y, z]) ∧ (∀ xs, SqL K H a xs → xs[i]? = some y) ∧ ∀ ys, SqL K H b ys → ys[i]? = some z,
    fun i H => ∃ xs ys, SqL K H a xs ∧ SqL K H b ys ∧ (xs.length ≤ i ∨ ys.length ≤ i)⟩
/-! ### a dict, frozen while it is walked -/
theorem Inv.freeze {X : Cx} {pins : List (Addr × Obj)} {σ : St} {H : Hp} {s : Shared} {d : Addr} {o : Obj} {kvs : List (Key × V)} (I : Inv X pins σ H s) (h : H d = some (.dK kvs)) (ho : s.heap.get? d = some o) : Inv X pins σ (upd H d (.frz o (.dK kvs))) s := by
  have nd : ∀ b u, H b = some u → u ≠ .dK kvs → b ≠ d := fun b u e n z => by rw [z, h] at e; cases e; exact n rfl
  have u : Un X.fs [] H (upd H d (.frz o (.dK kvs))) s.heap s.heap := ⟨fun b ob q _ _ _ => q, fun b ob q _ _ _ => ⟨ob.slots, q⟩, fun b ob q n _ => by rw [upd_ne (fun z => by rw [z, h] at n; cases n)]; exact n, fun b ob q _ => ⟨ob, q⟩,
    fun b xs q => by rw [upd_ne (nd b _ q (by intro z; cases z))]; exact q, fun b ob xs q => by rw [upd_ne (nd b _ q (by intro z; cases z))]; exact q, fun b ps q => ⟨#[], by rw [upd_ne (nd b _ q (by intro z; cases z)), q]; simp⟩⟩
  have hok : HOk X.prog X.w (upd H d (.frz o (.dK kvs))) s.heap := fun b ub e => by
    by_cases hb : b = d
    · subst hb
      rw [upd_same] at e
      cases e
      exact ⟨ho, I.hok b _ h⟩
    · rw [upd_ne hb] at e
      exact (I.hok b ub e).stay (fun c w' _ q => q) (fun c q => by rw [upd_ne (nd c _ q (by intro z; cases z))]; exact q) fun c xs q => by rw [upd_ne (nd c _ q (by intro z; cases z))]; exact q
  exact I.un (t' := s.toks) (h' := s.heap) u hok
theorem Inv.thaw {X : Cx} {pins : List (Addr × Obj)} {σ : St} {H : Hp} {s : Shared} {d : Addr} {o : Obj} {kvs : List (Key × V)} (I : Inv X pins σ H s) (h : H d = some (.frz o (.dK kvs))) (h0 : ∀ o u, X.H₀ d ≠ some (.frz o u)) : Inv X pins σ (upd H d (.dK kvs)) s := by
  have nd : ∀ b u, H b = some u → u ≠ .frz o (.dK kvs) → b ≠ d := fun b u e n z => by rw [z, h] at e; cases e; exact n rfl
  have nn : ∀ b, H b = none → b ≠ d := fun b e z => by rw [z, h] at e; cases e
  refine ⟨I.ok, I.os, I.bare, ⟨I.base.keep, I.base.slot, fun b ob q n hx => by rw [upd_ne (nn b (I.base.free b ob q n hx))]; exact I.base.free b ob q n hx, I.base.there, fun b xs q => by rw [upd_ne (nd b _ (I.base.tups b xs q) (by intro z; cases z))]; exact I.base.tups b xs q, fun b ob u q => ?_, fun b ps q => ?_⟩, I.loc, I.cell, by rw [upd_ne (nn _ I.free)]; exact I.free, fun x c e => by rw [upd_ne (nn _ (I.freeC x c e))]; exact I.freeC x c e, fun p hp => ?_, fun b ub e => ?_, I.len⟩
  · have nb : b ≠ d := fun z => h0 ob u (by rw [← z]; exact q)
    rw [upd_ne nb]
    exact I.base.frzs b ob u q
  · obtain ⟨m, e⟩ := I.base.tbls b ps q
    exact ⟨m, by rw [upd_ne (nd b _ e (by intro z; cases z))]; exact e⟩
  · obtain ⟨a1, a2, a3⟩ := I.pin p hp
    exact ⟨a1, by rw [upd_ne (nn _ a2)]; exact a2, a3⟩
  · by_cases hb : b = d
    · subst hb
      rw [upd_same] at e
      cases e
      have q := I.hok b _ h
      exact q.2.stay (fun c w' _ q => q) (fun c q => by rw [upd_ne (nd c _ q (by intro z; cases z))]; exact q) fun c xs q => by rw [upd_ne (nd c _ q (by intro z; cases z))]; exact q
    · rw [upd_ne hb] at e
      exact (I.hok b ub e).stay (fun c w' _ q => q) (fun c q => by rw [upd_ne (nd c _ q (by intro z; cases z))]; exact q) fun c xs q => by rw [upd_ne (nd c _ q (by intro z; cases z))]; exact q
def Itd (d : Addr) (o : Obj) (kvs : List (Key × V)) : It :=
  ⟨fun i H => i < kvs.length ∧ H d = some (.frz o (.dK kvs)), fun i H x H' => H' = H ∧ ∃ k v, kvs[i]? = some (k, v) ∧ x = kV k, fun i H => kvs.length ≤ i ∧ H d = some (.frz o (.dK kvs))⟩
theorem wk_dict {d : Addr} {o : Obj} {kvs : List (Key × V)} : Wk (Itd d o kvs) kvs.length (fun H => H d = some (.frz o (.dK kvs))) := ⟨fun _ _ h hi => ⟨hi, h⟩, fun _ _ h hi => ⟨hi, h⟩⟩
theorem key_rel {k : Key} {u : Value} (h : keyIs k u = true) : RelV (kV k) u := by
  rcases keyIs_shape h with ⟨i, t, rfl, rfl⟩ | ⟨x, t, rfl, rfl⟩
  · exact ⟨t, rfl⟩
  · exact ⟨t, rfl⟩
theorem turn_dict {P : Program} {w : World} {K : PySem.W.Frag} {tg : Expr} (d it : Addr) (o : Obj) (kvs : List (Key × V)) (ep : Nat) (hep : ∃ es, o.data = .dict es ep) : Turn P w K tg (Itd d o kvs) [it] it (fun i h => h.IsKeyIter it d i kvs.length ep) where
  mem := by simp
  obj := fun i h st b hb => by
    have e : b = it := by simpa using hb
    subst e
    obtain ⟨ob, e, c, dd⟩ := st
    exact ⟨ob, e, fun v z => by rw [dd] at z; cases z⟩
  keep := fun i h h' st k => st.at fun ob e => k it (by simp) ob e
  item := by
    intro X hP hw hK hc i pins s σ H E I hf st hg
    subst hP hw hK
    obtain ⟨hi, hq⟩ := hg
    obtain ⟨ho, zl, hsys, vs, rel, dd⟩ := (show ObjOk X.prog X.w H s.heap d (.frz o (.dK kvs)) from I.hok d _ hq)
    obtain ⟨ep', da⟩ := dd.dictAt
    obtain ⟨ob, es, e1, e2, e3, e4⟩ := id da
    obtain ⟨es0, he0⟩ := hep
    have eo : ob = o := Option.some.inj (e1.symm.trans ho)
    subst eo
    have eep : ep' = ep := by
      rw [he0] at e3
      cases e3
      rfl
    subst eep
    have hlen := rel.length
    obtain ⟨f0, f1, f2, f3, f4, f5⟩ := hf it (by simp)
    have hk := rel.keys
    have hv : vs[i]? = some vs[i] := List.getElem?_eq_getElem (by omega)
    have hkv : kvs[i]? = some kvs[i] := List.getElem?_eq_getElem hi
    have ek : kvs[i].1 = (vs[i]'(by omega)).1 := by
      have h1 : (kvs.map (·.1))[i]? = some kvs[i].1 := by rw [List.getElem?_map, hkv]; rfl
      have h2 : (vs.map (·.1))[i]? = some (vs[i]'(by omega)).1 := by rw [List.getElem?_map, hv]; rfl
      rw [hk, h2] at h1
      exact (Option.some.inj h1).symm
    rw [hlen] at st
    refine wpAny_pyNext_dict_item st da (k := (vs[i]'(by omega)).1) (v := (vs[i]'(by omega)).2) hv fun key h' hkey st' sb => ?_
    have I1 : Inv X pins σ H { s with heap := h' } := I.turned (t' := s.toks) (fun b ob hb e => (sb.2 b hb).trans e) f0 f1 f3 f4 f5
    obtain ⟨oi, q1, q2, q3⟩ := id st'
    refine ⟨key, rfl, go_of (s := { s with heap := h' }) q1 q2 q3 (by decide) ⟨kV kvs[i].1, H, I1, ?_, ⟨rfl, kvs[i].1, kvs[i].2, hkv, rfl⟩, by rw [hlen]; exact st', fun b hb => (hf b hb).1⟩⟩
    rw [ek]
    exact key_rel hkey
  done := by
    intro X hP hw hK hc i pins s σ H E I hf st hg
    subst hP hw hK
    obtain ⟨hi, hq⟩ := hg
    obtain ⟨ho, zl, hsys, vs, rel, dd⟩ := (show ObjOk X.prog X.w H s.heap d (.frz o (.dK kvs)) from I.hok d _ hq)
    obtain ⟨ep', da⟩ := dd.dictAt
    obtain ⟨ob, es, e1, e2, e3, e4⟩ := id da
    obtain ⟨es0, he0⟩ := hep
    have eo : ob = o := Option.some.inj (e1.symm.trans ho)
    subst eo
    have eep : ep' = ep := by
      rw [he0] at e3
      cases e3
      rfl
    subst eep
    have hlen := rel.length
    rw [hlen] at st
    obtain ⟨f0, f1, f2, f3, f4, f5⟩ := hf it (by simp)
    exact wpAny_pyNext_dict_end (I.ok.hd hc) st da (List.getElem?_eq_none (by omega)) fun h' eb => ⟨rfl, I.turned (t' := s.toks) (fun b ob hb e => eb b ob hb e) f0 f1 f3 f4 f5⟩
  self := fun _ _ _ _ _ st h => wpAny_pyIter_keyiter st h
section
variable {X : Cx} {tg : Expr}
def iRev (K : PySem.W.Frag) (ta : TA) : TI := fun σ H R => ta σ H fun vs H1 => ∃ a xs, vs = [.ref a] ∧ SqL K H1 a xs ∧ R (Itv K a xs.length) H1
def iZip (K : PySem.W.Frag) (ta : TA) : TI := fun σ H R => ta σ H fun vs H1 => ∃ a b, vs = [.ref a, .ref b] ∧ (∃ xs, SqL K H1 a xs) ∧ (∃ ys, SqL K H1 b ys) ∧ R (Itz K a b) H1
def iDict (tl : TE) : TI := fun σ H R => tl σ H fun x H1 => ∃ d kvs, x = .ref d ∧ H1 d = some (.dK kvs) ∧ ∀ o, R (Itd d o kvs) (upd H1 d (.frz o (.dK kvs)))
theorem pi_dict {l : Expr} {tl : TE} (hl : PE X l tl) : PI X tg l (iDict tl) := by
  intro pins s σ H R I h
  refine thn (hl pins s σ H _ I h) fun v s1 ⟨x, H1, I1, r1, q1⟩ => ?_
  obtain ⟨d, kvs, e, hd, q⟩ := q1
  subst e
  cases r1
  obtain ⟨zl, hsys, vs, rel, dd⟩ := dk_of I1.hok hd
  obtain ⟨ep, da⟩ := dd.dictAt
  obtain ⟨o, es, e1, e2, e3, e4⟩ := id da
  have hlen := rel.length
  have If := I1.freeze hd e1
  refine wpAny_pyIter_dict hsys da ?_
  have I2 : Inv X pins σ (upd H1 d (.frz o (.dK kvs))) { s1 with heap := s1.heap.push { cls := .type "dict_keyiterator", data := .fields #[.ref d, .int 0 0, .int vs.length 0, .int ep 0] } } := If.kept (t' := s1.toks) fun b ob e => Heap.get?_push_of_some _ e
  refine ⟨_, [s1.heap.objs.size], _, Itd d o kvs, _, rfl, I2, turn_dict d s1.heap.objs.size o kvs ep ⟨es, e3⟩, ?_, fun b hb => ?_, q o⟩
  · exact ⟨_, Heap.get?_push_size _ rfl, rfl, by rw [hlen]; rfl⟩
  · rw [List.mem_singleton.mp hb]
    exact If.fpOk (Nat.le_refl _) If.fresh
def rUpdate : V → List V → Hp → VK → Prop := fun x vs H Q => ∃ d b kvs more, x = .ref d ∧ vs = [.ref b] ∧ d ≠ b ∧ H d = some (.dK kvs) ∧ H b = some (.dK more) ∧ kvs.length + more.length ≤ sizeLine ∧ Q .non (upd H d (.dK (mergeK kvs more)))
end
end L2

/-! OWN: tuple(reversed(list)); max of a list with default. Behind Ext9. -/
namespace L2
open PySem PySem.Spec PyProof.Rows
set_option maxRecDepth 100000
section
variable {prog : Program} {w : World} {A : Around} {E : Value → Shared → Prop} {s : Shared} {J : Addr} {fp wr : List Addr} {G : Array GenState → Array GenState → Prop} {n : Nat} {P : Nat → Value → Prop} {St : Nat → Shared → Prop}
end
end L2

/-! OWN: tuple(reversed(list)) as an expression; max(list, default=d). Behind Ext10. -/
namespace L2
open PySem PySem.Spec PyProof.Rows
set_option maxRecDepth 100000
section
variable {prog : Program} {w : World} {A : Around} {R : Result → Shared → Prop} {J : Addr} {fp wr : List Addr} {n : Nat} {P : Nat → Value → Prop} {St : Nat → Heap → Prop} {kw : List (Str × Value)}
end
section
variable {prog : Program} {w : World} {A : Around} {E : Value → Shared → Prop} {s : Shared}
end
section
variable {X : Cx}
def tMaxd (K : PySem.W.Frag) (ta tk : TA) : TE := fun σ H Q => ta σ H fun vs H1 => tk σ H1 fun zs H2 => ∃ (p : Addr) (ns : List Int) (dv : Int), vs = [.ref p] ∧ zs = [.int dv] ∧ SqInt K H2 p ns ∧ (ns = [] → Q (.int dv) H2) ∧ ∀ m ∈ ns, (∀ n ∈ ns, n ≤ m) → Q (.int m) H2
/-- tuple(reversed(xs)) -/
def tTupRev (K : PySem.W.Frag) (ta : TA) : TE := fun σ H Q => ta σ H fun vs H1 => ∃ (a : Addr) (xs : List V), vs = [.ref a] ∧ SqL K H1 a xs ∧ ∀ l, H1 l = none → Q (.ref l) (upd H1 l (.tup xs.reverse))
end
end L2

/-! OWN: t[lo:hi] where it is the whole of t. Behind Ext11. -/
namespace HT
open PySem PyProof.Rows
section
variable {prog : Program} {w : World} {A : Around} {E : Value → Shared → Prop} {s : Shared}
end
end HT
namespace L2
open PySem PySem.Spec PyProof.Rows
section
variable {X : Cx}
def rSlTW (K : PySem.W.Frag) : V → Option Int → Option Int → Hp → VK → Prop := fun x lo hi H Q => ∃ a xs, x = .ref a ∧ SqT K H a xs ∧ (HT.sIx xs.length 0 lo = 0 ∧ HT.sIx xs.length xs.length hi = xs.length) ∧ Q (.ref a) H
/-- either way: a tuple of the items that were cut -/
def rSlTA (K : PySem.W.Frag) : V → Option Int → Option Int → Hp → VK → Prop := fun x lo hi H Q => rSlT K x lo hi H Q ∨ rSlTW K x lo hi H Q
end
end L2

/-! OWN: range with the step -1. Behind Ext12. -/
namespace L2
open PySem PySem.Spec PyProof.Rows
/-- hi, hi - 1, ..: n numbers -/
def Itdn (hi : Int) (n : Nat) : It := ⟨fun i _ => i < n, fun i H x H' => H' = H ∧ x = .int (hi - i), fun i _ => n ≤ i⟩
section
variable {X : Cx} {tg : Expr}
def iDown (ta : TA) : TI := fun σ H R => ta σ H fun vs H1 => ∃ i j : Int, vs = [.int i, .int j, .int (-1)] ∧ (-(2 ^ 62) ≤ i ∧ i < 2 ^ 62 ∧ -(2 ^ 62) ≤ j ∧ j < 2 ^ 62) ∧ R (Itdn i (i - j).toNat) H1
end
end L2

/-! OWN: d.values(), list(d.values()), list(d). Behind Ext13. -/
namespace L2
open PySem PySem.Spec PyProof.Rows
set_option maxRecDepth 100000
/-- the view of a dict's values -/
def VView (d v : Addr) : HO := .ext fun h => h.IsValuesView v d
section
variable {X : Cx}
def rValues : V → List V → Hp → VK → Prop := fun x vs H Q => ∃ d kvs, x = .ref d ∧ vs = [] ∧ H d = some (.dK kvs) ∧ ∀ v, H v = none → Q (.ref v) (upd H v (VView d v))
end
end L2

/-! OWN: range(n) as a value, list(range(n)). Behind Ext14. -/
namespace L2
open PySem PySem.Spec PyProof.Rows
set_option maxRecDepth 100000
section
variable {X : Cx}
def tRange1 (ta : TA) : TE := fun σ H Q => ta σ H fun vs H1 => ∃ j : Int, vs = [.int j] ∧ ∀ r, H1 r = none → Q (.ref r) (upd H1 r (.rng 0 j))
theorem pe_range1 {a : Expr} {ta : TA} {p pos : Pos} (hg : Gl X "range") (hm : X.mg "range" = none) (ha : PA X [a] ta) (hs : starEach [a] X.env = [(false, eval a X.env)] := by rfl) : PE X (.Call (.Name "range" p) [a] [] pos) (tRange1 ta) := by
  intro pins s σ H Q I h
  refine Call_ (ld_blt I hg hm boot_range (PyProof.Rows.callWith_type1 (thn (ha pos pins s σ H _ I h) fun us s1 ⟨vs, H1, I1, r1, q1⟩ => ?_) hs rfl))
  obtain ⟨j, e, q⟩ := q1
  subst e
  cases r1 with
  | cons r rr =>
    cases rr
    obtain ⟨t, rfl⟩ := r
    refine call_range_1 ?_
    refine ⟨.ref s1.heap.objs.size, _, I1.laid (o := .rng 0 j) (fun b ob e => Heap.get?_push_of_some _ e) (Nat.le_refl _) ?_, rfl, q _ (I1.hok.fresh (Nat.le_refl _))⟩
    exact ⟨_, _, _, Heap.get?_push_size _ rfl⟩
theorem call_list_rng (hc : X.calm = true) : CallR X (.type "list") (fun xs H Q => ∃ r j, xs = [.ref r] ∧ H r = some (.rng 0 j) ∧ 0 ≤ j ∧ j ≤ 100000 ∧ ∀ l, H l = none → Q (.ref l) (upd H l (.lst (((List.range j.toNat).map fun i : Nat => (i : Int)).map V.int)))) := by
  intro pins s σ H xs us Q I r h
  obtain ⟨r0, j, rfl, hr, j0, j1, q⟩ := h
  obtain ⟨u, rfl, rx⟩ := vals1 r
  cases rx
  obtain ⟨t1, t2, t3, e⟩ := I.hok r0 _ hr
  have en : Builtin.Range.rangeSize 0 j 1 = ((j.toNat : Nat) : Int) := by rw [rangeSize_one]; split <;> omega
  refine call_list_range (I.ok.hd hc) e (small_one (by omega) (by omega) (by omega) (by omega)) en (by omega) fun h' tk acc c kp e2 its => ?_
  have al : acc.toList.length = j.toNat := by rw [Array.length_toList]; exact its.1
  have rel : Vals (((List.range j.toNat).map fun i : Nat => (i : Int)).map V.int) acc.toList := by
    have key : ∀ (n : Nat) (L : List Value) (o : Nat), L.length = n → (∀ i v, L[i]? = some v → ∃ t, v = Value.int (0 + (((o + i : Nat) : Nat) : Int) * 1) t) → Vals (((List.range' o n).map fun i : Nat => (i : Int)).map V.int) L := by
      intro n
      induction n with
      | zero =>
        intro L o hl _
        cases L with
        | nil => exact .nil
        | cons _ _ => cases hl
      | succ n ih =>
        intro L o hl hv
        match L, hl with
        | x :: L, hl =>
          refine .cons ?_ (ih L (o + 1) (by simpa using hl) fun i v e => ?_)
          · obtain ⟨t, e⟩ := hv 0 x rfl
            exact ⟨t, by rw [e]; congr 1; show (0 : Int) + ((o + 0 : Nat) : Int) * 1 = (o : Int); omega⟩
          · obtain ⟨t, e'⟩ := hv (i + 1) v e
            exact ⟨t, by rw [e']; congr 1; omega⟩
    have := key j.toNat acc.toList 0 al fun i v e => by
      obtain ⟨t, e'⟩ := its.2 i v (by rw [← Array.getElem?_toList]; exact e)
      exact ⟨t, by rw [e', Nat.zero_add]⟩
    rw [List.range_eq_range']
    exact this
  refine ⟨.ref s.heap.objs.size, _, I.laid (t' := tk) kp (Nat.le_refl _) (show ObjOk X.prog X.w _ h' _ (.lst (((List.range j.toNat).map fun i : Nat => (i : Int)).map V.int)) from ⟨?_, acc.toList, c, rel, by rw [Array.toArray_toList]; exact e2⟩), rfl, q _ (I.hok.fresh (Nat.le_refl _))⟩
  rw [List.length_map, List.length_map, List.length_range, sizeLine_eq]
  omega
end
end L2

/-! OWN: terms that hang together: heads, the object Groups, links. Behind Ext15. -/
namespace L2
open PySem
def loF (x y : Int) : Int := if y < x then y else x
def hiF (x y : Int) : Int := if y > x then y else x
def mrg (hd : Int → Int) (a b : Int) : Int → Int := fun t => if hd t = hiF (hd a) (hd b) then loF (hd a) (hd b) else hd t
structure Hd (N : Nat) (hd : Int → Int) : Prop where
  idem : ∀ t, hd (hd t) = hd t
  le : ∀ t, hd t ≤ t
  rng : ∀ t, hd t ≠ t → 0 ≤ hd t ∧ t < (N : Int)
theorem Hd.zero (N : Nat) : Hd N (fun t => t) := ⟨fun _ => rfl, fun _ => Int.le_refl _, fun _ h => absurd rfl h⟩
theorem lohi (x y : Int) : loF x y ≤ hiF x y ∧ ((loF x y = x ∧ hiF x y = y) ∨ (loF x y = y ∧ hiF x y = x)) := by
  unfold loF hiF
  split <;> split <;> omega
theorem Hd.in' {N : Nat} {hd : Int → Int} (h : Hd N hd) {a : Int} (ha : 0 ≤ a ∧ a < (N : Int)) : 0 ≤ hd a ∧ hd a < (N : Int) := by
  have h1 := h.le a
  by_cases e : hd a = a
  · rw [e]; exact ha
  · have := h.rng a e
    omega
theorem Hd.lo_id {N : Nat} {hd : Int → Int} (h : Hd N hd) (a b : Int) : hd (loF (hd a) (hd b)) = loF (hd a) (hd b) := by
  rcases (lohi (hd a) (hd b)).2 with ⟨e, _⟩ | ⟨e, _⟩ <;> rw [e] <;> exact h.idem _
theorem Hd.hi_id {N : Nat} {hd : Int → Int} (h : Hd N hd) (a b : Int) : hd (hiF (hd a) (hd b)) = hiF (hd a) (hd b) := by
  rcases (lohi (hd a) (hd b)).2 with ⟨_, e⟩ | ⟨_, e⟩ <;> rw [e] <;> exact h.idem _
theorem mrg_eq {hd : Int → Int} {a b : Int} (e : loF (hd a) (hd b) = hiF (hd a) (hd b)) : mrg hd a b = hd := by
  funext t
  unfold mrg
  by_cases c : hd t = hiF (hd a) (hd b)
  · rw [if_pos c, e, c]
  · rw [if_neg c]
theorem Hd.mrg {N : Nat} {hd : Int → Int} (h : Hd N hd) {a b : Int} (ha : 0 ≤ a ∧ a < (N : Int)) (hb : 0 ≤ b ∧ b < (N : Int)) : Hd N (mrg hd a b) := by
  have lh := lohi (hd a) (hd b)
  have la := h.in' ha
  have lb := h.in' hb
  refine ⟨fun t => ?_, fun t => ?_, fun t => ?_⟩
  · by_cases e : loF (hd a) (hd b) = hiF (hd a) (hd b)
    · rw [mrg_eq e]
      exact h.idem t
    · unfold L2.mrg
      by_cases c : hd t = hiF (hd a) (hd b)
      · rw [if_pos c, h.lo_id, if_neg e]
      · rw [if_neg c, h.idem, if_neg c]
  · unfold L2.mrg
    have := h.le t
    split <;> omega
  · unfold L2.mrg
    intro z
    by_cases c : hd t = hiF (hd a) (hd b)
    · rw [if_pos c] at z ⊢
      refine ⟨by omega, ?_⟩
      by_cases w : hd t = t
      · omega
      · exact (h.rng t w).2
    · rw [if_neg c] at z ⊢
      exact h.rng t z
theorem mrg_iff {hd : Int → Int} {a b t u : Int} : mrg hd a b t = mrg hd a b u ↔ hd t = hd u ∨ (hd t = hd a ∧ hd u = hd b) ∨ (hd t = hd b ∧ hd u = hd a) := by
  have lh := lohi (hd a) (hd b)
  unfold mrg
  by_cases c : hd t = hiF (hd a) (hd b)
  · by_cases d : hd u = hiF (hd a) (hd b)
    · rw [if_pos c, if_pos d]
      exact ⟨fun _ => .inl (by rw [c, d]), fun _ => rfl⟩
    · rw [if_pos c, if_neg d]
      constructor <;> intro z <;> omega
  · by_cases d : hd u = hiF (hd a) (hd b)
    · rw [if_neg c, if_pos d]
      constructor <;> intro z <;> omega
    · rw [if_neg c, if_neg d]
      constructor
      · exact fun z => .inl z
      · intro z
        omega
/-! ### links -/
abbrev Lk := Int × Int × Int
def hdL (ls : List Lk) : Int → Int := ls.foldl (fun hd l => mrg hd l.1 l.2.1) fun t => t
def InN (N : Nat) (ls : List Lk) : Prop := ∀ l ∈ ls, (0 ≤ l.1 ∧ l.1 < (N : Int)) ∧ 0 ≤ l.2.1 ∧ l.2.1 < (N : Int)
theorem int_nodup_len : ∀ (n : Nat) {xs : List Int}, xs.Nodup → (∀ x ∈ xs, 0 ≤ x ∧ x < (n : Int)) → xs.length ≤ n
  | 0, [], _, _ => Nat.le_refl _
  | 0, x :: xs, _, h => by have := h x List.mem_cons_self; omega
  | n + 1, xs, nd, h => by
    have q := int_nodup_len n (nd.erase (n : Int)) (fun x hx => by
      have z := (List.Nodup.mem_erase_iff nd).mp hx
      have := h x z.2
      have := z.1
      omega)
    rw [List.length_erase] at q
    split at q <;> omega
/-! ### links in the heap -/
def dL (l : Lk) : Dt := .tup [.int l.1, .int l.2.1, .int l.2.2]
theorem has_dL {K : PySem.W.Frag} {H : Hp} {l : Lk} {v : V} (h : Has K H (dL l) v) : ∃ p, v = .ref p ∧ SqT K H p [.int l.1, .int l.2.1, .int l.2.2] := by
  obtain ⟨a, xs, rfl, h1, h2⟩ := h
  have e := hasl_ints (ns := [l.1, l.2.1, l.2.2]) h2
  rw [e] at h1
  exact ⟨a, rfl, h1⟩
theorem nols_dL : ∀ ls : List Lk, nols (ls.map dL) = true
  | [] => by simp [nols]
  | l :: ls => by
    simp only [List.map_cons, nols, dL, nol, Bool.true_and]
    exact nols_dL ls
theorem dL_at {K : PySem.W.Frag} {H : Hp} {ls : List Lk} {xs : List V} {i : Nat} {x : V} (h : HasL K H (ls.map dL) xs) (e : xs[i]? = some x) : ∃ l p, ls[i]? = some l ∧ x = .ref p ∧ SqT K H p [.int l.1, .int l.2.1, .int l.2.2] := by
  obtain ⟨d, h1, h2⟩ := h.get e
  rw [List.getElem?_map] at h1
  obtain ⟨l, e1, e2⟩ := Option.map_eq_some_iff.mp h1
  rw [← e2] at h2
  obtain ⟨p, e3, e4⟩ := has_dL h2
  exact ⟨l, p, e1, e3, e4⟩
/-! ### the object -/
def Mem (H : Hp) (kg : List (Key × V)) (hd : Int → Int) (av : List Addr) (x : Int) (ms : List Int) : Prop := ms.Nodup ∧ (∀ t, t ∈ ms ↔ hd t = x) ∧ ((valV kg (Sum.inl x) = none ∧ ms = [x]) ∨ ∃ a, valV kg (Sum.inl x) = some (.ref a) ∧ H a = some (.lst (ms.map V.int)) ∧ a ∉ av)
structure GO (H : Hp) (C g ld gd : Addr) (N b : Nat) (hd : Int → Int) (av : List Addr) : Prop where
  h : Hd N hd
  ne : ld ≠ gd
  ex : ∃ dx kl kg, H g = some (.ins C dx [("least", .ref ld), ("gathered", .ref gd)]) ∧ H ld = some (.dK kl) ∧ H gd = some (.dK kg) ∧ (∀ t : Int, (valV kl (Sum.inl t)).getD (.int t) = .int (hd t)) ∧ (∀ x : Int, hd x = x → ∃ ms : List Int, Mem H kg hd av x ms) ∧ kl.length ≤ b * N ∧ kg.length ≤ b
theorem GO.same {H H' : Hp} {C g ld gd : Addr} {N b : Nat} {hd : Int → Int} {av : List Addr} (G : GO H C g ld gd N b hd av) (s : Same H H') : GO H' C g ld gd N b hd av := by
  obtain ⟨dx, kl, kg, h1, h2, h3, h4, h5, h6, h7⟩ := G.ex
  refine ⟨G.h, G.ne, dx, kl, kg, s _ _ h1, s _ _ h2, s _ _ h3, h4, fun x hx => ?_, h6, h7⟩
  obtain ⟨ms, m1, m2, m3⟩ := h5 x hx
  refine ⟨ms, m1, m2, ?_⟩
  rcases m3 with m3 | ⟨a, m4, m5⟩
  · exact .inl m3
  · exact .inr ⟨a, m4, s _ _ m5.1, m5.2⟩
theorem GO.mono {H : Hp} {C g ld gd : Addr} {N b b' : Nat} {hd : Int → Int} {av : List Addr} (G : GO H C g ld gd N b hd av) (h : b ≤ b') : GO H C g ld gd N b' hd av := by
  obtain ⟨dx, kl, kg, h1, h2, h3, h4, h5, h6, h7⟩ := G.ex
  exact ⟨G.h, G.ne, dx, kl, kg, h1, h2, h3, h4, h5, Nat.le_trans h6 (Nat.mul_le_mul_right _ h), Nat.le_trans h7 h⟩
/-- all stand but the object's own dicts -/
def SameG (ld gd : Addr) (H H' : Hp) : Prop := ∀ b o, b ≠ ld → b ≠ gd → H b = some o → H' b = some o
theorem SameG.trans {ld gd : Addr} {H H1 H2 : Hp} (a : SameG ld gd H H1) (b : SameG ld gd H1 H2) : SameG ld gd H H2 := fun c o h1 h2 h => b c o h1 h2 (a c o h1 h2 h)
theorem Same.g {ld gd : Addr} {H H' : Hp} (s : Same H H') : SameG ld gd H H' := fun b o _ _ h => s b o h
theorem Same.ofG {ld gd : Addr} {H H1 H2 : Hp} (s : Same H H1) (n1 : H ld = none) (n2 : H gd = none) (x : SameG ld gd H1 H2) : Same H H2 := fun b o hb => x b o (fun e => by rw [e, n1] at hb; cases hb) (fun e => by rw [e, n2] at hb; cases hb) (s b o hb)
theorem mem_len {N : Nat} {hd : Int → Int} (h : Hd N hd) {x : Int} (hx : 0 ≤ x ∧ x < (N : Int)) {ms : List Int} (nd : ms.Nodup) (hm : ∀ t, t ∈ ms ↔ hd t = x) : ms.length ≤ N := by
  refine int_nodup_len N nd fun t ht => ?_
  have e := (hm t).mp ht
  have := h.le t
  by_cases c : hd t = t
  · omega
  · have := h.rng t c
    omega
/-- behind a merge -/
theorem GO.merged {H : Hp} {C g ld gd : Addr} {N b : Nat} {hd : Int → Int} {av : List Addr} {a c : Int} (h : Hd N hd) (ne : ld ≠ gd) (ha : 0 ≤ a ∧ a < (N : Int)) (hc : 0 ≤ c ∧ c < (N : Int)) (nlh : loF (hd a) (hd c) ≠ hiF (hd a) (hd c)) {dx : Addr} {kl kg : List (Key × V)} {p : Addr} {ml mh : List Int}
    (h1 : H g = some (.ins C dx [("least", .ref ld), ("gathered", .ref gd)])) (h2 : H ld = some (.dK kl)) (h3 : H gd = some (.dK (putK kg (Sum.inl (loF (hd a) (hd c))) (.ref p)))) (h4 : ∀ t : Int, (valV kl (Sum.inl t)).getD (.int t) = .int (if t ∈ mh then loF (hd a) (hd c) else hd t))
    (h5 : ∀ x : Int, hd x = x → ∃ ms : List Int, Mem H kg hd av x ms) (l1 : ml.Nodup) (l2 : ∀ t, t ∈ ml ↔ hd t = loF (hd a) (hd c)) (k1 : mh.Nodup) (k2 : ∀ t, t ∈ mh ↔ hd t = hiF (hd a) (hd c)) (hp : H p = some (.lst ((ml ++ mh).map V.int))) (h6 : kl.length ≤ b * N) (h7 : kg.length + 1 ≤ b) (hpa : p ∉ av) : GO H C g ld gd N b (mrg hd a c) av := by
  refine ⟨h.mrg ha hc, ne, dx, kl, _, h1, h2, h3, fun t => ?_, fun x hx => ?_, h6, Nat.le_trans (putK_len _ _ _) h7⟩
  · rw [h4]
    unfold mrg
    by_cases z : hd t = hiF (hd a) (hd c)
    · rw [if_pos ((k2 t).mpr z), if_pos z]
    · rw [if_neg (fun w => z ((k2 t).mp w)), if_neg z]
  · by_cases z : x = loF (hd a) (hd c)
    · subst z
      refine ⟨ml ++ mh, List.nodup_append.mpr ⟨l1, k1, fun u hu v hv e => ?_⟩, fun t => ?_, .inr ⟨p, by rw [valV_put, if_pos rfl], hp, hpa⟩⟩
      · subst e
        have w1 := (l2 u).mp hu
        have w2 := (k2 u).mp hv
        exact nlh (w1.symm.trans w2)
      · rw [List.mem_append, l2, k2]
        unfold mrg
        by_cases w : hd t = hiF (hd a) (hd c)
        · rw [if_pos w]
          exact ⟨fun _ => rfl, fun _ => .inr w⟩
        · rw [if_neg w]
          exact ⟨fun y => y.resolve_right w, .inl⟩
    · have nx : hd x ≠ hiF (hd a) (hd c) := fun w => by
        unfold mrg at hx
        rw [if_pos w] at hx
        exact z hx.symm
      have ex : hd x = x := by
        unfold mrg at hx
        rw [if_neg nx] at hx
        exact hx
      obtain ⟨ms, m1, m2, m3⟩ := h5 x ex
      refine ⟨ms, m1, fun t => ?_, ?_⟩
      · rw [m2]
        unfold mrg
        by_cases w : hd t = hiF (hd a) (hd c)
        · rw [if_pos w]
          exact ⟨fun y => absurd (ex.trans (y.symm.trans w)) nx, fun y => absurd y.symm z⟩
        · rw [if_neg w]
      · rw [valV_put, if_neg (fun y => z (by injection y))]
        exact m3
theorem GO.sub {H : Hp} {C g ld gd : Addr} {N b : Nat} {hd : Int → Int} {av av' : List Addr} (G : GO H C g ld gd N b hd av) (h : ∀ a ∈ av', a ∈ av) : GO H C g ld gd N b hd av' := by
  obtain ⟨dx, kl, kg, h1, h2, h3, h4, h5, h6, h7⟩ := G.ex
  refine ⟨G.h, G.ne, dx, kl, kg, h1, h2, h3, h4, fun x hx => ?_, h6, h7⟩
  obtain ⟨ms, m1, m2, m3⟩ := h5 x hx
  refine ⟨ms, m1, m2, ?_⟩
  rcases m3 with m3 | ⟨a, m4, m5, m6⟩
  · exact .inl m3
  · exact .inr ⟨a, m4, m5, fun z => m6 (h a z)⟩
/-- what is kept apart may be written -/
theorem GO.put {H : Hp} {C g ld gd : Addr} {N b : Nat} {hd : Int → Int} {av : List Addr} {l : Addr} {o : HO} (G : GO H C g ld gd N b hd av) (hl : l ∈ av ∨ ∀ xs, H l ≠ some (.lst xs)) (ng : l ≠ g) (n1 : l ≠ ld) (n2 : l ≠ gd) : GO (upd H l o) C g ld gd N b hd av := by
  obtain ⟨dx, kl, kg, h1, h2, h3, h4, h5, h6, h7⟩ := G.ex
  refine ⟨G.h, G.ne, dx, kl, kg, by rw [upd_ne (Ne.symm ng)]; exact h1, by rw [upd_ne (Ne.symm n1)]; exact h2, by rw [upd_ne (Ne.symm n2)]; exact h3, h4, fun x hx => ?_, h6, h7⟩
  obtain ⟨ms, m1, m2, m3⟩ := h5 x hx
  refine ⟨ms, m1, m2, ?_⟩
  rcases m3 with m3 | ⟨a, m4, m5, m6⟩
  · exact .inl m3
  · refine .inr ⟨a, m4, ?_, m6⟩
    rw [upd_ne (fun e => by
      rcases hl with hl | hl
      · exact m6 (e ▸ hl)
      · exact hl _ (e ▸ m5))]
    exact m5
end L2

/-! a dict whose keys are a text and a tuple of ints and texts, by setdefault. Behind Ext15. -/
namespace L2
open PySem PySem.Spec PyProof.Rows
section
variable {P : Program} {w : World}
abbrev Sgn := Str × List Key
def IsSign (P : Program) (w : World) (h : Heap) (k : Sgn) (a : Addr) : Prop :=
  ∃ (o : Obj) (t : Tok) (q : Addr) (n : Nat), h.get? a = some o ∧ o.cls = .type "tuple" ∧ o.data = .seq #[.str k.1 t, .ref q] n ∧ IsTupleKey (mixKind P w) h k.2 q
theorem IsSign.typeIs {s : Shared} {k : Sgn} {a : Addr} (x : IsSign P w s.heap k a) : s.TypeIs (.ref a) "tuple" := let ⟨o, _, _, _, ho, hc, _⟩ := x; ⟨o, ho, hc⟩
theorem IsSign.inj {h : Heap} {a : Addr} {x y : Sgn} (hx : IsSign P w h x a) (hy : IsSign P w h y a) : x = y := by
  obtain ⟨o, t, q, n, ho, _, hd, hi⟩ := hx
  obtain ⟨o', t', q', n', ho', _, hd', hi'⟩ := hy
  cases ho.symm.trans ho'
  have e := hd.symm.trans hd'
  injection e with e _
  have e2 : [Value.str x.1 t, .ref q] = [Value.str y.1 t', .ref q'] := congrArg Array.toList e
  injection e2 with e3 e4
  injection e3 with e5 _
  injection e4 with e6 _
  injection e6 with e7
  subst e7
  exact Prod.ext e5 (hi.inj hi')
theorem IsSign.keeps {h h' : Heap} {k : Sgn} {a d : Addr} {o : Obj} {es ep} (x : IsSign P w h k a) (ho : h.get? d = some o) (hd : o.data = .dict es ep) (hs : Heap.SameBut d h h') : IsSign P w h' k a := by
  obtain ⟨o', t, q, n, ho', hc, hd', hi⟩ := x
  have hne : a ≠ d := by
    rintro rfl
    cases ho'.symm.trans ho
    rw [hd] at hd'
    exact nomatch hd'
  exact ⟨o', t, q, n, (hs.2 a hne).trans ho', hc, hd', hi.keeps ho hd hs⟩
def signHash (P : Program) (w : World) (k : Sgn) : Int := reduceHash (Builtin.Tuple.tupleHashOf [(mixKind P w).hash (.inr k.1), tupleKeyHash (mixKind P w) k.2])
variable {A : Around} {E : Value → Shared → Prop} {s : Shared}
theorem sign_hash {k : Sgn} {a : Addr} {Q : Int → Shared → Prop} (hu : A.units + 10 < cLine) (hk : IsSign P w s.heap k a) (h : Q (signHash P w k) { s with toks := s.toks + (k.2.length + 3) }) :
    wpAny (model P w) A (pyHash (.ref a)) Q E s := by
  have hT := hk.typeIs
  obtain ⟨o, t, q, n, ho, _, hd, hi⟩ := hk
  unfold pyHash
  first | unfold pyHashByItsType | skip
  first | refine wpAny_bind (wpAny_cRoomFor_or (.inr (by omega)) ?_) | skip
  refine wpAny_bind (wpAny_specialOf hT F.slot_tuple_hash.lookup ?_)
  show wpAny _ _ (if (some (Value.builtin "tuple.__hash__") == some Value.none) = true then _ else _) Q E s
  rw [if_neg (by rw [beq_builtin_none]; exact Bool.false_ne_true)]
  refine wpAny_bind (wpAny_specialOf hT F.slot_tuple_hash.lookup ?_)
  show wpAny _ _ (callSpecialIfBoundUnlessNone? (.ref a) "__hash__" _ >>= _) Q E s
  refine wpAny_bind (wpAny_callSpecialIfBoundUnlessNone?_slot hT F.slot_tuple_hash (wpAny_call_entry F.slot_tuple_hash hT F.entry_tuple_hash ?_ (F.args_tuple_hash_1 _)))
  show wpAny _ _ (Builtin.Tuple.tupleItemsOf (.ref a) >>= _) _ _ s
  refine wpAny_bind (wpAny_tupleItemsOf ho hd ?_)
  refine wpAny_bind ?_
  rw [← Array.forIn_toList]
  refine wpAny_forIn_list _
    (fun rest (b : Array Int) s' => (rest = [.str k.1 t, .ref q] ∧ b = #[] ∧ s' = s) ∨ (rest = [.ref q] ∧ b = #[(mixKind P w).hash (.inr k.1)] ∧ s' = { s with toks := s.toks + 1 }) ∨
      (rest = [] ∧ b = #[(mixKind P w).hash (.inr k.1), tupleKeyHash (mixKind P w) k.2] ∧ s' = { s with toks := s.toks + 1 + (k.2.length + 1) }))
    _ ?_ ?_ _ _ (.inl ⟨rfl, rfl, rfl⟩)
  · rintro x rest b s' (⟨e, rfl, rfl⟩ | ⟨e, rfl, rfl⟩ | ⟨e, rfl, rfl⟩)
    · injection e with e1 e2
      subst e1 e2
      refine wpAny_bind ((mixKind P w).pyHash (k := .inr k.1) (mixKind_str P w k.1 t) ?_)
      first
        | exact wpAny_pure (.inr (.inl ⟨rfl, rfl, rfl⟩))
        | exact wpAny_bind (wpAny_pure (wpAny_pure (.inr (.inl ⟨rfl, rfl, rfl⟩))))
    · injection e with e1 e2
      subst e1 e2
      refine wpAny_bind (wpAny_pyHash_tuple (knd := mixKind P w) (ks := k.2) (by show A.units + 1 < cLine; omega) hi ?_)
      first
        | exact wpAny_pure (.inr (.inr ⟨rfl, rfl, rfl⟩))
        | exact wpAny_bind (wpAny_pure (wpAny_pure (.inr (.inr ⟨rfl, rfl, rfl⟩))))
    · exact nomatch e
  · rintro b s' (⟨e, rfl, rfl⟩ | ⟨e, rfl, rfl⟩ | ⟨e, rfl, rfl⟩)
    · exact nomatch e
    · exact nomatch e
    show wpAny _ _ (retInt (Builtin.Tuple.tupleHashOf [(mixKind P w).hash (.inr k.1), tupleKeyHash (mixKind P w) k.2])) _ _ _
    refine wpAny_ret_mkInt ?_
    have ht : s.toks + (k.2.length + 3) = s.toks + 1 + (k.2.length + 1) + 1 := by omega
    rw [ht] at h
    unfold signHash reduceHash at h
    generalize Builtin.Tuple.tupleHashOf [(mixKind P w).hash (.inr k.1), tupleKeyHash (mixKind P w) k.2] = z at h ⊢
    show wpAny _ _ (if (decide (-(2 : Int) ^ 63 ≤ z) && decide (z < 2 ^ 63)) = true then _ else _) Q E _
    by_cases hr : (decide (-(2 : Int) ^ 63 ≤ z) && decide (z < 2 ^ 63)) = true
    · rw [if_pos hr]
      rw [if_pos hr] at h
      exact wpAny_pure h
    · rw [if_neg hr]
      rw [if_neg hr] at h
      exact wpAny_bind (wpAny_rule (wpAny_pure h))
theorem sign_eq_tree {x y : Sgn} {a b : Addr} {R : Fin → Shared → Prop} (hu : A.units + 5 < cLine) (hx : IsSign P w s.heap x a) (hy : IsSign P w s.heap y b) (h : R (.done (.ret (.bool (decide (x = y))))) s) :
    wpAny (model P w) A (Builtin.«tuple.__eq__» ⟨[.ref a, .ref b], []⟩) R E s := by
  have hTb := hy.typeIs
  obtain ⟨oa, ta, qa, na, hoa, _, hda, hia⟩ := hx
  obtain ⟨ob, tb, qb, nb, hob, _, hdb, hib⟩ := hy
  show wpAny _ _ (isInstance (.ref b) (.type "tuple") >>= _) _ _ s
  refine wpAny_bind (wpAny_isInstance hTb isSubtype_tuple_tuple ?_)
  simp only [Bool.not_true, Bool.false_eq_true, if_false]
  refine wpAny_bind (wpAny_tupleItemsOf hoa hda ?_)
  refine wpAny_bind (wpAny_tupleItemsOf hob hdb ?_)
  refine wpAny_bind ?_
  refine wpAny_forIn_list _
    (fun rest r s' => r.1 = none ∧ s' = s ∧ ((rest = [(.str x.1 ta, .str y.1 tb), (.ref qa, .ref qb)]) ∨ (rest = [(.ref qa, .ref qb)] ∧ x.1 = y.1) ∨ (rest = [] ∧ x = y)))
    _ ?_ ?_ _ _ ⟨rfl, rfl, .inl rfl⟩
  · rintro ⟨u, v⟩ rest r s' ⟨hr, rfl, e | ⟨e, e1⟩ | ⟨e, e1⟩⟩
    · injection e with e2 e3
      injection e2 with e4 e5
      subst e3 e4 e5
      refine wpAny_bind ((mixKind P w).eqBool (a := .inr x.1) (b := .inr y.1) (mixKind_str P w x.1 ta) (mixKind_str P w y.1 tb) ?_)
      by_cases hk : x.1 = y.1
      · rw [decide_eq_true (show (Sum.inr x.1 : Key) = .inr y.1 by rw [hk])]
        simp only [Bool.not_true, Bool.false_eq_true, if_false]
        exact wpAny_pure ⟨by trivial, by trivial, .inr (.inl ⟨by trivial, hk⟩)⟩
      · rw [decide_eq_false (show ¬ (Sum.inr x.1 : Key) = .inr y.1 from fun z => hk (Sum.inr.inj z))]
        simp only [Bool.not_false, if_true]
        rw [decide_eq_false (show ¬ x = y from fun z => hk (by rw [z]))] at h
        exact wpAny_bind (wpAny_pure (wpAny_pure (wpAny_pure h)))
    · injection e with e2 e3
      injection e2 with e4 e5
      subst e3 e4 e5
      refine wpAny_bind (wpAny_eqBool_tuple (knd := mixKind P w) (x := x.2) (y := y.2) (by omega) hia hib ?_)
      by_cases hk : x.2 = y.2
      · rw [decide_eq_true hk]
        simp only [Bool.not_true, Bool.false_eq_true, if_false]
        exact wpAny_pure ⟨by trivial, by trivial, .inr (.inr ⟨by trivial, Prod.ext e1 hk⟩)⟩
      · rw [decide_eq_false hk]
        simp only [Bool.not_false, if_true]
        rw [decide_eq_false (show ¬ x = y from fun z => hk (by rw [z]))] at h
        exact wpAny_bind (wpAny_pure (wpAny_pure (wpAny_pure h)))
    · exact nomatch e
  · rintro ⟨r1, r2⟩ s' ⟨hr, rfl, e | ⟨e, e1⟩ | ⟨e, e1⟩⟩
    · exact nomatch e
    · exact nomatch e
    simp only at hr
    subst hr
    refine wpAny_pure ?_
    rw [decide_eq_true e1] at h
    exact h
theorem sign_eq {x y : Sgn} {a b : Addr} {Q : Bool → Shared → Prop} (hu : A.units + 10 < cLine) (hx : IsSign P w s.heap x a) (hy : IsSign P w s.heap y b) (h : Q (decide (x = y)) s) :
    wpAny (model P w) A (eqBool (.ref a) (.ref b)) Q E s := by
  unfold eqBool
  try with_reducible refine wpAny_holding ?_
  show wpAny _ _ (if (Value.ref a == Value.ref b) = true then _ else _) Q E s
  by_cases hab : (Value.ref a == Value.ref b) = true
  · rw [if_pos hab]
    have e : a = b := by have := eq_of_beq hab; injection this
    subst e
    cases hx.inj hy
    exact wpAny_bind (wpAny_rule (wpAny_pure (by simpa using h)))
  · rw [if_neg hab]
    exact wpAny_bind (wpAny_richCompare_same_room (op := .Eq) hx.typeIs hy.typeIs F.slot_tuple_eq
      (wpAny_call_entry F.slot_tuple_eq hx.typeIs F.entry_tuple_eq (sign_eq_tree (by show A.units + 1 + 5 < cLine; omega) hx hy ⟨_, rfl, (fun e => nomatch e), wpAny_truthy_bool h⟩) (F.args_tuple_eq_2 _ _)) (by omega))
theorem quiet7 {ks : List Key} {a : Addr} {Q : Bool → Shared → Prop} (hk : IsTupleKey (mixKind P w) s.heap ks a) (h : Q true s) : wpAny (model P w) A (eqIsQuiet 7 (.ref a)) Q E s := by
  have hT := hk.typeIs
  obtain ⟨o, items, n, ho, _, hd, hi⟩ := hk
  unfold eqIsQuiet
  refine wpAny_bind (wpAny_specialOf hT F.slot_tuple_eq.lookup ?_)
  show wpAny _ _ (isInstance (.ref a) (.type "tuple") >>= _) _ _ s
  refine wpAny_bind (wpAny_isInstance hT isSubtype_tuple_tuple ?_)
  simp only [Bool.not_true, Bool.false_eq_true, if_false]
  refine wpAny_bind (wpAny_seqItems ho hd ?_)
  refine wpAny_bind ?_
  show wpAny _ _ (forIn items _ _) _ _ s
  rw [← Array.forIn_toList]
  refine wpAny_forIn_list _ (fun rest r s' => r.1 = none ∧ s' = s ∧ ∀ v ∈ rest, carriedByValue v = true) _ ?_ ?_ _ _ ⟨rfl, rfl, hi.byValue⟩
  · rintro v rest r s' ⟨hr, rfl, hall⟩
    rw [eqIsQuiet_byValue _ (hall v List.mem_cons_self)]
    refine wpAny_bind (wpAny_pure ?_)
    simp only [Bool.not_true, Bool.false_eq_true, if_false]
    exact wpAny_pure ⟨rfl, rfl, fun u hu' => hall u (List.mem_cons_of_mem _ hu')⟩
  · rintro ⟨r1, r2⟩ s' ⟨hr, rfl, _⟩
    simp only at hr
    subst hr
    exact wpAny_pure h
theorem sign_quiet {k : Sgn} {a : Addr} {Q : Bool → Shared → Prop} (hk : IsSign P w s.heap k a) (h : Q true s) : wpAny (model P w) A (eqIsQuiet 8 (.ref a)) Q E s := by
  have hT := hk.typeIs
  obtain ⟨o, t, q, n, ho, _, hd, hi⟩ := hk
  unfold eqIsQuiet
  refine wpAny_bind (wpAny_specialOf hT F.slot_tuple_eq.lookup ?_)
  show wpAny _ _ (isInstance (.ref a) (.type "tuple") >>= _) _ _ s
  refine wpAny_bind (wpAny_isInstance hT isSubtype_tuple_tuple ?_)
  simp only [Bool.not_true, Bool.false_eq_true, if_false]
  refine wpAny_bind (wpAny_seqItems ho hd ?_)
  refine wpAny_bind ?_
  show wpAny _ _ (forIn #[Value.str k.1 t, .ref q] _ _) _ _ s
  rw [← Array.forIn_toList]
  refine wpAny_forIn_list _ (fun rest r s' => r.1 = none ∧ s' = s ∧ ∀ v ∈ rest, carriedByValue v = true ∨ v = .ref q) _ ?_ ?_ _ _ ⟨rfl, rfl, fun v hv => ?_⟩
  · rintro v rest r s' ⟨hr, rfl, hall⟩
    rcases hall v List.mem_cons_self with hv | rfl
    · rw [eqIsQuiet_byValue _ hv]
      refine wpAny_bind (wpAny_pure ?_)
      simp only [Bool.not_true, Bool.false_eq_true, if_false]
      exact wpAny_pure ⟨rfl, rfl, fun u hu' => hall u (List.mem_cons_of_mem _ hu')⟩
    · refine wpAny_bind (quiet7 hi ?_)
      simp only [Bool.not_true, Bool.false_eq_true, if_false]
      exact wpAny_pure ⟨rfl, rfl, fun u hu' => hall u (List.mem_cons_of_mem _ hu')⟩
  · rintro ⟨r1, r2⟩ s' ⟨hr, rfl, _⟩
    simp only at hr
    subst hr
    exact wpAny_pure h
  · rcases List.mem_cons.mp hv with rfl | hv
    · exact .inl rfl
    · exact .inr (List.mem_singleton.mp hv)
end
def signKind (P : Program) (w : World) : HeapKind P w Sgn where
  is := IsSign P w
  hash := signHash P w
  draws := fun k => k.2.length + 3
  room := fun A => A.units + 10 < cLine
  inj := fun hx hy => hx.inj hy
  keeps := fun x ho hd hs => x.keeps ho hd hs
  pyHash := fun hu hk h => sign_hash hu hk h
  eqBool := fun hu hx hy h => sign_eq hu hx hy h
  quiet := fun hk h => sign_quiet hk h
section
variable {prog : Program} {w : World} {K : Type} [DecidableEq K] {knd : HeapKind prog w K} {A : Around} {E : Value → Shared → Prop} {s : Shared}
end
end L2

/-! setdefault of a dict by signs: the rule. Behind Ext16. -/
namespace L2
open PySem PySem.Spec PyProof.Rows
abbrev SE := Sgn × Addr × V
def relS (p : SE) (q : Sgn × Addr × Value) : Prop := p.1 = q.1 ∧ p.2.1 = q.2.1 ∧ RelV p.2.2 q.2.2
def SDict (P : Program) (w : World) (a : Addr) (kvs : List SE) : HO := .ext fun h => (a == sysModules) = false ∧ ∃ xs : List (Sgn × Addr × Value), Paired relS kvs xs ∧
  ∃ o es ep, h.get? a = some o ∧ o.ExactDict ∧ o.data = .dict es ep ∧ es.toList = xs.map (entryOfKey (signKind P w)) ∧ (xs.map (·.1)).Nodup
def SD (P : Program) (w : World) (H : Hp) (a : Addr) (kvs : List SE) : Prop := (H a = some (.dK []) ∧ kvs = []) ∨ H a = some (SDict P w a kvs)
def SgnAt (K : PySem.W.Frag) (H : Hp) (k : Sgn) (p : Addr) : Prop := ∃ q, SqT K H p [.str k.1, .ref q] ∧ SqT K H q (k.2.map kV)
def atS (kvs : List SE) (k : Sgn) : Option SE := kvs.find? fun e => decide (e.1 = k)
section
variable {X : Cx}
def rSetd (P : Program) (w : World) (K : PySem.W.Frag) : V → List V → Hp → VK → Prop := fun x vs H Q => ∃ d p k v kvs, x = .ref d ∧ vs = [.ref p, v] ∧ SD P w H d kvs ∧ kvs.length < sizeLine ∧ (∀ e ∈ kvs, SgnAt K H e.1 e.2.1) ∧ SgnAt K H k p ∧
  ((∃ e, atS kvs k = some e ∧ Q e.2.2 H) ∨ (atS kvs k = none ∧ Q v (upd H d (SDict P w d (kvs ++ [(k, p, v)])))))
def tSetd (P : Program) (w : World) (K : PySem.W.Frag) (to : TE) (t : TA) : TE := fun σ H Q => to σ H fun x H1 => (∃ d kvs, x = .ref d ∧ SD P w H1 d kvs) ∧ t σ H1 fun xs H2 => rSetd P w K x xs H2 Q
end
end L2

/-! t[::-1] of a tuple. Behind Ext17. -/
namespace HT
open PySem PySem.Spec PyProof.Rows
section
variable {prog : Program} {w : World} {A : Around} {E : Value → Shared → Prop} {s : Shared}
end
end HT
namespace L2
open PySem PySem.Spec PyProof.Rows
section
variable {X : Cx} {e st : Expr} {te ts : TE} {pos p2 : Pos}
def tRevT (K : PySem.W.Frag) (te ts : TE) : TE := fun σ H Q => te σ H fun x H1 => ts σ H1 fun y H2 => y = .int (-1) ∧ ∃ a xs, x = .ref a ∧ SqT K H2 a xs ∧ ∀ p, H2 p = none → Q (.ref p) (upd H2 p (.tup xs.reverse))
end
end L2

/-! zip of two tuples in a for or a comprehension. Behind Ext18. -/
namespace L2
open PySem PySem.Spec PyProof.Rows
section
variable {prog : Program} {w : World} {A : Around} {E : Value → Shared → Prop} {s : Shared}
theorem nextOf_tup {it t : Addr} {i : Nat} {items} {x : Value} {Q : Value → Shared → Prop} (hit : s.heap.IsTupleIter it t i) (ht : s.heap.IsTuple t items) (hx : items[i]? = some x)
    (hQ : ∀ h', h'.IsTupleIter it t (i + 1) → Heap.SameBut it s.heap h' → Q x { s with heap := h' }) : wpAny (model prog w) A (Builtin.SmallTypes.nextOf (.ref it)) Q E s := by
  obtain ⟨o, ho, hc, hd⟩ := id hit
  obtain ⟨ol, hol, _, nl, hdl⟩ := ht
  unfold Builtin.SmallTypes.nextOf
  refine wpAny_bind (wpAny_callSpecial?_slot (name := Str.ofString "__next__") hit.typeIs F.slot_tuple_iterator_next (wpAny_call_entry F.slot_tuple_iterator_next hit.typeIs F.entry_tuple_iterator_next ?_ (F.args_tuple_iterator_next_1 _)))
  show wpAny _ _ (field (.ref it) 0 >>= _) _ _ s
  refine wpAny_bind (wpAny_field ho hd (x := .ref t) rfl ?_)
  show wpAny _ _ (if (Value.ref t == Value.none) = true then _ else _) _ _ s
  rw [if_neg (show ¬ ((Value.ref t == Value.none) = true) from Bool.false_ne_true)]
  show wpAny _ _ (field (.ref it) 1 >>= _) _ _ s
  refine wpAny_bind (wpAny_field ho hd (x := .int i 0) rfl ?_)
  show wpAny _ _ (seqItems? (.ref t) >>= _) _ _ s
  refine wpAny_bind (wpAny_seqItems hol hdl ?_)
  simp only [Int.toNat_natCast, hx]
  refine wpAny_bind (wpAny_setField ho hd (by simp) (wpAny_pure ⟨x, rfl, wpAny_pure (hQ _ ?_ (Heap.SameBut.update ..))⟩))
  exact ⟨_, Heap.get?_update_self _ ho (Obj.isFreed_of_fields (Obj.data_mapFields hd _)), (Obj.cls_mapFields ..).trans hc, by
    rw [Obj.data_mapFields hd]; simp [rawInt]⟩
theorem nextOf_tup_end {it t : Addr} {i : Nat} {items} {Q : Value → Shared → Prop} (hh : A.handled = none) (hit : s.heap.IsTupleIter it t i) (ht : s.heap.IsTuple t items) (hx : items[i]? = none)
    (hE : ∀ h' e, Heap.ExtBut it s.heap h' → (∃ o, h'.get? e = some o ∧ o.cls = .type "StopIteration") → E (.ref e) { s with heap := h' }) : wpAny (model prog w) A (Builtin.SmallTypes.nextOf (.ref it)) Q E s := by
  obtain ⟨o, ho, hc, hd⟩ := id hit
  obtain ⟨ol, hol, _, nl, hdl⟩ := ht
  unfold Builtin.SmallTypes.nextOf
  refine wpAny_bind (wpAny_callSpecial?_slot (name := Str.ofString "__next__") hit.typeIs F.slot_tuple_iterator_next (wpAny_call_entry F.slot_tuple_iterator_next hit.typeIs F.entry_tuple_iterator_next ?_ (F.args_tuple_iterator_next_1 _)))
  show wpAny _ _ (field (.ref it) 0 >>= _) _ _ s
  refine wpAny_bind (wpAny_field ho hd (x := .ref t) rfl ?_)
  show wpAny _ _ (if (Value.ref t == Value.none) = true then _ else _) _ _ s
  rw [if_neg (show ¬ ((Value.ref t == Value.none) = true) from Bool.false_ne_true)]
  show wpAny _ _ (field (.ref it) 1 >>= _) _ _ s
  refine wpAny_bind (wpAny_field ho hd (x := .int i 0) rfl ?_)
  show wpAny _ _ (seqItems? (.ref t) >>= _) _ _ s
  refine wpAny_bind (wpAny_seqItems hol hdl ?_)
  simp only [Int.toNat_natCast, hx]
  refine wpAny_bind (wpAny_rule (wpAny_bind (wpAny_setField ho hd (by simp) ?_)))
  show wpAny _ _ (newExc (.type "StopIteration") [] >>= _) _ _ _
  refine wpAny_bind ?_
  simp only [newExc, newTuple]
  refine wpAny_bind (wpAny_newObj_type ?_ (by size_fits))
  refine wpAny_bind (m := firstArgMember _ _) (wpAny_of_eq (a := Value.none) (by first | rfl | (simp only [firstArgMember]; rfl)) ?_)
  refine wpAny_newObj_type ?_ (by size_fits)
  simp only [raiseNew]
  refine wpAny_bind (wpAny_handled ?_)
  first | rw [show A.in1.handled = none from hh] | rw [hh]
  refine wpAny_bind (wpAny_pure (wpAny_throw ?_))
  exact hE _ _ (((Heap.SameBut.update ..).extBut.push _).push _) ⟨_, Heap.get?_push_size _ rfl, rfl⟩
/-- a tuple and its iterator -/
def TuI (h : Heap) (it t : Addr) (i : Nat) (xs : Array Value) : Prop := h.IsTupleIter it t i ∧ h.IsTuple t xs
theorem TuI.ext {h h' : Heap} {it t b : Addr} {i : Nat} {xs : Array Value} (x : TuI h it t i xs) (hs : Heap.ExtBut b h h') (h1 : it ≠ b) (h2 : t ≠ b) : TuI h' it t i xs := ⟨x.1.extBut hs h1, x.2.extBut hs h2⟩
end
abbrev zpT1 (h : Heap) (l1 : Addr) : Heap := h.push { cls := .type "tuple_iterator", data := .fields #[.ref l1, .int 0 0] }
abbrev zpT2 (h : Heap) (l1 l2 : Addr) : Heap := (zpT1 h l1).push { cls := .type "tuple_iterator", data := .fields #[.ref l2, .int 0 0] }
abbrev zpT3 (h : Heap) (l1 l2 : Addr) : Heap := (zpT2 h l1 l2).push { cls := .type "tuple", data := .seq #[.ref h.objs.size, .ref (zpT1 h l1).objs.size] }
abbrev zpT4 (h : Heap) (l1 l2 : Addr) : Heap := (zpT3 h l1 l2).push { cls := .type "tuple", data := .seq #[.none, .none] }
abbrev zpT5 (h : Heap) (l1 l2 : Addr) : Heap := (zpT4 h l1 l2).push { cls := .type "zip", data := .fields #[.none, .bool false, .bool false, .ref (zpT2 h l1 l2).objs.size, .ref (zpT3 h l1 l2).objs.size] }
theorem meets_zipT (l1 l2 : Addr) (xs ys : Array Value) :
    Meets (Builtin.«zip.__new__» ⟨[.type "zip", .ref l1, .ref l2], []⟩) (fun _ R s => s.heap.IsTuple l1 xs ∧ s.heap.IsTuple l2 ys ∧ R (.ok (.ret (.ref (zpT4 s.heap l1 l2).objs.size))) { s with heap := zpT5 s.heap l1 l2 }) :=
  .of_wp fun prog w A R s h => by
    obtain ⟨hp, g, d, tk, os⟩ := s; obtain ⟨hl1, hl2, h⟩ := h
    have hsub := sub_zip
    have hL1 : Heap.IsTuple (Shared.heap ⟨hp, g, d, tk, os⟩) l1 xs := hl1
    have hL2 : Heap.IsTuple (Shared.heap ⟨hp.push { cls := .type "tuple_iterator", data := .fields #[.ref l1, .int 0 0] }, g, d, tk, os⟩) l2 ys := Heap.IsTuple.push hl2 _
    wp_walk using wpAny_pyIter_tuple hL1, wpAny_pyIter_tuple hL2
    exact ⟨_, rfl, h⟩
section
variable {prog : Program} {w : World} {A : Around} {E : Value → Shared → Prop} {s : Shared}
theorem call_zipT {l1 l2 : Addr} {xs ys : Array Value} {Q : Value → Shared → Prop} (hl1 : s.heap.IsTuple l1 xs) (hl2 : s.heap.IsTuple l2 ys)
    (h : ∀ h', IsZip h' (s.heap.objs.size + 4) (s.heap.objs.size + 2) (s.heap.objs.size + 3) .none → IsPair h' (s.heap.objs.size + 2) (.ref s.heap.objs.size) (.ref (s.heap.objs.size + 1)) →
      IsPair h' (s.heap.objs.size + 3) .none .none → h'.IsTupleIter s.heap.objs.size l1 0 → h'.IsTupleIter (s.heap.objs.size + 1) l2 0 → h'.objs.size = s.heap.objs.size + 5 →
      (∀ c o, s.heap.get? c = some o → h'.get? c = some o) → Q (.ref (s.heap.objs.size + 4)) { s with heap := h' }) :
    wpAny (model prog w) A (call (.type "zip") [.ref l1, .ref l2]) Q E s := by
  refine callType_new F.called_zip (by decide) (F.typeCall_zip_2 _ _) (F.newCall_zip_2 _ _) (fun obj => F.args_object_init_3 obj _ _) F.entry_zip_new (meets_zipT l1 l2 xs ys) ⟨hl1, hl2, ?_⟩
  have z1 : (zpT1 s.heap l1).objs.size = s.heap.objs.size + 1 := Heap.size_push ..
  have z2 : (zpT2 s.heap l1 l2).objs.size = s.heap.objs.size + 2 := by rw [Heap.size_push, z1]
  have z3 : (zpT3 s.heap l1 l2).objs.size = s.heap.objs.size + 3 := by rw [Heap.size_push, z2]
  have z4 : (zpT4 s.heap l1 l2).objs.size = s.heap.objs.size + 4 := by rw [Heap.size_push, z3]
  have z5 : (zpT5 s.heap l1 l2).objs.size = s.heap.objs.size + 5 := by rw [Heap.size_push, z4]
  have g5 : (zpT5 s.heap l1 l2).get? (zpT4 s.heap l1 l2).objs.size = some _ := Heap.get?_push_size _ rfl
  have g4 : (zpT5 s.heap l1 l2).get? (zpT3 s.heap l1 l2).objs.size = some _ := Heap.get?_push_of_some _ (Heap.get?_push_size _ rfl)
  have g3 : (zpT5 s.heap l1 l2).get? (zpT2 s.heap l1 l2).objs.size = some _ := Heap.get?_push_of_some _ (Heap.get?_push_of_some _ (Heap.get?_push_size _ rfl))
  have g2 : (zpT5 s.heap l1 l2).get? (zpT1 s.heap l1).objs.size = some _ := Heap.get?_push_of_some _ (Heap.get?_push_of_some _ (Heap.get?_push_of_some _ (Heap.get?_push_size _ rfl)))
  have g1 : (zpT5 s.heap l1 l2).get? s.heap.objs.size = some _ := Heap.get?_push_of_some _ (Heap.get?_push_of_some _ (Heap.get?_push_of_some _ (Heap.get?_push_of_some _ (Heap.get?_push_size _ rfl))))
  have kk : ∀ c o, s.heap.get? c = some o → (zpT5 s.heap l1 l2).get? c = some o := fun c o e => Heap.get?_push_of_some _ (Heap.get?_push_of_some _ (Heap.get?_push_of_some _ (Heap.get?_push_of_some _ (Heap.get?_push_of_some _ e))))
  show _ ∧ _
  rw [z2, z3, z4] at g5
  rw [z1, z2] at g3
  rw [z3] at g4
  rw [z1] at g2
  rw [z4]
  exact ⟨⟨_, g5, rfl⟩, h _ g5 g3 g4 ⟨_, g1, rfl, rfl⟩ ⟨_, g2, rfl, rfl⟩ z5 kk⟩
end
/-! ### the walk -/
def ItzT (K : PySem.W.Frag) (a b : Addr) : It :=
  ⟨fun i H => ∃ xs ys x y, SqT K H a xs ∧ SqT K H b ys ∧ xs[i]? = some x ∧ ys[i]? = some y, fun i H x H' => ∃ p y z, x = .ref p ∧ H p = none ∧ H' = upd H p (.tup [y, z]) ∧ (∀ xs, SqT K H a xs → xs[i]? = some y) ∧ ∀ ys, SqT K H b ys → ys[i]? = some z,
    fun i H => ∃ xs ys, SqT K H a xs ∧ SqT K H b ys ∧ (xs.length ≤ i ∨ ys.length ≤ i)⟩
theorem wk_zipT {K : PySem.W.Frag} {a b : Addr} {xs ys : List V} (h : xs.length = ys.length) : Wk (ItzT K a b) xs.length (fun H => SqT K H a xs ∧ SqT K H b ys) :=
  ⟨fun _ _ q hi => ⟨xs, ys, q.1, q.2, .inl hi⟩, fun i _ q hi => ⟨xs, ys, xs[i], ys[i]'(by omega), q.1, q.2, by simp [hi], by simp⟩⟩
def iZipT (K : PySem.W.Frag) (ta : TA) : L2.TI := fun σ H R => ta σ H fun vs H1 => ∃ a b, vs = [.ref a, .ref b] ∧ (∃ xs, SqT K H1 a xs) ∧ (∃ ys, SqT K H1 b ys) ∧ R (ItzT K a b) H1
end L2

/-! a text times an int; isinstance against an own class. Behind Ext19. -/
namespace L2
open PySem PySem.Spec PyProof.Rows
section
variable {X : Cx}
end
end L2

/-! sorted of a list of ints. Behind Ext20. -/
namespace L2
open PySem PySem.Spec PyProof.Rows
section
variable {X : Cx}
end
end L2

/-! zip of two tuples with a name as the target: the tuple that was handed out may be alive or gone. Behind Ext21. -/
namespace L2
open PySem PySem.Spec PyProof.Rows
abbrev IsZN (h : Heap) (z TI TO : Addr) (m : Value) (f : Bool) : Prop :=
  h.get? z = some { cls := .type "zip", dict := none, data := .fields #[m, .bool f, .bool false, .ref TI, .ref TO], slots := #[] }
def MkZ (m : Value) : Prop := m = .none ∨ ∃ n : Nat, m = rawInt n
section
variable {prog : Program} {w : World} {A : Around} {E : Value → Shared → Prop} {s : Shared}
theorem alive_ {a : Addr} {Q : Option Obj → Shared → Prop} (h : Q (s.heap.get? a) s) : wpAny (model prog w) A (loadIfAlive a) Q E s := fun _ _ _ => h
theorem ownedFree {z TI TO : Addr} {m : Value} {f : Bool} {Q : Bool → Shared → Prop} (hz : IsZN s.heap z TI TO m f) (hm : MkZ m) (h1 : Q true s)
    (h2 : ∀ h', IsZN h' z TI TO m true → Heap.SameBut z s.heap h' → Q false { s with heap := h' }) : wpAny (model prog w) A (Builtin.SmallTypes.ownedTupleIsFree (.ref z)) Q E s := by
  unfold Builtin.SmallTypes.ownedTupleIsFree
  rcases hm with rfl | ⟨n, rfl⟩
  · exact wpAny_bind (wpAny_field hz rfl (x := .none) rfl (wpAny_pure h1))
  · refine wpAny_bind (wpAny_field hz rfl (x := rawInt n) rfl ?_)
    show wpAny _ _ (loadIfAlive (Int.toNat (n : Int)) >>= _) _ _ _
    refine wpAny_bind (alive_ ?_)
    cases s.heap.get? (Int.toNat (n : Int)) with
    | none => exact wpAny_pure h1
    | some o =>
      show wpAny _ _ (field (.ref z) 1 >>= _) _ _ _
      refine wpAny_bind (wpAny_field hz rfl (x := .bool f) rfl ?_)
      cases f with
      | true => exact wpAny_pure (h2 _ hz ⟨rfl, fun _ _ => rfl⟩)
      | false =>
        show wpAny _ _ (setField (.ref z) 1 (.bool true) >>= _) _ _ _
        exact wpAny_bind (wpAny_setField_rec hz (by simp) fun h' hz' hs' => wpAny_pure (h2 _ hz' hs'))
theorem zipN_item {z TI' TO i1 i2 l1 l2 : Addr} {k1 k2 : Nat} {m : Value} {f : Bool} {xs ys : Array Value} {x y a b : Value} {Q : Value → Shared → Prop} (D : ZipApart z TI' TO i1 i2 l1 l2)
    (hz : IsZN s.heap z TI' TO m f) (hm : MkZ m) (hTI : IsPair s.heap TI' (.ref i1) (.ref i2)) (hTO : IsPair s.heap TO a b) (h1 : TuI s.heap i1 l1 k1 xs) (h2 : TuI s.heap i2 l2 k2 ys) (hx : xs[k1]? = some x) (hy : ys[k2]? = some y)
    (hQ : ∀ h', (∃ m' f', MkZ m' ∧ IsZN h' z TI' TO m' f') → (∃ u v, IsPair h' TO u v) → h'.IsTupleIter i1 l1 (k1 + 1) → h'.IsTupleIter i2 l2 (k2 + 1) → IsPair h' s.heap.objs.size x y → h'.objs.size = s.heap.objs.size + 1 →
      (∀ c o, c ≠ z → c ≠ TO → c ≠ i1 → c ≠ i2 → s.heap.get? c = some o → h'.get? c = some o) → Q (.ref s.heap.objs.size) { s with heap := h' }) :
    wpAny (model prog w) A (Builtin.«zip.__next__» ⟨[.ref z], []⟩) (fun fin s' => ∃ v, fin = .done (.ret v) ∧ Q v s') E s := by
  show wpAny _ _ (field (.ref z) 2 >>= _) _ _ _
  refine wpAny_bind (wpAny_field hz rfl (x := .bool false) rfl ?_)
  show wpAny _ _ (field (.ref z) 3 >>= _) _ _ _
  refine wpAny_bind (wpAny_field hz rfl (x := .ref TI') rfl ?_)
  refine wpAny_bind (wpAny_seqItems hTI rfl ?_)
  show wpAny _ _ (Builtin.SmallTypes.ownedTupleIsFree (.ref z) >>= _) _ _ _
  refine wpAny_bind (ownedFree hz hm ?_ fun h₁ hz₁ hs₁ => ?_)
  · simp only [if_true]
    refine wpAny_bind (wpAny_rule ?_)
    refine wpAny_bind (wpAny_field hz rfl (x := .ref TO) rfl ?_)
    refine wpAny_bind (wpAny_setField_rec hz (by simp) fun h₁ hz₁ hs₁ => ?_)
    replace hz₁ : IsZN h₁ z TI' TO .ellipsis f := hz₁
    refine wpAny_bind ?_
    simp only [List.zipIdx_cons, List.zipIdx_nil, List.forIn_cons, List.forIn_nil]
    refine wpAny_bind (wpAny_bind (wpAny_onRaise ?_))
    show wpAny _ _ (Builtin.SmallTypes.nextOf (.ref i1) >>= _) _ _ _
    have a1 := h1.ext hs₁.extBut D.i1z D.l1z
    refine wpAny_bind (nextOf_tup a1.1 a1.2 hx fun h₂ h1₂ hs₂ => wpAny_pure ?_)
    have hTO₂ : IsPair h₂ TO a b := hs₂.extBut _ _ D.TOi1 (hs₁.extBut _ _ D.TOz hTO)
    refine wpAny_bind (wpAny_seqItems hTO₂ rfl ?_)
    refine wpAny_bind (wpAny_updateSeq_pair hTO₂ fun h₃ hTO₃ hs₃ => ?_)
    replace hTO₃ : IsPair h₃ TO x b := hTO₃
    refine wpAny_bind (wpAny_letGo (wpAny_pure ?_))
    refine wpAny_bind (wpAny_bind (wpAny_onRaise ?_))
    show wpAny _ _ (Builtin.SmallTypes.nextOf (.ref i2) >>= _) _ _ _
    have a2 := ((h2.ext hs₁.extBut D.i2z D.l2z).ext hs₂.extBut D.i12.symm D.l2i1).ext hs₃.extBut D.TOi2.symm D.l2TO
    refine wpAny_bind (nextOf_tup a2.1 a2.2 hy fun h₄ h2₄ hs₄ => wpAny_pure ?_)
    have hTO₄ : IsPair h₄ TO x b := hs₄.extBut _ _ D.TOi2 hTO₃
    refine wpAny_bind (wpAny_seqItems hTO₄ rfl ?_)
    refine wpAny_bind (wpAny_updateSeq_pair hTO₄ fun h₅ hTO₅ hs₅ => ?_)
    replace hTO₅ : IsPair h₅ TO x y := hTO₅
    refine wpAny_bind (wpAny_letGo (wpAny_pure (wpAny_pure ?_)))
    refine wpAny_bind (wpAny_seqItems hTO₅ rfl ?_)
    refine wpAny_bind (wpAny_newTuple ?_)
    have hsz : h₅.objs.size = s.heap.objs.size := by rw [hs₅.1, hs₄.1, hs₃.1, hs₂.1, hs₁.1]
    have hz₅ : IsZN h₅ z TI' TO .ellipsis f := hs₅.extBut _ _ D.TOz.symm (hs₄.extBut _ _ D.i2z.symm (hs₃.extBut _ _ D.TOz.symm (hs₂.extBut _ _ D.i1z.symm hz₁)))
    have hk₅ : ∀ c o, c ≠ z → c ≠ TO → c ≠ i1 → c ≠ i2 → s.heap.get? c = some o → h₅.get? c = some o := fun c o c1 c2 c3 c4 e =>
      hs₅.extBut _ _ c2 (hs₄.extBut _ _ c4 (hs₃.extBut _ _ c2 (hs₂.extBut _ _ c3 (hs₁.extBut _ _ c1 e))))
    have h1₅ : h₅.IsTupleIter i1 l1 (k1 + 1) := ((h1₂.extBut hs₃.extBut D.TOi1.symm).extBut hs₄.extBut D.i12).extBut hs₅.extBut D.TOi1.symm
    have h2₅ : h₅.IsTupleIter i2 l2 (k2 + 1) := h2₄.extBut hs₅.extBut D.TOi2.symm
    have hzlt : z < h₅.objs.size := Heap.lt_size hz₅
    show wpAny _ _ (Builtin.SmallTypes.ownedTupleHandOut (.ref z) (.ref h₅.objs.size) >>= _) _ _ _
    refine wpAny_bind ?_
    unfold Builtin.SmallTypes.ownedTupleHandOut
    have hz₆ : IsZN (h₅.push { cls := .type "tuple", data := .seq #[x, y] }) z TI' TO .ellipsis f := Heap.get?_push_of_some _ hz₅
    refine wpAny_bind (wpAny_setField_rec hz₆ (by simp) fun h₇ hz₇ hs₇ => ?_)
    replace hz₇ : IsZN h₇ z TI' TO (rawInt h₅.objs.size) f := hz₇
    refine wpAny_setField_rec hz₇ (by simp) fun h₈ hz₈ hs₈ => ?_
    replace hz₈ : IsZN h₈ z TI' TO (rawInt h₅.objs.size) false := hz₈
    have up : ∀ c o, c ≠ z → h₅.get? c = some o → h₈.get? c = some o := fun c o c1 e => hs₈.extBut _ _ c1 (hs₇.extBut _ _ c1 (Heap.get?_push_of_some _ e))
    have hT₈ : IsPair h₈ h₅.objs.size x y := hs₈.extBut _ _ (Nat.ne_of_gt hzlt) (hs₇.extBut _ _ (Nat.ne_of_gt hzlt) (Heap.get?_push_size _ rfl))
    have hz8 : h₈.objs.size = h₅.objs.size + 1 := by rw [hs₈.1, hs₇.1, Heap.size_push]
    rw [hsz] at hz₈ hT₈ hz8
    refine wpAny_pure ⟨_, rfl, ?_⟩
    show Q (.ref h₅.objs.size) _
    rw [hsz]
    exact hQ h₈ ⟨_, _, .inr ⟨_, rfl⟩, hz₈⟩ ⟨_, _, up _ _ D.TOz hTO₅⟩ (h1₅.at fun o e => up _ o D.i1z e) (h2₅.at fun o e => up _ o D.i2z e) hT₈ hz8 fun c o c1 c2 c3 c4 e => up c o c1 (hk₅ c o c1 c2 c3 c4 e)
  · simp only [Bool.false_eq_true, if_false]
    refine wpAny_bind ?_
    simp only [List.forIn_toArray, List.forIn_cons, List.forIn_nil]
    have a1 := h1.ext hs₁.extBut D.i1z D.l1z
    refine wpAny_bind (wpAny_bind (wpAny_holding ?_))
    show wpAny _ _ (Builtin.SmallTypes.nextOf (.ref i1) >>= _) _ _ _
    refine wpAny_bind (nextOf_tup a1.1 a1.2 hx fun h₂ h1₂ hs₂ => wpAny_pure (wpAny_pure ?_))
    have a2 := (h2.ext hs₁.extBut D.i2z D.l2z).ext hs₂.extBut D.i12.symm D.l2i1
    refine wpAny_bind (wpAny_bind (wpAny_holding ?_))
    show wpAny _ _ (Builtin.SmallTypes.nextOf (.ref i2) >>= _) _ _ _
    refine wpAny_bind (nextOf_tup a2.1 a2.2 hy fun h₃ h2₃ hs₃ => wpAny_pure (wpAny_pure (wpAny_pure ?_)))
    show wpAny _ _ (newTuple [x, y] >>= _) _ _ _
    refine wpAny_bind (wpAny_newTuple (wpAny_pure ⟨_, rfl, ?_⟩))
    have hsz : h₃.objs.size = s.heap.objs.size := by rw [hs₃.1, hs₂.1, hs₁.1]
    have kk : ∀ c o, c ≠ z → c ≠ i1 → c ≠ i2 → s.heap.get? c = some o → (h₃.push { cls := .type "tuple", data := .seq #[x, y] }).get? c = some o := fun c o c1 c3 c4 e =>
      Heap.get?_push_of_some _ (hs₃.extBut _ _ c4 (hs₂.extBut _ _ c3 (hs₁.extBut _ _ c1 e)))
    have hT : IsPair (h₃.push { cls := .type "tuple", data := .seq #[x, y] }) h₃.objs.size x y := Heap.get?_push_size _ rfl
    show Q (.ref h₃.objs.size) _
    rw [hsz] at hT ⊢
    refine hQ _ ⟨_, _, hm, Heap.get?_push_of_some _ (hs₃.extBut _ _ D.i2z.symm (hs₂.extBut _ _ D.i1z.symm hz₁))⟩ ⟨_, _, kk _ _ D.TOz D.TOi1 D.TOi2 hTO⟩ ?_ ?_ hT (by rw [Heap.size_push, hsz]) fun c o c1 _ c3 c4 e => kk c o c1 c3 c4 e
    · exact (h1₂.extBut hs₃.extBut D.i12).at fun o e => Heap.get?_push_of_some _ e
    · exact h2₃.at fun o e => Heap.get?_push_of_some _ e
theorem zipN_end {z TI' TO i1 i2 l1 l2 : Addr} {k1 k2 : Nat} {m : Value} {f : Bool} {xs ys : Array Value} {a b : Value} {Q : Fin → Shared → Prop} (hh : A.handled = none) (D : ZipApart z TI' TO i1 i2 l1 l2)
    (hz : IsZN s.heap z TI' TO m f) (hm : MkZ m) (hTI : IsPair s.heap TI' (.ref i1) (.ref i2)) (hTO : IsPair s.heap TO a b) (h1 : TuI s.heap i1 l1 k1 xs) (h2 : TuI s.heap i2 l2 k2 ys) (hend : xs[k1]? = none ∨ ys[k2]? = none)
    (hE : ∀ h' e, (∀ c o, c ≠ z → c ≠ TO → c ≠ i1 → c ≠ i2 → s.heap.get? c = some o → h'.get? c = some o) → (∃ o, h'.get? e = some o ∧ o.cls = .type "StopIteration") → E (.ref e) { s with heap := h' }) :
    wpAny (model prog w) A (Builtin.«zip.__next__» ⟨[.ref z], []⟩) Q E s := by
  show wpAny _ _ (field (.ref z) 2 >>= _) _ _ _
  refine wpAny_bind (wpAny_field hz rfl (x := .bool false) rfl ?_)
  show wpAny _ _ (field (.ref z) 3 >>= _) _ _ _
  refine wpAny_bind (wpAny_field hz rfl (x := .ref TI') rfl ?_)
  refine wpAny_bind (wpAny_seqItems hTI rfl ?_)
  show wpAny _ _ (Builtin.SmallTypes.ownedTupleIsFree (.ref z) >>= _) _ _ _
  refine wpAny_bind (ownedFree hz hm ?_ fun h₁ hz₁ hs₁ => ?_)
  · simp only [if_true]
    refine wpAny_bind (wpAny_rule ?_)
    refine wpAny_bind (wpAny_field hz rfl (x := .ref TO) rfl ?_)
    refine wpAny_bind (wpAny_setField_rec hz (by simp) fun h₁ hz₁ hs₁ => ?_)
    replace hz₁ : IsZN h₁ z TI' TO .ellipsis f := hz₁
    refine wpAny_bind ?_
    simp only [List.zipIdx_cons, List.zipIdx_nil, List.forIn_cons, List.forIn_nil]
    refine wpAny_bind (wpAny_bind (wpAny_onRaise ?_))
    show wpAny _ _ (Builtin.SmallTypes.nextOf (.ref i1) >>= _) _ _ _
    have a1 := h1.ext hs₁.extBut D.i1z D.l1z
    cases hx : xs[k1]? with
    | none =>
      refine wpAny_bind (nextOf_tup_end hh a1.1 a1.2 hx fun h₂ e hs₂ he => ?_)
      obtain ⟨oe, hoe, hce⟩ := he
      have hz₂ : IsZN h₂ z TI' TO .ellipsis f := hs₂ _ _ D.i1z.symm hz₁
      have hez : e ≠ z := fun x => by subst x; rw [hz₂] at hoe; cases hoe; simp at hce
      refine wpAny_setField_rec hz₂ (by simp) fun h₃ _ hs₃ => hE h₃ e (fun c o c1 _ c3 _ x => hs₃.extBut _ _ c1 (hs₂ _ _ c3 (hs₁.extBut _ _ c1 x))) ⟨oe, hs₃.extBut _ _ hez hoe, hce⟩
    | some x =>
      have hy : ys[k2]? = none := by rcases hend with h | h; rw [hx] at h; cases h; exact h
      refine wpAny_bind (nextOf_tup a1.1 a1.2 hx fun h₂ h1₂ hs₂ => wpAny_pure ?_)
      have hTO₂ : IsPair h₂ TO a b := hs₂.extBut _ _ D.TOi1 (hs₁.extBut _ _ D.TOz hTO)
      refine wpAny_bind (wpAny_seqItems hTO₂ rfl ?_)
      refine wpAny_bind (wpAny_updateSeq_pair hTO₂ fun h₃ hTO₃ hs₃ => ?_)
      refine wpAny_bind (wpAny_letGo (wpAny_pure ?_))
      refine wpAny_bind (wpAny_bind (wpAny_onRaise ?_))
      show wpAny _ _ (Builtin.SmallTypes.nextOf (.ref i2) >>= _) _ _ _
      have a2 := ((h2.ext hs₁.extBut D.i2z D.l2z).ext hs₂.extBut D.i12.symm D.l2i1).ext hs₃.extBut D.TOi2.symm D.l2TO
      refine wpAny_bind (nextOf_tup_end hh a2.1 a2.2 hy fun h₄ e hs₄ he => ?_)
      obtain ⟨oe, hoe, hce⟩ := he
      have hz₄ : IsZN h₄ z TI' TO .ellipsis f := hs₄ _ _ D.i2z.symm (hs₃.extBut _ _ D.TOz.symm (hs₂.extBut _ _ D.i1z.symm hz₁))
      have hez : e ≠ z := fun x => by subst x; rw [hz₄] at hoe; cases hoe; simp at hce
      refine wpAny_setField_rec hz₄ (by simp) fun h₅ _ hs₅ => hE h₅ e (fun c o c1 c2 c3 c4 x => hs₅.extBut _ _ c1 (hs₄ _ _ c4 (hs₃.extBut _ _ c2 (hs₂.extBut _ _ c3 (hs₁.extBut _ _ c1 x))))) ⟨oe, hs₅.extBut _ _ hez hoe, hce⟩
  · simp only [Bool.false_eq_true, if_false]
    refine wpAny_bind ?_
    simp only [List.forIn_toArray, List.forIn_cons, List.forIn_nil]
    have a1 := h1.ext hs₁.extBut D.i1z D.l1z
    refine wpAny_bind (wpAny_bind (wpAny_holding ?_))
    show wpAny _ _ (Builtin.SmallTypes.nextOf (.ref i1) >>= _) _ _ _
    cases hx : xs[k1]? with
    | none =>
      refine wpAny_bind (nextOf_tup_end hh a1.1 a1.2 hx fun h₂ e hs₂ he => ?_)
      exact hE h₂ e (fun c o c1 _ c3 _ x => hs₂ _ _ c3 (hs₁.extBut _ _ c1 x)) he
    | some x =>
      have hy : ys[k2]? = none := by rcases hend with h | h; rw [hx] at h; cases h; exact h
      refine wpAny_bind (nextOf_tup a1.1 a1.2 hx fun h₂ h1₂ hs₂ => wpAny_pure (wpAny_pure ?_))
      have a2 := (h2.ext hs₁.extBut D.i2z D.l2z).ext hs₂.extBut D.i12.symm D.l2i1
      refine wpAny_bind (wpAny_bind (wpAny_holding ?_))
      show wpAny _ _ (Builtin.SmallTypes.nextOf (.ref i2) >>= _) _ _ _
      refine wpAny_bind (nextOf_tup_end hh a2.1 a2.2 hy fun h₃ e hs₃ he => ?_)
      exact hE h₃ e (fun c o c1 _ c3 c4 x => hs₃ _ _ c4 (hs₂.extBut _ _ c3 (hs₁.extBut _ _ c1 x))) he
theorem pyNext_zipN {z TI' TO i1 i2 l1 l2 : Addr} {k1 k2 : Nat} {m : Value} {f : Bool} {xs ys : Array Value} {x y a b : Value} {Q : Option Value → Shared → Prop} (D : ZipApart z TI' TO i1 i2 l1 l2)
    (hz : IsZN s.heap z TI' TO m f) (hm : MkZ m) (hTI : IsPair s.heap TI' (.ref i1) (.ref i2)) (hTO : IsPair s.heap TO a b) (h1 : TuI s.heap i1 l1 k1 xs) (h2 : TuI s.heap i2 l2 k2 ys) (hx : xs[k1]? = some x) (hy : ys[k2]? = some y)
    (hQ : ∀ h', (∃ m' f', MkZ m' ∧ IsZN h' z TI' TO m' f') → (∃ u v, IsPair h' TO u v) → h'.IsTupleIter i1 l1 (k1 + 1) → h'.IsTupleIter i2 l2 (k2 + 1) → IsPair h' s.heap.objs.size x y → h'.objs.size = s.heap.objs.size + 1 →
      (∀ c o, c ≠ z → c ≠ TO → c ≠ i1 → c ≠ i2 → s.heap.get? c = some o → h'.get? c = some o) → Q (some (.ref s.heap.objs.size)) { s with heap := h' }) :
    wpAny (model prog w) A (pyNext (.ref z)) Q E s := by
  have hT : s.TypeIs (.ref z) "zip" := ⟨_, hz, rfl⟩
  unfold pyNext
  exact wpAny_bind (wpAny_attempt (wpAny_callSpecial?_slot (name := Str.ofString "__next__") hT F.slot_zip_next
    (wpAny_call_entry F.slot_zip_next hT F.entry_zip_next (zipN_item D hz hm hTI hTO h1 h2 hx hy fun h' a1 a2 a3 a4 a5 a6 a7 => wpAny_pure (hQ h' a1 a2 a3 a4 a5 a6 a7)) (F.args_zip_next_1 _))))
theorem pyNext_zipN_end {z TI' TO i1 i2 l1 l2 : Addr} {k1 k2 : Nat} {m : Value} {f : Bool} {xs ys : Array Value} {a b : Value} {Q : Option Value → Shared → Prop} (hh : A.handled = none) (D : ZipApart z TI' TO i1 i2 l1 l2)
    (hz : IsZN s.heap z TI' TO m f) (hm : MkZ m) (hTI : IsPair s.heap TI' (.ref i1) (.ref i2)) (hTO : IsPair s.heap TO a b) (h1 : TuI s.heap i1 l1 k1 xs) (h2 : TuI s.heap i2 l2 k2 ys) (hend : xs[k1]? = none ∨ ys[k2]? = none)
    (hQ : ∀ h', (∀ c o, c ≠ z → c ≠ TO → c ≠ i1 → c ≠ i2 → s.heap.get? c = some o → h'.get? c = some o) → Q none { s with heap := h' }) : wpAny (model prog w) A (pyNext (.ref z)) Q E s := by
  have hT : s.TypeIs (.ref z) "zip" := ⟨_, hz, rfl⟩
  unfold pyNext
  refine wpAny_bind (wpAny_attempt (wpAny_callSpecial?_slot (name := Str.ofString "__next__") hT F.slot_zip_next
    (wpAny_call_entry F.slot_zip_next hT F.entry_zip_next (zipN_end hh D hz hm hTI hTO h1 h2 hend fun h' e hk he => ?_) (F.args_zip_next_1 _))))
  obtain ⟨o, ho, hc⟩ := he
  refine wpAny_bind (wpAny_isInstance (T := "StopIteration") (b := true) ⟨o, ho, hc⟩ isSubtype_stop ?_)
  exact wpAny_pure (hQ _ hk)
end
theorem iter_zipN {prog : Program} {w : World} {A : Around} {E : Value → Shared → Prop} {s : Shared} {z TI' TO : Addr} {m : Value} {f : Bool} {Q : Value → Shared → Prop} (hz : IsZN s.heap z TI' TO m f) (h : Q (.ref z) s) : wpAny (model prog w) A (pyIter (.ref z)) Q E s := by
  have hT : s.TypeIs (.ref z) "zip" := ⟨_, hz, rfl⟩
  refine wpAny_pyIter_slot hT F.slot_zip_iter (wpAny_call_entry F.slot_zip_iter hT F.entry_zip_iter ?_ (F.args_zip_iter_1 _))
  show wpAny _ _ (ret (.ref z)) _ _ s
  exact wpAny_pure ⟨_, rfl, "zip", _, hT, F.slot_zip_next.lookup, h⟩
theorem turn_zipN {P : Program} {w : World} {K : PySem.W.Frag} {nm : String} {pos : Pos} (a b z T TO i1 i2 : Addr) (D : ZipApart z T TO i1 i2 a b) : Turn P w K (.Name nm pos) (ItzT K a b) [z, T, TO, i1, i2] z
    (fun i h => (∃ m f, MkZ m ∧ IsZN h z T TO m f) ∧ IsPair h T (.ref i1) (.ref i2) ∧ (∃ u v, IsPair h TO u v) ∧ h.IsTupleIter i1 a i ∧ h.IsTupleIter i2 b i) where
  mem := by simp
  obj := fun i h st c hc => by
    obtain ⟨⟨m, f, hm, h1⟩, h2, ⟨u, v, h3⟩, ⟨o4, h4, c4, d4⟩, ⟨o5, h5, c5, d5⟩⟩ := st
    simp only [List.mem_cons, List.not_mem_nil, or_false] at hc
    rcases hc with rfl | rfl | rfl | rfl | rfl
    · exact ⟨_, h1, fun v q => by have q' : Data.fields _ = Data.cell v := q; cases q'⟩
    · exact ⟨_, h2, fun v q => by have q' : Data.seq _ _ = Data.cell v := q; cases q'⟩
    · exact ⟨_, h3, fun v q => by have q' : Data.seq _ _ = Data.cell v := q; cases q'⟩
    · exact ⟨o4, h4, fun v q => by rw [d4] at q; cases q⟩
    · exact ⟨o5, h5, fun v q => by rw [d5] at q; cases q⟩
  keep := fun i h h' st k => by
    obtain ⟨⟨m, f, hm, h1⟩, h2, ⟨u, v, h3⟩, h4, h5⟩ := st
    exact ⟨⟨m, f, hm, k z (by simp) _ h1⟩, k T (by simp) _ h2, ⟨u, v, k TO (by simp) _ h3⟩, h4.at fun o q => k i1 (by simp) o q, h5.at fun o q => k i2 (by simp) o q⟩
  item := by
    intro X hP hw hK hc i pins s σ H E I hf st hg
    subst hP hw hK
    obtain ⟨xs, ys, x, y, hq, hq2, hx, hy⟩ := hg
    obtain ⟨its, rv, p, hz⟩ := I.tuple hq
    obtain ⟨its2, rv2, p2, hz2⟩ := I.tuple hq2
    obtain ⟨u, hu, ru⟩ := rv.get hx
    obtain ⟨v, hv, rw'⟩ := rv2.get hy
    obtain ⟨⟨m, f, hm, h1⟩, h2, ⟨u0, v0, h3⟩, h4, h5⟩ := st
    have lz : z < s.heap.objs.size := Heap.lt_size h1
    have lTI : T < s.heap.objs.size := Heap.lt_size h2
    have lTO : TO < s.heap.objs.size := Heap.lt_size h3
    have l1 : i1 < s.heap.objs.size := by obtain ⟨o, e, _⟩ := id h4; exact Heap.lt_size e
    have l2 : i2 < s.heap.objs.size := by obtain ⟨o, e, _⟩ := id h5; exact Heap.lt_size e
    refine pyNext_zipN D h1 hm h2 h3 ⟨h4, show s.heap.IsTuple a its.toArray from p⟩ ⟨h5, show s.heap.IsTuple b its2.toArray from p2⟩ (x := u) (y := v) (by simpa using hu) (by simpa using hv) fun h' g1 g3 g4 g5 gT gz gk => ?_
    refine ⟨_, rfl, wpAny_pure ?_⟩
    have kk : ∀ c o, c ∉ [z, T, TO, i1, i2] → s.heap.get? c = some o → h'.get? c = some o := fun c o hc q =>
      gk c o (fun e => hc (by simp [e])) (fun e => hc (by simp [e])) (fun e => hc (by simp [e])) (fun e => hc (by simp [e])) q
    have new : ObjOk X.prog X.w (upd H s.heap.objs.size (.tup [x, y])) h' s.heap.objs.size (.tup [x, y]) :=
      ⟨Nat.le_of_lt (small1000 (show 2 ≤ 1000 by decide)), [u, v], .cons ru (.cons rw' .nil), _, gT, rfl, _, rfl⟩
    have gTI : h'.get? T = some _ := gk T _ D.TIz D.TITO D.TIi1 D.TIi2 h2
    refine ⟨.ref s.heap.objs.size, _, I.turnedLaid (t' := s.toks) hf kk (Nat.le_refl _) new, rfl, ⟨_, x, y, rfl, I.fresh, rfl, fun zs hzs => by rw [I.tuple_inj hzs hq]; exact hx, fun zs hzs => by rw [I.tuple_inj hzs hq2]; exact hy⟩, ⟨g1, gTI, g3, g4, g5⟩, fun c hc => ?_⟩
    have lc : c < s.heap.objs.size := by
      have hc' := hc
      simp only [List.mem_cons, List.not_mem_nil, or_false] at hc'
      rcases hc' with rfl | rfl | rfl | rfl | rfl <;> assumption
    rw [upd_ne (Nat.ne_of_lt lc)]
    exact (hf c hc).1
  done := by
    intro X hP hw hK hc i pins s σ H E I hf st hg
    subst hP hw hK
    obtain ⟨xs, ys, hq, hq2, hx⟩ := hg
    obtain ⟨its, rv, p, hz⟩ := I.tuple hq
    obtain ⟨its2, rv2, p2, hz2⟩ := I.tuple hq2
    obtain ⟨⟨m, f, hm, h1⟩, h2, ⟨u0, v0, h3⟩, h4, h5⟩ := st
    have hl := rv.length
    have hl2 := rv2.length
    refine pyNext_zipN_end (I.ok.hd hc) D h1 hm h2 h3 ⟨h4, show s.heap.IsTuple a its.toArray from p⟩ ⟨h5, show s.heap.IsTuple b its2.toArray from p2⟩ (hx.elim (fun q => .inl (by simp; omega)) fun q => .inr (by simp; omega)) fun h' gk => ⟨rfl, ?_⟩
    have un : Un (frs X.stack) [z, T, TO, i1, i2] H H s.heap h' := ⟨fun c o q _ _ hc => gk c o (fun e => hc (by simp [e])) (fun e => hc (by simp [e])) (fun e => hc (by simp [e])) (fun e => hc (by simp [e])) q,
      fun c o q _ _ hc => ⟨o.slots, gk c o (fun e => hc (by simp [e])) (fun e => hc (by simp [e])) (fun e => hc (by simp [e])) (fun e => hc (by simp [e])) q⟩, fun _ _ _ n _ => n,
      fun c o q hc => ⟨o, gk c o (fun e => hc (by simp [e])) (fun e => hc (by simp [e])) (fun e => hc (by simp [e])) (fun e => hc (by simp [e])) q⟩, fun _ _ q => q, fun _ _ _ q => q, fun _ ps q => ⟨#[], by rw [q]; simp⟩⟩
    have nfp : ∀ c u, H c = some u → c ∉ [z, T, TO, i1, i2] := fun c u e q => by rw [(hf c q).1] at e; cases e
    have hok : HOk X.prog X.w H h' := fun c u e => by
      refine (I.hok c u e).stay (fun d v hd q => ?_) (fun _ q => q) fun _ _ q => q
      have nd : d ∉ [z, T, TO, i1, i2] := by
        rcases hd with r | r
        · rw [r]; exact nfp c u e
        · exact nfp d _ r
      exact gk d v (fun e => nd (by simp [e])) (fun e => nd (by simp [e])) (fun e => nd (by simp [e])) (fun e => nd (by simp [e])) q
    exact I.call (g' := s.gens) (d' := s.drawn) (t' := s.toks) (ch := [z, T, TO, i1, i2]) un hok I.bare fun c hc => ⟨(hf c hc).2.2.2.1, (hf c hc).2.1, (hf c hc).2.2.2.2.1, (hf c hc).2.2.2.2.2⟩
  self := fun _ _ _ _ _ ⟨⟨_, _, _, h1⟩, _⟩ h => iter_zipN h1 h
theorem pi_zipN {X : Cx} {nm : String} {pt : Pos} {a b : Expr} {ta : TA} {p pos : Pos} (hg : Gl X "zip") (hm : X.mg "zip" = none) (ha : PA X [a, b] ta) (hs : starEach [a, b] X.env = [(false, eval a X.env), (false, eval b X.env)] := by rfl) (hs2 : starEach [b] X.env = [(false, eval b X.env)] := by rfl) : PI X (.Name nm pt) (.Call (.Name "zip" p) [a, b] [] pos) (iZipT X.K ta) := by
  intro pins s σ H R I h
  refine Call_ (ld_blt I hg hm boot_zip (PyProof.Rows.callWith_type1 (thn (ha pos pins s σ H _ I h) fun us s1 ⟨vs, H1, I1, r1, q1⟩ => ?_) (by rw [hs, hs2]) (by rw [hs2]; rfl)))
  obtain ⟨a, b, e, ⟨xs, hq⟩, ⟨ys, hq2⟩, q⟩ := q1
  subst e
  obtain ⟨u, v, rfl, ru, rv'⟩ := r1.two
  cases ru
  cases rv'
  obtain ⟨its, rv, pl, hz⟩ := I1.tuple hq
  obtain ⟨its2, rv2, pl2, hz2⟩ := I1.tuple hq2
  have la : a < s1.heap.objs.size := by obtain ⟨o, e, _⟩ := pl; exact Heap.lt_size e
  have lb : b < s1.heap.objs.size := by obtain ⟨o, e, _⟩ := pl2; exact Heap.lt_size e
  refine call_zipT (show s1.heap.IsTuple a its.toArray from pl) (show s1.heap.IsTuple b its2.toArray from pl2) fun h' h1 h2 h3 h4 h5 hz' kk => ?_
  refine wpAny_pyIter_zip h1 ?_
  have I2 : Inv X pins σ H1 { s1 with heap := h' } := I1.kept (t' := s1.toks) kk
  refine ⟨_, _, _, ItzT X.K a b, H1, rfl, I2, turn_zipN a b _ _ _ _ _ (zipApart_new la lb), ⟨⟨_, _, .inl rfl, h1⟩, h2, ⟨_, _, h3⟩, h4, h5⟩, fun c hc => ?_, q⟩
  have hle : s1.heap.objs.size ≤ c := by
    simp only [List.mem_cons, List.not_mem_nil, or_false] at hc
    rcases hc with rfl | rfl | rfl | rfl | rfl
    · exact Nat.le_add_right _ _
    · exact Nat.le_add_right _ _
    · exact Nat.le_add_right _ _
    · exact Nat.le_refl _
    · exact Nat.le_add_right _ _
  exact I1.fpOk hle (I1.hok.fresh hle)
end L2

/-! a statement behind which a walked dict may be written again. Behind Ext22. -/
namespace L2
open PySem PySem.Spec PyProof.Rows
def tThaw (X : Cx) (ts : TS) : TS := fun D σ H => ts { D with nx := fun σ' H1 => ∃ d o kvs, H1 d = some (.frz o (.dK kvs)) ∧ (∀ o u, X.H₀ d ≠ some (.frz o u)) ∧ D.nx σ' (upd H1 d (.dK kvs)) } σ H
theorem ps_thaw {X : Cx} {st : Stmt} {ts : TS} (h : PS X st ts) : PS X st (tThaw X ts) := by
  intro pins s σ H D I hw
  refine thn (h pins s σ H _ I hw) fun fl s1 q => ?_
  cases fl with
  | next =>
    obtain ⟨σ', H1, I1, d, o, kvs, h1, h2, q⟩ := q
    exact ⟨σ', _, I1.thaw h1 h2, q⟩
  | _ => exact q
end L2

/-! t + u of any two tuples. Behind Ext23. -/
namespace L2
open PySem PySem.Spec PyProof.Rows
section
variable {prog : Program} {w : World} {A : Around} {E : Value → Shared → Prop} {s : Shared}
theorem cat_tup0 {t b : Addr} {vs ws : List Value} {Q : Value → Shared → Prop} (ht : IsTup s.heap t vs.toArray) (hb : IsTup s.heap b ws.toArray) (hv : vs = []) (h : Q (.ref b) s) : wpAny (model prog w) A (binaryOp .Add (.ref t) (.ref b)) Q E s := by
  obtain ⟨⟨cls, dd, data, sl⟩, ho, hc, n, hd⟩ := id ht
  obtain ⟨⟨cls2, dd2, data2, sl2⟩, ho2, hc2, n2, hd2⟩ := id hb
  simp only at hc hd hc2 hd2
  subst hc hd hc2 hd2
  exact concat_meets ⟨_, ho, rfl⟩ ⟨_, ho2, rfl⟩ noFill_tuple_add seq_tuple_add PySem.F.slot_tuple_add PySem.F.entry_tuple_add (PySem.F.args_tuple_add_2 _ _)
      (tuple_addW0 t b vs.toArray ws.toArray n n2 dd dd2 sl sl2 (by simp [hv])) ⟨ho, ho2, h⟩
end
def rCatA (K : PySem.W.Frag) : R2 := fun x y H Q => ∃ a b xs ys, x = .ref a ∧ y = .ref b ∧ SqT K H a xs ∧ SqT K H b ys ∧ xs.length + ys.length ≤ sizeLine ∧ ∀ (H' : Hp) (p : Addr), Same H H' → SqT K H' p (xs ++ ys) → Q (.ref p) H'
theorem op_catA {X : Cx} : OpR X (binaryOp .Add) (rCatA X.K) := by
  intro pins s σ H x y v u Q I rx ry h
  obtain ⟨a, b, xs, ys, e1, e2, ha, hb, hz, q⟩ := h
  by_cases hx : xs = []
  · subst e1 e2
    cases rx
    cases ry
    obtain ⟨its, r1, p1, _⟩ := I.tuple ha
    obtain ⟨its2, r2, p2, _⟩ := I.tuple hb
    refine cat_tup0 p1 p2 (r1.nil_iff.mpr hx) ⟨.ref b, H, I, rfl, q H b (Same.refl _) ?_⟩
    rw [hx]
    exact hb
  · refine op_catT pins s σ H x y v u Q I rx ry ⟨a, b, xs, ys, e1, e2, ha, hb, hx, hz, fun z => ?_, fun z p hp => q _ p (sameNew hp _) (SqT.of upd_same)⟩
    refine q H a (Same.refl _) ?_
    rw [z, List.append_nil]
    exact ha
end L2

/-! OWN RULES: an own exception raised, passed through defs, taken by a try. Behind the layer. -/
namespace L2
open PySem PySem.Spec PyProof.Rows
section
variable {P : Program} {w : World} {H H' : Hp} {h h' B : Heap} {a : Addr} {o : HO}
theorem ObjOk.there (x : ObjOk P w H h a o) : ∃ ob, h.get? a = some ob := by
  cases o with
  | lst xs => obtain ⟨_, _, _, _, q⟩ := x; exact ⟨_, q⟩
  | tup xs => obtain ⟨_, _, _, ob, q, _⟩ := x; exact ⟨_, q⟩
  | dK kvs => obtain ⟨_, _, _, _, o, _, _, q, _⟩ := x; exact ⟨_, q⟩
  | dT kvs => obtain ⟨_, _, _, _, o, _, _, q, _⟩ := x; exact ⟨_, q⟩
  | set S n => obtain ⟨o, _, _, _, q, _⟩ := x; exact ⟨_, q⟩
  | ins C dx fs => obtain ⟨_, _, _, q, _⟩ := x; exact ⟨_, q⟩
  | own y => exact x
  | xd fs => obtain ⟨_, ⟨_, _, _, q, _⟩, _⟩ := x; exact ⟨_, q⟩
  | rng lo hi => obtain ⟨_, _, _, q⟩ := x; exact ⟨_, q⟩
  | frz ob u => exact ⟨_, x.1⟩
  | tbl ps => exact ⟨_, (show h.get? a = some _ from x)⟩
  | met f y => exact ⟨_, (show h.get? a = some _ from x)⟩
  | ext φ => exact x.2.1
/-- all that is tracked stands in B as it is -/
def Trk (H : Hp) (h B : Heap) : Prop := ∀ b ob, H b ≠ none → h.get? b = some ob → B.get? b = some ob
/-- what was there stands in B, what is not tracked as it was; but for the frames -/
def Old (fs : List Addr) (H : Hp) (h B : Heap) : Prop := ∀ b ob, h.get? b = some ob → b ∉ fs → ∃ ob', B.get? b = some ob' ∧ (H b = none → ob' = ob)
theorem HOk.stays (ok : HOk P w H h) (t : Trk H h B) (k : B.StaysIn h') : HOk P w H h' := fun a o e =>
  (ok a o e).stay (fun b u hb q => k b u (t b u (hb.elim (fun z => by rw [z, e]; exact nofun) fun z => by rw [z]; exact nofun) q)) (fun _ q => q) fun _ _ q => q
theorem Trk.stays (ok : HOk P w H h) (t : Trk H h B) (k : B.StaysIn h') : Trk H h' B := fun b ob hb e => by
  cases q : H b with
  | none => exact absurd q hb
  | some u =>
    obtain ⟨ob1, e1⟩ := (ok b u q).there
    have z := t b ob1 hb e1
    have z2 := k b ob1 z
    rw [e] at z2
    cases z2
    exact z
end

/-- an exception of an own class has left a def: where its record is, its class, the heap behind it, what stays -/
def CX1 (P : Program) (w : World) : CXT := fun outer H s E e s' => ∃ (ea C : Addr) (H' : Hp) (B : Heap) (a0 : Value), e = .ref ea ∧ s'.os = s.os ∧ AllBare s'.gens ∧ Un (frs outer) [] H H' s.heap s'.heap ∧ HOk P w H' s'.heap ∧
  Heap.FlyingW B outer ea (.ref C) a0 s'.heap ∧ Trk H' s'.heap B ∧ Old (frs outer) H s.heap B ∧ E (.ref C) none H'
/-- the context of a def out of which exceptions may go -/
structure Xe1 (X : Cx) (E : XK) : Prop where
  xe : X.xe = fun e s' => wpAny (model X.prog X.w) X.A (leaving X.env e) (fun _ s'' => CX1 X.prog X.w X.outer X.H₀ X.s₀ E e s'') (fun e' s'' => CX1 X.prog X.w X.outer X.H₀ X.s₀ E e' s'') s'
  stk : X.stack = X.env :: X.outer
  fr : X.env.frame = some X.env.locals
  ex : X.ex = []
section
variable {X : Cx} {E : XK} {pins : List (Addr × Obj)} {σ : St} {H H' : Hp} {s s' : Shared} {B : Heap} {ea C : Addr} {a0 : Value}
theorem cx1_out (hx : Xe1 X E) (I : Inv X pins σ H s) {s'' : Shared} (os : s''.os = s.os) (bare : AllBare s''.gens) (u : Un (frs X.stack) [] H H' s.heap s'.heap) (ok : HOk X.prog X.w H' s'.heap)
    (fl : Heap.FlyingW B X.outer ea (.ref C) a0 s''.heap) (sm : s'.heap.UpToSlots s''.heap) (trk : Trk H' s'.heap B) (old : Old (frs X.stack) H s.heap B) (hE : E (.ref C) none H') :
    CX1 X.prog X.w X.outer X.H₀ X.s₀ E (.ref ea) s'' := by
  have hfs : frs X.stack = X.env.locals :: X.fs := by
    rw [hx.stk]
    unfold frs
    rw [List.filterMap_cons, hx.fr]
    rfl
  have nx : ∀ b, b ∉ X.ex := fun b hb => by rw [hx.ex] at hb; cases hb
  have nf : ∀ b ob, X.s₀.heap.get? b = some ob → b ∉ X.fs → b ∉ frs X.stack := fun b ob e hb z => by
    rw [hfs] at z
    rcases List.mem_cons.mp z with z | z
    · exact absurd (Nat.lt_of_lt_of_le (Heap.lt_size e) I.ok.above) (by rw [z]; exact Nat.lt_irrefl _)
    · exact hb z
  have st : B.StaysIn s''.heap := fl.1
  have U := I.base
  have old' : Old X.fs X.H₀ X.s₀.heap B := fun b ob e hb => by
    obtain ⟨o1, e1⟩ := U.there b ob e (nx b)
    obtain ⟨o', eB, hB⟩ := old b o1 e1 (nf b ob e hb)
    refine ⟨o', eB, fun n => ?_⟩
    have k := U.keep b ob e n hb (nx b)
    rw [e1] at k
    cases k
    exact hB (U.free b ob e n (nx b))
  have slot : ∀ b ob, X.s₀.heap.get? b = some ob → X.H₀ b = none → b ∈ X.fs → ∃ sl, s''.heap.get? b = some { ob with slots := sl } := fun b ob e n hb => by
    obtain ⟨sl, k⟩ := U.slot b ob e n hb (nx b)
    obtain ⟨sl2, k2⟩ := u.any k (U.free b ob e n (nx b)) (by simp)
    obtain ⟨_, o3, e3, hd⟩ := I.ok.funs.mem hb
    rw [e] at e3
    cases e3
    obtain ⟨sl3, k3⟩ := sm b _ k2 fun vs q => hd vs q
    exact ⟨sl3, k3⟩
  refine ⟨ea, C, H', B, a0, rfl, os.trans I.os, bare, ⟨fun b ob e n hb _ => ?_, fun b ob e n hb _ => slot b ob e n hb, fun b ob e n _ => ?_, fun b ob e _ => ?_, fun b xs q => u.tups b xs (U.tups b xs q), fun b ob xs q => u.frzs b ob xs (U.frzs b ob xs q), fun b ps q => ?_⟩,
    ok.stays trk st, fl, Trk.stays ok trk st, old', hE⟩
  · obtain ⟨o', eB, hB⟩ := old' b ob e hb
    rw [hB n] at eB
    exact st b ob eB
  · obtain ⟨o1, e1⟩ := U.there b ob e (nx b)
    exact u.free b o1 e1 (U.free b ob e n (nx b)) (by simp)
  · by_cases hb : b ∈ X.fs
    · obtain ⟨sl, k⟩ := slot b ob e (I.ok.frf b hb) hb
      exact ⟨_, k⟩
    · obtain ⟨o', eB, _⟩ := old' b ob e hb
      exact ⟨o', st b o' eB⟩
  · obtain ⟨m1, e1⟩ := U.tbls b ps q
    obtain ⟨m2, e2⟩ := u.tbls b _ e1
    exact ⟨m1 ++ m2, by rw [e2, Array.append_assoc]⟩
/-- an exception out of a def that was called goes on out of this one -/
theorem passes1 (hx : Xe1 X E) : Passes (CX1 X.prog X.w) X E := by
  intro pins σ H s e s' I h
  obtain ⟨ea, C, H', B, a0, rfl, os, bare, u, ok, fl, trk, old, hE⟩ := h
  rw [hx.xe]
  have fl2 := fl
  rw [hx.stk] at fl2
  have hfr : X.A.frames = some (X.env :: X.outer) := by rw [I.ok.frames, hx.stk]
  exact wpAny_leaves_onW hfr hx.fr fl2 fun h' fl' sm => cx1_out hx I os bare u ok fl' sm trk old hE
/-- a new exception goes out of this def -/
theorem xe_made {h' : Heap} {vs : List Value} (hx : Xe1 X E) (I : Inv X pins σ H s) (m : Heap.MadeExcOf s.heap h' ea (.ref C) vs) (hE : E (.ref C) none H) : X.xe (.ref ea) { s with heap := h' } := by
  rw [hx.xe]
  have hl : s.heap.FunFrames (PySem.W.hideAll s.heap (frs X.stack)) X.stack := PySem.W.funFrames_hide I.stack fun env he a ha => List.mem_filterMap.mpr ⟨env, he, ha⟩
  have hl2 : s.heap.FunFrames (PySem.W.hideAll s.heap (frs X.stack)) (X.env :: X.outer) := by
    have z := hl
    rw [show X.stack = X.env :: X.outer from hx.stk] at z ⊢
    exact z
  have hfr : X.A.frames = some (X.env :: X.outer) := by rw [I.ok.frames, hx.stk]
  refine wpAny_leaves_madeW (base := PySem.W.hideAll s.heap (frs X.stack)) (h := s.heap) hfr hx.fr (fun b ob q => PySem.W.of_hideAll _ q) hl2 m fun h'' t fl _ _ sm => ?_
  refine cx1_out (s' := { s with heap := h' }) hx I rfl I.bare (Un.kept m.keeps) (I.hok.kept m.keeps) fl sm (fun b ob hb q => ?_) (fun b ob q hb => ⟨ob, PySem.W.hideAll_get _ q hb, fun _ => rfl⟩) hE
  cases z : H b with
  | none => exact absurd z hb
  | some v =>
    obtain ⟨o1, e1⟩ := (I.hok b v z).there
    have e2 := m.keeps b o1 e1
    have q' : h'.get? b = some ob := q
    rw [q'] at e2
    cases e2
    exact PySem.W.hideAll_get _ e1 fun y => hb (I.stkFree b y)

/-! ### raise C(..) -/
/-- what the class of an own exception is, as the fragment has it -/
theorem own_at {K : PySem.W.Frag} {hp : Heap} {bmB : List Value} {newId : String} (XI : K.In hp) (q : PySem.W.excIn K C bmB newId = true) :
    ∃ bm N nm qn bs hdct sn sub ab col dd k0 k1 k2 k3 k5 mN, hp.get? C = some (excClassObj nm qn C N bs bm hdct sn sub ab col dd k0 k1 k2 k3 k5 newId) ∧ hp.Ns N mN ∧ mN "__init__" = none ∧ OwnTail hp bmB bm := by
  unfold PySem.W.excIn at q
  split at q
  · rename_i d1 c1 l1 hC1
    split at q
    · rename_i C2 bm2 y0 y1 y2 y3 n2 y5 hm2 hs2
      simp only [Bool.and_eq_true, beq_iff_eq, Bool.not_eq_true'] at q
      obtain ⟨⟨⟨⟨⟨rfl, rfl⟩, hdl⟩, htl⟩, hno⟩, hin⟩ := q
      obtain ⟨nm, bs, mro, ns, qn, hd, sn, sub, ab, col, del⟩ := c1
      dsimp only at hm2 hdl hno hin
      subst hm2 hdl
      have hsl : l1 = #[y0, y1, y2, y3, some (.builtin n2), y5] := by
        obtain ⟨l⟩ := l1
        simp only at hs2
        rw [hs2]
      subst hsl
      exact ⟨bm2, ns, nm, qn, bs, hd, sn, sub, ab, col, d1, y0, y1, y2, y3, y5, _, XI _ _ hC1, .of_isNs (PySem.W.isNs_of_in XI hno), PySem.W.nsMap_none_of_in XI hno hin, PySem.W.tail_of_in XI htl⟩
    · cases q
  · cases q
variable {e0 : Expr} {rest : List Expr} {t : TA} {x : Str} {np cpos pos : Pos} {Bn newId initId : String} {bm : List Value}
def tRaise (E : XK) (C : Addr) (t : TA) : TS := fun _ σ H => t σ H fun vs H1 => vs.length ≤ sizeLine ∧ E (.ref C) none H1
theorem ps_raise (hx : Xe1 X E) (hc : X.calm = true) (hg : Gl X x) (hm : X.mg x = some (.ref C)) (F : ExcBaseFacts Bn newId initId bm) (q : PySem.W.excIn X.K C bm newId = true) (ha : PA X (e0 :: rest) t)
    (hdb : (x == ("__debug__" : Str)) = false := by decide) (hse : starEach (e0 :: rest) X.env = (false, eval e0 X.env) :: starEach rest X.env := by rfl) (hpl : (backTo cpos (starEach rest X.env)).any (·.1) = false := by rfl) :
    PS X (.Raise (some (.Call (.Name x np) (e0 :: rest) [] cpos)) none pos) (tRaise E C t) := by
  intro pins s σ H D I h
  obtain ⟨tl, N, nm, qn, bs, hdct, sn, sub, ab, col, dd, k0, k1, k2, k3, k5, mN, hC, hN, hni, T⟩ := own_at (C := C) I.mod.kin q
  refine wpAny_Raise_call_subT (C := C) (nm := nm) (q := qn) (N := N) (bs := bs) (bm := tl) (hdct := hdct) (sn := sn) (sub := sub) (ab := ab) (col := col) (dd := dd) (k0 := k0) (k1 := k1) (k2 := k2) (k3 := k3) (k5 := k5) F (mN := mN)
    (T.hasType F.hasBase) (I.ok.hd hc) (by rw [hse]; show (false || (backTo cpos (starEach rest X.env)).any (·.1)) = false; rw [hpl]; rfl) hni (ld_glob I hg hm ⟨rfl, ?_⟩ hdb)
  have g := ha cpos pins s σ H _ I h
  rw [hse] at g ⊢
  refine Calls.evalArgs_plain (wpAny_mono g (fun vs s2 ⟨ws, H2, I2, r2, hz, hE⟩ => ?_) fun _ _ y => y)
  exact ⟨rfl, by rw [← r2.length]; exact hz, I2.bk _ _ hC, hN.keeps I2.bk, T.keeps I2.bk, fun h' ea m => xe_made hx I2 m hE⟩
end
end L2

/-! OWN RULES: try with except. Behind Exc. -/
namespace L2
open PySem PySem.Spec PyProof.Rows
/-- within the except suite for the exception at ea -/
abbrev Cx.susp (X : Cx) (ea : Addr) : Cx := { X with A := X.A.mark (some (.ref ea)), calm := false, xe := fun _ _ => False }
/-- within a try: the pins go along, an exception is wanted so -/
abbrev Cx.tryc (X : Cx) (pins : List (Addr × Obj)) (E1 : Value → Shared → Prop) : Cx := { X with pn := X.pn ++ pins, xe := E1 }
section
variable {X : Cx} {pins : List (Addr × Obj)} {σ : St} {H H' : Hp} {s s' : Shared} {B : Heap} {ea C : Addr} {a0 : Value} {D : Ends} {f : Flow} {E1 : Value → Shared → Prop}
theorem Inv.susp (I : Inv X pins σ H s) (ea : Addr) : Inv (X.susp ea) pins σ H s :=
  ⟨⟨I.ok.mod, I.ok.kind, I.ok.glob, I.ok.blt, I.ok.above, I.ok.inj, I.ok.has, I.ok.cab, fun z => (by cases z), I.ok.frames, I.ok.stk, I.ok.exf, I.ok.bs, I.ok.bsz, I.ok.noex, I.ok.exfs, I.ok.funs, I.ok.frf⟩, I.os, I.bare, I.base, I.loc, I.cell, I.free, I.freeC, I.pin, I.hok, I.len⟩
theorem Inv.unsusp (ok : X.Ok) (I : Inv (X.susp ea) pins σ H s) : Inv X pins σ H s := ⟨ok, I.os, I.bare, I.base, I.loc, I.cell, I.free, I.freeC, I.pin, I.hok, I.len⟩
theorem SP.unsusp (ok : X.Ok) (h : SP (X.susp ea) pins D f s) : SP X pins D f s := by
  cases f with
  | next => obtain ⟨a, b, I, q⟩ := h; exact ⟨a, b, I.unsusp ok, q⟩
  | brk => obtain ⟨a, b, I, q⟩ := h; exact ⟨a, b, I.unsusp ok, q⟩
  | cont => obtain ⟨a, b, I, q⟩ := h; exact ⟨a, b, I.unsusp ok, q⟩
  | ret u => obtain ⟨v, a, b, I, r, q⟩ := h; exact ⟨v, a, b, I.unsusp ok, r, q⟩
theorem Inv.tryc (I : Inv X pins σ H s) (E1 : Value → Shared → Prop) : Inv (X.tryc pins E1) [] σ H s :=
  ⟨⟨I.ok.mod, I.ok.kind, I.ok.glob, I.ok.blt, I.ok.above, I.ok.inj, I.ok.has, I.ok.cab, I.ok.hd, I.ok.frames, I.ok.stk, I.ok.exf, I.ok.bs, I.ok.bsz, I.ok.noex, I.ok.exfs, I.ok.funs, I.ok.frf⟩, I.os, I.bare, I.base, I.loc, I.cell, I.free, I.freeC,
    fun p hp => I.pin p (by simpa using hp), I.hok, I.len⟩
theorem Inv.untryc {pins1 : List (Addr × Obj)} (ok : X.Ok) (I : Inv (X.tryc pins E1) pins1 σ H s) : Inv X pins σ H s :=
  ⟨ok, I.os, I.bare, I.base, I.loc, I.cell, I.free, I.freeC, fun p hp => I.pin p (List.mem_append_left _ hp), I.hok, I.len⟩
theorem SP.untryc {pins1 : List (Addr × Obj)} (ok : X.Ok) (h : SP (X.tryc pins E1) pins1 D f s) : SP X pins D f s := by
  cases f with
  | next => obtain ⟨a, b, I, q⟩ := h; exact ⟨a, b, I.untryc ok, q⟩
  | brk => obtain ⟨a, b, I, q⟩ := h; exact ⟨a, b, I.untryc ok, q⟩
  | cont => obtain ⟨a, b, I, q⟩ := h; exact ⟨a, b, I.untryc ok, q⟩
  | ret u => obtain ⟨v, a, b, I, r, q⟩ := h; exact ⟨v, a, b, I.untryc ok, r, q⟩

/-- an exception came out of a call that was made at s: it is here, at s' -/
structure Came (X : Cx) (pins : List (Addr × Obj)) (σ : St) (H : Hp) (s : Shared) (H' : Hp) (B : Heap) (s' : Shared) : Prop where
  I : Inv X pins σ H s
  os : s'.os = s.os
  bare : AllBare s'.gens
  u : Un (frs X.stack) [] H H' s.heap s'.heap
  ok : HOk X.prog X.w H' s'.heap
  trk : Trk H' s'.heap B
  old : Old (frs X.stack) H s.heap B
/-- the handlers, from here on -/
def PH (X : Cx) (hs : List ExceptHandler) (th : Addr → TS) : Prop :=
  ∀ (pins : List (Addr × Obj)) (σ : St) (H : Hp) (s : Shared) (H' : Hp) (B : Heap) (s' : Shared) (D : Ends) (ea C : Addr) (a0 : Value) (h' : Heap), Came X pins σ H s H' B s' → Heap.FlyingW B X.stack ea (.ref C) a0 h' → s'.heap.UpToSlots h' → th C D σ H' →
    wpAny (model X.prog X.w) X.A (handleBy (.ref ea) X.env hs) (SP X pins D) X.xe { s' with heap := h' }
/-- except x: suite -/
def tExc (K : PySem.W.Frag) (C1 : Addr) (ts : TS) (th : Addr → TS) : Addr → TS := fun C D σ H => ∃ b, PySem.W.exmOne K (.ref C) (.ref C1) = some b ∧ if b = true then ts D σ H else th C D σ H
/-- try: body, except .. -/
def tTry (n : Nat) (tb : XK → TS) (th : Addr → TS) : TS := fun D σ H => tb (fun c _ H' => ∃ C, c = .ref C ∧ ∀ σ1 : St, σ1.length = n → th C D σ1 H') D σ H
end
end L2

/-! OWN RULES: except .. as name; isinstance of an exception. Behind Try. -/
namespace L2
open PySem PySem.Spec PyProof.Rows
/-- an exception's record: its class -/
def ExcOf (ea C : Addr) (h : Heap) : Prop := ∃ oe, h.get? ea = some oe ∧ oe.cls = .ref C
section
variable {X : Cx} {pins : List (Addr × Obj)} {σ : St} {H H' : Hp} {s s' : Shared} {B : Heap} {ea C : Addr} {a0 : Value} {D : Ends} {f : Flow}
/-- an exception that came is none of what was there -/
theorem Came.apart (c : Came X pins σ H s H' B s') {h' : Heap} (fl : Heap.FlyingW B X.stack ea (.ref C) a0 h') : s.heap.get? ea = none := by
  cases q : s.heap.get? ea with
  | none => rfl
  | some ob =>
    by_cases hb : ea ∈ frs X.stack
    · obtain ⟨_, _, ff, oe, vs, _, _, _, he, _, hd, _⟩ := fl
      obtain ⟨_, o, ho, hnf⟩ := ff.mem hb
      rw [he] at ho
      cases ho
      exact absurd hd (hnf vs)
    · obtain ⟨o', eB, _⟩ := c.old ea ob q hb
      rw [fl.2.1] at eB
      cases eB
/-- except x as n: suite -/
def tExcAs (K : PySem.W.Frag) (C1 : Addr) (i nN : Nat) (ts : TS) (th : Addr → TS) : Addr → TS := fun C D σ H => ∃ b, PySem.W.exmOne K (.ref C) (.ref C1) = some b ∧
  if b = true then ∀ ea, H ea = none → ts { nx := fun _ H1 => D.nx (List.replicate nN none) H1, rt := D.rt, bk := fun _ H1 => D.bk (List.replicate nN none) H1, ct := fun _ H1 => D.ct (List.replicate nN none) H1 } (σ.set i (some (.ref ea))) (upd H ea (.ext (ExcOf ea C))) else th C D σ H
/-! ### isinstance(e, c) of an exception e, where it is so -/
def rIsiE (K : PySem.W.Frag) : List V → Hp → VK → Prop := fun xs H Q => ∃ ea C n, xs = [.ref ea, .ty n] ∧ H ea = some (.ext (ExcOf ea C)) ∧ PySem.W.kitCls K (.ref C) (.type n) = some true ∧ Q (.bl true) H
end
end L2

/-! OWN: lengths of texts. Behind Ext18. -/
namespace L2
open PySem
abbrev abcS : Str := "abcdefghijklmnopqrstuvwxyz"
end L2

/-! law k34: atoms and rows. First part: the mathematics, the program's own defs. Behind the layer, Ext, Ext2, Deep, Deep2, Exc, Try, Try2. Made of wip/K02a.lean where the text is the same. -/
namespace K34
open PySem L2
def top (i : Nat) : Stmt := PySem.Challenge.pw_yesorno_k34_equal_lines_hold.main.body.getD i (.Pass ⟨0, 0, 0, 0⟩)
abbrev s__wall : Stmt := top 0
abbrev s_Groups___init__ : Stmt := inClass (top 2) 0
abbrev s_Groups_head : Stmt := inClass (top 2) 1
abbrev s_Groups_together : Stmt := inClass (top 2) 2
abbrev s_Groups_merge : Stmt := inClass (top 2) 3
abbrev sIsWord : Stmt := top 15
abbrev sIsName : Stmt := top 16
abbrev sAskName : Stmt := top 17
abbrev sPlace : Stmt := top 18
abbrev sInit : Stmt := inClass (top 19) 0
abbrev sAskTerm : Stmt := inClass (top 19) 1
abbrev sAskPart : Stmt := inClass (top 19) 2
abbrev sAdd : Stmt := inClass (top 19) 3
abbrev sPlain : Stmt := inClass (top 19) 4
abbrev sSame : Stmt := inClass (top 19) 5
abbrev sRow : Stmt := inClass (top 19) 6
abbrev s_sameness : Stmt := top 21
abbrev s_is_told : Stmt := top 22
abbrev s_is_alike : Stmt := top 23
abbrev s_is_right : Stmt := top 24
abbrev s_says_joined : Stmt := top 25
abbrev s_is_equal : Stmt := top 26
abbrev sCell : Stmt := top 28
abbrev s__law_small_by : Stmt := top 29
abbrev s__law_merged : Stmt := top 30
abbrev s__law_alike : Stmt := top 31
abbrev s__law_next : Stmt := top 32
abbrev s__law_links : Stmt := top 33
abbrev s__law_aim : Stmt := top 34
abbrev s__law_links_spoilt : Stmt := top 35
abbrev s__law_signs_by : Stmt := top 36
abbrev s__law_closed : Stmt := top 37
abbrev s__law_slots : Stmt := top 38
abbrev s__law_longer : Stmt := top 39
abbrev s__law_tables : Stmt := top 40
abbrev s__law_values : Stmt := top 41
abbrev s__law_part_holds : Stmt := top 42
abbrev s_law : Stmt := top 43

/-! ### what is said -/
abbrev abc : Str := "abcdefghijklmnopqrstuvwxyz"
def isL (c : Str) : Bool := !(Builtin.Str.occurrences abc c 0 abc.length 1).isEmpty
def lets (z : Str) : List Bool := z.cps.toList.map fun c => isL ⟨#[c]⟩
def keptV : List V := [.str "or", .str "and", .str "not", .str "never", .str "always", .str "then", .str "as", .str "unlike"]
def wordB (z : Str) : Bool := decide ((0 : Int) < (z.length : Int)) && (lets z).all id
def nameB (z : Str) : Bool := wordB z && (decide ((z.length : Int) ≤ 8) && !inV (.str z) keptV)
theorem sz (n : Nat) (h : n ≤ 1000) : n ≤ sizeLine := Nat.le_of_lt (small1000 h)
theorem keptV_flat : keptV.all flatV = true := by decide +kernel
theorem lets_len (z : Str) : (lets z).length = z.length := by simp [lets, Str.length]

theorem app_len (a b : Str) : (a ++ b).length = a.length + b.length := by
  show (a.cps ++ b.cps).size = a.cps.size + b.cps.size
  exact Array.size_append
theorem take_one {z : Str} {i ch : Nat} (hch : z.cps[i]? = some ch) : (lets z).take (i + 1) = (lets z).take i ++ [isL ⟨#[ch]⟩] := by
  have hb : (lets z)[i]? = some (isL ⟨#[ch]⟩) := by
    unfold lets
    rw [List.getElem?_map, Array.getElem?_toList, hch]
    rfl
  rw [List.take_add_one, hb]
  rfl
/-! ### terms -/
abbrev Tm := Str × List Int
def dT (t : Tm) : Dt := .tup [.str t.1, .tup (t.2.map Dt.int)]
theorem nobs_ints : ∀ ns : List Int, nobs (ns.map Dt.int) = true
  | [] => by simp [nobs]
  | n :: ns => by simp only [List.map_cons, nobs, nob, Bool.true_and]; exact nobs_ints ns
theorem nols_ints : ∀ ns : List Int, nols (ns.map Dt.int) = true
  | [] => by simp [nols]
  | n :: ns => by simp only [List.map_cons, nols, nol, Bool.true_and]; exact nols_ints ns
theorem deps_ints : ∀ ns : List Int, deps (ns.map Dt.int) = 0
  | [] => by simp [deps]
  | n :: ns => by simp only [List.map_cons, deps, dep, deps_ints ns]; rfl
theorem nob_dT (t : Tm) : nob (dT t) = true := by simp only [dT, nob, nobs, nobs_ints, Bool.and_self]
theorem nol_dT (t : Tm) : nol (dT t) = true := by simp only [dT, nol, nols, nols_ints, Bool.and_self]
theorem dep_dT (t : Tm) : dep (dT t) = 2 := by simp only [dT, dep, deps, deps_ints]; rfl
theorem nols_dTs : ∀ T : List Tm, nols (T.map dT) = true
  | [] => by simp [nols]
  | t :: T => by simp only [List.map_cons, nols, nol_dT, Bool.true_and]; exact nols_dTs T
theorem deps_dTs : ∀ T : List Tm, deps (T.map dT) ≤ 2
  | [] => by simp [deps]
  | t :: T => by
    have h := deps_dTs T
    simp only [List.map_cons, deps, dep_dT]
    omega
theorem int_inj {a b : Int} (h : Dt.int a = Dt.int b) : a = b := by cases h; rfl
theorem ints_inj : ∀ {as bs : List Int}, as.map Dt.int = bs.map Dt.int → as = bs
  | [], [], _ => rfl
  | [], b :: bs, h => by cases h
  | a :: as, [], h => by cases h
  | a :: as, b :: bs, h => by
    rw [List.map_cons, List.map_cons] at h
    injection h with h1 h2
    rw [int_inj h1, ints_inj h2]
theorem dT_inj {a b : Tm} (h : dT a = dT b) : a = b := by
  obtain ⟨n, ps⟩ := a
  obtain ⟨m, qs⟩ := b
  unfold dT at h
  injection h with h
  injection h with h1 h2
  injection h1 with h1
  injection h2 with h2 _
  injection h2 with h2
  have e1 : n = m := h1
  have e2 : ps = qs := ints_inj h2
  rw [e1, e2]
theorem peq_dT (a b : Tm) : peq (dT a) (dT b) = decide (a = b) := by
  by_cases h : a = b
  · subst h
    rw [peq_refl, decide_eq_true rfl]
  · rw [decide_eq_false h]
    cases e : peq (dT a) (dT b) with
    | false => rfl
    | true => exact absurd (dT_inj (peq_eq _ _ (nob_dT a) (nob_dT b) e)) h
theorem any_dT (T : List Tm) (t : Tm) : ((T.map dT).any fun d => peq d (dT t)) = decide (t ∈ T) := by
  rw [Bool.eq_iff_iff, List.any_eq_true]
  constructor
  · rintro ⟨d, hd, e⟩
    obtain ⟨u, hu, rfl⟩ := List.mem_map.mp hd
    rw [peq_dT] at e
    rw [← of_decide_eq_true e]
    exact decide_eq_true hu
  · intro h
    exact ⟨dT t, List.mem_map.mpr ⟨t, of_decide_eq_true h, rfl⟩, peq_refl _⟩
inductive Out where
  | num (n : Nat) | name | term | many | part
def bad (T : List Tm) (ps : List Int) : Bool := decide (3 < ps.length) || ps.any fun p => decide (p < 0) || decide ((T.length : Int) ≤ p)
def addT (T : List Tm) (good : Bool) (t : Tm) : Out × List Tm :=
  if good = false then (.name, T) else if bad T t.2 = true then (.term, T) else if t ∈ T then (.num (T.idxOf t), T) else if 60 ≤ T.length then (.many, T) else (.num T.length, T ++ [t])
def outV : Out → V
  | .num n => .int (n : Nat)
  | .name => .str "name"
  | .term => .str "term"
  | .many => .str "many"
  | .part => .str "part"
theorem idx_at {T : List Tm} {t : Tm} (h : t ∈ T) : (T.map dT)[T.idxOf t]? = some (dT t) := by
  have hl := List.idxOf_lt_length_of_mem h
  rw [List.getElem?_map, List.getElem?_eq_getElem hl]
  simp
theorem idx_no {T : List Tm} {t : Tm} {m : Nat} {d : Dt} (h : m < T.idxOf t) (e : (T.map dT)[m]? = some d) : peq d (dT t) = false := by
  rw [List.getElem?_map] at e
  cases q : T[m]? with
  | none => rw [q] at e; cases e
  | some u =>
    rw [q] at e
    have e' : d = dT u := (Option.some.inj e).symm
    rw [e', peq_dT]
    refine decide_eq_false fun z => ?_
    subst z
    obtain ⟨hm, hu⟩ := List.getElem?_eq_some_iff.mp q
    have z := List.not_of_lt_findIdx (p := (· == u)) h
    rw [hu, beq_self_eq_true] at z
    cases z


/-! ### lists of what is told by data -/
theorem any_code {α : Type} [BEq α] [LawfulBEq α] {code : α → Dt} (hc : ∀ a b, peq (code a) (code b) = true ↔ a = b) (T : List α) (t : α) : ((T.map code).any fun d => peq d (code t)) = decide (t ∈ T) := by
  rw [Bool.eq_iff_iff, List.any_eq_true]
  constructor
  · rintro ⟨d, hd, e⟩
    obtain ⟨u, hu, rfl⟩ := List.mem_map.mp hd
    rw [hc] at e
    rw [← e]
    exact decide_eq_true hu
  · intro h
    exact ⟨code t, List.mem_map.mpr ⟨t, of_decide_eq_true h, rfl⟩, peq_refl _⟩
theorem idx_code {α : Type} [BEq α] [LawfulBEq α] {code : α → Dt} (hc : ∀ a b, peq (code a) (code b) = true ↔ a = b) (T : List α) (t : α) : (T.map code).findIdx (fun d => peq d (code t)) = T.idxOf t := by
  rw [List.findIdx_map]
  unfold List.idxOf
  congr 1
  funext a
  show peq (code a) (code t) = (a == t)
  rw [Bool.eq_iff_iff, hc, beq_iff_eq]
theorem iff_dT (a b : Tm) : peq (dT a) (dT b) = true ↔ a = b := by
  rw [peq_dT]
  exact decide_eq_true_iff
inductive At where
  | plain (z : Str)
  | same (a b : Int)
  deriving DecidableEq
def dA : At → Dt
  | .plain z => .tup [.str "plain", .str z]
  | .same a b => .tup [.str "same", .int a, .int b]
theorem nob_dA (t : At) : nob (dA t) = true := by cases t <;> simp only [dA, nob, nobs, Bool.and_self]
theorem nol_dA (t : At) : nol (dA t) = true := by cases t <;> simp only [dA, nol, nols, Bool.and_self]
theorem dep_dA (t : At) : dep (dA t) = 1 := by cases t <;> simp only [dA, dep, deps] <;> rfl
theorem dA_inj {a b : At} (h : dA a = dA b) : a = b := by
  cases a <;> cases b
  all_goals
    unfold dA at h
    injection h with h
    injection h with h1 h2
    injection h2 with h2 h3
    first
      | (injection h2 with h2; injection h3 with h3 _; injection h3 with h3; rw [h2, h3])
      | (injection h2 with h2; rw [h2])
      | (injection h1 with h1; exact absurd h1 (by decide +kernel))
      | cases h2
theorem peq_dA (a b : At) : peq (dA a) (dA b) = decide (a = b) := by
  by_cases h : a = b
  · subst h
    rw [peq_refl, decide_eq_true rfl]
  · rw [decide_eq_false h]
    cases e : peq (dA a) (dA b) with
    | false => rfl
    | true => exact absurd (dA_inj (peq_eq _ _ (nob_dA a) (nob_dA b) e)) h
theorem iff_dA (a b : At) : peq (dA a) (dA b) = true ↔ a = b := by
  rw [peq_dA]
  exact decide_eq_true_iff
def dR (r : List Int) : Dt := .tup (r.map Dt.int)
theorem nol_dR (r : List Int) : nol (dR r) = true := by simp only [dR, nol, nols_ints]
theorem nols_code {α : Type} {code : α → Dt} (hc : ∀ a, nol (code a) = true) : ∀ T : List α, nols (T.map code) = true
  | [] => by simp [nols]
  | t :: T => by simp only [List.map_cons, nols, hc, Bool.true_and]; exact nols_code hc T
theorem deps_code {α : Type} {code : α → Dt} {n : Nat} (hc : ∀ a, dep (code a) ≤ n) : ∀ T : List α, deps (T.map code) ≤ n
  | [] => by simp [deps]
  | t :: T => by
    have h := deps_code hc T
    have := hc t
    simp only [List.map_cons, deps]
    omega

/-! ### a problem in the heap -/
theorem kTA : ¬ (("terms" : Str) = "atoms") := by decide +kernel
theorem kTR : ¬ (("terms" : Str) = "rows") := by decide +kernel
theorem kAR : ¬ (("atoms" : Str) = "rows") := by decide +kernel
def flds (tl al rl : Addr) : List (Str × V) := putF "rows" (.ref rl) (putF "atoms" (.ref al) (putF "terms" (.ref tl) []))
theorem flds_terms (tl al rl : Addr) : (flds tl al rl).lookup ("terms" : Str) = some (.ref tl) := by
  unfold flds
  rw [lookup_putF, if_neg kTR, lookup_putF, if_neg kTA, lookup_putF, if_pos rfl]
theorem flds_atoms (tl al rl : Addr) : (flds tl al rl).lookup ("atoms" : Str) = some (.ref al) := by
  unfold flds
  rw [lookup_putF, if_neg kAR, lookup_putF, if_pos rfl]
theorem flds_no (tl al rl : Addr) {m : Str} (h1 : ¬ m = "rows") (h2 : ¬ m = "atoms") (h3 : ¬ m = "terms") : (flds tl al rl).lookup m = none := by
  unfold flds
  rw [lookup_putF, if_neg h1, lookup_putF, if_neg h2, lookup_putF, if_neg h3]
  all_goals rfl
/-- all but what stands at z is as it was -/
def Fr1 (H H' : Hp) (z : Addr) : Prop := ∀ b o, H b = some o → b ≠ z → H' b = some o
theorem Fr1.of_same {H H' : Hp} {z : Addr} (s : Same H H') : Fr1 H H' z := fun b o e _ => s b o e
theorem Fr1.trans {H H1 H2 : Hp} {z : Addr} (a : Fr1 H H1 z) (b : Fr1 H1 H2 z) : Fr1 H H2 z := fun c o e n => b c o (a c o e n) n
theorem Fr1.keepT {H H' : Hp} {z : Addr} {xs : List V} (f : Fr1 H H' z) (h : H z = some (.lst xs)) : KeepT H H' := fun b ys q => by
  rcases q with q | ⟨o, q⟩
  · exact .inl (f b _ q (ne_of q h (fun e => by cases e)))
  · exact .inr ⟨o, f b _ q (ne_of q h (fun e => by cases e))⟩
structure PrAt (K : PySem.W.Frag) (C : Addr) (H : Hp) (p tl al rl : Addr) (T : List Tm) (As : List At) (Rs : List (List Int)) : Prop where
  ob : ∃ dx, H p = some (.ins C dx (flds tl al rl))
  tm : ∃ xs, H tl = some (.lst xs) ∧ HasL K H (T.map dT) xs
  am : ∃ xs, H al = some (.lst xs) ∧ HasL K H (As.map dA) xs
  rm : ∃ xs, H rl = some (.lst xs) ∧ HasL K H (Rs.map dR) xs
  na : al ≠ tl
  nr : rl ≠ tl
  nx : rl ≠ al
theorem PrAt.keep {K : PySem.W.Frag} {C : Addr} {H H' : Hp} {p tl al rl z : Addr} {T : List Tm} {As : List At} {Rs : List (List Int)} {zs : List V} (h : PrAt K C H p tl al rl T As Rs) (f : Fr1 H H' z) (hz : H z = some (.lst zs)) (n1 : z ≠ tl) (n2 : z ≠ al) (n3 : z ≠ rl) : PrAt K C H' p tl al rl T As Rs := by
  obtain ⟨⟨dx, h1⟩, ⟨xs, h2, h3⟩, ⟨ys, h4, h5⟩, ⟨ws, h6, h7⟩, h8, h9, h10⟩ := h
  exact ⟨⟨dx, f _ _ h1 (ne_of h1 hz (fun e => by cases e))⟩, ⟨xs, f _ _ h2 n1.symm, h3.keep (f.keepT hz) (nols_dTs T)⟩, ⟨ys, f _ _ h4 n2.symm, h5.keep (f.keepT hz) (nols_code nol_dA As)⟩, ⟨ws, f _ _ h6 n3.symm, h7.keep (f.keepT hz) (nols_code nol_dR Rs)⟩, h8, h9, h10⟩
theorem PrAt.same {K : PySem.W.Frag} {C : Addr} {H H' : Hp} {p tl al rl : Addr} {T : List Tm} {As : List At} {Rs : List (List Int)} (h : PrAt K C H p tl al rl T As Rs) (s : Same H H') : PrAt K C H' p tl al rl T As Rs := by
  obtain ⟨⟨dx, h1⟩, ⟨xs, h2, h3⟩, ⟨ys, h4, h5⟩, ⟨ws, h6, h7⟩, h8, h9, h10⟩ := h
  exact ⟨⟨dx, s _ _ h1⟩, ⟨xs, s _ _ h2, h3.keep (.of_same s) (nols_dTs T)⟩, ⟨ys, s _ _ h4, h5.keep (.of_same s) (nols_code nol_dA As)⟩, ⟨ws, s _ _ h6, h7.keep (.of_same s) (nols_code nol_dR Rs)⟩, h8, h9, h10⟩
/-- one of the three lists is written anew -/
theorem PrAt.setT {K : PySem.W.Frag} {C : Addr} {H : Hp} {p tl al rl : Addr} {T T' : List Tm} {As : List At} {Rs : List (List Int)} {us : List V} (h : PrAt K C H p tl al rl T As Rs) (hs : HasL K (upd H tl (.lst us)) (T'.map dT) us) : PrAt K C (upd H tl (.lst us)) p tl al rl T' As Rs := by
  obtain ⟨⟨dx, h1⟩, ⟨xs, h2, h3⟩, ⟨ys, h4, h5⟩, ⟨ws, h6, h7⟩, h8, h9, h10⟩ := h
  have kt : KeepT H (upd H tl (.lst us)) := KeepT.lst h2
  exact ⟨⟨dx, by rw [upd_ne (ne_of h1 h2 (fun e => by cases e))]; exact h1⟩, ⟨us, upd_same, hs⟩, ⟨ys, by rw [upd_ne h8]; exact h4, h5.keep kt (nols_code nol_dA As)⟩, ⟨ws, by rw [upd_ne h9]; exact h6, h7.keep kt (nols_code nol_dR Rs)⟩, h8, h9, h10⟩
theorem PrAt.setA {K : PySem.W.Frag} {C : Addr} {H : Hp} {p tl al rl : Addr} {T : List Tm} {As As' : List At} {Rs : List (List Int)} {us : List V} (h : PrAt K C H p tl al rl T As Rs) (hs : HasL K (upd H al (.lst us)) (As'.map dA) us) : PrAt K C (upd H al (.lst us)) p tl al rl T As' Rs := by
  obtain ⟨⟨dx, h1⟩, ⟨xs, h2, h3⟩, ⟨ys, h4, h5⟩, ⟨ws, h6, h7⟩, h8, h9, h10⟩ := h
  have kt : KeepT H (upd H al (.lst us)) := KeepT.lst h4
  exact ⟨⟨dx, by rw [upd_ne (ne_of h1 h4 (fun e => by cases e))]; exact h1⟩, ⟨xs, by rw [upd_ne h8.symm]; exact h2, h3.keep kt (nols_dTs T)⟩, ⟨us, upd_same, hs⟩, ⟨ws, by rw [upd_ne h10]; exact h6, h7.keep kt (nols_code nol_dR Rs)⟩, h8, h9, h10⟩
def SqI (K : PySem.W.Frag) (H : Hp) (q : Addr) (ps : List Int) : Prop := SqL K H q (ps.map V.int) ∨ SqT K H q (ps.map V.int)
theorem SqI.same {K : PySem.W.Frag} {H H' : Hp} {q : Addr} {ps : List Int} (h : SqI K H q ps) (s : Same H H') : SqI K H' q ps := h.elim (fun z => .inl (s.seq z)) fun z => .inr ((KeepT.of_same s).sq z)
/-- the signs of a text are such as can be shown -/
def Low (z : Str) : Prop := z.length ≤ 100 ∧ ∀ c ∈ z.cps.toList, c < 1000
theorem Low.repr {z : Str} (h : Low z) : (reprText z).length ≤ 1002 := by
  have := StrLaws.reprText_len z fun c hc => Nat.lt_of_lt_of_le (h.2 c hc) (by decide)
  have := h.1
  omega

/-! ### promises -/
def spIsWord : Sp := fun vs H Q _ => ∃ z : Str, vs = [.str z] ∧ z.length ≤ 1000 ∧ ∀ H', Same H H' → Q (.bl (wordB z)) H'
def spIsName : Sp := fun vs H Q _ => ∃ z : Str, vs = [.str z] ∧ z.length ≤ 1000 ∧ ∀ H', Same H H' → Q (.bl (nameB z)) H'
def spCell (K : PySem.W.Frag) : Sp := fun vs H Q _ => ∃ (a : Addr) (ns : List Int) (k : Int), vs = [.ref a, .int k] ∧ SqL K H a (ns.map V.int) ∧ ns.length ≤ 63 ∧ 0 ≤ k ∧ ∀ i : Int, Q (.int i) H
def spAskName (CN : Addr) : Sp := fun vs H Q E => ∃ z : Str, vs = [.str z] ∧ Low z ∧ if nameB z = true then ∀ H', Same H H' → Q .non H' else ∀ H', Same H H' → E (.ref CN) none H'
def spPlace (K : PySem.W.Frag) (CM : Addr) : Sp := fun vs H Q E => ∃ (a tl : Addr) (m : Int) (xs : List V) (ds : List Dt) (d : Dt), vs = [.ref a, .ref tl, .int m] ∧ Has K H d (.ref a) ∧ H tl = some (.lst xs) ∧ HasL K H ds xs ∧ deps ds ≤ 50 ∧ ds.length ≤ 1000 ∧ 0 ≤ m ∧ m ≤ 1000 ∧
  if (ds.any fun e => peq e d) = true then ∀ H', Same H H' → Q (.int ((ds.findIdx fun e => peq e d) : Nat)) H' else if m ≤ (ds.length : Int) then ∀ H', Same H H' → E (.ref CM) none H' else Q (.int (ds.length : Nat)) (upd H tl (.lst (xs ++ [.ref a])))
def spInit (C : Addr) : Sp := fun vs H Q _ => ∃ (p dx : Addr), vs = [.ref p] ∧ H p = some (.ins C dx []) ∧ ∀ (tl al rl : Addr) (H' : Hp), H tl = none → H al = none → H rl = none → al ≠ tl → rl ≠ tl → rl ≠ al → H' p = some (.ins C dx (flds tl al rl)) → H' tl = some (.lst []) → H' al = some (.lst []) → H' rl = some (.lst []) →
  (∀ b o, H b = some o → b ≠ p → H' b = some o) → Q .non H'
def spAskTerm (K : PySem.W.Frag) (C CT : Addr) : Sp := fun vs H Q E => ∃ (p tl al rl : Addr) (T : List Tm) (As : List At) (Rs : List (List Int)) (n : Int), vs = [.ref p, .int n] ∧ PrAt K C H p tl al rl T As Rs ∧ -1000 ≤ n ∧ n ≤ 1000 ∧
  if n < 0 ∨ (T.length : Int) ≤ n then ∀ H', Same H H' → E (.ref CT) none H' else Q .non H
def noPart (m : Nat) (n : Int) : Bool := decide (n = 0) || decide ((m : Int) < n) || decide (n < -(m : Int))
def spAskPart (K : PySem.W.Frag) (C CP : Addr) : Sp := fun vs H Q E => ∃ (p tl al rl : Addr) (T : List Tm) (As : List At) (Rs : List (List Int)) (n : Int), vs = [.ref p, .int n] ∧ PrAt K C H p tl al rl T As Rs ∧ -1000 ≤ n ∧ n ≤ 1000 ∧
  if noPart As.length n = true then ∀ H', Same H H' → E (.ref CP) none H' else Q .non H
theorem same_new {H : Hp} {p : Addr} (h : H p = none) (o : HO) : Same H (upd H p o) := fun b u q => by rw [upd_ne (ne_of_none q h)]; exact q

abbrev bmV : List Value := [.type "ValueError", .type "Exception", .type "BaseException", .type "object"]
structure Txt (K : PySem.W.Frag) (mg : Str → Option Value) (aK C CN CT CP CM : Addr) : Prop where
  small : ∃ t, mg "SMALL_LETTERS" = some (.str abc t)
  longest : ∃ t, mg "LONGEST_NAME" = some (.int 8 t)
  parts : ∃ t, mg "MOST_TERM_PARTS" = some (.int 3 t)
  terms : ∃ t, mg "MOST_TERMS" = some (.int 60 t)
  atoms : ∃ t, mg "MOST_ATOMS" = some (.int 40 t)
  kept : mg "KEPT_WORDS" = some (.ref aK)
  tup : ∀ H, SqT K H aK keptV
  len : mg "len" = none
  all : mg "all" = none
  range : mg "range" = none
  isi : mg "isinstance" = none
  bool : mg "bool" = none
  tuple : mg "tuple" = none
  abs : mg "abs" = none
  bname : mg "BadName" = some (.ref CN)
  bterm : mg "BadTerm" = some (.ref CT)
  bmany : mg "TooMany" = some (.ref CM)
  xname : PySem.W.excIn K CN bmV "ValueError.__new__" = true
  xterm : PySem.W.excIn K CT bmV "ValueError.__new__" = true
  xmany : PySem.W.excIn K CM bmV "ValueError.__new__" = true
  cl : Cls K C
  nT : NoAttr K C "terms"
  nA : NoAttr K C "atoms"
  nR : NoAttr K C "rows"

section
variable {P : Program} {w : World} {K : PySem.W.Frag} {mg : Str → Option Value} {base : Heap} {aK C CN CT CP CM : Addr}
/-- a def out of which exceptions may go -/
theorem Fun.okX {x qual : Str} {st : Stmt} {f : Addr} {fd : FuncData} {N ps : List Str} {k : Nat} {sp : Sp} (F : Fun K x qual st f fd) (S : FnScope N ps (defScope st)) (len : ∀ vs H Q E, sp vs H Q E → vs.length = ps.length)
    (hbody : ∀ (cdv : Value) (A : Around) (outer : List Env) (s : Shared) (H : Hp) (vs : List V) (Q : VK) (E : XK), Room k (A.deeper (PyProof.Rows.envOfC qual (defScope st) s.heap.objs.size f cdv)) → sp vs H Q E →
      ∃ t, PSs (cxOf (CX1 P w) P w K mg base N qual (defScope st) f cdv A outer s H E) (defBody st) t ∧ t { nx := fun _ H' => Q .non H', rt := Q } (start N vs) H) : FnOk P w K mg base (CX1 P w) (k + 1) f fd ps sp := by
  obtain ⟨oc, od, kV, doc, pm, an, cdv, ct, osl, rfl, lk, hcd⟩ := F.ex
  exact fn_of lk hcd S len fun A outer s H vs Q E hr hsp => hbody cdv A outer s H vs Q E hr hsp
theorem xe1 {N : List Str} {qual : Str} {scope : Scope} {f : Addr} {cd : Value} {A : Around} {outer : List Env} {s : Shared} {H : Hp} {E : XK} : Xe1 (cxOf (CX1 P w) P w K mg base N qual scope f cd A outer s H E) E := ⟨rfl, rfl, rfl, rfl⟩
theorem hu64 {k : Nat} {A : Around} (hr : Room k A) : A.units + 64 < cLine := hr.units
theorem scIW : FnScope ["text"] ["text"] (defScope sIsWord) := ⟨rfl, rfl, rfl, by decide +kernel, rfl, by decide +kernel, by decide +kernel⟩
theorem ok_isword {f : Addr} {fd : FuncData} (F : Fun K "is_word" "is_word" sIsWord f fd) (T : Txt K mg aK C CN CT CP CM) : FnOk P w K mg base CX0 1 f fd ["text"] spIsWord := by
  obtain ⟨t1, e1⟩ := T.small
  refine F.ok scIW (fun vs H Q E h => ?_) (fun cdv A outer s H vs Q E hr h => ?_)
  · obtain ⟨z, rfl, _⟩ := h
    rfl
  obtain ⟨z, rfl, hz, q⟩ := h
  refine ⟨_, pss_one (ps_ret (pe_and (pe_cmpR op_gt (pe_callB call_len_str rfl T.len PySem.boot_len (pa_cons (pv 0) pa_nil)) pe_int (nomark _))
    (pe_one (pe_callB (call_all_bools rfl) rfl T.all PyProof.Rows.Boot.all (pa_cons
      (pe_lc (N' := ["letter"]) (ix := []) rfl rfl (by decide +kernel) (by decide +kernel) rfl (fun _ => ⟨[], clo_none (by decide +kernel) (by decide +kernel)⟩) (by decide +kernel) rfl rfl (fun j i h => by simp at h)
        (pi_str (pv 0)) (fun cl fp s₃ H₃ => pe_cmpR op_in_str (pv 0) (pe_glob (v := .str abc) rfl e1 ⟨_, rfl⟩) rfl)) pa_nil))))), ?_⟩
  refine ⟨_, rfl, z, rfl, sz _ hz, _, _, rfl, rfl, _, rfl, ?_⟩
  refine ite2 (fun c => ?_) (fun c => ?_)
  · have c' : (0 : Int) < (z.length : Int) := of_decide_eq_true c
    refine ⟨_, rfl, z, rfl, fun D hD => ⟨fun i m ys H' => m = z.length - i ∧ i ≤ z.length ∧ ys = ((lets z).take i).map V.bl ∧ H' = upd H D (.lst ys), ⟨z.length, rfl, Nat.zero_le _, rfl, rfl⟩, ?_⟩⟩
    rintro i m ys H' ⟨rfl, hi, rfl, rfl⟩
    refine ⟨upd_same, ?_⟩
    by_cases hlt : i < z.length
    · refine .inr ⟨hlt, fun x H'' y => ?_⟩
      obtain ⟨rfl, ch, hch, rfl⟩ := y
      have et := take_one hch
      refine ⟨_, rfl, _, _, rfl, rfl, upd_same, ?_, z.length - (i + 1), by omega, rfl, hlt, ?_, upd_upd⟩
      · rw [List.length_map, List.length_take, lets_len]
        exact Nat.lt_of_le_of_lt (Nat.le_trans (Nat.min_le_right _ _) hz) (by decide)
      · rw [et, List.map_append]
        rfl
    · have hi' : i = z.length := by omega
      subst hi'
      refine .inl ⟨Nat.le_refl _, D, lets z, rfl, SqL.of (by rw [upd_same, List.take_of_length_le (by rw [lets_len]; exact Nat.le_refl _)]), ?_⟩
      have := q _ (same_new hD (.lst (((lets z).take z.length).map V.bl)))
      unfold wordB at this
      rw [c, Bool.true_and] at this
      exact this
  · have := q H (Same.refl H)
    unfold wordB at this
    rw [Bool.eq_false_iff.mpr c, Bool.false_and] at this
    exact this

theorem scIN : FnScope ["word"] ["word"] (defScope sIsName) := ⟨rfl, rfl, rfl, by decide +kernel, rfl, by decide +kernel, by decide +kernel⟩
theorem ok_isname {f g : Addr} {fd gd : FuncData} (F : Fun K "is_name" "is_name" sIsName f fd) (T : Txt K mg aK C CN CT CP CM) (G : FnOk P w K mg base CX0 1 g gd ["text"] spIsWord) (bG : Binds K gd ["text"] []) (kG : PySem.W.keepIn K (.ref g) = true) (mG : mg "is_word" = some (.ref g)) :
    FnOk P w K mg base CX0 2 f fd ["word"] spIsName := by
  obtain ⟨t2, e2⟩ := T.longest
  refine F.ok scIN (fun vs H Q E h => ?_) (fun cdv A outer s H vs Q E hr h => ?_)
  · obtain ⟨z, rfl, _⟩ := h
    rfl
  obtain ⟨z, rfl, hz, q⟩ := h
  refine ⟨_, pss_one (ps_ret (pe_and (pe_call G hr rfl mG kG bG .nil pass0 (pa_cons (pv 0) pa_nil)) (pe_and (pe_cmpR op_le (pe_callB call_len_str rfl T.len PySem.boot_len (pa_cons (pv 0) pa_nil)) (pe_glob (v := .int 8) rfl e2 ⟨_, rfl⟩) (nomark _))
    (pe_one (pe_cmpR op_notIn_seq (pv 0) (pe_glob (v := .ref aK) rfl T.kept rfl) rfl))))), ?_⟩
  refine ⟨_, rfl, z, rfl, hz, fun H1 s1 => ⟨_, rfl, ?_⟩⟩
  refine ite2 (fun c => ?_) (fun c => ?_)
  · refine ⟨_, rfl, z, rfl, sz _ hz, _, _, rfl, rfl, _, rfl, ?_⟩
    refine ite2 (fun c2 => ?_) (fun c2 => ?_)
    · refine ⟨_, rfl, aK, keptV, rfl, .inr (T.tup H1), rfl, keptV_flat, ?_⟩
      have := q H1 s1
      unfold nameB at this
      rw [c, c2, Bool.true_and, Bool.true_and] at this
      exact this
    · have := q H1 s1
      unfold nameB at this
      rw [c, Bool.eq_false_iff.mpr c2, Bool.true_and, Bool.false_and] at this
      exact this
  · have := q H1 s1
    unfold nameB at this
    rw [Bool.eq_false_iff.mpr c, Bool.false_and] at this
    exact this


theorem scAN : FnScope ["word"] ["word"] (defScope sAskName) := ⟨rfl, rfl, rfl, by decide +kernel, rfl, by decide +kernel, by decide +kernel⟩
theorem ok_askname {f g : Addr} {fd gd : FuncData} (F : Fun K "ask_name" "ask_name" sAskName f fd) (T : Txt K mg aK C CN CT CP CM) (G : FnOk P w K mg base CX0 2 g gd ["word"] spIsName) (bG : Binds K gd ["word"] []) (kG : PySem.W.keepIn K (.ref g) = true) (mG : mg "is_name" = some (.ref g)) :
    FnOk P w K mg base (CX1 P w) 3 f fd ["word"] (spAskName CN) := by
  refine Fun.okX F scAN (fun vs H Q E h => ?_) (fun cdv A outer s H vs Q E hr h => ?_)
  · obtain ⟨z, rfl, _⟩ := h
    rfl
  obtain ⟨z, rfl, lo, h⟩ := h
  refine ⟨_, pss_one (ps_if (pt_not (pt_val (pe_call G hr rfl mG kG bG .nil pass0 (pa_cons (pv 0) pa_nil))))
    (pss_one (ps_raise (C := CN) xe1 rfl rfl T.bname PySem.F.excBase_ValueError T.xname (pa_cons (pe_joined (pj_cons (pe_fvr (pv 0)) (pj_cons pe_str pj_nil))) pa_nil))) pss_nil), ?_⟩
  refine ⟨_, rfl, z, rfl, Nat.le_trans lo.1 (by decide), fun H1 s1 => ⟨_, rfl, ?_⟩⟩
  have hre := lo.repr
  cases e : nameB z with
  | true =>
    rw [e] at h
    exact iteF (h H1 s1)
  | false =>
    rw [e, if_neg (by decide)] at h
    refine iteT ?_
    refine ⟨_, rfl, z, rfl, Nat.le_trans hre (by decide), _, rfl, ?_, _, rfl, ?_, ?_, (by show 1 ≤ sizeLine; decide), h H1 s1⟩
    · rw [app_len]
      exact Nat.le_trans (Nat.add_le_add_left hre _) (by decide +kernel)
    · rw [app_len, app_len]
      exact Nat.le_trans (Nat.add_le_add_right (Nat.add_le_add_left hre _) _) (by decide +kernel)
    · rw [app_len, app_len]
      exact Nat.le_trans (Nat.add_le_add_right (Nat.add_le_add_left hre _) _) (by decide +kernel)

theorem scPl : FnScope ["thing", "things", "most"] ["thing", "things", "most"] (defScope sPlace) := ⟨rfl, rfl, rfl, by decide +kernel, rfl, by decide +kernel, by decide +kernel⟩
theorem num_len {n : Int} (h1 : -1000 ≤ n) (h2 : n ≤ 1000) : n.natAbs.log2 < 1920 ∧ ((toString n : String) : Str).length ≤ 1002 := by
  have hb : n.natAbs ≤ 1000 := by omega
  refine ⟨?_, ?_⟩
  · by_cases h0 : n.natAbs = 0
    · rw [h0]
      decide
    · have := (Nat.log2_lt h0 (k := 1920)).mpr (Nat.lt_of_le_of_lt hb (by decide +kernel))
      exact this
  · have := PyProof.Rows.len_str_of_int n
    omega
theorem ok_place {f : Addr} {fd : FuncData} (F : Fun K "place_of" "place_of" sPlace f fd) (T : Txt K mg aK C CN CT CP CM) : FnOk P w K mg base (CX1 P w) 1 f fd ["thing", "things", "most"] (spPlace K CM) := by
  refine Fun.okX F scPl (fun vs H Q E h => ?_) (fun cdv A outer s H vs Q E hr h => ?_)
  · obtain ⟨a, tl, m, xs, ds, d, rfl, _⟩ := h
    rfl
  obtain ⟨a, tl, m, xs, ds, d, rfl, ht, hl, hs, hd, hn, m0, m1, h⟩ := h
  have hu := hu64 hr
  have hlen : xs.length = ds.length := hs.length.symm
  obtain ⟨hlog, hsl⟩ := num_len (n := m) (by omega) m1
  refine ⟨_, pss_cons (ps_if (pt_cmpR (op_inD hu) (pv 0) (pv 1) rfl) (pss_one (ps_ret (pe_bm PySem.F.plainAttrs_list PySem.F.slot_list_index PySem.F.type_list_index (mt_indexD hu) (pv 1) (pa_cons (pv 0) pa_nil)))) pss_nil)
    (pss_cons (ps_if (pt_cmpR op_ge (pe_callB call_len_seq rfl T.len PySem.boot_len (pa_cons (pv 1) pa_nil)) (pv 2) (nomark _))
      (pss_one (ps_raise (C := CM) xe1 rfl rfl T.bmany PySem.F.excBase_ValueError T.xmany (pa_cons (pe_joined (pj_cons pe_str (pj_cons (pe_fv (pv 2)) (pj_cons pe_str pj_nil)))) pa_nil))) pss_nil)
    (pss_cons (ps_expr (pe_bm PySem.F.plainAttrs_list PySem.F.slot_list_append PySem.F.type_list_append mt_append (pv 1) (pa_cons (pv 0) pa_nil)))
    (pss_one (ps_ret (pe_op op_sub (pe_callB call_len_seq rfl T.len PySem.boot_len (pa_cons (pv 1) pa_nil)) pe_int))))), ?_⟩
  refine ⟨_, rfl, _, rfl, tl, xs, ds, d, rfl, .inl (SqL.of hl), hs, ht, Nat.le_trans hd (by decide), _, rfl, ?_⟩
  refine ite2 (fun c => ?_) (fun c => ?_)
  · have c' : (ds.any fun e => peq e d) = true := c
    rw [if_pos c'] at h
    have hlt : (ds.findIdx fun e => peq e d) < ds.length := List.findIdx_lt_length_of_exists (by simpa using c')
    refine ⟨_, rfl, .inl ⟨rfl, _, SqL.of hl⟩, _, rfl, tl, xs, ds, _, d, ds.findIdx (fun e => peq e d), rfl, rfl, hl, hs, ht, Nat.le_trans hd (by decide), ⟨_, List.getElem?_eq_getElem hlt, List.findIdx_getElem (w := hlt)⟩, fun j dj h1 h2 => ?_, h H (Same.refl H)⟩
    obtain ⟨h3, h4⟩ := List.getElem?_eq_some_iff.mp h2
    have z := List.not_of_lt_findIdx (p := fun e => peq e d) h1
    rw [h4] at z
    cases e : peq dj d with
    | false => rfl
    | true => rw [e] at z; cases z
  · have c' : ¬ (ds.any fun e => peq e d) = true := c
    rw [if_neg c'] at h
    refine ⟨_, rfl, tl, xs, rfl, .inl (SqL.of hl), _, rfl, _, _, rfl, rfl, _, rfl, ite2 (fun c2 => ?_) (fun c2 => ?_)⟩
    · have c3 : m ≤ ((xs.length : Nat) : Int) := of_decide_eq_true c2
      rw [hlen] at c3
      rw [if_pos c3] at h
      refine ⟨_, rfl, by decide +kernel, _, rfl, .inr ⟨m, rfl, hlog, _, rfl, ?_, _, rfl, ?_, ?_, (by show 1 ≤ sizeLine; decide), h H (Same.refl H)⟩⟩
      all_goals
        simp only [app_len]
        first
          | exact Nat.le_trans (Nat.add_le_add_left hsl _) (by decide +kernel)
          | exact Nat.le_trans (Nat.add_le_add_right (Nat.add_le_add_left hsl _) _) (by decide +kernel)
    · have c3 : ¬ m ≤ ((xs.length : Nat) : Int) := fun z => c2 (decide_eq_true z)
      rw [hlen] at c3
      rw [if_neg c3] at h
      refine ⟨_, rfl, .inl ⟨rfl, _, SqL.of hl⟩, _, rfl, tl, xs, _, rfl, rfl, hl, Nat.lt_of_le_of_lt (by rw [hlen]; exact hn) (by decide), ?_⟩
      refine ⟨_, rfl, tl, _, rfl, .inl (SqL.of upd_same), _, _, rfl, rfl, ?_⟩
      have e : (((xs ++ [V.ref a]).length : Nat) : Int) - 1 = (ds.length : Nat) := by rw [List.length_append, hlen]; simp
      show Q (.int ((((xs ++ [V.ref a]).length : Nat) : Int) - 1)) _
      rw [e]
      exact h

theorem scI : FnScope ["self"] ["self"] (defScope sInit) := ⟨rfl, rfl, rfl, by decide +kernel, rfl, by decide +kernel, by decide +kernel⟩
theorem ok_init {f : Addr} {fd : FuncData} (F : Fun K "__init__" "Problem.__init__" sInit f fd) (T : Txt K mg aK C CN CT CP CM) : FnOk P w K mg base CX0 1 f fd ["self"] (spInit C) := by
  refine F.ok scI (fun vs H Q E h => ?_) (fun cdv A outer s H vs Q E hr h => ?_)
  · obtain ⟨p, dx, rfl, _⟩ := h
    rfl
  obtain ⟨p, dx, rfl, hp, k⟩ := h
  refine ⟨_, pss_cons (ps_fld (pv 0) (pe_lst pa_nil) rfl) (pss_cons (ps_fld (pv 0) (pe_lst pa_nil) rfl) (pss_one (ps_fld (pv 0) (pe_lst pa_nil) rfl))), ?_⟩
  refine ⟨(by show 0 ≤ sizeLine; decide), fun tl ht => ?_⟩
  have n1 : p ≠ tl := ne_of_none hp ht
  refine ⟨_, rfl, p, C, dx, [], rfl, (by rw [upd_ne n1]; exact hp), T.cl, T.nT, (by show 0 < 1000; decide), ?_⟩
  refine ⟨(by show 0 ≤ sizeLine; decide), fun al ha => ?_⟩
  have a1 : al ≠ p := fun z => by rw [z, upd_same] at ha; cases ha
  have a2 : al ≠ tl := fun z => by rw [z, upd_ne n1.symm, upd_same] at ha; cases ha
  have a0 : H al = none := by rw [upd_ne a1, upd_ne a2] at ha; exact ha
  refine ⟨_, rfl, p, C, dx, _, rfl, (by rw [upd_ne a1.symm, upd_same]), T.cl, T.nA, (by show 1 < 1000; decide), ?_⟩
  refine ⟨(by show 0 ≤ sizeLine; decide), fun rl hrl => ?_⟩
  have r1 : rl ≠ p := fun z => by rw [z, upd_same] at hrl; cases hrl
  have r2 : rl ≠ al := fun z => by rw [z, upd_ne a1, upd_same] at hrl; cases hrl
  have r3 : rl ≠ tl := fun z => by rw [z, upd_ne n1.symm, upd_ne a2.symm, upd_ne n1.symm, upd_same] at hrl; cases hrl
  have r0 : H rl = none := by rw [upd_ne r1, upd_ne r2, upd_ne r1, upd_ne r3] at hrl; exact hrl
  refine ⟨_, rfl, p, C, dx, _, rfl, (by rw [upd_ne r1.symm, upd_same]), T.cl, T.nR, (by show 2 < 1000; decide), ?_⟩
  refine k tl al rl _ ht a0 r0 a2 r3 r2 upd_same ?_ ?_ ?_ fun b o e hb => ?_
  · rw [upd_ne n1.symm, upd_ne r3.symm, upd_ne n1.symm, upd_ne a2.symm, upd_ne n1.symm, upd_same]
  · rw [upd_ne a1, upd_ne r2.symm, upd_ne a1, upd_same]
  · rw [upd_ne r1, upd_same]
  · rw [upd_ne hb, upd_ne (ne_of_none e r0), upd_ne hb, upd_ne (ne_of_none e a0), upd_ne hb, upd_ne (ne_of_none e ht)]
    exact e

theorem scAT : FnScope ["self", "number"] ["self", "number"] (defScope sAskTerm) := ⟨rfl, rfl, rfl, by decide +kernel, rfl, by decide +kernel, by decide +kernel⟩
theorem ok_askterm {f : Addr} {fd : FuncData} (F : Fun K "ask_term" "Problem.ask_term" sAskTerm f fd) (T : Txt K mg aK C CN CT CP CM) : FnOk P w K mg base (CX1 P w) 1 f fd ["self", "number"] (spAskTerm K C CT) := by
  refine Fun.okX F scAT (fun vs H Q E h => ?_) (fun cdv A outer s H vs Q E hr h => ?_)
  · obtain ⟨p, tl, al, rl, T, As, Rs, n, rfl, _⟩ := h
    rfl
  obtain ⟨p, tl, al, rl, T', As, Rs, n, rfl, S, h1, h2, h⟩ := h
  obtain ⟨⟨dx, ho⟩, ⟨xs, hl, hs⟩, _⟩ := id S
  have hlen : xs.length = T'.length := by rw [← hs.length, List.length_map]
  obtain ⟨hlog, hsl⟩ := num_len h1 h2
  refine ⟨_, pss_one (ps_if (PW.pt (pw_or (pt_cmpR op_lt (pv 1) pe_int (nomark _)) (pw_or1 (pt_cmpR op_ge (pv 1) (pe_callB call_len_seq rfl T.len PySem.boot_len (pa_cons (pe_fld (pv 0) rfl) pa_nil)) (nomark _)))))
    (pss_one (ps_raise (C := CT) xe1 rfl rfl T.bterm PySem.F.excBase_ValueError T.xterm (pa_cons (pe_joined (pj_cons (pe_fv (pv 1)) (pj_cons pe_str pj_nil))) pa_nil))) pss_nil), ?_⟩
  refine ⟨_, rfl, _, _, rfl, rfl, _, rfl, ite2 (fun c => iteT ?_) (fun c => ⟨_, rfl, _, rfl, p, C, dx, _, _, rfl, ho, T.cl, T.nT, flds_terms _ _ _, tl, xs, rfl, .inl (SqL.of hl), _, _, rfl, rfl, _, rfl, ite2 (fun c2 => ?_) (fun c2 => ?_)⟩)⟩
  rotate_left 2
  · have c' : ¬ n < 0 := fun z => c (decide_eq_true z)
    have c2' : ¬ ((xs.length : Nat) : Int) ≤ n := fun z => c2 (decide_eq_true z)
    rw [hlen] at c2'
    rw [if_neg (by omega)] at h
    exact h
  all_goals
    have hcond : n < 0 ∨ (T'.length : Int) ≤ n := by
      first
        | exact .inl (of_decide_eq_true c)
        | exact .inr (by have z : ((xs.length : Nat) : Int) ≤ n := of_decide_eq_true c2; rw [hlen] at z; exact z)
    rw [if_pos hcond] at h
    refine ⟨_, rfl, .inr ⟨n, rfl, hlog, _, rfl, ?_, _, rfl, ?_, ?_, (by show 1 ≤ sizeLine; decide), h H (Same.refl H)⟩⟩
    · rw [app_len]
      exact Nat.le_trans (Nat.add_le_add_left hsl _) (by decide +kernel)
    · rw [app_len, app_len]
      exact Nat.le_trans (Nat.add_le_add_right (Nat.add_le_add_left hsl _) _) (by decide +kernel)
    · rw [app_len, app_len]
      exact Nat.le_trans (Nat.add_le_add_right (Nat.add_le_add_left hsl _) _) (by decide +kernel)


end
end K34

/-! law k34, second part: the problem's own methods. Behind K34a. -/
namespace K34
open PySem L2
def Fr2 (H H' : Hp) (z y : Addr) : Prop := ∀ b o, H b = some o → b ≠ z → b ≠ y → H' b = some o
theorem Fr2.of1 {H H' : Hp} {z y : Addr} (f : Fr1 H H' z) : Fr2 H H' z y := fun b o e n _ => f b o e n
theorem Fr2.of_same {H H' : Hp} {z y : Addr} (s : Same H H') : Fr2 H H' z y := fun b o e _ _ => s b o e
theorem Fr2.trans {H H1 H2 : Hp} {z y : Addr} (a : Fr2 H H1 z y) (b : Fr2 H1 H2 z y) : Fr2 H H2 z y := fun c o e n m => b c o (a c o e n m) n m
def addP (As : List At) (z : Str) : Out × List At :=
  if nameB z = false then (.name, As) else if .plain z ∈ As then (.num (As.idxOf (.plain z) + 1), As) else if 40 ≤ As.length then (.many, As) else (.num (As.length + 1), As ++ [.plain z])
def addS (n : Nat) (As : List At) (a b : Int) : Out × List At :=
  if a < 0 ∨ (n : Int) ≤ a ∨ b < 0 ∨ (n : Int) ≤ b then (.term, As) else if .same b a ∈ As then (.num (As.idxOf (.same b a) + 1), As) else if .same a b ∈ As then (.num (As.idxOf (.same a b) + 1), As) else if 40 ≤ As.length then (.many, As) else (.num (As.length + 1), As ++ [.same a b])
def once : List Int → List Int → List Int
  | acc, [] => acc
  | acc, p :: ps => once (if p ∈ acc then acc else acc ++ [p]) ps
def addR (m : Nat) (Rs : List (List Int)) (ps : List Int) : Out × List (List Int) :=
  if ps.any (noPart m) = true then (.part, Rs) else if 20 < ps.length then (.many, Rs) else if 200 ≤ Rs.length then (.many, Rs) else (.num Rs.length, Rs ++ [once [] ps])
/-- what is told of a deed -/
def Told (K : PySem.W.Frag) (C CN CT CP CM : Addr) (H : Hp) (p tl al rl : Addr) (T : List Tm) (As : List At) (Rs : List (List Int)) (Q : VK) (E : XK) : Out → Prop
  | .num k => ∀ H', PrAt K C H' p tl al rl T As Rs → Fr2 H H' al rl → Q (.int (k : Nat)) H'
  | .name => ∀ H', Same H H' → E (.ref CN) none H'
  | .term => ∀ H', Same H H' → E (.ref CT) none H'
  | .part => ∀ H', Same H H' → E (.ref CP) none H'
  | .many => ∀ H', Same H H' → E (.ref CM) none H'
def spPlain (K : PySem.W.Frag) (C CN CT CP CM : Addr) : Sp := fun vs H Q E => ∃ (p tl al rl : Addr) (T : List Tm) (As : List At) (Rs : List (List Int)) (z : Str), vs = [.ref p, .str z] ∧ PrAt K C H p tl al rl T As Rs ∧ Low z ∧ As.length ≤ 1000 ∧
  Told K C CN CT CP CM H p tl al rl T (addP As z).2 Rs Q E (addP As z).1
def spSame (K : PySem.W.Frag) (C CN CT CP CM : Addr) : Sp := fun vs H Q E => ∃ (p tl al rl : Addr) (T : List Tm) (As : List At) (Rs : List (List Int)) (a b : Int), vs = [.ref p, .int a, .int b] ∧ PrAt K C H p tl al rl T As Rs ∧ (-1000 ≤ a ∧ a ≤ 1000) ∧ (-1000 ≤ b ∧ b ≤ 1000) ∧ As.length ≤ 1000 ∧
  Told K C CN CT CP CM H p tl al rl T (addS T.length As a b).2 Rs Q E (addS T.length As a b).1
def spRow (K : PySem.W.Frag) (C CN CT CP CM : Addr) : Sp := fun vs H Q E => ∃ (p tl al rl q : Addr) (T : List Tm) (As : List At) (Rs : List (List Int)) (ps : List Int), vs = [.ref p, .ref q] ∧ PrAt K C H p tl al rl T As Rs ∧ SqI K H q ps ∧ ps.length ≤ 1000 ∧ (∀ i ∈ ps, -1000 ≤ i ∧ i ≤ 1000) ∧ Rs.length ≤ 1000 ∧
  Told K C CN CT CP CM H p tl al rl T As (addR As.length Rs ps).2 Q E (addR As.length Rs ps).1
def spOnce (K : PySem.W.Frag) : Sp := fun vs H Q _ => ∃ (q : Addr) (ps : List Int), vs = [.ref q] ∧ SqI K H q ps ∧ ps.length ≤ 1000 ∧ ∀ (H' : Hp) (l : Addr), Same H H' → H' l = some (.tup ((once [] ps).map V.int)) → Q (.ref l) H'
theorem q1 {Q : VK} {n : Nat} {H : Hp} (h : Q (.int ((n + 1 : Nat) : Int)) H) : Q (.int (((n : Nat) : Int) + 1)) H := h
theorem once_len : ∀ (ps acc : List Int), (once acc ps).length ≤ acc.length + ps.length
  | [], acc => by simp [once]
  | p :: ps, acc => by
    unfold once
    have h := once_len ps (if p ∈ acc then acc else acc ++ [p])
    split at h <;> simp only [List.length_append, List.length_cons, List.length_singleton, List.length_nil] at h ⊢ <;> split <;> simp_all <;> omega
theorem once_take {ps : List Int} {i : Nat} {k : Int} : ∀ {acc : List Int}, ps[i]? = some k → once acc (ps.take (i + 1)) = if k ∈ once acc (ps.take i) then once acc (ps.take i) else once acc (ps.take i) ++ [k] := by
  induction ps generalizing i with
  | nil => intro acc h; simp at h
  | cons p ps ih =>
    intro acc h
    cases i with
    | zero =>
      simp at h
      subst h
      simp [once]
    | succ i =>
      simp only [List.take_succ_cons, once]
      exact ih (by simpa using h)
section
variable {P : Program} {w : World} {K : PySem.W.Frag} {mg : Str → Option Value} {base : Heap} {aK C CN CT CP CM : Addr}
theorem place_A {H : Hp} {p tl al rl a : Addr} {T : List Tm} {As : List At} {Rs : List (List Int)} {t : At} {Q : VK} {E : XK} (S : PrAt K C H p tl al rl T As Rs) (ha : Has K H (dA t) (.ref a)) (len : As.length ≤ 1000)
    (k1 : t ∈ As → ∀ H', Same H H' → Q (.int (As.idxOf t : Nat)) H') (k2 : t ∉ As → 40 ≤ As.length → ∀ H', Same H H' → E (.ref CM) none H')
    (k3 : t ∉ As → ¬ 40 ≤ As.length → ∀ H', PrAt K C H' p tl al rl T (As ++ [t]) Rs → Fr1 H H' al → Q (.int (As.length : Nat)) H') : spPlace K CM [.ref a, .ref al, .int 40] H Q E := by
  obtain ⟨xs, hl, hs⟩ := id S.am
  refine ⟨a, al, 40, xs, As.map dA, dA t, rfl, ha, hl, hs, Nat.le_trans (deps_code (n := 1) (fun a => by rw [dep_dA]; exact Nat.le_refl _) As) (by decide), by rw [List.length_map]; exact len, by decide, by decide, ?_⟩
  rw [any_code iff_dA, idx_code iff_dA, List.length_map]
  by_cases hm : t ∈ As
  · rw [if_pos (decide_eq_true hm)]
    exact k1 hm
  · rw [if_neg (by rw [decide_eq_false hm]; decide)]
    by_cases h40 : 40 ≤ As.length
    · rw [if_pos (by omega)]
      exact k2 hm h40
    · rw [if_neg (by omega)]
      have kt : KeepT H (upd H al (.lst (xs ++ [.ref a]))) := KeepT.lst hl
      refine k3 hm h40 _ (S.setA ?_) fun b o e hb => by rw [upd_ne hb]; exact e
      rw [List.map_append]
      exact (hs.keep kt (nols_code nol_dA As)).append (HasL.one (ha.keep kt (nol_dA t)))
theorem scP : FnScope ["self", "name"] ["self", "name"] (defScope sPlain) := ⟨rfl, rfl, rfl, by decide +kernel, rfl, by decide +kernel, by decide +kernel⟩
theorem ok_plain {f fN fP : Addr} {fd dN dP : FuncData} (F : Fun K "add_plain" "Problem.add_plain" sPlain f fd) (T : Txt K mg aK C CN CT CP CM)
    (GN : FnOk P w K mg base (CX1 P w) 3 fN dN ["word"] (spAskName CN)) (bN : Binds K dN ["word"] []) (kN : PySem.W.keepIn K (.ref fN) = true) (mN : mg "ask_name" = some (.ref fN))
    (GP : FnOk P w K mg base (CX1 P w) 1 fP dP ["thing", "things", "most"] (spPlace K CM)) (bP : Binds K dP ["thing", "things", "most"] []) (kP : PySem.W.keepIn K (.ref fP) = true) (mP : mg "place_of" = some (.ref fP)) :
    FnOk P w K mg base (CX1 P w) 4 f fd ["self", "name"] (spPlain K C CN CT CP CM) := by
  obtain ⟨t40, e40⟩ := T.atoms
  refine Fun.okX F scP (fun vs H Q E h => ?_) (fun cdv A outer s H vs Q E hr h => ?_)
  · obtain ⟨p, tl, al, rl, T, As, Rs, z, rfl, _⟩ := h
    rfl
  obtain ⟨p, tl, al, rl, T', As, Rs, z, rfl, S, lo, len, h⟩ := h
  have hr1 : Room 1 _ := hr.mono (by decide)
  refine ⟨_, pss_cons (ps_expr (pe_call GN hr rfl mN kN bN .nil (passes1 xe1) (pa_cons (pv 1) pa_nil)))
    (pss_one (ps_ret (pe_op op_add (pe_call GP hr1 rfl mP kP bP .nil (passes1 xe1) (pa_cons (pe_tup (pa_cons pe_str (pa_cons (pv 1) pa_nil))) (pa_cons (pe_fld (pv 0) rfl) (pa_cons (pe_glob (v := .int 40) rfl e40 ⟨_, rfl⟩) pa_nil)))) pe_int))), ?_⟩
  refine ⟨_, rfl, z, rfl, lo, ?_⟩
  cases hg : nameB z with
  | false =>
    rw [if_neg (by decide)]
    have e : addP As z = (.name, As) := if_pos hg
    rw [e] at h
    exact h
  | true =>
  rw [if_pos rfl]
  intro H1 s1
  refine ⟨_, rfl, (by show 2 ≤ sizeLine; decide), fun a ha => ?_⟩
  have s2 : Same H1 (upd H1 a (.tup [.str "plain", .str z])) := same_new ha _
  have s12 := s1.trans s2
  have S2 := S.same s12
  obtain ⟨⟨dx, ho⟩, _⟩ := id S2
  have hd : Has K (upd H1 a (.tup [.str "plain", .str z])) (dA (.plain z)) (.ref a) := by
    simp only [dA, Has, HasL]
    exact ⟨a, _, rfl, SqT.of upd_same, _, _, rfl, rfl, _, _, rfl, rfl, rfl⟩
  refine ⟨_, rfl, p, C, dx, _, _, rfl, ho, T.cl, T.nA, flds_atoms _ _ _, ?_⟩
  refine place_A (CM := CM) (E := E) (Q := fun x H' => rI0 (fun i j => .int (i + j)) x (.int 1) H' Q) S2 hd len (fun hm H' s' => ?_) (fun hm h40 H' s' => ?_) (fun hm h40 H' S' fr => ?_)
  · have e : addP As z = (.num (As.idxOf (.plain z) + 1), As) := by unfold addP; rw [if_neg (by rw [hg]; decide), if_pos hm]
    rw [e] at h
    exact ⟨_, _, rfl, rfl, q1 <| h H' (S2.same s') (Fr2.of_same (s12.trans s'))⟩
  · have e : addP As z = (.many, As) := by unfold addP; rw [if_neg (by rw [hg]; decide), if_neg hm, if_pos h40]
    rw [e] at h
    exact h H' (s12.trans s')
  · have e : addP As z = (.num (As.length + 1), As ++ [.plain z]) := by unfold addP; rw [if_neg (by rw [hg]; decide), if_neg hm, if_neg h40]
    rw [e] at h
    exact ⟨_, _, rfl, rfl, q1 <| h H' S' ((Fr2.of_same s12).trans (Fr2.of1 fr))⟩
theorem scSm : FnScope ["self", "one", "other", "turned"] ["self", "one", "other"] (defScope sSame) := ⟨rfl, rfl, rfl, by decide +kernel, rfl, by decide +kernel, by decide +kernel⟩
theorem ok_same {f fT fP : Addr} {fd dT' dP : FuncData} (F : Fun K "add_same" "Problem.add_same" sSame f fd) (T : Txt K mg aK C CN CT CP CM)
    (GT : FnOk P w K mg base (CX1 P w) 1 fT dT' ["self", "number"] (spAskTerm K C CT)) (bT : Binds K dT' ["self", "number"] []) (mT : Meth K C "ask_term" fT)
    (GP : FnOk P w K mg base (CX1 P w) 1 fP dP ["thing", "things", "most"] (spPlace K CM)) (bP : Binds K dP ["thing", "things", "most"] []) (kP : PySem.W.keepIn K (.ref fP) = true) (mP : mg "place_of" = some (.ref fP)) :
    FnOk P w K mg base (CX1 P w) 2 f fd ["self", "one", "other"] (spSame K C CN CT CP CM) := by
  obtain ⟨t40, e40⟩ := T.atoms
  refine Fun.okX F scSm (fun vs H Q E h => ?_) (fun cdv A outer s H vs Q E hr h => ?_)
  · obtain ⟨p, tl, al, rl, T, As, Rs, a, b, rfl, _⟩ := h
    rfl
  obtain ⟨p, tl, al, rl, T', As, Rs, a, b, rfl, S, ⟨a1, a2⟩, ⟨b1, b2⟩, len, h⟩ := h
  have hu := hu64 hr
  refine ⟨_, pss_cons (ps_expr (pe_meth (pv 0) T.cl mT GT hr bT .nil (passes1 xe1) (pa_cons (pv 1) pa_nil)))
    (pss_cons (ps_expr (pe_meth (pv 0) T.cl mT GT hr bT .nil (passes1 xe1) (pa_cons (pv 2) pa_nil)))
    (pss_cons (ps_set (i := 3) scSm.nd rfl (Or.inl rfl) (pe_tup (pa_cons pe_str (pa_cons (pv 2) (pa_cons (pv 1) pa_nil)))))
    (pss_cons (ps_if (pt_cmpR (op_inD hu) (pv 3) (pe_fld (pv 0) rfl) rfl) (pss_one (ps_ret (pe_op op_add (pe_bm PySem.F.plainAttrs_list PySem.F.slot_list_index PySem.F.type_list_index (mt_indexD hu) (pe_fld (pv 0) rfl) (pa_cons (pv 3) pa_nil)) pe_int))) pss_nil)
    (pss_one (ps_ret (pe_op op_add (pe_call GP hr rfl mP kP bP .nil (passes1 xe1) (pa_cons (pe_tup (pa_cons pe_str (pa_cons (pv 1) (pa_cons (pv 2) pa_nil)))) (pa_cons (pe_fld (pv 0) rfl) (pa_cons (pe_glob (v := .int 40) rfl e40 ⟨_, rfl⟩) pa_nil)))) pe_int)))))), ?_⟩
  obtain ⟨⟨dx, ho⟩, _, ⟨xs, hl, hs⟩, _⟩ := id S
  have no := flds_no tl al rl (m := "ask_term") (by decide +kernel) (by decide +kernel) (by decide +kernel)
  refine ⟨_, rfl, p, dx, _, rfl, ho, no, _, rfl, p, tl, al, rl, T', As, Rs, a, rfl, S, a1, a2, ?_⟩
  by_cases ca : a < 0 ∨ (T'.length : Int) ≤ a
  · rw [if_pos ca]
    have e : addS T'.length As a b = (.term, As) := if_pos (ca.elim .inl fun z => .inr (.inl z))
    rw [e] at h
    exact h
  rw [if_neg ca]
  refine ⟨_, rfl, p, dx, _, rfl, ho, no, _, rfl, p, tl, al, rl, T', As, Rs, b, rfl, S, b1, b2, ?_⟩
  by_cases cb : b < 0 ∨ (T'.length : Int) ≤ b
  · rw [if_pos cb]
    have e : addS T'.length As a b = (.term, As) := if_pos (.inr (.inr cb))
    rw [e] at h
    exact h
  rw [if_neg cb]
  have cn : ¬ (a < 0 ∨ (T'.length : Int) ≤ a ∨ b < 0 ∨ (T'.length : Int) ≤ b) := by omega
  refine ⟨_, rfl, _, rfl, (by show 3 ≤ sizeLine; decide), fun u hu' => ?_⟩
  have s1 : Same H (upd H u (.tup [.str "same", .int b, .int a])) := same_new hu' _
  have hd : Has K (upd H u (.tup [.str "same", .int b, .int a])) (dA (.same b a)) (.ref u) := by
    simp only [dA, Has, HasL]
    exact ⟨u, _, rfl, SqT.of upd_same, _, _, rfl, rfl, _, _, rfl, rfl, _, _, rfl, rfl, rfl⟩
  have S1 := S.same s1
  have hs1 := hs.keep (.of_same s1) (nols_code nol_dA As)
  have dp : deps (As.map dA) ≤ 60 := Nat.le_trans (deps_code (n := 1) (fun a => by rw [dep_dA]; exact Nat.le_refl _) As) (by decide)
  refine ⟨_, rfl, _, rfl, p, C, dx, _, _, rfl, s1 _ _ ho, T.cl, T.nA, flds_atoms _ _ _, al, xs, As.map dA, dA (.same b a), rfl, .inl (SqL.of (s1 _ _ hl)), hs1, hd, dp, _, rfl, ?_⟩
  have ea := any_code iff_dA As (.same b a)
  by_cases hm : At.same b a ∈ As
  · rw [decide_eq_true hm] at ea
    refine ite2 (fun _ => ?_) (fun c => absurd ea c)
    have e : addS T'.length As a b = (.num (As.idxOf (.same b a) + 1), As) := by unfold addS; rw [if_neg cn, if_pos hm]
    rw [e] at h
    have hlt := List.idxOf_lt_length_of_mem hm
    refine ⟨_, rfl, p, C, dx, _, _, rfl, s1 _ _ ho, T.cl, T.nA, flds_atoms _ _ _, .inl ⟨rfl, _, SqL.of (s1 _ _ hl)⟩, _, rfl, al, xs, As.map dA, _, dA (.same b a), As.idxOf (.same b a), rfl, rfl, s1 _ _ hl, hs1, hd, dp, ⟨dA (.same b a), ?_, peq_refl _⟩, fun m dm h1 h2 => ?_, _, _, rfl, rfl, q1 (h _ S1 (Fr2.of_same s1))⟩
    · rw [List.getElem?_map, List.getElem?_eq_getElem hlt]
      simp
    · rw [List.getElem?_map] at h2
      cases q : As[m]? with
      | none => rw [q] at h2; cases h2
      | some v =>
        rw [q] at h2
        have e' : dm = dA v := (Option.some.inj h2).symm
        rw [e', peq_dA]
        refine decide_eq_false fun z => ?_
        obtain ⟨hm', hv⟩ := List.getElem?_eq_some_iff.mp q
        have z' := List.not_of_lt_findIdx (p := (· == At.same b a)) h1
        rw [hv, z, beq_self_eq_true] at z'
        cases z'
  · rw [decide_eq_false hm] at ea
    refine ite2 (fun c => absurd (show false = true from ea.symm.trans c) (by decide)) (fun _ => ?_)
    refine ⟨_, rfl, _, rfl, (by show 3 ≤ sizeLine; decide), fun v hv => ?_⟩
    have s2 : Same (upd H u (.tup [.str "same", .int b, .int a])) (upd (upd H u (.tup [.str "same", .int b, .int a])) v (.tup [.str "same", .int a, .int b])) := same_new hv _
    have s12 := s1.trans s2
    have S2 := S.same s12
    have hd2 : Has K (upd (upd H u (.tup [.str "same", .int b, .int a])) v (.tup [.str "same", .int a, .int b])) (dA (.same a b)) (.ref v) := by
      simp only [dA, Has, HasL]
      exact ⟨v, _, rfl, SqT.of upd_same, _, _, rfl, rfl, _, _, rfl, rfl, _, _, rfl, rfl, rfl⟩
    refine ⟨_, rfl, p, C, dx, _, _, rfl, s12 _ _ ho, T.cl, T.nA, flds_atoms _ _ _, ?_⟩
    refine place_A (CM := CM) (E := E) (Q := fun x H' => rI0 (fun i j => .int (i + j)) x (.int 1) H' Q) S2 hd2 len (fun hm2 H' s' => ?_) (fun hm2 h40 H' s' => ?_) (fun hm2 h40 H' S' fr => ?_)
    · have e : addS T'.length As a b = (.num (As.idxOf (.same a b) + 1), As) := by unfold addS; rw [if_neg cn, if_neg hm, if_pos hm2]
      rw [e] at h
      exact ⟨_, _, rfl, rfl, q1 <| h H' (S2.same s') (Fr2.of_same (s12.trans s'))⟩
    · have e : addS T'.length As a b = (.many, As) := by unfold addS; rw [if_neg cn, if_neg hm, if_neg hm2, if_pos h40]
      rw [e] at h
      exact h H' (s12.trans s')
    · have e : addS T'.length As a b = (.num (As.length + 1), As ++ [.same a b]) := by unfold addS; rw [if_neg cn, if_neg hm, if_neg hm2, if_neg h40]
      rw [e] at h
      exact ⟨_, _, rfl, rfl, q1 <| h H' S' ((Fr2.of_same s12).trans (Fr2.of1 fr))⟩
end
end K34

/-! law k34, third part: add_term, once_each, add_row. Behind K34b. -/
namespace K34
open PySem L2
/-- what add_term asks ahead -/
structure Asks (K : PySem.W.Frag) (C : Addr) (H : Hp) (p tl al rl q : Addr) (T : List Tm) (As : List At) (Rs : List (List Int)) (n : Str) (ps : List Int) : Prop where
  pr : PrAt K C H p tl al rl T As Rs
  sq : SqI K H q ps
  low : Low n
  few : ps.length ≤ 10
  small : ∀ i ∈ ps, -1000 ≤ i ∧ i ≤ 1000
  len : T.length ≤ 1000
def spAdd (K : PySem.W.Frag) (C CN CT CM : Addr) : Sp := fun vs H Q E => ∃ (p tl al rl q : Addr) (T : List Tm) (As : List At) (Rs : List (List Int)) (n : Str) (ps : List Int), vs = [.ref p, .str n, .ref q] ∧ Asks K C H p tl al rl q T As Rs n ps ∧
  match addT T (nameB n) (n, ps) with
  | (.num k, T') => ∀ H', PrAt K C H' p tl al rl T' As Rs → Fr1 H H' tl → Q (.int (k : Nat)) H'
  | (.name, _) => ∀ H', Same H H' → E (.ref CN) none H'
  | (.term, _) => ∀ H', Same H H' → E (.ref CT) none H'
  | (.many, _) => ∀ H', Same H H' → E (.ref CM) none H'
  | (.part, _) => True
section
variable {P : Program} {w : World} {K : PySem.W.Frag} {mg : Str → Option Value} {base : Heap} {aK C CN CT CP CM : Addr}
theorem scA : FnScope ["self", "name", "parts", "part"] ["self", "name", "parts"] (defScope sAdd) := ⟨rfl, rfl, rfl, by decide +kernel, rfl, by decide +kernel, by decide +kernel⟩
theorem ints_get {ps : List Int} {i : Nat} {x : V} (h : (ps.map V.int)[i]? = some x) : ∃ k, ps[i]? = some k ∧ x = .int k := by
  rw [List.getElem?_map] at h
  cases e : ps[i]? with
  | none => rw [e] at h; cases h
  | some k =>
    rw [e] at h
    exact ⟨k, rfl, (Option.some.inj h).symm⟩
theorem bad_at {T : List Tm} {ps : List Int} {i : Nat} {k : Int} (h3 : ps.length ≤ 3) (e : ps[i]? = some k) (h : k < 0 ∨ (T.length : Int) ≤ k) : bad T ps = true := by
  unfold bad
  rw [Bool.or_eq_true]
  refine .inr (List.any_eq_true.mpr ⟨k, List.mem_of_getElem? e, ?_⟩)
  rw [Bool.or_eq_true]
  exact h.elim (fun z => .inl (decide_eq_true z)) fun z => .inr (decide_eq_true z)
theorem not_bad {T : List Tm} {ps : List Int} (h3 : ps.length ≤ 3) (h : ∀ (i : Nat) k, ps[i]? = some k → ¬ (k < 0 ∨ (T.length : Int) ≤ k)) : bad T ps = false := by
  cases e : bad T ps with
  | false => rfl
  | true =>
    unfold bad at e
    rw [Bool.or_eq_true] at e
    rcases e with e | e
    · have := of_decide_eq_true e
      omega
    · obtain ⟨k, hk, e⟩ := List.any_eq_true.mp e
      obtain ⟨i, hi⟩ := List.mem_iff_getElem?.mp hk
      rw [Bool.or_eq_true] at e
      exact absurd (e.elim (fun z => .inl (of_decide_eq_true z)) fun z => .inr (of_decide_eq_true z)) (h i k hi)
theorem ok_add {f fN fT fP : Addr} {fd dN dT' dP : FuncData} (F : Fun K "add_term" "Problem.add_term" sAdd f fd) (T : Txt K mg aK C CN CT CP CM)
    (GN : FnOk P w K mg base (CX1 P w) 3 fN dN ["word"] (spAskName CN)) (bN : Binds K dN ["word"] []) (kN : PySem.W.keepIn K (.ref fN) = true) (mN : mg "ask_name" = some (.ref fN))
    (GT : FnOk P w K mg base (CX1 P w) 1 fT dT' ["self", "number"] (spAskTerm K C CT)) (bT : Binds K dT' ["self", "number"] []) (mT : Meth K C "ask_term" fT)
    (GP : FnOk P w K mg base (CX1 P w) 1 fP dP ["thing", "things", "most"] (spPlace K CM)) (bP : Binds K dP ["thing", "things", "most"] []) (kP : PySem.W.keepIn K (.ref fP) = true) (mP : mg "place_of" = some (.ref fP)) :
    FnOk P w K mg base (CX1 P w) 4 f fd ["self", "name", "parts"] (spAdd K C CN CT CM) := by
  obtain ⟨t3, e3⟩ := T.parts
  obtain ⟨t60, e60⟩ := T.terms
  refine Fun.okX F scA (fun vs H Q E h => ?_) (fun cdv A outer s H vs Q E hr h => ?_)
  · obtain ⟨p, tl, al, rl, q, T, As, Rs, n, ps, rfl, _⟩ := h
    rfl
  obtain ⟨p, tl, al, rl, q, T', As, Rs, n, ps, rfl, A0, h⟩ := h
  obtain ⟨S, hq, lo, few, small, len⟩ := A0
  have hr1 : Room 1 _ := hr.mono (by decide)
  refine ⟨_, pss_cons (ps_expr (pe_call GN hr rfl mN kN bN .nil (passes1 xe1) (pa_cons (pv 1) pa_nil)))
    (pss_cons (ps_if (pt_cmpR op_gt (pe_callB call_len_seq rfl T.len PySem.boot_len (pa_cons (pv 2) pa_nil)) (pe_glob (v := .int 3) rfl e3 ⟨_, rfl⟩) (nomark _))
      (pss_one (ps_raise (C := CT) xe1 rfl rfl T.bterm PySem.F.excBase_ValueError T.xterm (pa_cons (pe_joined (pj_cons (pe_fv (pv 1)) (pj_cons pe_str (pj_cons (pe_fv (pe_glob (v := .int 3) rfl e3 ⟨_, rfl⟩)) (pj_cons pe_str pj_nil))))) pa_nil))) pss_nil)
    (pss_cons (ps_for PassesOwn.leaving rfl (pi_seq (pv 2)) (pg_name (i := 3) scA.nd rfl (Or.inl rfl)) (pss_one (ps_expr (pe_meth (pv 0) T.cl mT GT hr1 bT .nil (passes1 xe1) (pa_cons (pv 3) pa_nil)))))
    (pss_one (ps_ret (pe_call GP hr1 rfl mP kP bP .nil (passes1 xe1) (pa_cons (pe_tup (pa_cons (pv 1) (pa_cons (pe_callTy call_tuple_of rfl T.tuple PyProof.Rows.Boot.tuple (pa_cons (pv 2) pa_nil)) pa_nil))) (pa_cons (pe_fld (pv 0) rfl) (pa_cons (pe_glob (v := .int 60) rfl e60 ⟨_, rfl⟩) pa_nil)))))))), ?_⟩
  refine ⟨_, rfl, n, rfl, lo, ?_⟩
  cases hg : nameB n with
  | false =>
    have e : addT T' false (n, ps) = (.name, T') := if_pos rfl
    rw [hg, e] at h
    rw [if_neg (by decide)]
    exact h
  | true =>
  rw [if_pos rfl]
  intro H1 s1
  have S1 := S.same s1
  have hq1 := hq.same s1
  refine ⟨_, rfl, q, _, rfl, hq1, _, _, rfl, rfl, _, rfl, ?_⟩
  have hl1 : (ps.map V.int).length = ps.length := List.length_map _
  refine ite2 (fun c => ?_) (fun c => ?_)
  · have c' : (3 : Int) < (((ps.map V.int).length : Nat) : Int) := of_decide_eq_true c
    rw [hl1] at c'
    have hb : bad T' ps = true := by unfold bad; rw [decide_eq_true (by omega : 3 < ps.length)]; rfl
    have e : addT T' true (n, ps) = (.term, T') := by unfold addT; rw [if_neg (by decide), if_pos hb]
    rw [hg, e] at h
    have hn := lo.1
    refine ⟨_, rfl, .inl ⟨n, rfl, Nat.le_trans hn (by decide), _, rfl, ?_, _, rfl, ?_, .inr ⟨3, rfl, by decide +kernel, _, rfl, ?_, _, rfl, ?_, ?_, (by show 1 ≤ sizeLine; decide), h H1 s1⟩⟩⟩
    all_goals
      simp only [app_len]
      exact Nat.le_trans (by first | exact Nat.add_le_add_left hn _ | exact Nat.add_le_add_right (Nat.add_le_add_left hn _) _ | exact Nat.add_le_add_right (Nat.add_le_add_right (Nat.add_le_add_left hn _) _) _ | exact Nat.add_le_add_right (Nat.add_le_add_right (Nat.add_le_add_right (Nat.add_le_add_left hn _) _) _) _) (by decide +kernel)
  · have c' : ¬ (3 : Int) < (((ps.map V.int).length : Nat) : Int) := fun z => c (decide_eq_true z)
    rw [hl1] at c'
    have h3 : ps.length ≤ 3 := by omega
    obtain ⟨⟨dx, ho⟩, ⟨xs, hl, hs⟩, _⟩ := id S1
    have addE : bad T' ps = false → addT T' true (n, ps) = if (n, ps) ∈ T' then (.num (T'.idxOf (n, ps)), T') else if 60 ≤ T'.length then (.many, T') else (.num T'.length, T' ++ [(n, ps)]) := fun hb => by unfold addT; rw [if_neg (by decide), if_neg (by rw [hb]; decide)]
    have last : ∀ (H3 : Hp) (a l : Addr), Same H H3 → H3 a = some (.tup [.str n, .ref l]) → SqT K H3 l (ps.map V.int) → bad T' ps = false → spPlace K CM [.ref a, .ref tl, .int 60] H3 Q E := fun H3 a l s3 ha hq3 hb => by
      have S3 := S.same s3
      rw [hg, addE hb] at h
      obtain ⟨xs3, hl3, hs3⟩ := id S3.tm
      have hd : Has K H3 (dT (n, ps)) (.ref a) := by
        simp only [dT, Has, HasL]
        exact ⟨a, _, rfl, SqT.of ha, _, _, rfl, rfl, _, _, rfl, ⟨l, _, rfl, hq3, HasL.ints ps⟩, rfl⟩
      refine ⟨a, tl, 60, xs3, T'.map dT, dT (n, ps), rfl, hd, hl3, hs3, Nat.le_trans (deps_dTs T') (by decide), by rw [List.length_map]; exact len, by decide, by decide, ?_⟩
      rw [any_code iff_dT, idx_code iff_dT, List.length_map]
      by_cases hm : (n, ps) ∈ T'
      · rw [if_pos hm] at h
        rw [if_pos (decide_eq_true hm)]
        exact fun H' s' => h H' (S3.same s') (Fr1.of_same (s3.trans s'))
      · rw [if_neg hm] at h
        rw [if_neg (by rw [decide_eq_false hm]; decide)]
        by_cases h60 : 60 ≤ T'.length
        · rw [if_pos h60] at h
          rw [if_pos (by omega)]
          exact fun H' s' => h H' (s3.trans s')
        · rw [if_neg h60] at h
          rw [if_neg (by omega)]
          have kt : KeepT H3 (upd H3 tl (.lst (xs3 ++ [.ref a]))) := KeepT.lst hl3
          refine h _ (S3.setT ?_) fun b o e hb' => ?_
          · rw [List.map_append]
            exact (hs3.keep kt (nols_dTs T')).append (HasL.one (hd.keep kt (nol_dT _)))
          · rw [upd_ne hb']
            exact s3 b o e
    rcases hq1 with hqX | hqX
    · refine ⟨_, rfl, q, rfl, .inl ⟨⟨_, hqX⟩, for_list (K := K) (a := q) (xs := ps.map V.int) (fun i σ H2 => H2 = H1 ∧ (∃ z, σ = [some (.ref p), some (.str n), some (.ref q), z]) ∧ ∀ (j : Nat) k, j < i → ps[j]? = some k → ¬ (k < 0 ∨ (T'.length : Int) ≤ k))
        ⟨rfl, ⟨_, rfl⟩, fun j k hj => absurd hj (Nat.not_lt_zero j)⟩ (fun i σ H2 _ ⟨e, _⟩ => by rw [e]; exact hqX) ?_ ?_⟩⟩
      · rintro i x σ H2 hx ⟨rfl, ⟨z, rfl⟩, no⟩
        obtain ⟨k, ek, rfl⟩ := ints_get hx
        have sk := small k (List.mem_of_getElem? ek)
        refine ⟨_, rfl, p, dx, _, rfl, ho, flds_no _ _ _ (by decide +kernel) (by decide +kernel) (by decide +kernel), _, rfl, p, tl, al, rl, T', As, Rs, k, rfl, S1, sk.1, sk.2, ?_⟩
        by_cases hk : k < 0 ∨ (T'.length : Int) ≤ k
        · rw [if_pos hk]
          have e : addT T' true (n, ps) = (.term, T') := by unfold addT; rw [if_neg (by decide), if_pos (bad_at h3 ek hk)]
          rw [hg, e] at h
          exact fun H' s' => h H' (s1.trans s')
        · rw [if_neg hk]
          refine ⟨rfl, ⟨_, rfl⟩, fun j k' hj ej => ?_⟩
          by_cases hji : j < i
          · exact no j k' hji ej
          · have : j = i := by omega
            subst this
            rw [ek] at ej
            cases ej
            exact hk
      · rintro σ H2 ⟨rfl, ⟨z, rfl⟩, no⟩
        have hb : bad T' ps = false := not_bad h3 fun i k e => no i k (by rw [hl1]; exact (List.getElem?_eq_some_iff.mp e).1) e
        refine ⟨_, rfl, _, rfl, q, _, rfl, .inl ⟨hqX, fun l hl' => ⟨(by show 2 ≤ sizeLine; decide), fun a ha => ?_⟩⟩⟩
        have sA : Same H2 (upd H2 l (.tup (ps.map V.int))) := same_new hl' _
        have sB : Same (upd H2 l (.tup (ps.map V.int))) (upd (upd H2 l (.tup (ps.map V.int))) a (.tup [.str n, .ref l])) := same_new ha _
        have sAB := sA.trans sB
        have hq3 : SqT K (upd (upd H2 l (.tup (ps.map V.int))) a (.tup [.str n, .ref l])) l (ps.map V.int) := SqT.of (sB _ _ upd_same)
        refine ⟨_, rfl, p, C, dx, _, _, rfl, sAB _ _ ho, T.cl, T.nT, flds_terms _ _ _, last _ a _ (s1.trans sAB) upd_same hq3 hb⟩
    · refine ⟨_, rfl, q, rfl, .inr ⟨⟨_, hqX⟩, for_tup (K := K) (a := q) (xs := ps.map V.int) (fun i σ H2 => H2 = H1 ∧ (∃ z, σ = [some (.ref p), some (.str n), some (.ref q), z]) ∧ ∀ (j : Nat) k, j < i → ps[j]? = some k → ¬ (k < 0 ∨ (T'.length : Int) ≤ k))
        ⟨rfl, ⟨_, rfl⟩, fun j k hj => absurd hj (Nat.not_lt_zero j)⟩ (fun i σ H2 _ ⟨e, _⟩ => by rw [e]; exact hqX) ?_ ?_⟩⟩
      · rintro i x σ H2 hx ⟨rfl, ⟨z, rfl⟩, no⟩
        obtain ⟨k, ek, rfl⟩ := ints_get hx
        have sk := small k (List.mem_of_getElem? ek)
        refine ⟨_, rfl, p, dx, _, rfl, ho, flds_no _ _ _ (by decide +kernel) (by decide +kernel) (by decide +kernel), _, rfl, p, tl, al, rl, T', As, Rs, k, rfl, S1, sk.1, sk.2, ?_⟩
        by_cases hk : k < 0 ∨ (T'.length : Int) ≤ k
        · rw [if_pos hk]
          have e : addT T' true (n, ps) = (.term, T') := by unfold addT; rw [if_neg (by decide), if_pos (bad_at h3 ek hk)]
          rw [hg, e] at h
          exact fun H' s' => h H' (s1.trans s')
        · rw [if_neg hk]
          refine ⟨rfl, ⟨_, rfl⟩, fun j k' hj ej => ?_⟩
          by_cases hji : j < i
          · exact no j k' hji ej
          · have : j = i := by omega
            subst this
            rw [ek] at ej
            cases ej
            exact hk
      · rintro σ H2 ⟨rfl, ⟨z, rfl⟩, no⟩
        have hb : bad T' ps = false := not_bad h3 fun i k e => no i k (by rw [hl1]; exact (List.getElem?_eq_some_iff.mp e).1) e
        refine ⟨_, rfl, _, rfl, q, _, rfl, .inr ⟨hqX, (by show 2 ≤ sizeLine; decide), fun a ha => ?_⟩⟩
        have sAB : Same H2 (upd H2 a (.tup [.str n, .ref q])) := same_new ha _
        have hq3 : SqT K (upd H2 a (.tup [.str n, .ref q])) q (ps.map V.int) := (KeepT.of_same sAB).sq hqX
        refine ⟨_, rfl, p, C, dx, _, _, rfl, sAB _ _ ho, T.cl, T.nT, flds_terms _ _ _, last _ a _ (s1.trans sAB) upd_same hq3 hb⟩
end
end K34

/-! law k34: when a line is right; Groups. Behind K34c. -/
namespace K34
open PySem L2
/-! what the problem's methods answer where all is well -/
theorem passF {P : Program} {w : World} {X : Cx} : Passes (CX1 P w) X E0 := fun _ _ _ _ _ _ _ h => by
  obtain ⟨_, _, _, _, _, _, _, _, _, _, _, _, _, hE⟩ := h
  exact hE.elim
theorem modB (a : Int) {b : Int} (h : 0 < b) : 0 ≤ a % b ∧ a % b < b := ⟨Int.emod_nonneg _ (by omega), Int.emod_lt_of_pos _ h⟩
theorem made {K : PySem.W.Frag} {C : Addr} {H H1 : Hp} {x dx tl al rl : Addr} (hx : H x = none) (hdx : H dx = none) (hne : dx ≠ x) (h1 : (upd (upd H dx (.own x)) x (.ins C dx [])) tl = none) (h2 : (upd (upd H dx (.own x)) x (.ins C dx [])) al = none)
    (h3 : (upd (upd H dx (.own x)) x (.ins C dx [])) rl = none) (na : al ≠ tl) (nr : rl ≠ tl) (nx : rl ≠ al) (k1 : H1 x = some (.ins C dx (flds tl al rl))) (k2 : H1 tl = some (.lst [])) (k3 : H1 al = some (.lst [])) (k4 : H1 rl = some (.lst []))
    (k5 : ∀ b o, (upd (upd H dx (.own x)) x (.ins C dx [])) b = some o → b ≠ x → H1 b = some o) : PrAt K C H1 x tl al rl [] [] [] ∧ Same H H1 ∧ H tl = none ∧ H al = none ∧ H rl = none := by
  have sm : Same H (upd (upd H dx (.own x)) x (.ins C dx [])) := (same_new hdx _).trans (same_new (by rw [upd_ne hne.symm]; exact hx) _)
  exact ⟨⟨⟨dx, k1⟩, ⟨[], k2, .nil⟩, ⟨[], k3, .nil⟩, ⟨[], k4, .nil⟩, na, nr, nx⟩, fun b o e => k5 b o (sm _ _ e) (ne_of_none e hx), sm.free h1, sm.free h2, sm.free h3⟩
/-- the problem's own words -/
structure Own (P : Program) (w : World) (K : PySem.W.Frag) (mg : Str → Option Value) (base : Heap) (C CN CT CP CM : Addr) (fI fA fQ fS : Addr) (dI dA' dQ dS : FuncData) : Prop where
  I : FnOk P w K mg base CX0 1 fI dI ["self"] (spInit C)
  bI : Binds K dI ["self"] []
  mI : Mk K C fI
  gI : mg "Problem" = some (.ref C)
  A : FnOk P w K mg base (CX1 P w) 4 fA dA' ["self", "name", "parts"] (spAdd K C CN CT CM)
  bA : Binds K dA' ["self", "name", "parts"] []
  mA : Meth K C "add_term" fA
  Q : FnOk P w K mg base (CX1 P w) 4 fQ dQ ["self", "name"] (spPlain K C CN CT CP CM)
  bQ : Binds K dQ ["self", "name"] []
  mQ : Meth K C "add_plain" fQ
  S : FnOk P w K mg base (CX1 P w) 4 fS dS ["self", "one", "other"] (spSame K C CN CT CP CM)
  bS : Binds K dS ["self", "one", "other"] []
  mS : Meth K C "add_same" fS
section
variable {K : PySem.W.Frag} {C CN CT CP CM : Addr}
theorem no_add_term (tl al rl : Addr) : (flds tl al rl).lookup ("add_term" : Str) = none := flds_no _ _ _ (by decide +kernel) (by decide +kernel) (by decide +kernel)
theorem no_add_plain (tl al rl : Addr) : (flds tl al rl).lookup ("add_plain" : Str) = none := flds_no _ _ _ (by decide +kernel) (by decide +kernel) (by decide +kernel)
theorem no_add_same (tl al rl : Addr) : (flds tl al rl).lookup ("add_same" : Str) = none := flds_no _ _ _ (by decide +kernel) (by decide +kernel) (by decide +kernel)
end
abbrev s_init : Stmt := s_Groups___init__
abbrev s_head : Stmt := s_Groups_head
abbrev s_together : Stmt := s_Groups_together
abbrev s_merge : Stmt := s_Groups_merge
structure TxG (K : PySem.W.Frag) (mg : Str → Option Value) (C : Addr) : Prop where
  cl : Cls K C
  nL : NoAttr K C "least"
  nG : NoAttr K C "gathered"
  min : mg "min" = none
  max : mg "max" = none
  range : mg "range" = none
namespace Gp
/-! the class Groups; groups_of, joined, heads -/
def sp_init (C : Addr) : Sp := fun vs H Q _ => ∃ (g dx : Addr), vs = [.ref g] ∧ H g = some (.ins C dx []) ∧ ∀ (H' : Hp) (ld gd : Addr), (∀ b o, b ≠ g → H b = some o → H' b = some o) → H ld = none → H gd = none → ld ≠ gd → H' g = some (.ins C dx [("least", .ref ld), ("gathered", .ref gd)]) → H' ld = some (.dK []) → H' gd = some (.dK []) → Q .non H'
theorem sc_init : FnScope ["self"] ["self"] (defScope s_init) := ⟨rfl, rfl, rfl, by decide +kernel, rfl, by decide +kernel, by decide +kernel⟩
section
variable {P : Program} {w : World} {K : PySem.W.Frag} {mg : Str → Option Value} {base : Heap} {C f fH fT fM fI fG : Addr} {fd dH dT' dM dI dG : FuncData}
theorem ok_init (F : Fun K "__init__" "Groups.__init__" s_init f fd) (T : TxG K mg C) : FnOk P w K mg base CX0 1 f fd ["self"] (sp_init C) := by
  refine F.ok sc_init (fun vs H Q E h => ?_) (fun cdv A outer s H vs Q E hr h => ?_)
  · obtain ⟨g, dx, rfl, _⟩ := h
    rfl
  obtain ⟨g, dx, rfl, hg, q⟩ := h
  refine ⟨_, (pss_cons (ps_fld (pv 0) pe_dnewK rfl)
    (pss_one (ps_fld (pv 0) pe_dnewK rfl))), ?_⟩
  refine fun ld hld => ?_
  have n1 : g ≠ ld := ne_of_none hg hld
  have hg1 : (upd H ld (.dK [])) g = some (.ins C dx []) := by rw [upd_ne n1]; exact hg
  have k1 : ∀ b o, H b = some o → (upd H ld (.dK [])) b = some o := sameNew hld _
  have hl1 := upd_same (H := H) (a := ld) (o := .dK [])
  generalize upd H ld (.dK []) = H1 at hg1 k1 hl1
  refine ⟨_, rfl, g, C, dx, _, rfl, hg1, T.cl, T.nL, (by decide), ?_⟩
  have hg2 : (upd H1 g (.ins C dx (putF "least" (.ref ld) []))) g = some (.ins C dx [("least", .ref ld)]) := upd_same
  have hl2 : (upd H1 g (.ins C dx (putF "least" (.ref ld) []))) ld = some (.dK []) := by rw [upd_ne (Ne.symm n1)]; exact hl1
  have k2 : ∀ b o, b ≠ g → H b = some o → (upd H1 g (.ins C dx (putF "least" (.ref ld) []))) b = some o := fun b o nb h => by rw [upd_ne nb]; exact k1 b o h
  have f2 : ∀ b, (upd H1 g (.ins C dx (putF "least" (.ref ld) []))) b = none → H b = none := fun b h => by
    cases e : H b with
    | none => rfl
    | some o =>
      by_cases z : b = g
      · rw [z, hg2] at h; cases h
      · rw [k2 b o z e] at h; cases h
  generalize upd H1 g (.ins C dx (putF "least" (.ref ld) [])) = H2 at hg2 hl2 k2 f2
  refine fun gd hgd => ?_
  have n3 : g ≠ gd := ne_of_none hg2 hgd
  have n4 : ld ≠ gd := ne_of_none hl2 hgd
  refine ⟨_, rfl, g, C, dx, _, rfl, by rw [upd_ne n3]; exact hg2, T.cl, T.nG, (by show 1 < 1000; decide), ?_⟩
  refine q _ ld gd (fun b o nb h => ?_) hld (f2 gd hgd) n4 upd_same (by rw [upd_ne (Ne.symm n1), upd_ne n4]; exact hl2) (by rw [upd_ne (Ne.symm n3)]; exact upd_same)
  have nbg : b ≠ gd := fun z => by rw [z, f2 gd hgd] at h; cases h
  rw [upd_ne nb, upd_ne nbg]
  exact k2 b o nb h
def sp_head (C : Addr) : Sp := fun vs H Q _ => ∃ (g ld gd : Addr) (t : Int) (N b : Nat) (hd : Int → Int) (av : List Addr), vs = [.ref g, .int t] ∧ GO H C g ld gd N b hd av ∧ Q (.int (hd t)) H
theorem sc_head : FnScope ["self", "term"] ["self", "term"] (defScope s_head) := ⟨rfl, rfl, rfl, by decide +kernel, rfl, by decide +kernel, by decide +kernel⟩
theorem ok_head (F : Fun K "head" "Groups.head" s_head f fd) (T : TxG K mg C) : FnOk P w K mg base CX0 1 f fd ["self", "term"] (sp_head C) := by
  refine F.ok sc_head (fun vs H Q E h => ?_) (fun cdv A outer s H vs Q E hr h => ?_)
  · obtain ⟨g, ld, gd, t, N, b, hd, av, rfl, _⟩ := h
    rfl
  obtain ⟨g, ld, gd, t, N, b, hd, av, rfl, G, q⟩ := h
  have hu := hu_of hr
  obtain ⟨dx, kl, kg, h1, h2, h3, h4, h5, h6, h7⟩ := G.ex
  refine ⟨_, (pss_one (ps_ret (pe_dget2 hu (pe_fld (pv 0) rfl) (pv 1) (pv 1) ⟨rfl, rfl, rfl, rfl⟩))), ?_⟩
  refine ⟨_, rfl, g, C, dx, _, _, rfl, h1, T.cl, T.nL, rfl, ld, rfl, .inl ⟨kl, .inl h2⟩, _, rfl, _, rfl, _, DGet.k (k := Sum.inl t) h2, ?_⟩
  rw [h4]
  exact q
def sp_together (C : Addr) : Sp := fun vs H Q _ => ∃ (g ld gd : Addr) (t u : Int) (N b : Nat) (hd : Int → Int) (av : List Addr), vs = [.ref g, .int t, .int u] ∧ GO H C g ld gd N b hd av ∧ Q (.bl (decide (hd t = hd u))) H
theorem sc_together : FnScope ["self", "one", "other"] ["self", "one", "other"] (defScope s_together) := ⟨rfl, rfl, rfl, by decide +kernel, rfl, by decide +kernel, by decide +kernel⟩
theorem decV (x y : Int) : decide (V.int x = V.int y) = decide (x = y) := decide_eq_decide.mpr ⟨fun z => by injection z, fun z => by rw [z]⟩
theorem ok_together (F : Fun K "together" "Groups.together" s_together f fd) (T : TxG K mg C) (M : Meth K C "head" fH) (Bh : FnOk P w K mg base CX0 1 fH dH ["self", "term"] (sp_head C)) (bh : Binds K dH ["self", "term"] []) : FnOk P w K mg base CX0 2 f fd ["self", "one", "other"] (sp_together C) := by
  refine F.ok sc_together (fun vs H Q E h => ?_) (fun cdv A outer s H vs Q E hr h => ?_)
  · obtain ⟨g, ld, gd, t, u, N, b, hd, av, rfl, _⟩ := h
    rfl
  obtain ⟨g, ld, gd, t, u, N, b, hd, av, rfl, G, q⟩ := h
  obtain ⟨dx, kl, kg, h1, h2, h3, h4, h5, h6, h7⟩ := G.ex
  refine ⟨_, (pss_one (ps_ret (pe_cmpR op_eq (pe_meth (pv 0) T.cl M Bh hr bh .nil pass0 (pa_cons (pv 1) pa_nil)) (pe_meth (pv 0) T.cl M Bh hr bh .nil pass0 (pa_cons (pv 2) pa_nil)) (nomark _)))), ?_⟩
  refine ⟨_, rfl, g, dx, _, rfl, h1, rfl, _, rfl, g, ld, gd, t, N, b, hd, av, rfl, G, _, rfl, g, dx, _, rfl, h1, rfl, _, rfl, g, ld, gd, u, N, b, hd, av, rfl, G, rfl, ?_⟩
  rw [decV]
  exact q
def sp_merge (C : Addr) : Sp := fun vs H Q _ => ∃ (g ld gd : Addr) (t u : Int) (N b : Nat) (hd : Int → Int) (av : List Addr), vs = [.ref g, .int t, .int u] ∧ GO H C g ld gd N b hd av ∧ (0 ≤ t ∧ t < (N : Int)) ∧ (0 ≤ u ∧ u < (N : Int)) ∧ N ≤ 100 ∧ b ≤ 1000 ∧ (∀ a ∈ av, H a ≠ none) ∧ ∀ H', SameG ld gd H H' → GO H' C g ld gd N (b + 1) (mrg hd t u) av → Q .non H'
theorem sc_merge : FnScope ["self", "one", "other", "low", "high", "moved", "term"] ["self", "one", "other"] (defScope s_merge) := ⟨rfl, rfl, rfl, by decide +kernel, rfl, by decide +kernel, by decide +kernel⟩
theorem line3 {n : Nat} (h : n ≤ 200000) : n ≤ sizeLine := by rw [sizeLine_eq]; omega
theorem line4 {n : Nat} (h : n ≤ 200000) : n < sizeLine := by rw [sizeLine_eq]; omega
set_option maxHeartbeats 1000000 in
theorem merge3 (T : TxG K mg C) {cdv : Value} {A : Around} {outer : List Env} {s : Shared} {H0 : Hp} {E : XK} (hr : Room 1 (A.deeper (PyProof.Rows.envOfC "Groups.merge" (defScope s_merge) s.heap.objs.size f cdv))) :
    ∃ z, PSs (cxOf CX0 P w K mg base ["self", "one", "other", "low", "high", "moved", "term"] "Groups.merge" (defScope s_merge) f cdv A outer s H0 E).nox ((defBody s_merge).drop 3) z ∧
      ∀ (D : Ends) (H : Hp) (g ld gd : Addr) (t u : Int) (N b : Nat) (hd : Int → Int) (av : List Addr), GO H C g ld gd N b hd av → (0 ≤ t ∧ t < (N : Int)) → (0 ≤ u ∧ u < (N : Int)) → N ≤ 100 → b ≤ 1000 → loF (hd t) (hd u) ≠ hiF (hd t) (hd u) → (∀ a ∈ av, H a ≠ none) → (∀ H' σ', SameG ld gd H H' → GO H' C g ld gd N (b + 1) (mrg hd t u) av → D.nx σ' H') →
        z D [some (.ref g), some (.int t), some (.int u), some (.int (loF (hd t) (hd u))), some (.int (hiF (hd t) (hd u))), none, none] H := by
  have hu := hu_of hr
  refine ⟨_, (pss_cons (ps_set (i := 5) sc_merge.nd rfl (Or.inl rfl) (pe_dget2 hu (pe_fld (pv 0) rfl) (pv 4) (pe_lst (pa_cons (pv 4) pa_nil)) ⟨rfl, rfl, rfl, rfl⟩))
    (pss_cons (ps_for PassesOwn.never rfl (pi_list (pv 5)) (pg_name (i := 6) sc_merge.nd rfl (Or.inl rfl))
      (pss_one (ps_dput hu (pe_fld (pv 0) rfl) (pv 6) (pv 3) rfl)))
    (pss_one (ps_dput hu (pe_fld (pv 0) rfl) (pv 3) (pe_op op_cat (pe_dget2 hu (pe_fld (pv 0) rfl) (pv 3) (pe_lst (pa_cons (pv 3) pa_nil)) ⟨rfl, rfl, rfl, rfl⟩) (pv 5)) rfl)))), ?_⟩
  rintro D H g ld gd t u N b hd av G ht hu' N100 b1000 e hav q
  obtain ⟨dx, kl, kg, h1, h2, h3, h4, h5, h6, h7⟩ := G.ex
  have bN : b * N ≤ 100000 := Nat.mul_le_mul b1000 N100
  obtain ⟨mh, k1, k2, k3⟩ := h5 _ (G.h.hi_id t u)
  obtain ⟨ml, l1, l2, l3⟩ := h5 _ (G.h.lo_id t u)
  have tN := G.h.in' ht
  have uN := G.h.in' hu'
  have lh := lohi (hd t) (hd u)
  have mhl := mem_len G.h (x := hiF (hd t) (hd u)) (by omega) k1 k2
  have mll := mem_len G.h (x := loF (hd t) (hd u)) (by omega) l1 l2
  have ngl : g ≠ ld := ne_of h1 h2 (by intro z; cases z)
  have ngg : g ≠ gd := ne_of h1 h3 (by intro z; cases z)
  refine ⟨_, rfl, g, C, dx, _, _, rfl, h1, T.cl, T.nG, rfl, gd, rfl, .inl ⟨kg, .inl h3⟩, _, rfl, _, rfl, (by show 1 ≤ sizeLine; decide), fun l hl => ?_⟩
  have s1 : Same H (upd H l (.lst [.int (hiF (hd t) (hd u))])) := sameNew hl _
  have n1 : (upd H l (.lst [.int (hiF (hd t) (hd u))])) l = some (.lst ([hiF (hd t) (hd u)].map V.int)) := upd_same
  generalize upd H l (.lst [.int (hiF (hd t) (hd u))]) = H1 at s1 n1
  obtain ⟨am, eam, ham⟩ : ∃ am, (valV kg (Sum.inl (hiF (hd t) (hd u)))).getD (.ref l) = .ref am ∧ H1 am = some (.lst (mh.map V.int)) := by
    rcases k3 with ⟨k3, k4⟩ | ⟨a, k3, k4, _⟩
    · rw [k3]
      refine ⟨l, rfl, ?_⟩
      rw [k4]
      exact n1
    · rw [k3]
      exact ⟨a, rfl, s1 _ _ k4⟩
  refine ⟨_, DGet.k (k := Sum.inl (hiF (hd t) (hd u))) (s1 _ _ h3), ?_⟩
  rw [eam]
  have G1 := G.same s1
  have h11 := s1 _ _ h1
  have h21 := s1 _ _ h2
  have h31 := s1 _ _ h3
  have nal : am ≠ ld := ne_of ham h21 (by intro z; cases z)
  have nag : am ≠ gd := ne_of ham h31 (by intro z; cases z)
  refine ⟨_, rfl, am, rfl, ⟨_, SqL.of ham⟩, for_by wk_list (fun i σ H' => ∃ (v6 : Option V) (kl' : List (Key × V)), σ = [some (.ref g), some (.int t), some (.int u), some (.int (loF (hd t) (hd u))), some (.int (hiF (hd t) (hd u))), some (.ref am), v6] ∧ SameX ld H1 H' ∧ H' ld = some (.dK kl') ∧ kl'.length ≤ kl.length + i ∧ ∀ x : Int, (valV kl' (Sum.inl x)).getD (.int x) = .int (if x ∈ mh.take i then loF (hd t) (hd u) else hd x)) (fun i σ H' ⟨_, _, _, sx, _⟩ => SqL.of (sx _ _ nal ham)) ⟨none, kl, rfl, SameX.refl _ _, h21, Nat.le_refl _, fun x => by simpa using h4 x⟩ ?_ ?_⟩
  · rintro i σ H2 x H3 hi ⟨v6, kl', rfl, sx, hl2, ll, hv⟩ ⟨rfl, hx⟩
    obtain ⟨k, hk, rfl⟩ := ints_at (hx _ (SqL.of (sx _ _ nal ham)))
    rw [List.length_map] at hi
    refine ⟨_, rfl, _, rfl, g, C, dx, _, _, rfl, sx _ _ ngl h11, T.cl, T.nL, rfl, _, rfl, ld, _, rfl, DPut.k (k := Sum.inl k) hl2 (line4 (by omega)), _, _, rfl, sx.trans (SameX.put _ _), upd_same, ?_, fun x => ?_⟩
    · have := putK_len kl' (Sum.inl k) (.int (loF (hd t) (hd u)))
      show (putK kl' (Sum.inl k) (.int (loF (hd t) (hd u)))).length ≤ _
      omega
    · rw [valV_put, take_snoc hk]
      by_cases z : x = k
      · subst z
        rw [if_pos rfl, if_pos (List.mem_append_right _ List.mem_cons_self)]
        rfl
      · rw [if_neg (fun w => z (by injection w)), hv]
        congr 1
        by_cases w : x ∈ mh.take i
        · rw [if_pos w, if_pos (List.mem_append_left _ w)]
        · rw [if_neg w, if_neg (fun y => by
            rcases List.mem_append.mp y with y | y
            · exact w y
            · exact z (List.mem_singleton.mp y))]
  · rintro σ H2 ⟨v6, kl', rfl, sx, hl2, ll, hv⟩
    rw [List.length_map] at ll
    rw [List.length_map, List.take_of_length_le (Nat.le_refl _)] at hv
    have h12 := sx _ _ ngl h11
    have h32 := sx _ _ (Ne.symm G.ne) h31
    have ham2 := sx _ _ nal ham
    refine ⟨_, rfl, g, C, dx, _, _, rfl, h12, T.cl, T.nG, rfl, gd, rfl, .inl ⟨kg, .inl h32⟩, _, rfl, _, rfl, (by show 1 ≤ sizeLine; decide), fun l2' hl2' => ?_⟩
    have s3 : Same H2 (upd H2 l2' (.lst [.int (loF (hd t) (hd u))])) := sameNew hl2' _
    have n3 : (upd H2 l2' (.lst [.int (loF (hd t) (hd u))])) l2' = some (.lst ([loF (hd t) (hd u)].map V.int)) := upd_same
    generalize upd H2 l2' (.lst [.int (loF (hd t) (hd u))]) = H3 at s3 n3
    obtain ⟨al, eal, hal⟩ : ∃ al, (valV kg (Sum.inl (loF (hd t) (hd u)))).getD (.ref l2') = .ref al ∧ H3 al = some (.lst (ml.map V.int)) := by
      rcases l3 with ⟨l3, l4⟩ | ⟨a, l3, l4, _⟩
      · rw [l3]
        refine ⟨l2', rfl, ?_⟩
        rw [l4]
        exact n3
      · rw [l3]
        have na : a ≠ ld := ne_of l4 h2 (by intro z; cases z)
        exact ⟨a, rfl, s3 _ _ (sx _ _ na (s1 _ _ l4))⟩
    refine ⟨_, DGet.k (k := Sum.inl (loF (hd t) (hd u))) (s3 _ _ h32), ?_⟩
    rw [eal]
    refine ⟨_, rfl, al, am, _, _, rfl, rfl, hal, s3 _ _ ham2, line3 (by rw [List.length_map, List.length_map]; omega), fun p hp => ?_⟩
    rw [← List.map_append]
    have s4 : Same H3 (upd H3 p (.lst ((ml ++ mh).map V.int))) := sameNew hp _
    have n4 := upd_same (H := H3) (a := p) (o := .lst ((ml ++ mh).map V.int))
    generalize upd H3 p (.lst ((ml ++ mh).map V.int)) = H4 at s4 n4
    have s24 := s3.trans s4
    have h14 := s24 _ _ h12
    have h34 := s24 _ _ h32
    have hl4 := s24 _ _ hl2
    have npg : p ≠ gd := ne_of n4 h34 (by intro z; cases z)
    refine ⟨_, rfl, g, C, dx, _, _, rfl, h14, T.cl, T.nG, rfl, _, rfl, gd, _, rfl, DPut.k (k := Sum.inl (loF (hd t) (hd u))) h34 (line4 (by omega)), ?_⟩
    refine q _ _ ?_ ?_
    · intro b' o' nb1 nb2 hb
      rw [upd_ne nb2]
      exact s24 _ _ (sx _ _ nb1 (s1 _ _ hb))
    · have l4 : kl'.length ≤ (b + 1) * N := by
        rw [Nat.add_mul, Nat.one_mul]
        omega
      refine GO.merged (kl := kl') (kg := kg) (p := p) (ml := ml) (mh := mh) (dx := dx) G.h G.ne ht hu' e (by rw [upd_ne ngg]; exact h14) (by rw [upd_ne G.ne]; exact hl4) upd_same hv (fun x hx => ?_) l1 l2 k1 k2 (by rw [upd_ne npg]; exact n4) l4 (by omega) (fun z => ?_)
      · obtain ⟨ms, m1, m2, m3⟩ := h5 x hx
        refine ⟨ms, m1, m2, ?_⟩
        rcases m3 with m3 | ⟨a, m3, m4, m5⟩
        · exact .inl m3
        · have na : a ≠ ld := ne_of m4 h2 (by intro z; cases z)
          have ng : a ≠ gd := ne_of m4 h3 (by intro z; cases z)
          exact .inr ⟨a, m3, (by rw [upd_ne ng]; exact s24 _ _ (sx _ _ na (s1 _ _ m4))), m5⟩
      · cases eo : H p with
        | none => exact hav p z eo
        | some o =>
          by_cases c : p = ld
          · rw [c, s3 _ _ hl2] at hp
            cases hp
          · rw [s3 _ _ (sx _ _ c (s1 _ _ eo))] at hp
            cases hp
theorem ok_merge (F : Fun K "merge" "Groups.merge" s_merge f fd) (T : TxG K mg C) (M : Meth K C "head" fH) (Bh : FnOk P w K mg base CX0 1 fH dH ["self", "term"] (sp_head C)) (bh : Binds K dH ["self", "term"] []) : FnOk P w K mg base CX0 2 f fd ["self", "one", "other"] (sp_merge C) := by
  refine F.ok sc_merge (fun vs H Q E h => ?_) (fun cdv A outer s H vs Q E hr h => ?_)
  · obtain ⟨g, ld, gd, t, u, N, b, hd, av, rfl, _⟩ := h
    rfl
  obtain ⟨g, ld, gd, t, u, N, b, hd, av, rfl, G, ht, hu', N100, b1000, hav, q⟩ := h
  have hu := hu_of hr
  obtain ⟨dx, kl, kg, h1, h2, h3, h4, h5, h6, h7⟩ := G.ex
  have bN : b * N ≤ 100000 := Nat.mul_le_mul b1000 N100
  obtain ⟨t3, h3', q3⟩ := merge3 (P := P) (w := w) (base := base) (f := f) (outer := outer) (H0 := H) (E := E) T hr
  refine ⟨_, (pss_cons (ps_set (i := 3) sc_merge.nd rfl (Or.inl rfl) (pe_callB (call_min2 rfl) rfl T.min PyProof.Rows.Boot.min (pa_cons (pe_meth (pv 0) T.cl M Bh hr bh .nil pass0 (pa_cons (pv 1) pa_nil)) (pa_cons (pe_meth (pv 0) T.cl M Bh hr bh .nil pass0 (pa_cons (pv 2) pa_nil)) pa_nil))))
    (pss_cons (ps_set (i := 4) sc_merge.nd rfl (Or.inl rfl) (pe_callB (call_max2 rfl) rfl T.max PyProof.Rows.Boot.max (pa_cons (pe_meth (pv 0) T.cl M Bh hr bh .nil pass0 (pa_cons (pv 1) pa_nil)) (pa_cons (pe_meth (pv 0) T.cl M Bh hr bh .nil pass0 (pa_cons (pv 2) pa_nil)) pa_nil))))
    (pss_cons (ps_if (pt_cmpR op_eq (pv 3) (pv 4) (nomark _))
      (pss_one ps_retN)
      pss_nil)
    h3'))), ?_⟩
  refine ⟨_, rfl, g, dx, _, rfl, h1, rfl, _, rfl, g, ld, gd, t, N, b, hd, av, rfl, G, _, rfl, g, dx, _, rfl, h1, rfl, _, rfl, g, ld, gd, u, N, b, hd, av, rfl, G, _, _, rfl, ?_⟩
  refine ⟨_, rfl, g, dx, _, rfl, h1, rfl, _, rfl, g, ld, gd, t, N, b, hd, av, rfl, G, _, rfl, g, dx, _, rfl, h1, rfl, _, rfl, g, ld, gd, u, N, b, hd, av, rfl, G, _, _, rfl, ?_⟩
  refine ⟨_, rfl, _, rfl, rfl, _, rfl, ?_⟩
  show if decide (V.int (loF (hd t) (hd u)) = V.int (hiF (hd t) (hd u))) = true then _ else _
  rw [decV]
  by_cases e : loF (hd t) (hd u) = hiF (hd t) (hd u)
  · rw [decide_eq_true e]
    refine iteT (q H (fun _ _ _ _ h => h) ?_)
    rw [mrg_eq e]
    exact G.mono (Nat.le_succ _)
  rw [decide_eq_false e]
  exact iteF (q3 _ H g ld gd t u N b hd av G ht hu' N100 b1000 e hav fun H' σ' s' G' => q H' s' G')
end
end Gp
/-! when a line is right: what is said -/
theorem szM {n : Nat} (h : n ≤ 16000000) : n ≤ sizeLine := Nat.le_trans h (by rw [sizeLine_eq]; decide)
def tG (T : List Tm) (a : Int) : Tm := T.getD a.toNat ("", [])
def smF (As : List At) (k : Int) : Option (Int × Int) := if 1 ≤ k ∧ k ≤ (As.length : Int) then (match As.getD (k - 1).toNat (.plain "") with | .same a b => some (a, b) | .plain _ => none) else none
def toldB (ps : List Int) (As : List At) (l : Lk) : Bool := decide (-l.2.2 ∈ ps) && (match smF As l.2.2 with | some q => decide (q = (l.1, l.2.1)) || decide (q = (l.2.1, l.1)) | none => false)
def alikeB (f : Int → Int) (T : List Tm) (a b : Int) : Bool := decide ((tG T a).1 = (tG T b).1) && (decide ((tG T a).2.length = (tG T b).2.length) && ((tG T a).2.zip (tG T b).2).all fun xy => decide (f xy.1 = f xy.2))
def rightB (f : Int → Int) (ps : List Int) (T : List Tm) (As : List At) (l : Lk) : Bool := if l.2.2 = 0 then alikeB f T l.1 l.2.1 else toldB ps As l
def saysB (f : Int → Int) (As : List At) (p : Int) : Bool := match smF As p with | some q => decide (f q.1 = f q.2) | none => false
def anyB (f : Int → Int) (ps : List Int) (As : List At) : Bool := (ps.map (saysB f As)).any id
def eqF (st : (Int → Int) → Int → Int → Int → Int) (ps : List Int) (T : List Tm) (As : List At) : List Lk → (Int → Int) → Bool
  | [], f => anyB f ps As
  | l :: ls, f => if rightB f ps T As l = true then eqF st ps T As ls (st f l.1 l.2.1) else false
def rtm (f : Int → Int) (a b : Int) : Int → Int := fun t => if f t = f a then f b else f t
def InR (n : Nat) (x : Int) : Prop := 0 ≤ x ∧ x < (n : Int)
/-- terms and atoms that can be -/
structure Dom (T : List Tm) (As : List At) : Prop where
  tm : ∀ t ∈ T, ∀ q ∈ t.2, InR T.length q
  am : ∀ x y, At.same x y ∈ As → InR T.length x ∧ InR T.length y
def LkIn (n m : Nat) (l : Lk) : Prop := InR n l.1 ∧ InR n l.2.1 ∧ 0 ≤ l.2.2 ∧ l.2.2 ≤ (m : Int)
theorem tG_mem {T : List Tm} {a : Int} (h : InR T.length a) : T[a.toNat]? = some (tG T a) ∧ tG T a ∈ T := by
  obtain ⟨h0, h1⟩ := h
  have e : T[a.toNat]? = some (tG T a) := by
    unfold tG
    rw [List.getD_eq_getElem?_getD, List.getElem?_eq_getElem (by omega)]
    rfl
  exact ⟨e, List.mem_of_getElem? e⟩
theorem smF_at {As : List At} {k : Int} (h0 : 1 ≤ k) (h1 : k ≤ (As.length : Int)) : ∃ a, As[(k - 1).toNat]? = some a ∧ a ∈ As ∧ smF As k = (match a with | .same x y => some (x, y) | .plain _ => none) := by
  have hl : (k - 1).toNat < As.length := by omega
  refine ⟨As[(k - 1).toNat], List.getElem?_eq_getElem hl, List.getElem_mem hl, ?_⟩
  unfold smF
  rw [if_pos ⟨h0, h1⟩, List.getD_eq_getElem?_getD, List.getElem?_eq_getElem hl]
  rfl
/-- two ways of telling joined terms that agree -/
def Agree (n : Nat) (f g : Int → Int) : Prop := ∀ t u, InR n t → InR n u → (f t = f u ↔ g t = g u)
end K34

/-! law k34: is_told, is_alike. Behind K34e. -/
namespace K34
open PySem L2
section
variable {K : PySem.W.Frag}
theorem hasT_at {H : Hp} {T : List Tm} {xs : List V} {i : Nat} {x : V} (h : HasL K H (T.map dT) xs) (e : xs[i]? = some x) : ∃ t q r, T[i]? = some t ∧ x = .ref q ∧ SqT K H q [.str t.1, .ref r] ∧ SqT K H r (t.2.map V.int) := by
  obtain ⟨d, e1, e2⟩ := h.get e
  rw [List.getElem?_map] at e1
  cases q : T[i]? with
  | none => rw [q] at e1; cases e1
  | some t =>
    rw [q] at e1
    cases e1
    simp only [dT, Has, HasL] at e2
    obtain ⟨p, ys, rfl, hp, v1, r1, rfl, rfl, v2, r2, rfl, ⟨r, zs, rfl, hr, hz⟩, rfl⟩ := e2
    rw [hasl_ints hz] at hr
    exact ⟨t, p, r, rfl, rfl, hp, hr⟩
theorem hasA_at {H : Hp} {As : List At} {xs : List V} {i : Nat} {x : V} (h : HasL K H (As.map dA) xs) (e : xs[i]? = some x) : ∃ a, As[i]? = some a ∧ Has K H (dA a) x := by
  obtain ⟨d, e1, e2⟩ := h.get e
  rw [List.getElem?_map] at e1
  cases q : As[i]? with
  | none => rw [q] at e1; cases e1
  | some t =>
    rw [q] at e1
    cases e1
    exact ⟨t, rfl, e2⟩
theorem hasR_at {H : Hp} {Rs : List (List Int)} {xs : List V} {i : Nat} {x : V} (h : HasL K H (Rs.map dR) xs) (e : xs[i]? = some x) : ∃ r q, Rs[i]? = some r ∧ x = .ref q ∧ SqT K H q (r.map V.int) := by
  obtain ⟨d, e1, e2⟩ := h.get e
  rw [List.getElem?_map] at e1
  cases q : Rs[i]? with
  | none => rw [q] at e1; cases e1
  | some t =>
    rw [q] at e1
    cases e1
    simp only [dR, Has] at e2
    obtain ⟨a, xs, rfl, hs, hl⟩ := e2
    rw [hasl_ints hl] at hs
    exact ⟨t, a, rfl, rfl, hs⟩
theorem has_plain {H : Hp} {z : Str} {x : V} (h : Has K H (dA (.plain z)) x) : ∃ q, x = .ref q ∧ SqT K H q [.str "plain", .str z] := by
  unfold dA at h
  simp only [Has, HasL] at h
  obtain ⟨a, xs, rfl, hs, v, r, rfl, rfl, v2, r2, rfl, rfl, rfl⟩ := h
  exact ⟨a, rfl, hs⟩
theorem has_same {H : Hp} {a b : Int} {x : V} (h : Has K H (dA (.same a b)) x) : ∃ q, x = .ref q ∧ SqT K H q [.str "same", .int a, .int b] := by
  unfold dA at h
  simp only [Has, HasL] at h
  obtain ⟨q, xs, rfl, hs, v, r, rfl, rfl, v2, r2, rfl, rfl, v3, r3, rfl, rfl, rfl⟩ := h
  exact ⟨q, rfl, hs⟩
theorem at_num {α : Type} {xs : List α} {i : Int} (h0 : 0 ≤ i) (h1 : i < (xs.length : Int)) : ∃ x, xs[i.toNat]? = some x ∧ atI xs i = some x := by
  have hk : i.toNat < xs.length := by omega
  have e : i = ((i.toNat : Nat) : Int) := by omega
  have q : atI xs ((i.toNat : Nat) : Int) = some xs[i.toNat] := atI_nat (List.getElem?_eq_getElem hk)
  rw [← e] at q
  exact ⟨_, List.getElem?_eq_getElem hk, q⟩
end
/-! when a line is right: the program -/
section
variable {P : Program} {w : World} {K : PySem.W.Frag} {mg : Str → Option Value} {base : Heap} {aK C CN CT CP CM CG : Addr} {f fS fT fA fM fI fG fJ fR : Addr} {fd dS dT' dA' dM dI dG dJ dR' : FuncData}
def SmQ (K : PySem.W.Frag) (As : List At) (k : Int) (H : Hp) (Q : VK) : Prop := (smF As k = none → ∀ H', Same H H' → Q .non H') ∧ ∀ x y, smF As k = some (x, y) → ∀ (H' : Hp) (a : Addr), Same H H' → SqT K H' a [.int x, .int y] → Q (.ref a) H'
def sp_sameness (K : PySem.W.Frag) (C : Addr) : Sp := fun vs H Q _ => ∃ (p tl al rl : Addr) (T : List Tm) (As : List At) (Rs : List (List Int)) (k : Int), vs = [.ref p, .int k] ∧ PrAt K C H p tl al rl T As Rs ∧ SmQ K As k H Q
theorem sc_sameness : FnScope ["problem", "number", "atom"] ["problem", "number"] (defScope s_sameness) := ⟨rfl, rfl, rfl, by decide +kernel, rfl, by decide +kernel, by decide +kernel⟩
set_option maxHeartbeats 1000000 in
theorem ok_sameness (F : Fun K "sameness" "sameness" s_sameness f fd) (T : Txt K mg aK C CN CT CP CM) : FnOk P w K mg base CX0 1 f fd ["problem", "number"] (sp_sameness K C) := by
  refine F.ok sc_sameness (fun vs H Q E h => ?_) (fun cdv A outer s H vs Q E hr h => ?_)
  · obtain ⟨p, tl, al, rl, T', As, Rs, k, rfl, _⟩ := h
    rfl
  obtain ⟨p, tl, al, rl, T', As, Rs, k, rfl, S, q0, q1⟩ := h
  obtain ⟨⟨dx, ho⟩, _, ⟨ys, ha, hA⟩, _⟩ := id S
  have yl : ys.length = As.length := by rw [← hA.length, List.length_map]
  refine ⟨_, (pss_cons (ps_if (PW.pt (pw_or (pt_cmpR op_lt (pv 1) pe_int (nomark _)) (pw_or1 (pt_cmpR op_gt (pv 1) (pe_callB call_len_seq rfl T.len PySem.boot_len (pa_cons (pe_fld (pv 0) rfl) pa_nil)) (nomark _)))))
      (pss_one (ps_ret pe_non))
      pss_nil)
    (pss_cons (ps_set (i := 2) sc_sameness.nd rfl (Or.inl rfl) (pe_ix ix_list (pe_fld (pv 0) rfl) (pe_op op_sub (pv 1) pe_int) (fun _ _ => rfl)))
    (pss_one (ps_ret (pe_ifExp (pt_cmpR op_eq (pe_ix ix_tup (pv 2) pe_int (fun _ _ => rfl)) pe_str (nomark _)) (pe_slice sl_tup (pv 2) (po_some pe_int) po_none) pe_non))))), ?_⟩
  refine ⟨_, rfl, _, _, rfl, rfl, _, rfl, ite2 (fun c => iteT ?_) (fun c => ⟨_, rfl, _, rfl, p, C, dx, _, _, rfl, ho, T.cl, T.nA, flds_atoms _ _ _, al, ys, rfl, .inl (SqL.of ha), _, _, rfl, rfl, _, rfl, ite2 (fun c2 => ?_) (fun c2 => ?_)⟩)⟩
  · have c' : k < 1 := of_decide_eq_true c
    exact q0 (by unfold smF; rw [if_neg (by omega)]) H (Same.refl H)
  · have c' : ((ys.length : Nat) : Int) < k := of_decide_eq_true c2
    exact q0 (by unfold smF; rw [if_neg (by omega)]) H (Same.refl H)
  · have c1 : ¬ k < 1 := fun z => c (decide_eq_true z)
    have c3 : ¬ ((ys.length : Nat) : Int) < k := fun z => c2 (decide_eq_true z)
    obtain ⟨a, e1, e2, e3⟩ := smF_at (As := As) (k := k) (by omega) (by omega)
    obtain ⟨x, x1, x2⟩ := at_num (xs := ys) (i := k - 1) (by omega) (by omega)
    obtain ⟨a', ea, hax⟩ := hasA_at hA x1
    rw [e1] at ea
    cases ea
    refine ⟨_, rfl, p, C, dx, _, _, rfl, ho, T.cl, T.nA, flds_atoms _ _ _, _, rfl, _, _, rfl, rfl, al, _, _, _, rfl, rfl, SqL.of ha, x2, ?_⟩
    cases a with
    | plain z =>
      obtain ⟨q, rfl, hq⟩ := has_plain hax
      refine ⟨_, rfl, q, _, _, _, rfl, rfl, hq, atI_nat (j := 0) rfl, rfl, _, rfl, ite2 (fun c => ?_) (fun c => ?_)⟩
      · exact absurd (of_decide_eq_true c) (by decide +kernel)
      · exact q0 e3 H (Same.refl H)
    | same x y =>
      obtain ⟨q, rfl, hq⟩ := has_same hax
      refine ⟨_, rfl, q, _, _, _, rfl, rfl, hq, atI_nat (j := 0) rfl, rfl, _, rfl, ite2 (fun c => ?_) (fun c => ?_)⟩
      · refine ⟨_, rfl, _, rfl, q, _, rfl, hq, (by show ¬ (1 = 0 ∧ _); rintro ⟨z, _⟩; exact absurd z (by decide)), fun b hb => ?_⟩
        exact q1 x y e3 _ b (sameNew hb _) (SqT.of upd_same)
      · exact absurd (decide_eq_true rfl) c
theorem inV_ints (k : Int) : ∀ ps : List Int, inV (.int k) (ps.map V.int) = decide (k ∈ ps)
  | [] => by simp [inV]
  | p :: ps => by
    have ih := inV_ints k ps
    unfold inV at ih ⊢
    rw [List.map_cons, List.any_cons, ih]
    by_cases h : k = p
    · subst h
      simp [eqV]
    · have : ¬ p = k := fun z => h z.symm
      simp [eqV, h, this]
theorem ints_flat : ∀ ps : List Int, (ps.map V.int).all flatV = true
  | [] => rfl
  | p :: ps => by rw [List.map_cons, List.all_cons, ints_flat ps]; rfl
theorem peq_pair (x y a b : Int) : peq (.tup [.int x, .int y]) (.tup [.int a, .int b]) = decide ((x, y) = (a, b)) := by
  by_cases h : (x, y) = (a, b)
  · cases h
    rw [decide_eq_true rfl]
    exact peq_refl _
  · rw [decide_eq_false h, Bool.eq_false_iff]
    intro z
    have := peq_eq _ _ (by simp [nob, nobs]) (by simp [nob, nobs]) z
    simp only [Dt.tup.injEq, List.cons.injEq, Dt.int.injEq, and_true] at this
    exact h (by rw [this.1, this.2])
theorem Has.pair {H : Hp} {a : Addr} {x y : Int} (h : SqT K H a [.int x, .int y]) : Has K H (.tup [.int x, .int y]) (.ref a) := Has.tup' h (.cons .int (.cons .int .nil))
def sp_told (K : PySem.W.Frag) (C : Addr) : Sp := fun vs H Q _ => ∃ (p tl al rl q l : Addr) (T : List Tm) (As : List At) (Rs : List (List Int)) (ps : List Int) (lk : Lk), vs = [.ref p, .ref q, .ref l] ∧ PrAt K C H p tl al rl T As Rs ∧ SqI K H q ps ∧ SqT K H l [.int lk.1, .int lk.2.1, .int lk.2.2] ∧ ∀ H', Same H H' → Q (.bl (toldB ps As lk)) H'
theorem sc_is_told : FnScope ["problem", "parts", "link", "pair"] ["problem", "parts", "link"] (defScope s_is_told) := ⟨rfl, rfl, rfl, by decide +kernel, rfl, by decide +kernel, by decide +kernel⟩
theorem l0 (lk : Lk) : atI [V.int lk.1, V.int lk.2.1, V.int lk.2.2] 0 = some (.int lk.1) := atI_nat (j := 0) rfl
theorem l1 (lk : Lk) : atI [V.int lk.1, V.int lk.2.1, V.int lk.2.2] 1 = some (.int lk.2.1) := atI_nat (j := 1) rfl
theorem l2 (lk : Lk) : atI [V.int lk.1, V.int lk.2.1, V.int lk.2.2] 2 = some (.int lk.2.2) := atI_nat (j := 2) rfl
set_option maxHeartbeats 1000000 in
theorem ok_told (F : Fun K "is_told" "is_told" s_is_told f fd) (T : Txt K mg aK C CN CT CP CM) (mS : mg "sameness" = some (.ref fS)) (BS : FnOk P w K mg base CX0 1 fS dS ["problem", "number"] (sp_sameness K C)) (bS : Binds K dS ["problem", "number"] []) (kS : PySem.W.keepIn K (.ref fS) = true) : FnOk P w K mg base CX0 2 f fd ["problem", "parts", "link"] (sp_told K C) := by
  refine F.ok sc_is_told (fun vs H Q E h => ?_) (fun cdv A outer s H vs Q E hr h => ?_)
  · obtain ⟨p, tl, al, rl, q, l, T', As, Rs, ps, lk, rfl, _⟩ := h
    rfl
  obtain ⟨p, tl, al, rl, q, l, T', As, Rs, ps, lk, rfl, S, hq, hl, Q0⟩ := h
  have hu := hu64 hr
  refine ⟨_, (pss_cons (ps_if (pt_cmpR op_notIn_seq (pe_un un_neg (pe_ix ix_tup (pv 2) pe_int (fun _ _ => rfl))) (pv 1) rfl)
      (pss_one (ps_ret pe_bl))
      pss_nil)
    (pss_cons (ps_set (i := 3) sc_is_told.nd rfl (Or.inl rfl) (pe_call BS hr rfl mS kS bS .nil pass0 (pa_cons (pv 0) (pa_cons (pe_ix ix_tup (pv 2) pe_int (fun _ _ => rfl)) pa_nil))))
    (pss_one (ps_ret (pe_or (pe_cmpR (op_eqD hu) (pv 3) (pe_tup (pa_cons (pe_ix ix_tup (pv 2) pe_int (fun _ _ => rfl)) (pa_cons (pe_ix ix_tup (pv 2) pe_int (fun _ _ => rfl)) pa_nil))) rfl) (pe_one (pe_cmpR (op_eqD hu) (pv 3) (pe_tup (pa_cons (pe_ix ix_tup (pv 2) pe_int (fun _ _ => rfl)) (pa_cons (pe_ix ix_tup (pv 2) pe_int (fun _ _ => rfl)) pa_nil))) rfl))))))), ?_⟩
  refine ⟨_, rfl, l, _, _, _, rfl, rfl, hl, l2 lk, _, rfl, _, rfl, q, _, rfl, hq, rfl, ints_flat _, _, rfl, ?_⟩
  show if (!inV (.int (-lk.2.2)) (ps.map V.int)) = true then _ else _
  rw [inV_ints]
  by_cases hin : ¬ -lk.2.2 ∈ ps
  · rw [decide_eq_false hin]
    refine iteT ?_
    have := Q0 H (Same.refl H)
    unfold toldB at this
    rw [decide_eq_false hin] at this
    exact this
  replace hin := Classical.not_not.mp hin
  rw [decide_eq_true hin]
  refine iteF ⟨_, rfl, _, rfl, l, _, _, _, rfl, rfl, hl, l2 lk, p, tl, al, rl, T', As, Rs, _, rfl, S, fun e H1 s1 => ?_, fun x y e H1 a s1 ha => ?_⟩
  · have hl1 := s1.tup hl
    refine ⟨_, rfl, _, rfl, l, _, _, _, rfl, rfl, hl1, l0 lk, _, rfl, l, _, _, _, rfl, rfl, hl1, l1 lk, (by show 2 ≤ sizeLine; decide), fun b hb => ?_⟩
    have s2 := sameNew hb (.tup [.int lk.1, .int lk.2.1])
    have n2 := upd_same (H := H1) (a := b) (o := .tup [.int lk.1, .int lk.2.1])
    generalize upd H1 b (.tup [.int lk.1, .int lk.2.1]) = H2 at s2 n2
    have hl2 := s2.tup hl1
    refine ⟨.non, _, (by simp only [Has]), Has.pair (SqT.of n2), (by decide), _, rfl, iteF ⟨_, rfl, _, rfl, l, _, _, _, rfl, rfl, hl2, l1 lk, _, rfl, l, _, _, _, rfl, rfl, hl2, l0 lk, (by show 2 ≤ sizeLine; decide), fun d hd => ?_⟩⟩
    have s3 := sameNew hd (.tup [.int lk.2.1, .int lk.1])
    have n3 := upd_same (H := H2) (a := d) (o := .tup [.int lk.2.1, .int lk.1])
    generalize upd H2 d (.tup [.int lk.2.1, .int lk.1]) = H3 at s3 n3
    refine ⟨.non, _, (by simp only [Has]), Has.pair (SqT.of n3), (by decide), ?_⟩
    have := Q0 H3 ((s1.trans s2).trans s3)
    unfold toldB at this
    rw [decide_eq_true hin, e] at this
    exact this
  · have hl1 := s1.tup hl
    refine ⟨_, rfl, _, rfl, l, _, _, _, rfl, rfl, hl1, l0 lk, _, rfl, l, _, _, _, rfl, rfl, hl1, l1 lk, (by show 2 ≤ sizeLine; decide), fun b hb => ?_⟩
    have s2 := sameNew hb (.tup [.int lk.1, .int lk.2.1])
    have n2 := upd_same (H := H1) (a := b) (o := .tup [.int lk.1, .int lk.2.1])
    generalize upd H1 b (.tup [.int lk.1, .int lk.2.1]) = H2 at s2 n2
    have hl2 := s2.tup hl1
    refine ⟨_, _, Has.pair (s2.tup ha), Has.pair (SqT.of n2), (by simp only [dep, deps]; decide), _, rfl, ?_⟩
    rw [peq_pair]
    refine ite2 (fun c => ?_) (fun c => ⟨_, rfl, _, rfl, l, _, _, _, rfl, rfl, hl2, l1 lk, _, rfl, l, _, _, _, rfl, rfl, hl2, l0 lk, (by show 2 ≤ sizeLine; decide), fun d hd => ?_⟩)
    · have := Q0 H2 (s1.trans s2)
      unfold toldB at this
      rw [decide_eq_true hin, e] at this
      change Q (.bl (true && (decide ((x, y) = (lk.1, lk.2.1)) || decide ((x, y) = (lk.2.1, lk.1))))) H2 at this
      rw [c] at this
      exact this
    have s3 := sameNew hd (.tup [.int lk.2.1, .int lk.1])
    have n3 := upd_same (H := H2) (a := d) (o := .tup [.int lk.2.1, .int lk.1])
    generalize upd H2 d (.tup [.int lk.2.1, .int lk.1]) = H3 at s3 n3
    refine ⟨_, _, Has.pair (s3.tup (s2.tup ha)), Has.pair (SqT.of n3), (by simp only [dep, deps]; decide), ?_⟩
    rw [peq_pair]
    have := Q0 H3 ((s1.trans s2).trans s3)
    unfold toldB at this
    rw [decide_eq_true hin, e] at this
    change Q (.bl (true && (decide ((x, y) = (lk.1, lk.2.1)) || decide ((x, y) = (lk.2.1, lk.1))))) H3 at this
    rw [Bool.eq_false_iff.mpr c] at this
    exact this
def sp_alike (K : PySem.W.Frag) (CG : Addr) : Sp := fun vs H Q _ => ∃ (tl l g ld gd : Addr) (xs : List V) (T : List Tm) (lk : Lk) (N b : Nat) (hd : Int → Int) (av : List Addr), vs = [.ref tl, .ref l, .ref g] ∧ SqL K H tl xs ∧ HasL K H (T.map dT) xs ∧ (∀ t ∈ T, t.2.length ≤ 1000) ∧ SqT K H l [.int lk.1, .int lk.2.1, .int lk.2.2] ∧ InR T.length lk.1 ∧ InR T.length lk.2.1 ∧ GO H CG g ld gd N b hd av ∧ ∀ H', Same H H' → Q (.bl (alikeB hd T lk.1 lk.2.1)) H'
theorem sc_is_alike : FnScope ["terms", "link", "groups", "one", "other"] ["terms", "link", "groups"] (defScope s_is_alike) := ⟨rfl, rfl, rfl, by decide +kernel, rfl, by decide +kernel, by decide +kernel⟩
theorem all_map {α : Type} (f : α → Bool) : ∀ xs : List α, (xs.map f).all id = xs.all f
  | [] => rfl
  | x :: xs => by rw [List.map_cons, List.all_cons, List.all_cons, all_map f xs]; rfl
theorem zip_snoc {α β : Type} {xs : List α} {ys : List β} {i : Nat} {x : α} {y : β} (h1 : xs[i]? = some x) (h2 : ys[i]? = some y) : (xs.zip ys).take (i + 1) = (xs.zip ys).take i ++ [(x, y)] := by
  have e : (xs.zip ys)[i]? = some (x, y) := by rw [List.getElem?_zip_eq_some]; exact ⟨h1, h2⟩
  exact take_snoc e
set_option maxHeartbeats 1000000 in
theorem ok_alike (F : Fun K "is_alike" "is_alike" s_is_alike f fd) (T : Txt K mg aK C CN CT CP CM) (G : TxG K mg CG) (mz : mg "zip" = none) (mA : mg "all" = none) (M : Meth K CG "together" fG) (Bg : FnOk P w K mg base CX0 2 fG dG ["self", "one", "other"] (Gp.sp_together CG)) (bg : Binds K dG ["self", "one", "other"] []) : FnOk P w K mg base CX0 3 f fd ["terms", "link", "groups"] (sp_alike K CG) := by
  refine F.ok sc_is_alike (fun vs H Q E h => ?_) (fun cdv A outer s H vs Q E hr h => ?_)
  · obtain ⟨tl, l, g, ld, gd, xs, T', lk, N, b, hd, av, rfl, _⟩ := h
    rfl
  obtain ⟨tl, l, g, ld, gd, xs, T', lk, N, b, hd, av, rfl, ht, hT, t1000, hl, r1, r2, O, q⟩ := h
  have xl : xs.length = T'.length := by rw [← hT.length, List.length_map]
  refine ⟨_, (pss_cons (ps_set (i := 3) sc_is_alike.nd rfl (Or.inl rfl) (pe_ix ix_list (pv 0) (pe_ix ix_tup (pv 1) pe_int (fun _ _ => rfl)) (fun _ _ => rfl)))
    (pss_cons (ps_set (i := 4) sc_is_alike.nd rfl (Or.inl rfl) (pe_ix ix_list (pv 0) (pe_ix ix_tup (pv 1) pe_int (fun _ _ => rfl)) (fun _ _ => rfl)))
    (pss_cons (ps_if (PW.pt (pw_or (pt_cmpR op_ne (pe_ix ix_tup (pv 3) pe_int (fun _ _ => rfl)) (pe_ix ix_tup (pv 4) pe_int (fun _ _ => rfl)) (nomark _)) (pw_or1 (pt_cmpR op_ne (pe_callB call_len_seq rfl T.len PySem.boot_len (pa_cons (pe_ix ix_tup (pv 3) pe_int (fun _ _ => rfl)) pa_nil)) (pe_callB call_len_seq rfl T.len PySem.boot_len (pa_cons (pe_ix ix_tup (pv 4) pe_int (fun _ _ => rfl)) pa_nil)) (nomark _)))))
      (pss_one (ps_ret pe_bl))
      pss_nil)
    (pss_one (ps_ret (pe_callB (call_all_bools rfl) rfl mA PyProof.Rows.Boot.all (pa_cons (pe_lc (N' := ["pair", "groups"]) (ix := [2]) rfl rfl (by decide +kernel) (by decide +kernel) rfl (fun ok => clo_of (sc := defScope s_is_alike) ok rfl (by decide +kernel) (by decide +kernel)) (by decide +kernel) rfl rfl (fun j i h => match j, h with | 0, h => by cases h; exact ⟨_, rfl, rfl, .inl rfl, .inl rfl⟩ | n + 1, h => by simp at h) (pi_zipN rfl mz (pa_cons (pe_ix ix_tup (pv 3) pe_int (fun _ _ => rfl)) (pa_cons (pe_ix ix_tup (pv 4) pe_int (fun _ _ => rfl)) pa_nil))) (fun _ _ _ _ => (pe_meth (pv 1) G.cl M Bg hr bg .nil pass0 (pa_cons (pe_ix (r := rIxT K) ix_tup (pv 0) pe_int (fun _ _ => rfl)) (pa_cons (pe_ix (r := rIxT K) ix_tup (pv 0) pe_int (fun _ _ => rfl)) pa_nil))))) pa_nil))))))), ?_⟩
  obtain ⟨x, x1, x2⟩ := at_num (xs := xs) (i := lk.1) r1.1 (by rw [xl]; exact r1.2)
  obtain ⟨y, y1, y2⟩ := at_num (xs := xs) (i := lk.2.1) r2.1 (by rw [xl]; exact r2.2)
  obtain ⟨t, qa, ra, ta, rfl, ha, hra⟩ := hasT_at hT x1
  obtain ⟨u, qb, rb, ua, rfl, hb, hrb⟩ := hasT_at hT y1
  have et : tG T' lk.1 = t := by have := (tG_mem r1).1; rw [ta] at this; cases this; rfl
  have eu : tG T' lk.2.1 = u := by have := (tG_mem r2).1; rw [ua] at this; cases this; rfl
  have tl1 := t1000 t (List.mem_of_getElem? ta)
  unfold alikeB at q
  rw [et, eu] at q
  refine ⟨_, rfl, _, rfl, l, _, _, _, rfl, rfl, hl, l0 lk, tl, _, _, _, rfl, rfl, ht, x2, ?_⟩
  refine ⟨_, rfl, _, rfl, l, _, _, _, rfl, rfl, hl, l1 lk, tl, _, _, _, rfl, rfl, ht, y2, ?_⟩
  have a0 : ∀ (z : Str) (r : Addr), atI [V.str z, V.ref r] 0 = some (.str z) := fun z r => atI_nat (j := 0) rfl
  have a1 : ∀ (z : Str) (r : Addr), atI [V.str z, V.ref r] 1 = some (.ref r) := fun z r => atI_nat (j := 1) rfl
  refine ⟨_, rfl, qa, _, _, _, rfl, rfl, ha, a0 _ _, _, rfl, qb, _, _, _, rfl, rfl, hb, a0 _ _, rfl, _, rfl, ite2 (fun c => iteT ?_) (fun c => ⟨_, rfl, qa, _, _, _, rfl, rfl, ha, a1 _ _, ra, _, rfl, .inr hra, _, rfl, qb, _, _, _, rfl, rfl, hb, a1 _ _, rb, _, rfl, .inr hrb, rfl, _, rfl, ite2 (fun c2 => ?_) (fun c2 => ?_)⟩)⟩
  · have := q H (Same.refl H)
    rw [decide_eq_false (fun z : t.1 = u.1 => by rw [z] at c; simp at c)] at this
    exact this
  · have := q H (Same.refl H)
    rw [decide_eq_false (p := t.2.length = u.2.length) (fun z => by simp [z] at c2)] at this
    rw [Bool.false_and, Bool.and_false] at this
    exact this
  have n1 : t.1 = u.1 := by
    apply Classical.byContradiction
    intro z
    exact c (by simp [z])
  have n2 : t.2.length = u.2.length := by
    apply Classical.byContradiction
    intro z
    exact c2 (by simp; omega)
  rw [decide_eq_true n1, decide_eq_true n2, Bool.true_and, Bool.true_and] at q
  refine ⟨_, rfl, qa, _, _, _, rfl, rfl, ha, a1 _ _, _, rfl, qb, _, _, _, rfl, rfl, hb, a1 _ _, ra, rb, rfl, ⟨_, hra⟩, ⟨_, hrb⟩, fun D hD => lc_by (wk_zipT (by rw [List.length_map, List.length_map]; exact n2)) (fun i us H' => Same H H' ∧ us = (((t.2.zip u.2).take i).map fun xy => decide (hd xy.1 = hd xy.2)).map V.bl) (fun i us H' ⟨s4, _⟩ => ⟨s4.tup hra, s4.tup hrb⟩) ⟨sameNew hD _, rfl⟩ ?_ ?_⟩
  · rintro i us H8 z H4 hi hly hDs ⟨s4, rfl⟩ ⟨pp, v1, v2, rfl, hpp, rfl, h1, h2⟩
    obtain ⟨k1, e1, rfl⟩ := ints_at (h1 _ (s4.tup hra))
    obtain ⟨k2, e2, rfl⟩ := ints_at (h2 _ (s4.tup hrb))
    have hD5 := sameNew hpp (.tup [.int k1, .int k2]) _ _ hDs
    have s5 := s4.trans (sameNew hpp (.tup [.int k1, .int k2]))
    have n5 := upd_same (H := H8) (a := pp) (o := .tup [.int k1, .int k2])
    generalize upd H8 pp (.tup [.int k1, .int k2]) = H5 at s5 n5 hD5
    have O5 := O.same s5
    obtain ⟨dx5, kl5, kg5, g5, _⟩ := id O5.ex
    refine ⟨_, rfl, g, dx5, _, rfl, g5, rfl, _, rfl, pp, _, _, _, rfl, rfl, SqT.of n5, atI_nat (j := 0) rfl, _, rfl, pp, _, _, _, rfl, rfl, SqT.of n5, atI_nat (j := 1) rfl, g, ld, gd, k1, k2, N, b, hd, av, rfl, O5, lc_post (sz _ (by rw [List.length_map]; exact tl1)) hi hly hD5 ⟨s5.upd hD, ?_⟩⟩
    · rw [zip_snoc e1 e2, List.map_append, List.map_append]
      rfl
  rintro us H4 hDs ⟨s4, rfl⟩
  refine ⟨D, _, rfl, SqL.of hDs, ?_⟩
  rw [all_map, List.length_map, List.take_of_length_le (by rw [List.length_zip]; omega)]
  exact q H4 s4
end
end K34

/-! law k34: is_equal. Behind K34f. -/
namespace K34
open PySem L2
/-! when a line is right: the program, its second half -/
section
variable {P : Program} {w : World} {K : PySem.W.Frag} {mg : Str → Option Value} {base : Heap} {aK C CN CT CP CM CG : Addr} {f fS fT fA fM fI fG fJ fR : Addr} {fd dS dT' dA' dM dI dG dJ dR' : FuncData}
/-- a problem whose terms and atoms can be -/
structure PrD (K : PySem.W.Frag) (C : Addr) (H : Hp) (p tl al rl : Addr) (T : List Tm) (As : List At) (Rs : List (List Int)) : Prop where
  pr : PrAt K C H p tl al rl T As Rs
  dm : Dom T As
  t3 : ∀ t ∈ T, t.2.length ≤ 1000
  tN : T.length ≤ 100
theorem PrD.same {H H' : Hp} {p tl al rl : Addr} {T : List Tm} {As : List At} {Rs : List (List Int)} (h : PrD K C H p tl al rl T As Rs) (s : Same H H') : PrD K C H' p tl al rl T As Rs := ⟨h.pr.same s, h.dm, h.t3, h.tN⟩
def sp_right (K : PySem.W.Frag) (C CG : Addr) : Sp := fun vs H Q _ => ∃ (p tl al rl q l g ld gd : Addr) (T : List Tm) (As : List At) (Rs : List (List Int)) (ps : List Int) (lk : Lk) (N b : Nat) (hd : Int → Int) (av : List Addr), vs = [.ref p, .ref q, .ref l, .ref g] ∧ PrD K C H p tl al rl T As Rs ∧ SqI K H q ps ∧ SqT K H l [.int lk.1, .int lk.2.1, .int lk.2.2] ∧ LkIn T.length As.length lk ∧ GO H CG g ld gd N b hd av ∧ ∀ H', Same H H' → Q (.bl (rightB hd ps T As lk)) H'
theorem sc_is_right : FnScope ["problem", "parts", "link", "groups"] ["problem", "parts", "link", "groups"] (defScope s_is_right) := ⟨rfl, rfl, rfl, by decide +kernel, rfl, by decide +kernel, by decide +kernel⟩
set_option maxHeartbeats 1000000 in
theorem ok_right (F : Fun K "is_right" "is_right" s_is_right f fd) (T : Txt K mg aK C CN CT CP CM) (G : TxG K mg CG) (mT : mg "is_told" = some (.ref fT)) (BT : FnOk P w K mg base CX0 2 fT dT' ["problem", "parts", "link"] (sp_told K C)) (bT : Binds K dT' ["problem", "parts", "link"] []) (kT : PySem.W.keepIn K (.ref fT) = true)
    (mA : mg "is_alike" = some (.ref fA)) (BA : FnOk P w K mg base CX0 3 fA dA' ["terms", "link", "groups"] (sp_alike K CG)) (bA : Binds K dA' ["terms", "link", "groups"] []) (kA : PySem.W.keepIn K (.ref fA) = true) : FnOk P w K mg base CX0 4 f fd ["problem", "parts", "link", "groups"] (sp_right K C CG) := by
  refine F.ok sc_is_right (fun vs H Q E h => ?_) (fun cdv A outer s H vs Q E hr h => ?_)
  · obtain ⟨p, tl, al, rl, q, l, g, ld, gd, T', As, Rs, ps, lk, N, b, hd, av, rfl, _⟩ := h
    rfl
  obtain ⟨p, tl, al, rl, q, l, g, ld, gd, T', As, Rs, ps, lk, N, b, hd, av, rfl, S, hq, hl, lin, O, Q0⟩ := h
  have hr2 : Room 2 _ := hr.mono (by decide)
  refine ⟨_, (pss_cons (ps_if (PW.pt (pw_or (pt_cmpR op_lt (pe_callB (call_minL rfl) rfl G.min PyProof.Rows.Boot.min (pa_cons (pe_slice sl_tup (pv 2) po_none (po_some pe_int)) pa_nil)) pe_int (nomark _)) (pw_or1 (pt_cmpR op_ge (pe_callB (call_maxL rfl) rfl G.max PyProof.Rows.Boot.max (pa_cons (pe_slice sl_tup (pv 2) po_none (po_some pe_int)) pa_nil)) (pe_callB call_len_seq rfl T.len PySem.boot_len (pa_cons (pe_fld (pv 0) rfl) pa_nil)) (nomark _)))))
      (pss_one (ps_ret pe_bl))
      pss_nil)
    (pss_cons (ps_if (pt_cmpR op_eq (pe_ix ix_tup (pv 2) pe_int (fun _ _ => rfl)) pe_int (nomark _))
      (pss_one (ps_ret (pe_call BA hr rfl mA kA bA .nil pass0 (pa_cons (pe_fld (pv 0) rfl) (pa_cons (pv 2) (pa_cons (pv 3) pa_nil))))))
      pss_nil)
    (pss_one (ps_ret (pe_call BT hr2 rfl mT kT bT .nil pass0 (pa_cons (pv 0) (pa_cons (pv 1) (pa_cons (pv 2) pa_nil)))))))), ?_⟩
  obtain ⟨i1, i2, i3, i4⟩ := id lin
  refine ⟨_, rfl, _, rfl, l, _, rfl, hl, (by show ¬ (0 = 0 ∧ (2 : Nat) = 3); rintro ⟨_, z⟩; exact absurd z (by decide)), fun d hd' => ?_⟩
  have s1 := sameNew hd' (.tup (cutV [.int lk.1, .int lk.2.1, .int lk.2.2] none (some 2)))
  have n1 : upd H d (.tup (cutV [.int lk.1, .int lk.2.1, .int lk.2.2] none (some 2))) d = some (.tup [.int lk.1, .int lk.2.1]) := upd_same
  generalize upd H d (.tup (cutV [.int lk.1, .int lk.2.1, .int lk.2.2] none (some 2))) = H1 at s1 n1 ⊢
  refine ⟨d, [lk.1, lk.2.1], rfl, .inr (SqT.of n1), (by simp), fun m hm _ => ⟨_, _, rfl, rfl, _, rfl, ?_⟩⟩
  have m0 : ¬ m < 0 := by
    have : m = lk.1 ∨ m = lk.2.1 := by simpa using hm
    rcases this with z | z
    · rw [z]; have := i1.1; omega
    · rw [z]; have := i2.1; omega
  rw [decide_eq_false m0]
  refine iteF ⟨_, rfl, _, rfl, l, _, rfl, s1.tup hl, (by show ¬ (0 = 0 ∧ (2 : Nat) = 3); rintro ⟨_, z⟩; exact absurd z (by decide)), fun e he => ?_⟩
  have s2 := s1.trans (sameNew he (.tup (cutV [.int lk.1, .int lk.2.1, .int lk.2.2] none (some 2))))
  have n2 : upd H1 e (.tup (cutV [.int lk.1, .int lk.2.1, .int lk.2.2] none (some 2))) e = some (.tup [.int lk.1, .int lk.2.1]) := upd_same
  generalize upd H1 e (.tup (cutV [.int lk.1, .int lk.2.1, .int lk.2.2] none (some 2))) = H2 at s2 n2 ⊢
  have S2 := S.same s2
  obtain ⟨⟨dx, ho⟩, ⟨xs, ht, hT⟩, _⟩ := id S2.pr
  have xl : xs.length = T'.length := by rw [← hT.length, List.length_map]
  refine ⟨e, [lk.1, lk.2.1], rfl, .inr (SqT.of n2), (by simp), fun m2 hm2 _ => ⟨_, rfl, p, C, dx, _, _, rfl, ho, T.cl, T.nT, flds_terms _ _ _, tl, xs, rfl, .inl (SqL.of ht), _, _, rfl, rfl, _, rfl, ?_⟩⟩
  have m1 : ¬ ((xs.length : Nat) : Int) ≤ m2 := by
    rw [xl]
    have : m2 = lk.1 ∨ m2 = lk.2.1 := by simpa using hm2
    rcases this with z | z
    · rw [z]; have := i1.2; omega
    · rw [z]; have := i2.2; omega
  rw [decide_eq_false m1]
  have hl2 := s2.tup hl
  unfold rightB at Q0
  refine iteF ⟨_, rfl, l, _, _, _, rfl, rfl, hl2, l2 lk, rfl, _, rfl, ite2 (fun c => ?_) (fun c => ?_)⟩
  · have c' : lk.2.2 = 0 := by
      have := of_decide_eq_true c
      injection this
    rw [if_pos c'] at Q0
    exact ⟨_, rfl, p, C, dx, _, _, rfl, ho, T.cl, T.nT, flds_terms _ _ _, _, rfl, _, rfl, tl, l, g, ld, gd, xs, T', lk, N, b, hd, av, rfl, SqL.of ht, hT, S.t3, hl2, i1, i2, O.same s2, fun H3 s3 => Q0 H3 (s2.trans s3)⟩
  · have c' : ¬ lk.2.2 = 0 := fun z => c (by rw [z]; rfl)
    rw [if_neg c'] at Q0
    exact ⟨_, rfl, _, rfl, _, rfl, p, tl, al, rl, q, l, T', As, Rs, ps, lk, rfl, S2.pr, hq.same s2, hl2, fun H3 s3 => Q0 H3 (s2.trans s3)⟩
def sp_says (K : PySem.W.Frag) (C CG : Addr) : Sp := fun vs H Q _ => ∃ (p tl al rl g ld gd : Addr) (T : List Tm) (As : List At) (Rs : List (List Int)) (k : Int) (N b : Nat) (hd : Int → Int) (av : List Addr), vs = [.ref p, .int k, .ref g] ∧ PrAt K C H p tl al rl T As Rs ∧ GO H CG g ld gd N b hd av ∧ ∀ H', Same H H' → Q (.bl (saysB hd As k)) H'
theorem sc_says_joined : FnScope ["problem", "part", "groups", "pair"] ["problem", "part", "groups"] (defScope s_says_joined) := ⟨rfl, rfl, rfl, by decide +kernel, rfl, by decide +kernel, by decide +kernel⟩
set_option maxHeartbeats 1000000 in
theorem ok_says (F : Fun K "says_joined" "says_joined" s_says_joined f fd) (G : TxG K mg CG) (mS : mg "sameness" = some (.ref fS)) (BS : FnOk P w K mg base CX0 1 fS dS ["problem", "number"] (sp_sameness K C)) (bS : Binds K dS ["problem", "number"] []) (kS : PySem.W.keepIn K (.ref fS) = true)
    (M : Meth K CG "together" fG) (Bg : FnOk P w K mg base CX0 2 fG dG ["self", "one", "other"] (Gp.sp_together CG)) (bg : Binds K dG ["self", "one", "other"] []) : FnOk P w K mg base CX0 3 f fd ["problem", "part", "groups"] (sp_says K C CG) := by
  refine F.ok sc_says_joined (fun vs H Q E h => ?_) (fun cdv A outer s H vs Q E hr h => ?_)
  · obtain ⟨p, tl, al, rl, g, ld, gd, T', As, Rs, k, N, b, hd, av, rfl, _⟩ := h
    rfl
  obtain ⟨p, tl, al, rl, g, ld, gd, T', As, Rs, k, N, b, hd, av, rfl, S, O, Q0⟩ := h
  have hr1 : Room 1 _ := hr.mono (by decide)
  refine ⟨_, (pss_cons (ps_set (i := 3) sc_says_joined.nd rfl (Or.inl rfl) (pe_call BS hr1 rfl mS kS bS .nil pass0 (pa_cons (pv 0) (pa_cons (pv 1) pa_nil))))
    (pss_one (ps_ret (pe_and (pe_cmpR op_notN (pv 3) pe_non (nomark _)) (pe_one (pe_meth (pv 2) G.cl M Bg hr bg .nil pass0 (pa_cons (pe_ix ix_tup (pv 3) pe_int (fun _ _ => rfl)) (pa_cons (pe_ix ix_tup (pv 3) pe_int (fun _ _ => rfl)) pa_nil)))))))), ?_⟩
  unfold saysB at Q0
  refine ⟨_, rfl, _, rfl, p, tl, al, rl, T', As, Rs, k, rfl, S, fun e H1 s1 => ?_, fun x y e H1 a s1 ha => ?_⟩
  · refine ⟨_, rfl, rfl, _, rfl, iteF ?_⟩
    have := Q0 H1 s1
    rw [e] at this
    exact this
  · have O1 := O.same s1
    obtain ⟨dx1, kl1, kg1, g1, _⟩ := id O1.ex
    refine ⟨_, rfl, rfl, _, rfl, iteT ⟨_, rfl, g, dx1, _, rfl, g1, rfl, _, rfl, a, _, _, _, rfl, rfl, ha, atI_nat (j := 0) rfl, _, rfl, a, _, _, _, rfl, rfl, ha, atI_nat (j := 1) rfl, g, ld, gd, x, y, N, b, hd, av, rfl, O1, ?_⟩⟩
    have := Q0 H1 s1
    rw [e] at this
    exact this
def sp_equal (K : PySem.W.Frag) (C : Addr) : Sp := fun vs H Q _ => ∃ (p tl al rl q l : Addr) (T : List Tm) (As : List At) (Rs : List (List Int)) (ps : List Int) (xs : List V) (ls : List Lk), vs = [.ref p, .ref q, .ref l] ∧ PrD K C H p tl al rl T As Rs ∧ SqT K H q (ps.map V.int) ∧ ps.length ≤ 1000 ∧ SqT K H l xs ∧ HasL K H (ls.map dL) xs ∧ (∀ lk ∈ ls, LkIn T.length As.length lk) ∧ ls.length ≤ 1000 ∧ ∀ H', Same H H' → Q (.bl (eqF mrg ps T As ls id)) H'
theorem sc_is_equal : FnScope ["problem", "parts", "links", "groups", "link"] ["problem", "parts", "links"] (defScope s_is_equal) := ⟨rfl, rfl, rfl, by decide +kernel, rfl, by decide +kernel, by decide +kernel⟩
theorem eqF_false {st : (Int → Int) → Int → Int → Int → Int} {ps : List Int} {T : List Tm} {As : List At} {l : Lk} {ls : List Lk} {f : Int → Int} (h : ¬ rightB f ps T As l = true) : eqF st ps T As (l :: ls) f = false := by
  simp only [eqF]
  rw [if_neg h]
theorem eqF_true {st : (Int → Int) → Int → Int → Int → Int} {ps : List Int} {T : List Tm} {As : List At} {l : Lk} {ls : List Lk} {f : Int → Int} (h : rightB f ps T As l = true) : eqF st ps T As (l :: ls) f = eqF st ps T As ls (st f l.1 l.2.1) := by
  simp only [eqF]
  rw [if_pos h]
theorem drop_at {α : Type} {xs : List α} {i : Nat} {x : α} (h : xs[i]? = some x) : xs.drop i = x :: xs.drop (i + 1) := by
  obtain ⟨hi, rfl⟩ := List.getElem?_eq_some_iff.mp h
  exact List.drop_eq_getElem_cons hi
set_option maxHeartbeats 2000000 in
theorem ok_equal (F : Fun K "is_equal" "is_equal" s_is_equal f fd) (T : Txt K mg aK C CN CT CP CM) (G : TxG K mg CG) (many : mg "any" = none) (MK : Mk K CG fI) (mC : mg "Groups" = some (.ref CG)) (Bi : FnOk P w K mg base CX0 1 fI dI ["self"] (Gp.sp_init CG)) (bi : Binds K dI ["self"] [])
    (M : Meth K CG "merge" fM) (Bm : FnOk P w K mg base CX0 2 fM dM ["self", "one", "other"] (Gp.sp_merge CG)) (bm : Binds K dM ["self", "one", "other"] []) (mR : mg "is_right" = some (.ref fR)) (BR : FnOk P w K mg base CX0 4 fR dR' ["problem", "parts", "link", "groups"] (sp_right K C CG)) (bR : Binds K dR' ["problem", "parts", "link", "groups"] []) (kR : PySem.W.keepIn K (.ref fR) = true)
    (mJ : mg "says_joined" = some (.ref fJ)) (BJ : FnOk P w K mg base CX0 3 fJ dJ ["problem", "part", "groups"] (sp_says K C CG)) (bJ : Binds K dJ ["problem", "part", "groups"] []) (kJ : PySem.W.keepIn K (.ref fJ) = true) : FnOk P w K mg base CX0 5 f fd ["problem", "parts", "links"] (sp_equal K C) := by
  refine F.ok sc_is_equal (fun vs H Q E h => ?_) (fun cdv A outer s H vs Q E hr h => ?_)
  · obtain ⟨p, tl, al, rl, q, l, T', As, Rs, ps, xs, ls, rfl, _⟩ := h
    rfl
  obtain ⟨p, tl, al, rl, q, l, T', As, Rs, ps, xs, ls, rfl, S, hq, p1000, hl, hL, hin, l1000, Q0⟩ := h
  have xl : xs.length = ls.length := by rw [← hL.length, List.length_map]
  have hr1 : Room 2 _ := hr.mono (by decide)
  have hr2 : Room 2 _ := hr.mono (by decide)
  have hr3 : Room 3 _ := hr.mono (by decide)
  refine ⟨_, (pss_cons (ps_set (i := 3) sc_is_equal.nd rfl (Or.inr rfl) (pe_make0 MK Bi hr1 rfl mC bi .nil pass0))
    (pss_cons (ps_for PassesOwn.never rfl (pi_tup (pv 2)) (pg_name (i := 4) sc_is_equal.nd rfl (Or.inl rfl))
      (pss_cons (ps_if (pt_not (pt_val (pe_call BR hr rfl mR kR bR .nil pass0 (pa_cons (pv 0) (pa_cons (pv 1) (pa_cons (pv 4) (pa_cons (pv 3) pa_nil)))))))
          (pss_one (ps_ret pe_bl))
          pss_nil)
        (pss_one (ps_expr (pe_meth (pv 3) G.cl M Bm hr2 bm .nil pass0 (pa_cons (pe_ix ix_tup (pv 4) pe_int (fun _ _ => rfl)) (pa_cons (pe_ix ix_tup (pv 4) pe_int (fun _ _ => rfl)) pa_nil)))))))
    (pss_one (ps_ret (pe_callB (call_any_bools rfl) rfl many PyProof.Rows.Boot.any (pa_cons (pe_lc (N' := ["part", "problem", "groups"]) (ix := [0, 3]) rfl rfl (by decide +kernel) (by decide +kernel) rfl (fun ok => clo_of (sc := defScope s_is_equal) ok rfl (by decide +kernel) (by decide +kernel)) (by decide +kernel) rfl rfl (fun j i h => match j, h with | 0, h => by cases h; exact ⟨_, rfl, rfl, .inl rfl, .inl rfl⟩ | 1, h => by cases h; exact ⟨_, rfl, rfl, .inl rfl, .inl rfl⟩ | n + 2, h => by simp at h) (pi_tup (pv 1)) (fun _ _ _ _ => (pe_call BJ hr3 rfl mJ kJ bJ .nil pass0 (pa_cons (pv 1) (pa_cons (pv 0) (pa_cons (pv 2) pa_nil)))))) pa_nil)))))), ?_⟩
  intro g dx ng ndx nex
  have s0 : ∀ b o, H b = some o → (upd (upd H dx (.own g)) g (.ins CG dx [])) b = some o := fun b o h => by
    rw [upd_ne (fun e => by rw [e, ng] at h; cases h), upd_ne (fun e => by rw [e, ndx] at h; cases h)]
    exact h
  have hg0 := upd_same (H := upd H dx (.own g)) (a := g) (o := .ins CG dx [])
  have f0 : ∀ b, (upd (upd H dx (.own g)) g (.ins CG dx [])) b = none → H b = none := fun b h => by
    cases e : H b with
    | none => rfl
    | some o => rw [s0 b o e] at h; cases h
  generalize upd (upd H dx (.own g)) g (.ins CG dx []) = H0 at s0 hg0 f0
  refine ⟨g, dx, rfl, hg0, fun H1 ld gd k1 nl ngd ne hg1 hl1 hgd1 => ⟨rfl, ?_⟩⟩
  have s1 : Same H H1 := fun b o h => k1 b o (fun e => by rw [e, ng] at h; cases h) (s0 b o h)
  have G1 : GO H1 CG g ld gd T'.length 0 id [] := ⟨Hd.zero T'.length, ne, dx, [], [], hg1, hl1, hgd1, fun t => rfl, fun x _ => ⟨[x], by simp, fun t => by simp, .inl ⟨rfl, rfl⟩⟩, Nat.zero_le _, Nat.zero_le _⟩
  have nld : H ld = none := f0 ld nl
  have ngd' : H gd = none := f0 gd ngd
  refine ⟨_, rfl, l, rfl, ⟨_, s1.tup hl⟩, for_by (wk_tup (xs := xs)) (fun i σ H' => ∃ (v4 : Option V) (hd : Int → Int), σ = [some (.ref p), some (.ref q), some (.ref l), some (.ref g), v4] ∧ Same H H' ∧ GO H' CG g ld gd T'.length i hd [] ∧ eqF mrg ps T' As ls id = eqF mrg ps T' As (ls.drop i) hd) (fun i σ H' ⟨_, _, _, s2, _⟩ => s2.tup hl) ⟨none, id, rfl, s1, G1, rfl⟩ ?_ ?_⟩
  · rintro i σ H9 x H2 hi ⟨v4, hd, rfl, s2, G2, eF⟩ ⟨rfl, hx⟩
    obtain ⟨lk, pl, hlk, rfl, hp⟩ := dL_at hL (hx _ (s2.tup hl))
    have hp2 := s2.tup hp
    have lin := hin lk (List.mem_of_getElem? hlk)
    rw [drop_at hlk] at eF
    refine ⟨_, rfl, _, rfl, _, rfl, _, rfl, p, tl, al, rl, q, pl, g, ld, gd, T', As, Rs, ps, lk, T'.length, i, hd, [], rfl, S.same s2, .inr (s2.tup hq), hp2, lin, G2, fun H3 s3 => ⟨_, rfl, ?_⟩⟩
    refine ite2 (fun c => ?_) (fun c => ?_)
    · have c' : ¬ rightB hd ps T' As lk = true := fun z => by rw [z] at c; cases c
      have := Q0 H3 (s2.trans s3)
      rw [eF, eqF_false c'] at this
      exact this
    · have c' : rightB hd ps T' As lk = true := by
        cases z : rightB hd ps T' As lk with
        | true => rfl
        | false => exact absurd (by rw [z]; rfl) c
      rw [eqF_true c'] at eF
      have G3 := G2.same s3
      obtain ⟨dx3, kl3, kg3, e3, _⟩ := id G3.ex
      have hp3 := s3.tup hp2
      refine ⟨_, rfl, g, dx3, _, rfl, e3, rfl, _, rfl, pl, _, _, _, rfl, rfl, hp3, l0 lk, _, rfl, pl, _, _, _, rfl, rfl, hp3, l1 lk, g, ld, gd, lk.1, lk.2.1, T'.length, i, hd, [], rfl, G3, lin.1, lin.2.1, S.tN, by omega, (fun a ha => nomatch ha), fun H4 s4 G4 => ?_⟩
      exact ⟨_, _, rfl, (s2.trans s3).ofG nld ngd' s4, G4, eF⟩
  · rintro σ H2 ⟨v4, hd, rfl, s2, G2, eF⟩
    rw [xl, List.drop_length] at eF
    have eF' : eqF mrg ps T' As ls id = (ps.map (saysB hd As)).any id := eF
    refine ⟨_, rfl, q, rfl, ⟨_, s2.tup hq⟩, fun D hD => lc_by wk_tup (fun i us H' => Same H2 H' ∧ us = ((ps.take i).map (saysB hd As)).map V.bl) (fun i us H' ⟨s4, _⟩ => (s2.trans s4).tup hq) ⟨sameNew hD _, rfl⟩ ?_ ?_⟩
    · rintro i us H8 z H4 hi hly hDs ⟨s4, rfl⟩ ⟨rfl, hx⟩
      obtain ⟨k, hk, rfl⟩ := ints_at (hx _ ((s2.trans s4).tup hq))
      refine ⟨_, rfl, _, rfl, _, rfl, p, tl, al, rl, g, ld, gd, T', As, Rs, k, _, _, hd, [], rfl, (S.same (s2.trans s4)).pr, G2.same s4, fun H5 s5 => lc_post (sz _ (by rw [List.length_map]; exact p1000)) hi hly (s5 _ _ hDs) ⟨(s4.trans s5).upd hD, ?_⟩⟩
      rw [take_snoc hk, List.map_append, List.map_append]
      rfl
    rintro us H4 hDs ⟨s4, rfl⟩
    refine ⟨D, _, rfl, SqL.of hDs, ?_⟩
    rw [List.length_map, List.take_of_length_le (Nat.le_refl _), ← eF']
    exact Q0 H4 (s2.trans s4)
end
end K34

/-! law k34: the law's own words. Behind K34g. -/
namespace K34
open PySem L2
/-! when a line is right: the law's own words -/
section
variable {P : Program} {w : World} {K : PySem.W.Frag} {mg : Str → Option Value} {base : Heap} {aK C CN CT CP CM CG : Addr} {f fA fM fR : Addr} {fd dA' dM dR' : FuncData}
/-- a walk over the numbers -/
def SeqJ (J : It) (ps : List Int) (H : Hp) : Prop := ∃ Ok : Hp → Prop, Wk J ps.length Ok ∧ (∀ H', Same H H' → Ok H') ∧ ∀ i H' x H'', Same H H' → J.yld i H' x H'' → H'' = H' ∧ ∃ k, ps[i]? = some k ∧ x = .int k
theorem seqJ_list {H : Hp} {a : Addr} {ps : List Int} (hq : SqL K H a (ps.map V.int)) : SeqJ (Itl K a) ps H := by
  refine ⟨fun H' => SqL K H' a (ps.map V.int), ?_, fun H' s => s.seq hq, ?_⟩
  · have := wk_list (K := K) (a := a) (xs := ps.map V.int)
    rw [List.length_map] at this
    exact this
  · rintro i H' x H'' s ⟨rfl, hx⟩
    exact ⟨rfl, ints_at (hx _ (s.seq hq))⟩
theorem seqJ_tup {H : Hp} {a : Addr} {ps : List Int} (hq : SqT K H a (ps.map V.int)) : SeqJ (Itt K a) ps H := by
  refine ⟨fun H' => SqT K H' a (ps.map V.int), ?_, fun H' s => s.tup hq, ?_⟩
  · have := wk_tup (K := K) (a := a) (xs := ps.map V.int)
    rw [List.length_map] at this
    exact this
  · rintro i H' x H'' s ⟨rfl, hx⟩
    exact ⟨rfl, ints_at (hx _ (s.tup hq))⟩
def iSeqI (K : PySem.W.Frag) (tl : TE) : L2.TI := fun σ H R => tl σ H fun x H1 => ∃ a ps, x = .ref a ∧ SqI K H1 a ps ∧ ∀ J, SeqJ J ps H1 → R J H1
theorem pi_seqI {X : Cx} {tg l : Expr} {tl : TE} (hl : PE X l tl) : PI X tg l (iSeqI X.K tl) := by
  intro pins s σ H R I h
  refine thn (hl pins s σ H _ I h) fun v s1 ⟨x, H1, I1, r1, q1⟩ => ?_
  obtain ⟨a, ps, rfl, hq, q⟩ := q1
  cases r1
  have fp : ∀ b ∈ [s1.heap.objs.size], FpOk X pins H1 b := fun b hb => by
    have e : b = s1.heap.objs.size := by simpa using hb
    subst e
    exact I1.fpOk (Nat.le_refl _) (I1.hok.fresh (Nat.le_refl _))
  rcases hq with hq | hq
  · obtain ⟨its, rv, p, hz⟩ := I1.list hq
    refine wpAny_pyIter_list p.isList ?_
    exact ⟨s1.heap.objs.size, [s1.heap.objs.size], _, _, H1, rfl, I1.kept (t' := s1.toks) fun b o e => Heap.get?_push_of_some _ e, turn_list a _, ⟨_, Heap.get?_push_size _ rfl, rfl, rfl⟩, fp, q _ (seqJ_list hq)⟩
  · obtain ⟨its, rv, p, hz⟩ := I1.tuple hq
    refine wpAny_pyIter_tuple (show s1.heap.IsTuple a its.toArray from p) ?_
    exact ⟨s1.heap.objs.size, [s1.heap.objs.size], _, _, H1, rfl, I1.kept (t' := s1.toks) fun b o e => Heap.get?_push_of_some _ e, turn_tuple a _, ⟨_, Heap.get?_push_size _ rfl, rfl, rfl⟩, fp, q _ (seqJ_tup hq)⟩
def rf (rs : List Int) (t : Int) : Int := rs.getD t.toNat 0
theorem at_rf {rs : List Int} {t : Int} (h : InR rs.length t) : atI (rs.map V.int) t = some (.int (rf rs t)) := by
  obtain ⟨h0, h1⟩ := h
  have e : t = ((t.toNat : Nat) : Int) := by omega
  have : rs[t.toNat]? = some (rf rs t) := by
    unfold rf
    rw [List.getD_eq_getElem?_getD, List.getElem?_eq_getElem (by omega)]
    rfl
  have q := atI_ints this
  rw [← e] at q
  exact q
def mergeL (rs : List Int) (a b : Int) : List Int := rs.map fun h => if h = rf rs a then rf rs b else h
theorem mergeL_len (rs : List Int) (a b : Int) : (mergeL rs a b).length = rs.length := by unfold mergeL; rw [List.length_map]
def sp_lmerged (K : PySem.W.Frag) : Sp := fun vs H Q _ => ∃ (r : Addr) (rs : List Int) (a b : Int), vs = [.ref r, .int a, .int b] ∧ SqL K H r (rs.map V.int) ∧ InR rs.length a ∧ InR rs.length b ∧ rs.length ≤ 1000 ∧ ∀ (H' : Hp) (l : Addr), Same H H' → H l = none → H' l = some (.lst ((mergeL rs a b).map V.int)) → Q (.ref l) H'
theorem sc__law_merged : FnScope ["_law_roots", "_law_one", "_law_other"] ["_law_roots", "_law_one", "_law_other"] (defScope s__law_merged) := ⟨rfl, rfl, rfl, by decide +kernel, rfl, by decide +kernel, by decide +kernel⟩
set_option maxHeartbeats 1000000 in
theorem ok_lmerged (F : Fun K "_law_merged" "_law_merged" s__law_merged f fd) : FnOk P w K mg base CX0 1 f fd ["_law_roots", "_law_one", "_law_other"] (sp_lmerged K) := by
  refine F.ok sc__law_merged (fun vs H Q E h => ?_) (fun cdv A outer s H vs Q E hr h => ?_)
  · obtain ⟨r, rs, a, b, rfl, _⟩ := h
    rfl
  obtain ⟨r, rs, a, b, rfl, hR, ha, hb, r1000, q⟩ := h
  refine ⟨_, (pss_one (ps_ret (pe_lc (N' := ["_law_head", "_law_roots", "_law_other", "_law_one"]) (ix := [0, 2, 1]) rfl rfl (by decide +kernel) (by decide +kernel) rfl (fun ok => clo_of (sc := defScope s__law_merged) ok rfl (by decide +kernel) (by decide +kernel)) (by decide +kernel) rfl rfl (fun j i h => match j, h with | 0, h => by cases h; exact ⟨_, rfl, rfl, .inl rfl, .inl rfl⟩ | 1, h => by cases h; exact ⟨_, rfl, rfl, .inl rfl, .inl rfl⟩ | 2, h => by cases h; exact ⟨_, rfl, rfl, .inl rfl, .inl rfl⟩ | n + 3, h => by simp at h) (pi_list (pv 0)) (fun _ _ _ _ => (pe_ifExp (pt_cmpR op_eq (pv 0) (pe_ix (r := rIxL K) ix_list (pv 1) (pv 3) (fun _ _ => rfl)) (nomark _)) (pe_ix (r := rIxL K) ix_list (pv 1) (pv 2) (fun _ _ => rfl)) (pv 0)))))), ?_⟩
  refine ⟨_, rfl, r, rfl, ⟨_, hR⟩, fun D hD => lc_by wk_list (fun i us H' => Same H H' ∧ us = (((rs.take i).map fun h => if h = rf rs a then rf rs b else h)).map V.int) (fun i us H' ⟨s4, _⟩ => s4.seq hR) ⟨sameNew hD _, rfl⟩ ?_ ?_⟩
  · rintro i us H8 z H4 hi hly hDs ⟨s4, rfl⟩ ⟨rfl, hx⟩
    obtain ⟨k, hk, rfl⟩ := ints_at (hx _ (s4.seq hR))
    refine ⟨_, rfl, _, rfl, _, rfl, r, _, _, _, rfl, rfl, s4.seq hR, at_rf ha, rfl, _, rfl, ite2 (fun c => ?_) (fun c => ?_)⟩
    · have c' : k = rf rs a := by have := of_decide_eq_true c; injection this
      refine ⟨_, rfl, _, rfl, r, _, _, _, rfl, rfl, s4.seq hR, at_rf hb, lc_post (sz _ (by rw [List.length_map]; exact r1000)) hi hly hDs ⟨s4.upd hD, ?_⟩⟩
      rw [take_snoc hk, List.map_append, List.map_append]
      simp only [List.map_cons, List.map_nil, if_pos c']
    · have c' : ¬ k = rf rs a := fun z => c (by rw [z]; exact decide_eq_true rfl)
      refine ⟨_, rfl, lc_post (sz _ (by rw [List.length_map]; exact r1000)) hi hly hDs ⟨s4.upd hD, ?_⟩⟩
      rw [take_snoc hk, List.map_append, List.map_append]
      simp only [List.map_cons, List.map_nil, if_neg c']
  rintro us H4 hDs ⟨s4, rfl⟩
  rw [List.length_map, List.take_of_length_le (Nat.le_refl _)] at hDs
  exact q H4 D s4 hD hDs
theorem peqs_ints (xs ys : List Int) : peqs (xs.map Dt.int) (ys.map Dt.int) = decide (xs = ys) := by
  by_cases h : xs = ys
  · subst h
    rw [decide_eq_true rfl]
    exact peqs_refl _
  · rw [decide_eq_false h, Bool.eq_false_iff]
    intro z
    have := peqs_eq _ _ (nobs_ints xs) (nobs_ints ys) z
    exact h (List.map_inj_right (f := Dt.int) (fun a b e => by injection e) |>.mp this)
theorem zip_all (g : Int → Int) : ∀ (xs ys : List Int), xs.length = ys.length → decide (xs.map g = ys.map g) = (xs.zip ys).all fun xy => decide (g xy.1 = g xy.2)
  | [], [], _ => rfl
  | [], _ :: _, h => by cases h
  | _ :: _, [], h => by cases h
  | x :: xs, y :: ys, h => by
    have ih := zip_all g xs ys (by simpa using h)
    rw [List.zip_cons_cons, List.all_cons, ← ih]
    by_cases c : g x = g y
    · by_cases d : xs.map g = ys.map g
      · simp [c, d]
      · simp [c, d]
    · simp [c]
def sp_lalike (K : PySem.W.Frag) : Sp := fun vs H Q _ => ∃ (tl r : Addr) (xs : List V) (T : List Tm) (rs : List Int) (a b : Int), vs = [.ref tl, .ref r, .int a, .int b] ∧ SqL K H tl xs ∧ HasL K H (T.map dT) xs ∧ (∀ t ∈ T, ∀ q ∈ t.2, InR T.length q) ∧ (∀ t ∈ T, t.2.length ≤ 1000) ∧ SqL K H r (rs.map V.int) ∧ rs.length = T.length ∧ InR T.length a ∧ InR T.length b ∧ ∀ H', Same H H' → Q (.bl (alikeB (rf rs) T a b)) H'
theorem sc__law_alike : FnScope ["_law_terms", "_law_roots", "_law_one", "_law_other", "_law_first", "_law_second"] ["_law_terms", "_law_roots", "_law_one", "_law_other"] (defScope s__law_alike) := ⟨rfl, rfl, rfl, by decide +kernel, rfl, by decide +kernel, by decide +kernel⟩
set_option maxHeartbeats 1000000 in
theorem ok_lalike (F : Fun K "_law_alike" "_law_alike" s__law_alike f fd) (T : Txt K mg aK C CN CT CP CM) : FnOk P w K mg base CX0 1 f fd ["_law_terms", "_law_roots", "_law_one", "_law_other"] (sp_lalike K) := by
  refine F.ok sc__law_alike (fun vs H Q E h => ?_) (fun cdv A outer s H vs Q E hr h => ?_)
  · obtain ⟨tl, r, xs, T', rs, a, b, rfl, _⟩ := h
    rfl
  obtain ⟨tl, r, xs, T', rs, a, b, rfl, ht, hT, dm, t1000, hR, rl, r1, r2, q⟩ := h
  have hu := hu64 hr
  have xl : xs.length = T'.length := by rw [← hT.length, List.length_map]
  refine ⟨_, (pss_cons (ps_set (i := 4) sc__law_alike.nd rfl (Or.inl rfl) (pe_ix ix_list (pv 0) (pv 2) (fun _ _ => rfl)))
    (pss_cons (ps_set (i := 5) sc__law_alike.nd rfl (Or.inl rfl) (pe_ix ix_list (pv 0) (pv 3) (fun _ _ => rfl)))
    (pss_cons (ps_if (PW.pt (pw_or (pt_cmpR op_ne (pe_ix ix_tup (pv 4) pe_int (fun _ _ => rfl)) (pe_ix ix_tup (pv 5) pe_int (fun _ _ => rfl)) (nomark _)) (pw_or1 (pt_cmpR op_ne (pe_callB call_len_seq rfl T.len PySem.boot_len (pa_cons (pe_ix ix_tup (pv 4) pe_int (fun _ _ => rfl)) pa_nil)) (pe_callB call_len_seq rfl T.len PySem.boot_len (pa_cons (pe_ix ix_tup (pv 5) pe_int (fun _ _ => rfl)) pa_nil)) (nomark _)))))
      (pss_one (ps_ret pe_bl))
      pss_nil)
    (pss_one (ps_ret (pe_cmpR (op_eqD hu) (pe_lc (N' := ["_law_part", "_law_roots"]) (ix := [1]) rfl rfl (by decide +kernel) (by decide +kernel) rfl (fun ok => clo_of (sc := defScope s__law_alike) ok rfl (by decide +kernel) (by decide +kernel)) (by decide +kernel) rfl rfl (fun j i h => match j, h with | 0, h => by cases h; exact ⟨_, rfl, rfl, .inl rfl, .inl rfl⟩ | n + 1, h => by simp at h) (pi_tup (pe_ix ix_tup (pv 4) pe_int (fun _ _ => rfl))) (fun _ _ _ _ => (pe_ix (r := rIxL K) ix_list (pv 1) (pv 0) (fun _ _ => rfl)))) (pe_lc (N' := ["_law_part", "_law_roots"]) (ix := [1]) rfl rfl (by decide +kernel) (by decide +kernel) rfl (fun ok => clo_of (sc := defScope s__law_alike) ok rfl (by decide +kernel) (by decide +kernel)) (by decide +kernel) rfl rfl (fun j i h => match j, h with | 0, h => by cases h; exact ⟨_, rfl, rfl, .inl rfl, .inl rfl⟩ | n + 1, h => by simp at h) (pi_tup (pe_ix ix_tup (pv 5) pe_int (fun _ _ => rfl))) (fun _ _ _ _ => (pe_ix (r := rIxL K) ix_list (pv 1) (pv 0) (fun _ _ => rfl)))) rfl)))))), ?_⟩
  obtain ⟨x, x1, x2⟩ := at_num (xs := xs) (i := a) r1.1 (by rw [xl]; exact r1.2)
  obtain ⟨y, y1, y2⟩ := at_num (xs := xs) (i := b) r2.1 (by rw [xl]; exact r2.2)
  obtain ⟨t, qa, ra, ta, rfl, ha, hra⟩ := hasT_at hT x1
  obtain ⟨u, qb, rb, ua, rfl, hb, hrb⟩ := hasT_at hT y1
  have et : tG T' a = t := by have := (tG_mem r1).1; rw [ta] at this; cases this; rfl
  have eu : tG T' b = u := by have := (tG_mem r2).1; rw [ua] at this; cases this; rfl
  have tm := List.mem_of_getElem? ta
  have um := List.mem_of_getElem? ua
  unfold alikeB at q
  rw [et, eu] at q
  refine ⟨_, rfl, _, rfl, tl, _, _, _, rfl, rfl, ht, x2, ?_⟩
  refine ⟨_, rfl, _, rfl, tl, _, _, _, rfl, rfl, ht, y2, ?_⟩
  have a0 : ∀ (z : Str) (r : Addr), atI [V.str z, V.ref r] 0 = some (.str z) := fun z r => atI_nat (j := 0) rfl
  have a1 : ∀ (z : Str) (r : Addr), atI [V.str z, V.ref r] 1 = some (.ref r) := fun z r => atI_nat (j := 1) rfl
  refine ⟨_, rfl, qa, _, _, _, rfl, rfl, ha, a0 _ _, _, rfl, qb, _, _, _, rfl, rfl, hb, a0 _ _, rfl, _, rfl, ite2 (fun c => iteT ?_) (fun c => ⟨_, rfl, qa, _, _, _, rfl, rfl, ha, a1 _ _, ra, _, rfl, .inr hra, _, rfl, qb, _, _, _, rfl, rfl, hb, a1 _ _, rb, _, rfl, .inr hrb, rfl, _, rfl, ite2 (fun c2 => ?_) (fun c2 => ?_)⟩)⟩
  · have := q H (Same.refl H)
    rw [decide_eq_false (fun z : t.1 = u.1 => by rw [z] at c; simp at c)] at this
    exact this
  · have := q H (Same.refl H)
    rw [decide_eq_false (p := t.2.length = u.2.length) (fun z => by simp [z] at c2)] at this
    rw [Bool.false_and, Bool.and_false] at this
    exact this
  have n1 : t.1 = u.1 := by
    apply Classical.byContradiction
    intro z
    exact c (by simp [z])
  have n2 : t.2.length = u.2.length := by
    apply Classical.byContradiction
    intro z
    exact c2 (by simp; omega)
  rw [decide_eq_true n1, decide_eq_true n2, Bool.true_and, Bool.true_and, ← zip_all (rf rs) _ _ n2] at q
  refine ⟨_, rfl, qa, _, _, _, rfl, rfl, ha, a1 _ _, ra, rfl, ⟨_, hra⟩, fun D hD => lc_by wk_tup (fun i us H' => Same H H' ∧ us = ((t.2.take i).map (rf rs)).map V.int) (fun i us H' ⟨s4, _⟩ => s4.tup hra) ⟨sameNew hD _, rfl⟩ ?_ ?_⟩
  · rintro i us H8 z H4 hi hly hDs ⟨s4, rfl⟩ ⟨rfl, hx⟩
    obtain ⟨k, hk, rfl⟩ := ints_at (hx _ (s4.tup hra))
    have kin := dm t tm k (List.mem_of_getElem? hk)
    refine ⟨_, rfl, _, rfl, r, _, _, _, rfl, rfl, s4.seq hR, at_rf (by rw [rl]; exact kin), lc_post (sz _ (by rw [List.length_map]; exact t1000 t tm)) hi hly hDs ⟨s4.upd hD, ?_⟩⟩
    rw [take_snoc hk, List.map_append, List.map_append]
    rfl
  rintro us H4 hDs ⟨s4, rfl⟩
  rw [List.length_map, List.take_of_length_le (Nat.le_refl _)] at hDs
  refine ⟨_, rfl, qb, _, _, _, rfl, rfl, s4.tup hb, a1 _ _, rb, rfl, ⟨_, s4.tup hrb⟩, fun D2 hD2 => lc_by wk_tup (fun i us H' => Same H4 H' ∧ us = ((u.2.take i).map (rf rs)).map V.int) (fun i us H' ⟨s5, _⟩ => s5.tup (s4.tup hrb)) ⟨sameNew hD2 _, rfl⟩ ?_ ?_⟩
  · rintro i us H8 z H5 hi hly hDs2 ⟨s5, rfl⟩ ⟨rfl, hx⟩
    obtain ⟨k, hk, rfl⟩ := ints_at (hx _ (s5.tup (s4.tup hrb)))
    have kin := dm u um k (List.mem_of_getElem? hk)
    refine ⟨_, rfl, _, rfl, r, _, _, _, rfl, rfl, s5.seq (s4.seq hR), at_rf (by rw [rl]; exact kin), lc_post (sz _ (by rw [List.length_map]; exact t1000 u um)) hi hly hDs2 ⟨s5.upd hD2, ?_⟩⟩
    rw [take_snoc hk, List.map_append, List.map_append]
    rfl
  rintro us H5 hDs2 ⟨s5, rfl⟩
  rw [List.length_map, List.take_of_length_le (Nat.le_refl _)] at hDs2
  refine ⟨_, _, Has.lst' (SqL.of (s5 _ _ hDs)) (HasL.ints _), Has.lst' (SqL.of hDs2) (HasL.ints _), (by simp only [dep, deps_ints]; decide), ?_⟩
  show Q (.bl (peqs ((t.2.map (rf rs)).map Dt.int) ((u.2.map (rf rs)).map Dt.int))) H5
  rw [peqs_ints]
  exact q H5 (s4.trans s5)
def PIn (m : Nat) (p : Int) : Prop := p ≠ 0 ∧ -(m : Int) ≤ p ∧ p ≤ (m : Int)
def rng0 (n : Nat) : List Int := (List.range n).map fun i : Nat => (i : Int)
theorem rng0_len (n : Nat) : (rng0 n).length = n := by simp [rng0]
end
end K34

/-! law k34: what the law draws: links. Behind K34h. -/
namespace K34
open PySem L2
/-! what the law draws: links -/
section
variable {P : Program} {w : World} {K : PySem.W.Frag} {mg : Str → Option Value} {base : Heap} {aK C CN CT CP CM CG : Addr} {f fA fM fN fC : Addr} {fd dA' dM dN dC : FuncData}
theorem Has.link {H : Hp} {a : Addr} {lk : Lk} (h : SqT K H a [.int lk.1, .int lk.2.1, .int lk.2.2]) : Has K H (dL lk) (.ref a) := Has.tup' h (.cons .int (.cons .int (.cons .int .nil)))
/-- the atom of a part -/
theorem atom_at {H : Hp} {As : List At} {ys : List V} {k : Int} (hA : HasL K H (As.map dA) ys) (h : PIn As.length k) : ∃ x a, atI ys ((if k < 0 then -k else k) - 1) = some x ∧ a ∈ As ∧ Has K H (dA a) x ∧ As[(((k.natAbs : Nat) : Int) - 1).toNat]? = some a := by
  obtain ⟨p0, p1, p2⟩ := h
  have yl : ys.length = As.length := by rw [← hA.length, List.length_map]
  have eabs : (if k < 0 then -k else k) = ((k.natAbs : Nat) : Int) := by split <;> omega
  obtain ⟨x, x1, x2⟩ := at_num (xs := ys) (i := ((k.natAbs : Nat) : Int) - 1) (by omega) (by omega)
  obtain ⟨a, ea, hax⟩ := hasA_at hA x1
  exact ⟨x, a, by rw [eabs]; exact x2, List.mem_of_getElem? ea, hax, ea⟩
def sp_next (K : PySem.W.Frag) (C : Addr) : Sp := fun vs H Q _ => ∃ (p tl al rl q r : Addr) (T : List Tm) (As : List At) (Rs : List (List Int)) (ps rs : List Int), vs = [.ref p, .ref q, .ref r] ∧ PrD K C H p tl al rl T As Rs ∧ SqI K H q ps ∧ (∀ k ∈ ps, PIn As.length k) ∧ SqL K H r (rs.map V.int) ∧ rs.length = T.length ∧ (∀ H', Same H H' → Q .non H') ∧ ∀ (H' : Hp) (l : Addr) (lk : Lk), Same H H' → SqT K H' l [.int lk.1, .int lk.2.1, .int lk.2.2] → LkIn T.length As.length lk → Q (.ref l) H'
theorem sc__law_next : FnScope ["_law_problem", "_law_parts", "_law_roots", "_law_part", "_law_atom", "_law_one", "_law_other"] ["_law_problem", "_law_parts", "_law_roots"] (defScope s__law_next) := ⟨rfl, rfl, rfl, by decide +kernel, rfl, by decide +kernel, by decide +kernel⟩
set_option maxHeartbeats 2000000 in
theorem ok_next (F : Fun K "_law_next" "_law_next" s__law_next f fd) (T : Txt K mg aK C CN CT CP CM) (mrange : mg "range" = none) (mabs : mg "abs" = none) (BA : FB P w K mg base CX0 1 "_law_alike" fA dA' ["_law_terms", "_law_roots", "_law_one", "_law_other"] (sp_lalike K)) : FnOk P w K mg base CX0 2 f fd ["_law_problem", "_law_parts", "_law_roots"] (sp_next K C) := by
  refine F.ok sc__law_next (fun vs H Q E h => ?_) (fun cdv A outer s H vs Q E hr h => ?_)
  · obtain ⟨p, tl, al, rl, q, r, T', As, Rs, ps, rs, rfl, _⟩ := h
    rfl
  obtain ⟨p, tl, al, rl, q, r, T', As, Rs, ps, rs, rfl, S, hq, pin, hR, rl', q0, q1⟩ := h
  refine ⟨_, (pss_cons (ps_for PassesOwn.never rfl (pi_seqI (pv 1)) (pg_name (i := 3) sc__law_next.nd rfl (Or.inl rfl))
      (pss_cons (ps_set (i := 4) sc__law_next.nd rfl (Or.inl rfl) (pe_ix ix_list (pe_fld (pv 0) rfl) (pe_op op_sub (pe_callB call_abs rfl mabs PyProof.Rows.Boot.abs (pa_cons (pv 3) pa_nil)) pe_int) (fun _ _ => rfl)))
        (pss_one (ps_if (PW.pt (pw_and (pt_cmpR op_lt (pv 3) pe_int (nomark _)) (pw_and (pt_cmpR op_eq (pe_ix ix_tup (pv 4) pe_int (fun _ _ => rfl)) pe_str (nomark _)) (pw_and1 (pt_cmpR op_ne (pe_ix ix_list (pv 2) (pe_ix ix_tup (pv 4) pe_int (fun _ _ => rfl)) (fun _ _ => rfl)) (pe_ix ix_list (pv 2) (pe_ix ix_tup (pv 4) pe_int (fun _ _ => rfl)) (fun _ _ => rfl)) (nomark _))))))
          (pss_one (ps_ret (pe_tup (pa_cons (pe_ix ix_tup (pv 4) pe_int (fun _ _ => rfl)) (pa_cons (pe_ix ix_tup (pv 4) pe_int (fun _ _ => rfl)) (pa_cons (pe_un un_neg (pv 3)) pa_nil))))))
          pss_nil))))
    (pss_cons (ps_for PassesOwn.never rfl (pi_range1 rfl mrange (pa_cons (pe_callB call_len_seq rfl T.len PySem.boot_len (pa_cons (pv 2) pa_nil)) pa_nil)) (pg_name (i := 5) sc__law_next.nd rfl (Or.inl rfl))
      (pss_one (ps_for PassesOwn.never rfl (pi_range1 rfl mrange (pa_cons (pv 5) pa_nil)) (pg_name (i := 6) sc__law_next.nd rfl (Or.inl rfl))
          (pss_one (ps_if (PW.pt (pw_and (pt_cmpR op_ne (pe_ix ix_list (pv 2) (pv 5) (fun _ _ => rfl)) (pe_ix ix_list (pv 2) (pv 6) (fun _ _ => rfl)) (nomark _)) (pw_and1 (pt_val (pe_call BA.ok hr rfl BA.m BA.kp BA.b .nil pass0 (pa_cons (pe_fld (pv 0) rfl) (pa_cons (pv 2) (pa_cons (pv 5) (pa_cons (pv 6) pa_nil)))))))))
              (pss_one (ps_ret (pe_tup (pa_cons (pv 5) (pa_cons (pv 6) (pa_cons pe_int pa_nil))))))
              pss_nil)))))
    (pss_one (ps_ret pe_non)))), ?_⟩
  obtain ⟨⟨dx, ho⟩, ⟨ts, ht, hT⟩, ⟨ys, ha, hA⟩, _⟩ := id S.pr
  have tN := S.tN
  refine ⟨_, rfl, q, ps, rfl, hq, fun J ⟨Ok, W, ok, yl'⟩ => for_by W (fun i σ H' => ∃ (v3 v4 : Option V), σ = [some (.ref p), some (.ref q), some (.ref r), v3, v4, none, none] ∧ H' = H) (fun i σ H' ⟨_, _, _, e⟩ => e ▸ ok _ (Same.refl _)) ⟨none, none, rfl, rfl⟩ ?_ ?_⟩
  · rintro i σ H9 x H3 hi ⟨v3, v4, rfl, rfl⟩ yy
    obtain ⟨rfl, k, hk, rfl⟩ := yl' _ _ _ _ (Same.refl _) yy
    have pk := pin k (List.mem_of_getElem? hk)
    obtain ⟨x, a, x2, am, hax, _⟩ := atom_at hA pk
    refine ⟨_, rfl, p, C, dx, _, _, rfl, ho, T.cl, T.nA, flds_atoms _ _ _, _, rfl, _, rfl, _, _, rfl, rfl, al, _, _, _, rfl, rfl, SqL.of ha, x2, ?_⟩
    refine ⟨_, rfl, _, _, rfl, rfl, _, rfl, ite2 (fun c => ?_) (fun c => iteF ⟨_, _, rfl, rfl⟩)⟩
    have c' : k < 0 := of_decide_eq_true c
    cases a with
    | plain z =>
      obtain ⟨qq, rfl, hqq⟩ := has_plain hax
      exact ⟨_, rfl, qq, _, _, _, rfl, rfl, hqq, atI_nat (j := 0) rfl, rfl, _, rfl, ite2 (fun c => absurd (of_decide_eq_true c) (by decide +kernel)) (fun c => iteF ⟨_, _, rfl, rfl⟩)⟩
    | same x y =>
      obtain ⟨qq, rfl, hqq⟩ := has_same hax
      obtain ⟨in1, in2⟩ := S.dm.am x y am
      have i1 := in1
      have i2 := in2
      rw [← rl'] at i1 i2
      refine ⟨_, rfl, qq, _, _, _, rfl, rfl, hqq, atI_nat (j := 0) rfl, rfl, _, rfl, ite2 (fun c => ⟨_, rfl, _, rfl, qq, _, _, _, rfl, rfl, hqq, atI_nat (j := 1) rfl, r, _, _, _, rfl, rfl, hR, at_rf i1, _, rfl, _, rfl, qq, _, _, _, rfl, rfl, hqq, atI_nat (j := 2) rfl, r, _, _, _, rfl, rfl, hR, at_rf i2, rfl, _, rfl, ite2 (fun c3 => ?_) (fun c3 => ⟨_, _, rfl, rfl⟩)⟩) (fun c => absurd (decide_eq_true rfl) c)⟩
      refine ⟨_, rfl, qq, _, _, _, rfl, rfl, hqq, atI_nat (j := 1) rfl, _, rfl, qq, _, _, _, rfl, rfl, hqq, atI_nat (j := 2) rfl, _, rfl, _, rfl, (by show 3 ≤ sizeLine; decide), fun l hl => ?_⟩
      obtain ⟨p0, p1, p2⟩ := pk
      exact q1 _ l (x, y, -k) (sameNew hl _) (SqT.of upd_same) ⟨in1, in2, by show 0 ≤ -k; omega, by show -k ≤ _; omega⟩
  · rintro σ H2 ⟨v3, v4, rfl, rfl⟩
    refine ⟨_, rfl, r, _, rfl, .inl hR, _, rfl, (by omega), (by rw [List.length_map]; omega), for_range (lo := 0) (n := (((rs.map V.int).length : Nat) : Int).toNat) (fun i σ H' => ∃ (v5 v6 : Option V), σ = [some (.ref p), some (.ref q), some (.ref r), v3, v4, v5, v6] ∧ Same H2 H') ⟨none, none, rfl, Same.refl _⟩ ?_ ?_⟩
    · rintro i σ H3 hi ⟨v5, v6, rfl, s3⟩
      rw [Int.toNat_natCast, List.length_map] at hi
      refine ⟨_, rfl, _, rfl, (by show -(2 ^ 62) ≤ (0 : Int) + (i : Nat); omega), (by show (0 : Int) + (i : Nat) < 2 ^ 62; omega), for_range (lo := 0) (n := ((0 : Int) + ((i : Nat) : Int)).toNat) (fun j σ H' => ∃ (v6 : Option V), σ = [some (.ref p), some (.ref q), some (.ref r), v3, v4, some (.int ((0 : Int) + ((i : Nat) : Int))), v6] ∧ Same H2 H') ⟨_, rfl, s3⟩ ?_ ?_⟩
      · rintro j σ H4 hj ⟨v6, rfl, s4⟩
        have ii : InR rs.length ((0 : Int) + ((i : Nat) : Int)) := ⟨by omega, by omega⟩
        have jj : InR rs.length ((0 : Int) + ((j : Nat) : Int)) := ⟨by omega, by omega⟩
        have hR4 := s4.seq hR
        refine ⟨_, rfl, _, rfl, r, _, _, _, rfl, rfl, hR4, at_rf ii, _, rfl, _, rfl, r, _, _, _, rfl, rfl, hR4, at_rf jj, rfl, _, rfl, ite2 (fun c => ?_) (fun c => iteF ⟨_, rfl, s4⟩)⟩
        rw [rl'] at ii jj
        refine ⟨_, rfl, p, C, dx, _, _, rfl, s4 _ _ ho, T.cl, T.nT, flds_terms _ _ _, _, rfl, _, rfl, _, rfl, tl, r, ts, T', rs, _, _, rfl, SqL.of (s4 _ _ ht), hT.keep s4.kt (nols_dTs _), S.dm.tm, S.t3, hR4, rl', ii, jj, fun H5 s5 => ⟨_, rfl, ite2 (fun c2 => ?_) (fun c2 => ⟨_, rfl, s4.trans s5⟩)⟩⟩
        refine ⟨_, rfl, _, rfl, (by show 3 ≤ sizeLine; decide), fun l hl => ?_⟩
        exact q1 _ l (0 + ((i : Nat) : Int), 0 + ((j : Nat) : Int), 0) ((s4.trans s5).trans (sameNew hl _)) (SqT.of upd_same) ⟨ii, jj, by show (0 : Int) ≤ 0; omega, by show (0 : Int) ≤ _; omega⟩
      · rintro σ H4 ⟨v6, rfl, s4⟩
        exact ⟨_, _, rfl, s4⟩
    · rintro σ H3 ⟨v5, v6, rfl, s3⟩
      exact q0 H3 s3
def sp_llinks (K : PySem.W.Frag) (C : Addr) : Sp := fun vs H Q _ => ∃ (p tl al rl q : Addr) (T : List Tm) (As : List At) (Rs : List (List Int)) (ps : List Int), vs = [.ref p, .ref q] ∧ PrD K C H p tl al rl T As Rs ∧ SqI K H q ps ∧ (∀ k ∈ ps, PIn As.length k) ∧ ∀ (H' : Hp) (l : Addr) (us : List V) (ls : List Lk), Same H H' → H l = none → H' l = some (.lst us) → HasL K H' (ls.map dL) us → (∀ lk ∈ ls, LkIn T.length As.length lk) → ls.length ≤ T.length → Q (.ref l) H'
theorem sc__law_links : FnScope ["_law_problem", "_law_parts", "_law_roots", "_law_bonds", "_law_step", "_law_link"] ["_law_problem", "_law_parts"] (defScope s__law_links) := ⟨rfl, rfl, rfl, by decide +kernel, rfl, by decide +kernel, by decide +kernel⟩
set_option maxHeartbeats 2000000 in
theorem ok_llinks (F : Fun K "_law_links" "_law_links" s__law_links f fd) (T : Txt K mg aK C CN CT CP CM) (mlist : mg "list" = none) (mrange : mg "range" = none) (BN : FB P w K mg base CX0 2 "_law_next" fN dN ["_law_problem", "_law_parts", "_law_roots"] (sp_next K C)) (BM : FB P w K mg base CX0 1 "_law_merged" fM dM ["_law_roots", "_law_one", "_law_other"] (sp_lmerged K)) : FnOk P w K mg base CX0 3 f fd ["_law_problem", "_law_parts"] (sp_llinks K C) := by
  refine F.ok sc__law_links (fun vs H Q E h => ?_) (fun cdv A outer s H vs Q E hr h => ?_)
  · obtain ⟨p, tl, al, rl, q, T', As, Rs, ps, rfl, _⟩ := h
    rfl
  obtain ⟨p, tl, al, rl, q, T', As, Rs, ps, rfl, S, hq, pin, Q0⟩ := h
  have hr1 : Room 1 _ := hr.mono (by decide)
  refine ⟨_, (pss_cons (ps_set (i := 2) sc__law_links.nd rfl (Or.inl rfl) (pe_callTy (call_list_rng rfl) rfl mlist PyProof.Rows.Boot.list (pa_cons (pe_range1 rfl mrange (pa_cons (pe_callB call_len_seq rfl T.len PySem.boot_len (pa_cons (pe_fld (pv 0) rfl) pa_nil)) pa_nil)) pa_nil)))
    (pss_cons (ps_set (i := 3) sc__law_links.nd rfl (Or.inl rfl) (pe_lst pa_nil))
    (pss_cons (ps_for PassesOwn.never rfl (pi_range1 rfl mrange (pa_cons (pe_callB call_len_seq rfl T.len PySem.boot_len (pa_cons (pv 2) pa_nil)) pa_nil)) (pg_name (i := 4) sc__law_links.nd rfl (Or.inl rfl))
      (pss_cons (ps_set (i := 5) sc__law_links.nd rfl (Or.inl rfl) (pe_call BN.ok hr rfl BN.m BN.kp BN.b .nil pass0 (pa_cons (pv 0) (pa_cons (pv 1) (pa_cons (pv 2) pa_nil)))))
        (pss_cons (ps_if (pt_cmpR op_isN (pv 5) pe_non (nomark _))
          (pss_one (ps_ret (pv 3)))
          pss_nil)
        (pss_cons (ps_expr (pe_bm PySem.F.plainAttrs_list PySem.F.slot_list_append PySem.F.type_list_append mt_append (pv 3) (pa_cons (pv 5) pa_nil)))
        (pss_one (ps_set (i := 2) sc__law_links.nd rfl (Or.inl rfl) (pe_call BM.ok hr1 rfl BM.m BM.kp BM.b .nil pass0 (pa_cons (pv 2) (pa_cons (pe_ix ix_tup (pv 5) pe_int (fun _ _ => rfl)) (pa_cons (pe_ix ix_tup (pv 5) pe_int (fun _ _ => rfl)) pa_nil))))))))))
    (pss_one (ps_ret (pv 3)))))), ?_⟩
  obtain ⟨⟨dx, ho⟩, ⟨ts, ht, hT⟩, _⟩ := id S.pr
  have tl' : ts.length = T'.length := by rw [← hT.length, List.length_map]
  have tN := S.tN
  refine ⟨_, rfl, p, C, dx, _, _, rfl, ho, T.cl, T.nT, flds_terms _ _ _, tl, _, rfl, .inl (SqL.of ht), _, rfl, fun r0 hr0 => ?_⟩
  have s0 := sameNew hr0 (.rng 0 ((ts.length : Nat) : Int))
  have n0 := upd_same (H := H) (a := r0) (o := .rng 0 ((ts.length : Nat) : Int))
  generalize upd H r0 (.rng 0 ((ts.length : Nat) : Int)) = H0 at s0 n0
  refine ⟨r0, _, rfl, n0, (by omega), (by omega), fun r1 hr1' => ?_⟩
  have e0 : (((List.range (((ts.length : Nat) : Int)).toNat).map fun i : Nat => (i : Int)).map V.int) = (rng0 T'.length).map V.int := by
    rw [Int.toNat_natCast, tl']
    rfl
  rw [e0]
  have s1 := s0.trans (sameNew hr1' (.lst ((rng0 T'.length).map V.int)))
  have n1 := upd_same (H := H0) (a := r1) (o := .lst ((rng0 T'.length).map V.int))
  generalize upd H0 r1 (.lst ((rng0 T'.length).map V.int)) = H1 at s1 n1
  refine ⟨(by show 0 ≤ sizeLine; decide), fun l hl => ?_⟩
  have lH : H l = none := s1.free hl
  have s2 := s1.trans (sameNew hl (.lst []))
  have n2 := upd_same (H := H1) (a := l) (o := .lst [])
  have m2 := sameNew hl (.lst []) _ _ n1
  have nrl : r1 ≠ l := ne_of_none n1 hl
  generalize upd H1 l (.lst []) = H2 at s2 n2 m2
  refine ⟨_, rfl, r1, _, rfl, .inl (SqL.of m2), _, rfl, (by omega), (by rw [List.length_map, rng0_len]; omega), for_range (lo := 0) (n := ((((rng0 T'.length).map V.int).length : Nat) : Int).toNat) (fun i σ H' => ∃ (r : Addr) (rs : List Int) (v4 v5 : Option V) (us : List V) (ls : List Lk), σ = [some (.ref p), some (.ref q), some (.ref r), some (.ref l), v4, v5] ∧ Same H H' ∧ r ≠ l ∧ H' r = some (.lst (rs.map V.int)) ∧ rs.length = T'.length ∧ H' l = some (.lst us) ∧ HasL K H' (ls.map dL) us ∧ (∀ lk ∈ ls, LkIn T'.length As.length lk) ∧ ls.length = i) ⟨r1, _, none, none, [], [], rfl, s2, nrl, m2, rng0_len _, n2, HasL.nil, (fun _ h => nomatch h), rfl⟩ ?_ ?_⟩
  · rintro i σ H3 hi ⟨r, rs, v4, v5, us, ls, rfl, s3, nrl3, hr3, rl3, hl3, hL3, lin, li⟩
    rw [Int.toNat_natCast, List.length_map, rng0_len] at hi
    have ul : us.length = ls.length := by rw [← hL3.length, List.length_map]
    refine ⟨_, rfl, _, rfl, _, rfl, p, tl, al, rl, q, r, T', As, Rs, ps, rs, rfl, S.same s3, hq.same s3, pin, SqL.of hr3, rl3, fun H4 s4 => ?_, fun H4 b lk s4 hb lkin => ?_⟩
    · exact ⟨_, rfl, rfl, _, rfl, iteT ⟨_, rfl, Q0 H4 l us ls (s3.trans s4) lH (s4 _ _ hl3) (hL3.keep s4.kt (nols_dL _)) lin (by omega)⟩⟩
    · refine ⟨_, rfl, rfl, _, rfl, ite2 (fun c => absurd (of_decide_eq_true c) (by intro z; cases z)) (fun c => ?_)⟩
      have hl4 := s4 _ _ hl3
      have hL4 := hL3.keep s4.kt (nols_dL _)
      refine ⟨_, rfl, .inl ⟨rfl, _, SqL.of hl4⟩, _, rfl, l, _, _, rfl, rfl, hl4, small1000 (by omega), ?_⟩
      have kt := KeepT.lst (ys := us ++ [.ref b]) hl4
      have s5 := (s3.trans s4).upd (o := .lst (us ++ [.ref b])) lH
      have n5 := upd_same (H := H4) (a := l) (o := .lst (us ++ [.ref b]))
      have r5 : upd H4 l (.lst (us ++ [.ref b])) r = some (.lst (rs.map V.int)) := by rw [upd_ne nrl3]; exact s4 _ _ hr3
      have hb5 := kt.sq hb
      have hL5 : HasL K (upd H4 l (.lst (us ++ [.ref b]))) ((ls ++ [lk]).map dL) (us ++ [.ref b]) := by
        rw [List.map_append]
        exact HasL.append (hL4.keep kt (nols_dL _)) (HasL.one (Has.link hb5))
      generalize upd H4 l (.lst (us ++ [.ref b])) = H5 at s5 n5 r5 hb5 hL5
      refine ⟨_, rfl, _, rfl, b, _, _, _, rfl, rfl, hb5, l0 lk, _, rfl, b, _, _, _, rfl, rfl, hb5, l1 lk, r, rs, lk.1, lk.2.1, rfl, SqL.of r5, by rw [rl3]; exact lkin.1, by rw [rl3]; exact lkin.2.1, by omega, fun H6 r6 s6 f6 hr6 => ?_⟩
      refine ⟨r6, _, _, _, _, ls ++ [lk], rfl, s5.trans s6, (ne_of_none n5 f6).symm, hr6, by rw [mergeL_len]; exact rl3, s6 _ _ n5, hL5.keep s6.kt (nols_dL _), fun u hu => ?_, by simp [li]⟩
      rcases List.mem_append.mp hu with h | h
      · exact lin u h
      · rw [List.mem_singleton.mp h]; exact lkin
  · rintro σ H3 ⟨r, rs, v4, v5, us, ls, rfl, s3, nrl3, hr3, rl3, hl3, hL3, lin, li⟩
    rw [Int.toNat_natCast, List.length_map, rng0_len] at li
    exact ⟨_, rfl, Q0 H3 l us ls s3 lH hl3 hL3 lin (by omega)⟩
def sp_lclosed (K : PySem.W.Frag) (C : Addr) : Sp := fun vs H Q _ => ∃ (p tl al rl q : Addr) (T : List Tm) (As : List At) (Rs : List (List Int)) (ps : List Int), vs = [.ref p, .ref q] ∧ PrD K C H p tl al rl T As Rs ∧ SqI K H q ps ∧ (∀ k ∈ ps, PIn As.length k) ∧ ∀ (H' : Hp) (r : Addr) (rs : List Int), Same H H' → H' r = some (.lst (rs.map V.int)) → rs.length = T.length → Q (.ref r) H'
theorem sc__law_closed : FnScope ["_law_problem", "_law_parts", "_law_roots", "_law_step", "_law_bond"] ["_law_problem", "_law_parts"] (defScope s__law_closed) := ⟨rfl, rfl, rfl, by decide +kernel, rfl, by decide +kernel, by decide +kernel⟩
set_option maxHeartbeats 2000000 in
theorem ok_lclosed (F : Fun K "_law_closed" "_law_closed" s__law_closed f fd) (T : Txt K mg aK C CN CT CP CM) (mlist : mg "list" = none) (mrange : mg "range" = none) (BN : FB P w K mg base CX0 2 "_law_next" fN dN ["_law_problem", "_law_parts", "_law_roots"] (sp_next K C)) (BM : FB P w K mg base CX0 1 "_law_merged" fM dM ["_law_roots", "_law_one", "_law_other"] (sp_lmerged K)) : FnOk P w K mg base CX0 3 f fd ["_law_problem", "_law_parts"] (sp_lclosed K C) := by
  refine F.ok sc__law_closed (fun vs H Q E h => ?_) (fun cdv A outer s H vs Q E hr h => ?_)
  · obtain ⟨p, tl, al, rl, q, T', As, Rs, ps, rfl, _⟩ := h
    rfl
  obtain ⟨p, tl, al, rl, q, T', As, Rs, ps, rfl, S, hq, pin, Q0⟩ := h
  have hr1 : Room 1 _ := hr.mono (by decide)
  refine ⟨_, (pss_cons (ps_set (i := 2) sc__law_closed.nd rfl (Or.inl rfl) (pe_callTy (call_list_rng rfl) rfl mlist PyProof.Rows.Boot.list (pa_cons (pe_range1 rfl mrange (pa_cons (pe_callB call_len_seq rfl T.len PySem.boot_len (pa_cons (pe_fld (pv 0) rfl) pa_nil)) pa_nil)) pa_nil)))
    (pss_cons (ps_for PassesOwn.never rfl (pi_range1 rfl mrange (pa_cons (pe_callB call_len_seq rfl T.len PySem.boot_len (pa_cons (pv 2) pa_nil)) pa_nil)) (pg_name (i := 3) sc__law_closed.nd rfl (Or.inl rfl))
      (pss_cons (ps_set (i := 4) sc__law_closed.nd rfl (Or.inl rfl) (pe_call BN.ok hr rfl BN.m BN.kp BN.b .nil pass0 (pa_cons (pv 0) (pa_cons (pv 1) (pa_cons (pv 2) pa_nil)))))
        (pss_cons (ps_if (pt_cmpR op_isN (pv 4) pe_non (nomark _))
          (pss_one (ps_ret (pv 2)))
          pss_nil)
        (pss_one (ps_set (i := 2) sc__law_closed.nd rfl (Or.inl rfl) (pe_call BM.ok hr1 rfl BM.m BM.kp BM.b .nil pass0 (pa_cons (pv 2) (pa_cons (pe_ix ix_tup (pv 4) pe_int (fun _ _ => rfl)) (pa_cons (pe_ix ix_tup (pv 4) pe_int (fun _ _ => rfl)) pa_nil)))))))))
    (pss_one (ps_ret (pv 2))))), ?_⟩
  obtain ⟨⟨dx, ho⟩, ⟨ts, ht, hT⟩, _⟩ := id S.pr
  have tl' : ts.length = T'.length := by rw [← hT.length, List.length_map]
  have tN := S.tN
  refine ⟨_, rfl, p, C, dx, _, _, rfl, ho, T.cl, T.nT, flds_terms _ _ _, tl, _, rfl, .inl (SqL.of ht), _, rfl, fun r0 hr0 => ?_⟩
  have s0 := sameNew hr0 (.rng 0 ((ts.length : Nat) : Int))
  have n0 := upd_same (H := H) (a := r0) (o := .rng 0 ((ts.length : Nat) : Int))
  generalize upd H r0 (.rng 0 ((ts.length : Nat) : Int)) = H0 at s0 n0
  refine ⟨r0, _, rfl, n0, (by omega), (by omega), fun r1 hr1' => ?_⟩
  have e0 : (((List.range (((ts.length : Nat) : Int)).toNat).map fun i : Nat => (i : Int)).map V.int) = (rng0 T'.length).map V.int := by
    rw [Int.toNat_natCast, tl']
    rfl
  rw [e0]
  have s1 := s0.trans (sameNew hr1' (.lst ((rng0 T'.length).map V.int)))
  have n1 := upd_same (H := H0) (a := r1) (o := .lst ((rng0 T'.length).map V.int))
  generalize upd H0 r1 (.lst ((rng0 T'.length).map V.int)) = H1 at s1 n1
  refine ⟨_, rfl, r1, _, rfl, .inl (SqL.of n1), _, rfl, (by omega), (by rw [List.length_map, rng0_len]; omega), for_range (lo := 0) (n := ((((rng0 T'.length).map V.int).length : Nat) : Int).toNat) (fun i σ H' => ∃ (r : Addr) (rs : List Int) (v3 v4 : Option V), σ = [some (.ref p), some (.ref q), some (.ref r), v3, v4] ∧ Same H H' ∧ H' r = some (.lst (rs.map V.int)) ∧ rs.length = T'.length) ⟨r1, _, none, none, rfl, s1, n1, rng0_len _⟩ ?_ ?_⟩
  · rintro i σ H3 hi ⟨r, rs, v3, v4, rfl, s3, hr3, rl3⟩
    refine ⟨_, rfl, _, rfl, _, rfl, p, tl, al, rl, q, r, T', As, Rs, ps, rs, rfl, S.same s3, hq.same s3, pin, SqL.of hr3, rl3, fun H4 s4 => ?_, fun H4 b lk s4 hb lkin => ?_⟩
    · exact ⟨_, rfl, rfl, _, rfl, iteT ⟨_, rfl, Q0 H4 r rs (s3.trans s4) (s4 _ _ hr3) rl3⟩⟩
    · refine ⟨_, rfl, rfl, _, rfl, ite2 (fun c => absurd (of_decide_eq_true c) (by intro z; cases z)) (fun c => ?_)⟩
      refine ⟨_, rfl, _, rfl, b, _, _, _, rfl, rfl, hb, l0 lk, _, rfl, b, _, _, _, rfl, rfl, hb, l1 lk, r, rs, lk.1, lk.2.1, rfl, SqL.of (s4 _ _ hr3), by rw [rl3]; exact lkin.1, by rw [rl3]; exact lkin.2.1, by omega, fun H6 r6 s6 f6 hr6 => ?_⟩
      exact ⟨r6, _, _, _, rfl, (s3.trans s4).trans s6, hr6, by rw [mergeL_len]; exact rl3⟩
  · rintro σ H3 ⟨r, rs, v3, v4, rfl, s3, hr3, rl3⟩
    exact ⟨_, rfl, Q0 H3 r rs s3 hr3 rl3⟩
end
end K34

/-! law k34: what the law draws: the aim, spoilt links. Behind K34i. -/
namespace K34
open PySem L2
/-! what the law draws: the aim, spoilt links, parts -/
section
variable {P : Program} {w : World} {K : PySem.W.Frag} {mg : Str → Option Value} {base : Heap} {aK C CN CT CP CM CG : Addr} {f fA fM fN fC : Addr} {fd dA' dM dN dC : FuncData}
def sp_aim (K : PySem.W.Frag) (C : Addr) : Sp := fun vs H Q _ => ∃ (p tl al rl q : Addr) (T : List Tm) (As : List At) (Rs : List (List Int)) (ps : List Int), vs = [.ref p, .ref q] ∧ PrD K C H p tl al rl T As Rs ∧ SqI K H q ps ∧ (∀ k ∈ ps, PIn As.length k) ∧ 1 ≤ T.length ∧ ∀ (H' : Hp) (l : Addr) (lk : Lk), Same H H' → SqT K H' l [.int lk.1, .int lk.2.1, .int lk.2.2] → LkIn T.length As.length lk → Q (.ref l) H'
theorem sc__law_aim : FnScope ["_law_problem", "_law_parts", "_law_part"] ["_law_problem", "_law_parts"] (defScope s__law_aim) := ⟨rfl, rfl, rfl, by decide +kernel, rfl, by decide +kernel, by decide +kernel⟩
set_option maxHeartbeats 1000000 in
theorem ok_aim (F : Fun K "_law_aim" "_law_aim" s__law_aim f fd) (T : Txt K mg aK C CN CT CP CM) : FnOk P w K mg base CX0 1 f fd ["_law_problem", "_law_parts"] (sp_aim K C) := by
  refine F.ok sc__law_aim (fun vs H Q E h => ?_) (fun cdv A outer s H vs Q E hr h => ?_)
  · obtain ⟨p, tl, al, rl, q, T', As, Rs, ps, rfl, _⟩ := h
    rfl
  obtain ⟨p, tl, al, rl, q, T', As, Rs, ps, rfl, S, hq, pin, t1, Q0⟩ := h
  refine ⟨_, (pss_cons (ps_for PassesOwn.never rfl (pi_seqI (pv 1)) (pg_name (i := 2) sc__law_aim.nd rfl (Or.inl rfl))
      (pss_one (ps_if (PW.pt (pw_and (pt_cmpR op_gt (pv 2) pe_int (nomark _)) (pw_and1 (pt_cmpR op_eq (pe_ix ix_tup (pe_ix ix_list (pe_fld (pv 0) rfl) (pe_op op_sub (pv 2) pe_int) (fun _ _ => rfl)) pe_int (fun _ _ => rfl)) pe_str (nomark _)))))
          (pss_one (ps_ret (pe_op op_catT (pe_slice sl_tup (pe_ix ix_list (pe_fld (pv 0) rfl) (pe_op op_sub (pv 2) pe_int) (fun _ _ => rfl)) (po_some pe_int) po_none) (pe_tup (pa_cons (pv 2) pa_nil)))))
          pss_nil)))
    (pss_one (ps_ret (pe_tup (pa_cons pe_int (pa_cons pe_int (pa_cons pe_int pa_nil))))))), ?_⟩
  obtain ⟨⟨dx, ho⟩, _, ⟨ys, ha, hA⟩, _⟩ := id S.pr
  have yl : ys.length = As.length := by rw [← hA.length, List.length_map]
  refine ⟨_, rfl, q, ps, rfl, hq, fun J ⟨Ok, W, ok, yl'⟩ => for_by W (fun i σ H' => ∃ (v2 : Option V), σ = [some (.ref p), some (.ref q), v2] ∧ H' = H) (fun i σ H' ⟨_, _, e⟩ => e ▸ ok _ (Same.refl _)) ⟨none, rfl, rfl⟩ ?_ ?_⟩
  · rintro i σ H9 x H3 hi ⟨v2, rfl, rfl⟩ yy
    obtain ⟨rfl, k, hk, rfl⟩ := yl' _ _ _ _ (Same.refl _) yy
    obtain ⟨p0, p1, p2⟩ := pin k (List.mem_of_getElem? hk)
    refine ⟨_, rfl, _, _, rfl, rfl, _, rfl, ite2 (fun c => ?_) (fun c => iteF ⟨_, rfl, rfl⟩)⟩
    have c' : 0 < k := of_decide_eq_true c
    obtain ⟨x, x1, x2⟩ := at_num (xs := ys) (i := k - 1) (by omega) (by omega)
    obtain ⟨a, ea, hax⟩ := hasA_at hA x1
    have am := List.mem_of_getElem? ea
    cases a with
    | plain z =>
      obtain ⟨qq, rfl, hqq⟩ := has_plain hax
      exact ⟨_, rfl, p, C, dx, _, _, rfl, ho, T.cl, T.nA, flds_atoms _ _ _, _, rfl, _, _, rfl, rfl, al, _, _, _, rfl, rfl, SqL.of ha, x2, qq, _, _, _, rfl, rfl, hqq, atI_nat (j := 0) rfl, rfl, _, rfl, ite2 (fun c => absurd (of_decide_eq_true c) (by decide +kernel)) (fun c => ⟨_, rfl, rfl⟩)⟩
    | same x y =>
      obtain ⟨qq, rfl, hqq⟩ := has_same hax
      obtain ⟨in1, in2⟩ := S.dm.am x y am
      refine ⟨_, rfl, p, C, dx, _, _, rfl, ho, T.cl, T.nA, flds_atoms _ _ _, _, rfl, _, _, rfl, rfl, al, _, _, _, rfl, rfl, SqL.of ha, x2, qq, _, _, _, rfl, rfl, hqq, atI_nat (j := 0) rfl, rfl, _, rfl, ite2 (fun c => ?_) (fun c => absurd (decide_eq_true rfl) c)⟩
      refine ⟨_, rfl, p, C, dx, _, _, rfl, ho, T.cl, T.nA, flds_atoms _ _ _, _, rfl, _, _, rfl, rfl, al, _, _, _, rfl, rfl, SqL.of ha, x2, _, rfl, qq, _, rfl, hqq, (by show ¬ (1 = 0 ∧ _); rintro ⟨z, _⟩; exact absurd z (by decide)), fun b hb => ?_⟩
      have s1 := sameNew hb (.tup (cutV [.str "same", .int x, .int y] (some 1) none))
      have n1 : upd H3 b (.tup (cutV [.str "same", .int x, .int y] (some 1) none)) b = some (.tup [.int x, .int y]) := upd_same
      generalize upd H3 b (.tup (cutV [.str "same", .int x, .int y] (some 1) none)) = H4 at s1 n1 ⊢
      refine ⟨_, rfl, (by show 1 ≤ sizeLine; decide), fun d hd => ?_⟩
      have s2 := sameNew hd (.tup [.int k])
      have n2 := upd_same (H := H4) (a := d) (o := .tup [.int k])
      generalize upd H4 d (.tup [.int k]) = H5 at s2 n2
      refine ⟨b, d, _, _, rfl, rfl, SqT.of (s2 _ _ n1), SqT.of n2, (fun z => nomatch z), (by show 3 ≤ sizeLine; decide), (fun z => nomatch z), fun _ m hm => ?_⟩
      exact Q0 _ m (x, y, k) ((s1.trans s2).trans (sameNew hm _)) (SqT.of upd_same) ⟨in1, in2, by show 0 ≤ k; omega, p2⟩
  · rintro σ H2 ⟨v2, rfl, rfl⟩
    refine ⟨(by show 3 ≤ sizeLine; decide), fun l hl => ?_⟩
    exact Q0 _ l (0, 0, 0) (sameNew hl _) (SqT.of upd_same) ⟨⟨by decide, by show (0 : Int) < _; omega⟩, ⟨by decide, by show (0 : Int) < _; omega⟩, by decide, by show (0 : Int) ≤ _; omega⟩
theorem HasL.takeD {H : Hp} : ∀ {ds : List Dt} {vs : List V} (n : Nat), HasL K H ds vs → HasL K H (ds.take n) (vs.take n)
  | _, _, 0, _ => by simp only [List.take_zero]; exact .nil
  | [], [], n + 1, _ => by simp only [List.take_nil]; exact .nil
  | [], _ :: _, _, h => by simp only [HasL] at h; cases h
  | d :: ds, vs, n + 1, h => by
    simp only [HasL] at h
    obtain ⟨v, r, rfl, h1, h2⟩ := h
    simp only [List.take_succ_cons]
    exact .cons h1 (HasL.takeD n h2)
theorem HasL.dropD {H : Hp} : ∀ {ds : List Dt} {vs : List V} (n : Nat), HasL K H ds vs → HasL K H (ds.drop n) (vs.drop n)
  | _, _, 0, h => h
  | [], [], n + 1, _ => by simp only [List.drop_nil]; exact .nil
  | [], _ :: _, _, h => by simp only [HasL] at h; cases h
  | d :: ds, vs, n + 1, h => by
    simp only [HasL] at h
    obtain ⟨v, r, rfl, h1, h2⟩ := h
    simp only [List.drop_succ_cons]
    exact HasL.dropD n h2
theorem cutL {H : Hp} {ls : List Lk} {us : List V} (h : HasL K H (ls.map dL) us) (lo hi : Option Int) : ∃ ls' : List Lk, HasL K H (ls'.map dL) (cutV us lo hi) ∧ ls'.length ≤ ls.length ∧ ∀ l ∈ ls', l ∈ ls := by
  unfold cutV
  refine ⟨_, by have := HasL.takeD (HT.sIx us.length us.length hi - HT.sIx us.length 0 lo) (HasL.dropD (HT.sIx us.length 0 lo) h); rw [← List.map_drop, ← List.map_take] at this; exact this, ?_, fun l hl => List.mem_of_mem_drop (List.mem_of_mem_take hl)⟩
  rw [List.length_take, List.length_drop]
  omega
theorem cutIs (ns : List Int) (lo hi : Option Int) : ∃ ms : List Int, cutV (ns.map V.int) lo hi = ms.map V.int ∧ ms.length ≤ ns.length ∧ ∀ k ∈ ms, k ∈ ns := by
  unfold cutV
  refine ⟨_, by rw [← List.map_drop, ← List.map_take], ?_, fun l hl => List.mem_of_mem_drop (List.mem_of_mem_take hl)⟩
  rw [List.length_take, List.length_drop]
  omega
def sp_spoilt (K : PySem.W.Frag) (C : Addr) : Sp := fun vs H Q _ => ∃ (p tl al rl q l : Addr) (T : List Tm) (As : List At) (Rs : List (List Int)) (ps : List Int) (c : Int) (us : List V) (ls : List Lk), vs = [.ref p, .ref q, .ref l, .int c] ∧ PrD K C H p tl al rl T As Rs ∧ SqI K H q ps ∧ (∀ k ∈ ps, PIn As.length k) ∧ 1 ≤ T.length ∧ As.length ≤ 1000 ∧ H l = some (.lst us) ∧ HasL K H (ls.map dL) us ∧ (∀ lk ∈ ls, LkIn T.length As.length lk) ∧ ls.length ≤ 300 ∧
  ∀ (H' : Hp) (l' : Addr) (us' : List V) (ls' : List Lk), Same H H' → (l' = l ∨ H l' = none) → H' l' = some (.lst us') → HasL K H' (ls'.map dL) us' → (∀ lk ∈ ls', LkIn T.length As.length lk) → ls'.length ≤ 2 * ls.length + 1 → Q (.ref l') H'
theorem sc__law_links_spoilt : FnScope ["_law_problem", "_law_parts", "_law_bonds", "_law_cell", "_law_at", "_law_rest", "_law_far", "_law_many", "_law_aim_here"] ["_law_problem", "_law_parts", "_law_bonds", "_law_cell"] (defScope s__law_links_spoilt) := ⟨rfl, rfl, rfl, by decide +kernel, rfl, by decide +kernel, by decide +kernel⟩
theorem dL_mem {H : Hp} {ls : List Lk} {us : List V} {i : Int} (h : HasL K H (ls.map dL) us) (h0 : 0 ≤ i) (h1 : i < (us.length : Int)) : ∃ lk b, lk ∈ ls ∧ atI us i = some (.ref b) ∧ SqT K H b [.int lk.1, .int lk.2.1, .int lk.2.2] := by
  obtain ⟨x, x1, x2⟩ := at_num h0 h1
  obtain ⟨lk, b, e1, rfl, e3⟩ := dL_at h x1
  exact ⟨lk, b, List.mem_of_getElem? e1, x2, e3⟩
set_option maxHeartbeats 4000000 in
theorem ok_spoilt (F : Fun K "_law_links_spoilt" "_law_links_spoilt" s__law_links_spoilt f fd) (T : Txt K mg aK C CN CT CP CM) (BA : FB P w K mg base CX0 1 "_law_aim" fA dA' ["_law_problem", "_law_parts"] (sp_aim K C)) : FnOk P w K mg base CX0 2 f fd ["_law_problem", "_law_parts", "_law_bonds", "_law_cell"] (sp_spoilt K C) := by
  refine F.ok sc__law_links_spoilt (fun vs H Q E h => ?_) (fun cdv A outer s H vs Q E hr h => ?_)
  · obtain ⟨p, tl, al, rl, q, l, T', As, Rs, ps, c, us, ls, rfl, _⟩ := h
    rfl
  obtain ⟨p, tl, al, rl, q, l, T', As, Rs, ps, c, us, ls, rfl, S, hq, pin, t1, a1000, hl, hL, lin, l300, Q0⟩ := h
  refine ⟨_, (pss_cons (ps_set (i := 4) sc__law_links_spoilt.nd rfl (Or.inl rfl) (pe_op op_mod (pe_op op_fdiv (pv 3) pe_int) (pe_op op_add (pe_callB call_len_seq rfl T.len PySem.boot_len (pa_cons (pv 2) pa_nil)) pe_int)))
    (pss_cons (ps_set (i := 5) sc__law_links_spoilt.nd rfl (Or.inl rfl) (pe_op op_fdiv (pe_op op_fdiv (pv 3) pe_int) (pe_op op_add (pe_callB call_len_seq rfl T.len PySem.boot_len (pa_cons (pv 2) pa_nil)) pe_int)))
    (pss_cons (ps_set (i := 6) sc__law_links_spoilt.nd rfl (Or.inl rfl) (pe_op op_add (pe_callB call_len_seq rfl T.len PySem.boot_len (pa_cons (pe_fld (pv 0) rfl) pa_nil)) pe_int))
    (pss_cons (ps_set (i := 7) sc__law_links_spoilt.nd rfl (Or.inl rfl) (pe_callB call_len_seq rfl T.len PySem.boot_len (pa_cons (pe_fld (pv 0) rfl) pa_nil)))
    (pss_cons (ps_set (i := 8) sc__law_links_spoilt.nd rfl (Or.inl rfl) (pe_call BA.ok hr rfl BA.m BA.kp BA.b .nil pass0 (pa_cons (pv 0) (pa_cons (pv 1) pa_nil))))
    (pss_cons (ps_if (pt_cmpR op_eq (pe_op op_mod (pv 3) pe_int) pe_int (nomark _))
      (pss_one (ps_ret (pe_op op_cat (pe_slice sl_list (pv 2) po_none (po_some (pv 4))) (pe_slice sl_list (pv 2) (po_some (pe_op op_add (pv 4) pe_int)) po_none))))
      pss_nil)
    (pss_cons (ps_if (pt_cmpR op_eq (pe_op op_mod (pv 3) pe_int) pe_int (nomark _))
      (pss_one (ps_ret (pe_op op_cat (pe_slice sl_list (pv 2) (po_some (pv 4)) po_none) (pe_slice sl_list (pv 2) po_none (po_some (pv 4))))))
      pss_nil)
    (pss_cons (ps_if (pt_cmpR op_eq (pe_op op_mod (pv 3) pe_int) pe_int (nomark _))
      (pss_one (ps_ret (pe_op op_cat (pe_op op_cat (pe_slice sl_list (pv 2) po_none (po_some (pv 4))) (pe_lst (pa_cons (pe_tup (pa_cons (pe_op op_mod (pv 5) (pv 7)) (pa_cons (pe_op op_mod (pe_op op_fdiv (pv 5) (pv 7)) (pv 7)) (pa_cons (pe_op op_mod (pe_op op_fdiv (pe_op op_fdiv (pv 5) (pv 7)) (pv 7)) (pv 6)) pa_nil)))) pa_nil))) (pe_slice sl_list (pv 2) (po_some (pv 4)) po_none))))
      pss_nil)
    (pss_cons (ps_if (pt_cmpR op_eq (pe_op op_mod (pv 3) pe_int) pe_int (nomark _))
      (pss_one (ps_ret (pe_lc (N' := ["_law_bond"]) (ix := []) rfl rfl (by decide +kernel) (by decide +kernel) rfl (fun _ => ⟨[], clo_none (by decide +kernel) (by decide +kernel)⟩) (by decide +kernel) rfl rfl (fun j i h => by simp at h) (pi_list (pv 2)) (fun _ _ _ _ => (pe_tup (pa_cons (pe_ix (r := rIxT K) ix_tup (pv 0) pe_int (fun _ _ => rfl)) (pa_cons (pe_ix (r := rIxT K) ix_tup (pv 0) pe_int (fun _ _ => rfl)) (pa_cons (pe_ix (r := rIxT K) ix_tup (pv 0) pe_int (fun _ _ => rfl)) pa_nil))))))))
      pss_nil)
    (pss_cons (ps_if (PW.pt (pw_and (pt_cmpR op_eq (pe_op op_mod (pv 3) pe_int) pe_int (nomark _)) (pw_and1 (pt_cmpR op_lt (pv 4) (pe_callB call_len_seq rfl T.len PySem.boot_len (pa_cons (pv 2) pa_nil)) (nomark _)))))
      (pss_one (ps_ret (pe_op op_cat (pe_op op_cat (pe_slice sl_list (pv 2) po_none (po_some (pv 4))) (pe_lst (pa_cons (pe_tup (pa_cons (pe_ix ix_tup (pe_ix ix_list (pv 2) (pv 4) (fun _ _ => rfl)) pe_int (fun _ _ => rfl)) (pa_cons (pe_ix ix_tup (pe_ix ix_list (pv 2) (pv 4) (fun _ _ => rfl)) pe_int (fun _ _ => rfl)) (pa_cons (pe_op op_mod (pv 5) (pv 6)) pa_nil)))) pa_nil))) (pe_slice sl_list (pv 2) (po_some (pe_op op_add (pv 4) pe_int)) po_none))))
      pss_nil)
    (pss_cons (ps_if (pt_cmpR op_eq (pe_op op_mod (pv 3) pe_int) pe_int (nomark _))
      (pss_one (ps_ret (pe_op op_cat (pv 2) (pe_lst (pa_cons (pe_tup (pa_cons (pe_ix ix_tup (pv 8) pe_int (fun _ _ => rfl)) (pa_cons (pe_ix ix_tup (pv 8) pe_int (fun _ _ => rfl)) (pa_cons (pe_op op_mul (pe_ix ix_tup (pv 8) pe_int (fun _ _ => rfl)) (pe_op op_mod (pv 5) pe_int)) pa_nil)))) pa_nil)))))
      pss_nil)
    (pss_one (ps_ret (pv 2)))))))))))))), ?_⟩
  obtain ⟨⟨dx, ho⟩, ⟨ts, ht, hT⟩, ⟨ys, ha, hA⟩, _⟩ := id S.pr
  have tl' : ts.length = T'.length := by rw [← hT.length, List.length_map]
  have yl : ys.length = As.length := by rw [← hA.length, List.length_map]
  have ul : us.length = ls.length := by rw [← hL.length, List.length_map]
  have tN := S.tN
  refine ⟨_, rfl, _, _, rfl, rfl, ⟨by decide, by decide⟩, _, rfl, l, _, rfl, .inl (SqL.of hl), _, _, rfl, rfl, _, _, rfl, rfl, (by show (0 : Int) < ((us.length : Nat) : Int) + 1; omega), ?_⟩
  have b4 := modB (c / 9) (show (0 : Int) < ((us.length : Nat) : Int) + 1 by omega)
  refine ⟨_, rfl, _, _, rfl, rfl, ⟨by decide, by decide⟩, _, rfl, l, _, rfl, .inl (SqL.of hl), _, _, rfl, rfl, _, _, rfl, rfl, ⟨by show (0 : Int) < ((us.length : Nat) : Int) + 1; omega, by show ((us.length : Nat) : Int) + 1 < 1073741824; omega⟩, ?_⟩
  refine ⟨_, rfl, p, C, dx, _, _, rfl, ho, T.cl, T.nA, flds_atoms _ _ _, al, _, rfl, .inl (SqL.of ha), _, _, rfl, rfl, ?_⟩
  refine ⟨_, rfl, p, C, dx, _, _, rfl, ho, T.cl, T.nT, flds_terms _ _ _, tl, _, rfl, .inl (SqL.of ht), ?_⟩
  refine ⟨_, rfl, _, rfl, p, tl, al, rl, q, T', As, Rs, ps, rfl, S, hq, pin, t1, fun H1 m ak s1 hm akin => ?_⟩
  have hl1 := s1 _ _ hl
  have hL1 := hL.keep s1.kt (nols_dL _)
  have fin : ∀ (H' : Hp) (l' : Addr) (us' : List V) (ls' : List Lk), Same H1 H' → (l' = l ∨ H1 l' = none) → H' l' = some (.lst us') → HasL K H' (ls'.map dL) us' → (∀ lk ∈ ls', LkIn T'.length As.length lk) → ls'.length ≤ 2 * ls.length + 1 → Q (.ref l') H' := fun H' l' us' ls' s' n' => Q0 H' l' us' ls' (s1.trans s') (n'.imp id s1.free)
  -- a cut and another
  have two : ∀ (H2 : Hp) (lo hi lo' hi' : Option Int) (Qq : V → Hp → Prop), Same H1 H2 → (∀ (H' : Hp) (l' : Addr) (us' : List V) (ls' : List Lk), Same H1 H' → H1 l' = none → H' l' = some (.lst us') → HasL K H' (ls'.map dL) us' → (∀ lk ∈ ls', LkIn T'.length As.length lk) → ls'.length ≤ 2 * ls.length → Qq (.ref l') H') →
      ∀ d, H2 d = none → ∀ e, upd H2 d (.lst (cutV us lo hi)) e = none → ∃ l b xs zs, V.ref d = .ref l ∧ V.ref e = .ref b ∧ (upd (upd H2 d (.lst (cutV us lo hi))) e (.lst (cutV us lo' hi'))) l = some (.lst xs) ∧ (upd (upd H2 d (.lst (cutV us lo hi))) e (.lst (cutV us lo' hi'))) b = some (.lst zs) ∧ xs.length + zs.length ≤ sizeLine ∧ ∀ p, (upd (upd H2 d (.lst (cutV us lo hi))) e (.lst (cutV us lo' hi'))) p = none → Qq (.ref p) (upd (upd (upd H2 d (.lst (cutV us lo hi))) e (.lst (cutV us lo' hi'))) p (.lst (xs ++ zs))) := by
    intro H2 lo hi lo' hi' Qq s2 out d hd e he
    obtain ⟨k1, g1, g2, g3⟩ := cutL hL1 lo hi
    obtain ⟨k2, g4, g5, g6⟩ := cutL hL1 lo' hi'
    have u1 := cutV_length us lo hi
    have u2 := cutV_length us lo' hi'
    have sD := sameNew hd (.lst (cutV us lo hi))
    have sE := sameNew he (.lst (cutV us lo' hi'))
    refine ⟨d, e, _, _, rfl, rfl, sE _ _ upd_same, upd_same, sz _ (by omega), fun x hx => ?_⟩
    have sX := sameNew hx (.lst (cutV us lo hi ++ cutV us lo' hi'))
    have all := ((s2.trans sD).trans sE).trans sX
    refine out _ x _ (k1 ++ k2) all (((s2.trans sD).trans sE).free hx) upd_same ?_ (fun lk h => ?_) (by rw [List.length_append]; omega)
    · rw [List.map_append]
      exact HasL.append (g1.keep all.kt (nols_dL _)) (g4.keep all.kt (nols_dL _))
    · rcases List.mem_append.mp h with h | h
      · exact lin _ (g3 _ h)
      · exact lin _ (g6 _ h)
  -- a cut, one of its own, and another
  have three : ∀ (H2 : Hp) (lo hi lo' hi' : Option Int) (lk : Lk), Same H1 H2 → LkIn T'.length As.length lk → ∀ d, H2 d = some (.lst (cutV us lo hi)) → ∀ (H3 : Hp) (b e : Addr), Same H2 H3 → SqT K H3 b [.int lk.1, .int lk.2.1, .int lk.2.2] → H3 e = none → ∃ l0 b0 xs zs, V.ref d = .ref l0 ∧ V.ref e = .ref b0 ∧ (upd H3 e (.lst [.ref b])) l0 = some (.lst xs) ∧ (upd H3 e (.lst [.ref b])) b0 = some (.lst zs) ∧ xs.length + zs.length ≤ sizeLine ∧ ∀ x, (upd H3 e (.lst [.ref b])) x = none → ∃ H4, H4 = upd (upd H3 e (.lst [.ref b])) x (.lst (xs ++ zs)) ∧ SqL K H4 l us ∧ ∀ y, H4 y = none → ∃ l2 b2 xs2 zs2, V.ref x = .ref l2 ∧ V.ref y = .ref b2 ∧ (upd H4 y (.lst (cutV us lo' hi'))) l2 = some (.lst xs2) ∧ (upd H4 y (.lst (cutV us lo' hi'))) b2 = some (.lst zs2) ∧ xs2.length + zs2.length ≤ sizeLine ∧ ∀ z, (upd H4 y (.lst (cutV us lo' hi'))) z = none → Q (.ref z) (upd (upd H4 y (.lst (cutV us lo' hi'))) z (.lst (xs2 ++ zs2))) := by
    intro H2 lo hi lo' hi' lk s2 lkin d hd H3 b e s3 hb he
    obtain ⟨k1, g1, g2, g3⟩ := cutL hL1 lo hi
    obtain ⟨k2, g4, g5, g6⟩ := cutL hL1 lo' hi'
    have u1 := cutV_length us lo hi
    have u2 := cutV_length us lo' hi'
    have sE := sameNew he (.lst [.ref b])
    refine ⟨d, e, _, _, rfl, rfl, sE _ _ (s3 _ _ hd), upd_same, sz _ (by show _ + 1 ≤ 1000; omega), fun x hx => ⟨_, rfl, ?_, fun y hy => ?_⟩⟩
    · have sX := sameNew hx (.lst (cutV us lo hi ++ [.ref b]))
      exact SqL.of (sX _ _ (sE _ _ (s3 _ _ (s2 _ _ hl1))))
    have sX := sameNew hx (.lst (cutV us lo hi ++ [.ref b]))
    have nX := upd_same (H := upd H3 e (.lst [.ref b])) (a := x) (o := .lst (cutV us lo hi ++ [.ref b]))
    have sY := sameNew hy (.lst (cutV us lo' hi'))
    refine ⟨x, y, _, _, rfl, rfl, sY _ _ nX, upd_same, sz _ (by rw [List.length_append, List.length_singleton]; omega), fun z hz => ?_⟩
    have sZ := sameNew hz (.lst ((cutV us lo hi ++ [.ref b]) ++ cutV us lo' hi'))
    have s4 := ((sE.trans sX).trans sY).trans sZ
    have all := (s2.trans s3).trans s4
    refine fin _ z _ ((k1 ++ [lk]) ++ k2) all (.inr ((s2.trans (s3.trans ((sE.trans sX).trans sY))).free hz)) upd_same ?_ (fun lk' h => ?_) (by rw [List.length_append, List.length_append, List.length_singleton]; omega)
    · rw [List.map_append, List.map_append]
      exact HasL.append (HasL.append (g1.keep all.kt (nols_dL _)) (HasL.one (Has.link (s4.tup hb)))) (g4.keep all.kt (nols_dL _))
    · rcases List.mem_append.mp h with h | h
      · rcases List.mem_append.mp h with h | h
        · exact lin _ (g3 _ h)
        · rw [List.mem_singleton.mp h]; exact lkin
      · exact lin _ (g6 _ h)
  have c9 : ∀ {n : Int} {A B : Prop}, (c % 9 = n → A) → (B) → if decide (V.int (c % 9) = V.int n) = true then A else B := fun {n A B} h1 h2 => ite2 (fun z => h1 (by have := of_decide_eq_true z; injection this)) fun _ => h2
  refine ⟨_, rfl, _, _, rfl, rfl, (by show (0 : Int) < 9; decide), rfl, _, rfl, c9 (fun _ => ?_) ?_⟩
  · exact ⟨_, rfl, _, rfl, _, rfl, l, _, rfl, SqL.of hl1, fun d hd => ⟨_, rfl, _, rfl, _, _, rfl, rfl, _, rfl, l, _, rfl, SqL.of (sameNew hd _ _ _ hl1), fun e he => two H1 _ _ _ _ (fun x H' => Q x H') (Same.refl _) (fun H' l' us' ls' a1 a0 a2 a3 a4 a5 => fin H' l' us' ls' a1 (.inr a0) a2 a3 a4 (by omega)) d hd e he⟩⟩
  refine ⟨_, rfl, _, _, rfl, rfl, (by show (0 : Int) < 9; decide), rfl, _, rfl, c9 (fun _ => ?_) ?_⟩
  · exact ⟨_, rfl, _, rfl, _, rfl, l, _, rfl, SqL.of hl1, fun d hd => ⟨_, rfl, _, rfl, _, rfl, l, _, rfl, SqL.of (sameNew hd _ _ _ hl1), fun e he => two H1 _ _ _ _ (fun x H' => Q x H') (Same.refl _) (fun H' l' us' ls' a1 a0 a2 a3 a4 a5 => fin H' l' us' ls' a1 (.inr a0) a2 a3 a4 (by omega)) d hd e he⟩⟩
  have mpos : (0 : Int) < ((ts.length : Nat) : Int) := by omega
  have fpos : (0 : Int) < ((ys.length : Nat) : Int) + 1 := by omega
  refine ⟨_, rfl, _, _, rfl, rfl, (by show (0 : Int) < 9; decide), rfl, _, rfl, c9 (fun _ => ?_) ?_⟩
  · have m1 := modB (c / 9 / (((us.length : Nat) : Int) + 1)) mpos
    have m2 := modB ((c / 9 / (((us.length : Nat) : Int) + 1)) / ((ts.length : Nat) : Int)) mpos
    have m3 := modB ((c / 9 / (((us.length : Nat) : Int) + 1)) / ((ts.length : Nat) : Int) / ((ts.length : Nat) : Int)) fpos
    refine ⟨_, rfl, _, rfl, _, rfl, l, _, rfl, SqL.of hl1, fun d hd => ⟨_, rfl, _, rfl, _, _, rfl, rfl, mpos, _, rfl, _, rfl, _, _, rfl, rfl, ⟨mpos, by show ((ts.length : Nat) : Int) < 1073741824; omega⟩, _, rfl, _, _, rfl, rfl, mpos, _, rfl, _, rfl, _, _, rfl, rfl, ⟨mpos, by show ((ts.length : Nat) : Int) < 1073741824; omega⟩, _, rfl, _, _, rfl, rfl, ⟨mpos, by show ((ts.length : Nat) : Int) < 1073741824; omega⟩, _, rfl, _, _, rfl, rfl, fpos, (by show 3 ≤ sizeLine; decide), fun b hb => ⟨(by show 1 ≤ sizeLine; decide), fun e he => ?_⟩⟩⟩
    obtain ⟨l0, b0, xs, zs, e1, e2, e3, e4, e5, e6⟩ := three (upd H1 d (.lst (cutV us none (some (c / 9 % (((us.length : Nat) : Int) + 1)))))) none (some (c / 9 % (((us.length : Nat) : Int) + 1))) (some (c / 9 % (((us.length : Nat) : Int) + 1))) none ((c / 9 / (((us.length : Nat) : Int) + 1)) % ((ts.length : Nat) : Int), (c / 9 / (((us.length : Nat) : Int) + 1)) / ((ts.length : Nat) : Int) % ((ts.length : Nat) : Int), (c / 9 / (((us.length : Nat) : Int) + 1)) / ((ts.length : Nat) : Int) / ((ts.length : Nat) : Int) % (((ys.length : Nat) : Int) + 1)) (sameNew hd _) ⟨⟨m1.1, by rw [← tl']; exact m1.2⟩, ⟨m2.1, by rw [← tl']; exact m2.2⟩, m3.1, by rw [← yl]; exact Int.lt_add_one_iff.mp m3.2⟩ d upd_same _ b e (sameNew hb _) (SqT.of upd_same) he
    refine ⟨l0, b0, xs, zs, e1, e2, e3, e4, e5, fun x hx => ?_⟩
    obtain ⟨H4, e7, e8, e9⟩ := e6 x hx
    rw [← e7]
    exact ⟨_, rfl, _, rfl, _, rfl, l, _, rfl, e8, fun y hy => e9 y hy⟩
  refine ⟨_, rfl, _, _, rfl, rfl, (by show (0 : Int) < 9; decide), rfl, _, rfl, c9 (fun _ => ?_) ?_⟩
  · refine ⟨_, rfl, l, rfl, ⟨_, SqL.of hl1⟩, fun D hD => lc_by wk_list (fun i us' H' => Same H1 H' ∧ ∃ ls' : List Lk, HasL K H' (ls'.map dL) us' ∧ (∀ lk ∈ ls', LkIn T'.length As.length lk) ∧ ls'.length = i) (fun i us' H' ⟨s4, _⟩ => SqL.of (s4 _ _ hl1)) ⟨sameNew hD _, [], HasL.nil, (fun _ h => nomatch h), rfl⟩ ?_ ?_⟩
    · rintro i us' H8 z H4 hi hly hDs ⟨s4, ls', g1, g2, g3⟩ ⟨rfl, hx⟩
      obtain ⟨lk, b, hlk, rfl, hb⟩ := dL_at hL1 (hx _ (SqL.of (s4 _ _ hl1)))
      have hb4 := s4.tup hb
      have lk1 := lin lk (List.mem_of_getElem? hlk)
      refine ⟨_, rfl, b, _, _, _, rfl, rfl, hb4, l1 lk, _, rfl, b, _, _, _, rfl, rfl, hb4, l0 lk, _, rfl, b, _, _, _, rfl, rfl, hb4, l2 lk, (by show 3 ≤ sizeLine; decide), fun d hd => ?_⟩
      have s5 := sameNew hd (.tup [.int lk.2.1, .int lk.1, .int lk.2.2])
      have n5 := upd_same (H := H4) (a := d) (o := .tup [.int lk.2.1, .int lk.1, .int lk.2.2])
      generalize upd H4 d (.tup [.int lk.2.1, .int lk.1, .int lk.2.2]) = H5 at s5 n5
      have kt := KeepT.lst (ys := us' ++ [.ref d]) (s5 _ _ hDs)
      refine lc_post (sz _ (by omega)) hi hly (s5 _ _ hDs) ⟨(s4.trans s5).upd hD, ls' ++ [(lk.2.1, lk.1, lk.2.2)], ?_, fun u hu => ?_, by simp [g3]⟩
      · rw [List.map_append]
        exact HasL.append ((g1.keep s5.kt (nols_dL _)).keep kt (nols_dL _)) (HasL.one (Has.link (lk := (lk.2.1, lk.1, lk.2.2)) (kt.sq (SqT.of n5))))
      · rcases List.mem_append.mp hu with h | h
        · exact g2 u h
        · rw [List.mem_singleton.mp h]; exact ⟨lk1.2.1, lk1.1, lk1.2.2⟩
    rintro us' H4 hDs ⟨s4, ls', g1, g2, g3⟩
    exact fin H4 D us' ls' s4 (.inr hD) hDs g1 g2 (by omega)
  refine ⟨_, rfl, _, _, rfl, rfl, (by show (0 : Int) < 9; decide), rfl, _, rfl, c9 (fun _ => ⟨_, rfl, _, rfl, l, _, rfl, .inl (SqL.of hl1), _, _, rfl, rfl, _, rfl, ite2 (fun c2 => ?_) (fun c2 => ?_)⟩) (iteF ?_)⟩
  · have c3 : (c / 9 % (((us.length : Nat) : Int) + 1)) < ((us.length : Nat) : Int) := of_decide_eq_true c2
    obtain ⟨lk, b1, lkm, x2, hb1⟩ := dL_mem hL1 b4.1 c3
    have lk1 := lin lk lkm
    have m3 := modB (c / 9 / (((us.length : Nat) : Int) + 1)) fpos
    refine ⟨_, rfl, _, rfl, _, rfl, l, _, rfl, SqL.of hl1, fun d hd => ?_⟩
    have sd := sameNew hd (.lst (cutV us none (some (c / 9 % (((us.length : Nat) : Int) + 1)))))
    have nd := upd_same (H := H1) (a := d) (o := .lst (cutV us none (some (c / 9 % (((us.length : Nat) : Int) + 1)))))
    have hl2 := sd _ _ hl1
    have hb2 := sd.tup hb1
    generalize upd H1 d (.lst (cutV us none (some (c / 9 % (((us.length : Nat) : Int) + 1))))) = H2 at sd nd hl2 hb2
    refine ⟨_, rfl, _, rfl, l, _, _, _, rfl, rfl, SqL.of hl2, x2, b1, _, _, _, rfl, rfl, hb2, l0 lk, _, rfl, _, rfl, l, _, _, _, rfl, rfl, SqL.of hl2, x2, b1, _, _, _, rfl, rfl, hb2, l1 lk, _, rfl, _, rfl, _, _, rfl, rfl, fpos, (by show 3 ≤ sizeLine; decide), fun b hb => ⟨(by show 1 ≤ sizeLine; decide), fun e he => ?_⟩⟩
    obtain ⟨l0', b0, xs, zs, e1, e2, e3, e4, e5, e6⟩ := three H2 none (some (c / 9 % (((us.length : Nat) : Int) + 1))) (some ((c / 9 % (((us.length : Nat) : Int) + 1)) + 1)) none (lk.1, lk.2.1, (c / 9 / (((us.length : Nat) : Int) + 1)) % (((ys.length : Nat) : Int) + 1)) sd ⟨lk1.1, lk1.2.1, m3.1, by rw [← yl]; exact Int.lt_add_one_iff.mp m3.2⟩ d nd _ b e (sameNew hb _) (SqT.of upd_same) he
    refine ⟨l0', b0, xs, zs, e1, e2, e3, e4, e5, fun x hx => ?_⟩
    obtain ⟨H4, e7, e8, e9⟩ := e6 x hx
    rw [← e7]
    exact ⟨_, rfl, _, rfl, _, _, rfl, rfl, _, rfl, l, _, rfl, e8, fun y hy => e9 y hy⟩
  all_goals
    refine ⟨_, rfl, _, _, rfl, rfl, (by show (0 : Int) < 9; decide), rfl, _, rfl, c9 (fun _ => ?_) ⟨_, rfl, fin H1 l us ls (Same.refl _) (.inl rfl) hl1 hL1 lin (by omega)⟩⟩
    have m2 := modB (c / 9 / (((us.length : Nat) : Int) + 1)) (show (0 : Int) < 2 by decide)
    have mm : ak.2.2 * ((c / 9 / (((us.length : Nat) : Int) + 1)) % 2) = 0 ∨ ak.2.2 * ((c / 9 / (((us.length : Nat) : Int) + 1)) % 2) = ak.2.2 := by
      have : (c / 9 / (((us.length : Nat) : Int) + 1)) % 2 = 0 ∨ (c / 9 / (((us.length : Nat) : Int) + 1)) % 2 = 1 := by omega
      rcases this with h | h
      · rw [h]; exact .inl (by simp)
      · rw [h]; exact .inr (by simp)
    obtain ⟨i1, i2, i3, i4⟩ := id akin
    refine ⟨_, rfl, _, rfl, m, _, _, _, rfl, rfl, hm, l0 ak, _, rfl, m, _, _, _, rfl, rfl, hm, l1 ak, _, rfl, m, _, _, _, rfl, rfl, hm, l2 ak, _, rfl, _, _, rfl, rfl, (by show (0 : Int) < 2; decide), _, _, rfl, rfl, .inr ⟨by show -(2 ^ 64) < (c / 9 / (((us.length : Nat) : Int) + 1)) % 2; omega, by show (c / 9 / (((us.length : Nat) : Int) + 1)) % 2 < 2 ^ 64; omega⟩, (by show 3 ≤ sizeLine; decide), fun b hb => ⟨(by show 1 ≤ sizeLine; decide), fun e he => ?_⟩⟩
    have s2 := sameNew hb (.tup [.int ak.1, .int ak.2.1, .int (ak.2.2 * ((c / 9 / (((us.length : Nat) : Int) + 1)) % 2))])
    have n2 := upd_same (H := H1) (a := b) (o := .tup [.int ak.1, .int ak.2.1, .int (ak.2.2 * ((c / 9 / (((us.length : Nat) : Int) + 1)) % 2))])
    generalize upd H1 b (.tup [.int ak.1, .int ak.2.1, .int (ak.2.2 * ((c / 9 / (((us.length : Nat) : Int) + 1)) % 2))]) = H2 at s2 n2 he ⊢
    have s3 := sameNew he (.lst [.ref b])
    have n3 := upd_same (H := H2) (a := e) (o := .lst [.ref b])
    generalize upd H2 e (.lst [.ref b]) = H3 at s3 n3
    refine ⟨l, e, _, _, rfl, rfl, (s2.trans s3) _ _ hl1, n3, sz _ (by show _ + 1 ≤ 1000; omega), fun x hx => ?_⟩
    have s4 := sameNew hx (.lst (us ++ [.ref b]))
    have all := (s2.trans s3).trans s4
    refine fin _ x _ (ls ++ [(ak.1, ak.2.1, ak.2.2 * ((c / 9 / (((us.length : Nat) : Int) + 1)) % 2))]) all (.inr ((s2.trans s3).free hx)) upd_same ?_ (fun u hu => ?_) (by rw [List.length_append, List.length_singleton]; omega)
    · rw [List.map_append]
      exact HasL.append (hL1.keep all.kt (nols_dL _)) (HasL.one (Has.link (lk := (ak.1, ak.2.1, ak.2.2 * ((c / 9 / (((us.length : Nat) : Int) + 1)) % 2))) ((s3.trans s4).tup (SqT.of n2))))
    · rcases List.mem_append.mp hu with h | h
      · exact lin u h
      · rw [List.mem_singleton.mp h]
        exact ⟨i1, i2, by show 0 ≤ ak.2.2 * ((c / 9 / (((us.length : Nat) : Int) + 1)) % 2); omega, by show ak.2.2 * ((c / 9 / (((us.length : Nat) : Int) + 1)) % 2) ≤ _; omega⟩
end
end K34

/-! law k34: what the law draws: parts. Behind K34j. -/
namespace K34
open PySem L2
/-! what the law draws: parts by signs -/
section
variable {P : Program} {w : World} {K : PySem.W.Frag} {mg : Str → Option Value} {base : Heap} {aK C CN CT CP CM CG : Addr} {f fA fM fN fC : Addr} {fd dA' dM dN dC : FuncData}
def KO (m : Nat) (kvs : List (Key × V)) : Prop := ∀ key ∈ kvs.map (·.1), ∃ j : Int, key = Sum.inl j ∧ 1 ≤ j ∧ j ≤ (m : Int) ∧ ∃ n : Int, valV kvs key = some (.int n)
theorem putK_keys {kvs : List (Key × V)} {k : Key} {v : V} {key : Key} (h : key ∈ (putK kvs k v).map (·.1)) : key = k ∨ key ∈ kvs.map (·.1) := by
  unfold putK at h
  split at h
  · rw [List.map_map] at h
    obtain ⟨kv, h1, rfl⟩ := List.mem_map.mp h
    right
    refine List.mem_map.mpr ⟨kv, h1, ?_⟩
    simp only [Function.comp]
    split <;> rfl
  · rw [List.map_append] at h
    rcases List.mem_append.mp h with h | h
    · exact .inr h
    · simp only [List.map_cons, List.map_nil, List.mem_singleton] at h
      exact .inl h
theorem KO.put {m : Nat} {kvs : List (Key × V)} (h : KO m kvs) {j n : Int} (h1 : 1 ≤ j) (h2 : j ≤ (m : Int)) : KO m (putK kvs (Sum.inl j) (.int n)) := fun key hk => by
  by_cases e : key = Sum.inl j
  · exact ⟨j, e, h1, h2, n, by rw [valV_put, if_pos e]⟩
  · rcases putK_keys hk with z | z
    · exact absurd z e
    · obtain ⟨j', e', a1, a2, n', a3⟩ := h key z
      exact ⟨j', e', a1, a2, n', by rw [valV_put, if_neg e]; exact a3⟩
def sp_signs (K : PySem.W.Frag) (C : Addr) : Sp := fun vs H Q _ => ∃ (p tl al rl : Addr) (T : List Tm) (As : List At) (Rs : List (List Int)) (c : Int), vs = [.ref p, .int c] ∧ PrD K C H p tl al rl T As Rs ∧ As.length ≤ 200 ∧ ∀ (H' : Hp) (q : Addr) (ps : List Int), Same H H' → SqT K H' q (ps.map V.int) → (∀ k ∈ ps, PIn As.length k) → ps.length ≤ 3 * As.length → Q (.ref q) H'
theorem sc__law_signs_by : FnScope ["_law_problem", "_law_cell", "_law_signs", "_law_atom", "_law_low", "_law_roots", "_law_high", "_law_same"] ["_law_problem", "_law_cell"] (defScope s__law_signs_by) := ⟨rfl, rfl, rfl, by decide +kernel, rfl, by decide +kernel, by decide +kernel⟩
theorem four_at {i : Int} (h0 : 0 ≤ i) (h1 : i < 4) : ∃ n : Int, atI [V.int 1, V.int 1, V.int 2, V.int 0] i = some (.int n) := by
  have : i = 0 ∨ i = 1 ∨ i = 2 ∨ i = 3 := by omega
  rcases this with rfl | rfl | rfl | rfl
  · exact ⟨1, rfl⟩
  · exact ⟨1, rfl⟩
  · exact ⟨2, rfl⟩
  · exact ⟨0, rfl⟩
set_option maxHeartbeats 4000000 in
theorem ok_signs (F : Fun K "_law_signs_by" "_law_signs_by" s__law_signs_by f fd) (T : Txt K mg aK C CN CT CP CM) (mrange : mg "range" = none) (mtuple : mg "tuple" = none) (BC : FB P w K mg base CX0 3 "_law_closed" fC dC ["_law_problem", "_law_parts"] (sp_lclosed K C)) : FnOk P w K mg base CX0 4 f fd ["_law_problem", "_law_cell"] (sp_signs K C) := by
  refine F.ok sc__law_signs_by (fun vs H Q E h => ?_) (fun cdv A outer s H vs Q E hr h => ?_)
  · obtain ⟨p, tl, al, rl, T', As, Rs, c, rfl, _⟩ := h
    rfl
  obtain ⟨p, tl, al, rl, T', As, Rs, c, rfl, S, a200, Q0⟩ := h
  have hu := hu_of hr
  refine ⟨_, (pss_cons (ps_set (i := 2) sc__law_signs_by.nd rfl (Or.inr rfl) pe_dnewK)
    (pss_cons (ps_for PassesOwn.never rfl (pi_range2 rfl mrange (pa_cons pe_int (pa_cons (pe_op op_add (pe_callB call_len_seq rfl T.len PySem.boot_len (pa_cons (pe_fld (pv 0) rfl) pa_nil)) pe_int) pa_nil))) (pg_name (i := 3) sc__law_signs_by.nd rfl (Or.inl rfl))
      (pss_cons (ps_dput hu (pv 2) (pv 3) (pe_ix ix_list (pe_lst (pa_cons pe_int (pa_cons pe_int (pa_cons pe_int (pa_cons pe_int pa_nil))))) (pe_op op_mod (pv 1) pe_int) (fun _ _ => rfl)) rfl)
        (pss_one (ps_set (i := 1) sc__law_signs_by.nd rfl (Or.inl rfl) (pe_op op_fdiv (pv 1) pe_int)))))
    (pss_cons (ps_thaw (ps_setLCI (i := 4) (N' := ["_law_atom", "_law_signs"]) (ix := [2]) sc__law_signs_by.nd rfl (Or.inl rfl) rfl rfl (by decide +kernel) (by decide +kernel) rfl (fun ok => clo_of (sc := defScope s__law_signs_by) ok rfl (by decide +kernel) (by decide +kernel)) (by decide +kernel) rfl rfl (fun j i h => match j, h with | 0, h => by cases h; exact ⟨_, rfl, rfl, .inl rfl, .inl rfl⟩ | n + 1, h => by simp at h) (pi_dict (pv 2)) (fun _ _ _ _ => (pt_cmpR op_eq (pe_dget hu (pv 1) (pv 0) (fun _ _ => rfl)) pe_int (nomark _))) (fun _ _ _ _ => (pe_un un_neg (pv 0)))))
    (pss_cons (ps_set (i := 5) sc__law_signs_by.nd rfl (Or.inl rfl) (pe_call BC.ok hr rfl BC.m BC.kp BC.b .nil pass0 (pa_cons (pv 0) (pa_cons (pv 4) pa_nil))))
    (pss_cons (ps_set (i := 6) sc__law_signs_by.nd rfl (Or.inl rfl) (pe_lst pa_nil))
    (pss_cons (ps_for PassesOwn.never rfl (pi_dict (pv 2)) (pg_name (i := 3) sc__law_signs_by.nd rfl (Or.inl rfl))
      (pss_cons (ps_set (i := 7) sc__law_signs_by.nd rfl (Or.inl rfl) (pe_ix ix_list (pe_fld (pv 0) rfl) (pe_op op_sub (pv 3) pe_int) (fun _ _ => rfl)))
        (pss_one (ps_if (PW.pt (pw_or (pt_cmpR op_eq (pe_dget hu (pv 2) (pv 3) (fun _ _ => rfl)) pe_int (nomark _)) (pw_or1 (PW.pt (pw_and (pt_cmpR op_eq (pe_dget hu (pv 2) (pv 3) (fun _ _ => rfl)) pe_int (nomark _)) (pw_and (pt_cmpR op_eq (pe_ix ix_tup (pv 7) pe_int (fun _ _ => rfl)) pe_str (nomark _)) (pw_and1 (pt_cmpR op_eq (pe_ix ix_list (pv 5) (pe_ix ix_tup (pv 7) pe_int (fun _ _ => rfl)) (fun _ _ => rfl)) (pe_ix ix_list (pv 5) (pe_ix ix_tup (pv 7) pe_int (fun _ _ => rfl)) (fun _ _ => rfl)) (nomark _)))))))))
          (pss_one (ps_expr (pe_bm PySem.F.plainAttrs_list PySem.F.slot_list_append PySem.F.type_list_append mt_append (pv 6) (pa_cons (pv 3) pa_nil))))
          pss_nil))))
    (pss_one (ps_ret (pe_callTy call_tuple_of rfl mtuple PyProof.Rows.Boot.tuple (pa_cons (pe_op op_cat (pe_op op_cat (pe_slice sl_list (pv 6) po_none (po_some pe_int)) (pv 4)) (pe_slice sl_list (pv 6) (po_some pe_int) po_none)) pa_nil)))))))))), ?_⟩
  obtain ⟨⟨dx, ho⟩, ⟨ts, ht, hT⟩, ⟨ys, ha, hA⟩, _⟩ := id S.pr
  have yl : ys.length = As.length := by rw [← hA.length, List.length_map]
  refine fun d hd => ?_
  have s0 := sameNew hd (.dK [])
  have n0 := upd_same (H := H) (a := d) (o := .dK [])
  generalize upd H d (.dK []) = H0 at s0 n0
  refine ⟨_, rfl, p, C, dx, _, _, rfl, s0 _ _ ho, T.cl, T.nA, flds_atoms _ _ _, al, _, rfl, .inl (SqL.of (s0 _ _ ha)), _, _, rfl, rfl, 1, _, rfl, ⟨by decide, by decide, by omega, by omega⟩, for_range (lo := 1) (n := (((ys.length : Nat) : Int) + 1 - 1).toNat) (fun i σ H' => ∃ (c' : Int) (v3 : Option V) (kvs : List (Key × V)), σ = [some (.ref p), some (.int c'), some (.ref d), v3, none, none, none, none] ∧ Same H H' ∧ H' d = some (.dK kvs) ∧ KO As.length kvs ∧ kvs.length ≤ i) ⟨c, none, [], rfl, s0, n0, (fun _ h => nomatch h), Nat.le_refl _⟩ ?_ ?_⟩
  · rintro i σ H1 hi ⟨c', v3, kvs, rfl, s1, hd1, ko, kl⟩
    have b4 := modB c' (show (0 : Int) < 4 by decide)
    obtain ⟨n, hn⟩ := four_at b4.1 b4.2
    refine ⟨(by show 4 ≤ sizeLine; decide), fun l hl => ?_⟩
    have s2 := sameNew hl (.lst [.int 1, .int 1, .int 2, .int 0])
    have n2 := upd_same (H := H1) (a := l) (o := .lst [.int 1, .int 1, .int 2, .int 0])
    generalize upd H1 l (.lst [.int 1, .int 1, .int 2, .int 0]) = H2 at s2 n2
    have hd2 := s2 _ _ hd1
    refine ⟨_, rfl, _, _, rfl, rfl, (by show (0 : Int) < 4; decide), l, _, _, _, rfl, rfl, SqL.of n2, hn, _, rfl, _, rfl, d, _, rfl, DPut.k (k := Sum.inl (1 + ((i : Nat) : Int))) hd2 (small1000 (by omega)), ?_⟩
    refine ⟨_, rfl, _, _, rfl, rfl, ⟨by decide, by decide⟩, _, _, _, rfl, (s1.trans s2).upd hd, upd_same, ko.put (by omega) (by omega), ?_⟩
    have := length_putK kvs (Sum.inl (1 + ((i : Nat) : Int))) (.int n)
    omega
  rintro σ H1 ⟨c', v3, kvs, rfl, s1, hd1, ko, kl⟩
  have kl' : kvs.length ≤ As.length := by omega
  have key_at : ∀ {i : Nat} {k : Key} {v : V}, kvs[i]? = some (k, v) → ∃ j n : Int, k = Sum.inl j ∧ 1 ≤ j ∧ j ≤ (As.length : Int) ∧ valV kvs k = some (.int n) := fun {i k v} e => by
    obtain ⟨j, e1, e2, e3, n, e4⟩ := ko k (List.mem_map.mpr ⟨_, List.mem_of_getElem? e, rfl⟩)
    exact ⟨j, n, e1, e2, e3, e4⟩
  refine ⟨_, rfl, d, kvs, rfl, hd1, fun o D hD => lci_by wk_dict (fun i us H' => H' d = some (.frz o (.dK kvs)) ∧ (∀ b u, b ≠ d → H1 b = some u → H' b = some u) ∧ ∃ ks : List Int, us = ks.map V.int ∧ (∀ k ∈ ks, PIn As.length k) ∧ ks.length ≤ i) (fun i us H' ⟨h, _⟩ => h) ?_ ?_ ?_⟩
  · have nD : d ≠ D := fun z => by rw [← z, upd_same] at hD; cases hD
    refine ⟨by rw [upd_ne nD]; exact upd_same, fun b u hb e => ?_, [], rfl, (fun _ h => nomatch h), Nat.le_refl _⟩
    have nb : b ≠ D := fun z => by rw [← z, upd_ne hb, e] at hD; cases hD
    rw [upd_ne nb, upd_ne hb]
    exact e
  · rintro i us H8 x H2 hi hly hDs ⟨f2, g2, ks, rfl, pk, kl2⟩ ⟨rfl, k, v, hkv, rfl⟩
    obtain ⟨j, n, rfl, j1, j2, hv⟩ := key_at hkv
    have nD : d ≠ D := fun z => by rw [← z, f2] at hDs; cases hDs
    refine ⟨_, rfl, _, rfl, d, _, rfl, .inl ⟨kvs, Sum.inl j, .inr ⟨o, f2⟩, rfl, hv.symm⟩, rfl, _, rfl, ite2 (fun _ => ⟨_, rfl, _, rfl, lc_post (sz _ (by omega)) hi hly hDs ⟨by rw [upd_ne nD]; exact f2, fun b u hb e => ?_, ks ++ [-j], by rw [List.map_append]; rfl, fun k hk => ?_, by rw [List.length_append, List.length_singleton]; omega⟩⟩) (fun _ => lc_skip hi hly hDs ⟨f2, g2, ks, rfl, pk, by omega⟩)⟩
    · have nb : b ≠ D := fun z => by
        have hD' : H1 D = none := by rw [upd_ne nD.symm] at hD; exact hD
        rw [z, hD'] at e; cases e
      rw [upd_ne nb]
      exact g2 b u hb e
    · rcases List.mem_append.mp hk with h | h
      · exact pk k h
      · rw [List.mem_singleton.mp h]
        exact ⟨by omega, by omega, by omega⟩
  rintro us H2 hDs ⟨f2, g2, ks, rfl, pk, kl2⟩
  have nD : D ≠ d := fun z => by rw [z, f2] at hDs; cases hDs
  refine ⟨d, o, kvs, f2, (fun o u => by show H d ≠ _; rw [hd]; intro z; cases z), ?_⟩
  have s3 : Same H (upd H2 d (.dK kvs)) := fun b u e => by
    have nb : b ≠ d := fun z => by rw [z, hd] at e; cases e
    rw [upd_ne nb]
    exact g2 b u nb (s1 _ _ e)
  have hd3 := upd_same (H := H2) (a := d) (o := .dK kvs)
  have hD3 : upd H2 d (.dK kvs) D = some (.lst (ks.map V.int)) := by rw [upd_ne nD]; exact hDs
  generalize upd H2 d (.dK kvs) = H3 at s3 hd3 hD3
  refine ⟨_, rfl, _, rfl, p, tl, al, rl, D, T', As, Rs, ks, rfl, S.same s3, .inl (SqL.of hD3), pk, fun H4 r rs s4 hr4 rl4 => ?_⟩
  refine ⟨(by show 0 ≤ sizeLine; decide), fun l hl => ?_⟩
  have s5 := sameNew hl (.lst [])
  have n5 := upd_same (H := H4) (a := l) (o := .lst [])
  generalize upd H4 l (.lst []) = H5 at s5 n5
  have s05 := (s3.trans s4).trans s5
  have lH : H l = none := (s3.trans s4).free hl
  have hd5 := s5 _ _ (s4 _ _ hd3)
  have hr5 := s5 _ _ hr4
  have hD5 := s5 _ _ (s4 _ _ hD3)
  have nrl : r ≠ l := ne_of_none hr4 hl
  have nDl : D ≠ l := ne_of_none (s4 _ _ hD3) hl
  have ndl : d ≠ l := ne_of_none (s4 _ _ hd3) hl
  have nrd : r ≠ d := ne_of hr5 hd5 (by intro z; cases z)
  refine ⟨_, rfl, d, kvs, rfl, hd5, fun o2 => for_by wk_dict (fun i σ H' => ∃ (v3 v7 : Option V) (hs : List Int), σ = [some (.ref p), some (.int c'), some (.ref d), v3, some (.ref D), some (.ref r), some (.ref l), v7] ∧ Same H H' ∧ H' d = some (.frz o2 (.dK kvs)) ∧ H' r = some (.lst (rs.map V.int)) ∧ H' D = some (.lst (ks.map V.int)) ∧ H' l = some (.lst (hs.map V.int)) ∧ (∀ k ∈ hs, PIn As.length k) ∧ hs.length ≤ i) (fun i σ H' ⟨_, _, _, _, _, h, _⟩ => h) ⟨v3, none, [], rfl, s05.upd hd, upd_same, by rw [upd_ne nrd]; exact hr5, by rw [upd_ne nD]; exact hD5, by rw [upd_ne ndl.symm]; exact n5, (fun _ h => nomatch h), Nat.le_refl _⟩ ?_ ?_⟩
  · rintro i σ H9 x H6 hi ⟨v3', v7, hs, rfl, s6, f6, hr6, hD6, hl6, ph, hl'⟩ ⟨rfl, k, v, hkv, rfl⟩
    obtain ⟨j, n, rfl, j1, j2, hv⟩ := key_at hkv
    have S6 := (S.same s6).pr
    obtain ⟨⟨dx6, ho6⟩, _, ⟨ys6, ha6, hA6⟩, _⟩ := id S6
    have yl6 : ys6.length = As.length := by rw [← hA6.length, List.length_map]
    obtain ⟨x, x1, x2⟩ := at_num (xs := ys6) (i := j - 1) (by omega) (by omega)
    obtain ⟨a, ea, hax⟩ := hasA_at hA6 x1
    have am := List.mem_of_getElem? ea
    have gd : DGet H6 d (.int j) (some (.int n)) := .inl ⟨kvs, Sum.inl j, .inr ⟨o2, f6⟩, rfl, hv.symm⟩
    refine ⟨_, rfl, p, C, dx6, _, _, rfl, ho6, T.cl, T.nA, flds_atoms _ _ _, _, rfl, _, _, rfl, rfl, al, _, _, _, rfl, rfl, SqL.of ha6, x2, ?_⟩
    have ap : ∀ (Pv : St → Hp → Prop), (∀ (hs' : List Int) (H' : Hp), Same H H' → H' d = some (.frz o2 (.dK kvs)) → H' r = some (.lst (rs.map V.int)) → H' D = some (.lst (ks.map V.int)) → H' l = some (.lst (hs'.map V.int)) → (∀ k ∈ hs', PIn As.length k) → hs'.length ≤ i + 1 → Pv [some (.ref p), some (.int c'), some (.ref d), some (.int j), some (.ref D), some (.ref r), some (.ref l), some x] H') → Pv [some (.ref p), some (.int c'), some (.ref d), some (.int j), some (.ref D), some (.ref r), some (.ref l), some x] (upd H6 l (.lst (hs.map V.int ++ [.int j]))) := fun Pv out => by
      refine out (hs ++ [j]) _ (s6.upd lH) (by rw [upd_ne ndl]; exact f6) (by rw [upd_ne nrl]; exact hr6) (by rw [upd_ne nDl]; exact hD6) (by rw [upd_same, List.map_append]; rfl) (fun k hk => ?_) (by rw [List.length_append, List.length_singleton]; omega)
      rcases List.mem_append.mp hk with h | h
      · exact ph k h
      · rw [List.mem_singleton.mp h]
        exact ⟨by omega, by omega, j2⟩
    refine ⟨_, rfl, _, rfl, d, _, rfl, gd, rfl, _, rfl, ite2 (fun _ => iteT ?_) (fun _ => ?_)⟩
    · exact ⟨_, rfl, .inl ⟨rfl, _, SqL.of hl6⟩, _, rfl, l, _, _, rfl, rfl, hl6, small1000 (by rw [List.length_map]; omega), ap _ fun hs' H' a1 a2 a3 a4 a5 a6 a7 => ⟨_, _, hs', rfl, a1, a2, a3, a4, a5, a6, a7⟩⟩
    refine ⟨_, rfl, _, rfl, d, _, rfl, gd, rfl, _, rfl, ite2 (fun _ => ?_) (fun _ => iteF ⟨_, _, hs, rfl, s6, f6, hr6, hD6, hl6, ph, by omega⟩)⟩
    cases a with
    | plain z =>
      obtain ⟨qq, rfl, hqq⟩ := has_plain hax
      exact ⟨_, rfl, qq, _, _, _, rfl, rfl, hqq, atI_nat (j := 0) rfl, rfl, _, rfl, ite2 (fun c => absurd (of_decide_eq_true c) (by decide +kernel)) (fun c => iteF ⟨_, _, hs, rfl, s6, f6, hr6, hD6, hl6, ph, by omega⟩)⟩
    | same x y =>
      obtain ⟨qq, rfl, hqq⟩ := has_same hax
      obtain ⟨in1, in2⟩ := S.dm.am x y am
      rw [← rl4] at in1 in2
      have hrr : SqL K H6 r (rs.map V.int) := SqL.of hr6
      refine ⟨_, rfl, qq, _, _, _, rfl, rfl, hqq, atI_nat (j := 0) rfl, rfl, _, rfl, ite2 (fun c => ⟨_, rfl, _, rfl, qq, _, _, _, rfl, rfl, hqq, atI_nat (j := 1) rfl, r, _, _, _, rfl, rfl, hrr, at_rf in1, _, rfl, _, rfl, qq, _, _, _, rfl, rfl, hqq, atI_nat (j := 2) rfl, r, _, _, _, rfl, rfl, hrr, at_rf in2, rfl, _, rfl, ite2 (fun c3 => ?_) (fun c3 => ⟨_, _, hs, rfl, s6, f6, hr6, hD6, hl6, ph, by omega⟩)⟩) (fun c => absurd (decide_eq_true rfl) c)⟩
      exact ⟨_, rfl, .inl ⟨rfl, _, SqL.of hl6⟩, _, rfl, l, _, _, rfl, rfl, hl6, small1000 (by rw [List.length_map]; omega), ap _ fun hs' H' a1 a2 a3 a4 a5 a6 a7 => ⟨_, _, hs', rfl, a1, a2, a3, a4, a5, a6, a7⟩⟩
  · rintro σ H6 ⟨v3', v7, hs, rfl, s6, f6, hr6, hD6, hl6, ph, hl'⟩
    obtain ⟨ms1, e1, l1', m1⟩ := cutIs hs none (some 1)
    obtain ⟨ms2, e2, l2', m2⟩ := cutIs hs (some 1) none
    refine ⟨_, rfl, _, rfl, l, _, rfl, SqL.of hl6, fun p1 hp1 => ?_⟩
    rw [e1]
    have s7 := sameNew hp1 (.lst (ms1.map V.int))
    have n7 := upd_same (H := H6) (a := p1) (o := .lst (ms1.map V.int))
    generalize upd H6 p1 (.lst (ms1.map V.int)) = H7 at s7 n7
    refine ⟨_, rfl, p1, D, _, _, rfl, rfl, n7, s7 _ _ hD6, sz _ (by rw [List.length_map, List.length_map]; omega), fun p2 hp2 => ?_⟩
    have s8 := s7.trans (sameNew hp2 (.lst (ms1.map V.int ++ ks.map V.int)))
    have n8 := upd_same (H := H7) (a := p2) (o := .lst (ms1.map V.int ++ ks.map V.int))
    generalize upd H7 p2 (.lst (ms1.map V.int ++ ks.map V.int)) = H8 at s8 n8
    refine ⟨_, rfl, _, rfl, l, _, rfl, SqL.of (s8 _ _ hl6), fun p3 hp3 => ?_⟩
    rw [e2]
    have s9 := sameNew hp3 (.lst (ms2.map V.int))
    have n9 := upd_same (H := H8) (a := p3) (o := .lst (ms2.map V.int))
    generalize upd H8 p3 (.lst (ms2.map V.int)) = H9 at s9 n9
    refine ⟨p2, p3, _, _, rfl, rfl, s9 _ _ n8, n9, sz _ (by rw [List.length_append, List.length_map, List.length_map, List.length_map]; omega), fun p4 hp4 => ?_⟩
    have s10 := sameNew hp4 (.lst (ms1.map V.int ++ ks.map V.int ++ ms2.map V.int))
    have n10 := upd_same (H := H9) (a := p4) (o := .lst (ms1.map V.int ++ ks.map V.int ++ ms2.map V.int))
    generalize upd H9 p4 (.lst (ms1.map V.int ++ ks.map V.int ++ ms2.map V.int)) = H10 at s10 n10
    refine ⟨p4, _, rfl, .inl ⟨SqL.of n10, fun t ht => ?_⟩⟩
    refine Q0 _ t (ms1 ++ ks ++ ms2) (((s6.trans s8).trans (s9.trans s10)).trans (sameNew ht _)) (by rw [List.map_append, List.map_append]; exact SqT.of upd_same) (fun k hk => ?_) (by rw [List.length_append, List.length_append]; omega)
    rcases List.mem_append.mp hk with h | h
    · rcases List.mem_append.mp h with h | h
      · exact ph _ (m1 _ h)
      · exact pk _ h
    · exact ph _ (m2 _ h)
end
end K34

/-! law k34: a problem that grows. Behind K34k. -/
namespace K34
open PySem L2
/-! a problem that grows -/
section
variable {P : Program} {w : World} {K : PySem.W.Frag} {mg : Str → Option Value} {base : Heap} {aK C CN CT CP CM : Addr}
theorem InR.mono {n m : Nat} {x : Int} (h : InR n x) (l : n ≤ m) : InR m x := ⟨h.1, by have := h.2; omega⟩
theorem Dom.snocT {T : List Tm} {As : List At} (D : Dom T As) {z : Str} {ps : List Int} (h : ∀ i ∈ ps, InR T.length i) : Dom (T ++ [(z, ps)]) As := by
  have l : T.length ≤ (T ++ [(z, ps)]).length := by rw [List.length_append]; omega
  refine ⟨fun t ht q hq => ?_, fun x y hx => ⟨(D.am x y hx).1.mono l, (D.am x y hx).2.mono l⟩⟩
  rcases List.mem_append.mp ht with h' | h'
  · exact (D.tm t h' q hq).mono l
  · rw [List.mem_singleton.mp h'] at hq
    exact (h q hq).mono l
theorem Dom.snocA {T : List Tm} {As : List At} (D : Dom T As) {a : At} (h : ∀ x y, a = .same x y → InR T.length x ∧ InR T.length y) : Dom T (As ++ [a]) := by
  refine ⟨D.tm, fun x y hx => ?_⟩
  rcases List.mem_append.mp hx with h' | h'
  · exact D.am x y h'
  · exact h x y (List.mem_singleton.mp h').symm
theorem dom0 : Dom [] [] := ⟨fun _ h => (nomatch h), fun _ _ h => (nomatch h)⟩
theorem go_add {H : Hp} {p tl al rl q : Addr} {T : List Tm} {As : List At} {Rs : List (List Int)} {z : Str} {ps : List Int} {Q : VK} {E : XK} (S : PrD K C H p tl al rl T As Rs) (hq : SqI K H q ps) (hz : nameB z = true) (hlow : Low z) (h3 : ps.length ≤ 3) (hp : ∀ i ∈ ps, InR T.length i) (hl : T.length < 60)
    (out : ∀ (H' : Hp) (more : List Tm) (k : Nat), PrD K C H' p tl al rl (T ++ more) As Rs → Fr1 H H' tl → more.length ≤ 1 → k < (T ++ more).length → ((z, ps) ∉ T → more = [(z, ps)]) → Q (.int (k : Nat)) H') : spAdd K C CN CT CM [.ref p, .str z, .ref q] H Q E := by
  refine ⟨p, tl, al, rl, q, T, As, Rs, z, ps, rfl, ⟨S.pr, hq, hlow, by omega, fun i hi => ?_, by omega⟩, ?_⟩
  · have := hp i hi; have h1 := this.1; have h2 := this.2; omega
  have hb : bad T ps = false := not_bad h3 fun i k hk => by have := hp k (List.mem_of_getElem? hk); have h1 := this.1; have h2 := this.2; omega
  by_cases hm : (z, ps) ∈ T
  · have e : addT T (nameB z) (z, ps) = (.num (T.idxOf (z, ps)), T) := by
      unfold addT
      rw [if_neg (by rw [hz]; decide), if_neg (by show ¬ bad T ps = true; rw [hb]; decide), if_pos hm]
    rw [e]
    intro H' pr f
    refine out H' [] _ ⟨by rw [List.append_nil]; exact pr, by rw [List.append_nil]; exact S.dm, by rw [List.append_nil]; exact S.t3, by rw [List.append_nil]; exact S.tN⟩ f (Nat.zero_le _) ?_ (fun h => absurd hm h)
    rw [List.append_nil]
    exact List.idxOf_lt_length_of_mem hm
  · have e : addT T (nameB z) (z, ps) = (.num T.length, T ++ [(z, ps)]) := by
      unfold addT
      rw [if_neg (by rw [hz]; decide), if_neg (by show ¬ bad T ps = true; rw [hb]; decide), if_neg hm, if_neg (by omega)]
    rw [e]
    intro H' pr f
    refine out H' [(z, ps)] _ ⟨pr, S.dm.snocT hp, fun t ht => ?_, by rw [List.length_append, List.length_singleton]; omega⟩ f (Nat.le_refl _) (by rw [List.length_append, List.length_singleton]; omega) (fun _ => rfl)
    rcases List.mem_append.mp ht with h' | h'
    · exact S.t3 t h'
    · rw [List.mem_singleton.mp h']
      show ps.length ≤ 1000
      omega
theorem go_plain {H : Hp} {p tl al rl : Addr} {T : List Tm} {As : List At} {Rs : List (List Int)} {z : Str} {Q : VK} {E : XK} (S : PrD K C H p tl al rl T As Rs) (hz : nameB z = true) (hlow : Low z) (hl : As.length < 40)
    (out : ∀ (H' : Hp) (more : List At) (k : Nat), PrD K C H' p tl al rl T (As ++ more) Rs → Fr2 H H' al rl → more.length ≤ 1 → 1 ≤ (As ++ more).length → Q (.int (k : Nat)) H') : spPlain K C CN CT CP CM [.ref p, .str z] H Q E := by
  refine ⟨p, tl, al, rl, T, As, Rs, z, rfl, S.pr, hlow, by omega, ?_⟩
  by_cases hm : At.plain z ∈ As
  · have e : addP As z = (.num (As.idxOf (.plain z) + 1), As) := by
      unfold addP
      rw [if_neg (by rw [hz]; decide), if_pos hm]
    rw [e]
    intro H' pr f
    exact out H' [] _ ⟨by rw [List.append_nil]; exact pr, by rw [List.append_nil]; exact S.dm, S.t3, S.tN⟩ f (Nat.zero_le _) (by rw [List.append_nil]; exact List.length_pos_of_mem hm)
  · have e : addP As z = (.num (As.length + 1), As ++ [.plain z]) := by
      unfold addP
      rw [if_neg (by rw [hz]; decide), if_neg hm, if_neg (by omega)]
    rw [e]
    intro H' pr f
    exact out H' [.plain z] _ ⟨pr, S.dm.snocA (fun x y h => nomatch h), S.t3, S.tN⟩ f (Nat.le_refl _) (by rw [List.length_append, List.length_singleton]; omega)
theorem go_same {H : Hp} {p tl al rl : Addr} {T : List Tm} {As : List At} {Rs : List (List Int)} {a b : Int} {Q : VK} {E : XK} (S : PrD K C H p tl al rl T As Rs) (ha : InR T.length a) (hb : InR T.length b) (hl : As.length < 40)
    (out : ∀ (H' : Hp) (more : List At) (k : Nat), PrD K C H' p tl al rl T (As ++ more) Rs → Fr2 H H' al rl → more.length ≤ 1 → 1 ≤ (As ++ more).length → Q (.int (k : Nat)) H') : spSame K C CN CT CP CM [.ref p, .int a, .int b] H Q E := by
  have tN := S.tN
  obtain ⟨a0, a1⟩ := id ha
  obtain ⟨b0, b1⟩ := id hb
  refine ⟨p, tl, al, rl, T, As, Rs, a, b, rfl, S.pr, ⟨by omega, by omega⟩, ⟨by omega, by omega⟩, by omega, ?_⟩
  by_cases hm : At.same b a ∈ As
  · have e : addS T.length As a b = (.num (As.idxOf (.same b a) + 1), As) := by
      unfold addS
      rw [if_neg (by omega), if_pos hm]
    rw [e]
    intro H' pr f
    exact out H' [] _ ⟨by rw [List.append_nil]; exact pr, by rw [List.append_nil]; exact S.dm, S.t3, S.tN⟩ f (Nat.zero_le _) (by rw [List.append_nil]; exact List.length_pos_of_mem hm)
  by_cases hm2 : At.same a b ∈ As
  · have e : addS T.length As a b = (.num (As.idxOf (.same a b) + 1), As) := by
      unfold addS
      rw [if_neg (by omega), if_neg hm, if_pos hm2]
    rw [e]
    intro H' pr f
    exact out H' [] _ ⟨by rw [List.append_nil]; exact pr, by rw [List.append_nil]; exact S.dm, S.t3, S.tN⟩ f (Nat.zero_le _) (by rw [List.append_nil]; exact List.length_pos_of_mem hm2)
  · have e : addS T.length As a b = (.num (As.length + 1), As ++ [.same a b]) := by
      unfold addS
      rw [if_neg (by omega), if_neg hm, if_neg hm2, if_neg (by omega)]
    rw [e]
    intro H' pr f
    exact out H' [.same a b] _ ⟨pr, S.dm.snocA (fun x y h => by cases h; exact ⟨ha, hb⟩), S.t3, S.tN⟩ f (Nat.le_refl _) (by rw [List.length_append, List.length_singleton]; omega)
theorem Fr1.after {H H1 H' : Hp} {z : Addr} (f : Fr1 H1 H' z) (s : Same H H1) : Fr1 H H' z := fun b o e n => f b o (s b o e) n
theorem Fr1.fresh {H H1 H' : Hp} {z : Addr} (f : Fr1 H1 H' z) (s : Same H H1) (h : H z = none) : Same H H' := fun b o e => f b o (s b o e) (ne_of_none e h)
theorem Fr2.fresh {H H1 H' : Hp} {z y : Addr} (f : Fr2 H1 H' z y) (s : Same H H1) (h : H z = none) (h' : H y = none) : Same H H' := fun b o e => f b o (s b o e) (ne_of_none e h) (ne_of_none e h')
/-- a made problem -/
theorem madeD {H H1 : Hp} {x dx tl al rl : Addr} (hx : H x = none) (hdx : H dx = none) (hne : dx ≠ x) (h1 : (upd (upd H dx (.own x)) x (.ins C dx [])) tl = none) (h2 : (upd (upd H dx (.own x)) x (.ins C dx [])) al = none)
    (h3 : (upd (upd H dx (.own x)) x (.ins C dx [])) rl = none) (na : al ≠ tl) (nr : rl ≠ tl) (nx : rl ≠ al) (k1 : H1 x = some (.ins C dx (flds tl al rl))) (k2 : H1 tl = some (.lst [])) (k3 : H1 al = some (.lst [])) (k4 : H1 rl = some (.lst []))
    (k5 : ∀ b o, (upd (upd H dx (.own x)) x (.ins C dx [])) b = some o → b ≠ x → H1 b = some o) : PrD K C H1 x tl al rl [] [] [] ∧ Same H H1 ∧ H tl = none ∧ H al = none ∧ H rl = none := by
  obtain ⟨pr1, s1, ft, fa, fr⟩ := made (K := K) hx hdx hne h1 h2 h3 na nr nx k1 k2 k3 k4 k5
  exact ⟨⟨pr1, dom0, fun _ h => (nomatch h), by show 0 ≤ 100; decide⟩, s1, ft, fa, fr⟩
def sp_cellw (K : PySem.W.Frag) : Sp := fun vs H Q _ => ∃ (a : Addr) (ns : List Int) (k : Int), vs = [.ref a, .int k] ∧ SqL K H a (ns.map V.int) ∧ ns.length ≤ 1000 ∧ 0 ≤ k ∧ k ≤ 1000 ∧ ∀ i : Int, Q (.int i) H
abbrev s__law_cell_at : Stmt := sCell
theorem sc__law_cell_at : FnScope ["_law_script", "_law_k"] ["_law_script", "_law_k"] (defScope s__law_cell_at) := ⟨rfl, rfl, rfl, by decide +kernel, rfl, by decide +kernel, by decide +kernel⟩
theorem ok_cellw {f : Addr} {fd : FuncData} (F : Fun K "_law_cell_at" "_law_cell_at" s__law_cell_at f fd) (T : Txt K mg aK C CN CT CP CM) : FnOk P w K mg base CX0 1 f fd ["_law_script", "_law_k"] (sp_cellw K) := by
  refine F.ok sc__law_cell_at (fun vs H Q E h => ?_) (fun cdv A outer s H vs Q E hr h => ?_)
  · obtain ⟨a, ns, k, rfl, _⟩ := h
    rfl
  obtain ⟨a, ns, k, rfl, hS, n1000, k0, k1, q⟩ := h
  refine ⟨_, (pss_cons (ps_if (pt_cmpR op_eq (pe_callB call_len_seq rfl T.len PySem.boot_len (pa_cons (pv 0) pa_nil)) pe_int (nomark _))
      (pss_one (ps_ret (pv 1)))
      pss_nil)
    (pss_one (ps_ret (pe_op op_add (pe_ix ix_list (pv 0) (pe_op op_mod (pv 1) (pe_callB call_len_seq rfl T.len PySem.boot_len (pa_cons (pv 0) pa_nil))) (fun _ _ => rfl)) (pe_op op_mul pe_int (pe_op op_fdiv (pv 1) (pe_callB call_len_seq rfl T.len PySem.boot_len (pa_cons (pv 0) pa_nil)))))))), ?_⟩
  refine ⟨_, rfl, a, _, rfl, .inl hS, rfl, _, rfl, ite2 (fun c => ⟨_, rfl, q k⟩) (fun c => ?_)⟩
  have c' : (0 : Int) < (((ns.map V.int).length : Nat) : Int) := by
    have : ¬ (((ns.map V.int).length : Nat) : Int) = 0 := fun z => c (by rw [z]; exact decide_eq_true rfl)
    omega
  have m := modB k c'
  have sm : (((ns.map V.int).length : Nat) : Int) < 1073741824 := by rw [List.length_map]; omega
  have il : InR ns.length (k % (((ns.map V.int).length : Nat) : Int)) := by rw [List.length_map] at m ⊢; exact m
  refine ⟨_, rfl, _, rfl, _, rfl, a, _, rfl, .inl hS, _, _, rfl, rfl, c', a, _, _, _, rfl, rfl, hS, at_rf il, _, rfl, _, rfl, a, _, rfl, .inl hS, _, _, rfl, rfl, ⟨c', sm⟩, _, _, rfl, rfl, .inl ⟨by decide, by decide⟩, _, _, rfl, rfl, q _⟩
end
end K34

/-! law k34: small problems. Behind K34l. -/
namespace K34
open PySem L2
/-! small problems -/
def Wf (T : List Tm) : Prop := ∀ (i : Nat) (t : Tm), T[i]? = some t → ∀ q ∈ t.2, InR i q
def wsum : List Tm → Nat
  | [] => 0
  | t :: T => 3 ^ t.2.length + wsum T
theorem wsum_append : ∀ A B : List Tm, wsum (A ++ B) = wsum A + wsum B
  | [], B => by simp [wsum]
  | t :: A, B => by
    rw [List.cons_append]
    simp only [wsum]
    rw [wsum_append A B]
    omega
theorem Wf.nil : Wf [] := fun i t h => by simp at h
theorem Wf.snoc {T : List Tm} (h : Wf T) {z : Str} {ps : List Int} (hp : ∀ i ∈ ps, InR T.length i) : Wf (T ++ [(z, ps)]) := fun i t ht q hq => by
  by_cases hi : i < T.length
  · rw [List.getElem?_append_left hi] at ht
    exact h i t ht q hq
  · rw [List.getElem?_append_right (by omega)] at ht
    have e : i - T.length = 0 := by
      have := (List.getElem?_eq_some_iff.mp ht).1
      simp at this
      omega
    rw [e] at ht
    cases ht
    have := hp q hq
    exact this.mono (by omega)
section
variable {P : Program} {w : World} {K : PySem.W.Frag} {mg : Str → Option Value} {base : Heap} {aK C CN CT CP CM : Addr} {f fC : Addr} {fd dC : FuncData}
variable {fI fA fQ fS : Addr} {dI dA' dQ dS : FuncData}
/-- a small problem -/
structure PrS (K : PySem.W.Frag) (C : Addr) (H : Hp) (p tl al rl : Addr) (T : List Tm) (As : List At) (n : Nat) : Prop where
  d : PrD K C H p tl al rl T As []
  wf : Wf T
  ws : wsum T ≤ n
theorem PrS.same {H H' : Hp} {p tl al rl : Addr} {T : List Tm} {As : List At} {n : Nat} (h : PrS K C H p tl al rl T As n) (s : Same H H') : PrS K C H' p tl al rl T As n := ⟨h.d.same s, h.wf, h.ws⟩
theorem go_addS {H : Hp} {p tl al rl q : Addr} {T : List Tm} {As : List At} {z : Str} {ps : List Int} {n : Nat} {Q : VK} {E : XK} (S : PrS K C H p tl al rl T As n) (hq : SqI K H q ps) (hz : nameB z = true) (hlow : Low z) (h3 : ps.length ≤ 3) (hp : ∀ i ∈ ps, InR T.length i) (hl : T.length < 60)
    (out : ∀ (H' : Hp) (more : List Tm) (k : Nat), PrS K C H' p tl al rl (T ++ more) As (n + 3 ^ ps.length) → Fr1 H H' tl → more.length ≤ 1 → 1 ≤ (T ++ more).length → ((z, ps) ∉ T → more = [(z, ps)]) → Q (.int (k : Nat)) H') : spAdd K C CN CT CM [.ref p, .str z, .ref q] H Q E := by
  have ws := S.ws
  by_cases hm : (z, ps) ∈ T
  · refine ⟨p, tl, al, rl, q, T, As, [], z, ps, rfl, ⟨S.d.pr, hq, hlow, by omega, fun i hi => ?_, by omega⟩, ?_⟩
    · have := hp i hi; have h1 := this.1; have h2 := this.2; omega
    have hb : bad T ps = false := not_bad h3 fun i k hk => by have := hp k (List.mem_of_getElem? hk); have h1 := this.1; have h2 := this.2; omega
    have e : addT T (nameB z) (z, ps) = (.num (T.idxOf (z, ps)), T) := by
      unfold addT
      rw [if_neg (by rw [hz]; decide), if_neg (by show ¬ bad T ps = true; rw [hb]; decide), if_pos hm]
    rw [e]
    intro H' pr f
    have en : T ++ [] = T := List.append_nil T
    refine out H' [] _ ⟨⟨by rw [en]; exact pr, by rw [en]; exact S.d.dm, by rw [en]; exact S.d.t3, by rw [en]; exact S.d.tN⟩, by rw [en]; exact S.wf, by rw [en]; exact Nat.le_trans ws (Nat.le_add_right _ _)⟩ f (Nat.zero_le _) ?_ (fun h => absurd hm h)
    rw [en]
    exact List.length_pos_of_mem hm
  · refine go_add S.d hq hz hlow h3 hp hl fun H' more k pr f m1 kl hn => ?_
    have em := hn hm
    subst em
    exact out H' [(z, ps)] k ⟨pr, S.wf.snoc hp, by rw [wsum_append]; show wsum T + (3 ^ ps.length + 0) ≤ _; omega⟩ f m1 (by omega) hn
theorem go_plainS {H : Hp} {p tl al rl : Addr} {T : List Tm} {As : List At} {z : Str} {n : Nat} {Q : VK} {E : XK} (S : PrS K C H p tl al rl T As n) (hz : nameB z = true) (hlow : Low z) (hl : As.length < 40)
    (out : ∀ (H' : Hp) (more : List At) (k : Nat), PrS K C H' p tl al rl T (As ++ more) n → Fr2 H H' al rl → more.length ≤ 1 → 1 ≤ (As ++ more).length → Q (.int (k : Nat)) H') : spPlain K C CN CT CP CM [.ref p, .str z] H Q E :=
  go_plain S.d hz hlow hl fun H' more k pr => out H' more k ⟨pr, S.wf, S.ws⟩
theorem go_sameS {H : Hp} {p tl al rl : Addr} {T : List Tm} {As : List At} {a b : Int} {n : Nat} {Q : VK} {E : XK} (S : PrS K C H p tl al rl T As n) (ha : InR T.length a) (hb : InR T.length b) (hl : As.length < 40)
    (out : ∀ (H' : Hp) (more : List At) (k : Nat), PrS K C H' p tl al rl T (As ++ more) n → Fr2 H H' al rl → more.length ≤ 1 → 1 ≤ (As ++ more).length → Q (.int (k : Nat)) H') : spSame K C CN CT CP CM [.ref p, .int a, .int b] H Q E :=
  go_same S.d ha hb hl fun H' more k pr => out H' more k ⟨pr, S.wf, S.ws⟩
def GoodZ (z : Str) : Prop := nameB z = true ∧ Low z
theorem abc_at {i : Int} (h0 : 0 ≤ i) (h1 : i < 3) : ∃ z, atI [V.str "a", V.str "b", V.str "c"] i = some (.str z) ∧ GoodZ z ∧ ∀ j : Int, 0 ≤ j → j < 3 → j ≠ i → atI [V.str "a", V.str "b", V.str "c"] j ≠ some (.str z) := by
  have : i = 0 ∨ i = 1 ∨ i = 2 := by omega
  rcases this with rfl | rfl | rfl
  all_goals
    refine ⟨_, rfl, ⟨by decide +kernel, by decide +kernel, by decide +kernel⟩, fun j j0 j1 jn => ?_⟩
    have : j = 0 ∨ j = 1 ∨ j = 2 := by omega
    rcases this with rfl | rfl | rfl <;> first | exact absurd rfl jn | exact (by decide +kernel)
theorem pa_at {i : Int} (h0 : 0 ≤ i) (h1 : i < 2) : ∃ z, atI [V.str "p", V.str "a"] i = some (.str z) ∧ GoodZ z := by
  have : i = 0 ∨ i = 1 := by omega
  rcases this with rfl | rfl
  · exact ⟨_, rfl, by decide +kernel, by decide +kernel, by decide +kernel⟩
  · exact ⟨_, rfl, by decide +kernel, by decide +kernel, by decide +kernel⟩
theorem zo_at {i : Int} (h0 : 0 ≤ i) (h1 : i < 2) : ∃ k : Int, atI [V.int 0, V.int 1] i = some (.int k) ∧ 0 ≤ k ∧ k < 2 := by
  have : i = 0 ∨ i = 1 := by omega
  rcases this with rfl | rfl
  · exact ⟨0, rfl, by decide, by decide⟩
  · exact ⟨1, rfl, by decide, by decide⟩
/-- the constants at the start -/
def CstT (T : List Tm) (i : Nat) : Prop := T.length = i ∧ ∀ (j : Nat) (t : Tm), T[j]? = some t → t.2 = [] ∧ atI [V.str "a", V.str "b", V.str "c"] (j : Int) = some (.str t.1)
def sp_small (K : PySem.W.Frag) (C : Addr) : Sp := fun vs H Q _ => ∃ (a : Addr) (ns : List Int) (fs an : Int), vs = [.ref a, .int fs, .int an] ∧ SqL K H a (ns.map V.int) ∧ ns.length ≤ 1000 ∧ 0 ≤ fs ∧ fs ≤ 100 ∧ 0 ≤ an ∧ an ≤ 20 ∧
  ∀ (H' : Hp) (p tl al rl : Addr) (T : List Tm) (As : List At), Same H H' → H p = none → H tl = none → H al = none → H rl = none → PrS K C H' p tl al rl T As 12 → 2 ≤ T.length → T.length ≤ 6 → As.length ≤ an.toNat → Q (.ref p) H'
theorem sc__law_small_by : FnScope ["_law_script", "_law_first", "_law_atoms", "_law_problem", "_law_cell", "_law_k", "_law_many"] ["_law_script", "_law_first", "_law_atoms"] (defScope s__law_small_by) := ⟨rfl, rfl, rfl, by decide +kernel, rfl, by decide +kernel, by decide +kernel⟩
set_option maxHeartbeats 4000000 in
theorem ok_small (F : Fun K "_law_small_by" "_law_small_by" s__law_small_by f fd) (T : Txt K mg aK C CN CT CP CM) (mrange : mg "range" = none) (mmax : mg "max" = none) (G : Own P w K mg base C CN CT CP CM fI fA fQ fS dI dA' dQ dS) (BC : FB P w K mg base CX0 1 "_law_cell_at" fC dC ["_law_script", "_law_k"] (sp_cellw K)) : FnOk P w K mg base CX0 5 f fd ["_law_script", "_law_first", "_law_atoms"] (sp_small K C) := by
  refine F.ok sc__law_small_by (fun vs H Q E h => ?_) (fun cdv A outer s H vs Q E hr h => ?_)
  · obtain ⟨a, ns, fs, an, rfl, _⟩ := h
    rfl
  obtain ⟨a, ns, fs, an, rfl, hS, n1000, f0, f1, a0, a1, Q0⟩ := h
  have hr1 : Room 1 _ := hr.mono (by decide)
  have hr2 : Room 2 _ := hr.mono (by decide)
  refine ⟨_, (pss_cons (ps_set (i := 3) sc__law_small_by.nd rfl (Or.inl rfl) (pe_make0 G.mI G.I hr2 rfl G.gI G.bI .nil pass0))
    (pss_cons (ps_set (i := 4) sc__law_small_by.nd rfl (Or.inl rfl) (pe_call BC.ok hr1 rfl BC.m BC.kp BC.b .nil pass0 (pa_cons (pv 0) (pa_cons (pv 1) pa_nil))))
    (pss_cons (ps_for PassesOwn.never rfl (pi_range1 rfl mrange (pa_cons (pe_op op_add pe_int (pe_op op_mod (pv 4) pe_int)) pa_nil)) (pg_name (i := 5) sc__law_small_by.nd rfl (Or.inl rfl))
      (pss_one (ps_expr (pe_meth (pv 3) T.cl G.mA G.A hr G.bA .nil passF (pa_cons (pe_ix ix_list (pe_lst (pa_cons pe_str (pa_cons pe_str (pa_cons pe_str pa_nil)))) (pv 5) (fun _ _ => rfl)) (pa_cons (pe_tup pa_nil) pa_nil))))))
    (pss_cons (ps_for PassesOwn.never rfl (pi_range1 rfl mrange (pa_cons (pe_op op_mod (pe_call BC.ok hr1 rfl BC.m BC.kp BC.b .nil pass0 (pa_cons (pv 0) (pa_cons (pe_op op_add (pv 1) pe_int) pa_nil))) pe_int) pa_nil)) (pg_name (i := 5) sc__law_small_by.nd rfl (Or.inl rfl))
      (pss_one (ps_expr (pe_meth (pv 3) T.cl G.mA G.A hr G.bA .nil passF (pa_cons pe_str (pa_cons (pe_tup (pa_cons (pe_op op_mod (pe_op op_add (pe_op op_fdiv (pe_call BC.ok hr1 rfl BC.m BC.kp BC.b .nil pass0 (pa_cons (pv 0) (pa_cons (pe_op op_add (pe_op op_add (pv 1) pe_int) (pv 5)) pa_nil))) pe_int) (pv 5)) (pe_callB call_len_seq rfl T.len PySem.boot_len (pa_cons (pe_fld (pv 3) rfl) pa_nil))) pa_nil)) pa_nil))))))
    (pss_cons (ps_for PassesOwn.never rfl (pi_range1 rfl mrange (pa_cons (pv 2) pa_nil)) (pg_name (i := 5) sc__law_small_by.nd rfl (Or.inl rfl))
      (pss_cons (ps_set (i := 4) sc__law_small_by.nd rfl (Or.inl rfl) (pe_call BC.ok hr1 rfl BC.m BC.kp BC.b .nil pass0 (pa_cons (pv 0) (pa_cons (pe_op op_add (pe_op op_add (pv 1) pe_int) (pv 5)) pa_nil))))
        (pss_cons (ps_set (i := 6) sc__law_small_by.nd rfl (Or.inl rfl) (pe_callB call_len_seq rfl T.len PySem.boot_len (pa_cons (pe_fld (pv 3) rfl) pa_nil)))
        (pss_one (ps_if (pt_cmpR op_eq (pe_op op_mod (pv 4) pe_int) pe_int (nomark _))
          (pss_one (ps_expr (pe_meth (pv 3) T.cl G.mQ G.Q hr G.bQ .nil passF (pa_cons (pe_ix ix_list (pe_lst (pa_cons pe_str (pa_cons pe_str pa_nil))) (pe_op op_mod (pe_op op_fdiv (pv 4) pe_int) pe_int) (fun _ _ => rfl)) pa_nil))))
          (pss_one (ps_if (pt_cmpR op_lt (pe_op op_mod (pv 4) pe_int) pe_int (nomark _))
              (pss_one (ps_expr (pe_meth (pv 3) T.cl G.mS G.S hr G.bS .nil passF (pa_cons (pe_ix ix_list (pe_lst (pa_cons pe_int (pa_cons pe_int pa_nil))) (pe_op op_mod (pe_op op_fdiv (pv 4) pe_int) pe_int) (fun _ _ => rfl)) (pa_cons (pe_op op_sub pe_int (pe_op op_mod (pe_op op_fdiv (pv 4) pe_int) pe_int)) pa_nil)))))
              (pss_one (ps_if (pt_cmpR op_lt (pe_op op_mod (pv 4) pe_int) pe_int (nomark _))
                  (pss_one (ps_expr (pe_meth (pv 3) T.cl G.mS G.S hr G.bS .nil passF (pa_cons (pe_op op_sub (pv 6) pe_int) (pa_cons (pe_callB (call_max2 rfl) rfl mmax PyProof.Rows.Boot.max (pa_cons pe_int (pa_cons (pe_op op_sub (pv 6) pe_int) pa_nil))) pa_nil)))))
                  (pss_one (ps_expr (pe_meth (pv 3) T.cl G.mS G.S hr G.bS .nil passF (pa_cons (pe_op op_mod (pe_op op_fdiv (pv 4) pe_int) (pv 6)) (pa_cons (pe_op op_mod (pe_op op_add (pe_op op_add (pe_op op_fdiv (pv 4) pe_int) pe_int) (pe_op op_fdiv (pe_op op_fdiv (pv 4) pe_int) (pv 6))) (pv 6)) pa_nil))))))))))))))
    (pss_one (ps_ret (pv 3)))))))), ?_⟩
  intro p dx np ndx nex
  refine ⟨p, dx, rfl, upd_same, fun tl al rl H1 ht ha hrr na nr nx k1 k2 k3 k4 k5 => ⟨rfl, ?_⟩⟩
  obtain ⟨S1, s1, ft, fa, fr⟩ := madeD (K := K) (C := C) np ndx nex ht ha hrr na nr nx k1 k2 k3 k4 k5
  refine ⟨_, rfl, _, rfl, a, ns, fs, rfl, s1.seq hS, n1000, f0, by omega, fun c => ?_⟩
  have b2 := modB c (show (0 : Int) < 2 by decide)
  refine ⟨_, rfl, _, _, rfl, rfl, (by show (0 : Int) < 2; decide), _, _, rfl, rfl, _, rfl, (by show -(2 ^ 62) ≤ 2 + c % 2; omega), (by show 2 + c % 2 < 2 ^ 62; omega), for_range (lo := 0) (n := (2 + c % 2).toNat) (fun i σ H' => ∃ (v5 : Option V) (T' : List Tm), σ = [some (.ref a), some (.int fs), some (.int an), some (.ref p), some (.int c), v5, none] ∧ Same H H' ∧ PrS K C H' p tl al rl T' [] i ∧ CstT T' i) ⟨none, [], rfl, s1, ⟨S1, Wf.nil, Nat.le_refl _⟩, rfl, fun j t h => by simp at h⟩ ?_ ?_⟩
  · rintro i σ H2 hi ⟨v5, T', rfl, s2, S2, cs⟩
    have hi3 : i < 3 := by omega
    obtain ⟨⟨dx2, ho2⟩, _⟩ := id S2.d.pr
    obtain ⟨z, hz, gz, uz⟩ := abc_at (i := 0 + ((i : Nat) : Int)) (by omega) (by omega)
    obtain ⟨cl, ct⟩ := cs
    refine ⟨_, rfl, p, dx2, _, rfl, ho2, no_add_term _ _ _, (by show 3 ≤ sizeLine; decide), fun l hl => ?_⟩
    have s3 := sameNew hl (.lst [V.str "a", V.str "b", V.str "c"])
    have n3 := upd_same (H := H2) (a := l) (o := .lst [V.str "a", V.str "b", V.str "c"])
    generalize upd H2 l (.lst [V.str "a", V.str "b", V.str "c"]) = H3 at s3 n3
    refine ⟨_, rfl, l, _, _, _, rfl, rfl, SqL.of n3, hz, (by show 0 ≤ sizeLine; decide), fun e he => ?_⟩
    have s4 := s3.trans (sameNew he (.tup []))
    dsimp only [tNil]
    refine go_addS (S2.same s4) (.inr (SqT.of upd_same)) gz.1 gz.2 (ps := []) (by show 0 ≤ 3; decide) (fun _ h => nomatch h) (by omega) (fun H' more k pr f m1 kl hn => ?_)
    have new : (z, ([] : List Int)) ∉ T' := fun hm => by
      obtain ⟨j, hj⟩ := List.mem_iff_getElem?.mp hm
      have hjl := (List.getElem?_eq_some_iff.mp hj).1
      exact uz (j : Int) (by omega) (by omega) (by omega) (ct j _ hj).2
    have em := hn new
    subst em
    refine ⟨_, T' ++ [(z, [])], rfl, f.fresh (s2.trans s4) ft, pr, by simp [cl], fun j t hj => ?_⟩
    by_cases hlt : j < T'.length
    · rw [List.getElem?_append_left hlt] at hj
      exact ct j t hj
    · have hjl := (List.getElem?_eq_some_iff.mp hj).1
      rw [List.length_append, List.length_singleton] at hjl
      have ej : j = T'.length := by omega
      rw [ej, List.getElem?_append_right (Nat.le_refl _), Nat.sub_self] at hj
      cases hj
      refine ⟨rfl, ?_⟩
      rw [ej, cl]
      have : (0 : Int) + ((i : Nat) : Int) = ((i : Nat) : Int) := by omega
      rw [← this]
      exact hz
  rintro σ H2 ⟨v5, T0, rfl, s2, S2, cl, ct⟩
  have cl2 : 2 ≤ T0.length ∧ T0.length ≤ 3 := by omega
  have S2' : PrS K C H2 p tl al rl T0 [] 3 := ⟨S2.d, S2.wf, by have := S2.ws; omega⟩
  refine ⟨_, rfl, _, rfl, _, _, rfl, rfl, a, ns, _, rfl, s2.seq hS, n1000, (by show 0 ≤ fs + 1; omega), (by show fs + 1 ≤ 1000; omega), fun c1 => ?_⟩
  have b4 := modB c1 (show (0 : Int) < 4 by decide)
  refine ⟨_, _, rfl, rfl, (by show (0 : Int) < 4; decide), _, rfl, (by show -(2 ^ 62) ≤ c1 % 4; omega), (by show c1 % 4 < 2 ^ 62; omega), for_range (lo := 0) (n := (c1 % 4).toNat) (fun i σ H' => ∃ (v5 : Option V) (T' : List Tm), σ = [some (.ref a), some (.int fs), some (.int an), some (.ref p), some (.int c), v5, none] ∧ Same H H' ∧ PrS K C H' p tl al rl T' [] (3 + 3 * i) ∧ 2 ≤ T'.length ∧ T'.length ≤ 3 + i) ⟨v5, T0, rfl, s2, S2', by omega, by omega⟩ ?_ ?_⟩
  · rintro i σ H3 hi ⟨v5', T', rfl, s3, S3, t2, t3⟩
    obtain ⟨⟨dx3, ho3⟩, ⟨ts, ht3, hT3⟩, _⟩ := id S3.d.pr
    have tl' : ts.length = T'.length := by rw [← hT3.length, List.length_map]
    have mpos : (0 : Int) < ((ts.length : Nat) : Int) := by omega
    refine ⟨_, rfl, p, dx3, _, rfl, ho3, no_add_term _ _ _, _, rfl, _, rfl, _, _, rfl, rfl, _, rfl, _, _, rfl, rfl, a, ns, _, rfl, s3.seq hS, n1000, (by show 0 ≤ fs + 2 + (0 + ((i : Nat) : Int)); omega), (by show fs + 2 + (0 + ((i : Nat) : Int)) ≤ 1000; omega), fun c2 => ⟨_, _, rfl, rfl, ⟨by decide, by decide⟩, _, rfl, _, _, rfl, rfl, _, rfl, p, C, dx3, _, _, rfl, ho3, T.cl, T.nT, flds_terms _ _ _, tl, _, rfl, .inl (SqL.of ht3), _, _, rfl, rfl, mpos, (by show 1 ≤ sizeLine; decide), fun e he => ?_⟩⟩
    have m1 := modB (c2 / 3 + (0 + ((i : Nat) : Int))) mpos
    have i1 : InR T'.length ((c2 / 3 + (0 + ((i : Nat) : Int))) % ((ts.length : Nat) : Int)) := by rw [← tl']; exact m1
    have s4 := sameNew he (.tup [.int ((c2 / 3 + (0 + ((i : Nat) : Int))) % ((ts.length : Nat) : Int))])
    dsimp only [tNil]
    refine go_addS (S3.same s4) (.inr (SqT.of upd_same)) (by decide +kernel) (by exact ⟨by decide +kernel, by decide +kernel⟩) (ps := [(c2 / 3 + (0 + ((i : Nat) : Int))) % ((ts.length : Nat) : Int)]) (by show 1 ≤ 3; decide) (fun k hk => by rw [List.mem_singleton.mp hk]; exact i1) (by omega) (fun H' more k pr f m1 kl hn => ?_)
    exact ⟨_, T' ++ more, rfl, f.fresh (s3.trans s4) ft, ⟨pr.d, pr.wf, by have := pr.ws; simp only [List.length_singleton] at this; omega⟩, by rw [List.length_append]; omega, by rw [List.length_append]; omega⟩
  rintro σ H3 ⟨v5', T', rfl, s3, S3, t2, t3⟩
  have S3' : PrS K C H3 p tl al rl T' [] 12 := ⟨S3.d, S3.wf, by have := S3.ws; omega⟩
  have t6 : T'.length ≤ 6 := by omega
  refine ⟨_, rfl, _, rfl, (by show -(2 ^ 62) ≤ an; omega), (by show an < 2 ^ 62; omega), for_range (lo := 0) (n := an.toNat) (fun i σ H' => ∃ (v4 v5 v6 : Option V) (As : List At), σ = [some (.ref a), some (.int fs), some (.int an), some (.ref p), v4, v5, v6] ∧ Same H H' ∧ PrS K C H' p tl al rl T' As 12 ∧ As.length ≤ i) ⟨_, v5', none, [], rfl, s3, S3', Nat.le_refl _⟩ ?_ ?_⟩
  · rintro i σ H4 hi ⟨v4, v5'', v6, As, rfl, s4, S4, lA⟩
    refine ⟨_, rfl, _, rfl, _, _, rfl, rfl, _, rfl, _, _, rfl, rfl, a, ns, _, rfl, s4.seq hS, n1000, (by show 0 ≤ fs + 6 + (0 + ((i : Nat) : Int)); omega), (by show fs + 6 + (0 + ((i : Nat) : Int)) ≤ 1000; omega), fun c3 => ?_⟩
    obtain ⟨⟨dx4, ho4⟩, ⟨ts, ht4, hT4⟩, _⟩ := id S4.d.pr
    have tl' : ts.length = T'.length := by rw [← hT4.length, List.length_map]
    have mpos : (0 : Int) < ((ts.length : Nat) : Int) := by omega
    have msm : ((ts.length : Nat) : Int) < 1073741824 := by omega
    have b9 := modB (c3 / 9) (show (0 : Int) < 2 by decide)
    have fin : ∀ (H' H5 : Hp) (more : List At) (v6' : Option V), Same H4 H5 → Fr2 H5 H' al rl → PrS K C H' p tl al rl T' (As ++ more) 12 → more.length ≤ 1 → ∃ (v4 v5 v6 : Option V) (As : List At), [some (.ref a), some (.int fs), some (.int an), some (.ref p), some (.int c3), some (.int (0 + ((i : Nat) : Int))), v6'] = [some (.ref a), some (.int fs), some (.int an), some (.ref p), v4, v5, v6] ∧ Same H H' ∧ PrS K C H' p tl al rl T' As 12 ∧ As.length ≤ i + 1 := fun H' H5 more v6' s5 f pr m1 => ⟨_, _, _, As ++ more, rfl, f.fresh (s4.trans s5) fa fr, pr, by rw [List.length_append]; omega⟩
    refine ⟨_, rfl, p, C, dx4, _, _, rfl, ho4, T.cl, T.nT, flds_terms _ _ _, tl, _, rfl, .inl (SqL.of ht4), ?_⟩
    refine ⟨_, rfl, _, _, rfl, rfl, (by show (0 : Int) < 9; decide), rfl, _, rfl, ite2 (fun _ => ?_) (fun _ => ?_)⟩
    · obtain ⟨z, hz, gz⟩ := pa_at b9.1 b9.2
      exact ⟨_, rfl, p, dx4, _, rfl, ho4, no_add_plain _ _ _, (by show 2 ≤ sizeLine; decide), fun l hl => ⟨_, rfl, _, _, rfl, rfl, ⟨by decide, by decide⟩, _, _, rfl, rfl, (by show (0 : Int) < 2; decide), l, _, _, _, rfl, rfl, SqL.of upd_same, hz, go_plainS (S4.same (sameNew hl _)) gz.1 gz.2 (by omega) (fun H' more k pr f m1 _ => fin H' _ more _ (sameNew hl _) f pr m1)⟩⟩
    refine ⟨_, rfl, _, _, rfl, rfl, (by show (0 : Int) < 9; decide), _, _, rfl, rfl, _, rfl, ite2 (fun _ => ?_) (fun _ => ?_)⟩
    · obtain ⟨k0, hk0, k1, k2⟩ := zo_at b9.1 b9.2
      refine ⟨_, rfl, p, dx4, _, rfl, ho4, no_add_same _ _ _, (by show 2 ≤ sizeLine; decide), fun l hl => ⟨_, rfl, _, _, rfl, rfl, ⟨by decide, by decide⟩, _, _, rfl, rfl, (by show (0 : Int) < 2; decide), l, _, _, _, rfl, rfl, SqL.of upd_same, hk0, _, rfl, _, _, rfl, rfl, ⟨by decide, by decide⟩, _, _, rfl, rfl, (by show (0 : Int) < 2; decide), _, _, rfl, rfl, go_sameS (S4.same (sameNew hl _)) ⟨k1, by omega⟩ ⟨by omega, by omega⟩ (by omega) (fun H' more k pr f m1 _ => fin H' _ more _ (sameNew hl _) f pr m1)⟩⟩
    refine ⟨_, rfl, _, _, rfl, rfl, (by show (0 : Int) < 9; decide), _, _, rfl, rfl, _, rfl, ite2 (fun _ => ?_) (fun _ => ?_)⟩
    · refine ⟨_, rfl, p, dx4, _, rfl, ho4, no_add_same _ _ _, _, rfl, _, _, rfl, rfl, _, rfl, _, _, rfl, rfl, _, _, rfl, go_sameS S4 ⟨by omega, by omega⟩ ?_ (by omega) (fun H' more k pr f m1 _ => fin H' _ more _ (Same.refl _) f pr m1)⟩
      constructor <;> split <;> omega
    · have m1 := modB (c3 / 9) mpos
      have m2 := modB (c3 / 9 + 1 + c3 / 9 / ((ts.length : Nat) : Int)) mpos
      rw [tl'] at m1 m2
      refine ⟨_, rfl, p, dx4, _, rfl, ho4, no_add_same _ _ _, _, rfl, _, _, rfl, rfl, ⟨by decide, by decide⟩, _, rfl, _, _, rfl, rfl, mpos, _, rfl, _, _, rfl, rfl, ⟨by decide, by decide⟩, _, _, rfl, rfl, _, rfl, _, _, rfl, rfl, ⟨by decide, by decide⟩, _, rfl, _, _, rfl, rfl, ⟨mpos, msm⟩, _, _, rfl, rfl, _, rfl, _, _, rfl, rfl, mpos, go_sameS S4 (by rw [tl']; exact m1) (by rw [tl']; exact m2) (by omega) (fun H' more k pr f m1 _ => fin H' _ more _ (Same.refl _) f pr m1)⟩
  rintro σ H4 ⟨v4, v5'', v6, As, rfl, s4, S4, lA⟩
  exact ⟨_, rfl, Q0 H4 p tl al rl T' As s4 np ft fa fr S4 t2 t6 lA⟩
end
end K34

/-! law k34: rows and slots of the tables. Behind K34m. -/
namespace K34
open PySem L2
def longF (n : Nat) (rs : List (List Int)) : List (List Int) := rs.flatMap fun r => (rng0 n).map fun v => r ++ [v]
def rowsF (n : Nat) : Nat → List (List Int)
  | 0 => [[]]
  | k + 1 => longF n (rowsF n k)
theorem longF_snoc (n : Nat) (rs : List (List Int)) (r : List Int) : longF n (rs ++ [r]) = longF n rs ++ (rng0 n).map fun v => r ++ [v] := by
  unfold longF
  rw [List.flatMap_append]
  simp
theorem longF_len (n : Nat) (rs : List (List Int)) : (longF n rs).length = rs.length * n := by
  induction rs with
  | nil => simp [longF]
  | cons r rs ih =>
    have : longF n (r :: rs) = ((rng0 n).map fun v => r ++ [v]) ++ longF n rs := rfl
    rw [this, List.length_append, List.length_map, rng0_len, ih, List.length_cons, Nat.succ_mul, Nat.add_comm]
theorem rowsF_len (n : Nat) : ∀ k, (rowsF n k).length = n ^ k
  | 0 => rfl
  | k + 1 => by
    show (longF n (rowsF n k)).length = _
    rw [longF_len, rowsF_len n k, Nat.pow_succ]
theorem rowsF_row (n : Nat) : ∀ k, ∀ r ∈ rowsF n k, r.length = k
  | 0, r, h => by
    rw [List.mem_singleton.mp h]
    rfl
  | k + 1, r, h => by
    obtain ⟨r', h1, h2⟩ := List.mem_flatMap.mp h
    obtain ⟨v, _, rfl⟩ := List.mem_map.mp h2
    rw [List.length_append, rowsF_row n k r' h1]
    rfl
theorem rng0_mem {n : Nat} {v : Int} (h : InR n v) : v ∈ rng0 n := by
  obtain ⟨h0, h1⟩ := h
  refine List.mem_map.mpr ⟨v.toNat, List.mem_range.mpr (by omega), ?_⟩
  show ((v.toNat : Nat) : Int) = v
  omega
theorem mem_rowsF {n : Nat} : ∀ (k : Nat) (r : List Int), r.length = k → (∀ v ∈ r, InR n v) → r ∈ rowsF n k
  | 0, r, h, _ => by
    cases r with
    | nil => exact List.mem_singleton.mpr rfl
    | cons a r => simp at h
  | k + 1, r, h, hv => by
    have hne : r ≠ [] := fun z => by rw [z] at h; simp at h
    have e := List.dropLast_concat_getLast hne
    refine List.mem_flatMap.mpr ⟨r.dropLast, mem_rowsF k _ (by rw [List.length_dropLast, h]; rfl) fun v hv' => hv v (List.dropLast_subset r hv'), ?_⟩
    exact List.mem_map.mpr ⟨r.getLast hne, rng0_mem (hv _ (List.getLast_mem hne)), e⟩
section
variable {P : Program} {w : World} {K : PySem.W.Frag} {mg : Str → Option Value} {base : Heap} {aK C CN CT CP CM : Addr} {f fL : Addr} {fd dL' : FuncData}
theorem Has.row {H : Hp} {a : Addr} {r : List Int} (h : SqT K H a (r.map V.int)) : Has K H (dR r) (.ref a) := Has.tup' h (HasL.ints r)
theorem nols_dR (rs : List (List Int)) : nols (rs.map dR) = true := nols_code nol_dR rs
def sp_longer (K : PySem.W.Frag) : Sp := fun vs H Q _ => ∃ (a : Addr) (n : Nat) (xs : List V) (rs : List (List Int)), vs = [.ref a, .int (n : Int)] ∧ SqL K H a xs ∧ HasL K H (rs.map dR) xs ∧ rs.length ≤ 300 ∧ n ≤ 3 ∧ (∀ r ∈ rs, r.length ≤ 900) ∧ ∀ (H' : Hp) (l : Addr) (us : List V), Same H H' → H l = none → H' l = some (.lst us) → HasL K H' ((longF n rs).map dR) us → Q (.ref l) H'
theorem sc__law_longer : FnScope ["_law_rows", "_law_size", "_law_found", "_law_row", "_law_value"] ["_law_rows", "_law_size"] (defScope s__law_longer) := ⟨rfl, rfl, rfl, by decide +kernel, rfl, by decide +kernel, by decide +kernel⟩
set_option maxHeartbeats 2000000 in
theorem ok_longer (F : Fun K "_law_longer" "_law_longer" s__law_longer f fd) (mrange : mg "range" = none) : FnOk P w K mg base CX0 1 f fd ["_law_rows", "_law_size"] (sp_longer K) := by
  refine F.ok sc__law_longer (fun vs H Q E h => ?_) (fun cdv A outer s H vs Q E hr h => ?_)
  · obtain ⟨a, n, xs, rs, rfl, _⟩ := h
    rfl
  obtain ⟨a, n, xs, rs, rfl, hq, hL, r300, n3, r900, Q0⟩ := h
  refine ⟨_, (pss_cons (ps_set (i := 2) sc__law_longer.nd rfl (Or.inl rfl) (pe_lst pa_nil))
    (pss_cons (ps_for PassesOwn.never rfl (pi_list (pv 0)) (pg_name (i := 3) sc__law_longer.nd rfl (Or.inl rfl))
      (pss_one (ps_for PassesOwn.never rfl (pi_range1 rfl mrange (pa_cons (pv 1) pa_nil)) (pg_name (i := 4) sc__law_longer.nd rfl (Or.inl rfl))
          (pss_one (ps_expr (pe_bm PySem.F.plainAttrs_list PySem.F.slot_list_append PySem.F.type_list_append mt_append (pv 2) (pa_cons (pe_op op_catA (pv 3) (pe_tup (pa_cons (pv 4) pa_nil))) pa_nil)))))))
    (pss_one (ps_ret (pv 2))))), ?_⟩
  have xl : xs.length = rs.length := by rw [← hL.length, List.length_map]
  refine ⟨(by show 0 ≤ sizeLine; decide), fun l hl => ?_⟩
  have s1 := sameNew hl (.lst [])
  have n1 := upd_same (H := H) (a := l) (o := .lst [])
  generalize upd H l (.lst []) = H1 at s1 n1
  refine ⟨_, rfl, a, rfl, ⟨_, s1.seq hq⟩, for_list (xs := xs) (fun i σ H' => ∃ (v3 v4 : Option V) (us : List V), σ = [some (.ref a), some (.int (n : Int)), some (.ref l), v3, v4] ∧ Same H H' ∧ H' l = some (.lst us) ∧ HasL K H' ((longF n (rs.take i)).map dR) us) ⟨none, none, [], rfl, s1, n1, HasL.nil⟩ (fun i σ H' _ ⟨_, _, _, _, s2, _⟩ => s2.seq hq) ?_ ?_⟩
  · rintro i x σ H2 hx ⟨v3, v4, us, rfl, s2, n2, hL2⟩
    obtain ⟨r, q, hr', rfl, sq⟩ := hasR_at (hL.keep s2.kt (nols_dR _)) hx
    have rm := List.mem_of_getElem? hr'
    have ib : i < rs.length := (List.getElem?_eq_some_iff.mp hr').1
    refine ⟨_, rfl, _, rfl, (by show -(2 ^ 62) ≤ ((n : Nat) : Int); omega), (by show ((n : Nat) : Int) < 2 ^ 62; omega), for_range (lo := 0) (n := ((n : Nat) : Int).toNat) (fun j σ H' => ∃ (v4 : Option V) (us : List V), σ = [some (.ref a), some (.int (n : Int)), some (.ref l), some (.ref q), v4] ∧ Same H H' ∧ H' l = some (.lst us) ∧ HasL K H' ((longF n (rs.take i) ++ ((rng0 n).take j).map fun v => r ++ [v]).map dR) us) ⟨_, us, rfl, s2, n2, by rw [List.take_zero, List.map_nil, List.append_nil]; exact hL2⟩ ?_ ?_⟩
    · rintro j σ H3 hj ⟨v4', us3, rfl, s3, n3', hL3⟩
      rw [Int.toNat_natCast] at hj
      have ul : us3.length ≤ 903 := by
        rw [← hL3.length, List.length_map, List.length_append, longF_len, List.length_map, List.length_take, List.length_take, rng0_len]
        have : (min i rs.length) * n ≤ 300 * 3 := Nat.mul_le_mul (by omega) n3
        omega
      refine ⟨_, rfl, .inl ⟨rfl, _, SqL.of n3'⟩, _, rfl, _, rfl, (by show 1 ≤ sizeLine; decide), fun b hb => ?_⟩
      have s4 := sameNew hb (.tup [.int (0 + ((j : Nat) : Int))])
      have b4 := upd_same (H := H3) (a := b) (o := .tup [.int (0 + ((j : Nat) : Int))])
      generalize upd H3 b (.tup [.int (0 + ((j : Nat) : Int))]) = H4 at s4 b4
      have sq4 := (s3.trans s4).tup ((hL.keep (Same.refl H).kt (nols_dR _)) |> fun _ => (show SqT K H q (r.map V.int) from by
        obtain ⟨r', q', e1, e2, e3⟩ := hasR_at hL hx
        rw [hr'] at e1
        cases e1
        cases e2
        exact e3))
      refine ⟨q, b, r.map V.int, [.int (0 + ((j : Nat) : Int))], rfl, rfl, sq4, SqT.of b4, (by rw [List.length_map]; exact sz _ (by have := r900 r rm; show r.length + 1 ≤ 1000; omega)), fun H5 p s5 hp => ?_⟩
      have n5 := s5 _ _ (s4 _ _ n3')
      refine ⟨l, _, _, rfl, rfl, n5, small1000 (by omega), ?_⟩
      have kt := KeepT.lst (ys := us3 ++ [.ref p]) n5
      have hL5 := (hL3.keep (s4.trans s5).kt (nols_dR _)).keep kt (nols_dR _)
      have hp5 : SqT K (upd H5 l (.lst (us3 ++ [.ref p]))) p ((r ++ [((j : Nat) : Int)]).map V.int) := by
        rw [List.map_append]
        have := kt.sq hp
        rw [show (0 : Int) + ((j : Nat) : Int) = ((j : Nat) : Int) from by omega] at this
        exact this
      refine ⟨_, us3 ++ [.ref p], rfl, ((s3.trans s4).trans s5).upd hl, upd_same, ?_⟩
      have ej : (rng0 n)[j]? = some ((j : Nat) : Int) := by
        unfold rng0
        rw [List.getElem?_map, List.getElem?_range hj]
        rfl
      have e2 : longF n (rs.take i) ++ ((rng0 n).take (j + 1)).map (fun v => r ++ [v]) = (longF n (rs.take i) ++ ((rng0 n).take j).map fun v => r ++ [v]) ++ [r ++ [((j : Nat) : Int)]] := by
        rw [take_snoc ej, List.map_append, ← List.append_assoc]
        rfl
      rw [e2, List.map_append]
      exact HasL.append hL5 (HasL.one (Has.row hp5))
    · rintro σ H3 ⟨v4', us3, rfl, s3, n3', hL3⟩
      rw [Int.toNat_natCast, List.take_of_length_le (l := rng0 n) (i := n) (by rw [rng0_len]; exact Nat.le_refl n)] at hL3
      refine ⟨_, _, us3, rfl, s3, n3', ?_⟩
      rw [take_snoc hr', longF_snoc]
      exact hL3
  rintro σ H2 ⟨v3, v4, us, rfl, s2, n2, hL2⟩
  rw [xl, List.take_of_length_le (Nat.le_refl _)] at hL2
  exact ⟨_, rfl, Q0 H2 l us s2 hl n2 hL2⟩
end
end K34

/-! law k34: the slots of the tables. Behind K34n. -/
namespace K34
open PySem L2
section
variable {P : Program} {w : World} {K : PySem.W.Frag} {mg : Str → Option Value} {base : Heap} {aK C CN CT CP CM : Addr} {f fL : Addr} {fd dL' : FuncData}
/-- each term's slots are among them -/
def Cov (n : Nat) (T S : List Tm) : Prop := ∀ t ∈ T, ∀ r : List Int, r.length = t.2.length → (∀ v ∈ r, InR n v) → (t.1, r) ∈ S
theorem wsum_take {T : List Tm} {i : Nat} {t : Tm} (h : T[i]? = some t) : wsum (T.take (i + 1)) = wsum (T.take i) + 3 ^ t.2.length := by
  rw [take_snoc h, wsum_append]
  rfl
theorem wsum_le (T : List Tm) (i : Nat) : wsum (T.take i) ≤ wsum T := by
  have e := wsum_append (T.take i) (T.drop i)
  rw [List.take_append_drop] at e
  omega
theorem Has.tmm {H : Hp} {b rq : Addr} {z : Str} {r : List Int} (h : SqT K H b [.str z, .ref rq]) (hr : SqT K H rq (r.map V.int)) : Has K H (dT (z, r)) (.ref b) := Has.tup' h (HasL.cons (show Has K H (.str z) (.str z) from rfl) (.cons (Has.row hr) .nil))
def sp_slots (K : PySem.W.Frag) : Sp := fun vs H Q _ => ∃ (a : Addr) (n : Nat) (xs : List V) (T : List Tm), vs = [.ref a, .int (n : Int)] ∧ SqL K H a xs ∧ HasL K H (T.map dT) xs ∧ n ≤ 3 ∧ wsum T ≤ 12 ∧ ∀ (H' : Hp) (l : Addr) (us : List V) (S : List Tm), Same H H' → H l = none → H' l = some (.lst us) → HasL K H' (S.map dT) us → S.length ≤ 12 → Cov n T S → Q (.ref l) H'
theorem sc__law_slots : FnScope ["_law_terms", "_law_size", "_law_slots_here", "_law_term", "_law_rows", "_law_part", "_law_row"] ["_law_terms", "_law_size"] (defScope s__law_slots) := ⟨rfl, rfl, rfl, by decide +kernel, rfl, by decide +kernel, by decide +kernel⟩
set_option maxHeartbeats 4000000 in
theorem ok_slots (F : Fun K "_law_slots" "_law_slots" s__law_slots f fd) (BL : FB P w K mg base CX0 1 "_law_longer" fL dL' ["_law_rows", "_law_size"] (sp_longer K)) : FnOk P w K mg base CX0 2 f fd ["_law_terms", "_law_size"] (sp_slots K) := by
  refine F.ok sc__law_slots (fun vs H Q E h => ?_) (fun cdv A outer s H vs Q E hr h => ?_)
  · obtain ⟨a, n, xs, T', rfl, _⟩ := h
    rfl
  obtain ⟨a, n, xs, T', rfl, hq, hL, n3, w12, Q0⟩ := h
  have hu := hu64 hr
  refine ⟨_, (pss_cons (ps_set (i := 2) sc__law_slots.nd rfl (Or.inl rfl) (pe_lst pa_nil))
    (pss_cons (ps_for PassesOwn.never rfl (pi_list (pv 0)) (pg_name (i := 3) sc__law_slots.nd rfl (Or.inl rfl))
      (pss_cons (ps_set (i := 4) sc__law_slots.nd rfl (Or.inl rfl) (pe_lst (pa_cons (pe_tup pa_nil) pa_nil)))
        (pss_cons (ps_for PassesOwn.never rfl (pi_tup (pe_ix ix_tup (pv 3) pe_int (fun _ _ => rfl))) (pg_name (i := 5) sc__law_slots.nd rfl (Or.inl rfl))
          (pss_one (ps_set (i := 4) sc__law_slots.nd rfl (Or.inl rfl) (pe_call BL.ok hr rfl BL.m BL.kp BL.b .nil pass0 (pa_cons (pv 4) (pa_cons (pv 1) pa_nil))))))
        (pss_one (ps_for PassesOwn.never rfl (pi_list (pv 4)) (pg_name (i := 6) sc__law_slots.nd rfl (Or.inl rfl))
          (pss_one (ps_if (pt_cmpR (op_notInD hu) (pe_tup (pa_cons (pe_ix ix_tup (pv 3) pe_int (fun _ _ => rfl)) (pa_cons (pv 6) pa_nil))) (pv 2) rfl)
              (pss_one (ps_expr (pe_bm PySem.F.plainAttrs_list PySem.F.slot_list_append PySem.F.type_list_append mt_append (pv 2) (pa_cons (pe_tup (pa_cons (pe_ix ix_tup (pv 3) pe_int (fun _ _ => rfl)) (pa_cons (pv 6) pa_nil))) pa_nil))))
              pss_nil)))))))
    (pss_one (ps_ret (pv 2))))), ?_⟩
  have xl : xs.length = T'.length := by rw [← hL.length, List.length_map]
  have a0 : ∀ (z : Str) (r : Addr), atI [V.str z, V.ref r] 0 = some (.str z) := fun z r => atI_nat (j := 0) rfl
  have a1 : ∀ (z : Str) (r : Addr), atI [V.str z, V.ref r] 1 = some (.ref r) := fun z r => atI_nat (j := 1) rfl
  refine ⟨(by show 0 ≤ sizeLine; decide), fun l hl => ?_⟩
  have s1 := sameNew hl (.lst [])
  have n1 := upd_same (H := H) (a := l) (o := .lst [])
  generalize upd H l (.lst []) = H1 at s1 n1
  refine ⟨_, rfl, a, rfl, ⟨_, s1.seq hq⟩, for_list (xs := xs) (fun i σ H' => ∃ (v3 v4 v5 v6 : Option V) (us : List V) (S : List Tm), σ = [some (.ref a), some (.int (n : Int)), some (.ref l), v3, v4, v5, v6] ∧ Same H H' ∧ H' l = some (.lst us) ∧ HasL K H' (S.map dT) us ∧ S.length ≤ wsum (T'.take i) ∧ Cov n (T'.take i) S) ⟨none, none, none, none, [], [], rfl, s1, n1, HasL.nil, Nat.zero_le _, fun t h => by rw [List.take_zero] at h; exact nomatch h⟩ (fun i σ H' _ ⟨_, _, _, _, _, _, _, s2, _⟩ => s2.seq hq) ?_ ?_⟩
  · rintro i x σ H2 hx ⟨v3, v4, v5, v6, us, S, rfl, s2, n2, hL2, Sl, cv⟩
    obtain ⟨t, q, r, ht, rfl, hq', hr'⟩ := hasT_at hL hx
    have wi := wsum_take ht
    have wl := wsum_le T' (i + 1)
    have np : ∀ j, j ≤ t.2.length → n ^ j ≤ 12 := fun j hj => by
      have h1 : n ^ j ≤ 3 ^ j := Nat.pow_le_pow_left n3 j
      have h2 : 3 ^ j ≤ 3 ^ t.2.length := Nat.pow_le_pow_right (by decide) hj
      omega
    have t12 : t.2.length ≤ 12 := by
      have : t.2.length < 3 ^ t.2.length := Nat.lt_pow_self (by decide)
      omega
    refine ⟨(by show 0 ≤ sizeLine; decide), fun e he => ⟨(by show 1 ≤ sizeLine; decide), fun r0 hr0 => ?_⟩⟩
    have s3 := sameNew he (.tup [])
    have e3 := upd_same (H := H2) (a := e) (o := .tup [])
    generalize upd H2 e (.tup []) = H3 at s3 e3 hr0
    have s4 := s3.trans (sameNew hr0 (.lst [.ref e]))
    have r4 := upd_same (H := H3) (a := r0) (o := .lst [.ref e])
    have e4 := sameNew hr0 (.lst [.ref e]) _ _ e3
    have nr0 : r0 ≠ l := (ne_of_none (s3 _ _ n2) hr0).symm
    generalize upd H3 r0 (.lst [.ref e]) = H4 at s4 r4 e4
    refine ⟨_, rfl, q, _, _, _, rfl, rfl, (s2.trans s4).tup hq', a1 _ _, r, rfl, ⟨_, (s2.trans s4).tup hr'⟩, for_tup (xs := t.2.map V.int) (fun j σ H' => ∃ (v5 v6 : Option V) (ra : Addr) (rus : List V), σ = [some (.ref a), some (.int (n : Int)), some (.ref l), some (.ref q), some (.ref ra), v5, v6] ∧ Same H2 H' ∧ H' ra = some (.lst rus) ∧ HasL K H' ((rowsF n j).map dR) rus ∧ ra ≠ l) ⟨_, _, r0, _, rfl, s4, r4, HasL.one (Has.row (SqT.of e4)), nr0⟩ (fun j σ H' _ ⟨_, _, _, _, _, s5, _⟩ => (s2.trans s5).tup hr') ?_ ?_⟩
    · rintro j y σ H5 hy ⟨v5', v6', ra, rus, rfl, s5, r5, hR5, nra⟩
      have jb := (List.getElem?_eq_some_iff.mp hy).1
      rw [List.length_map] at jb
      refine ⟨_, rfl, _, rfl, ra, n, rus, rowsF n j, rfl, SqL.of r5, hR5, (by rw [rowsF_len]; have := np j (by omega); omega), n3, fun r' hr'' => (by rw [rowsF_row n j r' hr'']; omega), fun H6 l2 us2 s6 f6 n6 hR6 => ?_⟩
      exact ⟨_, _, l2, us2, rfl, s5.trans s6, n6, hR6, (ne_of_none (s5 _ _ n2) f6).symm⟩
    rintro σ H5 ⟨v5', v6', ra, rus, rfl, s5, r5, hR5, nra⟩
    rw [List.length_map] at hR5
    have rl5 : rus.length = n ^ t.2.length := by rw [← hR5.length, List.length_map, rowsF_len]
    refine ⟨_, rfl, ra, rfl, ⟨_, SqL.of r5⟩, for_list (xs := rus) (fun j σ H' => ∃ (v6 : Option V) (us : List V) (S : List Tm), σ = [some (.ref a), some (.int (n : Int)), some (.ref l), some (.ref q), some (.ref ra), v5', v6] ∧ Same H H' ∧ H' l = some (.lst us) ∧ HasL K H' (S.map dT) us ∧ S.length ≤ wsum (T'.take i) + j ∧ Cov n (T'.take i) S ∧ (∀ m r', m < j → (rowsF n t.2.length)[m]? = some r' → (t.1, r') ∈ S) ∧ H' ra = some (.lst rus) ∧ HasL K H' ((rowsF n t.2.length).map dR) rus) ⟨_, us, S, rfl, s2.trans s5, s5 _ _ n2, hL2.keep s5.kt (nols_dTs _), Sl, cv, (fun m r' h => absurd h (Nat.not_lt_zero m)), r5, hR5⟩ (fun j σ H' _ ⟨_, _, _, _, _, _, _, _, _, _, z, _⟩ => SqL.of z) ?_ ?_⟩
    · rintro j y σ H6 hy ⟨v6'', us6, S6, rfl, s6, n6, hL6, Sl6, cv6, cm6, r6, hR6⟩
      have jb := (List.getElem?_eq_some_iff.mp hy).1
      obtain ⟨row, rq, hrow, rfl, sq⟩ := hasR_at hR6 hy
      have u6 : us6.length ≤ 12 := by
        rw [← hL6.length, List.length_map]
        have : j ≤ n ^ t.2.length := by omega
        have h1 : n ^ t.2.length ≤ 3 ^ t.2.length := Nat.pow_le_pow_left n3 _
        omega
      refine ⟨_, rfl, q, _, _, _, rfl, rfl, s6.tup hq', a0 _ _, _, rfl, (by show 2 ≤ sizeLine; decide), fun b hb => ⟨_, rfl, ?_⟩⟩
      have s7 := sameNew hb (.tup [.str t.1, .ref rq])
      have b7 := upd_same (H := H6) (a := b) (o := .tup [.str t.1, .ref rq])
      generalize upd H6 b (.tup [.str t.1, .ref rq]) = H7 at s7 b7
      have hL7 := hL6.keep s7.kt (nols_dTs _)
      refine ⟨l, us6, S6.map dT, dT (t.1, row), rfl, .inl (SqL.of (s7 _ _ n6)), hL7, Has.tmm (SqT.of b7) (s7.tup sq), Nat.le_trans (deps_dTs _) (by decide), ?_⟩
      have cm : ∀ (S' : List Tm), (∀ x ∈ S6, x ∈ S') → (t.1, row) ∈ S' → ∀ m r', m < j + 1 → (rowsF n t.2.length)[m]? = some r' → (t.1, r') ∈ S' := fun S' h1 h2 m r' hm e => by
        by_cases hj : m = j
        · rw [hj, hrow] at e
          cases e
          exact h2
        · exact h1 _ (cm6 m r' (by omega) e)
      rw [any_dT]
      refine ⟨_, rfl, ite2 (fun c => ?_) (fun c => ?_)⟩
      · refine ⟨_, rfl, .inl ⟨rfl, _, SqL.of (s7 _ _ n6)⟩, _, rfl, q, _, _, _, rfl, rfl, (s6.trans s7).tup hq', a0 _ _, _, rfl, (by show 2 ≤ sizeLine; decide), fun b2 hb2 => ?_⟩
        have s8 := sameNew hb2 (.tup [.str t.1, .ref rq])
        have b8 := upd_same (H := H7) (a := b2) (o := .tup [.str t.1, .ref rq])
        generalize upd H7 b2 (.tup [.str t.1, .ref rq]) = H8 at s8 b8
        have n8 := s8 _ _ (s7 _ _ n6)
        refine ⟨l, _, _, rfl, rfl, n8, small1000 (by omega), ?_⟩
        have kt := KeepT.lst (ys := us6 ++ [.ref b2]) n8
        have sq8 := kt.sq ((s7.trans s8).tup sq)
        have b8' := kt.sq (SqT.of (K := K) b8)
        refine ⟨_, us6 ++ [.ref b2], S6 ++ [(t.1, row)], rfl, ((s6.trans s7).trans s8).upd hl, upd_same, ?_, (by rw [List.length_append, List.length_singleton]; omega), fun t' h r' e1 e2 => List.mem_append_left _ (cv6 t' h r' e1 e2), cm _ (fun x h => List.mem_append_left _ h) (List.mem_append_right _ (List.mem_singleton.mpr rfl)), (by rw [upd_ne nra]; exact s8 _ _ (s7 _ _ r6)), ?_⟩
        · rw [List.map_append]
          exact HasL.append ((hL7.keep s8.kt (nols_dTs _)).keep kt (nols_dTs _)) (HasL.one (Has.tmm b8' sq8))
        · exact (hR6.keep (s7.trans s8).kt (nols_dR _)).keep kt (nols_dR _)
      · have hm : (t.1, row) ∈ S6 := by
          apply Classical.byContradiction
          intro z
          exact c (by rw [decide_eq_false z]; rfl)
        exact ⟨_, us6, S6, rfl, s6.trans s7, s7 _ _ n6, hL7, Nat.le_succ_of_le Sl6, cv6, cm S6 (fun _ h => h) hm, s7 _ _ r6, hR6.keep s7.kt (nols_dR _)⟩
    · rintro σ H6 ⟨v6'', us6, S6, rfl, s6, n6, hL6, Sl6, cv6, cm6, r6, hR6⟩
      refine ⟨_, _, _, _, us6, S6, rfl, s6, n6, hL6, ?_, ?_⟩
      · rw [wi]
        have h1 : n ^ t.2.length ≤ 3 ^ t.2.length := Nat.pow_le_pow_left n3 _
        omega
      · intro t' h' r' e1 e2
        rw [take_snoc ht] at h'
        rcases List.mem_append.mp h' with h | h
        · exact cv6 t' h r' e1 e2
        · rw [List.mem_singleton.mp h] at e1 ⊢
          obtain ⟨m, e3⟩ := List.getElem?_of_mem (mem_rowsF _ r' e1 e2)
          refine cm6 m r' ?_ e3
          rw [rl5, ← rowsF_len]
          exact (List.getElem?_eq_some_iff.mp e3).1
  rintro σ H2 ⟨v3, v4, v5, v6, us, S, rfl, s2, n2, hL2, Sl, cv⟩
  rw [xl, List.take_of_length_le (Nat.le_refl _)] at Sl cv
  exact ⟨_, rfl, Q0 H2 l us S s2 hl n2 hL2 (by omega) cv⟩
end
end K34

/-! law k34: the tables. Behind K34o. -/
namespace K34
open PySem L2
section
variable {P : Program} {w : World} {K : PySem.W.Frag} {mg : Str → Option Value} {base : Heap} {aK C CN CT CP CM : Addr} {f fL : Addr} {fd dL' : FuncData}
/-- a table: a list beside l -/
def Tb (H : Hp) (n k : Nat) (l : Addr) (u : V) : Prop := ∃ (a : Addr) (tb : List Int), u = .ref a ∧ a ≠ l ∧ H a = some (.lst (tb.map V.int)) ∧ tb.length = k ∧ ∀ v ∈ tb, InR n v
theorem Tb.same {H H' : Hp} {n k : Nat} {l : Addr} {u : V} (h : Tb H n k l u) (s : Same H H') : Tb H' n k l u := by
  obtain ⟨a, tb, h1, h2, h3, h4⟩ := h
  exact ⟨a, tb, h1, h2, s _ _ h3, h4⟩
theorem Tb.upd {H : Hp} {n k : Nat} {l : Addr} {u : V} {o : HO} (h : Tb H n k l u) : Tb (upd H l o) n k l u := by
  obtain ⟨a, tb, h1, h2, h3, h4⟩ := h
  exact ⟨a, tb, h1, h2, by rw [upd_ne h2]; exact h3, h4⟩
theorem Tb.off {H : Hp} {n k : Nat} {l l' : Addr} {u : V} (h : Tb H n k l u) (hl : H l' = none) : Tb H n k l' u := by
  obtain ⟨a, tb, h1, h2, h3, h4⟩ := h
  exact ⟨a, tb, h1, ne_of_none h3 hl, h3, h4⟩
def sp_tables (K : PySem.W.Frag) : Sp := fun vs H Q _ => ∃ (a : Addr) (n : Nat) (xs : List V), vs = [.ref a, .int (n : Int)] ∧ SqL K H a xs ∧ n ≤ 3 ∧ xs.length ≤ 12 ∧ ∀ (H' : Hp) (l : Addr) (us : List V), Same H H' → H' l = some (.lst us) → (∀ u ∈ us, Tb H' n xs.length l u) → Q (.ref l) H'
theorem sc__law_tables : FnScope ["_law_slots_here", "_law_size", "_law_found", "_law_slot", "_law_longer_here", "_law_value", "_law_row"] ["_law_slots_here", "_law_size"] (defScope s__law_tables) := ⟨rfl, rfl, rfl, by decide +kernel, rfl, by decide +kernel, by decide +kernel⟩
theorem pow12 {n i : Nat} (hn : n ≤ 3) (hi : i ≤ 12) : n ^ i ≤ 531441 := by
  have h1 : n ^ i ≤ 3 ^ i := Nat.pow_le_pow_left hn i
  have h2 : 3 ^ i ≤ 3 ^ 12 := Nat.pow_le_pow_right (by decide) hi
  have h3 : 3 ^ 12 = 531441 := by decide
  omega
set_option maxHeartbeats 4000000 in
theorem ok_tables (F : Fun K "_law_tables" "_law_tables" s__law_tables f fd) (mrange : mg "range" = none) : FnOk P w K mg base CX0 1 f fd ["_law_slots_here", "_law_size"] (sp_tables K) := by
  refine F.ok sc__law_tables (fun vs H Q E h => ?_) (fun cdv A outer s H vs Q E hr h => ?_)
  · obtain ⟨a, n, xs, rfl, _⟩ := h
    rfl
  obtain ⟨a, n, xs, rfl, hq, n3, x12, Q0⟩ := h
  refine ⟨_, (pss_cons (ps_set (i := 2) sc__law_tables.nd rfl (Or.inl rfl) (pe_lst (pa_cons (pe_lst pa_nil) pa_nil)))
    (pss_cons (ps_for PassesOwn.never rfl (pi_list (pv 0)) (pg_name (i := 3) sc__law_tables.nd rfl (Or.inl rfl))
      (pss_cons (ps_set (i := 4) sc__law_tables.nd rfl (Or.inl rfl) (pe_lst pa_nil))
        (pss_cons (ps_for PassesOwn.never rfl (pi_range1 rfl mrange (pa_cons (pv 1) pa_nil)) (pg_name (i := 5) sc__law_tables.nd rfl (Or.inl rfl))
          (pss_one (ps_for PassesOwn.never rfl (pi_list (pv 2)) (pg_name (i := 6) sc__law_tables.nd rfl (Or.inl rfl))
              (pss_one (ps_expr (pe_bm PySem.F.plainAttrs_list PySem.F.slot_list_append PySem.F.type_list_append mt_append (pv 4) (pa_cons (pe_op op_cat (pv 6) (pe_lst (pa_cons (pv 5) pa_nil))) pa_nil)))))))
        (pss_one (ps_set (i := 2) sc__law_tables.nd rfl (Or.inl rfl) (pv 4))))))
    (pss_one (ps_ret (pv 2))))), ?_⟩
  refine ⟨(by show 0 ≤ sizeLine; decide), fun e he => ⟨(by show 1 ≤ sizeLine; decide), fun l0 hl0 => ?_⟩⟩
  have s1 := sameNew he (.lst [])
  have e1 := upd_same (H := H) (a := e) (o := .lst [])
  generalize upd H e (.lst []) = H1 at s1 e1 hl0
  have s2 := s1.trans (sameNew hl0 (.lst [.ref e]))
  have n2 := upd_same (H := H1) (a := l0) (o := .lst [.ref e])
  have e2 := sameNew hl0 (.lst [.ref e]) _ _ e1
  have ne0 : e ≠ l0 := ne_of_none e1 hl0
  generalize upd H1 l0 (.lst [.ref e]) = H2 at s2 n2 e2
  refine ⟨_, rfl, a, rfl, ⟨_, s2.seq hq⟩, for_list (xs := xs) (fun i σ H' => ∃ (fa : Addr) (us : List V) (v3 v4 v5 v6 : Option V), σ = [some (.ref a), some (.int (n : Int)), some (.ref fa), v3, v4, v5, v6] ∧ Same H H' ∧ H' fa = some (.lst us) ∧ us.length = n ^ i ∧ ∀ u ∈ us, Tb H' n i fa u) ⟨l0, _, none, none, none, none, rfl, s2, n2, rfl, fun u hu => ?_⟩ (fun i σ H' _ ⟨_, _, _, _, _, _, _, s3, _⟩ => s3.seq hq) ?_ ?_⟩
  · rw [List.mem_singleton.mp hu]
    exact ⟨e, [], rfl, ne0, e2, rfl, fun v h => nomatch h⟩
  · rintro i x σ H3 hx ⟨fa, us, v3, v4, v5, v6, rfl, s3, n3', ul, tb3⟩
    have ib := (List.getElem?_eq_some_iff.mp hx).1
    have p12 := pow12 n3 (show i ≤ 12 by omega)
    refine ⟨(by show 0 ≤ sizeLine; decide), fun l hl => ?_⟩
    have lH : H l = none := s3.free hl
    have tb4 : ∀ u ∈ us, Tb H3 n i l u := fun u hu => (tb3 u hu).off hl
    have nfl : fa ≠ l := ne_of_none n3' hl
    have s4 := sameNew hl (.lst [])
    have n4 := upd_same (H := H3) (a := l) (o := .lst [])
    generalize upd H3 l (.lst []) = H4 at s4 n4
    refine ⟨_, rfl, _, rfl, (by show -(2 ^ 62) ≤ ((n : Nat) : Int); omega), (by show ((n : Nat) : Int) < 2 ^ 62; omega), for_range (lo := 0) (n := ((n : Nat) : Int).toNat) (fun j σ H' => ∃ (ws : List V) (v5 v6 : Option V), σ = [some (.ref a), some (.int (n : Int)), some (.ref fa), some x, some (.ref l), v5, v6] ∧ Same H3 H' ∧ H' l = some (.lst ws) ∧ ws.length = j * us.length ∧ ∀ u ∈ ws, Tb H' n (i + 1) l u) ⟨[], _, _, rfl, s4, n4, by simp, fun u h => nomatch h⟩ ?_ ?_⟩
    · rintro j σ H5 hj ⟨ws, v5', v6', rfl, s5, n5, wl, tb5⟩
      rw [Int.toNat_natCast] at hj
      refine ⟨_, rfl, fa, rfl, ⟨_, SqL.of (s5 _ _ n3')⟩, for_list (xs := us) (fun m σ H' => ∃ (ws : List V) (v6 : Option V), σ = [some (.ref a), some (.int (n : Int)), some (.ref fa), some x, some (.ref l), some (.int (0 + ((j : Nat) : Int))), v6] ∧ Same H3 H' ∧ H' l = some (.lst ws) ∧ ws.length = j * us.length + m ∧ ∀ u ∈ ws, Tb H' n (i + 1) l u) ⟨ws, _, rfl, s5, n5, wl, tb5⟩ (fun m σ H' _ ⟨_, _, _, s6, _⟩ => SqL.of (s6 _ _ n3')) ?_ ?_⟩
      · rintro m y σ H6 hy ⟨ws6, v6'', rfl, s6, n6, wl6, tb6⟩
        have mb := (List.getElem?_eq_some_iff.mp hy).1
        obtain ⟨ra, tb, rfl, nra, hra, tl, tv⟩ := (tb4 y (List.mem_of_getElem? hy)).same s6
        have jm : j * us.length ≤ 3 * 531441 := Nat.mul_le_mul (by omega) (by omega)
        have w6 : ws6.length < sizeLine := Nat.lt_of_le_of_lt (m := 4 * 531441) (by omega) (by decide)
        refine ⟨_, rfl, .inl ⟨rfl, _, SqL.of n6⟩, _, rfl, _, rfl, (by show 1 ≤ sizeLine; decide), fun b hb => ?_⟩
        have s7 := sameNew hb (.lst [.int (0 + ((j : Nat) : Int))])
        have b7 := upd_same (H := H6) (a := b) (o := .lst [.int (0 + ((j : Nat) : Int))])
        generalize upd H6 b (.lst [.int (0 + ((j : Nat) : Int))]) = H7 at s7 b7
        refine ⟨_, _, _, _, rfl, rfl, s7 _ _ hra, b7, (by rw [List.length_map]; exact sz _ (by show tb.length + 1 ≤ 1000; omega)), fun p hp => ?_⟩
        have e8 : tb.map V.int ++ [V.int (0 + ((j : Nat) : Int))] = (tb ++ [((j : Nat) : Int)]).map V.int := by
          rw [List.map_append, show (0 : Int) + ((j : Nat) : Int) = ((j : Nat) : Int) from by omega]
          rfl
        rw [e8]
        have s8 := s7.trans (sameNew hp (.lst ((tb ++ [((j : Nat) : Int)]).map V.int)))
        have p8 := upd_same (H := H7) (a := p) (o := .lst ((tb ++ [((j : Nat) : Int)]).map V.int))
        have npl : p ≠ l := (ne_of_none (s7 _ _ n6) hp).symm
        generalize upd H7 p (.lst ((tb ++ [((j : Nat) : Int)]).map V.int)) = H8 at s8 p8
        refine ⟨l, _, _, rfl, rfl, s8 _ _ n6, w6, ?_⟩
        refine ⟨ws6 ++ [.ref p], _, rfl, (s6.trans s8).upd hl, upd_same, (by rw [List.length_append, List.length_singleton]; omega), fun u hu => ?_⟩
        rcases List.mem_append.mp hu with h | h
        · exact ((tb6 u h).same s8).upd
        · rw [List.mem_singleton.mp h]
          refine Tb.upd ⟨p, tb ++ [((j : Nat) : Int)], rfl, npl, p8, by rw [List.length_append, List.length_singleton, tl], fun v hv => ?_⟩
          rcases List.mem_append.mp hv with h | h
          · exact tv v h
          · rw [List.mem_singleton.mp h]
            exact ⟨by omega, by omega⟩
      · rintro σ H6 ⟨ws6, v6'', rfl, s6, n6, wl6, tb6⟩
        exact ⟨ws6, _, _, rfl, s6, n6, by rw [wl6, Nat.succ_mul], tb6⟩
    · rintro σ H5 ⟨ws, v5', v6', rfl, s5, n5, wl, tb5⟩
      rw [Int.toNat_natCast] at wl
      exact ⟨_, rfl, l, ws, _, _, _, _, rfl, s3.trans s5, n5, by rw [wl, ul, Nat.pow_succ, Nat.mul_comm], tb5⟩
  rintro σ H3 ⟨fa, us, v3, v4, v5, v6, rfl, s3, n3', ul, tb3⟩
  exact ⟨_, rfl, Q0 H3 fa us s3 n3' tb3⟩
end
end K34

/-! law k34: values by a table, and what they make of a line. Behind K34p. -/
namespace K34
open PySem L2
theorem rf_app {vs ws : List Int} {q : Int} (h : InR vs.length q) : rf (vs ++ ws) q = rf vs q := by
  obtain ⟨h0, h1⟩ := h
  unfold rf
  rw [List.getD_eq_getElem?_getD, List.getD_eq_getElem?_getD, List.getElem?_append_left (by omega)]
theorem rf_mem {vs : List Int} {q : Int} (h : InR vs.length q) : rf vs q ∈ vs := by
  obtain ⟨h0, h1⟩ := h
  unfold rf
  rw [List.getD_eq_getElem?_getD, List.getElem?_eq_getElem (by omega)]
  exact List.getElem_mem _
/-- values by a function of names and values -/
def ValOk (g : Tm → Int) (T : List Tm) (vs : List Int) : Prop := ∀ (m : Nat) (t : Tm), m < vs.length → T[m]? = some t → vs[m]? = some (g (t.1, t.2.map (rf vs)))
theorem ValOk.snoc {g : Tm → Int} {T : List Tm} {vs : List Int} {t : Tm} (h : ValOk g T vs) (wf : Wf T) (ht : T[vs.length]? = some t) : ValOk g T (vs ++ [g (t.1, t.2.map (rf vs))]) := fun m u hm hu => by
  have key : ∀ (m : Nat) (u : Tm), m ≤ vs.length → T[m]? = some u → u.2.map (rf (vs ++ [g (t.1, t.2.map (rf vs))])) = u.2.map (rf vs) := fun m u hm hu => List.map_congr_left fun q hq => rf_app ((wf m u hu q hq).mono hm)
  rw [List.length_append, List.length_singleton] at hm
  rw [key m u (by omega) hu]
  by_cases e : m < vs.length
  · rw [List.getElem?_append_left e]
    exact h m u e hu
  · have e' : m = vs.length := by omega
    subst e'
    rw [ht] at hu
    cases hu
    rw [List.getElem?_append_right (Nat.le_refl _), Nat.sub_self]
    rfl
/-- a part of a line holds by values -/
def partB (vs : List Int) (As : List At) (k : Int) : Bool := match As.getD (((k.natAbs : Nat) : Int) - 1).toNat (.plain "") with
  | .same x y => decide (decide (rf vs x = rf vs y) = decide (k > 0))
  | .plain _ => false
theorem smF_some {As : List At} {k x y : Int} (h : smF As k = some (x, y)) : 1 ≤ k ∧ k ≤ (As.length : Int) ∧ As.getD (k - 1).toNat (.plain "") = .same x y ∧ At.same x y ∈ As := by
  unfold smF at h
  split at h
  · rename_i c
    cases q : As.getD (k - 1).toNat (.plain "") with
    | plain z => rw [q] at h; cases h
    | same a b =>
      rw [q] at h
      cases h
      refine ⟨c.1, c.2, rfl, ?_⟩
      rw [List.getD_eq_getElem?_getD, List.getElem?_eq_getElem (by omega)] at q
      rw [← q]
      exact List.getElem_mem _
  · cases h
theorem part_neg {vs : List Int} {As : List At} {k x y : Int} (h : smF As k = some (x, y)) (hp : partB vs As (-k) = false) : rf vs x = rf vs y := by
  obtain ⟨h1, h2, h3, _⟩ := smF_some h
  unfold partB at hp
  rw [show (((-k).natAbs : Nat) : Int) = k from by omega, h3] at hp
  simp only [decide_eq_false_iff_not] at hp
  rw [decide_eq_false (p := -k > 0) (by omega)] at hp
  apply Classical.byContradiction
  intro z
  exact hp (decide_eq_false z)
theorem part_pos {vs : List Int} {As : List At} {k x y : Int} (h : smF As k = some (x, y)) (hp : partB vs As k = false) : rf vs x ≠ rf vs y := by
  obtain ⟨h1, h2, h3, _⟩ := smF_some h
  unfold partB at hp
  rw [show ((k.natAbs : Nat) : Int) = k from by omega, h3] at hp
  simp only [decide_eq_false_iff_not] at hp
  rw [decide_eq_true (p := k > 0) (by omega)] at hp
  intro z
  exact hp (decide_eq_true z)
theorem no_right {g : Tm → Int} {T : List Tm} {As : List At} {vs ps : List Int} (D : Dom T As) (vl : vs.length = T.length) (vo : ValOk g T vs) (no : ∀ k ∈ ps, partB vs As k = false) :
    ∀ (ls : List Lk) (f : Int → Int), (∀ l ∈ ls, LkIn T.length As.length l) → (∀ t u, InR T.length t → InR T.length u → f t = f u → rf vs t = rf vs u) → eqF mrg ps T As ls f = false
  | [], f, _, h => by
    apply Bool.eq_false_iff.mpr
    intro z
    simp only [eqF, anyB, List.any_map, List.any_eq_true, Function.comp_apply, id_eq] at z
    obtain ⟨k, hk, hs⟩ := z
    unfold saysB at hs
    cases q : smF As k with
    | none => rw [q] at hs; cases hs
    | some xy =>
      obtain ⟨x, y⟩ := xy
      rw [q] at hs
      obtain ⟨i1, i2⟩ := D.am x y (smF_some q).2.2.2
      exact part_pos q (no k hk) (h x y i1 i2 (of_decide_eq_true hs))
  | l :: ls, f, hl, h => by
    have lin := hl l List.mem_cons_self
    by_cases hr : rightB f ps T As l = true
    · rw [eqF_true hr]
      have ev : rf vs l.1 = rf vs l.2.1 := by
        unfold rightB at hr
        split at hr
        · unfold alikeB at hr
          rw [Bool.and_eq_true, Bool.and_eq_true] at hr
          obtain ⟨e1, e2, e3⟩ := hr
          have e1 := of_decide_eq_true e1
          have e2 := of_decide_eq_true e2
          have t1 := tG_mem lin.1
          have t2 := tG_mem lin.2.1
          have v1 := vo _ _ (by have := lin.1; have h0 := this.1; have h1 := this.2; omega) t1.1
          have v2 := vo _ _ (by have := lin.2.1; have h0 := this.1; have h1 := this.2; omega) t2.1
          have em : (tG T l.1).2.map (rf vs) = (tG T l.2.1).2.map (rf vs) := by
            have := zip_all (rf vs) _ _ e2
            apply of_decide_eq_true
            rw [this]
            refine List.all_eq_true.mpr fun xy hxy => ?_
            have hz := List.all_eq_true.mp e3 xy hxy
            obtain ⟨m1, m2⟩ := List.of_mem_zip (show (xy.1, xy.2) ∈ _ from hxy)
            exact decide_eq_true (h _ _ (D.tm _ t1.2 _ m1) (D.tm _ t2.2 _ m2) (of_decide_eq_true hz))
          show vs.getD _ 0 = vs.getD _ 0
          rw [List.getD_eq_getElem?_getD, List.getD_eq_getElem?_getD, v1, v2, e1, em]
        · unfold toldB at hr
          rw [Bool.and_eq_true] at hr
          obtain ⟨m1, m2⟩ := hr
          cases q : smF As l.2.2 with
          | none => rw [q] at m2; cases m2
          | some xy =>
            obtain ⟨x, y⟩ := xy
            rw [q] at m2
            have e := part_neg q (no _ (of_decide_eq_true m1))
            rcases Bool.or_eq_true _ _ ▸ m2 with z | z
            · have := of_decide_eq_true z
              cases this
              exact e
            · have := of_decide_eq_true z
              cases this
              exact e.symm
      refine no_right D vl vo no ls _ (fun l' h' => hl l' (List.mem_cons_of_mem _ h')) fun t u ht hu' e => ?_
      rw [mrg_iff] at e
      rcases e with e | ⟨e1, e2⟩ | ⟨e1, e2⟩
      · exact h t u ht hu' e
      · rw [h t _ ht lin.1 e1, h u _ hu' lin.2.1 e2, ev]
      · rw [h t _ ht lin.2.1 e1, h u _ hu' lin.1 e2, ev]
    · exact eqF_false hr
end K34

/-! law k34: _law_values, _law_part_holds. Behind K34q. -/
namespace K34
open PySem L2
section
variable {P : Program} {w : World} {K : PySem.W.Frag} {mg : Str → Option Value} {base : Heap} {aK C CN CT CP CM : Addr} {f fL : Addr} {fd dL' : FuncData}
def sp_lvals (K : PySem.W.Frag) : Sp := fun vs H Q _ => ∃ (tl sl ta : Addr) (n : Nat) (ts us : List V) (T S : List Tm) (tb : List Int), vs = [.ref tl, .ref sl, .ref ta] ∧ SqL K H tl ts ∧ HasL K H (T.map dT) ts ∧ Wf T ∧ (∀ t ∈ T, t.2.length ≤ 1000) ∧ T.length ≤ 100 ∧ H sl = some (.lst us) ∧ HasL K H (S.map dT) us ∧ Cov n T S ∧ SqL K H ta (tb.map V.int) ∧ tb.length = S.length ∧ (∀ v ∈ tb, InR n v) ∧
  ∀ (H' : Hp) (l : Addr) (vs : List Int) (g : Tm → Int), Same H H' → H' l = some (.lst (vs.map V.int)) → vs.length = T.length → ValOk g T vs → Q (.ref l) H'
theorem sc__law_values : FnScope ["_law_terms", "_law_slots_here", "_law_table", "_law_values_here", "_law_term"] ["_law_terms", "_law_slots_here", "_law_table"] (defScope s__law_values) := ⟨rfl, rfl, rfl, by decide +kernel, rfl, by decide +kernel, by decide +kernel⟩
set_option maxHeartbeats 4000000 in
theorem ok_lvals (F : Fun K "_law_values" "_law_values" s__law_values f fd) (mtuple : mg "tuple" = none) : FnOk P w K mg base CX0 1 f fd ["_law_terms", "_law_slots_here", "_law_table"] (sp_lvals K) := by
  refine F.ok sc__law_values (fun vs H Q E h => ?_) (fun cdv A outer s H vs Q E hr h => ?_)
  · obtain ⟨tl, sl, ta, n, ts, us, T', S, tb, rfl, _⟩ := h
    rfl
  obtain ⟨tl, sl, ta, n, ts, us, T', S, tb, rfl, ht, hT, wf, t1000, T100, hs, hS, cv, htb, tbl, tbv, Q0⟩ := h
  have hu := hu64 hr
  refine ⟨_, (pss_cons (ps_set (i := 3) sc__law_values.nd rfl (Or.inr rfl) (pe_lst pa_nil))
    (pss_cons (ps_for PassesOwn.never rfl (pi_list (pv 0)) (pg_name (i := 4) sc__law_values.nd rfl (Or.inl rfl))
      (pss_one (ps_expr (pe_bm PySem.F.plainAttrs_list PySem.F.slot_list_append PySem.F.type_list_append mt_append (pv 3) (pa_cons (pe_ix ix_list (pv 2) (pe_bm PySem.F.plainAttrs_list PySem.F.slot_list_index PySem.F.type_list_index (mt_indexD hu) (pv 1) (pa_cons (pe_tup (pa_cons (pe_ix ix_tup (pv 4) pe_int (fun _ _ => rfl)) (pa_cons (pe_callTy call_tuple_of rfl mtuple PyProof.Rows.Boot.tuple (pa_cons (pe_lc (N' := ["_law_part", "_law_values_here"]) (ix := [3]) rfl rfl (by decide +kernel) (by decide +kernel) rfl (fun ok => clo_of (sc := defScope s__law_values) ok rfl (by decide +kernel) (by decide +kernel)) (by decide +kernel) rfl rfl (fun j i h => match j, h with | 0, h => by cases h; exact ⟨_, rfl, rfl, .inl rfl, .inl rfl⟩ | n + 1, h => by simp at h) (pi_tup (pe_ix ix_tup (pv 4) pe_int (fun _ _ => rfl))) (fun _ _ _ _ => (pe_ix (r := rIxL K) ix_list (pv 1) (pv 0) (fun _ _ => rfl)))) pa_nil)) pa_nil))) pa_nil)) (fun _ _ => rfl)) pa_nil)))))
    (pss_one (ps_ret (pv 3))))), ?_⟩
  have xl : ts.length = T'.length := by rw [← hT.length, List.length_map]
  have a0 : ∀ (z : Str) (r : Addr), atI [V.str z, V.ref r] 0 = some (.str z) := fun z r => atI_nat (j := 0) rfl
  have a1 : ∀ (z : Str) (r : Addr), atI [V.str z, V.ref r] 1 = some (.ref r) := fun z r => atI_nat (j := 1) rfl
  refine ⟨(by show 0 ≤ sizeLine; decide), fun l hl => ?_⟩
  have s1 := sameNew hl (.lst [])
  have n1 := upd_same (H := H) (a := l) (o := .lst [])
  generalize upd H l (.lst []) = H1 at s1 n1
  refine ⟨_, rfl, tl, rfl, ⟨_, s1.seq ht⟩, for_list (xs := ts) (fun i σ H' => ∃ (v4 : Option V) (vs : List Int), σ = [some (.ref tl), some (.ref sl), some (.ref ta), some (.ref l), v4] ∧ Same H H' ∧ H' l = some (.lst (vs.map V.int)) ∧ vs.length = i ∧ ValOk (fun p => rf tb ((S.idxOf p : Nat) : Int)) T' vs ∧ ∀ v ∈ vs, InR n v) ⟨none, [], rfl, s1, n1, rfl, (fun m t h => absurd h (Nat.not_lt_zero m)), fun v h => nomatch h⟩ (fun i σ H' _ ⟨_, _, _, s2, _⟩ => s2.seq ht) ?_ ?_⟩
  · rintro i x σ H2 hx ⟨v4, vs, rfl, s2, n2, vl, vo, vin⟩
    obtain ⟨t, q, r, ht', rfl, hq, hr'⟩ := hasT_at hT hx
    have ib := (List.getElem?_eq_some_iff.mp ht').1
    have tm := List.mem_of_getElem? ht'
    have kin : ∀ k ∈ t.2, InR vs.length k := fun k hk => by rw [vl]; exact wf i t ht' k hk
    refine ⟨_, rfl, .inl ⟨rfl, _, SqL.of n2⟩, _, rfl, _, rfl, .inl ⟨rfl, _, SqL.of (s2 _ _ hs)⟩, _, rfl, q, _, _, _, rfl, rfl, s2.tup hq, a0 _ _, _, rfl, q, _, _, _, rfl, rfl, s2.tup hq, a1 _ _, r, rfl, ⟨_, s2.tup hr'⟩, fun D hD => lc_by wk_tup (fun j us H' => Same H2 H' ∧ us = ((t.2.take j).map (rf vs)).map V.int) (fun j us H' ⟨s4, _⟩ => (s2.trans s4).tup hr') ⟨sameNew hD _, rfl⟩ ?_ ?_⟩
    · rintro j us8 H8 z H4 hj hly hDs ⟨s4, rfl⟩ ⟨rfl, hx4⟩
      obtain ⟨k, hk, rfl⟩ := ints_at (hx4 _ ((s2.trans s4).tup hr'))
      refine ⟨_, rfl, _, rfl, l, _, _, _, rfl, rfl, SqL.of (s4 _ _ n2), at_rf (kin k (List.mem_of_getElem? hk)), lc_post (sz _ (by rw [List.length_map]; exact t1000 t tm)) hj hly hDs ⟨s4.upd hD, ?_⟩⟩
      rw [take_snoc hk, List.map_append, List.map_append]
      rfl
    rintro us8 H4 hDs ⟨s4, rfl⟩
    rw [List.length_map, List.take_of_length_le (Nat.le_refl _)] at hDs
    refine ⟨D, _, rfl, .inl ⟨SqL.of hDs, fun p hp => ?_⟩⟩
    have s5 := s4.trans (sameNew hp (.tup ((t.2.map (rf vs)).map V.int)))
    have p5 := upd_same (H := H4) (a := p) (o := .tup ((t.2.map (rf vs)).map V.int))
    generalize upd H4 p (.tup ((t.2.map (rf vs)).map V.int)) = H5 at s5 p5
    refine ⟨(by show 2 ≤ sizeLine; decide), fun b hb => ?_⟩
    have s6 := s5.trans (sameNew hb (.tup [.str t.1, .ref p]))
    have b6 := upd_same (H := H5) (a := b) (o := .tup [.str t.1, .ref p])
    have p6 := sameNew hb (.tup [.str t.1, .ref p]) _ _ p5
    generalize upd H5 b (.tup [.str t.1, .ref p]) = H6 at s6 b6 p6
    have hm : (t.1, t.2.map (rf vs)) ∈ S := cv t tm _ (List.length_map _) fun v hv => by
      obtain ⟨k, hk, rfl⟩ := List.mem_map.mp hv
      exact vin _ (rf_mem (kin k hk))
    have il := List.idxOf_lt_length_of_mem hm
    refine ⟨sl, us, S.map dT, _, dT (t.1, t.2.map (rf vs)), S.idxOf (t.1, t.2.map (rf vs)), rfl, rfl, (s2.trans s6) _ _ hs, hS.keep (s2.trans s6).kt (nols_dTs _), Has.tmm (SqT.of b6) (SqT.of p6), Nat.le_trans (deps_dTs _) (by decide), ⟨_, idx_at hm, peq_refl _⟩, (fun m dm hm' e => idx_no hm' e), ?_⟩
    have ii : InR tb.length ((S.idxOf (t.1, t.2.map (rf vs)) : Nat) : Int) := ⟨by omega, by omega⟩
    refine ⟨ta, _, _, _, rfl, rfl, (s2.trans s6).seq htb, at_rf ii, l, _, _, rfl, rfl, s6 _ _ n2, small1000 (by rw [List.length_map]; omega), ?_⟩
    refine ⟨_, vs ++ [rf tb ((S.idxOf (t.1, t.2.map (rf vs)) : Nat) : Int)], rfl, (s2.trans s6).upd hl, ?_, ?_, vo.snoc wf (by rw [vl]; exact ht'), fun v hv => ?_⟩
    · rw [List.map_append]
      exact upd_same
    · rw [List.length_append, List.length_singleton, vl]
    · rcases List.mem_append.mp hv with h | h
      · exact vin v h
      · rw [List.mem_singleton.mp h]
        exact tbv _ (rf_mem ii)
  rintro σ H2 ⟨v4, vs, rfl, s2, n2, vl, vo, vin⟩
  exact ⟨_, rfl, Q0 H2 l vs _ s2 n2 (by rw [vl, xl]) vo⟩
def sp_holds (K : PySem.W.Frag) (C : Addr) : Sp := fun vs H Q _ => ∃ (p tl al rl q l : Addr) (T : List Tm) (As : List At) (Rs : List (List Int)) (ps us : List Int), vs = [.ref p, .ref q, .ref l] ∧ PrD K C H p tl al rl T As Rs ∧ SqT K H q (ps.map V.int) ∧ (∀ k ∈ ps, PIn As.length k) ∧ SqL K H l (us.map V.int) ∧ us.length = T.length ∧ Q (.bl (ps.any (partB us As))) H
theorem sc__law_part_holds : FnScope ["_law_problem", "_law_parts", "_law_values_here", "_law_part", "_law_atom"] ["_law_problem", "_law_parts", "_law_values_here"] (defScope s__law_part_holds) := ⟨rfl, rfl, rfl, by decide +kernel, rfl, by decide +kernel, by decide +kernel⟩
set_option maxHeartbeats 4000000 in
theorem ok_holds (F : Fun K "_law_part_holds" "_law_part_holds" s__law_part_holds f fd) (T : Txt K mg aK C CN CT CP CM) (mabs : mg "abs" = none) : FnOk P w K mg base CX0 1 f fd ["_law_problem", "_law_parts", "_law_values_here"] (sp_holds K C) := by
  refine F.ok sc__law_part_holds (fun vs H Q E h => ?_) (fun cdv A outer s H vs Q E hr h => ?_)
  · obtain ⟨p, tl, al, rl, q, l, T', As, Rs, ps, us, rfl, _⟩ := h
    rfl
  obtain ⟨p, tl, al, rl, q, l, T', As, Rs, ps, us, rfl, S, hq, pin, hl, ul, Q0⟩ := h
  refine ⟨_, (pss_cons (ps_for PassesOwn.never rfl (pi_tup (pv 1)) (pg_name (i := 3) sc__law_part_holds.nd rfl (Or.inl rfl))
      (pss_cons (ps_set (i := 4) sc__law_part_holds.nd rfl (Or.inl rfl) (pe_ix ix_list (pe_fld (pv 0) rfl) (pe_op op_sub (pe_callB call_abs rfl mabs PyProof.Rows.Boot.abs (pa_cons (pv 3) pa_nil)) pe_int) (fun _ _ => rfl)))
        (pss_one (ps_if (PW.pt (pw_and (pt_cmpR op_eq (pe_ix ix_tup (pv 4) pe_int (fun _ _ => rfl)) pe_str (nomark _)) (pw_and1 (pt_cmpR op_eq (pe_cmpR op_eq (pe_ix ix_list (pv 2) (pe_ix ix_tup (pv 4) pe_int (fun _ _ => rfl)) (fun _ _ => rfl)) (pe_ix ix_list (pv 2) (pe_ix ix_tup (pv 4) pe_int (fun _ _ => rfl)) (fun _ _ => rfl)) (nomark _)) (pe_cmpR op_gt (pv 3) pe_int (nomark _)) (nomark _)))))
          (pss_one (ps_ret pe_bl))
          pss_nil))))
    (pss_one (ps_ret pe_bl))), ?_⟩
  obtain ⟨⟨dx, ho⟩, ⟨ts, ht, hT⟩, ⟨ys, ha, hA⟩, _⟩ := id S.pr
  refine ⟨_, rfl, q, rfl, ⟨_, hq⟩, for_tup (xs := ps.map V.int) (fun i σ H' => ∃ (v3 v4 : Option V), σ = [some (.ref p), some (.ref q), some (.ref l), v3, v4] ∧ H' = H ∧ (ps.take i).any (partB us As) = false) ⟨none, none, rfl, rfl, rfl⟩ (fun i σ H' _ ⟨_, _, _, e, _⟩ => e ▸ hq) ?_ ?_⟩
  · rintro i x σ H9 hx ⟨v3, v4, rfl, rfl, no⟩
    obtain ⟨k, hk, rfl⟩ := ints_at hx
    have pk := pin k (List.mem_of_getElem? hk)
    have km := List.mem_of_getElem? hk
    obtain ⟨x, a, x2, am, hax, ea⟩ := atom_at hA pk
    have ea' : As.getD (((k.natAbs : Nat) : Int) - 1).toNat (.plain "") = a := by rw [List.getD_eq_getElem?_getD, ea]; rfl
    have nx : partB us As k = false → (ps.take (i + 1)).any (partB us As) = false := fun e => by
      rw [take_snoc hk, List.any_append, no]
      simp [e]
    refine ⟨_, rfl, p, C, dx, _, _, rfl, ho, T.cl, T.nA, flds_atoms _ _ _, _, rfl, _, rfl, _, _, rfl, rfl, al, _, _, _, rfl, rfl, SqL.of ha, x2, ?_⟩
    cases a with
    | plain z =>
      obtain ⟨qq, rfl, hqq⟩ := has_plain hax
      exact ⟨_, rfl, qq, _, _, _, rfl, rfl, hqq, atI_nat (j := 0) rfl, rfl, _, rfl, ite2 (fun c => absurd (of_decide_eq_true c) (by decide +kernel)) (fun c => iteF ⟨_, _, rfl, rfl, nx (by unfold partB; rw [ea'])⟩)⟩
    | same x y =>
      obtain ⟨qq, rfl, hqq⟩ := has_same hax
      obtain ⟨i1, i2⟩ := S.dm.am x y am
      rw [← ul] at i1 i2
      have ep : partB us As k = decide (V.bl (decide (V.int (rf us x) = V.int (rf us y))) = V.bl (decide (k > 0))) := by
        unfold partB
        rw [ea']
        simp only [V.int.injEq, V.bl.injEq]
      refine ⟨_, rfl, qq, _, _, _, rfl, rfl, hqq, atI_nat (j := 0) rfl, rfl, _, rfl, ite2 (fun c => ⟨_, rfl, _, rfl, qq, _, _, _, rfl, rfl, hqq, atI_nat (j := 1) rfl, l, _, _, _, rfl, rfl, hl, at_rf i1, _, rfl, _, rfl, qq, _, _, _, rfl, rfl, hqq, atI_nat (j := 2) rfl, l, _, _, _, rfl, rfl, hl, at_rf i2, rfl, _, rfl, _, _, rfl, rfl, rfl, _, rfl, ite2 (fun c3 => ?_) (fun c3 => ⟨_, _, rfl, rfl, nx ?_⟩)⟩) (fun c => absurd (decide_eq_true rfl) c)⟩
      · have : ps.any (partB us As) = true := List.any_eq_true.mpr ⟨k, km, by rw [ep]; exact c3⟩
        rw [this] at Q0
        exact Q0
      · rw [ep]
        exact Bool.eq_false_iff.mpr c3
  · rintro σ H9 ⟨v3, v4, rfl, rfl, no⟩
    rw [List.length_map, List.take_of_length_le (Nat.le_refl _)] at no
    rw [no] at Q0
    exact Q0
end
end K34

/-! law k34: the law. Behind K34r. -/
namespace K34
open PySem L2
section
variable {P : Program} {w : World} {K : PySem.W.Frag} {mg : Str → Option Value} {base : Heap} {aK C CN CT CP CM : Addr} {f fC fP fG fL fS2 fE fX fY fZ fH : Addr} {fd dC dP dG dL' dS2 dE dX dY dZ dH : FuncData}
abbrev NL : List Str := ["_law_script", "_law_problem", "_law_parts", "_law_bonds", "_law_size", "_law_slots_here", "_law_table"]
def sp_law34 (K : PySem.W.Frag) : Sp := fun vs H Q _ => ∃ (a : Addr) (ns : List Int), vs = [.ref a] ∧ SqL K H a (ns.map V.int) ∧ ns.length ≤ 63 ∧ ∀ H', Q (.bl true) H'
theorem sc_law : FnScope NL ["_law_script"] (defScope s_law) := ⟨rfl, rfl, rfl, by decide +kernel, rfl, by decide +kernel, by decide +kernel⟩
set_option maxHeartbeats 4000000 in
theorem law7 (T : Txt K mg aK C CN CT CP CM) (BX : FB P w K mg base CX0 2 "_law_slots" fX dX ["_law_terms", "_law_size"] (sp_slots K)) (BY : FB P w K mg base CX0 1 "_law_tables" fY dY ["_law_slots_here", "_law_size"] (sp_tables K)) (BZ : FB P w K mg base CX0 1 "_law_values" fZ dZ ["_law_terms", "_law_slots_here", "_law_table"] (sp_lvals K)) (BH : FB P w K mg base CX0 1 "_law_part_holds" fH dH ["_law_problem", "_law_parts", "_law_values_here"] (sp_holds K C))
    {cdv : Value} {A : Around} {outer : List Env} {s : Shared} {H0 : Hp} {E : XK} (hr : Room 6 (A.deeper (PyProof.Rows.envOfC "law" (defScope s_law) s.heap.objs.size f cdv))) :
    ∃ t', PSs (cxOf CX0 P w K mg base NL "law" (defScope s_law) f cdv A outer s H0 E).nox ((defBody s_law).drop 7) t' ∧
      ∀ (D : Ends) (H : Hp) (v0 v3 : Option V) (n : Nat) (p tl al rl q : Addr) (T' : List Tm) (As : List At) (ps : List Int) (ls : List Lk), n ≤ 3 → PrS K C H p tl al rl T' As 12 → SqT K H q (ps.map V.int) → (∀ k ∈ ps, PIn As.length k) → (∀ lk ∈ ls, LkIn T'.length As.length lk) → eqF mrg ps T' As ls id = true → (∀ H', D.rt (.bl true) H') → t' D [v0, some (.ref p), some (.ref q), v3, some (.int (n : Int)), none, none] H := by
  have hr1 := hr.mono (show 1 ≤ 6 by decide)
  have hr2 := hr.mono (show 2 ≤ 6 by decide)
  refine ⟨_, (pss_cons (ps_set (i := 5) sc_law.nd rfl (Or.inl rfl) (pe_call BX.ok hr2 rfl BX.m BX.kp BX.b .nil pass0 (pa_cons (pe_fld (pv 1) rfl) (pa_cons (pv 4) pa_nil))))
    (pss_cons (ps_for PassesOwn.never rfl (pi_list (pe_call BY.ok hr1 rfl BY.m BY.kp BY.b .nil pass0 (pa_cons (pv 5) (pa_cons (pv 4) pa_nil)))) (pg_name (i := 6) sc_law.nd rfl (Or.inl rfl))
      (pss_one (ps_if (pt_not (pt_val (pe_call BH.ok hr1 rfl BH.m BH.kp BH.b .nil pass0 (pa_cons (pv 1) (pa_cons (pv 2) (pa_cons (pe_call BZ.ok hr1 rfl BZ.m BZ.kp BZ.b .nil pass0 (pa_cons (pe_fld (pv 1) rfl) (pa_cons (pv 5) (pa_cons (pv 6) pa_nil)))) pa_nil))))))
          (pss_one (ps_ret pe_bl))
          pss_nil)))
    (pss_one (ps_ret pe_bl)))), ?_⟩
  intro D H v0 v3 n p tl al rl q T' As ps ls n3 S hq pin lin eq Q0
  obtain ⟨⟨dx, ho⟩, ⟨ts, ht, hT⟩, _⟩ := id S.d.pr
  refine ⟨_, rfl, p, C, dx, _, _, rfl, ho, T.cl, T.nT, flds_terms _ _ _, _, rfl, tl, n, ts, T', rfl, SqL.of ht, hT, n3, S.ws, fun H1 sl us S' s1 fsl hsl hS' S12 cv => ?_⟩
  have usl : us.length = S'.length := by rw [← hS'.length, List.length_map]
  refine ⟨_, rfl, _, rfl, sl, n, us, rfl, SqL.of hsl, n3, by omega, fun H2 l ws s2 hl tb => ?_⟩
  have s02 := s1.trans s2
  refine ⟨l, rfl, ⟨_, SqL.of hl⟩, for_list (xs := ws) (fun i σ H' => ∃ (v6 : Option V), σ = [v0, some (.ref p), some (.ref q), v3, some (.int (n : Int)), some (.ref sl), v6] ∧ Same H2 H') ⟨none, rfl, Same.refl _⟩ (fun i σ H' _ ⟨_, _, s3⟩ => SqL.of (s3 _ _ hl)) ?_ ?_⟩
  · rintro i x σ H3 hx ⟨v6, rfl, s3⟩
    obtain ⟨a, tb', rfl, na, ha, tl', tv⟩ := (tb x (List.mem_of_getElem? hx)).same s3
    have s03 := s02.trans s3
    have S3 := S.same s03
    obtain ⟨⟨dx3, ho3⟩, ⟨ts3, ht3, hT3⟩, _⟩ := id S3.d.pr
    refine ⟨_, rfl, _, rfl, _, rfl, p, C, dx3, _, _, rfl, ho3, T.cl, T.nT, flds_terms _ _ _, _, rfl, _, rfl, tl, sl, a, n, ts3, us, T', S', tb', rfl, SqL.of ht3, hT3, S.wf, S.d.t3, S.d.tN, s3 _ _ (s2 _ _ hsl), hS'.keep (s2.trans s3).kt (nols_dTs _), cv, SqL.of ha, (by rw [tl', usl]), tv, fun H4 vl vs g s4 hv vll vo => ?_⟩
    refine ⟨p, tl, al, rl, q, vl, T', As, [], ps, vs, rfl, (S3.same s4).d, (s03.trans s4).tup hq, pin, SqL.of hv, vll, ?_⟩
    have yes : ps.any (partB vs As) = true := by
      apply Classical.byContradiction
      intro z
      have no : ∀ k ∈ ps, partB vs As k = false := fun k hk => Bool.eq_false_iff.mpr fun e => z (List.any_eq_true.mpr ⟨k, hk, e⟩)
      have := no_right S.d.dm vll vo no ls id lin fun t u _ _ e => by rw [show t = u from e]
      rw [eq] at this
      cases this
    rw [yes]
    exact ⟨_, rfl, iteF ⟨_, rfl, s3.trans s4⟩⟩
  · rintro σ H3 ⟨v6, rfl, s3⟩
    exact Q0 _
set_option maxHeartbeats 4000000 in
theorem ok_law (F : Fun K "law" "law" s_law f fd) (T : Txt K mg aK C CN CT CP CM) (mtuple : mg "tuple" = none) (BC : FB P w K mg base CX0 1 "_law_cell_at" fC dC ["_law_script", "_law_k"] (sp_cellw K)) (BP : FB P w K mg base CX0 5 "_law_small_by" fP dP ["_law_script", "_law_first", "_law_atoms"] (sp_small K C)) (BG : FB P w K mg base CX0 4 "_law_signs_by" fG dG ["_law_problem", "_law_cell"] (sp_signs K C)) (BL : FB P w K mg base CX0 3 "_law_links" fL dL' ["_law_problem", "_law_parts"] (sp_llinks K C)) (BS : FB P w K mg base CX0 2 "_law_links_spoilt" fS2 dS2 ["_law_problem", "_law_parts", "_law_bonds", "_law_cell"] (sp_spoilt K C)) (BE : FB P w K mg base CX0 5 "is_equal" fE dE ["problem", "parts", "links"] (sp_equal K C))
    (BX : FB P w K mg base CX0 2 "_law_slots" fX dX ["_law_terms", "_law_size"] (sp_slots K)) (BY : FB P w K mg base CX0 1 "_law_tables" fY dY ["_law_slots_here", "_law_size"] (sp_tables K)) (BZ : FB P w K mg base CX0 1 "_law_values" fZ dZ ["_law_terms", "_law_slots_here", "_law_table"] (sp_lvals K)) (BH : FB P w K mg base CX0 1 "_law_part_holds" fH dH ["_law_problem", "_law_parts", "_law_values_here"] (sp_holds K C)) : FnOk P w K mg base CX0 7 f fd ["_law_script"] (sp_law34 K) := by
  refine F.ok sc_law (fun vs H Q E h => ?_) (fun cdv A outer s H vs Q E hr h => ?_)
  · obtain ⟨a, ns, rfl, _⟩ := h
    rfl
  obtain ⟨a, ns, rfl, hS, n63, Q0⟩ := h
  have n1000 : ns.length ≤ 1000 := by omega
  have hu := hu64 hr
  have hr1 : Room 1 _ := hr.mono (by decide)
  have hr2 : Room 2 _ := hr.mono (by decide)
  have hr3 : Room 3 _ := hr.mono (by decide)
  have hr4 : Room 4 _ := hr.mono (by decide)
  have hr5 : Room 5 _ := hr.mono (by decide)
  obtain ⟨t7, h7, q7⟩ := law7 (f := f) (outer := outer) (H0 := H) (E := E) T BX BY BZ BH hr
  refine ⟨_, (pss_cons (ps_set (i := 1) sc_law.nd rfl (Or.inl rfl) (pe_call BP.ok hr5 rfl BP.m BP.kp BP.b .nil pass0 (pa_cons (pv 0) (pa_cons pe_int (pa_cons (pe_op op_add pe_int (pe_op op_mod (pe_call BC.ok hr1 rfl BC.m BC.kp BC.b .nil pass0 (pa_cons (pv 0) (pa_cons pe_int pa_nil))) pe_int)) pa_nil)))))
    (pss_cons (ps_set (i := 2) sc_law.nd rfl (Or.inl rfl) (pe_call BG.ok hr4 rfl BG.m BG.kp BG.b .nil pass0 (pa_cons (pv 1) (pa_cons (pe_call BC.ok hr1 rfl BC.m BC.kp BC.b .nil pass0 (pa_cons (pv 0) (pa_cons pe_int pa_nil))) pa_nil))))
    (pss_cons (ps_set (i := 3) sc_law.nd rfl (Or.inl rfl) (pe_call BL.ok hr3 rfl BL.m BL.kp BL.b .nil pass0 (pa_cons (pv 1) (pa_cons (pv 2) pa_nil))))
    (pss_cons (ps_set (i := 3) sc_law.nd rfl (Or.inl rfl) (pe_call BS.ok hr2 rfl BS.m BS.kp BS.b .nil pass0 (pa_cons (pv 1) (pa_cons (pv 2) (pa_cons (pv 3) (pa_cons (pe_call BC.ok hr1 rfl BC.m BC.kp BC.b .nil pass0 (pa_cons (pv 0) (pa_cons pe_int pa_nil))) pa_nil))))))
    (pss_cons (ps_if (pt_cmpR op_isnotB (pe_call BE.ok hr5 rfl BE.m BE.kp BE.b .nil pass0 (pa_cons (pv 1) (pa_cons (pv 2) (pa_cons (pe_callTy call_tuple_of rfl mtuple PyProof.Rows.Boot.tuple (pa_cons (pv 3) pa_nil)) pa_nil)))) pe_bl (nomark _))
      (pss_one (ps_ret pe_bl))
      pss_nil)
    (pss_cons (ps_set (i := 4) sc_law.nd rfl (Or.inl rfl) pe_int)
    (pss_cons (ps_if (PW.pt (pw_and (pt_cmpR op_lt (pe_callB call_len_seq rfl T.len PySem.boot_len (pa_cons (pe_lci (N' := ["_law_term"]) (ix := []) rfl rfl (by decide +kernel) (by decide +kernel) rfl (fun _ => ⟨[], clo_none (by decide +kernel) (by decide +kernel)⟩) (by decide +kernel) rfl rfl (fun j i h => by simp at h) (pi_list (pe_fld (pv 1) rfl)) (fun _ _ _ _ => (pt_cmpR (r := rEqD K) (op_eqD hu) (pe_ix (r := rIxT K) ix_tup (pv 0) pe_int (fun _ _ => rfl)) (pe_tup pa_nil) rfl)) (fun _ _ _ _ => (pv 0))) pa_nil)) pe_int (nomark _)) (pw_and1 (pt_cmpR op_eq (pe_op op_mod (pe_call BC.ok hr1 rfl BC.m BC.kp BC.b .nil pass0 (pa_cons (pv 0) (pa_cons pe_int pa_nil))) pe_int) pe_int (nomark _)))))
      (pss_one (ps_set (i := 4) sc_law.nd rfl (Or.inl rfl) pe_int))
      pss_nil)
    h7))))))), ?_⟩
  refine ⟨_, rfl, _, rfl, a, ns, 1, rfl, hS, n1000, by decide, by decide, fun c1 => ⟨_, _, rfl, rfl, (by show (0 : Int) < 5; decide), _, _, rfl, rfl, ?_⟩⟩
  have b1 := modB c1 (show (0 : Int) < 5 by decide)
  refine ⟨a, ns, 6, 1 + c1 % 5, rfl, hS, n1000, by decide, by decide, by omega, by omega, fun H1 p tl al rl T' As s1 np ft fa fr S1 t2 t6 a20 => ?_⟩
  refine ⟨_, rfl, _, rfl, a, ns, 2, rfl, s1.seq hS, n1000, by decide, by decide, fun c2 => ⟨p, tl, al, rl, T', As, [], c2, rfl, S1.d, by omega, fun H2 q ps s2 hq pin pl => ?_⟩⟩
  have S2 := S1.same s2
  have s02 := s1.trans s2
  refine ⟨_, rfl, _, rfl, p, tl, al, rl, q, T', As, [], ps, rfl, S2.d, .inr hq, pin, fun H3 l us ls s3 fl hl hL lin ll => ?_⟩
  have S3 := S2.same s3
  have s03 := s02.trans s3
  refine ⟨_, rfl, _, rfl, _, rfl, _, rfl, a, ns, 3, rfl, s03.seq hS, n1000, by decide, by decide, fun c3 => ⟨p, tl, al, rl, q, l, T', As, [], ps, c3, us, ls, rfl, S3.d, .inr (s3.tup hq), pin, by omega, by omega, hl, hL, lin, by omega, fun H4 l' us' ls' s4 ap hl4 hL4 lin4 ll4 => ?_⟩⟩
  have S4 := S3.same s4
  have hq4 := s4.tup (s3.tup hq)
  have s04 := s03.trans s4
  have ul4 : us'.length = ls'.length := by rw [← hL4.length, List.length_map]
  refine ⟨_, rfl, _, rfl, _, rfl, l', us', rfl, .inl ⟨SqL.of hl4, fun lt hlt => ?_⟩⟩
  have s5 := sameNew hlt (.tup us')
  have n5 := upd_same (H := H4) (a := lt) (o := .tup us')
  generalize upd H4 lt (.tup us') = H5 at s5 n5
  refine ⟨p, tl, al, rl, q, lt, T', As, [], ps, us', ls', rfl, (S4.same s5).d, s5.tup hq4, by omega, SqT.of n5, hL4.keep s5.kt (nols_dL _), lin4, by omega, fun H6 s6 => ?_⟩
  refine ⟨_, _, rfl, rfl, _, rfl, ite2 (fun _ => Q0 _) (fun c => ?_)⟩
  have eq : eqF mrg ps T' As ls' id = true := by
    cases h : eqF mrg ps T' As ls' id with
    | true => rfl
    | false => rw [h] at c; exact absurd rfl c
  have S6 := (S4.same s5).same s6
  have hq6 := s6.tup (s5.tup hq4)
  have hS6 := ((s04.trans s5).trans s6).seq hS
  obtain ⟨⟨dx, ho⟩, ⟨ts, ht, hT⟩, _⟩ := id S6.d.pr
  refine ⟨_, rfl, p, C, dx, _, _, rfl, ho, T.cl, T.nT, flds_terms _ _ _, tl, rfl, ⟨_, SqL.of ht⟩, fun D hD => lci_by wk_list (fun i ys H' => Same H6 H') (fun i ys H' z => SqL.of (z _ _ ht)) (sameNew hD _) ?_ ?_⟩
  · rintro i ys H8 x H7 hi hly hDs s7 ⟨rfl, hx⟩
    obtain ⟨t, tq, r, ht', rfl, htq, hr'⟩ := hasT_at (hT.keep s7.kt (nols_dTs _)) (hx _ (SqL.of (s7 _ _ ht)))
    refine ⟨_, rfl, tq, _, _, _, rfl, rfl, htq, atI_nat (j := 1) rfl, (by show 0 ≤ sizeLine; decide), fun e he => ?_⟩
    have s8 := sameNew he (.tup [])
    refine ⟨_, _, Has.tup' (s8.tup hr') (HasL.ints _), Has.tup' (SqT.of upd_same) (HasL.ints []), (by simp only [dep, deps_ints]; decide), _, rfl, ite2 (fun _ => ?_) (fun _ => ?_)⟩
    · exact ⟨_, rfl, lc_post (szM (by have := S6.d.tN; have := hT.length; rw [List.length_map] at this; omega)) hi hly (s8 _ _ hDs) ((s7.trans s8).upd hD)⟩
    · exact lc_skip hi hly (s8 _ _ hDs) (s7.trans s8)
  rintro ys H7 hDs s7
  have done : ∀ (D : Ends) (H8 : Hp) (n : Nat), (∀ H', D.rt (.bl true) H') → n ≤ 3 → Same H6 H8 → t7 D [some (.ref a), some (.ref p), some (.ref q), some (.ref l'), some (.int (n : Int)), none, none] H8 := fun D H8 n q0 n3 s8 => q7 D H8 (some (.ref a)) (some (.ref l')) n p tl al rl q T' As ps ls' n3 (S6.same s8) (s8.tup hq6) pin lin4 eq q0
  refine ⟨D, ys, rfl, .inl (SqL.of hDs), _, _, rfl, rfl, _, rfl, ite2 (fun _ => ?_) (fun _ => iteF (done _ H7 2 Q0 (by decide) s7))⟩
  refine ⟨_, rfl, a, ns, 4, rfl, s7.seq hS6, n1000, by decide, by decide, fun c4 => ⟨_, _, rfl, rfl, (by show (0 : Int) < 3; decide), rfl, _, rfl, ite2 (fun _ => done _ H7 3 Q0 (by decide) s7) (fun _ => done _ H7 2 Q0 (by decide) s7)⟩⟩
end
end K34

/-! law k34, last part: what the top has written, and the law. Behind K34s. -/
namespace K34
open PySem L2
set_option maxHeartbeats 4000000 in
theorem all_mk {l : PySem.W.OpenLaw} {w : World} {K : PySem.W.Frag} {h : Heap} {mg : Str → Option Value} {fa aK C CN CT CM CG f1 f2 f3 f4 f5 f6 f7 f8 f9 f10 f11 f12 f13 f14 f15 f16 f17 f18 f19 f20 f21 f22 f23 f24 f25 f26 f27 f28 f29 f30 f31 f32 f33 f34 f35 : Addr} (X : K.In h) (G : h.Ns mainGlobals mg) (hfa : mg "law" = some (.ref fa))
    {od1 an1 od2 an2 od3 an3 od4 an4 od5 an5 od6 an6 od7 an7 od8 an8 od9 an9 od10 an10 od11 an11 od12 an12 od13 an13 od14 an14 od15 an15 od16 an16 od17 an17 od18 an18 od19 an19 od20 an20 od21 an21 od22 an22 od23 an23 od24 an24 od25 an25 od26 an26 od27 an27 od28 an28 od29 an29 od30 an30 od31 an31 od32 an32 od33 an33 od34 an34 od35 an35 : Option Addr} {sl1 sl2 sl3 sl4 sl5 sl6 sl7 sl8 sl9 sl10 sl11 sl12 sl13 sl14 sl15 sl16 sl17 sl18 sl19 sl20 sl21 sl22 sl23 sl24 sl25 sl26 sl27 sl28 sl29 sl30 sl31 sl32 sl33 sl34 sl35 : Array (Option Value)} {oc1 kV1 dc1 pm1 cd1 ct1 oc2 kV2 dc2 pm2 cd2 ct2 oc3 kV3 dc3 pm3 cd3 ct3 oc4 kV4 dc4 pm4 cd4 ct4 oc5 kV5 dc5 pm5 cd5 ct5 oc6 kV6 dc6 pm6 cd6 ct6 oc7 kV7 dc7 pm7 cd7 ct7 oc8 kV8 dc8 pm8 cd8 ct8 oc9 kV9 dc9 pm9 cd9 ct9 oc10 kV10 dc10 pm10 cd10 ct10 oc11 kV11 dc11 pm11 cd11 ct11 oc12 kV12 dc12 pm12 cd12 ct12 oc13 kV13 dc13 pm13 cd13 ct13 oc14 kV14 dc14 pm14 cd14 ct14 oc15 kV15 dc15 pm15 cd15 ct15 oc16 kV16 dc16 pm16 cd16 ct16 oc17 kV17 dc17 pm17 cd17 ct17 oc18 kV18 dc18 pm18 cd18 ct18 oc19 kV19 dc19 pm19 cd19 ct19 oc20 kV20 dc20 pm20 cd20 ct20 oc21 kV21 dc21 pm21 cd21 ct21 oc22 kV22 dc22 pm22 cd22 ct22 oc23 kV23 dc23 pm23 cd23 ct23 oc24 kV24 dc24 pm24 cd24 ct24 oc25 kV25 dc25 pm25 cd25 ct25 oc26 kV26 dc26 pm26 cd26 ct26 oc27 kV27 dc27 pm27 cd27 ct27 oc28 kV28 dc28 pm28 cd28 ct28 oc29 kV29 dc29 pm29 cd29 ct29 oc30 kV30 dc30 pm30 cd30 ct30 oc31 kV31 dc31 pm31 cd31 ct31 oc32 kV32 dc32 pm32 cd32 ct32 oc33 kV33 dc33 pm33 cd33 ct33 oc34 kV34 dc34 pm34 cd34 ct34 oc35 kV35 dc35 pm35 cd35 ct35 : Value} {odK : Option Addr} {slK : Array (Option Value)} {t1 t2 t3 t4 t5 u1 u2 u3 u4 u5 u6 u7 u8 : Tok} {nK : Nat}
    (aC : PySem.W.nsIn K mainGlobals "Problem" = some (some (.ref C)))
    (aN : PySem.W.nsIn K mainGlobals "BadName" = some (some (.ref CN)))
    (aT : PySem.W.nsIn K mainGlobals "BadTerm" = some (some (.ref CT)))
    (aM : PySem.W.nsIn K mainGlobals "TooMany" = some (some (.ref CM)))
    (aG : PySem.W.nsIn K mainGlobals "Groups" = some (some (.ref CG)))
    (a1 : PySem.W.nsIn K mainGlobals "is_word" = some (some (.ref f1)))
    (l1 : K.lookup f1 = some ⟨oc1, od1, .func (PySem.W.fnOf "is_word" "is_word" (defArgs sIsWord) (defBody sIsWord) (defScope sIsWord) .none kV1 dc1 pm1 an1 cd1 ct1), sl1⟩)
    (c1 : PySem.W.codeIn K cd1 "is_word" = true)
    (k1 : PySem.W.keepIn K (.ref f1) = true)
    (a2 : PySem.W.nsIn K mainGlobals "is_name" = some (some (.ref f2)))
    (l2 : K.lookup f2 = some ⟨oc2, od2, .func (PySem.W.fnOf "is_name" "is_name" (defArgs sIsName) (defBody sIsName) (defScope sIsName) .none kV2 dc2 pm2 an2 cd2 ct2), sl2⟩)
    (c2 : PySem.W.codeIn K cd2 "is_name" = true)
    (k2 : PySem.W.keepIn K (.ref f2) = true)
    (a3 : PySem.W.nsIn K mainGlobals "ask_name" = some (some (.ref f3)))
    (l3 : K.lookup f3 = some ⟨oc3, od3, .func (PySem.W.fnOf "ask_name" "ask_name" (defArgs sAskName) (defBody sAskName) (defScope sAskName) .none kV3 dc3 pm3 an3 cd3 ct3), sl3⟩)
    (c3 : PySem.W.codeIn K cd3 "ask_name" = true)
    (k3 : PySem.W.keepIn K (.ref f3) = true)
    (a4 : PySem.W.nsIn K mainGlobals "place_of" = some (some (.ref f4)))
    (l4 : K.lookup f4 = some ⟨oc4, od4, .func (PySem.W.fnOf "place_of" "place_of" (defArgs sPlace) (defBody sPlace) (defScope sPlace) .none kV4 dc4 pm4 an4 cd4 ct4), sl4⟩)
    (c4 : PySem.W.codeIn K cd4 "place_of" = true)
    (k4 : PySem.W.keepIn K (.ref f4) = true)
    (a5 : PySem.W.nsIn K mainGlobals "sameness" = some (some (.ref f5)))
    (l5 : K.lookup f5 = some ⟨oc5, od5, .func (PySem.W.fnOf "sameness" "sameness" (defArgs s_sameness) (defBody s_sameness) (defScope s_sameness) .none kV5 dc5 pm5 an5 cd5 ct5), sl5⟩)
    (c5 : PySem.W.codeIn K cd5 "sameness" = true)
    (k5 : PySem.W.keepIn K (.ref f5) = true)
    (a6 : PySem.W.nsIn K mainGlobals "is_told" = some (some (.ref f6)))
    (l6 : K.lookup f6 = some ⟨oc6, od6, .func (PySem.W.fnOf "is_told" "is_told" (defArgs s_is_told) (defBody s_is_told) (defScope s_is_told) .none kV6 dc6 pm6 an6 cd6 ct6), sl6⟩)
    (c6 : PySem.W.codeIn K cd6 "is_told" = true)
    (k6 : PySem.W.keepIn K (.ref f6) = true)
    (a7 : PySem.W.nsIn K mainGlobals "is_alike" = some (some (.ref f7)))
    (l7 : K.lookup f7 = some ⟨oc7, od7, .func (PySem.W.fnOf "is_alike" "is_alike" (defArgs s_is_alike) (defBody s_is_alike) (defScope s_is_alike) .none kV7 dc7 pm7 an7 cd7 ct7), sl7⟩)
    (c7 : PySem.W.codeIn K cd7 "is_alike" = true)
    (k7 : PySem.W.keepIn K (.ref f7) = true)
    (a8 : PySem.W.nsIn K mainGlobals "is_right" = some (some (.ref f8)))
    (l8 : K.lookup f8 = some ⟨oc8, od8, .func (PySem.W.fnOf "is_right" "is_right" (defArgs s_is_right) (defBody s_is_right) (defScope s_is_right) .none kV8 dc8 pm8 an8 cd8 ct8), sl8⟩)
    (c8 : PySem.W.codeIn K cd8 "is_right" = true)
    (k8 : PySem.W.keepIn K (.ref f8) = true)
    (a9 : PySem.W.nsIn K mainGlobals "says_joined" = some (some (.ref f9)))
    (l9 : K.lookup f9 = some ⟨oc9, od9, .func (PySem.W.fnOf "says_joined" "says_joined" (defArgs s_says_joined) (defBody s_says_joined) (defScope s_says_joined) .none kV9 dc9 pm9 an9 cd9 ct9), sl9⟩)
    (c9 : PySem.W.codeIn K cd9 "says_joined" = true)
    (k9 : PySem.W.keepIn K (.ref f9) = true)
    (a10 : PySem.W.nsIn K mainGlobals "is_equal" = some (some (.ref f10)))
    (l10 : K.lookup f10 = some ⟨oc10, od10, .func (PySem.W.fnOf "is_equal" "is_equal" (defArgs s_is_equal) (defBody s_is_equal) (defScope s_is_equal) .none kV10 dc10 pm10 an10 cd10 ct10), sl10⟩)
    (c10 : PySem.W.codeIn K cd10 "is_equal" = true)
    (k10 : PySem.W.keepIn K (.ref f10) = true)
    (a11 : PySem.W.nsIn K mainGlobals "_law_cell_at" = some (some (.ref f11)))
    (l11 : K.lookup f11 = some ⟨oc11, od11, .func (PySem.W.fnOf "_law_cell_at" "_law_cell_at" (defArgs sCell) (defBody sCell) (defScope sCell) .none kV11 dc11 pm11 an11 cd11 ct11), sl11⟩)
    (c11 : PySem.W.codeIn K cd11 "_law_cell_at" = true)
    (k11 : PySem.W.keepIn K (.ref f11) = true)
    (a12 : PySem.W.nsIn K mainGlobals "_law_small_by" = some (some (.ref f12)))
    (l12 : K.lookup f12 = some ⟨oc12, od12, .func (PySem.W.fnOf "_law_small_by" "_law_small_by" (defArgs s__law_small_by) (defBody s__law_small_by) (defScope s__law_small_by) .none kV12 dc12 pm12 an12 cd12 ct12), sl12⟩)
    (c12 : PySem.W.codeIn K cd12 "_law_small_by" = true)
    (k12 : PySem.W.keepIn K (.ref f12) = true)
    (a13 : PySem.W.nsIn K mainGlobals "_law_merged" = some (some (.ref f13)))
    (l13 : K.lookup f13 = some ⟨oc13, od13, .func (PySem.W.fnOf "_law_merged" "_law_merged" (defArgs s__law_merged) (defBody s__law_merged) (defScope s__law_merged) .none kV13 dc13 pm13 an13 cd13 ct13), sl13⟩)
    (c13 : PySem.W.codeIn K cd13 "_law_merged" = true)
    (k13 : PySem.W.keepIn K (.ref f13) = true)
    (a14 : PySem.W.nsIn K mainGlobals "_law_alike" = some (some (.ref f14)))
    (l14 : K.lookup f14 = some ⟨oc14, od14, .func (PySem.W.fnOf "_law_alike" "_law_alike" (defArgs s__law_alike) (defBody s__law_alike) (defScope s__law_alike) .none kV14 dc14 pm14 an14 cd14 ct14), sl14⟩)
    (c14 : PySem.W.codeIn K cd14 "_law_alike" = true)
    (k14 : PySem.W.keepIn K (.ref f14) = true)
    (a15 : PySem.W.nsIn K mainGlobals "_law_next" = some (some (.ref f15)))
    (l15 : K.lookup f15 = some ⟨oc15, od15, .func (PySem.W.fnOf "_law_next" "_law_next" (defArgs s__law_next) (defBody s__law_next) (defScope s__law_next) .none kV15 dc15 pm15 an15 cd15 ct15), sl15⟩)
    (c15 : PySem.W.codeIn K cd15 "_law_next" = true)
    (k15 : PySem.W.keepIn K (.ref f15) = true)
    (a16 : PySem.W.nsIn K mainGlobals "_law_links" = some (some (.ref f16)))
    (l16 : K.lookup f16 = some ⟨oc16, od16, .func (PySem.W.fnOf "_law_links" "_law_links" (defArgs s__law_links) (defBody s__law_links) (defScope s__law_links) .none kV16 dc16 pm16 an16 cd16 ct16), sl16⟩)
    (c16 : PySem.W.codeIn K cd16 "_law_links" = true)
    (k16 : PySem.W.keepIn K (.ref f16) = true)
    (a17 : PySem.W.nsIn K mainGlobals "_law_aim" = some (some (.ref f17)))
    (l17 : K.lookup f17 = some ⟨oc17, od17, .func (PySem.W.fnOf "_law_aim" "_law_aim" (defArgs s__law_aim) (defBody s__law_aim) (defScope s__law_aim) .none kV17 dc17 pm17 an17 cd17 ct17), sl17⟩)
    (c17 : PySem.W.codeIn K cd17 "_law_aim" = true)
    (k17 : PySem.W.keepIn K (.ref f17) = true)
    (a18 : PySem.W.nsIn K mainGlobals "_law_links_spoilt" = some (some (.ref f18)))
    (l18 : K.lookup f18 = some ⟨oc18, od18, .func (PySem.W.fnOf "_law_links_spoilt" "_law_links_spoilt" (defArgs s__law_links_spoilt) (defBody s__law_links_spoilt) (defScope s__law_links_spoilt) .none kV18 dc18 pm18 an18 cd18 ct18), sl18⟩)
    (c18 : PySem.W.codeIn K cd18 "_law_links_spoilt" = true)
    (k18 : PySem.W.keepIn K (.ref f18) = true)
    (a19 : PySem.W.nsIn K mainGlobals "_law_signs_by" = some (some (.ref f19)))
    (l19 : K.lookup f19 = some ⟨oc19, od19, .func (PySem.W.fnOf "_law_signs_by" "_law_signs_by" (defArgs s__law_signs_by) (defBody s__law_signs_by) (defScope s__law_signs_by) .none kV19 dc19 pm19 an19 cd19 ct19), sl19⟩)
    (c19 : PySem.W.codeIn K cd19 "_law_signs_by" = true)
    (k19 : PySem.W.keepIn K (.ref f19) = true)
    (a20 : PySem.W.nsIn K mainGlobals "_law_closed" = some (some (.ref f20)))
    (l20 : K.lookup f20 = some ⟨oc20, od20, .func (PySem.W.fnOf "_law_closed" "_law_closed" (defArgs s__law_closed) (defBody s__law_closed) (defScope s__law_closed) .none kV20 dc20 pm20 an20 cd20 ct20), sl20⟩)
    (c20 : PySem.W.codeIn K cd20 "_law_closed" = true)
    (k20 : PySem.W.keepIn K (.ref f20) = true)
    (a21 : PySem.W.nsIn K mainGlobals "_law_slots" = some (some (.ref f21)))
    (l21 : K.lookup f21 = some ⟨oc21, od21, .func (PySem.W.fnOf "_law_slots" "_law_slots" (defArgs s__law_slots) (defBody s__law_slots) (defScope s__law_slots) .none kV21 dc21 pm21 an21 cd21 ct21), sl21⟩)
    (c21 : PySem.W.codeIn K cd21 "_law_slots" = true)
    (k21 : PySem.W.keepIn K (.ref f21) = true)
    (a22 : PySem.W.nsIn K mainGlobals "_law_longer" = some (some (.ref f22)))
    (l22 : K.lookup f22 = some ⟨oc22, od22, .func (PySem.W.fnOf "_law_longer" "_law_longer" (defArgs s__law_longer) (defBody s__law_longer) (defScope s__law_longer) .none kV22 dc22 pm22 an22 cd22 ct22), sl22⟩)
    (c22 : PySem.W.codeIn K cd22 "_law_longer" = true)
    (k22 : PySem.W.keepIn K (.ref f22) = true)
    (a23 : PySem.W.nsIn K mainGlobals "_law_tables" = some (some (.ref f23)))
    (l23 : K.lookup f23 = some ⟨oc23, od23, .func (PySem.W.fnOf "_law_tables" "_law_tables" (defArgs s__law_tables) (defBody s__law_tables) (defScope s__law_tables) .none kV23 dc23 pm23 an23 cd23 ct23), sl23⟩)
    (c23 : PySem.W.codeIn K cd23 "_law_tables" = true)
    (k23 : PySem.W.keepIn K (.ref f23) = true)
    (a24 : PySem.W.nsIn K mainGlobals "_law_values" = some (some (.ref f24)))
    (l24 : K.lookup f24 = some ⟨oc24, od24, .func (PySem.W.fnOf "_law_values" "_law_values" (defArgs s__law_values) (defBody s__law_values) (defScope s__law_values) .none kV24 dc24 pm24 an24 cd24 ct24), sl24⟩)
    (c24 : PySem.W.codeIn K cd24 "_law_values" = true)
    (k24 : PySem.W.keepIn K (.ref f24) = true)
    (a25 : PySem.W.nsIn K mainGlobals "_law_part_holds" = some (some (.ref f25)))
    (l25 : K.lookup f25 = some ⟨oc25, od25, .func (PySem.W.fnOf "_law_part_holds" "_law_part_holds" (defArgs s__law_part_holds) (defBody s__law_part_holds) (defScope s__law_part_holds) .none kV25 dc25 pm25 an25 cd25 ct25), sl25⟩)
    (c25 : PySem.W.codeIn K cd25 "_law_part_holds" = true)
    (k25 : PySem.W.keepIn K (.ref f25) = true)
    (a26 : PySem.W.nsIn K mainGlobals "law" = some (some (.ref f26)))
    (l26 : K.lookup f26 = some ⟨oc26, od26, .func (PySem.W.fnOf "law" "law" (defArgs s_law) (defBody s_law) (defScope s_law) .none kV26 dc26 pm26 an26 cd26 ct26), sl26⟩)
    (c26 : PySem.W.codeIn K cd26 "law" = true)
    (k26 : PySem.W.keepIn K (.ref f26) = true)
    (a27 : PySem.W.findIn K (.ref C) "__init__" = some (some (.ref f27)))
    (i27 : PySem.W.isFn K (.ref f27) = true)
    (l27 : K.lookup f27 = some ⟨oc27, od27, .func (PySem.W.fnOf "__init__" "Problem.__init__" (defArgs sInit) (defBody sInit) (defScope sInit) .none kV27 dc27 pm27 an27 cd27 ct27), sl27⟩)
    (c27 : PySem.W.codeIn K cd27 "Problem.__init__" = true)
    (k27 : PySem.W.keepIn K (.ref f27) = true)
    (a28 : PySem.W.findIn K (.ref C) "ask_term" = some (some (.ref f28)))
    (i28 : PySem.W.isFn K (.ref f28) = true)
    (l28 : K.lookup f28 = some ⟨oc28, od28, .func (PySem.W.fnOf "ask_term" "Problem.ask_term" (defArgs sAskTerm) (defBody sAskTerm) (defScope sAskTerm) .none kV28 dc28 pm28 an28 cd28 ct28), sl28⟩)
    (c28 : PySem.W.codeIn K cd28 "Problem.ask_term" = true)
    (k28 : PySem.W.keepIn K (.ref f28) = true)
    (a29 : PySem.W.findIn K (.ref C) "add_term" = some (some (.ref f29)))
    (i29 : PySem.W.isFn K (.ref f29) = true)
    (l29 : K.lookup f29 = some ⟨oc29, od29, .func (PySem.W.fnOf "add_term" "Problem.add_term" (defArgs sAdd) (defBody sAdd) (defScope sAdd) .none kV29 dc29 pm29 an29 cd29 ct29), sl29⟩)
    (c29 : PySem.W.codeIn K cd29 "Problem.add_term" = true)
    (k29 : PySem.W.keepIn K (.ref f29) = true)
    (a30 : PySem.W.findIn K (.ref C) "add_plain" = some (some (.ref f30)))
    (i30 : PySem.W.isFn K (.ref f30) = true)
    (l30 : K.lookup f30 = some ⟨oc30, od30, .func (PySem.W.fnOf "add_plain" "Problem.add_plain" (defArgs sPlain) (defBody sPlain) (defScope sPlain) .none kV30 dc30 pm30 an30 cd30 ct30), sl30⟩)
    (c30 : PySem.W.codeIn K cd30 "Problem.add_plain" = true)
    (k30 : PySem.W.keepIn K (.ref f30) = true)
    (a31 : PySem.W.findIn K (.ref C) "add_same" = some (some (.ref f31)))
    (i31 : PySem.W.isFn K (.ref f31) = true)
    (l31 : K.lookup f31 = some ⟨oc31, od31, .func (PySem.W.fnOf "add_same" "Problem.add_same" (defArgs sSame) (defBody sSame) (defScope sSame) .none kV31 dc31 pm31 an31 cd31 ct31), sl31⟩)
    (c31 : PySem.W.codeIn K cd31 "Problem.add_same" = true)
    (k31 : PySem.W.keepIn K (.ref f31) = true)
    (a32 : PySem.W.findIn K (.ref CG) "__init__" = some (some (.ref f32)))
    (i32 : PySem.W.isFn K (.ref f32) = true)
    (l32 : K.lookup f32 = some ⟨oc32, od32, .func (PySem.W.fnOf "__init__" "Groups.__init__" (defArgs s_init) (defBody s_init) (defScope s_init) .none kV32 dc32 pm32 an32 cd32 ct32), sl32⟩)
    (c32 : PySem.W.codeIn K cd32 "Groups.__init__" = true)
    (k32 : PySem.W.keepIn K (.ref f32) = true)
    (a33 : PySem.W.findIn K (.ref CG) "head" = some (some (.ref f33)))
    (i33 : PySem.W.isFn K (.ref f33) = true)
    (l33 : K.lookup f33 = some ⟨oc33, od33, .func (PySem.W.fnOf "head" "Groups.head" (defArgs s_head) (defBody s_head) (defScope s_head) .none kV33 dc33 pm33 an33 cd33 ct33), sl33⟩)
    (c33 : PySem.W.codeIn K cd33 "Groups.head" = true)
    (k33 : PySem.W.keepIn K (.ref f33) = true)
    (a34 : PySem.W.findIn K (.ref CG) "together" = some (some (.ref f34)))
    (i34 : PySem.W.isFn K (.ref f34) = true)
    (l34 : K.lookup f34 = some ⟨oc34, od34, .func (PySem.W.fnOf "together" "Groups.together" (defArgs s_together) (defBody s_together) (defScope s_together) .none kV34 dc34 pm34 an34 cd34 ct34), sl34⟩)
    (c34 : PySem.W.codeIn K cd34 "Groups.together" = true)
    (k34 : PySem.W.keepIn K (.ref f34) = true)
    (a35 : PySem.W.findIn K (.ref CG) "merge" = some (some (.ref f35)))
    (i35 : PySem.W.isFn K (.ref f35) = true)
    (l35 : K.lookup f35 = some ⟨oc35, od35, .func (PySem.W.fnOf "merge" "Groups.merge" (defArgs s_merge) (defBody s_merge) (defScope s_merge) .none kV35 dc35 pm35 an35 cd35 ct35), sl35⟩)
    (c35 : PySem.W.codeIn K cd35 "Groups.merge" = true)
    (k35 : PySem.W.keepIn K (.ref f35) = true)
    (s1 : PySem.W.nsIn K mainGlobals "SMALL_LETTERS" = some (some (.str abc t1)))
    (s2 : PySem.W.nsIn K mainGlobals "LONGEST_NAME" = some (some (.int 8 t2)))
    (s3 : PySem.W.nsIn K mainGlobals "MOST_TERM_PARTS" = some (some (.int 3 t3)))
    (s4 : PySem.W.nsIn K mainGlobals "MOST_TERMS" = some (some (.int 60 t4)))
    (s5 : PySem.W.nsIn K mainGlobals "MOST_ATOMS" = some (some (.int 40 t5)))
    (s8 : PySem.W.nsIn K mainGlobals "KEPT_WORDS" = some (some (.ref aK)))
    (s9 : K.lookup aK = some ⟨.type "tuple", odK, .seq #[.str "or" u1, .str "and" u2, .str "not" u3, .str "never" u4, .str "always" u5, .str "then" u6, .str "as" u7, .str "unlike" u8] nK, slK⟩)
    (z_len : PySem.W.nsIn K mainGlobals "len" = some none)
    (z_all : PySem.W.nsIn K mainGlobals "all" = some none)
    (z_range : PySem.W.nsIn K mainGlobals "range" = some none)
    (z_isinstance : PySem.W.nsIn K mainGlobals "isinstance" = some none)
    (z_bool : PySem.W.nsIn K mainGlobals "bool" = some none)
    (z_tuple : PySem.W.nsIn K mainGlobals "tuple" = some none)
    (z_abs : PySem.W.nsIn K mainGlobals "abs" = some none)
    (z_min : PySem.W.nsIn K mainGlobals "min" = some none)
    (z_max : PySem.W.nsIn K mainGlobals "max" = some none)
    (z_any : PySem.W.nsIn K mainGlobals "any" = some none)
    (z_zip : PySem.W.nsIn K mainGlobals "zip" = some none)
    (z_list : PySem.W.nsIn K mainGlobals "list" = some none)
    (pg : PySem.W.plainGet K C Str.empty = true)
    (hd : PySem.W.hasDictIn K C = true)
    (po : PySem.W.plainOver K C = true)
    (sa : PySem.W.findIn K (.ref C) "__setattr__" = some (some (.builtin "object.__setattr__")))
    (mk : PySem.W.makesIn K C = true)
    (kc : PySem.W.keepIn K (.ref C) = true)
    (pgG : PySem.W.plainGet K CG Str.empty = true)
    (hdG : PySem.W.hasDictIn K CG = true)
    (poG : PySem.W.plainOver K CG = true)
    (saG : PySem.W.findIn K (.ref CG) "__setattr__" = some (some (.builtin "object.__setattr__")))
    (mkG : PySem.W.makesIn K CG = true)
    (kcG : PySem.W.keepIn K (.ref CG) = true)
    (nT : PySem.W.findIn K (.ref C) "terms" = some none)
    (nA : PySem.W.findIn K (.ref C) "atoms" = some none)
    (nR : PySem.W.findIn K (.ref C) "rows" = some none)
    (nL : PySem.W.findIn K (.ref CG) "least" = some none)
    (nG : PySem.W.findIn K (.ref CG) "gathered" = some none)
    (xN : PySem.W.excIn K CN bmV "ValueError.__new__" = true)
    (xT : PySem.W.excIn K CT bmV "ValueError.__new__" = true)
    (xM : PySem.W.excIn K CM bmV "ValueError.__new__" = true)
    : ∃ fd : FuncData, (∀ (s : Shared) (v : Value), BindsTo s fd ⟨[v], []⟩ [("_law_script", v)]) ∧ ∀ base : Heap, K.In base → base.Ns mainGlobals mg → FnOk l.prog w K mg base CX0 7 fa fd ["_law_script"] (sp_law34 K) := by
  have e := hfa.symm.trans (PySem.W.mg_of X G a26)
  cases e
  have T : Txt K mg aK C CN CT C CM := ⟨⟨_, PySem.W.mg_of X G s1⟩, ⟨_, PySem.W.mg_of X G s2⟩, ⟨_, PySem.W.mg_of X G s3⟩, ⟨_, PySem.W.mg_of X G s4⟩, ⟨_, PySem.W.mg_of X G s5⟩, PySem.W.mg_of X G s8, fun H => .inr ⟨_, _, _, s9, rfl, rfl, (by show 8 ≤ sizeLine; decide), .cons ⟨_, rfl⟩ (.cons ⟨_, rfl⟩ (.cons ⟨_, rfl⟩ (.cons ⟨_, rfl⟩ (.cons ⟨_, rfl⟩ (.cons ⟨_, rfl⟩ (.cons ⟨_, rfl⟩ (.cons ⟨_, rfl⟩ .nil)))))))⟩, PySem.W.mg_none_of X G z_len, PySem.W.mg_none_of X G z_all, PySem.W.mg_none_of X G z_range, PySem.W.mg_none_of X G z_isinstance, PySem.W.mg_none_of X G z_bool, PySem.W.mg_none_of X G z_tuple, PySem.W.mg_none_of X G z_abs, PySem.W.mg_of X G aN, PySem.W.mg_of X G aT, PySem.W.mg_of X G aM, xN, xT, xM, ⟨pg, hd, po, sa⟩, nT, nA, nR⟩
  have TG : TxG K mg CG := ⟨⟨pgG, hdG, poG, saG⟩, nL, nG, PySem.W.mg_none_of X G z_min, PySem.W.mg_none_of X G z_max, PySem.W.mg_none_of X G z_range⟩
  have F1 := fun_mk (st := sIsWord) l1 c1 k1
  have b1 := F1.binds (ps := ["text"]) fun _ _ _ _ _ _ us hl => match us, hl with | [_], _ => rfl
  have m1 := PySem.W.mg_of X G a1
  have F2 := fun_mk (st := sIsName) l2 c2 k2
  have b2 := F2.binds (ps := ["word"]) fun _ _ _ _ _ _ us hl => match us, hl with | [_], _ => rfl
  have m2 := PySem.W.mg_of X G a2
  have F3 := fun_mk (st := sAskName) l3 c3 k3
  have b3 := F3.binds (ps := ["word"]) fun _ _ _ _ _ _ us hl => match us, hl with | [_], _ => rfl
  have m3 := PySem.W.mg_of X G a3
  have F4 := fun_mk (st := sPlace) l4 c4 k4
  have b4 := F4.binds (ps := ["thing", "things", "most"]) fun _ _ _ _ _ _ us hl => match us, hl with | [_, _, _], _ => rfl
  have m4 := PySem.W.mg_of X G a4
  have F5 := fun_mk (st := s_sameness) l5 c5 k5
  have b5 := F5.binds (ps := ["problem", "number"]) fun _ _ _ _ _ _ us hl => match us, hl with | [_, _], _ => rfl
  have m5 := PySem.W.mg_of X G a5
  have F6 := fun_mk (st := s_is_told) l6 c6 k6
  have b6 := F6.binds (ps := ["problem", "parts", "link"]) fun _ _ _ _ _ _ us hl => match us, hl with | [_, _, _], _ => rfl
  have m6 := PySem.W.mg_of X G a6
  have F7 := fun_mk (st := s_is_alike) l7 c7 k7
  have b7 := F7.binds (ps := ["terms", "link", "groups"]) fun _ _ _ _ _ _ us hl => match us, hl with | [_, _, _], _ => rfl
  have m7 := PySem.W.mg_of X G a7
  have F8 := fun_mk (st := s_is_right) l8 c8 k8
  have b8 := F8.binds (ps := ["problem", "parts", "link", "groups"]) fun _ _ _ _ _ _ us hl => match us, hl with | [_, _, _, _], _ => rfl
  have m8 := PySem.W.mg_of X G a8
  have F9 := fun_mk (st := s_says_joined) l9 c9 k9
  have b9 := F9.binds (ps := ["problem", "part", "groups"]) fun _ _ _ _ _ _ us hl => match us, hl with | [_, _, _], _ => rfl
  have m9 := PySem.W.mg_of X G a9
  have F10 := fun_mk (st := s_is_equal) l10 c10 k10
  have b10 := F10.binds (ps := ["problem", "parts", "links"]) fun _ _ _ _ _ _ us hl => match us, hl with | [_, _, _], _ => rfl
  have m10 := PySem.W.mg_of X G a10
  have F11 := fun_mk (st := sCell) l11 c11 k11
  have b11 := F11.binds (ps := ["_law_script", "_law_k"]) fun _ _ _ _ _ _ us hl => match us, hl with | [_, _], _ => rfl
  have m11 := PySem.W.mg_of X G a11
  have F12 := fun_mk (st := s__law_small_by) l12 c12 k12
  have b12 := F12.binds (ps := ["_law_script", "_law_first", "_law_atoms"]) fun _ _ _ _ _ _ us hl => match us, hl with | [_, _, _], _ => rfl
  have m12 := PySem.W.mg_of X G a12
  have F13 := fun_mk (st := s__law_merged) l13 c13 k13
  have b13 := F13.binds (ps := ["_law_roots", "_law_one", "_law_other"]) fun _ _ _ _ _ _ us hl => match us, hl with | [_, _, _], _ => rfl
  have m13 := PySem.W.mg_of X G a13
  have F14 := fun_mk (st := s__law_alike) l14 c14 k14
  have b14 := F14.binds (ps := ["_law_terms", "_law_roots", "_law_one", "_law_other"]) fun _ _ _ _ _ _ us hl => match us, hl with | [_, _, _, _], _ => rfl
  have m14 := PySem.W.mg_of X G a14
  have F15 := fun_mk (st := s__law_next) l15 c15 k15
  have b15 := F15.binds (ps := ["_law_problem", "_law_parts", "_law_roots"]) fun _ _ _ _ _ _ us hl => match us, hl with | [_, _, _], _ => rfl
  have m15 := PySem.W.mg_of X G a15
  have F16 := fun_mk (st := s__law_links) l16 c16 k16
  have b16 := F16.binds (ps := ["_law_problem", "_law_parts"]) fun _ _ _ _ _ _ us hl => match us, hl with | [_, _], _ => rfl
  have m16 := PySem.W.mg_of X G a16
  have F17 := fun_mk (st := s__law_aim) l17 c17 k17
  have b17 := F17.binds (ps := ["_law_problem", "_law_parts"]) fun _ _ _ _ _ _ us hl => match us, hl with | [_, _], _ => rfl
  have m17 := PySem.W.mg_of X G a17
  have F18 := fun_mk (st := s__law_links_spoilt) l18 c18 k18
  have b18 := F18.binds (ps := ["_law_problem", "_law_parts", "_law_bonds", "_law_cell"]) fun _ _ _ _ _ _ us hl => match us, hl with | [_, _, _, _], _ => rfl
  have m18 := PySem.W.mg_of X G a18
  have F19 := fun_mk (st := s__law_signs_by) l19 c19 k19
  have b19 := F19.binds (ps := ["_law_problem", "_law_cell"]) fun _ _ _ _ _ _ us hl => match us, hl with | [_, _], _ => rfl
  have m19 := PySem.W.mg_of X G a19
  have F20 := fun_mk (st := s__law_closed) l20 c20 k20
  have b20 := F20.binds (ps := ["_law_problem", "_law_parts"]) fun _ _ _ _ _ _ us hl => match us, hl with | [_, _], _ => rfl
  have m20 := PySem.W.mg_of X G a20
  have F21 := fun_mk (st := s__law_slots) l21 c21 k21
  have b21 := F21.binds (ps := ["_law_terms", "_law_size"]) fun _ _ _ _ _ _ us hl => match us, hl with | [_, _], _ => rfl
  have m21 := PySem.W.mg_of X G a21
  have F22 := fun_mk (st := s__law_longer) l22 c22 k22
  have b22 := F22.binds (ps := ["_law_rows", "_law_size"]) fun _ _ _ _ _ _ us hl => match us, hl with | [_, _], _ => rfl
  have m22 := PySem.W.mg_of X G a22
  have F23 := fun_mk (st := s__law_tables) l23 c23 k23
  have b23 := F23.binds (ps := ["_law_slots_here", "_law_size"]) fun _ _ _ _ _ _ us hl => match us, hl with | [_, _], _ => rfl
  have m23 := PySem.W.mg_of X G a23
  have F24 := fun_mk (st := s__law_values) l24 c24 k24
  have b24 := F24.binds (ps := ["_law_terms", "_law_slots_here", "_law_table"]) fun _ _ _ _ _ _ us hl => match us, hl with | [_, _, _], _ => rfl
  have m24 := PySem.W.mg_of X G a24
  have F25 := fun_mk (st := s__law_part_holds) l25 c25 k25
  have b25 := F25.binds (ps := ["_law_problem", "_law_parts", "_law_values_here"]) fun _ _ _ _ _ _ us hl => match us, hl with | [_, _, _], _ => rfl
  have m25 := PySem.W.mg_of X G a25
  have F26 := fun_mk (st := s_law) l26 c26 k26
  have F27 := fun_mk (st := sInit) l27 c27 k27
  have b27 := F27.binds (ps := ["self"]) fun _ _ _ _ _ _ us hl => match us, hl with | [_], _ => rfl
  have F28 := fun_mk (st := sAskTerm) l28 c28 k28
  have b28 := F28.binds (ps := ["self", "number"]) fun _ _ _ _ _ _ us hl => match us, hl with | [_, _], _ => rfl
  have M28 : Meth K C "ask_term" f28 := ⟨a28, i28, k28⟩
  have F29 := fun_mk (st := sAdd) l29 c29 k29
  have b29 := F29.binds (ps := ["self", "name", "parts"]) fun _ _ _ _ _ _ us hl => match us, hl with | [_, _, _], _ => rfl
  have M29 : Meth K C "add_term" f29 := ⟨a29, i29, k29⟩
  have F30 := fun_mk (st := sPlain) l30 c30 k30
  have b30 := F30.binds (ps := ["self", "name"]) fun _ _ _ _ _ _ us hl => match us, hl with | [_, _], _ => rfl
  have M30 : Meth K C "add_plain" f30 := ⟨a30, i30, k30⟩
  have F31 := fun_mk (st := sSame) l31 c31 k31
  have b31 := F31.binds (ps := ["self", "one", "other"]) fun _ _ _ _ _ _ us hl => match us, hl with | [_, _, _], _ => rfl
  have M31 : Meth K C "add_same" f31 := ⟨a31, i31, k31⟩
  have F32 := fun_mk (st := s_init) l32 c32 k32
  have b32 := F32.binds (ps := ["self"]) fun _ _ _ _ _ _ us hl => match us, hl with | [_], _ => rfl
  have F33 := fun_mk (st := s_head) l33 c33 k33
  have b33 := F33.binds (ps := ["self", "term"]) fun _ _ _ _ _ _ us hl => match us, hl with | [_, _], _ => rfl
  have M33 : Meth K CG "head" f33 := ⟨a33, i33, k33⟩
  have F34 := fun_mk (st := s_together) l34 c34 k34
  have b34 := F34.binds (ps := ["self", "one", "other"]) fun _ _ _ _ _ _ us hl => match us, hl with | [_, _, _], _ => rfl
  have M34 : Meth K CG "together" f34 := ⟨a34, i34, k34⟩
  have F35 := fun_mk (st := s_merge) l35 c35 k35
  have b35 := F35.binds (ps := ["self", "one", "other"]) fun _ _ _ _ _ _ us hl => match us, hl with | [_, _, _], _ => rfl
  have M35 : Meth K CG "merge" f35 := ⟨a35, i35, k35⟩
  refine ⟨PySem.W.fnOf "law" "law" (defArgs s_law) (defBody s_law) (defScope s_law) .none kV26 dc26 pm26 an26 cd26 ct26, fun s v => .of_eq rfl, fun base _ _ => ?_⟩
  have G1 := ok_isword (P := l.prog) (w := w) (base := base) F1 T
  have G2 := ok_isname F2 T G1 b1 k1 m1
  have G3 := ok_askname F3 T G2 b2 k2 m2
  have G4 := ok_place (P := l.prog) (w := w) (base := base) F4 T
  have G27 := ok_init (P := l.prog) (w := w) (base := base) F27 T
  have G28 := ok_askterm (P := l.prog) (w := w) (base := base) F28 T
  have G29 := ok_add F29 T G3 b3 k3 m3 G28 b28 M28 G4 b4 k4 m4
  have G30 := ok_plain F30 T G3 b3 k3 m3 G4 b4 k4 m4
  have G31 := ok_same F31 T G28 b28 M28 G4 b4 k4 m4
  have GS4 := G31.mono (k := 4) (by decide)
  have MKI : Mk K C f27 := ⟨mk, a27, i27, kc⟩
  have OW : Own l.prog w K mg base C CN CT C CM f27 f29 f30 f31 _ _ _ _ := ⟨G27, b27, MKI, PySem.W.mg_of X G aC, G29, b29, M29, G30, b30, M30, GS4, b31, M31⟩
  have MKG : Mk K CG f32 := ⟨mkG, a32, i32, kcG⟩
  have G32 := Gp.ok_init (P := l.prog) (w := w) (base := base) F32 TG
  have G33 := Gp.ok_head (P := l.prog) (w := w) (base := base) F33 TG
  have G34 := Gp.ok_together F34 TG M33 G33 b33
  have G35 := Gp.ok_merge F35 TG M33 G33 b33
  have G5 := ok_sameness (P := l.prog) (w := w) (base := base) F5 T
  have G6 := ok_told F6 T m5 G5 b5 k5
  have G7 := ok_alike F7 T TG (PySem.W.mg_none_of X G z_zip) (PySem.W.mg_none_of X G z_all) M34 G34 b34
  have G8 := ok_right F8 T TG m6 G6 b6 k6 m7 G7 b7 k7
  have G9 := ok_says F9 TG m5 G5 b5 k5 M34 G34 b34
  have G10 := ok_equal F10 T TG (PySem.W.mg_none_of X G z_any) MKG (PySem.W.mg_of X G aG) G32 b32 M35 G35 b35 m8 G8 b8 k8 m9 G9 b9 k9
  have G11 := ok_cellw (P := l.prog) (w := w) (base := base) F11 T
  have G12 := ok_small F12 T (PySem.W.mg_none_of X G z_range) (PySem.W.mg_none_of X G z_max) OW ⟨G11, b11, k11, m11⟩
  have G13 := ok_lmerged (P := l.prog) (w := w) (base := base) (mg := mg) F13 
  have G14 := ok_lalike (P := l.prog) (w := w) (base := base) F14 T
  have G15 := ok_next F15 T (PySem.W.mg_none_of X G z_range) (PySem.W.mg_none_of X G z_abs) ⟨G14, b14, k14, m14⟩
  have G16 := ok_llinks F16 T (PySem.W.mg_none_of X G z_list) (PySem.W.mg_none_of X G z_range) ⟨G15, b15, k15, m15⟩ ⟨G13, b13, k13, m13⟩
  have G20 := ok_lclosed F20 T (PySem.W.mg_none_of X G z_list) (PySem.W.mg_none_of X G z_range) ⟨G15, b15, k15, m15⟩ ⟨G13, b13, k13, m13⟩
  have G17 := ok_aim (P := l.prog) (w := w) (base := base) F17 T
  have G18 := ok_spoilt F18 T ⟨G17, b17, k17, m17⟩
  have G19 := ok_signs F19 T (PySem.W.mg_none_of X G z_range) (PySem.W.mg_none_of X G z_tuple) ⟨G20, b20, k20, m20⟩
  have G22 := ok_longer (P := l.prog) (w := w) (base := base) F22 (PySem.W.mg_none_of X G z_range)
  have G21 := ok_slots F21 ⟨G22, b22, k22, m22⟩
  have G23 := ok_tables (P := l.prog) (w := w) (base := base) F23 (PySem.W.mg_none_of X G z_range)
  have G24 := ok_lvals (P := l.prog) (w := w) (base := base) F24 (PySem.W.mg_none_of X G z_tuple)
  have G25 := ok_holds (P := l.prog) (w := w) (base := base) F25 T (PySem.W.mg_none_of X G z_abs)
  exact ok_law F26 T (PySem.W.mg_none_of X G z_tuple) ⟨G11, b11, k11, m11⟩ ⟨G12, b12, k12, m12⟩ ⟨G19, b19, k19, m19⟩ ⟨G16, b16, k16, m16⟩ ⟨G18, b18, k18, m18⟩ ⟨G10, b10, k10, m10⟩ ⟨G21, b21, k21, m21⟩ ⟨G23, b23, k23, m23⟩ ⟨G24, b24, k24, m24⟩ ⟨G25, b25, k25, m25⟩
theorem walk {l : PySem.W.OpenLaw} {q : Program} {loose : List Str} {XP : (Str → Option Value) → Heap → Prop} {YP : World → Heap → Prop} {d : DefRec} {K : Params → PySem.W.Frag} (hn : l.most = some 63) (hdf : d.params.defaults = [])
    (hY : ∀ (w : World) (h : Heap), YP w h → (K w.params).In h)
    (F : ∀ (w : World) (mg : Str → Option Value) (fa : Addr) (h : Heap), (K w.params).In h → h.Ns mainGlobals mg → mg d.name = some (.ref fa) →
      ∃ fd : FuncData, (∀ (s : Shared) (u : Value), BindsTo s fd ⟨[u], []⟩ [("_law_script", u)]) ∧ ∀ base : Heap, (K w.params).In base → base.Ns mainGlobals mg → FnOk l.prog w (K w.params) mg base CX0 7 fa fd ["_law_script"] (sp_law34 (K w.params))) :
    PySem.W.WalkO q loose XP YP l.row.toRowW d [] (fun f vs => PySem.call f vs) :=
  L2.walk_of (n := 63) (k := 7) (x := "_law_script") (CX := fun _ => CX0) (sp := fun w => sp_law34 (K w.params)) hn (by decide) hdf ⟨rfl, by decide, by decide, rfl⟩ hY F (fun _ _ a ns hl _ hS => ⟨a, ns, rfl, hS, hl, fun _ => rfl⟩) fun _ _ _ _ _ z => z
end K34
def PySem.W.Fast.tw3149243959762527200 : Unit := ()
def PySem.W.Fast.tw16552251724020738760 : Unit := ()
def PySem.W.Fast.tw1159886713459699843 : Unit := ()
def PySem.W.Fast.tw6736824032599430348 : Unit := ()
def PySem.W.Fast.tw10444943901377217856 : Unit := ()
def PySem.W.Fast.tw6527281915536358055 : Unit := ()
def PySem.W.Fast.tw12647583458267271717 : Unit := ()
def PySem.W.Fast.tw10089327339933726967 : Unit := ()
def PySem.W.Fast.tw5255102735706864861 : Unit := ()
def PySem.W.Fast.tw16688905536000634669 : Unit := ()
def PySem.W.Fast.tw13048737430865195881 : Unit := ()
def PySem.W.Fast.tw17750488338470117901 : Unit := ()
def PySem.W.Fast.tw14610285305133298818 : Unit := ()
def PySem.W.Fast.tw18019756612397188836 : Unit := ()
def PySem.W.Fast.tw2618630361326311394 : Unit := ()
def PySem.W.Fast.tw17711664162984486228 : Unit := ()
def PySem.W.Fast.tw7990280214118531653 : Unit := ()
def PySem.W.Fast.tw10229830859138899206 : Unit := ()
def PySem.W.Fast.tw1611728145720119308 : Unit := ()
def PySem.W.Fast.tw3702440568480666519 : Unit := ()
def PySem.W.Fast.tw14014667510781269445 : Unit := ()
def PySem.W.Fast.tw6362480473704653870 : Unit := ()
def PySem.W.Fast.tw8755966758551436588 : Unit := ()
def PySem.W.Fast.tw13220881869280132746 : Unit := ()
def PySem.W.Fast.tw3996800111895909445 : Unit := ()
def PySem.W.Fast.tw10596214438177444762 : Unit := ()
def PySem.W.Fast.tw16221083681080251107 : Unit := ()
def PySem.W.Fast.tw14492732163786403869 : Unit := ()
def PySem.W.Fast.tw2660451046380873339 : Unit := ()
def PySem.W.Fast.tw6360090058837898069 : Unit := ()
def PySem.W.Fast.tw12929629107731341899 : Unit := ()
def PySem.W.Fast.tw4521814161865317127 : Unit := ()
def PySem.W.Fast.tw15562021621812824152 : Unit := ()
def PySem.W.Fast.tw2430405668786573062 : Unit := ()
def PySem.W.Fast.tw12536361506069677924 : Unit := ()
def PySem.W.Fast.tw17245227541271462202 : Unit := ()
def PySem.W.Fast.tw6080068486659311298 : Unit := ()
def PySem.W.Fast.tw17624173990945499067 : Unit := ()
def PySem.W.Fast.tw14348001023970544962 : Unit := ()
def PySem.W.Fast.tw12081974783910829615 : Unit := ()
def PySem.W.Fast.tw7412776726170098137 : Unit := ()
def PySem.W.Fast.tw15107260835337637254 : Unit := ()
def PySem.W.Fast.tw14812241589204342406 : Unit := ()
def PySem.W.Fast.tw17490091745503385095 : Unit := ()
def PySem.W.Fast.tw1166013748067991682 : Unit := ()
def PySem.W.Fast.tw17294652213005578145 : Unit := ()
def PySem.W.Fast.tw4161020525939774948 : Unit := ()
def PySem.W.Fast.tw14660920748013570226 : Unit := ()
def PySem.W.Fast.tw1876219366814426421 : Unit := ()
def PySem.W.Fast.tw12813329847003680936 : Unit := ()
def PySem.W.Fast.tw6663300118205799236 : Unit := ()
def PySem.W.Fast.tw16472117502282406922 : Unit := ()
def PySem.W.Fast.tw12516148455254941366 : Unit := ()
def PySem.W.Fast.tw14658310922468115611 : Unit := ()
def PySem.W.Fast.tw14453492279045766738 : Unit := ()
def PySem.W.Fast.tw2699946935866483400 : Unit := ()
def PySem.W.Fast.tw5306644209876892013 : Unit := ()
def PySem.W.Fast.tw17666582066517128751 : Unit := ()
def PySem.W.Fast.tw3882617729441031042 : Unit := ()
def PySem.W.Fast.tw13090291868046178184 : Unit := ()
def PySem.W.Fast.tw15898366202899981928 : Unit := ()
def PySem.W.Fast.tw18351612309626241316 : Unit := ()
def PySem.W.Fast.tw611277852981315013 : Unit := ()
def PySem.W.Fast.tw8679166647097982765 : Unit := ()
def PySem.W.Fast.tw7569569917677393224 : Unit := ()
def PySem.W.Fast.tw6472890650145241040 : Unit := ()
def PySem.W.Fast.tw13017224480569980890 : Unit := ()
def PySem.W.Fast.tw12082143228165516147 : Unit := ()
def PySem.W.Fast.tw11909489930774184556 : Unit := ()
def PySem.W.Fast.tw14593970293037650246 : Unit := ()
def PySem.W.Fast.tw6867489190609877209 : Unit := ()
def PySem.W.Fast.tw9743238535957098781 : Unit := ()
def PySem.W.Fast.tw16916138135494591560 : Unit := ()
def PySem.W.Fast.tw15458067813166569479 : Unit := ()
def PySem.W.Fast.tw5675132023588420486 : Unit := ()
def PySem.W.Fast.tw14108455737221472323 : Unit := ()
def PySem.W.Fast.tw9900017177423817099 : Unit := ()
def PySem.W.Fast.tw9964053441010728101 : Unit := ()
def PySem.W.Fast.tw16745754110589536531 : Unit := ()
def PySem.W.Fast.tw12758657595575260542 : Unit := ()
def PySem.W.Fast.tw7255904269044759835 : Unit := ()
def PySem.W.Fast.tw12704917129569693107 : Unit := ()
def PySem.W.Fast.tw6238195685935953746 : Unit := ()
def PySem.W.Fast.tw3948244875929049327 : Unit := ()
def PySem.W.Fast.tw17844132198510029066 : Unit := ()
def PySem.W.Fast.tw13489813436564449338 : Unit := ()
def PySem.W.Fast.tw15486235454244858019 : Unit := ()
def PySem.W.Fast.tw4741746695833471885 : Unit := ()
def PySem.W.Fast.tw6524593635712930142 : Unit := ()
def PySem.W.Fast.tw15275213611610139275 : Unit := ()
def PySem.W.Fast.tw9647537597159800647 : Unit := ()
def PySem.W.Fast.tw3181242035825626007 : Unit := ()
def PySem.W.Fast.tw10524522249471274215 : Unit := ()
def PySem.W.Fast.tw11581877274943722925 : Unit := ()
def PySem.W.Fast.tw18202078542549352635 : Unit := ()
def PySem.W.Fast.tw10683856286280705466 : Unit := ()
def PySem.W.Fast.tw10416209425896124235 : Unit := ()
def PySem.W.Fast.tw6642635220732557287 : Unit := ()
def PySem.W.Fast.tw421623946575160254 : Unit := ()
def PySem.W.Fast.tw14991311121880991877 : Unit := ()
def PySem.W.Fast.tw3160094930945742433 : Unit := ()
def PySem.W.Fast.tw17229131187582417095 : Unit := ()
def PySem.W.Fast.tw1612933277622362310 : Unit := ()
def PySem.W.Fast.tw14394960051270856373 : Unit := ()
def PySem.W.Fast.tw12499088089145197650 : Unit := ()
def PySem.W.Fast.tw4078352441988674840 : Unit := ()
def PySem.W.Fast.tw15460106064215453604 : Unit := ()
def PySem.W.Fast.tw9548860257342668920 : Unit := ()
def PySem.W.Fast.tw14666799476650430509 : Unit := ()
def PySem.W.Fast.tw4528447770908208813 : Unit := ()
def PySem.W.Fast.tw17472167611865292187 : Unit := ()
def PySem.W.Fast.tw15919834684315965293 : Unit := ()
def PySem.W.Fast.tw2858726368431810641 : Unit := ()
def PySem.W.Fast.tw3331150533182567993 : Unit := ()
def PySem.W.Fast.tw17724484767885601130 : Unit := ()
def PySem.W.Fast.tw18054380687393720169 : Unit := ()
def PySem.W.Fast.tw10078501443386692761 : Unit := ()
def PySem.W.Fast.tw13681149246460519499 : Unit := ()
def PySem.W.Fast.tw2688044937648717666 : Unit := ()
def PySem.W.Fast.tw4812380085470078953 : Unit := ()
def PySem.W.Fast.tw10643056121844680761 : Unit := ()
def PySem.W.Fast.tw5395668307014464383 : Unit := ()
def PySem.W.Fast.tw6497768911431262215 : Unit := ()
def PySem.W.Fast.tw4411896925519614007 : Unit := ()
def PySem.W.Fast.tw2055428110357112268 : Unit := ()
def PySem.W.Fast.tw667206387513258863 : Unit := ()
def PySem.W.Fast.tw13229200052711620115 : Unit := ()
def PySem.W.Fast.tw1732700018603492763 : Unit := ()
def PySem.W.Fast.tw7806622952999166125 : Unit := ()
def PySem.W.Fast.tw4202664535773522701 : Unit := ()
def PySem.W.Fast.tw7017919264970344687 : Unit := ()
def PySem.W.Fast.tw16552192020375360505 : Unit := ()
def PySem.W.Fast.tw3664759835501975114 : Unit := ()
def PySem.W.Fast.tw10131417318665624522 : Unit := ()
def PySem.W.Fast.tw2058048549478130109 : Unit := ()
def PySem.W.Fast.tw7461290214726257965 : Unit := ()
def PySem.W.Fast.tw12712284906534933945 : Unit := ()
def PySem.W.Fast.tw11090842861750003995 : Unit := ()
def PySem.W.Fast.tw16174458815203889753 : Unit := ()
def PySem.W.Fast.tw12050386770932968371 : Unit := ()
def PySem.W.Fast.tw7298589253199699424 : Unit := ()
def PySem.W.Fast.tw7424875981361442224 : Unit := ()
def PySem.W.Fast.tw7199163328736016927 : Unit := ()
def PySem.W.Fast.tw6698628521800931973 : Unit := ()
def PySem.W.Fast.tw14890258258173187232 : Unit := ()
def PySem.W.Fast.tw9146686629156127210 : Unit := ()
def PySem.W.Fast.tw2963818682440501721 : Unit := ()
def PySem.W.Fast.tw10417886698042311986 : Unit := ()
def PySem.W.Fast.tw2725995827335091323 : Unit := ()
def PySem.W.Fast.tw15732002912422168462 : Unit := ()
def PySem.W.Fast.tw8073737434993965502 : Unit := ()
def PySem.W.Fast.tw12738133039397502003 : Unit := ()
def PySem.W.Fast.tw9870108280831622857 : Unit := ()
def PySem.W.Fast.tw14279419801122205526 : Unit := ()
def PySem.W.Fast.tw16410268361575738148 : Unit := ()
def PySem.W.Fast.tw6125231315883051515 : Unit := ()
def PySem.W.Fast.tw18069130481286850718 : Unit := ()
def PySem.W.Fast.tw18149284289737055357 : Unit := ()
def PySem.W.Fast.tw5969182259611487721 : Unit := ()
def PySem.W.Fast.tw11297943524118289635 : Unit := ()
def PySem.W.Fast.tw6957998518458285719 : Unit := ()
def PySem.W.Fast.tw16840365389213405558 : Unit := ()
def PySem.W.Fast.tw4905758287124473168 : Unit := ()
def PySem.W.Fast.tw2748980186119121652 : Unit := ()
def PySem.W.Fast.tw15840375518668554806 : Unit := ()
def PySem.W.Fast.tw3601305454750121901 : Unit := ()
def PySem.W.Fast.tw13457088233158268921 : Unit := ()
def PySem.W.Fast.tw16842907917088498152 : Unit := ()
def PySem.W.Fast.tw14317896221982065213 : Unit := ()
def PySem.W.Fast.tw9184247779089163034 : Unit := ()
def PySem.W.Fast.tw7798384470698737816 : Unit := ()
def PySem.W.Fast.tw6859930065059037481 : Unit := ()
def PySem.W.Fast.tw489819278135337991 : Unit := ()
def PySem.W.Fast.tw11416040118838331322 : Unit := ()
def PySem.W.Fast.tw16365344614598568443 : Unit := ()
def PySem.W.Fast.tw9537831625451664513 : Unit := ()
def PySem.W.Fast.tw10872093625819658395 : Unit := ()
def PySem.W.Fast.tw14738809366711926908 : Unit := ()
def PySem.W.Fast.tw7512656519461172227 : Unit := ()
def PySem.W.Fast.tw10708771739407128445 : Unit := ()
def PySem.W.Fast.tw1188227107993444007 : Unit := ()
def PySem.W.Fast.tw17155274586826556350 : Unit := ()
def PySem.W.Fast.tw9234834127784635744 : Unit := ()
def PySem.W.Fast.tw16942544269790391083 : Unit := ()
def PySem.W.Fast.tw2958589617202300743 : Unit := ()
def PySem.W.Fast.tw16323270552057329654 : Unit := ()
def PySem.W.Fast.tw1805083455847112222 : Unit := ()
def PySem.W.Fast.tw12652482191040048289 : Unit := ()
def PySem.W.Fast.tw750088583546887221 : Unit := ()
def PySem.W.Fast.tw10550547280468817567 : Unit := ()
def PySem.W.Fast.tw7417192051487902090 : Unit := ()
def PySem.W.Fast.tw15462796567925835042 : Unit := ()
def PySem.W.Fast.tw11813319067639605282 : Unit := ()
def PySem.W.Fast.tw16710122733908941808 : Unit := ()
def PySem.W.Fast.tw10504978155447999831 : Unit := ()
def PySem.W.Fast.tw6569158977974918626 : Unit := ()
def PySem.W.Fast.tw15401575914639448754 : Unit := ()
def PySem.W.Fast.tw14778219147768340637 : Unit := ()
def PySem.W.Fast.tw1432204456451171904 : Unit := ()
def PySem.W.Fast.tw10249981372308515475 : Unit := ()
def PySem.W.Fast.tw4158954136717836300 : Unit := ()
def PySem.W.Fast.tw14332754215472225524 : Unit := ()
def PySem.W.Fast.tw8699720780906848257 : Unit := ()
def PySem.W.Fast.tw374549093327795200 : Unit := ()
def PySem.W.Fast.tw10206492255118431146 : Unit := ()
def PySem.W.Fast.tw3303915473576285978 : Unit := ()
def PySem.W.Fast.tw16412229837846540552 : Unit := ()
def PySem.W.Fast.tw5725283988450900053 : Unit := ()
def PySem.W.Fast.tw15566847239638042604 : Unit := ()
def PySem.W.Fast.tw12911521206934357691 : Unit := ()
def PySem.W.Fast.tw8653898196436883112 : Unit := ()
def PySem.W.Fast.tw15553335119824791354 : Unit := ()
def PySem.W.Fast.tw7186768765111876080 : Unit := ()
def PySem.W.Fast.tw972793771889029408 : Unit := ()
def PySem.W.Fast.tw17465258611309028334 : Unit := ()
def PySem.W.Fast.tw10802359326026185244 : Unit := ()
def PySem.W.Fast.tw8160434726892949757 : Unit := ()
def PySem.W.Fast.tw3932313549416104914 : Unit := ()
def PySem.W.Fast.tw6012295525331671974 : Unit := ()
def PySem.W.Fast.tw1290911152938066746 : Unit := ()
def PySem.W.Fast.tw3274600175181604406 : Unit := ()
def PySem.W.Fast.tw2602529588188107934 : Unit := ()
def PySem.W.Fast.tw14375237126506632048 : Unit := ()
def PySem.W.Fast.tw12181883909580138753 : Unit := ()
def PySem.W.Fast.tw11594614014571547185 : Unit := ()
def PySem.W.Fast.tw12416204272017031815 : Unit := ()
def PySem.W.Fast.tw18409049466658720536 : Unit := ()
def PySem.W.Fast.tw12470599762232603227 : Unit := ()
def PySem.W.Fast.tw16290169305131884107 : Unit := ()
def PySem.W.Fast.tw10891144414736166805 : Unit := ()
def PySem.W.Fast.tw15720651199871106218 : Unit := ()
def PySem.W.Fast.tw3200854983501103345 : Unit := ()
def PySem.W.Fast.tw4446012509526470261 : Unit := ()
def PySem.W.Fast.tw6542755409166757693 : Unit := ()
def PySem.W.Fast.tw16012700330601049230 : Unit := ()
def PySem.W.Fast.tw14342997941265318172 : Unit := ()
def PySem.W.Fast.tw7404918139743155458 : Unit := ()
def PySem.W.Fast.tw11070036731438600849 : Unit := ()
def PySem.W.Fast.tw1582675195205813066 : Unit := ()
def PySem.W.Fast.tw5857311039129356633 : Unit := ()
def PySem.W.Fast.tw14643130748200907964 : Unit := ()
def PySem.W.Fast.tw9414031202304170241 : Unit := ()
def PySem.W.Fast.tw8893267791017159042 : Unit := ()
def PySem.W.Fast.tw9464149422255346770 : Unit := ()
def PySem.W.Fast.tw1763743245147018310 : Unit := ()
def PySem.W.Fast.tw13275960681945273966 : Unit := ()
def PySem.W.Fast.tw7717302638529039105 : Unit := ()
def PySem.W.Fast.tw1529050719296110715 : Unit := ()
def PySem.W.Fast.tw18158542723442043464 : Unit := ()
def PySem.W.Fast.tw14275446611317997001 : Unit := ()
def PySem.W.Fast.tw17965953407575786412 : Unit := ()
def PySem.W.Fast.tw3667761685829548378 : Unit := ()
def PySem.W.Fast.tw11523242244312790297 : Unit := ()
def PySem.W.Fast.tw9162214637590912210 : Unit := ()
def PySem.W.Fast.tw9330289570041248841 : Unit := ()
def PySem.W.Fast.tw15621897917965228250 : Unit := ()
def PySem.W.Fast.tw13123669699691264228 : Unit := ()
def PySem.W.Fast.tw15991698398800185531 : Unit := ()
def PySem.W.Fast.tw16390015855437726955 : Unit := ()
def PySem.W.Fast.tw10502275759484797510 : Unit := ()
def PySem.W.Fast.tw9163187868140670714 : Unit := ()
def PySem.W.Fast.tw15614936936491445746 : Unit := ()
def PySem.W.Fast.tw17498470095790093576 : Unit := ()
def PySem.W.Fast.tw10579210432146389449 : Unit := ()
def PySem.W.Fast.tw3651581969653993697 : Unit := ()
def PySem.W.Fast.tw12654902478100165057 : Unit := ()
def PySem.W.Fast.tw17639624798446544540 : Unit := ()
def PySem.W.Fast.tw13462802788085845046 : Unit := ()
def PySem.W.Fast.tw3359208031477612224 : Unit := ()
def PySem.W.Fast.tw8062861275650271592 : Unit := ()
def PySem.W.Fast.tw16342155556846334845 : Unit := ()
def PySem.W.Fast.tw7039162608687388135 : Unit := ()
def PySem.W.Fast.tw2390754308740902499 : Unit := ()
def PySem.W.Fast.tw10632884208941716022 : Unit := ()
def PySem.W.Fast.tw89166673769417482 : Unit := ()
def PySem.W.Fast.tw16035210278007088877 : Unit := ()
def PySem.W.Fast.tw12611473429547129886 : Unit := ()
def PySem.W.Fast.tw12824206226239931559 : Unit := ()
def PySem.W.Fast.tw16841287980728503429 : Unit := ()
def PySem.W.Fast.tw4985928672463845160 : Unit := ()
def PySem.W.Fast.tw10802161920703776943 : Unit := ()
def PySem.W.Fast.tw15578055445824650491 : Unit := ()
def PySem.W.Fast.tw613677796910452326 : Unit := ()
def PySem.W.Fast.tw12778729845972836449 : Unit := ()
def PySem.W.Fast.tw8263264256388658390 : Unit := ()
def PySem.W.Fast.tw2935737307425617517 : Unit := ()
def PySem.W.Fast.tw183536713888153541 : Unit := ()
def PySem.W.Fast.tw10610457163021568314 : Unit := ()
def PySem.W.Fast.tw15763920153806265472 : Unit := ()
def PySem.W.Fast.tw11221827458035509148 : Unit := ()
def PySem.W.Fast.tw13002625261463508205 : Unit := ()
def PySem.W.Fast.tw7563733978057911442 : Unit := ()
def PySem.W.Fast.tw16196703748798862994 : Unit := ()
def PySem.W.Fast.tw13678089637026783087 : Unit := ()
def PySem.W.Fast.tw7564934911703629262 : Unit := ()
def PySem.W.Fast.tw2161509617356794931 : Unit := ()
def PySem.W.Fast.tw3459723345053694362 : Unit := ()
def PySem.W.Fast.tw12550709187238825774 : Unit := ()
def PySem.W.Fast.tw8710928630667892222 : Unit := ()
def PySem.W.Fast.tw2923638141482327268 : Unit := ()
def PySem.W.Fast.tw16489711536239873354 : Unit := ()
def PySem.W.Fast.tw7724870761867292210 : Unit := ()
def PySem.W.Fast.tw3988016271121195458 : Unit := ()
def PySem.W.Fast.tw9818864346923124133 : Unit := ()
def PySem.W.Fast.tw16205476903553897100 : Unit := ()
def PySem.W.Fast.tw5304892817656321400 : Unit := ()
def PySem.W.Fast.tw3381987816459215422 : Unit := ()
def PySem.W.Fast.tw14256549882593239274 : Unit := ()
def PySem.W.Fast.tw18054978762529476537 : Unit := ()
def PySem.W.Fast.tw10986668199855111661 : Unit := ()
def PySem.W.Fast.tw8665963064477101299 : Unit := ()
def PySem.W.Fast.tw15104240889130320874 : Unit := ()
def PySem.W.Fast.tw4573544711564542152 : Unit := ()
def PySem.W.Fast.tw10930678013323271612 : Unit := ()
def PySem.W.Fast.tw9163124764151333778 : Unit := ()
def PySem.W.Fast.tw1217614929312748859 : Unit := ()
open PySem PySem.W PyProof.Rows
set_option maxRecDepth 100000 in
set_option maxHeartbeats 0 in
theorem PySem.Challenge.cw_yesorno_k34_equal_lines_hold_holds : PySem.Challenge.rw_yesorno_k34_equal_lines_hold.Holds := by
  w_on; o_law; k_head; (case hw => w_witness2)
  k_fill
  refine K34.walk (l := PySem.Challenge.rw_yesorno_k34_equal_lines_hold) rfl rfl (fun w h Y => PySem.W.kIn_of Y) ?F
  case F =>
    intro w mg fa h KX G hmg
    refine' K34.all_mk KX G hmg ?aC ?aN ?aT ?aM ?aG ?a1 ?l1 ?c1 ?k1 ?a2 ?l2 ?c2 ?k2 ?a3 ?l3 ?c3 ?k3 ?a4 ?l4 ?c4 ?k4 ?a5 ?l5 ?c5 ?k5 ?a6 ?l6 ?c6 ?k6 ?a7 ?l7 ?c7 ?k7 ?a8 ?l8 ?c8 ?k8 ?a9 ?l9 ?c9 ?k9 ?a10 ?l10 ?c10 ?k10 ?a11 ?l11 ?c11 ?k11 ?a12 ?l12 ?c12 ?k12 ?a13 ?l13 ?c13 ?k13 ?a14 ?l14 ?c14 ?k14 ?a15 ?l15 ?c15 ?k15 ?a16 ?l16 ?c16 ?k16 ?a17 ?l17 ?c17 ?k17 ?a18 ?l18 ?c18 ?k18 ?a19 ?l19 ?c19 ?k19 ?a20 ?l20 ?c20 ?k20 ?a21 ?l21 ?c21 ?k21 ?a22 ?l22 ?c22 ?k22 ?a23 ?l23 ?c23 ?k23 ?a24 ?l24 ?c24 ?k24 ?a25 ?l25 ?c25 ?k25 ?a26 ?l26 ?c26 ?k26 ?a27 ?i27 ?l27 ?c27 ?k27 ?a28 ?i28 ?l28 ?c28 ?k28 ?a29 ?i29 ?l29 ?c29 ?k29 ?a30 ?i30 ?l30 ?c30 ?k30 ?a31 ?i31 ?l31 ?c31 ?k31 ?a32 ?i32 ?l32 ?c32 ?k32 ?a33 ?i33 ?l33 ?c33 ?k33 ?a34 ?i34 ?l34 ?c34 ?k34 ?a35 ?i35 ?l35 ?c35 ?k35 ?s1 ?s2 ?s3 ?s4 ?s5 ?s8 ?s9 ?z_len ?z_all ?z_range ?z_isinstance ?z_bool ?z_tuple ?z_abs ?z_min ?z_max ?z_any ?z_zip ?z_list ?pg ?hd ?po ?sa ?mk ?kc ?pgG ?hdG ?poG ?saG ?mkG ?kcG ?nT ?nA ?nR ?nL ?nG ?xN ?xT ?xM
    (case aC => k_is)
    (case aN => k_is)
    (case aT => k_is)
    (case aM => k_is)
    (case aG => k_is)
    (case a1 => k_is)
    (case l1 => k_is)
    (case c1 => k_is)
    (case k1 => k_is)
    (case a2 => k_is)
    (case l2 => k_is)
    (case c2 => k_is)
    (case k2 => k_is)
    (case a3 => k_is)
    (case l3 => k_is)
    (case c3 => k_is)
    (case k3 => k_is)
    (case a4 => k_is)
    (case l4 => k_is)
    (case c4 => k_is)
    (case k4 => k_is)
    (case a5 => k_is)
    (case l5 => k_is)
    (case c5 => k_is)
    (case k5 => k_is)
    (case a6 => k_is)
    (case l6 => k_is)
    (case c6 => k_is)
    (case k6 => k_is)
    (case a7 => k_is)
    (case l7 => k_is)
    (case c7 => k_is)
    (case k7 => k_is)
    (case a8 => k_is)
    (case l8 => k_is)
    (case c8 => k_is)
    (case k8 => k_is)
    (case a9 => k_is)
    (case l9 => k_is)
    (case c9 => k_is)
    (case k9 => k_is)
    (case a10 => k_is)
    (case l10 => k_is)
    (case c10 => k_is)
    (case k10 => k_is)
    (case a11 => k_is)
    (case l11 => k_is)
    (case c11 => k_is)
    (case k11 => k_is)
    (case a12 => k_is)
    (case l12 => k_is)
    (case c12 => k_is)
    (case k12 => k_is)
    (case a13 => k_is)
    (case l13 => k_is)
    (case c13 => k_is)
    (case k13 => k_is)
    (case a14 => k_is)
    (case l14 => k_is)
    (case c14 => k_is)
    (case k14 => k_is)
    (case a15 => k_is)
    (case l15 => k_is)
    (case c15 => k_is)
    (case k15 => k_is)
    (case a16 => k_is)
    (case l16 => k_is)
    (case c16 => k_is)
    (case k16 => k_is)
    (case a17 => k_is)
    (case l17 => k_is)
    (case c17 => k_is)
    (case k17 => k_is)
    (case a18 => k_is)
    (case l18 => k_is)
    (case c18 => k_is)
    (case k18 => k_is)
    (case a19 => k_is)
    (case l19 => k_is)
    (case c19 => k_is)
    (case k19 => k_is)
    (case a20 => k_is)
    (case l20 => k_is)
    (case c20 => k_is)
    (case k20 => k_is)
    (case a21 => k_is)
    (case l21 => k_is)
    (case c21 => k_is)
    (case k21 => k_is)
    (case a22 => k_is)
    (case l22 => k_is)
    (case c22 => k_is)
    (case k22 => k_is)
    (case a23 => k_is)
    (case l23 => k_is)
    (case c23 => k_is)
    (case k23 => k_is)
    (case a24 => k_is)
    (case l24 => k_is)
    (case c24 => k_is)
    (case k24 => k_is)
    (case a25 => k_is)
    (case l25 => k_is)
    (case c25 => k_is)
    (case k25 => k_is)
    (case a26 => k_is)
    (case l26 => k_is)
    (case c26 => k_is)
    (case k26 => k_is)
    (case a27 => k_is)
    (case i27 => k_is)
    (case l27 => k_is)
    (case c27 => k_is)
    (case k27 => k_is)
    (case a28 => k_is)
    (case i28 => k_is)
    (case l28 => k_is)
    (case c28 => k_is)
    (case k28 => k_is)
    (case a29 => k_is)
    (case i29 => k_is)
    (case l29 => k_is)
    (case c29 => k_is)
    (case k29 => k_is)
    (case a30 => k_is)
    (case i30 => k_is)
    (case l30 => k_is)
    (case c30 => k_is)
    (case k30 => k_is)
    (case a31 => k_is)
    (case i31 => k_is)
    (case l31 => k_is)
    (case c31 => k_is)
    (case k31 => k_is)
    (case a32 => k_is)
    (case i32 => k_is)
    (case l32 => k_is)
    (case c32 => k_is)
    (case k32 => k_is)
    (case a33 => k_is)
    (case i33 => k_is)
    (case l33 => k_is)
    (case c33 => k_is)
    (case k33 => k_is)
    (case a34 => k_is)
    (case i34 => k_is)
    (case l34 => k_is)
    (case c34 => k_is)
    (case k34 => k_is)
    (case a35 => k_is)
    (case i35 => k_is)
    (case l35 => k_is)
    (case c35 => k_is)
    (case k35 => k_is)
    (case s1 => k_is)
    (case s2 => k_is)
    (case s3 => k_is)
    (case s4 => k_is)
    (case s5 => k_is)
    (case s8 => k_is)
    (case s9 => k_is)
    (case z_len => k_is)
    (case z_all => k_is)
    (case z_range => k_is)
    (case z_isinstance => k_is)
    (case z_bool => k_is)
    (case z_tuple => k_is)
    (case z_abs => k_is)
    (case z_min => k_is)
    (case z_max => k_is)
    (case z_any => k_is)
    (case z_zip => k_is)
    (case z_list => k_is)
    (case pg => k_is)
    (case hd => k_is)
    (case po => k_is)
    (case sa => k_is)
    (case mk => k_is)
    (case kc => k_is)
    (case pgG => k_is)
    (case hdG => k_is)
    (case poG => k_is)
    (case saG => k_is)
    (case mkG => k_is)
    (case kcG => k_is)
    (case nT => k_is)
    (case nA => k_is)
    (case nR => k_is)
    (case nL => k_is)
    (case nG => k_is)
    (case xN => k_exc)
    (case xT => k_exc)
    (case xM => k_exc)

