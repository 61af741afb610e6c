import PyProof.Rows.All
import Wide.All
import OpenK.AllK
import Wide.FinOn
import Lean
import PyProof.EqAt
import PyProof.EqKinds
import PyProof.TupleCall
import PySem.Challenge.RW_yesorno_k04_written
set_option Elab.async false
set_option linter.all false
set_option maxRecDepth 100000
/-! THE HAND LAYER, for ints, bools, texts, own classes, LISTS and tuples (index, slices, in, append, pop ..), calls, loops. Paste it whole ahead of your own text; what your proof does not reach may be deleted. -/
namespace L2
open PySem PySem.Spec PyProof.Rows

/-- a key: an int or a str -/
abbrev Key := Sum Int Str
def keyIs : Key → Value → Bool
  | .inl k, v => Value.isInt k v
  | .inr x, v => Value.isStrOf x v
def keyH (w : World) : Key → Int
  | .inl k => hashInt k
  | .inr x => hashStr w x
theorem keyIs_shape : ∀ {k : Key} {v : Value}, keyIs k v = true → (∃ i t, k = Sum.inl i ∧ v = Value.int i t) ∨ (∃ x t, k = Sum.inr x ∧ v = Value.str x t)
  | .inl i, v, h => by
    obtain ⟨t, e⟩ := Value.isInt_shape (k := i) (v := v) h
    exact .inl ⟨i, t, rfl, e⟩
  | .inr x, v, h => by
    obtain ⟨t, e⟩ := Value.isStrOf_shape (x := x) (v := v) h
    exact .inr ⟨x, t, rfl, e⟩
theorem keyIs_str (x : Str) (t : Tok) : keyIs (.inr x) (.str x t) = true := by simp [keyIs, Value.isStrOf]
theorem key_ll (a b : Int) : decide ((Sum.inl a : Key) = Sum.inl b) = (a == b) := by
  by_cases e : a = b
  · subst e; simp
  · have h : ¬ (Sum.inl a : Key) = Sum.inl b := fun q => e (Sum.inl.inj q)
    rw [decide_eq_false h]
    exact (beq_eq_false_iff_ne.mpr e).symm
theorem key_rr (a b : Str) : decide ((Sum.inr a : Key) = Sum.inr b) = decide (a = b) := by
  by_cases e : a = b
  · subst e; simp
  · have h : ¬ (Sum.inr a : Key) = Sum.inr b := fun q => e (Sum.inr.inj q)
    rw [decide_eq_false h, decide_eq_false e]
theorem key_lr (a : Int) (b : Str) : decide ((Sum.inl a : Key) = Sum.inr b) = false := decide_eq_false (fun q => nomatch q)
theorem key_rl (a : Str) (b : Int) : decide ((Sum.inr a : Key) = Sum.inl b) = false := decide_eq_false (fun q => nomatch q)

def mixKind (prog : Program) (w : World) : PySem.KeyKind prog w Key where
  is := keyIs
  hash := keyH w
  inj := fun v a b ha hb => by
    rcases keyIs_shape ha with ⟨i, t, rfl, rfl⟩ | ⟨x, t, rfl, rfl⟩
    · rcases keyIs_shape hb with ⟨j, u, rfl, e⟩ | ⟨y, u, rfl, e⟩
      · injection e with e1 _; rw [e1]
      · exact nomatch e
    · rcases keyIs_shape hb with ⟨j, u, rfl, e⟩ | ⟨y, u, rfl, e⟩
      · exact nomatch e
      · injection e with e1 _; rw [e1]
  byValue := fun k v h => by
    rcases keyIs_shape h with ⟨i, t, rfl, rfl⟩ | ⟨x, t, rfl, rfl⟩ <;> rfl
  pyHash := fun hv h => by
    rcases keyIs_shape hv with ⟨i, t, rfl, rfl⟩ | ⟨x, t, rfl, rfl⟩
    · exact wpAny_pyHash_int h
    · exact wpAny_pyHash_str h
  eqBool := fun hu hv h => by
    rcases keyIs_shape hu with ⟨i, t, rfl, rfl⟩ | ⟨x, t, rfl, rfl⟩
    · rcases keyIs_shape hv with ⟨j, u, rfl, rfl⟩ | ⟨y, u, rfl, rfl⟩
      · rw [key_ll] at h; exact wpAny_eqBool_int h
      · rw [key_lr] at h; exact SeqAt.EqAt.int_str i t y u _ _ _ _ h
    · rcases keyIs_shape hv with ⟨j, u, rfl, rfl⟩ | ⟨y, u, rfl, rfl⟩
      · rw [key_rl] at h; exact SeqAt.EqAt.str_int x t j u _ _ _ _ h
      · rw [key_rr] at h; exact wpAny_eqBool_str h
  «strs» := fun k x t v h => by
    rcases keyIs_shape h with ⟨i, u, rfl, e⟩ | ⟨y, u, rfl, e⟩
    · exact nomatch e
    · injection e with e1 _
      subst e1
      cases v <;> rfl

theorem mixKind_str (prog : Program) (w : World) (x : Str) (t : Tok) : (mixKind prog w).is (.inr x) (.str x t) = true := keyIs_str x t
end L2

namespace L2
open PySem PySem.Spec PyProof.Rows

/-- a value, without the heap -/
inductive V where
  | non | bl (b : Bool) | int (i : Int) | str (x : Str) | byt (b : Array UInt8) | flt (b : UInt64) | ref (a : Addr) | ty (n : String)
  deriving DecidableEq

def RelV : V → Value → Prop
  | .non, u => u = Value.none
  | .bl b, u => u = Value.bool b
  | .int i, u => ∃ t, u = Value.int i t
  | .str x, u => ∃ t, u = Value.str x t
  | .byt b, u => ∃ t, u = Value.bytes b t
  | .flt b, u => ∃ t, u = Value.float b t
  | .ref a, u => u = Value.ref a
  | .ty n, u => u = Value.type n

abbrev Vals : List V → List Value → Prop := Paired RelV
theorem Vals.length {xs : List V} {us : List Value} (r : Vals xs us) : xs.length = us.length := Paired.length r
theorem Vals.get : ∀ {xs : List V} {us : List Value} {i : Nat} {x : V}, Vals xs us → xs[i]? = some x → ∃ u, us[i]? = some u ∧ RelV x u
  | _, _, _, _, .nil, e => by simp at e
  | _, _, 0, _, .cons r _, e => by simp at e; subst e; exact ⟨_, rfl, r⟩
  | _, _, i + 1, x, .cons _ t, e => by
    obtain ⟨u, h1, h2⟩ := Vals.get (i := i) (x := x) t (by simpa using e)
    exact ⟨u, by simpa using h1, h2⟩
theorem Vals.set {x : V} {u : Value} (r : RelV x u) : ∀ {xs : List V} {us : List Value} (i : Nat), Vals xs us → Vals (xs.set i x) (us.set i u)
  | _, _, _, .nil => .nil
  | _, _, 0, .cons _ t => .cons r t
  | _, _, i + 1, .cons q t => .cons q (Vals.set r i t)
theorem Vals.append : ∀ {xs ys : List V} {us ws : List Value}, Vals xs us → Vals ys ws → Vals (xs ++ ys) (us ++ ws)
  | _, _, _, _, .nil, s => s
  | _, _, _, _, .cons r t, s => .cons r (Vals.append t s)
theorem Vals.take : ∀ {xs : List V} {us : List Value} (n : Nat), Vals xs us → Vals (xs.take n) (us.take n)
  | _, _, 0, _ => .nil
  | _, _, _ + 1, .nil => .nil
  | _, _, n + 1, .cons r t => .cons r (Vals.take n t)
theorem Vals.drop : ∀ {xs : List V} {us : List Value} (n : Nat), Vals xs us → Vals (xs.drop n) (us.drop n)
  | _, _, 0, r => r
  | _, _, _ + 1, .nil => .nil
  | _, _, n + 1, .cons _ t => Vals.drop n t
theorem Vals.none_of : ∀ {xs : List V} {us : List Value} {i : Nat}, Vals xs us → xs[i]? = none → us[i]? = none := fun {xs us i} r e => by
  have h1 := r.length
  have h2 : xs.length ≤ i := List.getElem?_eq_none_iff.mp e
  exact List.getElem?_eq_none_iff.mpr (by omega)

def RelO : Option V → Option Value → Prop
  | some v, some u => RelV v u
  | none, none => True
  | _, _ => False
def KV {κ : Type} : List (κ × V) → List (κ × Value) → Prop := Paired fun (p : κ × V) (q : κ × Value) => p.1 = q.1 ∧ RelV p.2 q.2

/-- a key of a dict (00_mix): an int or a text -/
def kV : Key → V
  | .inl i => .int i
  | .inr x => .str x

/-- what stands at a tracked address -/
inductive HO where
  /-- a list -/
  | lst (xs : List V)
  /-- a tuple (never changes) -/
  | tup (xs : List V)
  /-- a dict whose keys are ints and texts; one whose keys are tuples of ints and texts (the empty one is both) -/
  | dK (kvs : List (Key × V)) | dT (kvs : List (List Key × V))
  /-- a set of ints: its members, its size -/
  | set (S : Int → Bool) (n : Nat)
  /-- an instance of the class at C, its dict at dx, its attributes -/
  | ins (C dx : Addr) (fs : List (Str × V))
  /-- the dict of the instance at x -/
  | own (x : Addr)
  /-- the dict of an exception -/
  | xd (fs : List (Str × V))
  /-- a bound method, f of x -/
  | met (f x : Addr)
  /-- a range object lo, lo + 1, .. below hi -/
  | rng (lo hi : Int)
  /-- a thing that is known to the object (the script; a dict while a loop walks it): read, never written while it is so -/
  | frz (o : Obj) (u : HO)
  /-- a code object's table -/
  | tbl (ps : Array Value)
  /-- any other thing, by what is true of its one object (a def of one's own: SetO a S n := HO.ext fun h => ..) -/
  | ext (φ : Heap → Prop)

abbrev Hp := Addr → Option HO
def upd (H : Hp) (a : Addr) (o : HO) : Hp := fun b => if b = a then some o else H b
theorem upd_same {H : Hp} {a : Addr} {o : HO} : upd H a o a = some o := by unfold upd; rw [if_pos rfl]
theorem upd_ne {H : Hp} {a b : Addr} {o : HO} (h : b ≠ a) : upd H a o b = H b := by unfold upd; rw [if_neg h]
theorem upd_upd {H : Hp} {a : Addr} {o u : HO} : upd (upd H a o) a u = upd H a u := by
  funext b; unfold upd; split <;> rfl
/-- two objects of different content stand apart -/
theorem ne_of {H : Hp} {a b : Addr} {o u : HO} (h : H a = some o) (h' : H b = some u) (d : o ≠ u) : a ≠ b := by
  intro e; subst e; rw [h] at h'; exact d (Option.some.inj h')
theorem ne_of_none {H : Hp} {a b : Addr} {o : HO} (h : H a = some o) (h' : H b = none) : a ≠ b := by
  intro e; subst e; rw [h] at h'; cases h'

section
variable (P : Program) (w : World)
def ObjOk (H : Hp) (h : Heap) (a : Addr) : HO → Prop
  | .lst xs => xs.length ≤ sizeLine ∧ ∃ (its : List Value) (n : Nat), Vals xs its ∧ h.get? a = some { cls := .type "list", data := .seq its.toArray n }
  | .tup xs => xs.length ≤ sizeLine ∧ ∃ its : List Value, Vals xs its ∧ IsTup h a its.toArray
  | .dK kvs => kvs.length ≤ sizeLine ∧ (a == sysModules) = false ∧ ∃ vs, KV kvs vs ∧ h.DictOf (mixKind P w) a vs
  | .dT kvs => kvs.length ≤ sizeLine ∧ (a == sysModules) = false ∧ ∃ xs : List (List Key × Addr × Value),
      Paired (fun (p : List Key × V) (q : List Key × Addr × Value) => p.1 = q.1 ∧ H q.2.1 = some (.tup (p.1.map kV)) ∧ RelV p.2 q.2.2) kvs xs ∧
      ∃ o es ep, h.get? a = some o ∧ o.ExactDict ∧ o.data = .dict es ep ∧ es.toList = xs.map (entryOfKey (tupleKind (mixKind P w))) ∧ (xs.map (·.1)).Nodup
  | .set S n => h.SetOf (intKind P w) a S n
  | .ins C dx fs => H dx = some (.own a) ∧ fs.length ≤ 1000 ∧ dx ≠ a ∧ h.get? a = some (PySem.W.instObj C dx) ∧
      ∃ mA, h.Ns1 dx mA ∧ (∀ f, RelO (fs.lookup f) (mA f)) ∧ PySem.Within mA (fs.map (·.1))
  | .own _ => ∃ o, h.get? a = some o
  | .xd fs => ∃ mA, h.Ns1 a mA ∧ ∀ f, RelO (fs.lookup f) (mA f)
  | .rng lo hi => ∃ t u v, h.get? a = some { cls := .type "range", data := .fields #[.int lo t, .int hi u, .int 1 v] }
  | .frz o u => h.get? a = some o ∧ ObjOk H h a u
  | .tbl ps => h.get? a = some { cls := .none, data := .fields ps }
  | .met f x => h.get? a = some (PySem.W.methodObj (.ref f) (.ref x))
  | .ext φ => φ h ∧ (∃ o, h.get? a = some o) ∧ ∀ h1 h2 : Heap, φ h1 → (∀ o, h1.get? a = some o → h2.get? a = some o) → φ h2
/-- the abstract heap is held -/
def HOk (H : Hp) (h : Heap) : Prop := ∀ a o, H a = some o → ObjOk P w H h a o
end

section
variable {P : Program} {w : World} {H H' : Hp} {h h' : Heap} {a : Addr} {o : HO}
theorem ObjOk.lt (x : ObjOk P w H h a o) : a < h.objs.size := by
  cases o with
  | lst xs => obtain ⟨_, _, _, _, e⟩ := x; exact Heap.lt_size e
  | tup xs => obtain ⟨_, _, _, p⟩ := x; exact p.lt
  | dK kvs => obtain ⟨_, _, _, _, o, _, _, e, _⟩ := x; exact Heap.lt_size e
  | dT kvs => obtain ⟨_, _, _, _, o, _, _, e, _⟩ := x; exact Heap.lt_size e
  | set S n => obtain ⟨o, _, _, _, e, _⟩ := x; exact Heap.lt_size e
  | ins C dx fs => obtain ⟨_, _, _, e, _⟩ := x; exact Heap.lt_size e
  | own y => obtain ⟨_, e⟩ := x; exact Heap.lt_size e
  | xd fs => obtain ⟨_, ⟨_, _, _, e, _⟩, _⟩ := x; exact Heap.lt_size e
  | rng lo hi => obtain ⟨_, _, _, e⟩ := x; exact Heap.lt_size e
  | frz ob u => obtain ⟨e, _⟩ := x; exact Heap.lt_size e
  | tbl ps => exact Heap.lt_size (show h.get? a = some _ from x)
  | met f y => exact Heap.lt_size (show h.get? a = some _ from x)
  | ext φ => obtain ⟨_, ⟨_, e⟩, _⟩ := x; exact Heap.lt_size e
theorem Paired.mapP {α β : Type} {F G : α → β → Prop} : ∀ {l₁ : List α} {l₂ : List β}, Paired F l₁ l₂ → (∀ a b, F a b → G a b) → Paired G l₁ l₂
  | _, _, .nil, _ => .nil
  | _, _, .cons r t, f => .cons (f _ _ r) (Paired.mapP t f)
/-- what an object's description leans on: its own object, its own dict, the tuples -/
theorem ObjOk.stay (x : ObjOk P w H h a o) (k : ∀ b u, (b = a ∨ H b = some (.own a)) → h.get? b = some u → h'.get? b = some u)
    (ho : ∀ b, H b = some (.own a) → H' b = some (.own a)) (ht : ∀ b xs, H b = some (.tup xs) → H' b = some (.tup xs)) : ObjOk P w H' h' a o := by
  induction o with
  | lst xs => obtain ⟨z, its, n, r, e⟩ := x; exact ⟨z, its, n, r, k _ _ (.inl rfl) e⟩
  | tup xs => obtain ⟨z, its, r, ob, e, c⟩ := x; exact ⟨z, its, r, ob, k _ _ (.inl rfl) e, c⟩
  | dK kvs => obtain ⟨z, y, vs, r, ob, es, ep, e, c⟩ := x; exact ⟨z, y, vs, r, ob, es, ep, k _ _ (.inl rfl) e, c⟩
  | dT kvs =>
    obtain ⟨z, y, xs, r, ob, es, ep, e, c⟩ := x
    exact ⟨z, y, xs, Paired.mapP r fun p q z => ⟨z.1, ht _ _ z.2.1, z.2.2⟩, ob, es, ep, k _ _ (.inl rfl) e, c⟩
  | set S n => obtain ⟨ob, es, ep, t, e, c⟩ := x; exact ⟨ob, es, ep, t, k _ _ (.inl rfl) e, c⟩
  | ins C dx fs =>
    obtain ⟨d, z, ne, e, mA, ⟨od, es, ep, e2, c⟩, r⟩ := x
    exact ⟨ho _ d, z, ne, k _ _ (.inl rfl) e, mA, ⟨od, es, ep, k _ _ (.inr d) e2, c⟩, r⟩
  | own y => obtain ⟨ob, e⟩ := x; exact ⟨ob, k _ _ (.inl rfl) e⟩
  | xd fs => obtain ⟨mA, ⟨od, es, ep, e, c⟩, r⟩ := x; exact ⟨mA, ⟨od, es, ep, k _ _ (.inl rfl) e, c⟩, r⟩
  | rng lo hi => obtain ⟨t, u, v, e⟩ := x; exact ⟨t, u, v, k _ _ (.inl rfl) e⟩
  | frz ob u ih => obtain ⟨e, q⟩ := x; exact ⟨k _ _ (.inl rfl) e, ih q⟩
  | tbl ps =>
    have e : h.get? a = some { cls := .none, data := .fields ps } := x
    show h'.get? a = some { cls := .none, data := .fields ps }
    exact k a _ (.inl rfl) e
  | met f y =>
    have e : h.get? a = some (PySem.W.methodObj (.ref f) (.ref y)) := x
    show h'.get? a = some (PySem.W.methodObj (.ref f) (.ref y))
    exact k a _ (.inl rfl) e
  | ext φ => obtain ⟨p, ⟨o, e⟩, st⟩ := x; exact ⟨st _ _ p fun o q => k _ _ (.inl rfl) q, ⟨o, k _ _ (.inl rfl) e⟩, st⟩
theorem HOk.lt (x : HOk P w H h) (e : H a = some o) : a < h.objs.size := (x a o e).lt
theorem HOk.fresh (x : HOk P w H h) (e : h.objs.size ≤ a) : H a = none := by
  cases q : H a with
  | none => rfl
  | some u => exact absurd (Nat.lt_of_lt_of_le (x.lt q) e) (Nat.lt_irrefl _)
/-- every object of the heap is kept -/
theorem HOk.kept (x : HOk P w H h) (k : ∀ b u, h.get? b = some u → h'.get? b = some u) : HOk P w H h' := fun a o e =>
  (x a o e).stay (fun b u _ q => k b u q) (fun _ q => q) fun _ _ q => q
/-- a new object is laid and tracked -/
theorem HOk.laid (x : HOk P w H h) (k : ∀ b u, h.get? b = some u → h'.get? b = some u) (hp : h.objs.size ≤ a) (new : ObjOk P w (upd H a o) h' a o) : HOk P w (upd H a o) h' := fun b u e => by
  have hn := x.fresh hp
  by_cases hb : b = a
  · subst hb; rw [upd_same] at e; cases e; exact new
  · rw [upd_ne hb] at e
    exact (x b u e).stay (fun c v _ q => k c v q) (fun c q => by rw [upd_ne (ne_of_none q hn)]; exact q) fun c xs q => by rw [upd_ne (ne_of_none q hn)]; exact q
end

/-- what may be read as u: it is u, or a known u -/
def Rd (H : Hp) (a : Addr) (u : HO) : Prop := H a = some u ∨ ∃ o, H a = some (.frz o u)
theorem Rd.of {H : Hp} {a : Addr} {u : HO} (h : H a = some u) : Rd H a u := .inl h
theorem Rd.ok {P : Program} {w : World} {H : Hp} {h : Heap} {a : Addr} {u : HO} (r : Rd H a u) (x : HOk P w H h) : ObjOk P w H h a u := by
  rcases r with r | ⟨o, r⟩
  · exact x a u r
  · obtain ⟨_, q⟩ := x a _ r
    exact q
/-- what may be written -/
def Mut : Option HO → Prop
  | some (.lst _) => True
  | some (.dK _) => True
  | some (.dT _) => True
  | some (.set _ _) => True
  | some (.ins _ _ _) => True
  | some (.ext _) => True
  | _ => False
section
variable {P : Program} {w : World} {H : Hp} {h h' : Heap} {x e : Addr} {o' : HO}
/-- the object at e is changed: x itself, or the dict of the instance x -/
theorem HOk.write (ok : HOk P w H h) (mu : Mut (H x)) (he : e = x ∨ H e = some (.own x)) (k : ∀ b u, b ≠ e → h.get? b = some u → h'.get? b = some u) (heo : ∃ u, h'.get? e = some u)
    (new : ObjOk P w (upd H x o') h' x o') : HOk P w (upd H x o') h' := fun b u q => by
  have nown : ∀ c y, H c = some (.own y) → c ≠ x := fun c y r z => by subst z; rw [r] at mu; exact mu
  have ntup : ∀ c xs, H c = some (.tup xs) → c ≠ x := fun c xs r z => by subst z; rw [r] at mu; exact mu
  by_cases hb : b = x
  · subst hb; rw [upd_same] at q; cases q; exact new
  · rw [upd_ne hb] at q
    by_cases hbe : b = e
    · have q' : H b = some (.own x) := by
        rcases he with z | z
        · exact absurd (hbe.trans z) hb
        · rw [hbe]; exact z
      rw [q] at q'; cases q'
      obtain ⟨v, hv⟩ := heo
      exact ⟨v, by rw [hbe]; exact hv⟩
    · refine (ok b u q).stay (fun c v hc r => k c v ?_ r) (fun c r => by rw [upd_ne (nown c b r)]; exact r) fun c xs r => by rw [upd_ne (ntup c xs r)]; exact r
      rcases hc with rfl | hc
      · exact hbe
      · rintro rfl
        rcases he with z | z
        · exact nown c b hc z
        · rw [hc] at z; cases z; exact hb rfl
end

/-! ### kept unless tracked; of the frames at fs (the callers') the slots may change (an exception that passes writes there); of the records at ex (iterators) nothing is said -/
structure Un (fs ex : List Addr) (H H' : Hp) (h h' : Heap) : Prop where
  keep : ∀ b o, h.get? b = some o → H b = none → b ∉ fs → b ∉ ex → h'.get? b = some o
  slot : ∀ b o, h.get? b = some o → H b = none → b ∈ fs → b ∉ ex → ∃ sl, h'.get? b = some { o with slots := sl }
  free : ∀ b o, h.get? b = some o → H b = none → b ∉ ex → H' b = none
  there : ∀ b o, h.get? b = some o → b ∉ ex → ∃ o', h'.get? b = some o'
  tups : ∀ b xs, H b = some (.tup xs) → H' b = some (.tup xs)
  frzs : ∀ b o u, H b = some (.frz o u) → H' b = some (.frz o u)
  tbls : ∀ b ps, H b = some (.tbl ps) → ∃ more, H' b = some (.tbl (ps ++ more))
section
variable {fs fs' ex ex' : List Addr} {H H1 H2 : Hp} {h h1 h2 h' : Heap} {a x e : Addr} {o : HO}
theorem Un.any (u : Un fs ex H H1 h h1) {b : Addr} {ob : Obj} (q : h.get? b = some ob) (n : H b = none) (hx : b ∉ ex) : ∃ sl, h1.get? b = some { ob with slots := sl } := by
  by_cases hb : b ∈ fs
  · exact u.slot b ob q n hb hx
  · exact ⟨ob.slots, u.keep b ob q n hb hx⟩
theorem Un.trans (a : Un fs ex H H1 h h1) (b : Un fs ex H1 H2 h1 h2) : Un fs ex H H2 h h2 where
  keep := fun c ob q n hc hx => b.keep c ob (a.keep c ob q n hc hx) (a.free c ob q n hx) hc hx
  slot := fun c ob q n hc hx => by
    obtain ⟨sl, e1⟩ := a.slot c ob q n hc hx
    obtain ⟨sl', e2⟩ := b.slot c _ e1 (a.free c ob q n hx) hc hx
    exact ⟨sl', e2⟩
  free := fun c ob q n hx => by
    obtain ⟨o', e1⟩ := a.there c ob q hx
    exact b.free c o' e1 (a.free c ob q n hx) hx
  there := fun c ob q hx => by
    obtain ⟨o', e1⟩ := a.there c ob q hx
    exact b.there c o' e1 hx
  tups := fun c xs q => b.tups c xs (a.tups c xs q)
  frzs := fun c ob xs q => b.frzs c ob xs (a.frzs c ob xs q)
  tbls := fun c ps q => by
    obtain ⟨m1, e1⟩ := a.tbls c ps q
    obtain ⟨m2, e2⟩ := b.tbls c _ e1
    exact ⟨m1 ++ m2, by rw [e2, Array.append_assoc]⟩
theorem Un.kept (k : ∀ b u, h.get? b = some u → h'.get? b = some u) : Un fs ex H H h h' :=
  ⟨fun b ob q _ _ _ => k b ob q, fun b ob q _ _ _ => ⟨ob.slots, k b ob q⟩, fun _ _ _ n _ => n, fun b ob q _ => ⟨ob, k b ob q⟩, fun _ _ q => q, fun _ _ _ q => q, fun _ ps q => ⟨#[], by rw [q]; simp⟩⟩
theorem Un.refl : Un fs ex H H h h := Un.kept fun _ _ q => q
theorem Un.laid (k : ∀ b u, h.get? b = some u → h'.get? b = some u) (hp : h.objs.size ≤ a) (hn : H a = none) : Un fs ex H (upd H a o) h h' where
  keep := fun b u q _ _ _ => k b u q
  slot := fun b u q _ _ _ => ⟨u.slots, k b u q⟩
  free := fun b u q n _ => by rw [upd_ne (Nat.ne_of_lt (Nat.lt_of_lt_of_le (Heap.lt_size q) hp))]; exact n
  there := fun b u q _ => ⟨u, k b u q⟩
  tups := fun b xs q => by rw [upd_ne (ne_of_none q hn)]; exact q
  frzs := fun b u xs q => by rw [upd_ne (ne_of_none q hn)]; exact q
  tbls := fun b ps q => ⟨#[], by rw [upd_ne (ne_of_none q hn), q]; simp⟩
theorem Un.write (mu : Mut (H x)) (he : e = x ∨ H e = some (.own x)) (k : ∀ b u, b ≠ e → h.get? b = some u → h'.get? b = some u) (heo : ∃ u, h'.get? e = some u) : Un fs ex H (upd H x o) h h' := by
  have hx : ∀ b, H b = none → b ≠ x := fun b n z => by subst z; rw [n] at mu; exact mu
  have hb : ∀ b, H b = none → b ≠ e := fun b n z => by
    subst z
    rcases he with r | r
    · exact hx b n r
    · rw [n] at r; cases r
  have hm : ∀ b u, H b = some u → ¬ Mut (some u) → b ≠ x := fun b u q nm z => by subst z; rw [q] at mu; exact nm mu
  refine ⟨fun b u q n _ _ => k b u (hb b n) q, fun b u q n _ _ => ⟨u.slots, k b u (hb b n) q⟩, fun b u q n _ => by rw [upd_ne (hx b n)]; exact n, fun b u q _ => ?_,
    fun b xs q => by rw [upd_ne (hm b _ q fun z => z)]; exact q, fun b u xs q => by rw [upd_ne (hm b _ q fun z => z)]; exact q, fun b ps q => ⟨#[], by rw [upd_ne (hm b _ q fun z => z), q]; simp⟩⟩
  by_cases hbe : b = e
  · subst hbe; exact heo
  · exact ⟨u, k b u hbe q⟩
theorem Un.mono (u : Un fs ex H H1 h h1) (hs : ∀ b ∈ fs, b ∈ fs') (hx : ∀ b ∈ ex, b ∈ ex') : Un fs' ex' H H1 h h1 :=
  ⟨fun b ob q n hb he => u.keep b ob q n (fun z => hb (hs b z)) fun z => he (hx b z), fun _ _ q n _ he => u.any q n fun z => he (hx _ z), fun b ob q n he => u.free b ob q n fun z => he (hx b z), fun b ob q he => u.there b ob q fun z => he (hx b z), u.tups, u.frzs, u.tbls⟩
end

/-! ### the heap without what is tracked -/
def trk (h : Heap) (H : Hp) : List Addr := (List.range h.objs.size).filter fun a => (H a).isSome
def hidT (h : Heap) (H : Hp) : Heap := PySem.W.hideAll h (trk h H)
theorem hidT_size (h : Heap) (H : Hp) : (hidT h H).objs.size = h.objs.size := PySem.W.hideAll_size _ _
theorem hidT_get {h : Heap} {H : Hp} {b : Addr} {o : Obj} (e : h.get? b = some o) (n : H b = none) : (hidT h H).get? b = some o :=
  PySem.W.hideAll_get _ e fun hm => by
    have q : (H b).isSome = true := (List.mem_filter.mp hm).2
    rw [n] at q; simp at q
theorem of_hidT {h : Heap} {H : Hp} {b : Addr} {o : Obj} (e : (hidT h H).get? b = some o) : h.get? b = some o ∧ H b = none := by
  have e' : h.get? b = some o := PySem.W.of_hideAll (trk h H) e
  refine ⟨e', ?_⟩
  cases q : H b with
  | none => rfl
  | some x =>
    have hm : b ∈ trk h H := List.mem_filter.mpr ⟨List.mem_range.mpr (Heap.lt_size e'), by simp [q]⟩
    have z : (hidT h H).get? b = none := PySem.W.hideAll_none (trk h H) hm
    rw [z] at e; cases e

/-! ### OpenK's ledger, filled with every new object but one -/
def allNews (g h : Heap) (L : Addr) : List (Addr × Obj) := (List.range h.objs.size).filterMap fun a => if a = L ∨ (g.get? a).isSome = true then none else (h.get? a).map fun o => (a, o)
def rest (g h : Heap) (L d : Addr) : List (Addr × Obj) := (allNews g h L).filter fun p => decide (p.1 ≠ d)
end L2

namespace L2
open PySem PySem.Spec PyProof.Rows

/-- the module's facts, over the base: the heap at the law's entry without what is tracked there -/
structure Mod (K : PySem.W.Frag) (mg : Str → Option Value) (base : Heap) : Prop where
  kin : K.In base
  glob : base.Ns mainGlobals mg
  blt : ∃ mb, base.Ns builtinsNs mb ∧ ∀ x : Str, x ≠ "__name__" → mb x = bootBuiltins x
  nolimit : base.NoLimit

/-- the context: a def's body (or a comprehension's block) running. base: fixed through the whole law; s₀, H₀: the entry; outer: the frames whose slots others may change (a def's callers); stack: all frames that run;
   ex: iterators that were made ahead of the entry and are walked here (a comprehension's); fn: the names whose cells were made at the entry (a def: all; a comprehension's block: its own); calm: not within an except suite; pn: pins that every state bears; xe: what is wanted of an exception that leaves the code -/
structure Cx where
  prog : Program
  w : World
  K : PySem.W.Frag
  mg : Str → Option Value
  base : Heap
  A : Around
  N : List Str
  s₀ : Shared
  H₀ : Hp
  env : Env
  outer : List Env
  stack : List Env
  ex : List Addr
  fn : Str → Bool
  calm : Bool
  pn : List (Addr × Obj)
  xe : Value → Shared → Prop
/-- the callers' frames -/
def frs (l : List Env) : List Addr := l.filterMap (·.frame)
abbrev Cx.fs (X : Cx) : List Addr := frs X.outer

def Vis (sc : Scope) (x : Str) : Prop := sc.names.lookup x = some .local ∨ sc.names.lookup x = some .cell ∨ sc.names.lookup x = some .free
def Loc (sc : Scope) (x : Str) : Prop := sc.names.lookup x = some .local ∨ sc.names.lookup x = some .cell
def Look (env : Env) (h : Heap) (m : Str → Option Value) (x : Str) (u : Value) : Prop :=
  (env.kindOf x = some .local ∧ m x = some u) ∨ ((env.kindOf x = some .cell ∨ env.kindOf x = some .free) ∧ ∃ c, env.cells.lookup x = some c ∧ h.IsCell c (some u))

structure Cx.Ok (X : Cx) : Prop where
  mod : Mod X.K X.mg X.base
  kind : X.env.scope.kind = .function
  glob : X.env.globals = mainGlobals
  blt : X.env.builtins = builtinsNs
  above : X.s₀.heap.objs.size ≤ X.env.locals
  inj : ∀ x y c, X.env.cells.lookup x = some c → X.env.cells.lookup y = some c → x = y
  has : ∀ x, (X.env.kindOf x = some .cell ∨ X.env.kindOf x = some .free) → ∃ c, X.env.cells.lookup x = some c
  cab : ∀ x c, X.fn x = true → X.env.cells.lookup x = some c → X.s₀.heap.objs.size ≤ c
  hd : X.calm = true → X.A.handled = none
  frames : X.A.frames = some X.stack
  stk : X.stack = X.outer ∨ (X.stack = X.env :: X.outer ∧ X.env.frame = some X.env.locals)
  exf : ∀ b ∈ X.ex, b ≠ X.env.locals ∧ ∀ x c, X.env.cells.lookup x = some c → c ≠ b
  bs : ∀ b o, X.base.get? b = some o → X.s₀.heap.get? b = some o ∧ X.H₀ b = none
  bsz : X.base.objs.size ≤ X.s₀.heap.objs.size
  noex : ∀ b o, X.base.get? b = some o → b ∉ X.ex
  exfs : ∀ b ∈ X.ex, b ∉ X.fs
  funs : X.s₀.heap.FunFrames X.base X.outer
  frf : ∀ b ∈ X.fs, X.H₀ b = none

structure Inv (X : Cx) (pins : List (Addr × Obj)) (σ : List (Option V)) (H : Hp) (s : Shared) : Prop where
  ok : X.Ok
  os : s.os = X.s₀.os
  bare : AllBare s.gens
  base : Un X.fs X.ex X.H₀ H X.s₀.heap s.heap
  loc : ∃ m, s.heap.Ns X.env.locals m ∧ ∀ (i : Nat) (x : Str) (v : V), X.N[i]? = some x → σ[i]? = some (some v) → Vis X.env.scope x → ∃ u, RelV v u ∧ Look X.env s.heap m x u
  cell : ∀ x c, X.env.cells.lookup x = some c → ∃ v, s.heap.IsCell c v
  free : H X.env.locals = none
  freeC : ∀ x c, X.env.cells.lookup x = some c → H c = none
  pin : ∀ p ∈ X.pn ++ pins, s.heap.get? p.1 = some p.2 ∧ H p.1 = none ∧ p.1 ≠ X.env.locals ∧ p.1 ∉ X.fs ∧ ∀ v, p.2.data ≠ .cell v
  hok : HOk X.prog X.w H s.heap
  len : σ.length = X.N.length

section
variable {X : Cx} {pins : List (Addr × Obj)} {σ : List (Option V)} {H H' : Hp} {s : Shared} {h' : Heap}

theorem Cx.Ok.nofr (ok : X.Ok) {b : Addr} {o : Obj} (e : X.base.get? b = some o) : b ∉ X.fs := fun hb => by
  have := (ok.funs.mem hb).1
  rw [e] at this; cases this
theorem Inv.bs (I : Inv X pins σ H s) : ∀ b o, X.base.get? b = some o → s.heap.get? b = some o ∧ H b = none := fun b o e =>
  ⟨I.base.keep b o (I.ok.bs b o e).1 (I.ok.bs b o e).2 (I.ok.nofr e) (I.ok.noex b o e), I.base.free b o (I.ok.bs b o e).1 (I.ok.bs b o e).2 (I.ok.noex b o e)⟩
theorem Inv.bk (I : Inv X pins σ H s) : ∀ b o, X.base.get? b = some o → s.heap.get? b = some o := fun b o e => (I.bs b o e).1
theorem Inv.mod (I : Inv X pins σ H s) : Mod X.K X.mg X.base := I.ok.mod
theorem Inv.kIn (I : Inv X pins σ H s) : X.K.In s.heap := I.ok.mod.kin.keeps I.bk
theorem Inv.nolimit (I : Inv X pins σ H s) : s.heap.NoLimit := I.ok.mod.nolimit.keeps I.bk
/-- the frame over the base: for OpenK's rules (K.In X.base is I.mod.kin) -/
theorem Inv.fr (I : Inv X pins σ H s) : ∃ m, Fr X.base X.env.locals s.heap m :=
  let ⟨m, hn, _⟩ := I.loc
  ⟨m, hn, I.bk, Nat.le_trans I.ok.bsz I.ok.above⟩
theorem Inv.lt (I : Inv X pins σ H s) : X.env.locals < s.heap.objs.size := let ⟨_, hn, _⟩ := I.loc; hn.lt
theorem Inv.sz (I : Inv X pins σ H s) : X.s₀.heap.objs.size ≤ s.heap.objs.size := Nat.le_trans I.ok.above (Nat.le_of_lt I.lt)
theorem Inv.nofs (I : Inv X pins σ H s) {a : Addr} (h : s.heap.objs.size ≤ a) : a ∉ X.fs := fun hb => by
  obtain ⟨_, o, ho, _⟩ := I.ok.funs.mem hb
  exact absurd (Nat.lt_of_lt_of_le (Heap.lt_size ho) (Nat.le_trans I.sz h)) (Nat.lt_irrefl _)
theorem Inv.cne (I : Inv X pins σ H s) : ∀ x c, X.env.cells.lookup x = some c → c ≠ X.env.locals := fun x c e z => by
  obtain ⟨v, o, ho, hd⟩ := I.cell x c e
  obtain ⟨m, ⟨o', es, ep, ho', hd', _⟩, _⟩ := I.loc
  rw [z, ho'] at ho; cases ho; rw [hd'] at hd; cases hd
theorem Inv.funs (I : Inv X pins σ H s) : s.heap.FunFrames X.base X.outer := by
  have all : ∀ (l : List Env), (∀ b ∈ frs l, b ∈ X.fs) → X.s₀.heap.FunFrames X.base l → s.heap.FunFrames X.base l := by
    intro l
    induction l with
    | nil => intro _ _; trivial
    | cons env r ih =>
      intro hs hl
      obtain ⟨hk, ⟨L, o, hf, hn, ho, hd⟩, hr⟩ := hl
      have hL : L ∈ X.fs := hs L (by unfold frs; rw [List.filterMap_cons, hf]; exact List.mem_cons_self)
      obtain ⟨sl, e⟩ := I.base.slot L o ho (I.ok.frf L hL) hL fun z => I.ok.exfs L z hL
      exact ⟨hk, ⟨L, _, hf, hn, e, hd⟩, ih (fun b hb => hs b (by unfold frs; rw [List.filterMap_cons, hf]; exact List.mem_cons_of_mem _ hb)) hr⟩
  exact all X.outer (fun _ hb => hb) I.ok.funs

/-- the frames that run, for a call -/
theorem Inv.stack (I : Inv X pins σ H s) : s.heap.FunFrames X.base X.stack := by
  rcases I.ok.stk with e | ⟨e, hf⟩
  · rw [e]; exact I.funs
  · rw [e]
    obtain ⟨m, hn, _⟩ := I.loc
    refine .cons (by rw [I.ok.kind]; decide) hf hn ?_ I.funs
    exact Heap.get?_none_of_le (Nat.le_trans I.ok.bsz I.ok.above)
theorem Inv.stkSub (I : Inv X pins σ H s) : ∀ b ∈ frs X.stack, b ∈ X.env.locals :: X.fs := fun b hb => by
  rcases I.ok.stk with e | ⟨e, hf⟩
  · rw [e] at hb; exact List.mem_cons_of_mem _ hb
  · rw [e] at hb
    unfold frs at hb
    rw [List.filterMap_cons, hf] at hb
    exact hb
theorem Inv.stkFree (I : Inv X pins σ H s) : ∀ b ∈ frs X.stack, H b = none := fun b hb => by
  rcases List.mem_cons.mp (I.stkSub b hb) with e | hb
  · rw [e]; exact I.free
  · obtain ⟨_, o, ho, _⟩ := I.ok.funs.mem hb
    exact I.base.free b o ho (I.ok.frf b hb) fun z => I.ok.exfs b z hb

/-- THE STEP: the untracked objects but the frame and the records at ch are kept (the callers' frames up to slots), the frame's map is kept, the new abstract heap is held -/
theorem Inv.step {g' : Array GenState} {t' : Nat} {d' : Drawn} {ch : List Addr} (I : Inv X pins σ H s)
    (hch : ∀ b ∈ ch, (b ∈ X.ex ∨ X.s₀.heap.objs.size ≤ b) ∧ b ≠ X.env.locals ∧ (∀ x c, X.env.cells.lookup x = some c → c ≠ b) ∧ ∀ p ∈ X.pn ++ pins, p.1 ≠ b)
    (keep : ∀ b o, b ≠ X.env.locals → b ∉ X.fs → b ∉ ch → s.heap.get? b = some o → H b = none → h'.get? b = some o)
    (slot : ∀ b o, b ≠ X.env.locals → b ∈ X.fs → b ∉ ch → s.heap.get? b = some o → H b = none → ∃ sl, h'.get? b = some { o with slots := sl }) (free : ∀ b o, b ∉ ch → s.heap.get? b = some o → H b = none → H' b = none)
    (there : ∀ b o, b ∉ ch → s.heap.get? b = some o → ∃ o', h'.get? b = some o')
    (tups : ∀ b xs, H b = some (.tup xs) → H' b = some (.tup xs)) (frzs : ∀ b o u, H b = some (.frz o u) → H' b = some (.frz o u)) (tbls : ∀ b ps, H b = some (.tbl ps) → ∃ more, H' b = some (.tbl (ps ++ more)))
    (ns : ∀ m, s.heap.Ns X.env.locals m → h'.Ns X.env.locals m) (hok : HOk X.prog X.w H' h') (hg : AllBare g') :
    Inv X pins σ H' { s with heap := h', gens := g', drawn := d', toks := t' } := by
  have neL : ∀ b o, X.s₀.heap.get? b = some o → b ≠ X.env.locals := fun b o e => Nat.ne_of_lt (Nat.lt_of_lt_of_le (Heap.lt_size e) I.ok.above)
  have neC : ∀ b o, X.s₀.heap.get? b = some o → b ∉ X.ex → b ∉ ch := fun b o e hx hb => by
    rcases (hch b hb).1 with z | z
    · exact hx z
    · exact absurd (Nat.lt_of_lt_of_le (Heap.lt_size e) z) (Nat.lt_irrefl _)
  have cellK : ∀ x c, X.env.cells.lookup x = some c → ∀ v, s.heap.IsCell c v → h'.IsCell c v := fun x c e v ⟨o, ho, hd⟩ => by
    have nch : c ∉ ch := fun z => (hch c z).2.2.1 x c e rfl
    by_cases hc : c ∈ X.fs
    · obtain ⟨sl, q⟩ := slot c o (I.cne x c e) hc nch ho (I.freeC x c e)
      exact ⟨_, q, hd⟩
    · exact ⟨o, keep c o (I.cne x c e) hc nch ho (I.freeC x c e), hd⟩
  refine ⟨I.ok, I.os, hg, ⟨fun b o e n hb hx => ?_, fun b o e n hb hx => ?_, fun b o e n hx => ?_, fun b o e hx => ?_, fun b xs e => tups b xs (I.base.tups b xs e), fun b o xs e => frzs b o xs (I.base.frzs b o xs e), fun b ps e => ?_⟩, ?_, fun x c e => ?_, ?_, fun x c e => ?_, fun p hp => ?_, hok, I.len⟩
  · exact keep b o (neL b o e) hb (neC b o e hx) (I.base.keep b o e n hb hx) (I.base.free b o e n hx)
  · obtain ⟨sl, e1⟩ := I.base.slot b o e n hb hx
    obtain ⟨sl', e2⟩ := slot b _ (neL b o e) hb (neC b o e hx) e1 (I.base.free b o e n hx)
    exact ⟨sl', e2⟩
  · obtain ⟨o', e1⟩ := I.base.there b o e hx
    exact free b o' (neC b o e hx) e1 (I.base.free b o e n hx)
  · obtain ⟨o', e1⟩ := I.base.there b o e hx
    exact there b o' (neC b o e hx) e1
  · obtain ⟨m1, e1⟩ := I.base.tbls b ps e
    obtain ⟨m2, e2⟩ := tbls b _ e1
    exact ⟨m1 ++ m2, by rw [e2, Array.append_assoc]⟩
  · obtain ⟨m, hn, hl⟩ := I.loc
    refine ⟨m, ns m hn, fun i x v e1 e2 e3 => ?_⟩
    obtain ⟨u, r, l⟩ := hl i x v e1 e2 e3
    refine ⟨u, r, ?_⟩
    rcases l with l | ⟨k, c, e, z⟩
    · exact .inl l
    · exact .inr ⟨k, c, e, cellK x c e _ z⟩
  · obtain ⟨v, z⟩ := I.cell x c e
    exact ⟨v, cellK x c e v z⟩
  · obtain ⟨m, ⟨o, _, _, ho, _⟩, _⟩ := I.loc
    exact free _ o (fun z => (hch _ z).2.1 rfl) ho I.free
  · obtain ⟨v, o, ho, hd⟩ := I.cell x c e
    exact free c o (fun z => (hch c z).2.2.1 x c e rfl) ho (I.freeC x c e)
  · obtain ⟨e, n, ne, nf, d⟩ := I.pin p hp
    have nch : p.1 ∉ ch := fun z => (hch p.1 z).2.2.2 p hp rfl
    exact ⟨keep p.1 p.2 ne nf nch e n, free p.1 p.2 nch e n, ne, nf, d⟩
/-- .. where the frame's own object is kept too -/
theorem Inv.un {t' : Nat} (I : Inv X pins σ H s) (u : Un X.fs [] H H' s.heap h') (hok : HOk X.prog X.w H' h') : Inv X pins σ H' { s with heap := h', toks := t' } := by
  obtain ⟨m, ⟨o, es, ep, ho, r⟩, _⟩ := id I.loc
  obtain ⟨sl, hL⟩ := u.any ho I.free (by simp)
  exact I.step (g' := s.gens) (d' := s.drawn) (ch := []) (fun _ z => nomatch z) (fun b o _ hb _ e n => u.keep b o e n hb (by simp)) (fun b o _ hb _ e n => u.slot b o e n hb (by simp)) (fun b o _ e n => u.free b o e n (by simp)) (fun b o _ e => u.there b o e (by simp)) u.tups u.frzs u.tbls (fun m' hm => by
    obtain ⟨o', es', ep', ho', r'⟩ := hm
    rw [ho] at ho'; cases ho'
    exact ⟨_, es', ep', hL, r'⟩) hok I.bare
/-- behind a call (or a comprehension's block): the slots of this frame may have changed too, the records at ch may have turned -/
theorem Inv.call {g' : Array GenState} {t' : Nat} {d' : Drawn} {ch : List Addr} (I : Inv X pins σ H s) (u : Un (frs X.stack) ch H H' s.heap h') (hok : HOk X.prog X.w H' h') (hg : AllBare g')
    (hch : ∀ b ∈ ch, (b ∈ X.ex ∨ X.s₀.heap.objs.size ≤ b) ∧ b ≠ X.env.locals ∧ (∀ x c, X.env.cells.lookup x = some c → c ≠ b) ∧ ∀ p ∈ X.pn ++ pins, p.1 ≠ b) :
    Inv X pins σ H' { s with heap := h', gens := g', drawn := d', toks := t' } := by
  obtain ⟨m, ⟨o, es, ep, ho, r⟩, _⟩ := id I.loc
  obtain ⟨sl, hL⟩ := u.any ho I.free fun z => (hch _ z).2.1 rfl
  exact I.step (ch := ch) hch (fun b o hL hb hc e n => u.keep b o e n (fun z => (List.mem_cons.mp (I.stkSub b z)).elim hL hb) hc) (fun b o _ _ hc e n => u.any e n hc) (fun b o hc e n => u.free b o e n hc) (fun b o hc e => u.there b o e hc) u.tups u.frzs u.tbls (fun m' hm => by
    obtain ⟨o', es', ep', ho', r'⟩ := hm
    rw [ho] at ho'; cases ho'
    exact ⟨_, es', ep', hL, r'⟩) hok hg
/-- an untracked record of ours (an iterator) has turned -/
theorem Inv.turned {t' : Nat} {it : Addr} (I : Inv X pins σ H s) (k : ∀ b o, b ≠ it → s.heap.get? b = some o → h'.get? b = some o) (hn : H it = none) (hL : it ≠ X.env.locals)
    (h1 : it ∈ X.ex ∨ X.s₀.heap.objs.size ≤ it) (h2 : ∀ x c, X.env.cells.lookup x = some c → c ≠ it) (h3 : ∀ p ∈ X.pn ++ pins, p.1 ≠ it) : Inv X pins σ H { s with heap := h', toks := t' } := by
  have nit : ∀ b u, H b = some u → b ≠ it := fun b u e z => by rw [z, hn] at e; cases e
  refine I.step (g' := s.gens) (d' := s.drawn) (ch := [it]) (fun b hb => ?_) (fun b o _ _ hc e _ => k b o (fun z => hc (by simp [z])) e) (fun b o _ _ hc e _ => ⟨o.slots, k b o (fun z => hc (by simp [z])) e⟩) (fun _ _ _ _ n => n)
    (fun b o hc e => ⟨o, k b o (fun z => hc (by simp [z])) e⟩) (fun _ _ e => e) (fun _ _ _ e => e) (fun b ps e => ⟨#[], by rw [e]; simp⟩) (fun m hm => ?_) (fun b u e => ?_) I.bare
  · have e : b = it := by simpa using hb
    subst e
    exact ⟨h1, hL, h2, h3⟩
  · obtain ⟨o, es, ep, ho, r⟩ := hm
    exact ⟨o, es, ep, k _ o (Ne.symm hL) ho, r⟩
  · refine (I.hok b u e).stay (fun c v hc q => k c v ?_ q) (fun _ q => q) fun _ _ q => q
    rcases hc with z | z
    · rw [z]; exact nit b u e
    · exact nit c _ z
theorem Inv.tok (I : Inv X pins σ H s) (t : Nat) : Inv X pins σ H { s with toks := t } := I.un (h' := s.heap) (t' := t) Un.refl I.hok
/-- all objects kept -/
theorem Inv.kept {t' : Nat} (I : Inv X pins σ H s) (k : ∀ b u, s.heap.get? b = some u → h'.get? b = some u) : Inv X pins σ H { s with heap := h', toks := t' } := I.un (Un.kept k) (I.hok.kept k)
/-- a new object laid and tracked -/
theorem Inv.laid {a : Addr} {o : HO} {t' : Nat} (I : Inv X pins σ H s) (k : ∀ b u, s.heap.get? b = some u → h'.get? b = some u) (hp : s.heap.objs.size ≤ a) (new : ObjOk X.prog X.w (upd H a o) h' a o) :
    Inv X pins σ (upd H a o) { s with heap := h', toks := t' } := I.un (Un.laid k hp (I.hok.fresh hp)) (I.hok.laid k hp new)
/-- an object written -/
theorem Inv.write {x e : Addr} {o : HO} {t' : Nat} (I : Inv X pins σ H s) (mu : Mut (H x)) (he : e = x ∨ H e = some (.own x)) (k : ∀ b u, b ≠ e → s.heap.get? b = some u → h'.get? b = some u) (heo : ∃ u, h'.get? e = some u)
    (new : ObjOk X.prog X.w (upd H x o) h' x o) : Inv X pins σ (upd H x o) { s with heap := h', toks := t' } := I.un (Un.write mu he k heo) (I.hok.write mu he k heo new)
theorem Inv.pins_of {pins' : List (Addr × Obj)} (I : Inv X pins σ H s) (h : ∀ p ∈ pins', s.heap.get? p.1 = some p.2 ∧ H p.1 = none ∧ p.1 ≠ X.env.locals ∧ p.1 ∉ X.fs ∧ ∀ v, p.2.data ≠ .cell v) : Inv X pins' σ H s :=
  ⟨I.ok, I.os, I.bare, I.base, I.loc, I.cell, I.free, I.freeC, fun p hp => (List.mem_append.mp hp).elim (fun z => I.pin p (List.mem_append_left _ z)) (h p), I.hok, I.len⟩

theorem nodup_ix {N : List Str} (hN : N.Nodup) {i j : Nat} {x : Str} (a : N[i]? = some x) (b : N[j]? = some x) : i = j := by
  obtain ⟨h1, e1⟩ := List.getElem?_eq_some_iff.mp a
  obtain ⟨h2, e2⟩ := List.getElem?_eq_some_iff.mp b
  exact (List.getElem_inj hN).mp (e1.trans e2.symm)

/-- a name is stored; what changed -/
theorem store_ok2 {M : Model} {A : Around} {E : Value → Shared → Prop} {i : Nat} {x : Str} {v : V} {u : Value} {Q : Unit → Shared → Prop} (I : Inv X pins σ H s) (hN : X.N.Nodup) (hi : X.N[i]? = some x) (hx : Loc X.env.scope x) (r : RelV v u)
    (h : ∀ s', Inv X pins (σ.set i (some v)) H s' → (∃ a, Heap.SameBut a s.heap s'.heap ∧ (a = X.env.locals ∨ X.env.cells.lookup x = some a)) → Q () s') (hf : X.fn x = true ∨ X.env.scope.names.lookup x = some .local := by first | exact .inl rfl | exact .inr rfl | assumption) : wpAny M A (storeName X.env x u) Q E s := by
  obtain ⟨m, hn, hl⟩ := id I.loc
  have hcls : (X.env.scope.kind == .class || (X.env.scope.kind == .module && X.env.locals != X.env.globals)) = false := by rw [I.ok.kind]; rfl
  have hiσ : i < σ.length := by rw [I.len]; exact (List.getElem?_eq_some_iff.mp hi).1
  have cne := I.cne
  have tracked : ∀ {a : Addr} {h' : Heap}, (∃ o, s.heap.get? a = some o ∧ H a = none) → Heap.SameBut a s.heap h' → HOk X.prog X.w H h' := fun {a h'} ha hs b ob e => by
    obtain ⟨_, _, hfree⟩ := ha
    refine (I.hok b ob e).stay (fun c w' hc q => (hs.2 c ?_).trans q) (fun _ q => q) fun _ _ q => q
    rintro rfl
    rcases hc with rfl | hc
    · rw [hfree] at e; cases e
    · rw [hfree] at hc; cases hc
  rcases hx with hk | hk
  · refine wpAny_storeName_local hk hn (fun h' hn' hs => ?_) hcls
    obtain ⟨oL, _, _, hoL, _⟩ := id hn
    refine h _ ⟨I.ok, I.os, I.bare, ⟨fun b o e n hb hx => ?_, fun b o e n hb hx => ?_, I.base.free, fun b o e hx => ?_, I.base.tups, I.base.frzs, I.base.tbls⟩, ⟨_, hn', fun j y v' e1 e2 e3 => ?_⟩, fun y c e => ?_, I.free, I.freeC, fun p hp => ?_, tracked ⟨oL, hoL, I.free⟩ hs, by simpa using I.len⟩ ⟨_, hs, .inl rfl⟩
    · exact (hs.2 b (Nat.ne_of_lt (Nat.lt_of_lt_of_le (Heap.lt_size e) I.ok.above))).trans (I.base.keep b o e n hb hx)
    · obtain ⟨sl, e1⟩ := I.base.slot b o e n hb hx
      exact ⟨sl, (hs.2 b (Nat.ne_of_lt (Nat.lt_of_lt_of_le (Heap.lt_size e) I.ok.above))).trans e1⟩
    · obtain ⟨o', e1⟩ := I.base.there b o e hx
      exact ⟨o', (hs.2 b (Nat.ne_of_lt (Nat.lt_of_lt_of_le (Heap.lt_size e) I.ok.above))).trans e1⟩
    · by_cases hj : j = i
      · subst hj
        rw [hi] at e1; cases e1
        rw [List.getElem?_set_self hiσ] at e2
        cases e2
        exact ⟨u, r, .inl ⟨hk, by simp⟩⟩
      · rw [List.getElem?_set_ne (Ne.symm hj)] at e2
        obtain ⟨u', r', q⟩ := hl j y v' e1 e2 e3
        refine ⟨u', r', ?_⟩
        rcases q with ⟨k, e⟩ | ⟨k, c, e, z⟩
        · refine .inl ⟨k, ?_⟩
          have : y ≠ x := fun e => hj (nodup_ix hN e1 (e ▸ hi))
          simp [this, e]
        · exact .inr ⟨k, c, e, z.sameBut hs (cne y c e)⟩
    · obtain ⟨w', z⟩ := I.cell y c e
      exact ⟨w', z.sameBut hs (cne y c e)⟩
    · obtain ⟨e, n, ne, nf, d⟩ := I.pin p hp
      exact ⟨(hs.2 p.1 ne).trans e, n, ne, nf, d⟩
  · have hfn : X.fn x = true := by
      rcases hf with z | z
      · exact z
      · rw [z] at hk; cases hk
    obtain ⟨c, hc⟩ := I.ok.has x (.inl hk)
    obtain ⟨w', z⟩ := I.cell x c hc
    refine wpAny_storeName_cell I.ok.kind hk hc z (fun h' hc' hs => ?_)
    obtain ⟨oc, hoc, hocd⟩ := id z
    refine h { s with heap := h' } ⟨I.ok, I.os, I.bare, ⟨fun b o e n hb hx => ?_, fun b o e n hb hx => ?_, I.base.free, fun b o e hx => ?_, I.base.tups, I.base.frzs, I.base.tbls⟩, ⟨m, hn.sameBut hs (Ne.symm (cne x c hc)), fun j y v' e1 e2 e3 => ?_⟩, fun y c' e => ?_, I.free, I.freeC, fun p hp => ?_, tracked ⟨oc, hoc, I.freeC x c hc⟩ hs, by simpa using I.len⟩ ⟨c, hs, .inr hc⟩
    · exact (hs.2 b (Nat.ne_of_lt (Nat.lt_of_lt_of_le (Heap.lt_size e) (I.ok.cab x c hfn hc)))).trans (I.base.keep b o e n hb hx)
    · obtain ⟨sl, e1⟩ := I.base.slot b o e n hb hx
      exact ⟨sl, (hs.2 b (Nat.ne_of_lt (Nat.lt_of_lt_of_le (Heap.lt_size e) (I.ok.cab x c hfn hc)))).trans e1⟩
    · obtain ⟨o', e1⟩ := I.base.there b o e hx
      exact ⟨o', (hs.2 b (Nat.ne_of_lt (Nat.lt_of_lt_of_le (Heap.lt_size e) (I.ok.cab x c hfn hc)))).trans e1⟩
    · by_cases hj : j = i
      · subst hj
        rw [hi] at e1; cases e1
        rw [List.getElem?_set_self hiσ] at e2
        cases e2
        exact ⟨u, r, .inr ⟨.inl hk, c, hc, hc'⟩⟩
      · rw [List.getElem?_set_ne (Ne.symm hj)] at e2
        obtain ⟨u', r', q⟩ := hl j y v' e1 e2 e3
        refine ⟨u', r', ?_⟩
        rcases q with q | ⟨k, c', e, z'⟩
        · exact .inl q
        · refine .inr ⟨k, c', e, z'.sameBut hs ?_⟩
          rintro rfl
          exact hj (nodup_ix hN e1 (I.ok.inj _ _ _ e hc ▸ hi))
    · by_cases hcc : c' = c
      · subst hcc; exact ⟨_, hc'⟩
      · obtain ⟨w2, z2⟩ := I.cell y c' e
        exact ⟨w2, z2.sameBut hs hcc⟩
    · obtain ⟨e, n, ne, nf, d⟩ := I.pin p hp
      refine ⟨(hs.2 p.1 ?_).trans e, n, ne, nf, d⟩
      intro q
      rw [q, hoc] at e
      have q' : oc = p.2 := Option.some.inj e
      exact d w' (by rw [← q']; exact hocd)
theorem store_ok {M : Model} {A : Around} {E : Value → Shared → Prop} {i : Nat} {x : Str} {v : V} {u : Value} {Q : Unit → Shared → Prop} (I : Inv X pins σ H s) (hN : X.N.Nodup) (hi : X.N[i]? = some x) (hx : Loc X.env.scope x) (r : RelV v u)
    (h : ∀ s', Inv X pins (σ.set i (some v)) H s' → Q () s') (hf : X.fn x = true ∨ X.env.scope.names.lookup x = some .local := by first | exact .inl rfl | exact .inr rfl | assumption) : wpAny M A (storeName X.env x u) Q E s :=
  store_ok2 I hN hi hx r (fun s' I' _ => h s' I') hf
/-- behind a call or a block, the state as it is -/
theorem Inv.call' {s' : Shared} {ch : List Addr} (I : Inv X pins σ H s) (ho : s'.os = s.os) (u : Un (frs X.stack) ch H H' s.heap s'.heap) (hok : HOk X.prog X.w H' s'.heap) (hg : AllBare s'.gens)
    (hch : ∀ b ∈ ch, (b ∈ X.ex ∨ X.s₀.heap.objs.size ≤ b) ∧ b ≠ X.env.locals ∧ (∀ x c, X.env.cells.lookup x = some c → c ≠ b) ∧ ∀ p ∈ X.pn ++ pins, p.1 ≠ b) : Inv X pins σ H' s' := by
  obtain ⟨h', g', d', t', o'⟩ := s'
  have e : o' = s.os := ho
  subst e
  exact I.call (g' := g') (t' := t') (d' := d') u hok hg hch
end

/-! ### the judgements -/
/-- an exception: its class, its own dict's address (where it has one), the abstract heap behind it -/
abbrev XK := Value → Option Addr → Hp → Prop
abbrev St := List (Option V)
abbrev VK := V → Hp → Prop
/-- an expression's reading; a test's; an argument list's -/
abbrev TE := St → Hp → VK → Prop
abbrev TT := St → Hp → (Bool → Hp → Prop) → Prop
abbrev TA := St → Hp → (List V → Hp → Prop) → Prop
/-- what is wanted behind a statement -/
structure Ends where
  nx : St → Hp → Prop
  rt : VK
  bk : St → Hp → Prop := fun _ _ => False
  ct : St → Hp → Prop := fun _ _ => False
abbrev TS := Ends → St → Hp → Prop

def EP (X : Cx) (pins : List (Addr × Obj)) (σ : St) (Q : VK) (u : Value) (s' : Shared) : Prop := ∃ v H', Inv X pins σ H' s' ∧ RelV v u ∧ Q v H'
def TP (X : Cx) (pins : List (Addr × Obj)) (σ : St) (Q : Bool → Hp → Prop) (b : Bool) (s' : Shared) : Prop := ∃ H', Inv X pins σ H' s' ∧ Q b H'
def AP (X : Cx) (pins : List (Addr × Obj)) (σ : St) (Q : List V → Hp → Prop) (us : List Value) (s' : Shared) : Prop := ∃ vs H', Inv X pins σ H' s' ∧ Vals vs us ∧ Q vs H'
def SP (X : Cx) (pins : List (Addr × Obj)) (D : Ends) (f : Flow) (s' : Shared) : Prop :=
  match f with
  | .next => ∃ σ' H', Inv X pins σ' H' s' ∧ D.nx σ' H'
  | .brk => ∃ σ' H', Inv X pins σ' H' s' ∧ D.bk σ' H'
  | .cont => ∃ σ' H', Inv X pins σ' H' s' ∧ D.ct σ' H'
  | .ret u => ∃ v σ' H', Inv X pins σ' H' s' ∧ RelV v u ∧ D.rt v H'

def PE (X : Cx) (e : Expr) (t : TE) : Prop :=
  ∀ (pins : List (Addr × Obj)) (s : Shared) (σ : St) (H : Hp) (Q : VK), Inv X pins σ H s → t σ H Q → wpAny (model X.prog X.w) X.A (eval e X.env) (EP X pins σ Q) X.xe s
def PT (X : Cx) (e : Expr) (t : TT) : Prop :=
  ∀ (pins : List (Addr × Obj)) (s : Shared) (σ : St) (H : Hp) (Q : Bool → Hp → Prop), Inv X pins σ H s → t σ H Q → wpAny (model X.prog X.w) X.A (isTrue e X.env (eval e X.env)) (TP X pins σ Q) X.xe s
/-- a test whatever its 'whole' is (and, or) -/
def PW (X : Cx) (e : Expr) (t : TT) : Prop :=
  ∀ (whole : Sem Value) (pins : List (Addr × Obj)) (s : Shared) (σ : St) (H : Hp) (Q : Bool → Hp → Prop), Inv X pins σ H s → t σ H Q → wpAny (model X.prog X.w) X.A (isTrue e X.env whole) (TP X pins σ Q) X.xe s
theorem PW.pt {X : Cx} {e : Expr} {t : TT} (h : PW X e t) : PT X e t := h _
/-- an argument list (no star), from the left -/
def PA (X : Cx) (es : List Expr) (t : TA) : Prop :=
  ∀ (pos : Pos) (pins : List (Addr × Obj)) (s : Shared) (σ : St) (H : Hp) (Q : List V → Hp → Prop), Inv X pins σ H s → t σ H Q → wpAny (model X.prog X.w) X.A (spliced (backTo pos (starEach es X.env))) (AP X pins σ Q) X.xe s
def PS (X : Cx) (st : Stmt) (t : TS) : Prop :=
  ∀ (pins : List (Addr × Obj)) (s : Shared) (σ : St) (H : Hp) (D : Ends), Inv X pins σ H s → t D σ H → wpAny (model X.prog X.w) X.A (exec st X.env) (SP X pins D) X.xe s
def PSs (X : Cx) (st : List Stmt) (t : TS) : Prop :=
  ∀ (pins : List (Addr × Obj)) (s : Shared) (σ : St) (H : Hp) (D : Ends), Inv X pins σ H s → t D σ H → wpAny (model X.prog X.w) X.A (execs st X.env) (SP X pins D) X.xe s
/-- weaken the end -/
theorem thn {α : Type} {t : Sem α} {Q Q' : α → Shared → Prop} {M : Model} {A : Around} {E : Value → Shared → Prop} {s : Shared} (h : wpAny M A t Q E s) (hQ : ∀ a s, Q a s → Q' a s) : wpAny M A t Q' E s := wpAny_mono h hQ fun _ _ x => x
end L2

namespace L2
open PySem PySem.Spec PyProof.Rows
section
variable {X : Cx}

/-! ### names and constants -/
def tVar (i : Nat) : TE := fun σ H Q => ∃ v, σ[i]? = some (some v) ∧ Q v H
def tC (v : V) : TE := fun _ H Q => Q v H
theorem pe_var {i : Nat} {x : Str} {pos : Pos} (hN : X.N[i]? = some x) (hv : Vis X.env.scope x) (hd : (x == ("__debug__" : Str)) = false := by decide) (hcd : (x == ("__classdict__" : Str)) = false := by decide) : PE X (.Name x pos) (tVar i) := by
  intro pins s σ H Q I h
  obtain ⟨v, e, h⟩ := h
  obtain ⟨m, hn, hl⟩ := I.loc
  obtain ⟨u, r, l⟩ := hl i x v hN e hv
  have fin : EP X pins σ Q u s := ⟨v, H, I, r, h⟩
  rcases l with ⟨hk, hm⟩ | ⟨hk, c, hc, hcell⟩
  · exact wpAny_Name (wpAny_loadName_local I.ok.kind hk hn hm fin) hd
  · rcases hk with hk | hk
    · exact wpAny_Name (wpAny_loadName_cell I.ok.kind hk hc hcell fin) hd
    · exact wpAny_Name (wpAny_loadName_free I.ok.kind hk hc hcell fin hcd) hd
theorem pe_int {i j pos} : PE X (.Constant (.int i) j pos) (tC (.int i)) := fun _ _ _ H _ I h => wpAny_Constant_int ⟨.int i, H, I.tok _, ⟨_, rfl⟩, h⟩
theorem pe_bl {b j pos} : PE X (.Constant (.bool b) j pos) (tC (.bl b)) := fun _ _ _ H _ I h => Constant_bool ⟨.bl b, H, I, rfl, h⟩
theorem pe_str {x j pos} : PE X (.Constant (.str x) j pos) (tC (.str x)) := fun _ _ _ H _ I h => Calls.Constant_str ⟨.str x, H, I.tok _, ⟨_, rfl⟩, h⟩

/-- a global name of the def -/
def Gl (X : Cx) (x : Str) : Prop := X.env.kindOf x = some .globalImplicit
theorem ld_glob {E : Value → Shared → Prop} {pins : List (Addr × Obj)} {s : Shared} {σ : St} {H : Hp} {x : Str} {u : Value} {pos : Pos} {Q : Value → Shared → Prop} (I : Inv X pins σ H s) (hg : Gl X x) (hm : X.mg x = some u) (h : Q u s)
    (hd : (x == ("__debug__" : Str)) = false := by decide) : wpAny (model X.prog X.w) X.A (eval (.Name x pos) X.env) Q E s :=
  Calls.Name_function_global I.ok.kind hg (Calls.loadGlobal_global (by rw [I.ok.glob]; exact I.mod.glob.keeps I.bk) hm h) hd
theorem ld_blt {E : Value → Shared → Prop} {pins : List (Addr × Obj)} {s : Shared} {σ : St} {H : Hp} {x : Str} {u : Value} {pos : Pos} {Q : Value → Shared → Prop} (I : Inv X pins σ H s) (hg : Gl X x) (hm : X.mg x = none) (hv : bootBuiltins x = some u) (h : Q u s)
    (hn : x ≠ "__name__" := by decide) (hd : (x == ("__debug__" : Str)) = false := by decide) : wpAny (model X.prog X.w) X.A (eval (.Name x pos) X.env) Q E s := by
  obtain ⟨mb, h1, h2⟩ := I.mod.blt
  exact Calls.Name_function_global I.ok.kind hg (Calls.loadGlobal_builtin (by rw [I.ok.glob]; exact I.mod.glob.keeps I.bk) hm (by rw [I.ok.blt]; exact h1.keeps I.bk) ((h2 x hn).trans hv) h) hd
/-- a module's constant, a class, a function, as a value -/
theorem pe_glob {x : Str} {v : V} {u : Value} {pos : Pos} (hg : Gl X x) (hm : X.mg x = some u) (r : RelV v u) (hd : (x == ("__debug__" : Str)) = false := by decide) : PE X (.Name x pos) (tC v) :=
  fun _ _ _ H _ I h => ld_glob I hg hm ⟨v, H, I, r, h⟩ hd
theorem pe_bltn {x : Str} {v : V} {u : Value} {pos : Pos} (hg : Gl X x) (hm : X.mg x = none) (hv : bootBuiltins x = some u) (r : RelV v u) (hn : x ≠ "__name__" := by decide) (hd : (x == ("__debug__" : Str)) = false := by decide) : PE X (.Name x pos) (tC v) :=
  fun _ _ _ H _ I h => ld_blt I hg hm hv ⟨v, H, I, r, h⟩ hn hd

/-! ### arithmetic -/
/-- two ints -/
def t2I (ta tb : TE) (k : Int → Int → Hp → Prop) : St → Hp → Prop := fun σ H => ta σ H fun x H1 => tb σ H1 fun y H2 => ∃ i j, x = .int i ∧ y = .int j ∧ k i j H2
def tAdd (ta tb : TE) : TE := fun σ H Q => t2I ta tb (fun i j H2 => Q (.int (i + j)) H2) σ H
def tSub (ta tb : TE) : TE := fun σ H Q => t2I ta tb (fun i j H2 => Q (.int (i - j)) H2) σ H
/-- the left factor below 2^64 -/
def tMul (ta tb : TE) : TE := fun σ H Q => t2I ta tb (fun i j H2 => (-(2 ^ 64) < i ∧ i < 2 ^ 64) ∧ Q (.int (i * j)) H2) σ H
variable {a b : Expr} {ta tb : TE} {pos : Pos}
/-! ### comparisons -/
def PC (X : Cx) (op : CmpOp) (a b : Expr) (t : TE) : Prop :=
  ∀ (pins : List (Addr × Obj)) (s : Shared) (σ : St) (H : Hp) (Q : VK), Inv X pins σ H s → t σ H Q →
    wpAny (model X.prog X.w) X.A (eval a X.env) (fun v s₁ => wpAny (model X.prog X.w) X.A (eval b X.env) (fun u s₂ => wpAny (model X.prog X.w) X.A (compareOp op v u) (EP X pins σ Q) X.xe s₂) X.xe s₁) X.xe s
def tCmp (p : Int → Int → Bool) (ta tb : TE) : TE := fun σ H Q => t2I ta tb (fun i j H2 => Q (.bl (p i j)) H2) σ H
abbrev tLt : TE → TE → TE := tCmp fun i j => decide (i < j)
abbrev tLe : TE → TE → TE := tCmp fun i j => decide (i ≤ j)
abbrev tGt : TE → TE → TE := tCmp fun i j => decide (j < i)
abbrev tGe : TE → TE → TE := tCmp fun i j => decide (j ≤ i)
abbrev tEqI : TE → TE → TE := tCmp fun i j => decide (i = j)
abbrev tNeI : TE → TE → TE := tCmp fun i j => !decide (i = j)
/-- is None -/
def tIsN (ta : TE) : TE := fun σ H Q => ta σ H fun x H1 => Q (.bl (decide (x = .non))) H1
def tNotN (ta : TE) : TE := fun σ H Q => ta σ H fun x H1 => Q (.bl (!decide (x = .non))) H1
/-- a comparison as a value, as a test -/
def tB (t : TE) : TT := fun σ H Q => t σ H fun x H1 => ∃ c, x = .bl c ∧ Q c H1
/-- an expression whose value is a bool, as a test -/
theorem pt_val {e : Expr} {t : TE} (h : PE X e t) (he : ∀ whole, isTrue e X.env whole = (do let v ← whole; standAt e.pos; holding [v] (truthy v)) := by intro _; rfl) : PT X e (tB t) := by
  intro pins s σ H Q I hw
  refine isTrue_plain (thn (h pins s σ H _ I hw) fun v s1 ⟨x, H1, I1, r1, q1⟩ => ?_) (he _)
  obtain ⟨d, rfl, q⟩ := q1
  cases r1
  exact wpAny_truthy_bool ⟨H1, I1, q⟩

/-! ### and, or, not -/
variable {tA tB' : TT} {rest : List Expr}
def tAnd (t u : TT) : TT := fun σ H Q => t σ H fun c H1 => if c = true then u σ H1 Q else Q false H1
def tOr (t u : TT) : TT := fun σ H Q => t σ H fun c H1 => if c = true then Q true H1 else u σ H1 Q
def tNot (t : TT) : TT := fun σ H Q => t σ H fun c H1 => Q (!c) H1
theorem pw_and1 (ha : PT X a tA) : PW X (.BoolOp .And [a] pos) tA := by
  intro wh pins s σ H Q I h
  refine isTrue_and (thn (ha pins s σ H Q I h) fun c s1 e => ?_)
  cases c with
  | true => exact isTrue_and_nil e
  | false => exact e
theorem pw_or1 (ha : PT X a tA) : PW X (.BoolOp .Or [a] pos) tA := by
  intro wh pins s σ H Q I h
  refine isTrue_or (thn (ha pins s σ H Q I h) fun c s1 e => ?_)
  cases c with
  | false => exact isTrue_or_nil e
  | true => exact e
theorem pw_and (ha : PT X a tA) (hb : PW X (.BoolOp .And (b :: rest) pos) tB') : PW X (.BoolOp .And (a :: b :: rest) pos) (tAnd tA tB') := by
  intro wh pins s σ H Q I h
  refine isTrue_and (thn (ha pins s σ H _ I h) fun c s1 ⟨H1, I1, q1⟩ => ?_)
  cases c with
  | true => exact hb wh pins s1 σ H1 Q I1 q1
  | false => exact ⟨H1, I1, q1⟩
theorem pw_or (ha : PT X a tA) (hb : PW X (.BoolOp .Or (b :: rest) pos) tB') : PW X (.BoolOp .Or (a :: b :: rest) pos) (tOr tA tB') := by
  intro wh pins s σ H Q I h
  refine isTrue_or (thn (ha pins s σ H _ I h) fun c s1 ⟨H1, I1, q1⟩ => ?_)
  cases c with
  | true => exact ⟨H1, I1, q1⟩
  | false => exact hb wh pins s1 σ H1 Q I1 q1
theorem pt_not (ha : PT X a tA) : PT X (.UnaryOp .Not a pos) (tNot tA) := by
  intro pins s σ H Q I h
  exact isTrue_not (ha pins s σ H (fun c H1 => Q (!c) H1) I h)
/-- .. as values (bools) -/
def tAndV (ta tb : TE) : TE := fun σ H Q => ta σ H fun x H1 => ∃ c, x = .bl c ∧ if c = true then tb σ H1 Q else Q (.bl false) H1
def tOrV (ta tb : TE) : TE := fun σ H Q => ta σ H fun x H1 => ∃ c, x = .bl c ∧ if c = true then Q (.bl true) H1 else tb σ H1 Q
def tNotV (ta : TE) : TE := fun σ H Q => ta σ H fun x H1 => ∃ c, x = .bl c ∧ Q (.bl (!c)) H1
theorem pe_one {op} {t : TE} (h : PE X a t) : PE X (.BoolOp op [a] pos) t := fun pins s σ H Q I hw => BoolOp_one (h pins s σ H Q I hw)
theorem pe_and (ha : PE X a ta) (hb : PE X (.BoolOp .And (b :: rest) pos) tb) : PE X (.BoolOp .And (a :: b :: rest) pos) (tAndV ta tb) := by
  intro pins s σ H Q I h
  refine BoolOp_and (thn (ha pins s σ H _ I h) fun v s1 ⟨x, H1, I1, r1, q1⟩ => ?_)
  obtain ⟨c, rfl, q1⟩ := q1
  cases r1
  refine wpAny_truthy_bool ?_
  cases c with
  | true => exact hb pins s1 σ H1 Q I1 q1
  | false => exact ⟨.bl false, H1, I1, rfl, q1⟩
/-- a if t else b -/
def tIf (t : TT) (ta tb : TE) : TE := fun σ H Q => t σ H fun c H1 => if c = true then ta σ H1 Q else tb σ H1 Q
end
end L2

namespace L2
open PySem PySem.Spec PyProof.Rows

/-! ### a list, a tuple that is read: tracked, frozen, or an object of the module -/
def SqL (K : PySem.W.Frag) (H : Hp) (a : Addr) (xs : List V) : Prop :=
  Rd H a (.lst xs) ∨
    ∃ (o : Obj) (its : Array Value) (n : Nat), K.lookup a = some o ∧ o.cls = .type "list" ∧ o.dict = none ∧ o.data = .seq its n ∧ its.size ≤ sizeLine ∧ Vals xs its.toList
def SqT (K : PySem.W.Frag) (H : Hp) (a : Addr) (xs : List V) : Prop :=
  Rd H a (.tup xs) ∨
    ∃ (o : Obj) (its : Array Value) (n : Nat), K.lookup a = some o ∧ o.cls = .type "tuple" ∧ o.data = .seq its n ∧ its.size ≤ sizeLine ∧ Vals xs its.toList
def absV : Value → Option V
  | .none => some .non
  | .bool b => some (.bl b)
  | .int i _ => some (.int i)
  | .str x _ => some (.str x)
  | .bytes b _ => some (.byt b)
  | .float b _ => some (.flt b)
  | .ref a => some (.ref a)
  | .type n => some (.ty n)
  | _ => none
theorem RelV.abs {x : V} {u : Value} (r : RelV x u) : absV u = some x := by
  cases x with
  | non => cases r; rfl
  | bl _ => cases r; rfl
  | int _ => obtain ⟨t, rfl⟩ := r; rfl
  | str _ => obtain ⟨t, rfl⟩ := r; rfl
  | byt _ => obtain ⟨t, rfl⟩ := r; rfl
  | flt _ => obtain ⟨t, rfl⟩ := r; rfl
  | ref _ => cases r; rfl
  | ty _ => cases r; rfl
theorem RelV.inj {x y : V} {u : Value} (r : RelV x u) (q : RelV y u) : x = y := Option.some.inj (r.abs.symm.trans q.abs)
theorem Vals.inj : ∀ {xs ys : List V} {us : List Value}, Vals xs us → Vals ys us → xs = ys
  | _, _, _, .nil, .nil => rfl
  | _, _, _, .cons r t, .cons r' t' => by rw [r.inj r', Vals.inj t t']
section
variable {X : Cx} {pins : List (Addr × Obj)} {σ : St} {H : Hp} {s : Shared} {a : Addr} {xs ys : List V}
theorem SqL.of {K : PySem.W.Frag} (h : H a = some (.lst xs)) : SqL K H a xs := .inl (.inl h)
theorem SqT.of {K : PySem.W.Frag} (h : H a = some (.tup xs)) : SqT K H a xs := .inl (.inl h)
theorem Inv.list (I : Inv X pins σ H s) (h : SqL X.K H a xs) : ∃ its : List Value, Vals xs its ∧ PlainL s.heap a its.toArray ∧ xs.length ≤ sizeLine := by
  rcases h with h | ⟨o, its, n, hk, hc, hd, hs, hz, r⟩
  · obtain ⟨z, its, n, r, e⟩ := h.ok I.hok
    exact ⟨its, r, ⟨_, n, e, rfl, rfl, rfl⟩, z⟩
  · refine ⟨its.toList, r, ⟨o, n, I.kIn a o hk, hc, hd, by simpa using hs⟩, ?_⟩
    have e := r.length
    simp only [Array.length_toList] at e
    omega
theorem Inv.tuple (I : Inv X pins σ H s) (h : SqT X.K H a xs) : ∃ its : List Value, Vals xs its ∧ IsTup s.heap a its.toArray ∧ xs.length ≤ sizeLine := by
  rcases h with h | ⟨o, its, n, hk, hc, hs, hz, r⟩
  · obtain ⟨z, its, r, p⟩ := h.ok I.hok
    exact ⟨its, r, p, z⟩
  · refine ⟨its.toList, r, ⟨o, I.kIn a o hk, hc, n, by simpa using hs⟩, ?_⟩
    have e := r.length
    simp only [Array.length_toList] at e
    omega
theorem Inv.list_inj (I : Inv X pins σ H s) (h : SqL X.K H a xs) (h' : SqL X.K H a ys) : xs = ys := by
  obtain ⟨its, r, ⟨o, n, e, _, _, d⟩, _⟩ := I.list h
  obtain ⟨its', r', ⟨o', n', e', _, _, d'⟩, _⟩ := I.list h'
  rw [e] at e'; cases e'
  rw [d] at d'
  injection d' with d1 _
  have : its = its' := by simpa using congrArg Array.toList d1
  subst this
  exact r.inj r'
theorem Inv.tuple_inj (I : Inv X pins σ H s) (h : SqT X.K H a xs) (h' : SqT X.K H a ys) : xs = ys := by
  obtain ⟨its, r, ⟨o, e, _, n, d⟩, _⟩ := I.tuple h
  obtain ⟨its', r', ⟨o', e', _, n', d'⟩, _⟩ := I.tuple h'
  rw [e] at e'; cases e'
  rw [d] at d'
  injection d' with d1 _
  have : its = its' := by simpa using congrArg Array.toList d1
  subst this
  exact r.inj r'
end

/-! ### another wish about exceptions -/
abbrev Cx.wish (X : Cx) (E : Value → Shared → Prop) : Cx := { X with xe := E }
/-- no exception leaves -/
abbrev Cx.nox (X : Cx) : Cx := X.wish fun _ _ => False
theorem Cx.Ok.wish {X : Cx} (ok : X.Ok) (E : Value → Shared → Prop) : (X.wish E).Ok :=
  ⟨ok.mod, ok.kind, ok.glob, ok.blt, ok.above, ok.inj, ok.has, ok.cab, ok.hd, ok.frames, ok.stk, ok.exf, ok.bs, ok.bsz, ok.noex, ok.exfs, ok.funs, ok.frf⟩
theorem Cx.Ok.unwish {X : Cx} {E : Value → Shared → Prop} (ok : (X.wish E).Ok) : X.Ok :=
  ⟨ok.mod, ok.kind, ok.glob, ok.blt, ok.above, ok.inj, ok.has, ok.cab, ok.hd, ok.frames, ok.stk, ok.exf, ok.bs, ok.bsz, ok.noex, ok.exfs, ok.funs, ok.frf⟩
section
variable {X : Cx} {pins : List (Addr × Obj)} {σ : St} {H : Hp} {s : Shared} {E : Value → Shared → Prop}
theorem Inv.wish (I : Inv X pins σ H s) (E : Value → Shared → Prop) : Inv (X.wish E) pins σ H s := ⟨I.ok.wish E, I.os, I.bare, I.base, I.loc, I.cell, I.free, I.freeC, I.pin, I.hok, I.len⟩
theorem Inv.unwish (I : Inv (X.wish E) pins σ H s) : Inv X pins σ H s := ⟨I.ok.unwish, I.os, I.bare, I.base, I.loc, I.cell, I.free, I.freeC, I.pin, I.hok, I.len⟩
theorem SP.unwish {D : Ends} {f : Flow} {s' : Shared} (h : SP (X.wish E) pins D f s') : SP X pins D f s' := by
  cases f with
  | next => obtain ⟨σ', H', I, q⟩ := h; exact ⟨σ', H', I.unwish, q⟩
  | brk => obtain ⟨σ', H', I, q⟩ := h; exact ⟨σ', H', I.unwish, q⟩
  | cont => obtain ⟨σ', H', I, q⟩ := h; exact ⟨σ', H', I.unwish, q⟩
  | ret u => obtain ⟨v, σ', H', I, r, q⟩ := h; exact ⟨v, σ', H', I.unwish, r, q⟩
theorem PE.nox {e : Expr} {t : TE} (h : PE X.nox e t) : PE X e t := fun pins s σ H Q I hw =>
  wpAny_mono (h pins s σ H Q (I.wish _) hw) (fun _ _ ⟨v, H', I', r, q⟩ => ⟨v, H', I'.unwish, r, q⟩) fun _ _ z => False.elim z
theorem PT.nox {e : Expr} {t : TT} (h : PT X.nox e t) : PT X e t := fun pins s σ H Q I hw =>
  wpAny_mono (h pins s σ H Q (I.wish _) hw) (fun _ _ ⟨H', I', q⟩ => ⟨H', I'.unwish, q⟩) fun _ _ z => False.elim z
theorem PSs.nox {st : List Stmt} {t : TS} (h : PSs X.nox st t) : PSs X st t := fun pins s σ H D I hw =>
  wpAny_mono (h pins s σ H D (I.wish _) hw) (fun _ _ q => q.unwish) fun _ _ z => False.elim z
end

/-! ### blocks and small statements -/
section
variable {X : Cx} {st : Stmt} {rest : List Stmt} {t u : TS} {e : Expr} {te : TE} {pos : Pos}
def tNext : TS := fun D σ H => D.nx σ H
def tSeq (t u : TS) : TS := fun D σ H => t { D with nx := u D } σ H
theorem pss_nil : PSs X [] tNext := fun _ _ σ H _ I h => wpAny_execs_nil ⟨σ, H, I, h⟩
theorem pss_cons (h1 : PS X st t) (h2 : PSs X rest u) : PSs X (st :: rest) (tSeq t u) := by
  intro pins s σ H D I h
  refine wpAny_execs_cons (thn (h1 pins s σ H { D with nx := u D } I h) fun f s1 q => ?_)
  cases f with
  | next =>
    obtain ⟨σ', H', I', q⟩ := q
    exact h2 pins s1 σ' H' D I' q
  | ret v => exact q
  | brk => exact q
  | cont => exact q
theorem pss_one (h1 : PS X st t) : PSs X [st] t := by
  intro pins s σ H D I h
  refine wpAny_execs_cons (thn (h1 pins s σ H D I h) fun f s1 q => ?_)
  cases f with
  | next => exact wpAny_execs_nil q
  | ret v => exact q
  | brk => exact q
  | cont => exact q
def tBreak : TS := fun D σ H => D.bk σ H
def tCont : TS := fun D σ H => D.ct σ H
/-- in a def's body nothing is shown -/
theorem Inv.quiet {pins : List (Addr × Obj)} {σ : St} {H : Hp} {s : Shared} (I : Inv X pins σ H s) : interactive X.env = false := by simp [interactive, I.ok.kind]
/-- an expression whose value is dropped -/
def tDrop (te : TE) : TS := fun D σ H => te σ H fun _ H1 => D.nx σ H1
theorem ps_expr (he : PE X e te) (hs : swapsWith e none pos.line X.env = pure false := by rfl) : PS X (.Expr e pos) (tDrop te) := by
  intro pins s σ H D I h
  exact wpAny_Expr_any (thn (he pins s σ H _ I h) fun v s1 ⟨x, H1, I1, r1, q1⟩ => ⟨σ, H1, I1, q1⟩) I.quiet hs
def tRet (te : TE) : TS := fun D σ H => te σ H D.rt
theorem ps_ret (he : PE X e te) : PS X (.Return (some e) pos) (tRet te) := by
  intro pins s σ H D I h
  exact wpAny_Return_some (thn (he pins s σ H _ I h) fun v s1 ⟨x, H1, I1, r1, q1⟩ => ⟨x, σ, H1, I1, r1, q1⟩)
def tRetN : TS := fun D _ H => D.rt .non H
def tIfS (c : TT) (t u : TS) : TS := fun D σ H => c σ H fun b H1 => if b = true then t D σ H1 else u D σ H1
theorem ps_if {c : Expr} {a b : List Stmt} {tc : TT} (hc : PT X c tc) (ha : PSs X a t) (hb : PSs X b u) : PS X (.If c a b pos) (tIfS tc t u) := by
  intro pins s σ H D I h
  refine wpAny_If (thn (hc pins s σ H _ I h) fun d s1 ⟨H1, I1, q1⟩ => ?_)
  cases d with
  | true => exact ha pins s1 σ H1 D I1 q1
  | false => exact hb pins s1 σ H1 D I1 q1
/-- code that the proof never comes to -/
def tNever : TS := fun _ _ _ => False
end

/-! ### targets -/
abbrev TG := V → St → Hp → (St → Hp → Prop) → Prop
abbrev TGs := List V → St → Hp → (St → Hp → Prop) → Prop
def PG (X : Cx) (target : Expr) (t : TG) : Prop :=
  ∀ (pins : List (Addr × Obj)) (s : Shared) (σ : St) (H : Hp) (v : V) (u : Value) (Q : St → Hp → Prop), Inv X pins σ H s → RelV v u → t v σ H Q →
    wpAny (model X.prog X.w) X.A (assign target X.env u) (fun _ s' => ∃ σ' H', Inv X pins σ' H' s' ∧ Q σ' H') X.xe s
/-- several targets, one after another -/
def PGs (X : Cx) (ts : List Expr) (t : TGs) : Prop :=
  ∀ (pins : List (Addr × Obj)) (s : Shared) (σ : St) (H : Hp) (vs : List V) (us : List Value) (Q : St → Hp → Prop), Inv X pins σ H s → Vals vs us → t vs σ H Q →
    wpAny (model X.prog X.w) X.A (assignInOrder ((assignEach ts X.env).map (·.2)) us) (fun _ s' => ∃ σ' H', Inv X pins σ' H' s' ∧ Q σ' H') X.xe s
/-- o[i] = v, by values -/
abbrev TSet := V → V → V → Hp → (Hp → Prop) → Prop
def PSet (X : Cx) (t : TSet) : Prop :=
  ∀ (pins : List (Addr × Obj)) (s : Shared) (σ : St) (H : Hp) (o i v : V) (ov iv u : Value) (Q : Hp → Prop), Inv X pins σ H s → RelV o ov → RelV i iv → RelV v u → t o i v H Q →
    wpAny (model X.prog X.w) X.A (setItem ov iv u) (fun _ s' => ∃ H', Inv X pins σ H' s' ∧ Q H') X.xe s
/-- a op= b, by values -/
abbrev TIp := V → V → Hp → VK → Prop
def PIp (X : Cx) (op : Operator) (t : TIp) : Prop :=
  ∀ (pins : List (Addr × Obj)) (s : Shared) (σ : St) (H : Hp) (x y : V) (v u : Value) (Q : VK), Inv X pins σ H s → RelV x v → RelV y u → t x y H Q →
    wpAny (model X.prog X.w) X.A (inplaceOp op v u) (EP X pins σ Q) X.xe s
section
variable {X : Cx} {pos : Pos}
def gName (i : Nat) : TG := fun v σ H Q => Q (σ.set i (some v)) H
theorem pg_name {i : Nat} {x : Str} (hN : X.N.Nodup) (hi : X.N[i]? = some x) (hx : Loc X.env.scope x) (hf : X.fn x = true ∨ X.env.scope.names.lookup x = some .local := by first | exact .inl rfl | exact .inr rfl | assumption) : PG X (.Name x pos) (gName i) := by
  intro pins s σ H v u Q I r h
  exact wpAny_assign_Name (store_ok I hN hi hx r (fun s' I' => ⟨_, H, I', h⟩) hf)
def gNil : TGs := fun vs σ H Q => vs = [] ∧ Q σ H
def gCons (t : TG) (u : TGs) : TGs := fun vs σ H Q => ∃ v r, vs = v :: r ∧ t v σ H fun σ' H' => u r σ' H' Q
theorem pgs_nil : PGs X [] gNil := by
  intro pins s σ H vs us Q I r h
  obtain ⟨e, h⟩ := h
  subst e
  cases r
  exact assignInOrder_nil ⟨σ, H, I, h⟩
theorem pgs_cons {e : Expr} {es : List Expr} {t : TG} {u : TGs} (h1 : PG X e t) (h2 : PGs X es u)
    (hs : (assignEach (e :: es) X.env).map (·.2) = assign e X.env :: (assignEach es X.env).map (·.2) := by rfl) : PGs X (e :: es) (gCons t u) := by
  intro pins s σ H vs us Q I r h
  obtain ⟨v, vr, e1, h⟩ := h
  subst e1
  cases r with
  | cons r rr =>
    rw [hs]
    refine assignInOrder_cons (thn (h1 pins s σ H _ _ _ I r h) fun _ s1 ⟨σ1, H1, I1, q1⟩ => ?_)
    exact h2 pins s1 σ1 H1 _ _ Q I1 rr q1
/-- (a, b, ..) = a tuple of that length -/
def gTup (K : PySem.W.Frag) (n : Nat) (t : TGs) : TG := fun v σ H Q => ∃ a xs, v = .ref a ∧ SqT K H a xs ∧ xs.length = n ∧ t xs σ H Q
theorem pg_tup {es : List Expr} {k : Nat} {t : TGs} {n : Nat} (hc : X.calm = true) (h : PGs X es t)
    (hn : (assignEach es X.env).length = n := by rfl) (hst : (assignEach es X.env).findIdx? (·.1) = none := by rfl) : PG X (.Tuple es k pos) (gTup X.K n t) := by
  intro pins s σ H v u Q I r hw
  obtain ⟨a, xs, e1, hq, hl, hw⟩ := hw
  subst e1
  cases r
  obtain ⟨its, rv, ht, hz⟩ := I.tuple hq
  refine assign_Tuple_tuple (I.ok.hd hc) ht (by simp [hn, ← hl, rv.length]) hst fun h' hx => ?_
  have I1 : Inv X pins σ H { s with heap := h' } := I.kept (t' := s.toks) fun b o e => hx b o (Nat.ne_of_lt (Heap.lt_size e)) e
  exact h pins _ σ H xs _ Q I1 (by simpa using rv) hw
/-- o[i] = .. -/
def gSub (to ti : TE) (t : TSet) : TG := fun v σ H Q => to σ H fun o H1 => ti σ H1 fun i H2 => t o i v H2 fun H3 => Q σ H3
/-- target = value -/
def tAsg (te : TE) (g : TG) : TS := fun D σ H => te σ H fun x H1 => g x σ H1 D.nx
/-- name = value -/
theorem ps_set {i : Nat} {x : Str} {e : Expr} {te : TE} {pos' : Pos} (hN : X.N.Nodup) (hi : X.N[i]? = some x) (hx : Loc X.env.scope x) (he : PE X e te) (hs : swapsWith e (some (.Name x pos')) pos.line X.env = pure false := by rfl) (hf : X.fn x = true ∨ X.env.scope.names.lookup x = some .local := by first | exact .inl rfl | exact .inr rfl | assumption) :
    PS X (.Assign [.Name x pos'] e pos) (tAsg te (gName i)) := by
  intro pins s σ H D I h
  refine wpAny_Assign_Name (thn (he pins s σ H _ I h) fun v s1 ⟨y, H1, I1, r1, q1⟩ => ?_) hs
  exact store_ok I1 hN hi hx r1 (fun s2 I2 => ⟨_, H1, I2, q1⟩) hf
/-- a, b = x, y with plain local names: stored from the right; the pair itself is not tracked (the opening rows as in PyProof/Rows/TupAssign.lean:23) -/
def tPar (i j : Nat) (ta : TA) : TS := fun D σ H => ta σ H fun vs H1 => ∃ v w, vs = [v, w] ∧ D.nx ((σ.set i (some v)).set j (some w)) H1
/-- name op= e -/
def tAug (i : Nat) (te : TE) (ti : TIp) : TS := fun D σ H => ∃ x, σ[i]? = some (some x) ∧ te σ H fun y H1 => ti x y H1 fun z H2 => D.nx (σ.set i (some z)) H2
/-- o[i] op= e -/
def tAugS (to ti te : TE) (tget : V → V → Hp → VK → Prop) (tip : TIp) (tset : TSet) : TS := fun D σ H => to σ H fun o H1 => ti σ H1 fun i H2 => tget o i H2 fun x H3 => te σ H3 fun y H4 => tip x y H4 fun z H5 => tset o i z H5 fun H6 => D.nx σ H6
/-- o[i], by values -/
def PGet (X : Cx) (t : V → V → Hp → VK → Prop) : Prop :=
  ∀ (pins : List (Addr × Obj)) (s : Shared) (σ : St) (H : Hp) (o i : V) (ov iv : Value) (Q : VK), Inv X pins σ H s → RelV o ov → RelV i iv → t o i H Q →
    wpAny (model X.prog X.w) X.A (getItem ov iv) (EP X pins σ Q) X.xe s
/-- ints -/
def ipI (f : Int → Int → Int) : TIp := fun x y H Q => ∃ i j, x = .int i ∧ y = .int j ∧ Q (.int (f i j)) H
end

/-! ### while -/
section
variable {X : Cx} {pos : Pos}
/-- the invariant W with its measure -/
def tWhile (c : TT) (tb : TS) : TS := fun D σ H => ∃ W : Nat → St → Hp → Prop, (∃ m, W m σ H) ∧ ∀ m σ H, W m σ H →
  c σ H fun b H1 => if b = true then ∃ N : St → Hp → Prop, (∀ σ' H', N σ' H' → ∃ m', m' < m ∧ W m' σ' H') ∧ tb { D with nx := N, ct := N, bk := D.nx } σ H1 else D.nx σ H1
end

/-! ### what a loop or a comprehension walks -/
/-- at turn i: it yields x (the heap may grow), or it stops -/
structure It where
  go : Nat → Hp → Prop
  yld : Nat → Hp → V → Hp → Prop
  stop : Nat → Hp → Prop
/-- the iterator's own objects may turn: they are not the frame's, not pinned, younger than the entry (or a comprehension's own) -/
def FpOk (X : Cx) (pins : List (Addr × Obj)) (H : Hp) (b : Addr) : Prop :=
  H b = none ∧ b ≠ X.env.locals ∧ b ∉ X.fs ∧ (b ∈ X.ex ∨ X.s₀.heap.objs.size ≤ b) ∧ (∀ x c, X.env.cells.lookup x = some c → c ≠ b) ∧ ∀ p ∈ X.pn ++ pins, p.1 ≠ b
theorem Inv.fpOk {X : Cx} {pins : List (Addr × Obj)} {σ : St} {H H' : Hp} {s : Shared} {b : Addr} (I : Inv X pins σ H s) (hb : s.heap.objs.size ≤ b) (hn : H' b = none) : FpOk X pins H' b := by
  refine ⟨hn, Nat.ne_of_gt (Nat.lt_of_lt_of_le I.lt hb), I.nofs hb, .inr (Nat.le_trans I.sz hb), fun x c e z => ?_, fun p hp z => ?_⟩
  · obtain ⟨v, q⟩ := I.cell x c e
    exact absurd (Nat.lt_of_lt_of_le q.lt (by rw [z]; exact hb)) (Nat.lt_irrefl _)
  · exact absurd (Nat.lt_of_lt_of_le (Heap.lt_size (I.pin p hp).1) (by rw [z]; exact hb)) (Nat.lt_irrefl _)
structure Turn (P : Program) (w : World) (K : PySem.W.Frag) (tg : Expr) (J : It) (fp : List Addr) (it : Addr) (tn : Nat → Heap → Prop) : Prop where
  mem : it ∈ fp
  obj : ∀ i h, tn i h → ∀ b ∈ fp, ∃ o, h.get? b = some o ∧ ∀ v, o.data ≠ .cell v
  keep : ∀ i h h', tn i h → (∀ b ∈ fp, ∀ o, h.get? b = some o → h'.get? b = some o) → tn i h'
  item : ∀ (X : Cx), X.prog = P → X.w = w → X.K = K → X.calm = true → ∀ (i : Nat) (pins : List (Addr × Obj)) (s : Shared) (σ : St) (H : Hp) (E : Value → Shared → Prop), Inv X pins σ H s → (∀ b ∈ fp, FpOk X pins H b) → tn i s.heap → J.go i H →
    wpAny (model P w) X.A (pyNext (.ref it)) (fun r s1 => ∃ u, r = some u ∧
      wpAny (model P w) X.A (letOwnedTupleGo tg (.ref it) u) (fun _ s2 => ∃ x H', Inv X pins σ H' s2 ∧ RelV x u ∧ J.yld i H x H' ∧ tn (i + 1) s2.heap ∧ ∀ b ∈ fp, H' b = none) E s1) E s
  done : ∀ (X : Cx), X.prog = P → X.w = w → X.K = K → X.calm = true → ∀ (i : Nat) (pins : List (Addr × Obj)) (s : Shared) (σ : St) (H : Hp) (E : Value → Shared → Prop), Inv X pins σ H s → (∀ b ∈ fp, FpOk X pins H b) → tn i s.heap → J.stop i H →
    wpAny (model P w) X.A (pyNext (.ref it)) (fun r s1 => r = none ∧ Inv X pins σ H s1) E s
  self : ∀ (A : Around) (i : Nat) (s : Shared) (Q : Value → Shared → Prop) (E : Value → Shared → Prop), tn i s.heap → Q (.ref it) s → wpAny (model P w) A (pyIter (.ref it)) Q E s
abbrev TI := St → Hp → (It → Hp → Prop) → Prop
/-- an iterator has come -/
def PIE (X : Cx) (pins : List (Addr × Obj)) (σ : St) (tg : Expr) (R : It → Hp → Prop) (itv : Value) (s2 : Shared) : Prop :=
  ∃ (it : Addr) (fp : List Addr) (tn : Nat → Heap → Prop) (J : It) (H' : Hp), itv = .ref it ∧ Inv X pins σ H' s2 ∧ Turn X.prog X.w X.K tg J fp it tn ∧ tn 0 s2.heap ∧ (∀ b ∈ fp, FpOk X pins H' b) ∧ R J H'
def PI (X : Cx) (tg iter : Expr) (wi : TI) : Prop :=
  ∀ (pins : List (Addr × Obj)) (s : Shared) (σ : St) (H : Hp) (R : It → Hp → Prop), Inv X pins σ H s → wi σ H R →
    wpAny (model X.prog X.w) X.A (eval iter X.env) (fun v s1 => wpAny (model X.prog X.w) X.A (pyIter v) (PIE X pins σ tg R) X.xe s1) X.xe s

/-- the step ahead of the store is nothing for an iterator that keeps no tuple -/
theorem go_of {M : Model} {A : Around} {E : Value → Shared → Prop} {s : Shared} {tg : Expr} {it : Addr} {u : Value} {o : Obj} {n : String} {vs : Array Value} {Q : Unit → Shared → Prop} (ho : s.heap.get? it = some o) (hc : o.cls = .type n) (hd : o.data = .fields vs)
    (hn : ["enumerate", "zip", "dict_itemiterator", "dict_reverseitemiterator", "odict_iterator", "itertools.zip_longest", "itertools.pairwise"].contains n = false) (hQ : Q () s) : wpAny M A (letOwnedTupleGo tg (.ref it) u) Q E s := by
  unfold letOwnedTupleGo
  cases tg <;> first
    | exact wpAny_pure hQ
    | (cases u <;> first
        | exact wpAny_pure hQ
        | (refine wpAny_bind (wpAny_load ho ?_)
           rw [hc, hd]
           show wpAny M A (if (["enumerate", "zip", "dict_itemiterator", "dict_reverseitemiterator", "odict_iterator", "itertools.zip_longest", "itertools.pairwise"].contains n && vs[0]? == some (rawInt _)) = true then _ else _) Q E s
           rw [if_neg (by intro h; rw [hn, Bool.false_and] at h; cases h)]
           exact wpAny_pure hQ))

/-- the list at a, as it stands at each turn (a loop may append to it) -/
def Itl (K : PySem.W.Frag) (a : Addr) : It :=
  ⟨fun i H => ∃ xs x, SqL K H a xs ∧ xs[i]? = some x, fun i H x H' => H' = H ∧ ∀ xs, SqL K H a xs → xs[i]? = some x, fun i H => ∃ xs, SqL K H a xs ∧ xs.length ≤ i⟩
def Itt (K : PySem.W.Frag) (a : Addr) : It :=
  ⟨fun i H => ∃ xs x, SqT K H a xs ∧ xs[i]? = some x, fun i H x H' => H' = H ∧ ∀ xs, SqT K H a xs → xs[i]? = some x, fun i H => ∃ xs, SqT K H a xs ∧ xs.length ≤ i⟩
/-- lo, lo + 1, .. (n of them) -/
def Itr (lo : Int) (n : Nat) : It := ⟨fun i _ => i < n, fun i H x H' => H' = H ∧ x = .int (lo + i), fun i _ => n ≤ i⟩
theorem turn_list {P : Program} {w : World} {K : PySem.W.Frag} {tg : Expr} (a it : Addr) : Turn P w K tg (Itl K a) [it] it (fun i h => h.IsListIter it a i) where
  mem := by simp
  obj := fun i h st b hb => by
    have e : b = it := by simpa using hb
    subst e
    obtain ⟨o, e, c, d⟩ := st
    exact ⟨o, e, fun v z => by rw [d] at z; cases z⟩
  keep := fun i h h' st k => st.at fun o e => k it (by simp) o e
  item := by
    intro X hP hw hK hc i pins s σ H E I hf st hg
    subst hP hw hK
    obtain ⟨xs, x, hq, hx⟩ := hg
    obtain ⟨its, rv, p, hz⟩ := I.list hq
    obtain ⟨u, hu, ru⟩ := rv.get hx
    obtain ⟨f0, f1, f2, f3, f4, f5⟩ := hf it (by simp)
    refine wpAny_pyNext_list_item st p.isList (x := u) (by simpa using hu) fun h' st' sb => ?_
    have I1 : Inv X pins σ H { s with heap := h' } := I.turned (t' := s.toks) (fun b o hb e => (sb.2 b hb).trans e) f0 f1 f3 f4 f5
    obtain ⟨o, e, c, d⟩ := id st'
    exact ⟨u, rfl, go_of (s := { s with heap := h' }) e c d (by decide) ⟨x, H, I1, ru, ⟨rfl, fun ys hy => by rw [I.list_inj hy hq]; exact hx⟩, st', fun b hb => (hf b hb).1⟩⟩
  done := by
    intro X hP hw hK hc i pins s σ H E I hf st hg
    subst hP hw hK
    obtain ⟨xs, hq, hx⟩ := hg
    obtain ⟨its, rv, p, hz⟩ := I.list hq
    obtain ⟨f0, f1, f2, f3, f4, f5⟩ := hf it (by simp)
    have hl := rv.length
    exact wpAny_pyNext_list_end (I.ok.hd hc) st p.isList (by simp; omega) fun h' eb => ⟨rfl, I.turned (t' := s.toks) (fun b o hb e => eb b o hb e) f0 f1 f3 f4 f5⟩
  self := fun _ _ _ _ _ st h => wpAny_pyIter_listiter st h
theorem turn_tuple {P : Program} {w : World} {K : PySem.W.Frag} {tg : Expr} (a it : Addr) : Turn P w K tg (Itt K a) [it] it (fun i h => h.IsTupleIter it a i) where
  mem := by simp
  obj := fun i h st b hb => by
    have e : b = it := by simpa using hb
    subst e
    obtain ⟨o, e, c, d⟩ := st
    exact ⟨o, e, fun v z => by rw [d] at z; cases z⟩
  keep := fun i h h' st k => st.at fun o e => k it (by simp) o e
  item := by
    intro X hP hw hK hc i pins s σ H E I hf st hg
    subst hP hw hK
    obtain ⟨xs, x, hq, hx⟩ := hg
    obtain ⟨its, rv, p, hz⟩ := I.tuple hq
    obtain ⟨u, hu, ru⟩ := rv.get hx
    obtain ⟨f0, f1, f2, f3, f4, f5⟩ := hf it (by simp)
    refine wpAny_pyNext_tuple_item st (show s.heap.IsTuple a its.toArray from p) (x := u) (by simpa using hu) fun h' st' sb => ?_
    have I1 : Inv X pins σ H { s with heap := h' } := I.turned (t' := s.toks) (fun b o hb e => (sb.2 b hb).trans e) f0 f1 f3 f4 f5
    obtain ⟨o, e, c, d⟩ := id st'
    exact ⟨u, rfl, go_of (s := { s with heap := h' }) e c d (by decide) ⟨x, H, I1, ru, ⟨rfl, fun ys hy => by rw [I.tuple_inj hy hq]; exact hx⟩, st', fun b hb => (hf b hb).1⟩⟩
  done := by
    intro X hP hw hK hc i pins s σ H E I hf st hg
    subst hP hw hK
    obtain ⟨xs, hq, hx⟩ := hg
    obtain ⟨its, rv, p, hz⟩ := I.tuple hq
    obtain ⟨f0, f1, f2, f3, f4, f5⟩ := hf it (by simp)
    have hl := rv.length
    exact wpAny_pyNext_tuple_end (I.ok.hd hc) st (show s.heap.IsTuple a its.toArray from p) (by simp; omega) fun h' eb => ⟨rfl, I.turned (t' := s.toks) (fun b o hb e => eb b o hb e) f0 f1 f3 f4 f5⟩
  self := fun _ _ _ _ _ st h => wpAny_pyIter_tupleiter st h
theorem turn_range {P : Program} {w : World} {K : PySem.W.Frag} {tg : Expr} (it : Addr) (lo : Int) (n : Nat) : Turn P w K tg (Itr lo n) [it] it (fun i h => IsRangeIter h it (lo + (i : Nat) * 1) ((n : Int) - (i : Nat)) 1) where
  mem := by simp
  obj := fun i h st b hb => by
    have e : b = it := by simpa using hb
    subst e
    exact ⟨_, st, fun v z => by
      have z' : Data.fields _ = Data.cell v := z
      cases z'⟩
  keep := fun i h h' st k => k it (by simp) _ st
  item := by
    intro X hP hw hK hc i pins s σ H E I hf st hg
    subst hP hw hK
    obtain ⟨f0, f1, f2, f3, f4, f5⟩ := hf it (by simp)
    have W := Walks.range (prog := X.prog) (w := X.w) (I.ok.hd hc) it lo 1 n
    refine W.item i s _ _ hg st fun v h' tk hv st' kk => ?_
    obtain ⟨t, rfl⟩ := hv
    have I1 : Inv X pins σ H { s with heap := h', toks := tk } := I.turned (fun b o hb e => kk b o (by simpa using hb) e) f0 f1 f3 f4 f5
    refine ⟨_, rfl, go_of (s := { s with heap := h', toks := tk }) (n := "range_iterator") st' rfl rfl (by decide) ⟨.int (lo + i), H, I1, ⟨t, ?_⟩, ⟨rfl, rfl⟩, st', fun b hb => (hf b hb).1⟩⟩
    rw [Int.mul_one]
  done := by
    intro X hP hw hK hc i pins s σ H E I hf st hg
    subst hP hw hK
    obtain ⟨f0, f1, f2, f3, f4, f5⟩ := hf it (by simp)
    exact wpAny_pyNext_range_end (I.ok.hd hc) st (by have : n ≤ i := hg; omega) fun h' eb => ⟨rfl, I.turned (t' := s.toks) (fun b o hb e => eb b o hb e) f0 f1 f3 f4 f5⟩
  self := fun _ _ _ _ _ st h => wpAny_pyIter_rangeiter st h
end L2

namespace L2
open PySem PySem.Spec PyProof.Rows
section
variable {X : Cx} {tg : Expr}
def iList (K : PySem.W.Frag) (tl : TE) : TI := fun σ H R => tl σ H fun x H1 => ∃ a, x = .ref a ∧ (∃ xs, SqL K H1 a xs) ∧ R (Itl K a) H1
def iTup (K : PySem.W.Frag) (tl : TE) : TI := fun σ H R => tl σ H fun x H1 => ∃ a, x = .ref a ∧ (∃ xs, SqT K H1 a xs) ∧ R (Itt K a) H1
theorem pi_list {l : Expr} {tl : TE} (hl : PE X l tl) : PI X tg l (iList X.K tl) := by
  intro pins s σ H R I h
  refine thn (hl pins s σ H _ I h) fun v s1 ⟨x, H1, I1, r1, q1⟩ => ?_
  obtain ⟨a, e, ⟨xs, hq⟩, q⟩ := q1
  subst e
  cases r1
  obtain ⟨its, rv, p, hz⟩ := I1.list hq
  refine wpAny_pyIter_list p.isList ?_
  refine ⟨s1.heap.objs.size, [s1.heap.objs.size], _, _, H1, rfl, I1.kept (t' := s1.toks) fun b o e => Heap.get?_push_of_some _ e, turn_list a _, ⟨_, Heap.get?_push_size _ rfl, rfl, rfl⟩, fun b hb => ?_, q⟩
  have e : b = s1.heap.objs.size := by simpa using hb
  subst e
  exact I1.fpOk (Nat.le_refl _) (I1.hok.fresh (Nat.le_refl _))
theorem pi_tup {l : Expr} {tl : TE} (hl : PE X l tl) : PI X tg l (iTup X.K tl) := by
  intro pins s σ H R I h
  refine thn (hl pins s σ H _ I h) fun v s1 ⟨x, H1, I1, r1, q1⟩ => ?_
  obtain ⟨a, e, ⟨xs, hq⟩, q⟩ := q1
  subst e
  cases r1
  obtain ⟨its, rv, p, hz⟩ := I1.tuple hq
  refine wpAny_pyIter_tuple (show s1.heap.IsTuple a its.toArray from p) ?_
  refine ⟨s1.heap.objs.size, [s1.heap.objs.size], _, _, H1, rfl, I1.kept (t' := s1.toks) fun b o e => Heap.get?_push_of_some _ e, turn_tuple a _, ⟨_, Heap.get?_push_size _ rfl, rfl, rfl⟩, fun b hb => ?_, q⟩
  have e : b = s1.heap.objs.size := by simpa using hb
  subst e
  exact I1.fpOk (Nat.le_refl _) (I1.hok.fresh (Nat.le_refl _))
/-- a range object just made, walked -/
theorem range_it {pins : List (Addr × Obj)} {σ : St} {H : Hp} {s : Shared} {R : It → Hp → Prop} {E : Value → Shared → Prop} {lo hi : Int} {t u v : Tok} {tk : Nat} (I : Inv X pins σ H s) (h1 : -(2 ^ 62) ≤ lo) (h2 : lo < 2 ^ 62) (h3 : -(2 ^ 62) ≤ hi) (h4 : hi < 2 ^ 62)
    (q : R (Itr lo (hi - lo).toNat) H) : wpAny (model X.prog X.w) X.A (pyIter (.ref s.heap.objs.size)) (PIE X pins σ tg R) E { s with heap := s.heap.push { cls := .type "range", data := .fields #[.int lo t, .int hi u, .int 1 v] }, toks := tk } := by
  refine wpAny_pyIter_range (IsRange.new ..) (small_one h1 h2 h3 h4) ?_
  have I1 : Inv X pins σ H { s with heap := s.heap.push { cls := .type "range", data := .fields #[.int lo t, .int hi u, .int 1 v] }, toks := tk } := I.kept fun b o e => Heap.get?_push_of_some _ e
  refine ⟨(s.heap.push { cls := .type "range", data := .fields #[.int lo t, .int hi u, .int 1 v] }).objs.size, [(s.heap.push { cls := .type "range", data := .fields #[.int lo t, .int hi u, .int 1 v] }).objs.size], _, _, H, rfl,
    I1.kept (t' := tk) fun b o e => Heap.get?_push_of_some _ e, turn_range _ lo (hi - lo).toNat, ?_, fun b hb => ?_, q⟩
  · have e1 : lo + ((0 : Nat) : Int) * 1 = lo := by simp
    have e2 : (((hi - lo).toNat : Nat) : Int) - ((0 : Nat) : Int) = Builtin.Range.rangeSize lo hi 1 := by rw [rangeSize_one]; split <;> omega
    show IsRangeIter _ _ (lo + ((0 : Nat) : Int) * 1) ((((hi - lo).toNat : Nat) : Int) - ((0 : Nat) : Int)) 1
    rw [e1, e2]
    exact Heap.get?_push_size _ rfl
  · have e : b = (s.heap.push { cls := .type "range", data := .fields #[.int lo t, .int hi u, .int 1 v] }).objs.size := by simpa using hb
    subst e
    exact I1.fpOk (Nat.le_refl _) (I1.hok.fresh (Nat.le_refl _))
def iRng1 (ta : TA) : TI := fun σ H R => ta σ H fun vs H1 => ∃ j : Int, vs = [.int j] ∧ -(2 ^ 62) ≤ j ∧ j < 2 ^ 62 ∧ R (Itr 0 j.toNat) H1
def iRng2 (ta : TA) : TI := fun σ H R => ta σ H fun vs H1 => ∃ i j : Int, vs = [.int i, .int j] ∧ (-(2 ^ 62) ≤ i ∧ i < 2 ^ 62 ∧ -(2 ^ 62) ≤ j ∧ j < 2 ^ 62) ∧ R (Itr i (j - i).toNat) H1
theorem pi_range1 {a : Expr} {ta : TA} {p pos : Pos} (hg : Gl X "range") (hm : X.mg "range" = none) (ha : PA X [a] ta) (hs : starEach [a] X.env = [(false, eval a X.env)] := by rfl) : PI X tg (.Call (.Name "range" p) [a] [] pos) (iRng1 ta) := by
  intro pins s σ H R I h
  refine Call_ (ld_blt I hg hm boot_range (PyProof.Rows.callWith_type1 (thn (ha pos pins s σ H _ I h) fun us s1 ⟨vs, H1, I1, r1, q1⟩ => ?_) hs rfl))
  obtain ⟨j, e, q1, q2, q⟩ := q1
  subst e
  cases r1 with
  | cons r rr =>
    cases rr
    obtain ⟨t, rfl⟩ := r
    exact call_range_1 (range_it I1 (by omega) (by omega) q1 q2 (by simpa using q))
theorem pi_range2 {a b : Expr} {ta : TA} {p pos : Pos} (hg : Gl X "range") (hm : X.mg "range" = none) (ha : PA X [a, b] ta) (hs : starEach [a, b] X.env = [(false, eval a X.env), (false, eval b X.env)] := by rfl) (hs2 : starEach [b] X.env = [(false, eval b X.env)] := by rfl) :
    PI X tg (.Call (.Name "range" p) [a, b] [] pos) (iRng2 ta) := by
  intro pins s σ H R I h
  refine Call_ (ld_blt I hg hm boot_range (PyProof.Rows.callWith_type1 (thn (ha pos pins s σ H _ I h) fun us s1 ⟨vs, H1, I1, r1, q1⟩ => ?_) (by rw [hs, hs2]) (by rw [hs2]; rfl)))
  obtain ⟨i, j, e, ⟨q1, q2, q3, q4⟩, q⟩ := q1
  subst e
  cases r1 with
  | cons r rr =>
    cases rr with
    | cons r' rr =>
      cases rr
      obtain ⟨t, rfl⟩ := r
      obtain ⟨t', rfl⟩ := r'
      exact call_range_2 (range_it I1 q1 q2 q3 q4 q)

/-! ### for -/
/-- W: the invariant by the turn and a measure; N: what the body is to reach -/
def tFor (wi : TI) (g : TG) (tb : TS) : TS := fun D σ H => wi σ H fun J H1 => ∃ W : Nat → Nat → St → Hp → Prop, (∃ m, W 0 m σ H1) ∧ ∀ i m σ H, W i m σ H →
  (J.stop i H ∧ D.nx σ H) ∨ (J.go i H ∧ ∃ N : St → Hp → Prop, (∀ σ' H', N σ' H' → ∃ m', m' < m ∧ W (i + 1) m' σ' H') ∧ ∀ x H', J.yld i H x H' → g x σ H' fun σ2 H2 => tb { D with nx := N, ct := N, bk := D.nx } σ2 H2)
/-- the records at fp as they stand -/
def pinsAt (fp : List Addr) (h : Heap) : List (Addr × Obj) := fp.filterMap fun b => (h.get? b).map fun o => (b, o)
theorem mem_pinsAt {fp : List Addr} {h : Heap} {b : Addr} {o : Obj} (hb : b ∈ fp) (e : h.get? b = some o) : (b, o) ∈ pinsAt fp h := List.mem_filterMap.mpr ⟨b, hb, by rw [e]; rfl⟩
theorem of_pinsAt {fp : List Addr} {h : Heap} {p : Addr × Obj} (hp : p ∈ pinsAt fp h) : p.1 ∈ fp ∧ h.get? p.1 = some p.2 := by
  obtain ⟨b, hb, e⟩ := List.mem_filterMap.mp hp
  cases q : h.get? b with
  | none => rw [q] at e; cases e
  | some o =>
    rw [q] at e
    have e' : (b, o) = p := Option.some.inj e
    subst e'
    exact ⟨hb, q⟩
theorem Inv.pinned {pins : List (Addr × Obj)} {σ : St} {H : Hp} {s : Shared} {fp : List Addr} (I : Inv X pins σ H s) (hf : ∀ b ∈ fp, FpOk X pins H b) (ho : ∀ b ∈ fp, ∃ o, s.heap.get? b = some o ∧ ∀ v, o.data ≠ .cell v) : Inv X (pins ++ pinsAt fp s.heap) σ H s :=
  I.pins_of fun p hp => (List.mem_append.mp hp).elim (fun z => I.pin p (List.mem_append_right _ z)) fun z => by
    obtain ⟨hb, e⟩ := of_pinsAt z
    obtain ⟨f0, f1, f2, _⟩ := hf p.1 hb
    obtain ⟨o, e', d⟩ := ho p.1 hb
    rw [e] at e'; cases e'
    exact ⟨e, f0, f1, f2, d⟩
theorem Inv.unpinned {pins pl : List (Addr × Obj)} {σ : St} {H : Hp} {s : Shared} (I : Inv X (pins ++ pl) σ H s) : Inv X pins σ H s := I.pins_of fun p hp => I.pin p (List.mem_append_right _ (List.mem_append_left _ hp))
theorem ps_for {iter : Expr} {body : List Stmt} {wi : TI} {g : TG} {tb : TS} {pos : Pos} (hp : PassesOwn (model X.prog X.w) X.A X.env X.xe) (hc : X.calm = true) (hi : PI X tg iter wi) (hg : PG X tg g) (hb : PSs X body tb)
    (hs : ∀ x, foldedSetIterable iter X.env x = pure x := by intro _; rfl) : PS X (.For tg iter body [] pos) (tFor wi g tb) := by
  intro pins s σ H D I h
  refine wpAny_For (thn (hi pins s σ H _ I h) fun v s1 h1 => thn h1 fun itv s2 h2 => ?_) hs
  obtain ⟨it, fp, tn, J, H2, e, I2, T, st2, f2, W, ⟨m0, w0⟩, turn⟩ := h2
  subst e
  -- what stays true of the iterator's objects through the loop
  have stat : ∀ {H' : Hp}, (∀ b ∈ fp, H' b = none) → ∀ b ∈ fp, FpOk X pins H' b := fun hn b hb => ⟨hn b hb, (f2 b hb).2⟩
  refine codeAny_forLoop_any (fun n s' => ∃ i σ' H', Inv X pins σ' H' s' ∧ tn i s'.heap ∧ (∀ b ∈ fp, H' b = none) ∧ W i n σ' H') ?_ m0 ⟨0, σ, H2, I2, st2, fun b hb => (f2 b hb).1, w0⟩
  rintro n s3 ⟨i, σ3, H3, I3, st3, fr3, w3⟩
  rcases turn i n σ3 H3 w3 with ⟨stop, qn⟩ | ⟨go, N, hN, step⟩
  · refine wpAny_passesOwn hp (thn (T.done X rfl rfl rfl hc i pins s3 σ3 H3 X.xe I3 (stat fr3) st3 stop) fun r s4 ⟨hr, I4⟩ => ?_)
    subst hr
    exact wpAny_execs_nil ⟨σ3, H3, I4, qn⟩
  · refine wpAny_passesOwn hp (thn (T.item X rfl rfl rfl hc i pins s3 σ3 H3 X.xe I3 (stat fr3) st3 go) fun r s4 ⟨u, hr, h4⟩ => ?_)
    subst hr
    refine wpAny_passesOwn hp (thn h4 fun _ s5 ⟨x, H5, I5, r5, y5, st5, fr5⟩ => ?_)
    have I5' := I5.pinned (stat fr5) (T.obj _ _ st5)
    refine wpAny_passesOwn hp (thn (hg _ s5 σ3 H5 x u _ I5' r5 (step x H5 y5)) fun _ s6 ⟨σ6, H6, I6, q6⟩ => ?_)
    refine wpAny_passesOwn hp (thn (hb _ s6 σ6 H6 _ I6 q6) fun f s7 q7 => ?_)
    have again : ∀ {σ7 : St} {H7 : Hp}, Inv X (pins ++ pinsAt fp s5.heap) σ7 H7 s7 → N σ7 H7 → ∃ m, m < n ∧ ∃ i σ' H', Inv X pins σ' H' s7 ∧ tn i s7.heap ∧ (∀ b ∈ fp, H' b = none) ∧ W i m σ' H' := fun {σ7 H7} I7 n7 => by
      obtain ⟨m', hm, w7⟩ := hN σ7 H7 n7
      refine ⟨m', hm, i + 1, σ7, H7, I7.unpinned, T.keep _ _ _ st5 fun b hb o e => (I7.pin (b, o) (List.mem_append_right _ (List.mem_append_right _ (mem_pinsAt hb e)))).1, fun b hb => ?_, w7⟩
      obtain ⟨o, e, d⟩ := T.obj _ _ st5 b hb
      exact (I7.pin (b, o) (List.mem_append_right _ (List.mem_append_right _ (mem_pinsAt hb e)))).2.1
    cases f with
    | next => obtain ⟨σ7, H7, I7, n7⟩ := q7; exact again I7 n7
    | cont => obtain ⟨σ7, H7, I7, n7⟩ := q7; exact again I7 n7
    | brk => obtain ⟨σ7, H7, I7, q7⟩ := q7; exact ⟨σ7, H7, I7.unpinned, q7⟩
    | ret v => obtain ⟨x7, σ7, H7, I7, r7, q7⟩ := q7; exact ⟨x7, σ7, H7, I7.unpinned, r7, q7⟩
end

/-! ### the forms one uses -/
/-- over a list that the body leaves as it is -/
theorem for_list {K : PySem.W.Frag} {a : Addr} {xs : List V} {g : TG} {tb : TS} {D : Ends} {σ : St} {H : Hp} (Pv : Nat → St → Hp → Prop) (h0 : Pv 0 σ H) (hl : ∀ i σ H, i ≤ xs.length → Pv i σ H → SqL K H a xs)
    (hs : ∀ i x σ H, xs[i]? = some x → Pv i σ H → g x σ H fun σ2 H2 => tb { D with nx := Pv (i + 1), ct := Pv (i + 1), bk := D.nx } σ2 H2) (hd : ∀ σ H, Pv xs.length σ H → D.nx σ H) :
    ∃ W : Nat → Nat → St → Hp → Prop, (∃ m, W 0 m σ H) ∧ ∀ i m σ H, W i m σ H →
      ((Itl K a).stop i H ∧ D.nx σ H) ∨ ((Itl K a).go i H ∧ ∃ N : St → Hp → Prop, (∀ σ' H', N σ' H' → ∃ m', m' < m ∧ W (i + 1) m' σ' H') ∧ ∀ x H', (Itl K a).yld i H x H' → g x σ H' fun σ2 H2 => tb { D with nx := N, ct := N, bk := D.nx } σ2 H2) := by
  refine ⟨fun i m σ H => m = xs.length - i ∧ i ≤ xs.length ∧ Pv i σ H, ⟨xs.length, by simp, Nat.zero_le _, h0⟩, ?_⟩
  rintro i m σ H ⟨rfl, hi, p⟩
  have q := hl i σ H hi p
  by_cases hlt : i < xs.length
  · refine .inr ⟨⟨xs, xs[i], q, by simp [hlt]⟩, Pv (i + 1), fun σ' H' p' => ⟨xs.length - (i + 1), by omega, rfl, hlt, p'⟩, fun x H' y => ?_⟩
    obtain ⟨e, y⟩ := y
    subst e
    exact hs i x σ _ (y xs q) p
  · have e : i = xs.length := by omega
    subst e
    exact .inl ⟨⟨xs, q, Nat.le_refl _⟩, hd σ H p⟩
theorem for_tup {K : PySem.W.Frag} {a : Addr} {xs : List V} {g : TG} {tb : TS} {D : Ends} {σ : St} {H : Hp} (Pv : Nat → St → Hp → Prop) (h0 : Pv 0 σ H) (hl : ∀ i σ H, i ≤ xs.length → Pv i σ H → SqT K H a xs)
    (hs : ∀ i x σ H, xs[i]? = some x → Pv i σ H → g x σ H fun σ2 H2 => tb { D with nx := Pv (i + 1), ct := Pv (i + 1), bk := D.nx } σ2 H2) (hd : ∀ σ H, Pv xs.length σ H → D.nx σ H) :
    ∃ W : Nat → Nat → St → Hp → Prop, (∃ m, W 0 m σ H) ∧ ∀ i m σ H, W i m σ H →
      ((Itt K a).stop i H ∧ D.nx σ H) ∨ ((Itt K a).go i H ∧ ∃ N : St → Hp → Prop, (∀ σ' H', N σ' H' → ∃ m', m' < m ∧ W (i + 1) m' σ' H') ∧ ∀ x H', (Itt K a).yld i H x H' → g x σ H' fun σ2 H2 => tb { D with nx := N, ct := N, bk := D.nx } σ2 H2) := by
  refine ⟨fun i m σ H => m = xs.length - i ∧ i ≤ xs.length ∧ Pv i σ H, ⟨xs.length, by simp, Nat.zero_le _, h0⟩, ?_⟩
  rintro i m σ H ⟨rfl, hi, p⟩
  have q := hl i σ H hi p
  by_cases hlt : i < xs.length
  · refine .inr ⟨⟨xs, xs[i], q, by simp [hlt]⟩, Pv (i + 1), fun σ' H' p' => ⟨xs.length - (i + 1), by omega, rfl, hlt, p'⟩, fun x H' y => ?_⟩
    obtain ⟨e, y⟩ := y
    subst e
    exact hs i x σ _ (y xs q) p
  · have e : i = xs.length := by omega
    subst e
    exact .inl ⟨⟨xs, q, Nat.le_refl _⟩, hd σ H p⟩
theorem for_range {lo : Int} {n : Nat} {g : TG} {tb : TS} {D : Ends} {σ : St} {H : Hp} (Pv : Nat → St → Hp → Prop) (h0 : Pv 0 σ H)
    (hs : ∀ i σ H, i < n → Pv i σ H → g (.int (lo + i)) σ H fun σ2 H2 => tb { D with nx := Pv (i + 1), ct := Pv (i + 1), bk := D.nx } σ2 H2) (hd : ∀ σ H, Pv n σ H → D.nx σ H) :
    ∃ W : Nat → Nat → St → Hp → Prop, (∃ m, W 0 m σ H) ∧ ∀ i m σ H, W i m σ H →
      ((Itr lo n).stop i H ∧ D.nx σ H) ∨ ((Itr lo n).go i H ∧ ∃ N : St → Hp → Prop, (∀ σ' H', N σ' H' → ∃ m', m' < m ∧ W (i + 1) m' σ' H') ∧ ∀ x H', (Itr lo n).yld i H x H' → g x σ H' fun σ2 H2 => tb { D with nx := N, ct := N, bk := D.nx } σ2 H2) := by
  refine ⟨fun i m σ H => m = n - i ∧ i ≤ n ∧ Pv i σ H, ⟨n, by simp, Nat.zero_le _, h0⟩, ?_⟩
  rintro i m σ H ⟨rfl, hi, p⟩
  by_cases hlt : i < n
  · refine .inr ⟨hlt, Pv (i + 1), fun σ' H' p' => ⟨n - (i + 1), by omega, rfl, hlt, p'⟩, fun x H' y => ?_⟩
    obtain ⟨e, y⟩ := y
    subst e y
    exact hs i σ _ hlt p
  · have e : i = n := by omega
    subst e
    exact .inl ⟨Nat.le_refl _, hd σ H p⟩
end L2

namespace L2
open PySem PySem.Spec PyProof.Rows

abbrev R2 := V → V → Hp → VK → Prop
/-- a two-place operation on values: f is binaryOp op, inplaceOp op or compareOp op -/
def OpR (X : Cx) (f : Value → Value → Sem Value) (r : R2) : Prop :=
  ∀ (pins : List (Addr × Obj)) (s : Shared) (σ : St) (H : Hp) (x y : V) (v u : Value) (Q : VK), Inv X pins σ H s → RelV x v → RelV y u → r x y H Q →
    wpAny (model X.prog X.w) X.A (f v u) (EP X pins σ Q) X.xe s
/-- a one-place operation -/
def UnR (X : Cx) (f : Value → Sem Value) (r : V → Hp → VK → Prop) : Prop :=
  ∀ (pins : List (Addr × Obj)) (s : Shared) (σ : St) (H : Hp) (x : V) (v : Value) (Q : VK), Inv X pins σ H s → RelV x v → r x H Q →
    wpAny (model X.prog X.w) X.A (f v) (EP X pins σ Q) X.xe s
/-- a call of a value that is known (a builtin, a type) with values -/
def CallR (X : Cx) (f : Value) (r : List V → Hp → VK → Prop) : Prop :=
  ∀ (pins : List (Addr × Obj)) (s : Shared) (σ : St) (H : Hp) (xs : List V) (us : List Value) (Q : VK), Inv X pins σ H s → Vals xs us → r xs H Q →
    wpAny (model X.prog X.w) X.A (call f us) (EP X pins σ Q) X.xe s
/-- a value's truth -/
def TruR (X : Cx) (r : V → Hp → (Bool → Hp → Prop) → Prop) : Prop :=
  ∀ (pins : List (Addr × Obj)) (s : Shared) (σ : St) (H : Hp) (x : V) (v : Value) (Q : Bool → Hp → Prop), Inv X pins σ H s → RelV x v → r x H Q →
    wpAny (model X.prog X.w) X.A (truthy v) (TP X pins σ Q) X.xe s

def tOp (r : R2) (ta tb : TE) : TE := fun σ H Q => ta σ H fun x H1 => tb σ H1 fun y H2 => r x y H2 Q
def tUn (r : V → Hp → VK → Prop) (ta : TE) : TE := fun σ H Q => ta σ H fun x H1 => r x H1 Q
/-- ints in, under C, and a value out -/
def rI (C : Int → Int → Prop) (g : Int → Int → V) : R2 := fun x y H Q => ∃ i j, x = .int i ∧ y = .int j ∧ C i j ∧ Q (g i j) H
def rI0 (g : Int → Int → V) : R2 := fun x y H Q => ∃ i j, x = .int i ∧ y = .int j ∧ Q (g i j) H
def rU (g : Int → V) : V → Hp → VK → Prop := fun x H Q => ∃ i, x = .int i ∧ Q (g i) H

section
variable {X : Cx} {a b c : Expr} {ta tb tc : TE} {pos : Pos}

theorem binT (ha : PE X a ta) (hb : PE X b tb) {pins : List (Addr × Obj)} {s : Shared} {σ : St} {H : Hp} {R : V → V → Hp → Prop} (I : Inv X pins σ H s)
    (h : ta σ H fun x H1 => tb σ H1 fun y H2 => R x y H2) {Q : Value → Shared → Prop} {f : Value → Value → Sem Value}
    (hf : ∀ v u s2 x y H2, Inv X pins σ H2 s2 → RelV x v → RelV y u → R x y H2 → wpAny (model X.prog X.w) X.A (f v u) Q X.xe s2) :
    wpAny (model X.prog X.w) X.A (eval a X.env) (fun v s₁ => wpAny (model X.prog X.w) X.A (eval b X.env) (fun u s₂ => wpAny (model X.prog X.w) X.A (f v u) Q X.xe s₂) X.xe s₁) X.xe s := by
  refine thn (ha pins s σ H _ I h) fun v s1 ⟨x, H1, I1, r1, q1⟩ => ?_
  refine thn (hb pins s1 σ H1 _ I1 q1) fun u s2 ⟨y, H2, I2, r2, q2⟩ => ?_
  exact hf v u s2 x y H2 I2 r1 r2 q2

theorem pe_op {op : Operator} {r : R2} (ho : OpR X (binaryOp op) r) (ha : PE X a ta) (hb : PE X b tb) : PE X (.BinOp a op b pos) (tOp r ta tb) := by
  intro pins s σ H Q I h
  exact wpAny_BinOp (binT ha hb I h fun v u s2 x y H2 I2 rx ry q => ho pins s2 σ H2 x y v u Q I2 rx ry q)
theorem pe_un {op : UnaryOp} {r : V → Hp → VK → Prop} (ho : UnR X (unaryOp op) r) (ha : PE X a ta) : PE X (.UnaryOp op a pos) (tUn r ta) := by
  intro pins s σ H Q I h
  exact UnaryOp_ (thn (ha pins s σ H _ I h) fun v s1 ⟨x, H1, I1, r1, q1⟩ => ho pins s1 σ H1 x v Q I1 r1 q1)
/-! ### ints -/
theorem opI {f : Value → Value → Sem Value} {C : Int → Int → Prop} {g : Int → Int → Int}
    (rule : ∀ (i j : Int) (t u : Tok) (s : Shared) (Q : Value → Shared → Prop) (E : Value → Shared → Prop), C i j → Q (.int (g i j) s.toks) { s with toks := s.toks + 1 } → wpAny (model X.prog X.w) X.A (f (.int i t) (.int j u)) Q E s) :
    OpR X f (rI C fun i j => .int (g i j)) := by
  intro pins s σ H x y v u Q I rx ry h
  obtain ⟨i, j, rfl, rfl, hc, q⟩ := h
  obtain ⟨t, rfl⟩ := rx
  obtain ⟨t', rfl⟩ := ry
  exact rule i j t t' s _ _ hc ⟨.int (g i j), H, I.tok _, ⟨_, rfl⟩, q⟩
theorem opI0 {f : Value → Value → Sem Value} {g : Int → Int → Int}
    (rule : ∀ (i j : Int) (t u : Tok) (s : Shared) (Q : Value → Shared → Prop) (E : Value → Shared → Prop), Q (.int (g i j) s.toks) { s with toks := s.toks + 1 } → wpAny (model X.prog X.w) X.A (f (.int i t) (.int j u)) Q E s) :
    OpR X f (rI0 fun i j => .int (g i j)) := by
  intro pins s σ H x y v u Q I rx ry h
  obtain ⟨i, j, rfl, rfl, q⟩ := h
  obtain ⟨t, rfl⟩ := rx
  obtain ⟨t', rfl⟩ := ry
  exact rule i j t t' s _ _ ⟨.int (g i j), H, I.tok _, ⟨_, rfl⟩, q⟩
theorem opB0 {f : Value → Value → Sem Value} {g : Int → Int → Bool}
    (rule : ∀ (i j : Int) (t u : Tok) (s : Shared) (Q : Value → Shared → Prop) (E : Value → Shared → Prop), Q (.bool (g i j)) s → wpAny (model X.prog X.w) X.A (f (.int i t) (.int j u)) Q E s) :
    OpR X f (rI0 fun i j => .bl (g i j)) := by
  intro pins s σ H x y v u Q I rx ry h
  obtain ⟨i, j, rfl, rfl, q⟩ := h
  obtain ⟨t, rfl⟩ := rx
  obtain ⟨t', rfl⟩ := ry
  exact rule i j t t' s _ _ ⟨.bl (g i j), H, I, rfl, q⟩

def CDiv (i j : Int) : Prop := 0 < j ∧ j < 1073741824
def CDivN (i j : Int) : Prop := j ≠ 0 ∧ j.natAbs < 1073741824
def CPow (i j : Int) : Prop := 0 ≤ j ∧ j ≤ 1000000 ∧ i.natAbs < 2 ^ 64
def CMul (i j : Int) : Prop := (-(2 ^ 64) < i ∧ i < 2 ^ 64) ∨ (-(2 ^ 64) < j ∧ j < 2 ^ 64)
theorem CMul.ok {i j : Int} (h : CMul i j) : IntMulOk i j := by
  rcases h with ⟨h1, h2⟩ | ⟨h1, h2⟩
  · exact .of_left (intBits_le_64 h1 h2)
  · exact .of_right (intBits_le_64 h1 h2)
theorem op_add : OpR X (binaryOp .Add) (rI0 fun i j => .int (i + j)) := opI0 fun _ _ _ _ _ _ _ q => add_int q
theorem op_sub : OpR X (binaryOp .Sub) (rI0 fun i j => .int (i - j)) := opI0 fun _ _ _ _ _ _ _ q => sub_int q
theorem op_mul : OpR X (binaryOp .Mult) (rI CMul fun i j => .int (i * j)) := opI fun _ _ _ _ _ _ _ hc q => mul_int q hc.ok
/-- // by a positive divisor -/
theorem op_fdiv : OpR X (binaryOp .FloorDiv) (rI CDiv fun i j => .int (i / j)) := opI fun i j _ _ _ _ _ hc q => by
  have h1 : (0 : Int) < j := hc.1
  have h2 : j < 1073741824 := hc.2
  exact floordiv_int (by omega) (by rw [Int.fdiv_eq_ediv_of_nonneg i (by omega)]; exact q) (.inl (PyProof.noPylong_small (by omega)))
/-- % by a positive divisor of any size -/
theorem op_mod : OpR X (binaryOp .Mod) (rI (fun _ j => 0 < j) fun i j => .int (i % j)) := opI fun i j _ _ _ _ _ hc q => by
  have h1 : (0 : Int) < j := hc
  exact mod_int' (by omega) (by rw [Int.fmod_eq_emod_of_nonneg i (by omega)]; exact q)
theorem unI {f : Value → Sem Value} {g : Int → Int}
    (rule : ∀ (i : Int) (t : Tok) (s : Shared) (Q : Value → Shared → Prop) (E : Value → Shared → Prop), Q (.int (g i) s.toks) { s with toks := s.toks + 1 } → wpAny (model X.prog X.w) X.A (f (.int i t)) Q E s) :
    UnR X f (rU fun i => .int (g i)) := by
  intro pins s σ H x v Q I rx h
  obtain ⟨i, rfl, q⟩ := h
  obtain ⟨t, rfl⟩ := rx
  exact rule i t s _ _ ⟨.int (g i), H, I.tok _, ⟨_, rfl⟩, q⟩
theorem un_neg : UnR X (unaryOp .USub) (rU fun i => .int (-i)) := unI fun _ _ _ _ _ q => neg_int q
/-! ### bools among ints: n += (a < b) -/
end

/-! ### comparisons -/
/-- the scalars that == tells apart as data does -/
def scal : V → V → Bool
  | .non, .non => true | .non, .int _ => true | .int _, .non => true | .non, .bl _ => true | .bl _, .non => true | .non, .str _ => true | .str _, .non => true
  | .int _, .int _ => true | .bl _, .bl _ => true | .str _, .str _ => true | .byt _, .byt _ => true
  | .int _, .str _ => true | .str _, .int _ => true | .bl _, .str _ => true | .str _, .bl _ => true
  | _, _ => false
def rEq : R2 := fun x y H Q => scal x y = true ∧ Q (.bl (decide (x = y))) H
def rNe : R2 := fun x y H Q => scal x y = true ∧ Q (.bl (!decide (x = y))) H

theorem dec_int {i j : Int} : decide (V.int i = V.int j) = (i == j) := by
  rw [Bool.eq_iff_iff]
  simp
theorem dec_bl {i j : Bool} : decide (V.bl i = V.bl j) = (i == j) := by
  rw [Bool.eq_iff_iff]
  simp
theorem dec_str {i j : Str} : decide (V.str i = V.str j) = (i == j) := by
  rw [Bool.eq_iff_iff]
  simp
theorem dec_byt {i j : Array UInt8} : decide (V.byt i = V.byt j) = (i.toList == j.toList) := by
  rw [Bool.eq_iff_iff]
  cases i
  cases j
  simp

section
variable {X : Cx} {a b c : Expr} {ta tb tc : TE} {pos : Pos}
theorem fin_bl {pins : List (Addr × Obj)} {σ : St} {H : Hp} {s : Shared} {Q : VK} {k k' : Bool} (I : Inv X pins σ H s) (q : Q (.bl k) H) (e : k = k') : EP X pins σ Q (.bool k') s := by
  subst e
  exact ⟨.bl k, H, I, rfl, q⟩
theorem op_eq : OpR X (compareOp .Eq) rEq := by
  intro pins s σ H x y v u Q I rx ry h
  obtain ⟨hs, q⟩ := h
  cases x with
  | non =>
    cases rx
    cases y with
    | non => cases ry; exact PySem.EqNone.eq_none_none (fin_bl I q (by simp))
    | bl j => cases ry; exact PySem.EqNone.eq_none_bool (fin_bl I q (by simp))
    | int j => obtain ⟨t', rfl⟩ := ry; exact PySem.EqNone.eq_none_int (fin_bl I q (by simp))
    | str j => obtain ⟨t', rfl⟩ := ry; exact PySem.EqNone.eq_none_str (fin_bl I q (by simp))
    | _ => exact absurd (show false = true from hs) Bool.false_ne_true
  | bl i =>
    cases rx
    cases y with
    | non => cases ry; exact PySem.EqNone.eq_bool_none (fin_bl I q (by simp))
    | bl j => cases ry; exact eq_bool (fin_bl I q dec_bl)
    | str j => obtain ⟨t', rfl⟩ := ry; exact PySem.EqMixed.eq_bool_str (fin_bl I q (by simp))
    | _ => exact absurd (show false = true from hs) Bool.false_ne_true
  | int i =>
    obtain ⟨t, rfl⟩ := rx
    cases y with
    | non => cases ry; exact PySem.EqNone.eq_int_none (fin_bl I q (by simp))
    | int j => obtain ⟨t', rfl⟩ := ry; exact eq_int (fin_bl I q dec_int)
    | str j => obtain ⟨t', rfl⟩ := ry; exact PySem.EqMixed.eq_int_str (fin_bl I q (by simp))
    | _ => exact absurd (show false = true from hs) Bool.false_ne_true
  | str i =>
    obtain ⟨t, rfl⟩ := rx
    cases y with
    | non => cases ry; exact PySem.EqNone.eq_str_none (fin_bl I q (by simp))
    | bl j => cases ry; exact PySem.EqMixed.eq_str_bool (fin_bl I q (by simp))
    | int j => obtain ⟨t', rfl⟩ := ry; exact PySem.EqMixed.eq_str_int (fin_bl I q (by simp))
    | str j => obtain ⟨t', rfl⟩ := ry; exact eq_str (fin_bl I q dec_str)
    | _ => exact absurd (show false = true from hs) Bool.false_ne_true
  | byt i =>
    obtain ⟨t, rfl⟩ := rx
    cases y with
    | byt j => obtain ⟨t', rfl⟩ := ry; exact PySem.W.eq_bytes (fin_bl I q dec_byt)
    | _ => exact absurd (show false = true from hs) Bool.false_ne_true
  | _ => cases y <;> exact absurd (show false = true from hs) Bool.false_ne_true
theorem op_ne : OpR X (compareOp .NotEq) rNe := by
  intro pins s σ H x y v u Q I rx ry h
  obtain ⟨hs, q⟩ := h
  cases x with
  | non =>
    cases rx
    cases y with
    | non => cases ry; exact PySem.EqNone.ne_none_none (fin_bl I q (by simp))
    | bl j => cases ry; exact PySem.EqNone.ne_none_bool (fin_bl I q (by simp))
    | int j => obtain ⟨t', rfl⟩ := ry; exact PySem.EqNone.ne_none_int (fin_bl I q (by simp))
    | str j => obtain ⟨t', rfl⟩ := ry; exact PySem.EqNone.ne_none_str (fin_bl I q (by simp))
    | _ => exact absurd (show false = true from hs) Bool.false_ne_true
  | bl i =>
    cases rx
    cases y with
    | non => cases ry; exact PySem.EqNone.ne_bool_none (fin_bl I q (by simp))
    | bl j => cases ry; exact ne_bool (fin_bl I q (congrArg not dec_bl))
    | str j => obtain ⟨t', rfl⟩ := ry; exact PySem.EqMixed.ne_bool_str (fin_bl I q (by simp))
    | _ => exact absurd (show false = true from hs) Bool.false_ne_true
  | int i =>
    obtain ⟨t, rfl⟩ := rx
    cases y with
    | non => cases ry; exact PySem.EqNone.ne_int_none (fin_bl I q (by simp))
    | int j => obtain ⟨t', rfl⟩ := ry; exact ne_int (fin_bl I q (congrArg not dec_int))
    | str j => obtain ⟨t', rfl⟩ := ry; exact PySem.EqMixed.ne_int_str (fin_bl I q (by simp))
    | _ => exact absurd (show false = true from hs) Bool.false_ne_true
  | str i =>
    obtain ⟨t, rfl⟩ := rx
    cases y with
    | non => cases ry; exact PySem.EqNone.ne_str_none (fin_bl I q (by simp))
    | bl j => cases ry; exact PySem.EqMixed.ne_str_bool (fin_bl I q (by simp))
    | int j => obtain ⟨t', rfl⟩ := ry; exact PySem.EqMixed.ne_str_int (fin_bl I q (by simp))
    | str j => obtain ⟨t', rfl⟩ := ry; exact ne_str (fin_bl I q (congrArg not dec_str))
    | _ => exact absurd (show false = true from hs) Bool.false_ne_true
  | byt i =>
    obtain ⟨t, rfl⟩ := rx
    cases y with
    | byt j => obtain ⟨t', rfl⟩ := ry; exact PySem.W.ne_bytes (fin_bl I q (congrArg not dec_byt))
    | _ => exact absurd (show false = true from hs) Bool.false_ne_true
  | _ => cases y <;> exact absurd (show false = true from hs) Bool.false_ne_true

theorem op_lt : OpR X (compareOp .Lt) (rI0 fun i j => .bl (decide (i < j))) := opB0 fun _ _ _ _ _ _ _ q => lt_int q
theorem op_le : OpR X (compareOp .LtE) (rI0 fun i j => .bl (decide (i ≤ j))) := opB0 fun _ _ _ _ _ _ _ q => le_int q
theorem op_gt : OpR X (compareOp .Gt) (rI0 fun i j => .bl (decide (j < i))) := opB0 fun _ _ _ _ _ _ _ q => gt_int q
theorem op_ge : OpR X (compareOp .GtE) (rI0 fun i j => .bl (decide (j ≤ i))) := opB0 fun _ _ _ _ _ _ _ q => ge_int q
/-- the one string within the other -/
theorem op_in_str : OpR X (compareOp .In) (fun x y H Q => ∃ i j, x = .str i ∧ y = .str j ∧ Q (.bl (!(Builtin.Str.occurrences j i 0 j.length 1).isEmpty)) H) := by
  intro pins s σ H x y v u Q I rx ry h
  obtain ⟨i, j, rfl, rfl, q⟩ := h
  obtain ⟨t, rfl⟩ := rx
  obtain ⟨t', rfl⟩ := ry
  exact in_str (fin_bl I q rfl)

/-- is, is not of two objects that are tracked lists or instances -/
def isObj : HO → Bool
  | .lst _ => true
  | .ins _ _ _ => true
  | _ => false
/-- two rules for one operation: by cases -/
theorem OpR.or {f : Value → Value → Sem Value} {r r' : R2} (h : OpR X f r) (h' : OpR X f r') : OpR X f (fun x y H Q => r x y H Q ∨ r' x y H Q) := by
  intro pins s σ H x y v u Q I rx ry q
  rcases q with q | q
  · exact h pins s σ H x y v u Q I rx ry q
  · exact h' pins s σ H x y v u Q I rx ry q

theorem nomark (b : Expr) {op : CmpOp} (h : op ≠ .In := by decide) (h2 : op ≠ .NotIn := by decide) : behindInMarks op b = false := by
  have e1 : (op == CmpOp.In) = false := by cases op <;> first | rfl | exact absurd rfl h
  have e2 : (op == CmpOp.NotIn) = false := by cases op <;> first | rfl | exact absurd rfl h2
  cases b <;> simp [behindInMarks, e1, e2]
/-- a comparison as a value; hm: nomark b, or (for in, not in) by with_unfolding_all rfl -/
theorem pe_cmpR {op : CmpOp} {r : R2} (ho : OpR X (compareOp op) r) (ha : PE X a ta) (hb : PE X b tb) (hm : behindInMarks op b = false) : PE X (.Compare a [op] [b] pos) (tOp r ta tb) := by
  intro pins s σ H Q I h
  exact wpAny_Compare1 (binT ha hb I h fun v u s2 x y H2 I2 rx ry q => ho pins s2 σ H2 x y v u Q I2 rx ry q) hm
/-- a reading of a value as a test -/
def tTest (t : TE) : TT := fun σ H Q => t σ H fun x H' => ∃ k, x = .bl k ∧ Q k H'
theorem pt_cmpR {op : CmpOp} {r : R2} (ho : OpR X (compareOp op) r) (ha : PE X a ta) (hb : PE X b tb) (hm : behindInMarks op b = false) : PT X (.Compare a [op] [b] pos) (tTest (tOp r ta tb)) := by
  intro pins s σ H Q I h
  refine wpAny_isTrue_Compare1 (thn (ha pins s σ H _ I h) fun v s1 ⟨x, H1, I1, r1, q1⟩ => thn (hb pins s1 σ H1 _ I1 q1) fun u s2 ⟨y, H2, I2, r2, q2⟩ =>
    thn (ho pins s2 σ H2 x y v u _ I2 r1 r2 q2) fun c s3 ⟨z, H3, I3, r3, k, e, q3⟩ => ?_) hm
  subst e
  cases r3
  exact wpAny_truthy_bool ⟨H3, I3, q3⟩
/-- a op1 b op2 c -/
def tChain (r r' : R2) (ta tb tc : TE) : TE := fun σ H Q => ta σ H fun x H1 => tb σ H1 fun y H2 => r x y H2 fun z H3 => ∃ k, z = .bl k ∧
  (if k = true then tc σ H3 fun w' H4 => r' y w' H4 Q else Q (.bl false) H3)
/-! ### truth -/
/-- a value's truth by the abstract heap -/
def TruV (K : PySem.W.Frag) (x : V) (H : Hp) (k : Bool) : Prop :=
  match x with
  | .non => k = false
  | .bl b => k = b
  | .int i => k = (i != 0)
  | .str y => y.length ≤ sizeLine ∧ k = ((y.length : Int) != 0)
  | .byt y => y.size ≤ sizeLine ∧ k = ((y.size : Int) != 0)
  | .ref p => (∃ xs, SqL K H p xs ∧ k = !xs.isEmpty) ∨ (∃ xs, SqT K H p xs ∧ k = !xs.isEmpty) ∨ ∃ kvs, H p = some (.dK kvs) ∧ k = !kvs.isEmpty
  | _ => False
theorem line63 : (sizeLine : Nat) < 2 ^ 63 := by rw [sizeLine_eq]; decide
/-! ### strs and bytes -/
theorem op_add_str : OpR X (binaryOp .Add) (fun x y H Q => ∃ i j, x = .str i ∧ y = .str j ∧ i.length + j.length ≤ sizeLine ∧ Q (.str (i ++ j)) H) := by
  intro pins s σ H x y v u Q I rx ry h
  obtain ⟨i, j, rfl, rfl, hz, q⟩ := h
  obtain ⟨t, rfl⟩ := rx
  obtain ⟨t', rfl⟩ := ry
  exact add_str (fun t' tk => ⟨.str (i ++ j), H, I.tok _, ⟨_, rfl⟩, q⟩) hz
def PlainIxT (b : Expr) : Prop := ∀ o i, subscripted b false o i = operate [o, i] (getItem o i)
/-! ### scalar builtins, by CallR -/
theorem vals1 {x : V} {us : List Value} (r : Vals [x] us) : ∃ u, us = [u] ∧ RelV x u := by
  cases r with
  | cons r1 r2 => cases r2; exact ⟨_, rfl, r1⟩
theorem vals2 {x y : V} {us : List Value} (r : Vals [x, y] us) : ∃ u w', us = [u, w'] ∧ RelV x u ∧ RelV y w' := by
  cases r with
  | cons r1 r2 =>
    cases r2 with
    | cons r3 r4 => cases r4; exact ⟨_, _, rfl, r1, r3⟩
theorem call_abs : CallR X (.builtin "abs") (fun xs H Q => ∃ i, xs = [.int i] ∧ Q (.int (if i < 0 then -i else i)) H) := by
  intro pins s σ H xs us Q I r h
  obtain ⟨i, rfl, q⟩ := h
  obtain ⟨u, rfl, t, rfl⟩ := vals1 r
  exact call_abs_int fun u tk => ⟨.int (if i < 0 then -i else i), H, I.tok _, ⟨_, rfl⟩, q⟩
theorem call_max2 (hc : X.calm = true) : CallR X (.builtin "max") (fun xs H Q => ∃ i j, xs = [.int i, .int j] ∧ Q (.int (if j > i then j else i)) H) := by
  intro pins s σ H xs us Q I r h
  obtain ⟨i, j, rfl, q⟩ := h
  obtain ⟨u, w', rfl, ⟨t, rfl⟩, ⟨t', rfl⟩⟩ := vals2 r
  refine max_two_ints (I.ok.hd hc) fun h' tk k => ⟨_, H, I.kept k, ?_, q⟩
  by_cases hj : j > i
  · rw [if_pos hj, if_pos hj]; exact ⟨_, rfl⟩
  · rw [if_neg hj, if_neg hj]; exact ⟨_, rfl⟩
/-- len of a str, a bytes, a list, a tuple -/
def LenV (K : PySem.W.Frag) (x : V) (H : Hp) (n : Nat) : Prop :=
  match x with
  | .str y => y.length ≤ sizeLine ∧ n = y.length
  | .byt y => y.size ≤ sizeLine ∧ n = y.size
  | .ref p => (∃ xs, SqL K H p xs ∧ n = xs.length) ∨ ∃ xs, SqT K H p xs ∧ n = xs.length
  | _ => False
end
end L2

namespace L2
open PySem PySem.Spec PyProof.Rows

/-! ### an instance, its attributes a map -/
structure ObjM (h : Heap) (x dx C : Addr) (mA : Str → Option Value) : Prop where
  obj : h.get? x = some (PySem.W.instObj C dx)
  ns : h.Ns1 dx mA
  ne : dx ≠ x

theorem lookIn_ns {h : Heap} {dx : Addr} {mA : Str → Option Value} (n : h.Ns1 dx mA) : ∃ od, h.get? dx = some od ∧ ∀ name, PySem.W.lookIn name od = some (mA name) := by
  obtain ⟨o, es, ep, ho, hd, hk, _, hm⟩ := n
  refine ⟨o, ho, fun name => ?_⟩
  have e := hm name
  unfold nsFind findBy at e
  rw [← Array.find?_toList] at e
  unfold PySem.W.lookIn
  rw [hd]
  dsimp only
  split
  · rename_i y q
    rw [q] at e
    exact congrArg some e
  · rename_i q
    rw [q] at e
    have a : es.toList.any (·.refKey) = false := by
      rw [List.any_eq_false]
      intro y hy
      obtain ⟨z, t, hkey⟩ := hk y (Array.mem_toList_iff.mp hy)
      simp [DictEntry.refKey, hkey]
    have a' : ¬ es.toList.any (·.refKey) = true := by rw [a]; exact Bool.false_ne_true
    rw [if_neg a']
    exact congrArg some e

theorem ObjM.look {h : Heap} {x dx C : Addr} {mA : Str → Option Value} (I : ObjM h x dx C mA) : ∃ od, PySem.W.InstAt h x (PySem.W.instObj C dx) C (some od) ∧ ∀ name, PySem.W.lookIn name od = some (mA name) :=
  let ⟨od, ho, hl⟩ := lookIn_ns I.ns
  ⟨od, ⟨I.obj, rfl, rfl, ho⟩, hl⟩

section
variable {prog : Program} {w : World} {A : Around} {E : Value → Shared → Prop} {s : Shared} {K : PySem.W.Frag} {x dx C f : Addr} {mA : Str → Option Value} {name : Str} {v : Value}

theorem get_map {expr : Bool} {Q : Value → Shared → Prop} (X : K.In s.heap) (I : ObjM s.heap x dx C mA) (hg : PySem.W.plainGet K C name = true) (hh : PySem.W.hasDictIn K C = true)
    (ha : PySem.W.findIn K (.ref C) name = some none) (hv : mA name = some v) (hv' : PySem.W.handedIn v = true) (h : Q v { s with toks := s.toks + 1 }) :
    wpAny (model prog w) A (getAttr (.ref x) name expr) Q E s := by
  obtain ⟨od, J, hl⟩ := I.look
  exact PySem.W.get_value X J (PySem.W.plainGet_of hg).1 (PySem.W.findObj_own hh ha rfl (by rw [hl, hv])) hv' h

theorem get_meth {pl : Sem Bool} {Q : Value × List Value → Shared → Prop} (X : K.In s.heap) (I : ObjM s.heap x dx C mA) (hg : PySem.W.plainGet K C name = true)
    (hf : PySem.W.findIn K (.ref C) name = some (some (.ref f))) (ht : PySem.W.isFn K (.ref f) = true) (hv : mA name = none) (h : Q (.ref f, [.ref x]) s) :
    wpAny (model prog w) A (getMethod (.ref x) name pl) Q E s := by
  obtain ⟨od, J, hl⟩ := I.look
  exact PySem.W.method_fn X J (PySem.W.plainGet_of hg).1 (PySem.W.plainGet_of hg).2 hf (beq_iff_eq.mp ht) (by show (PySem.W.lookIn name od).map (·.isSome) = some false; rw [hl, hv]; rfl) h

theorem set_map {ns : List Str} {Q : Unit → Shared → Prop} (X : K.In s.heap) (I : ObjM s.heap x dx C mA)
    (hs : PySem.W.findIn K (.ref C) "__setattr__" = some (some (.builtin "object.__setattr__"))) (hp : PySem.W.plainOver K C = true) (ht : PySem.W.takerIn K C name = some none) (hh : PySem.W.hasDictIn K C = true)
    (hw : PySem.Within mA ns) (hsz : ns.length ≤ sizeLine)
    (h : ∀ h', ObjM h' x dx C (fun y => if y = name then some v else mA y) → Heap.SameBut dx s.heap h' → Q () { s with heap := h', toks := s.toks + 2 }) :
    wpAny (model prog w) A (setAttr (.ref x) name v) Q E s := by
  obtain ⟨od, J, hl⟩ := I.look
  refine PySem.W.set_plain X J hs (PySem.W.osa_open (s := { s with toks := s.toks + 1 }) (r := none) X J hp ht fun b => ?_)
  obtain ⟨cd, hc, hd'⟩ := PySem.W.any_some hh
  have hx : s.heap.get? x = some ⟨.ref C, some dx, .plain, #[]⟩ := I.obj
  refine wpAny_bind (wpAny_pure (wpAny_bind (wpAny_bind (wpAny_loadPart hx (wpAny_bind (PySem.W.Looks.here (s := { s with toks := s.toks + 1 }) (PySem.W.looks_clsIn X hc) ?_))))))
  rw [hd']
  refine wpAny_pure (a := some dx) (wpAny_bind (wpAny_pure (wpAny_bind ?_)))
  refine wpAny_nsSet1 (s := { s with toks := s.toks + 1 }) I.ns fun h' hn2 hs2 => ?_
  obtain ⟨oD, esD, epD, hoD, hdD, hcD⟩ := hn2.count (PySem.Within.cons name v hw)
  refine wpAny_bind (wpAny_lookBehind hoD (by rw [hdD]; exact pastItsLine_dict (Nat.le_trans hcD (by rw [List.length_cons]; omega))) ?_)
  exact wpAny_pure (h _ ⟨(hs2.2 _ (Ne.symm I.ne)).trans I.obj, hn2, I.ne⟩ hs2)

/-- C(..): the dict at the heap's end, the instance behind it; then its __init__ -/
theorem make_map {R : Result → Shared → Prop} {vs : List Value} {kw : List (Str × Value)} (X : K.In s.heap) (hm : PySem.W.makesIn K C = true)
    (hi : PySem.W.findIn K (.ref C) "__init__" = some (some (.ref f))) (hf : PySem.W.typeIn K (.ref f) = some (.type "function"))
    (h : codeAny (model prog w) (A.under (.builtin "type.__call__" ⟨.ref C :: vs, kw⟩)) (.call (.ref f) ⟨.ref (s.heap.objs.size + 1) :: vs, kw⟩) (PySem.W.InitBack (s.heap.objs.size + 1) R)
      { s with heap := (s.heap.push PySem.W.emptyDict).push (PySem.W.instObj C s.heap.objs.size) }) :
    codeAny (model prog w) A (.call (.ref C) ⟨vs, kw⟩) R s := by
  obtain ⟨hh, g, d, t, os⟩ := s
  exact PySem.W.make_core (PySem.W.makes_of X hm) (PySem.W.looks_findIn X hi) (fun self => PySem.W.bind_fn X self hf) (.inl rfl) h
end

/-! ### the attributes as a list of pairs -/
def putF (f : Str) (v : V) : List (Str × V) → List (Str × V)
  | [] => [(f, v)]
  | (g, x) :: r => if g = f then (g, v) :: r else (g, x) :: putF f v r
theorem lookup_putF (f g : Str) (v : V) : ∀ fs : List (Str × V), (putF f v fs).lookup g = if g = f then some v else fs.lookup g
  | [] => by
    show List.lookup g [(f, v)] = _
    by_cases h : g = f
    · have hb : (g == f) = true := beq_iff_eq.mpr h
      simp only [List.lookup, hb, if_pos h]
    · have hb : (g == f) = false := beq_eq_false_iff_ne.mpr h
      simp only [List.lookup, hb, if_neg h]
  | (k, x) :: r => by
    have ih := lookup_putF f g v r
    rw [show putF f v ((k, x) :: r) = (if k = f then (k, v) :: r else (k, x) :: putF f v r) from rfl]
    by_cases hk : k = f
    · rw [if_pos hk]
      by_cases h : g = k
      · have hb : (g == k) = true := beq_iff_eq.mpr h
        simp only [List.lookup, hb, if_pos (h.trans hk)]
      · have hb : (g == k) = false := beq_eq_false_iff_ne.mpr h
        simp only [List.lookup, hb, if_neg (fun e : g = f => h (e.trans hk.symm))]
    · rw [if_neg hk]
      by_cases h : g = k
      · have hb : (g == k) = true := beq_iff_eq.mpr h
        simp only [List.lookup, hb, if_neg (fun e : g = f => hk (h.symm.trans e))]
      · have hb : (g == k) = false := beq_eq_false_iff_ne.mpr h
        simp only [List.lookup, hb]
        exact ih
theorem keys_putF (f : Str) (v : V) : ∀ fs : List (Str × V), f ∈ (putF f v fs).map (·.1) ∧ ∀ g, g ∈ fs.map (·.1) → g ∈ (putF f v fs).map (·.1)
  | [] => ⟨by simp [putF], fun g h => by simp at h⟩
  | (k, x) :: r => by
    obtain ⟨i1, i2⟩ := keys_putF f v r
    rw [show putF f v ((k, x) :: r) = (if k = f then (k, v) :: r else (k, x) :: putF f v r) from rfl]
    by_cases hk : k = f
    · rw [if_pos hk]
      subst hk
      exact ⟨by simp, fun g h => by simpa using h⟩
    · rw [if_neg hk]
      refine ⟨?_, fun g h => ?_⟩
      · rw [List.map_cons]
        exact List.mem_cons_of_mem _ i1
      · rw [List.map_cons] at h ⊢
        rcases List.mem_cons.mp h with e | e
        · exact List.mem_cons.mpr (.inl e)
        · exact List.mem_cons_of_mem _ (i2 g e)
theorem length_putF (f : Str) (v : V) : ∀ fs : List (Str × V), (putF f v fs).length ≤ fs.length + 1
  | [] => by simp [putF]
  | (k, x) :: r => by
    have ih := length_putF f v r
    rw [show putF f v ((k, x) :: r) = (if k = f then (k, v) :: r else (k, x) :: putF f v r) from rfl]
    by_cases hk : k = f
    · rw [if_pos hk, List.length_cons, List.length_cons]; omega
    · rw [if_neg hk, List.length_cons, List.length_cons]; omega

theorem RelO.some_of {v : V} {o : Option Value} (r : RelO (some v) o) : ∃ u, o = some u ∧ RelV v u := by
  cases o with
  | none => exact (show False from r).elim
  | some u => exact ⟨u, rfl, r⟩
theorem RelO.none_of {o : Option Value} (r : RelO none o) : o = none := by
  cases o with
  | none => rfl
  | some u => exact (show False from r).elim
theorem handed_of {v : V} {u : Value} (r : RelV v u) : PySem.W.handedIn u = true := by
  cases v with
  | non => cases (show u = Value.none from r); rfl
  | bl b => cases (show u = Value.bool b from r); rfl
  | int i => obtain ⟨t, e⟩ := (show ∃ t, u = Value.int i t from r); cases e; rfl
  | str x => obtain ⟨t, e⟩ := (show ∃ t, u = Value.str x t from r); cases e; rfl
  | byt b => obtain ⟨t, e⟩ := (show ∃ t, u = Value.bytes b t from r); cases e; rfl
  | flt b => obtain ⟨t, e⟩ := (show ∃ t, u = Value.float b t from r); cases e; rfl
  | ref a => cases (show u = Value.ref a from r); rfl
  | ty n => cases (show u = Value.type n from r); rfl

section
variable {P : Program} {w : World} {H H' : Hp} {h h' : Heap} {a C dx : Addr} {fs fs' : List (Str × V)}
theorem ins_get (hok : HOk P w H h) (e : H a = some (.ins C dx fs)) : ∃ mA, ObjM h a dx C mA ∧ (∀ f, RelO (fs.lookup f) (mA f)) ∧ PySem.Within mA (fs.map (·.1)) ∧ fs.length ≤ 1000 ∧ H dx = some (.own a) := by
  obtain ⟨d, z, ne, ob, mA, n, r, q⟩ := (show ObjOk P w H h a (.ins C dx fs) from hok a _ e)
  exact ⟨mA, ⟨ob, n, ne⟩, r, q, z, d⟩
end

/-! ### what of the text a class must have -/
structure Cls (K : PySem.W.Frag) (C : Addr) : Prop where
  pg : PySem.W.plainGet K C Str.empty = true
  hd : PySem.W.hasDictIn K C = true
  po : PySem.W.plainOver K C = true
  sa : PySem.W.findIn K (.ref C) "__setattr__" = some (some (.builtin "object.__setattr__"))
theorem Cls.get {K : PySem.W.Frag} {C : Addr} (c : Cls K C) (f : Str) : PySem.W.plainGet K C f = true := c.pg
/-- no class of it has the name -/
def NoAttr (K : PySem.W.Frag) (C : Addr) (f : Str) : Prop := PySem.W.findIn K (.ref C) f = some none
theorem NoAttr.taker {K : PySem.W.Frag} {C : Addr} {f : Str} (n : NoAttr K C f) : PySem.W.takerIn K C f = some none := by
  unfold PySem.W.takerIn
  rw [show PySem.W.findIn K (.ref C) f = some none from n]
  rfl
/-- a constant of the class -/
structure Con (K : PySem.W.Frag) (C : Addr) (f : Str) (v : V) (u : Value) : Prop where
  at_ : PySem.W.findIn K (.ref C) f = some (some u)
  rel : RelV v u
  get : PySem.W.specialIn K u "__get__" = some none
  cp : PySem.W.copiedNames.contains f = false
/-- a method: a plain def of the class or of one above it -/
structure Meth (K : PySem.W.Frag) (C : Addr) (m : Str) (f : Addr) : Prop where
  at_ : PySem.W.findIn K (.ref C) m = some (some (.ref f))
  fn : PySem.W.isFn K (.ref f) = true
  kp : PySem.W.keepIn K (.ref f) = true

section
variable {X : Cx} {pins : List (Addr × Obj)} {σ : St} {H : Hp} {s : Shared} {a C dx : Addr} {fs : List (Str × V)} {f : Str} {v : V} {A : Around} {E : Value → Shared → Prop}

theorem getattr_ok {b : Bool} {Q : Value → Shared → Prop} (I : Inv X pins σ H s) (e : H a = some (.ins C dx fs)) (c : Cls X.K C) (n : NoAttr X.K C f) (l : fs.lookup f = some v)
    (h : ∀ u s', Inv X pins σ H s' → RelV v u → Q u s') : wpAny (model X.prog X.w) A (getAttr (.ref a) f b) Q E s := by
  obtain ⟨mA, O, r, _, _, _⟩ := ins_get I.hok e
  obtain ⟨u, hu, ru⟩ := RelO.some_of (v := v) (o := mA f) (by rw [← l]; exact r f)
  exact get_map I.kIn O (c.get f) c.hd n hu (handed_of ru) (h u _ (I.tok _) ru)

theorem getmeth_ok {m : Str} {g : Addr} {pl : Sem Bool} {Q : Value × List Value → Shared → Prop} (I : Inv X pins σ H s) (e : H a = some (.ins C dx fs)) (c : Cls X.K C) (k : Meth X.K C m g) (l : fs.lookup m = none)
    (h : Q (.ref g, [.ref a]) s) : wpAny (model X.prog X.w) A (getMethod (.ref a) m pl) Q E s := by
  obtain ⟨mA, O, r, _, _, _⟩ := ins_get I.hok e
  have hn : mA m = none := RelO.none_of (by rw [← l]; exact r m)
  exact get_meth I.kIn O (c.get m) k.at_ k.fn hn h

theorem setattr_ok {y : V} {u : Value} {Q : Unit → Shared → Prop} (I : Inv X pins σ H s) (e : H a = some (.ins C dx fs)) (c : Cls X.K C) (n : NoAttr X.K C f) (hl : fs.length < 1000) (ry : RelV y u)
    (h : ∀ s', Inv X pins σ (upd H a (.ins C dx (putF f y fs))) s' → Q () s') : wpAny (model X.prog X.w) A (setAttr (.ref a) f u) Q E s := by
  obtain ⟨mA, O, r, wi, _, ho⟩ := ins_get I.hok e
  have hz : (fs.map (·.1)).length ≤ sizeLine := by rw [List.length_map, sizeLine_eq]; omega
  refine set_map I.kIn O c.sa c.po n.taker c.hd wi hz fun h' O' sb => h _ ?_
  have hd : ∃ o, h'.get? dx = some o := let ⟨o, _, _, e', _⟩ := O'.ns; ⟨o, e'⟩
  refine I.write (x := a) (e := dx) (by rw [e]; exact True.intro) (.inr ho) (fun b q hb z => (sb.2 b hb).trans z) hd ?_
  refine ⟨by rw [upd_ne O.ne]; exact ho, ?_, O.ne, O'.obj, _, O'.ns, fun g => ?_, fun g hg => ?_⟩
  · have := length_putF f y fs; omega
  · show RelO ((putF f y fs).lookup g) (if g = f then some u else mA g)
    rw [lookup_putF]
    by_cases q : g = f
    · rw [if_pos q, if_pos q]; exact ry
    · rw [if_neg q, if_neg q]; exact r g
  · by_cases q : g = f
    · rw [q]; exact (keys_putF f y fs).1
    · refine (keys_putF f y fs).2 g (wi g fun z => hg ?_)
      show (if g = f then some u else mA g) = none
      rw [if_neg q]; exact z

/-- a new instance, tracked, without attributes -/
theorem Inv.made (I : Inv X pins σ H s) : Inv X pins σ (upd (upd H s.heap.objs.size (.own (s.heap.objs.size + 1))) (s.heap.objs.size + 1) (.ins C s.heap.objs.size []))
    { s with heap := (s.heap.push PySem.W.emptyDict).push (PySem.W.instObj C s.heap.objs.size) } := by
  have e1 : (s.heap.push PySem.W.emptyDict).get? s.heap.objs.size = some PySem.W.emptyDict := Heap.get?_push_size s.heap rfl
  have e2 : ((s.heap.push PySem.W.emptyDict).push (PySem.W.instObj C s.heap.objs.size)).get? (s.heap.objs.size + 1) = some (PySem.W.instObj C s.heap.objs.size) := by
    have := Heap.get?_push_size (s.heap.push PySem.W.emptyDict) (o := PySem.W.instObj C s.heap.objs.size) rfl
    rwa [Heap.size_push] at this
  have e3 : (s.heap.push PySem.W.emptyDict).Ns s.heap.objs.size (fun _ => none) := ⟨PySem.W.emptyDict, #[], _, e1, rfl, (fun e he => absurd he (by simp)), fun _ => rfl⟩
  have I1 := I.laid (a := s.heap.objs.size) (o := .own (s.heap.objs.size + 1)) (h' := s.heap.push PySem.W.emptyDict) (t' := s.toks) (fun b u q => Heap.get?_push_of_some _ q) (Nat.le_refl _) ⟨_, e1⟩
  refine I1.laid (a := s.heap.objs.size + 1) (o := .ins C s.heap.objs.size []) (t' := s.toks) (fun b u q => Heap.get?_push_of_some _ q) (Nat.le_of_eq (Heap.size_push _ _)) ?_
  have ne : s.heap.objs.size ≠ s.heap.objs.size + 1 := Nat.ne_of_lt (Nat.lt_succ_self _)
  refine ⟨by rw [upd_ne ne, upd_same], Nat.zero_le _, ne, e2, fun _ => none, (Heap.Ns1.of_empty e3).at fun o q => Heap.get?_push_of_some _ q, fun _ => True.intro, fun y hy => absurd rfl hy⟩

/-- e.f where nothing but the object is asked: through attributeBase (super) and the last hold -/
theorem attr_of {prog : Program} {w : World} {env : Env} {e : Expr} {f : Str} {pos : Pos} {s : Shared} {Q : Value → Shared → Prop} (hb : attributeBase e f env (eval e env) = eval e env)
    (h : wpAny (model prog w) A (eval e env) (fun o s₁ => wpAny (model prog w) A (getAttr o f true) Q E s₁) E s) : wpAny (model prog w) A (eval (.Attribute e f pos) env) Q E s :=
  Attribute_any_ h (by rw [arm_eval_Attribute, hb])
end

/-! ### readings and rules -/
/-- e.f, an attribute of the instance -/
def tFld (K : PySem.W.Frag) (ta : TE) (f : Str) : TE := fun σ H Q => ta σ H fun x H1 => ∃ a C dx fs v, x = .ref a ∧ H1 a = some (.ins C dx fs) ∧ Cls K C ∧ NoAttr K C f ∧ fs.lookup f = some v ∧ Q v H1
/-- e.f, a constant of the class -/
def tCon (K : PySem.W.Frag) (ta : TE) (f : Str) : TE := fun σ H Q => ta σ H fun x H1 => ∃ a C dx fs v u, x = .ref a ∧ H1 a = some (.ins C dx fs) ∧ Cls K C ∧ Con K C f v u ∧ fs.lookup f = none ∧ Q v H1
/-- e.f = value -/
def sFld (K : PySem.W.Frag) (ta tv : TE) (f : Str) : TS := fun D σ H => tv σ H fun y H1 => ta σ H1 fun x H2 => ∃ a C dx fs, x = .ref a ∧ H2 a = some (.ins C dx fs) ∧ Cls K C ∧ NoAttr K C f ∧ fs.length < 1000 ∧
  D.nx σ (upd H2 a (.ins C dx (putF f y fs)))
/-- an augmented operator on two values -/
def InOp (X : Cx) (op : Operator) (rd : V → V → Hp → VK → Prop) : Prop :=
  ∀ (pins : List (Addr × Obj)) (s : Shared) (σ : St) (H : Hp) (x y : V) (u v : Value) (Q : VK), Inv X pins σ H s → RelV x u → RelV y v → rd x y H Q → wpAny (model X.prog X.w) X.A (inplaceOp op u v) (EP X pins σ Q) X.xe s
/-- e.f op= value -/
def sFldAug (K : PySem.W.Frag) (ta tv : TE) (rd : V → V → Hp → VK → Prop) (f : Str) : TS := fun D σ H => ta σ H fun x H1 => ∃ a C dx fs v, x = .ref a ∧ H1 a = some (.ins C dx fs) ∧ Cls K C ∧ NoAttr K C f ∧ fs.lookup f = some v ∧
  tv σ H1 fun y H2 => rd v y H2 fun z H3 => ∃ dx' fs', H3 a = some (.ins C dx' fs') ∧ fs'.length < 1000 ∧ D.nx σ (upd H3 a (.ins C dx' (putF f z fs')))

section
variable {X : Cx} {o e value : Expr} {f : Str} {pos pos' tpos : Pos} {ta tv : TE}
theorem pe_fld (he : PE X e ta) (hb : attributeBase e f X.env (eval e X.env) = eval e X.env) : PE X (.Attribute e f pos) (tFld X.K ta f) := by
  intro pins s σ H Q I h
  refine attr_of hb (thn (he pins s σ H _ I h) fun u s1 ⟨x, H1, I1, rx, a, C, dx, fs, v, ex, ea, c, n, l, q⟩ => ?_)
  subst ex
  obtain rfl : u = Value.ref a := rx
  exact getattr_ok I1 ea c n l fun u' s2 I2 ru => ⟨v, H1, I2, ru, q⟩
theorem ps_fld (ha : PE X o ta) (hv : PE X value tv) (hs : swapsWith value (some (.Attribute o f pos')) pos.line X.env = pure false) : PS X (.Assign [.Attribute o f pos'] value pos) (sFld X.K ta tv f) := by
  intro pins s σ H D I h
  refine plainObj_wpAny_Assign_Attribute (thn (hv pins s σ H _ I h) fun u s1 ⟨y, H1, I1, ry, q⟩ => thn (ha pins s1 σ H1 _ I1 q) fun ov s2 ⟨x, H2, I2, rx, a, C, dx, fs, ex, ea, c, n, l, q2⟩ => ?_) hs
  subst ex
  obtain rfl : ov = Value.ref a := rx
  exact setattr_ok I2 ea c n l ry fun s3 I3 => ⟨σ, _, I3, q2⟩
def rAdd : V → V → Hp → VK → Prop := fun x y H Q => ∃ i j, x = .int i ∧ y = .int j ∧ Q (.int (i + j)) H
def rSub : V → V → Hp → VK → Prop := fun x y H Q => ∃ i j, x = .int i ∧ y = .int j ∧ Q (.int (i - j)) H
end

/-! ### isinstance -/
section
variable {X : Cx} {pins : List (Addr × Obj)} {σ : St} {H : Hp} {s : Shared} {A : Around} {E : Value → Shared → Prop} {Q : Value → Shared → Prop} {c : Value} {b : Bool}
/-- the type of a value, as the fragment's deciders take it; for an instance its class -/
inductive TyOf (K : PySem.W.Frag) (H : Hp) : V → Value → Prop where
  | non : TyOf K H .non (.type "NoneType")
  | bl (x : Bool) : TyOf K H (.bl x) (.type "bool")
  | int (i : Int) : TyOf K H (.int i) (.type "int")
  | str (x : Str) : TyOf K H (.str x) (.type "str")
  | flt (x : UInt64) : TyOf K H (.flt x) (.type "float")
  | lst {a : Addr} {xs : List V} (e : H a = some (.lst xs)) : TyOf K H (.ref a) (.type "list")
  | frz {a : Addr} {o : Obj} {xs : List V} (e : H a = some (.frz o (.lst xs))) : TyOf K H (.ref a) (.type "list")
  | tup {a : Addr} {xs : List V} (e : H a = some (.tup xs)) : TyOf K H (.ref a) (.type "tuple")
  | dK {a : Addr} {kvs : List (Key × V)} (e : H a = some (.dK kvs)) : TyOf K H (.ref a) (.type "dict")
  | dT {a : Addr} {kvs : List (List Key × V)} (e : H a = some (.dT kvs)) : TyOf K H (.ref a) (.type "dict")
  | ins {a C dx : Addr} {fs : List (Str × V)} (e : H a = some (.ins C dx fs)) (cl : Cls K C) (ha : PySem.W.findIn K (.ref C) "__class__" = some (some (.builtin "object.__class__")))
      (hn : PySem.W.specialIn K (.builtin "object.__class__") "__get__" = some (some (.builtin "getset_descriptor.__get__"))) (htk : PySem.W.takesIn K (.builtin "object.__class__") = some true)
      (hm : PySem.W.mroIn K C (.type "object") = some true) : TyOf K H (.ref a) (.ref C)
/-- isinstance(x, c) for one class c, a built-in or an own one: kitOne's answer -/
theorem isinst_ok {x : V} {u t : Value} (I : Inv X pins σ H s) (rx : RelV x u) (ty : TyOf X.K H x t) (e : PySem.W.kitOne X.K t c = some b) (h : ∀ tk, Q (.bool b) { s with toks := tk }) :
    wpAny (model X.prog X.w) A (call (.builtin "isinstance") [u, c]) Q E s := by
  cases ty with
  | non => cases (show u = Value.none from rx); exact PySem.W.kia_one PySem.W.kitx_none I.kIn True.intro e (fun z => nomatch z) h
  | bl y => cases (show u = Value.bool y from rx); exact PySem.W.kia_one PySem.W.kitx_bool I.kIn True.intro e (fun z => nomatch z) h
  | int i => obtain ⟨t, q⟩ := (show ∃ t, u = Value.int i t from rx); cases q; exact PySem.W.kia_one PySem.W.kitx_int I.kIn True.intro e (fun z => nomatch z) h
  | str y => obtain ⟨t, q⟩ := (show ∃ t, u = Value.str y t from rx); cases q; exact PySem.W.kia_one PySem.W.kitx_str I.kIn True.intro e (fun z => nomatch z) h
  | flt y => obtain ⟨t, q⟩ := (show ∃ t, u = Value.float y t from rx); cases q; exact PySem.W.kia_one PySem.W.kitx_float I.kIn True.intro e (fun z => nomatch z) h
  | @lst a xs ea =>
    cases (show u = Value.ref a from rx)
    obtain ⟨_, _, n, _, h1⟩ := (show ObjOk X.prog X.w H s.heap a (.lst xs) from I.hok a _ ea)
    exact PySem.W.kia_one PySem.W.kitx_list I.kIn ⟨_, h1, rfl⟩ e (fun z => nomatch z) h
  | @frz a ob xs ea =>
    cases (show u = Value.ref a from rx)
    obtain ⟨_, _, _, n, _, h1⟩ := (show ObjOk X.prog X.w H s.heap a (.frz ob (.lst xs)) from I.hok a _ ea)
    exact PySem.W.kia_one PySem.W.kitx_list I.kIn ⟨_, h1, rfl⟩ e (fun z => nomatch z) h
  | @tup a xs ea =>
    cases (show u = Value.ref a from rx)
    obtain ⟨_, _, _, p⟩ := (show ObjOk X.prog X.w H s.heap a (.tup xs) from I.hok a _ ea)
    obtain ⟨o, h1, h2, _⟩ := p
    exact PySem.W.kia_one PySem.W.kitx_tuple I.kIn ⟨o, h1, h2⟩ e (fun z => nomatch z) h
  | @dK a kvs ea =>
    cases (show u = Value.ref a from rx)
    obtain ⟨_, _, vs, _, p⟩ := (show ObjOk X.prog X.w H s.heap a (.dK kvs) from I.hok a _ ea)
    obtain ⟨o, es, ep, h1, h2, _⟩ := p
    exact PySem.W.kia_one PySem.W.kitx_dict I.kIn ⟨o, h1, h2.1⟩ e (fun z => nomatch z) h
  | @dT a kvs ea =>
    cases (show u = Value.ref a from rx)
    obtain ⟨_, _, xs, _, o, es, ep, h1, h2, _⟩ := (show ObjOk X.prog X.w H s.heap a (.dT kvs) from I.hok a _ ea)
    exact PySem.W.kia_one PySem.W.kitx_dict I.kIn ⟨o, h1, h2.1⟩ e (fun z => nomatch z) h
  | @ins a C dx fs ea cl ha hn htk hm =>
    cases (show u = Value.ref a from rx)
    obtain ⟨mA, O, _⟩ := ins_get I.hok ea
    obtain ⟨od, J, _⟩ := O.look
    exact PySem.W.kia_one (PySem.W.kitx_own (cl.get _) cl.hd ha hn htk hm) I.kIn J e (fun z => nomatch z) h
end
end L2

namespace L2
open PySem PySem.Spec PyProof.Rows

/-! ### room -/
structure Room (k : Nat) (A : Around) : Prop where
  hd : A.handled = none
  dp : A.depth + 3 * k + 5 < recursionLimit
  un : A.units + 16 * k + 200 < cLine
theorem Room.mono {j k : Nat} {A : Around} (r : Room k A) (h : j ≤ k) : Room j A := ⟨r.hd, by have := r.dp; omega, by have := r.un; omega⟩
theorem Room.deeper {k : Nat} {A : Around} (r : Room (k + 1) A) (env : Env) : Room k (A.deeper env) :=
  ⟨r.hd, by have := r.dp; show A.depth + 1 + 3 * k + 5 < _; omega, by have := r.un; show A.units + 3 + 16 * k + 200 < _; omega⟩
theorem Room.in1 {k : Nat} {A : Around} (r : Room (k + 1) A) : Room k A.in1 :=
  ⟨r.hd, by have := r.dp; show A.depth + 3 * k + 5 < _; omega, by have := r.un; show A.units + 1 + 16 * k + 200 < _; omega⟩
theorem make_depth {A : Around} {C : Addr} {us : List Value} {kw : List (Str × Value)} : (A.under (.builtin "type.__call__" ⟨.ref C :: us, kw⟩)).depth = A.depth + 1 := by
  first | rfl | simp [Around.under, Code.weight, Code.isCreation, Code.isGuard, Code.isCaller, Code.frames, Code.isFrame, guardIds]
theorem make_units {A : Around} {C : Addr} {us : List Value} {kw : List (Str × Value)} : (A.under (.builtin "type.__call__" ⟨.ref C :: us, kw⟩)).units = A.units + 1 := by
  first | rfl | simp [Around.under, Code.cUnits, Code.frames, Code.isFrame]
theorem Room.make {k : Nat} {A : Around} (r : Room (k + 1) A) (C : Addr) (us : List Value) (kw : List (Str × Value)) : Room k (A.under (.builtin "type.__call__" ⟨.ref C :: us, kw⟩)) :=
  ⟨r.hd, by have := r.dp; rw [make_depth]; omega, by have := r.un; rw [make_units]; omega⟩
theorem Room.depth {k : Nat} {A : Around} (r : Room k A) : A.depth < recursionLimit := by have := r.dp; omega
theorem Room.units {k : Nat} {A : Around} (r : Room k A) : A.units + 64 < cLine := by have := r.un; omega
/-! ### argument lists and displays -/
def tNil : TA := fun _ H Q => Q [] H
def tCons (ta : TE) (tr : TA) : TA := fun σ H Q => ta σ H fun x H1 => tr σ H1 fun xs H2 => Q (x :: xs) H2
section
variable {X : Cx} {e : Expr} {es : List Expr} {te : TE} {t : TA} {pos : Pos}
theorem pa_nil : PA X [] tNil := fun _ _ _ _ H Q I h => Calls.spliced_nil ⟨[], H, I, .nil, h⟩
theorem pa_cons (ha : PE X e te) (hr : PA X es t) (hs : starEach (e :: es) X.env = (false, eval e X.env) :: starEach es X.env := by rfl) : PA X (e :: es) (tCons te t) := by
  intro pos pins s σ H Q I h
  rw [hs]
  show wpAny _ _ (spliced ((false, eval e X.env) :: backTo pos (starEach es X.env))) _ _ s
  refine Calls.spliced_cons (thn (ha pins s σ H _ I h) fun u s1 ⟨x, H1, I1, r1, q1⟩ => ?_)
  exact thn (hr pos pins s1 σ H1 _ I1 q1) fun us s2 ⟨xs, H2, I2, r2, q2⟩ => ⟨x :: xs, H2, I2, .cons r1 r2, q2⟩

/-- a tuple, a list of written items -/
def tTup (t : TA) : TE := fun σ H Q => t σ H fun xs H1 => xs.length ≤ sizeLine ∧ ∀ p, H1 p = none → Q (.ref p) (upd H1 p (.tup xs))
def tLst (t : TA) : TE := fun σ H Q => t σ H fun xs H1 => xs.length ≤ sizeLine ∧ ∀ p, H1 p = none → Q (.ref p) (upd H1 p (.lst xs))
theorem pe_tup {x1} (h : PA X es t) : PE X (.Tuple es x1 pos) (tTup t) := by
  intro pins s σ H Q I hq
  refine wpAny_Tuple_spliced (thn (h pos pins s σ H _ I hq) fun us s1 ⟨xs, H1, I1, r, z, q⟩ => ⟨by rw [← r.length]; exact z, ?_⟩)
  have hf : H1 s1.heap.objs.size = none := I1.hok.fresh (Nat.le_refl _)
  refine ⟨.ref s1.heap.objs.size, upd H1 s1.heap.objs.size (.tup xs), I1.laid (t' := s1.toks) (fun b u e => Heap.get?_push_of_some _ e) (Nat.le_refl _) ?_, rfl, q _ hf⟩
  exact ⟨z, us, r, ⟨_, Heap.get?_push_size _ rfl, rfl, _, rfl⟩⟩
theorem pe_lst (h : PA X es t) : PE X (.List es pos) (tLst t) := by
  intro pins s σ H Q I hq
  refine wpAny_List_spliced (thn (h pos pins s σ H _ I hq) fun us s1 ⟨xs, H1, I1, r, z, q⟩ => ⟨by rw [← r.length]; exact z, ?_⟩)
  have hf : H1 s1.heap.objs.size = none := I1.hok.fresh (Nat.le_refl _)
  refine ⟨.ref s1.heap.objs.size, upd H1 s1.heap.objs.size (.lst xs), I1.laid (t' := s1.toks) (fun b u e => Heap.get?_push_of_some _ e) (Nat.le_refl _) ?_, rfl, q _ hf⟩
  exact ⟨z, us, 0, r, Heap.get?_push_size _ rfl⟩
end

/-! ### what a def promises -/
/-- a def's promise: the bound arguments in the parameters' order, the heap, the wanted end, the wanted exception -/
abbrev Sp := List V → Hp → VK → XK → Prop
/-- how an exception lies behind a call (file 08 gives it): the callers' frames, abstract heap and state ahead of the call, the wish, the exception, the state -/
abbrev CXT := List Env → Hp → Shared → XK → Value → Shared → Prop

/-- the state at a call -/
structure Env0 (P : Program) (w : World) (K : PySem.W.Frag) (mg : Str → Option Value) (base : Heap) (A : Around) (outer : List Env) (s : Shared) (H : Hp) : Prop where
  frames : A.frames = some outer
  mod : Mod K mg base
  bs : ∀ b o, base.get? b = some o → s.heap.get? b = some o ∧ H b = none
  bsz : base.objs.size ≤ s.heap.objs.size
  funs : s.heap.FunFrames base outer
  frf : ∀ b ∈ frs outer, H b = none
  hok : HOk P w H s.heap
  bare : AllBare s.gens
/-- a call's end -/
def CE (outer : List Env) (P : Program) (w : World) (H : Hp) (s : Shared) (Q : VK) (u : Value) (s' : Shared) : Prop :=
  ∃ v H', s'.os = s.os ∧ AllBare s'.gens ∧ Un (frs outer) [] H H' s.heap s'.heap ∧ HOk P w H' s'.heap ∧ RelV v u ∧ Q v H'
def CR (CX : CXT) (outer : List Env) (P : Program) (w : World) (H : Hp) (s : Shared) (Q : VK) (E : XK) (r : Result) (s' : Shared) : Prop :=
  match r with
  | .ok (.ret u) => CE outer P w H s Q u s'
  | .ok _ => False
  | .error e => CX outer H s E e s'
structure FnOk (P : Program) (w : World) (K : PySem.W.Frag) (mg : Str → Option Value) (base : Heap) (CX : CXT) (k : Nat) (f : Addr) (fd : FuncData) (ps : List Str) (sp : Sp) : Prop where
  len : ∀ vs H Q E, sp vs H Q E → vs.length = ps.length
  run : ∀ (A : Around) (outer : List Env) (s : Shared) (H : Hp) (args : Args) (us : List Value) (vs : List V) (Q : VK) (E : XK), Room k A → Env0 P w K mg base A outer s H → BindsTo s fd args (ps.zip us) → Vals vs us → sp vs H Q E →
    codeAny (model P w) A (.call (.ref f) args) (CR CX outer P w H s Q E) s
theorem FnOk.mono {P : Program} {w : World} {K : PySem.W.Frag} {mg : Str → Option Value} {base : Heap} {CX : CXT} {j k : Nat} {f : Addr} {fd : FuncData} {ps : List Str} {sp : Sp} (F : FnOk P w K mg base CX j f fd ps sp) (h : j ≤ k) :
    FnOk P w K mg base CX k f fd ps sp := ⟨F.len, fun A outer s H args us vs Q E hr => F.run A outer s H args us vs Q E (hr.mono h)⟩
theorem Env0.make {P : Program} {w : World} {K : PySem.W.Frag} {mg : Str → Option Value} {base : Heap} {A : Around} {outer : List Env} {s : Shared} {H : Hp} (e : Env0 P w K mg base A outer s H) (C : Addr) (us : List Value) (kw : List (Str × Value)) :
    Env0 P w K mg base (A.under (.builtin "type.__call__" ⟨.ref C :: us, kw⟩)) outer s H := ⟨by first | exact e.frames | (simpa [Around.under, Code.envs, Code.isFrame, pushEnvs] using e.frames), e.mod, e.bs, e.bsz, e.funs, e.frf, e.hok, e.bare⟩
theorem Env0.in1 {P : Program} {w : World} {K : PySem.W.Frag} {mg : Str → Option Value} {base : Heap} {A : Around} {outer : List Env} {s : Shared} {H : Hp} (e : Env0 P w K mg base A outer s H) :
    Env0 P w K mg base A.in1 outer s H := ⟨e.frames, e.mod, e.bs, e.bsz, e.funs, e.frf, e.hok, e.bare⟩

section
variable {X : Cx} {pins : List (Addr × Obj)} {σ : St} {H : Hp} {s s' : Shared}
/-- from a body: what a callee wants -/
theorem Inv.env0 (I : Inv X pins σ H s) : Env0 X.prog X.w X.K X.mg X.base X.A X.stack s H :=
  ⟨I.ok.frames, I.ok.mod, I.bs, Nat.le_trans I.ok.bsz I.sz, I.stack, I.stkFree, I.hok, I.bare⟩
/-- behind a call -/
theorem Inv.after {Q : VK} {u : Value} (I : Inv X pins σ H s) (h : CE X.stack X.prog X.w H s Q u s') : EP X pins σ Q u s' := by
  obtain ⟨v, H', os, bare, un, hok, r, q⟩ := h
  obtain ⟨hh, g, d, t, os'⟩ := s'
  obtain rfl : os' = s.os := os
  exact ⟨v, H', I.call (h' := hh) (g' := g) (d' := d) (t' := t) (ch := []) un hok bare (fun b z => absurd z (by simp)), r, q⟩
end

/-! ### calls -/
/-- f(..): the written arguments, then the defaults dvs; E: what is wanted of an exception -/
def tCall (sp : Sp) (dvs : List V) (E : XK) (t : TA) : TE := fun σ H Q => t σ H fun vs H1 => sp (vs ++ dvs) H1 Q E
/-- o.m(..) of an instance of the class at C -/
def tMeth (C : Addr) (m : Str) (sp : Sp) (dvs : List V) (E : XK) (ta : TE) (t : TA) : TE := fun σ H Q => ta σ H fun x H1 => ∃ a dx fs, x = .ref a ∧ H1 a = some (.ins C dx fs) ∧ fs.lookup m = none ∧
  t σ H1 fun vs H2 => sp (x :: (vs ++ dvs)) H2 Q E
/-- C(..): a new instance and its dict, then __init__ -/
def tMake (C : Addr) (sp : Sp) (dvs : List V) (E : XK) (t : TA) : TE := fun σ H Q => t σ H fun vs H1 => ∀ x dx, H1 x = none → H1 dx = none → dx ≠ x →
  sp (.ref x :: (vs ++ dvs)) (upd (upd H1 dx (.own x)) x (.ins C dx [])) (fun v H2 => v = .non ∧ Q (.ref x) H2) E

/-- how the parameters are bound: us the positional arguments, kw the keywords' values by name, ds the defaults that fill up -/
def Binds (K : PySem.W.Frag) (fd : FuncData) (ps : List Str) (ds : List Value) : Prop :=
  ∀ (s : Shared) (us : List Value), K.In s.heap → (us ++ ds).length = ps.length → BindsTo s fd ⟨us, []⟩ (ps.zip (us ++ ds))
/-- every parameter is given -/
theorem Binds.all {K : PySem.W.Frag} {fd : FuncData} {ps : List Str} (h : ∀ us : List Value, us.length = ps.length → bindArgs fd ⟨us, []⟩ = pure (ps.zip us)) : Binds K fd ps [] := fun s us _ hl => by
  rw [List.append_nil] at hl ⊢
  exact .of_eq (h us hl)

/-- an exception of a callee reaches what this body wants of exceptions -/
def Passes (CX : CXT) (X : Cx) (E : XK) : Prop := ∀ (pins : List (Addr × Obj)) (σ : St) (H : Hp) (s : Shared) (e : Value) (s' : Shared), Inv X pins σ H s → CX X.stack H s E e s' → X.xe e s'

section
variable {X : Cx} {CX : CXT} {k : Nat} {f C : Addr} {fd : FuncData} {ps : List Str} {sp : Sp} {dvs : List V} {ds : List Value} {E : XK} {x m : Str} {p pos apos : Pos} {e o : Expr} {es : List Expr} {ta : TE} {t : TA}

/-- the callee runs -/
theorem run_fn {pins : List (Addr × Obj)} {σ : St} {H : Hp} {s : Shared} {Q : VK} {us : List Value} {vs : List V} (F : FnOk X.prog X.w X.K X.mg X.base CX k f fd ps sp) (hr : Room k X.A) (hb : Binds X.K fd ps ds) (hd : Vals dvs ds) (hx : Passes CX X E)
    (I : Inv X pins σ H s) (r : Vals vs us) (h : sp (vs ++ dvs) H Q E) : wpAny (model X.prog X.w) X.A (call (.ref f) us) (EP X pins σ Q) X.xe s := by
  have r2 : Vals (vs ++ dvs) (us ++ ds) := r.append hd
  have hl : (us ++ ds).length = ps.length := by rw [← r2.length]; exact F.len _ _ _ _ h
  refine wpAny_call (codeAny_mono (F.run X.A X.stack s H ⟨us, []⟩ (us ++ ds) (vs ++ dvs) Q E hr I.env0 (hb s us I.kIn hl) r2 h) fun r s' hq => ?_)
  cases r with
  | error e => exact hx pins σ H s e s' I hq
  | ok fl =>
    cases fl with
    | ret u => exact I.after hq
    | next => exact False.elim hq
    | brk => exact False.elim hq
    | cont => exact False.elim hq

theorem pe_call (F : FnOk X.prog X.w X.K X.mg X.base CX k f fd ps sp) (hr : Room k X.A) (hg : Gl X x) (hm : X.mg x = some (.ref f)) (hk : PySem.W.keepIn X.K (.ref f) = true) (hb : Binds X.K fd ps ds) (hd : Vals dvs ds) (hx : Passes CX X E)
    (ha : PA X (e :: es) t) (hdb : (x == ("__debug__" : Str)) = false := by decide) (he : starEach (e :: es) X.env = (false, eval e X.env) :: starEach es X.env := by rfl) (hpl : (backTo pos (starEach es X.env)).any (·.1) = false := by rfl) :
    PE X (.Call (.Name x p) (e :: es) [] pos) (tCall sp dvs E t) := by
  intro pins s σ H Q I h
  refine wpAny_Call_Name_kw (ld_glob I hg hm ?_ hdb)
  refine PySem.W.callWith_K (h₀ := X.base) I.ok.mod.kin hk (thn (ha pos pins s σ H _ I h) fun us s1 ⟨vs, H1, I1, r, q⟩ => ⟨I1.kIn, ?_⟩) he hpl
  exact run_fn F hr hb hd hx I1 r q
/-- o.m(e, ..) -/
theorem pe_meth {pl : Sem Bool} (he : PE X o ta) (c : Cls X.K C) (hm : Meth X.K C m f) (F : FnOk X.prog X.w X.K X.mg X.base CX k f fd ps sp) (hr : Room k X.A) (hb : Binds X.K fd ps ds) (hd : Vals dvs ds) (hx : Passes CX X E) (ha : PA X (e :: es) t)
    (hst : starEach (e :: es) X.env = (false, eval e X.env) :: starEach es X.env := by rfl) (hpl : (backTo pos (starEach es X.env)).any (·.1) = false := by rfl)
    (ht : eval (.Call (.Attribute o m apos) (e :: es) [] pos) X.env = (do
      let ov ← eval o X.env
      standAt apos.atName
      let (f, first) ← holding [ov] (getMethod ov m pl)
      callWith pos f first (backTo pos (starEach (e :: es) X.env)) (backToKw pos (keywordEach [] X.env))) := by rfl) :
    PE X (.Call (.Attribute o m apos) (e :: es) [] pos) (tMeth C m sp dvs E ta t) := by
  intro pins s σ H Q I h
  refine PySem.W.methodCall_KW (pl := pl) (thn (he pins s σ H _ I h) fun u s1 ⟨x, H1, I1, rx, a, dx, fs, ex, ea, l, q⟩ => ?_) ht
  subst ex
  obtain rfl : u = Value.ref a := rx
  refine getmeth_ok I1 ea c hm l ?_
  refine PySem.W.callWith_K (first := [.ref a]) (h₀ := X.base) I.ok.mod.kin hm.kp (thn (ha pos pins s1 σ H1 _ I1 q) fun us s2 ⟨vs, H2, I2, r, q2⟩ => ⟨I2.kIn, ?_⟩) hst hpl
  exact run_fn (us := .ref a :: us) (vs := .ref a :: vs) F hr hb hd hx I2 (.cons rfl r) q2
/-- what a class must have to be made -/
structure Mk (K : PySem.W.Frag) (C f : Addr) : Prop where
  makes : PySem.W.makesIn K C = true
  init : PySem.W.findIn K (.ref C) "__init__" = some (some (.ref f))
  fn : PySem.W.isFn K (.ref f) = true
  kp : PySem.W.keepIn K (.ref C) = true

theorem run_make {pins : List (Addr × Obj)} {σ : St} {H : Hp} {s : Shared} {Q : VK} {us : List Value} {vs : List V} (M : Mk X.K C f) (F : FnOk X.prog X.w X.K X.mg X.base CX k f fd ps sp) (hr : Room (k + 1) X.A) (hb : Binds X.K fd ps ds) (hd : Vals dvs ds)
    (hx : Passes CX X E) (I : Inv X pins σ H s) (r : Vals vs us)
    (h : ∀ x dx, H x = none → H dx = none → dx ≠ x → sp (.ref x :: (vs ++ dvs)) (upd (upd H dx (.own x)) x (.ins C dx [])) (fun v H2 => v = .non ∧ Q (.ref x) H2) E) :
    wpAny (model X.prog X.w) X.A (call (.ref C) us) (EP X pins σ Q) X.xe s := by
  have hq := h (s.heap.objs.size + 1) s.heap.objs.size (I.hok.fresh (Nat.le_succ _)) (I.hok.fresh (Nat.le_refl _)) (Nat.ne_of_lt (Nat.lt_succ_self _))
  have I2 := Inv.made (C := C) I
  have r2 : Vals (V.ref (s.heap.objs.size + 1) :: (vs ++ dvs)) (Value.ref (s.heap.objs.size + 1) :: (us ++ ds)) := .cons rfl (r.append hd)
  have hl : (Value.ref (s.heap.objs.size + 1) :: us ++ ds).length = ps.length := by
    have e := r2.length
    rw [F.len _ _ _ _ hq] at e
    exact e.symm
  refine wpAny_call (make_map (f := f) I.kIn M.makes M.init (beq_iff_eq.mp M.fn) (codeAny_mono (F.run _ X.stack _ _ ⟨Value.ref (s.heap.objs.size + 1) :: us, []⟩ (Value.ref (s.heap.objs.size + 1) :: (us ++ ds)) _ _ E (hr.make C us [])
    (I2.env0.make C us []) (hb _ (Value.ref (s.heap.objs.size + 1) :: us) I2.kIn hl) r2 hq) fun r s' hq' => ?_))
  cases r with
  | error e => exact hx pins σ _ _ e s' I2 hq'
  | ok fl =>
    cases fl with
    | ret u =>
      obtain ⟨v, H', I3, rv, ev, q3⟩ := I2.after hq'
      subst ev
      exact ⟨rv, ⟨V.ref (s.heap.objs.size + 1), H', I3, rfl, q3⟩⟩
    | next => exact False.elim hq'
    | brk => exact False.elim hq'
    | cont => exact False.elim hq'
theorem pe_make0 (M : Mk X.K C f) (F : FnOk X.prog X.w X.K X.mg X.base CX k f fd ps sp) (hr : Room (k + 1) X.A) (hg : Gl X x) (hm : X.mg x = some (.ref C)) (hb : Binds X.K fd ps ds) (hd : Vals dvs ds) (hx : Passes CX X E)
    (hdb : (x == ("__debug__" : Str)) = false := by decide) : PE X (.Call (.Name x p) [] [] pos) (tMake C sp dvs E tNil) := by
  intro pins s σ H Q I h
  refine wpAny_Call_Name_kw (ld_glob I hg hm ?_ hdb)
  exact PySem.W.callWith_K0 I.kIn M.kp (run_make (us := []) M F hr hb hd hx I .nil h)
end

/-! ### keywords -/
/-- the values of the keywords, from the left -/
def PK (X : Cx) (kws : List Keyword) (t : TA) : Prop :=
  ∀ (pos : Pos) (pins : List (Addr × Obj)) (s : Shared) (σ : St) (H : Hp) (Q : List V → Hp → Prop), Inv X pins σ H s → t σ H Q → wpAny (model X.prog X.w) X.A (evalAll ((backToKw pos (keywordEach kws X.env)).map (·.2))) (AP X pins σ Q) X.xe s
section
variable {X : Cx} {CX : CXT} {k : Nat} {f C : Addr} {fd : FuncData} {ps ks : List Str} {sp : Sp} {E : XK} {x m : Str} {p pos apos kpos : Pos} {e o : Expr} {es : List Expr} {kws : List Keyword} {te ta : TE} {t tk : TA} {nm : Option Str}
/-- how a call with keywords binds: g puts the positional values us and the keywords' values ws (names ks) in the parameters' order, defaults among them -/
structure KBinds (K : PySem.W.Frag) (fd : FuncData) (ps ks : List Str) (g : List Value → List Value → List Value) (gV : List V → List V → List V) : Prop where
  to : ∀ (s : Shared) (us ws : List Value), K.In s.heap → (g us ws).length = ps.length → BindsTo s fd ⟨us, ks.zip ws⟩ (ps.zip (g us ws))
  rel : ∀ {vs : List V} {us : List Value} {zs : List V} {ws : List Value}, Vals vs us → Vals zs ws → Vals (gV vs zs) (g us ws)
def tCallK (sp : Sp) (gV : List V → List V → List V) (E : XK) (t tk : TA) : TE := fun σ H Q => t σ H fun vs H1 => tk σ H1 fun zs H2 => sp (gV vs zs) H2 Q E
variable {g : List Value → List Value → List Value} {gV : List V → List V → List V}
end

/-! ### a def's body keeps its promise -/
/-- names: the parameters first -/
structure FnScope (N P : List Str) (sc : Scope) : Prop where
  kind : sc.kind = .function
  co : sc.isCoroutine = false
  gen : sc.isGenerator = false
  nd : N.Nodup
  pre : N.take P.length = P
  par : ∀ x ∈ P, sc.names.lookup x = some .local ∨ sc.names.lookup x = some .cell
  nofree : ∀ y ∈ sc.names, y.2 ≠ .free

theorem bindL_out {kindOf : Str → Option NameKind} {x : Str} : ∀ {binds : List (Str × Value)} {m : Str → Option Value}, (∀ v, (x, v) ∉ binds) → bindL kindOf binds m x = m x
  | [], _, _ => rfl
  | (n, v) :: r, m, h => by
    unfold bindL
    rw [bindL_out fun w hw => h w (List.mem_cons_of_mem _ hw)]
    split
    · have : x ≠ n := by rintro rfl; exact h v List.mem_cons_self
      simp [this]
    · rfl
theorem bindC_out {kindOf : Str → Option NameKind} {x : Str} : ∀ {binds : List (Str × Value)} {m : Str → Option Value}, (∀ v, (x, v) ∉ binds) → bindC kindOf binds m x = m x
  | [], _, _ => rfl
  | (n, v) :: r, m, h => by
    unfold bindC
    rw [bindC_out fun w hw => h w (List.mem_cons_of_mem _ hw)]
    split
    · rfl
    · have : x ≠ n := by rintro rfl; exact h v List.mem_cons_self
      simp [this]
theorem bindL_get {kindOf : Str → Option NameKind} {x : Str} {v : Value} : ∀ {P : List Str} {vs : List Value} {i : Nat} {m : Str → Option Value}, P.Nodup → P[i]? = some x → vs[i]? = some v → kindOf x = some .local →
    bindL kindOf (P.zip vs) m x = some v
  | [], _, _, _, _, h, _, _ => by simp at h
  | _ :: _, [], _, _, _, _, h, _ => by simp at h
  | p :: P, w :: vs, 0, m, nd, h1, h2, hk => by
    simp at h1 h2; subst h1; subst h2
    show bindL kindOf ((p, w) :: P.zip vs) m p = _
    unfold bindL
    rw [bindL_out fun v hv => (List.nodup_cons.mp nd).1 (List.of_mem_zip hv).1, if_pos hk]
    simp
  | p :: P, w :: vs, i + 1, m, nd, h1, h2, hk => by
    show bindL kindOf ((p, w) :: P.zip vs) m x = _
    unfold bindL
    exact bindL_get (i := i) (List.nodup_cons.mp nd).2 (by simpa using h1) (by simpa using h2) hk
theorem bindC_get {kindOf : Str → Option NameKind} {x : Str} {v : Value} : ∀ {P : List Str} {vs : List Value} {i : Nat} {m : Str → Option Value}, P.Nodup → P[i]? = some x → vs[i]? = some v → kindOf x ≠ some .local →
    bindC kindOf (P.zip vs) m x = some v
  | [], _, _, _, _, h, _, _ => by simp at h
  | _ :: _, [], _, _, _, _, h, _ => by simp at h
  | p :: P, w :: vs, 0, m, nd, h1, h2, hk => by
    simp at h1 h2; subst h1; subst h2
    show bindC kindOf ((p, w) :: P.zip vs) m p = _
    unfold bindC
    rw [bindC_out fun v hv => (List.nodup_cons.mp nd).1 (List.of_mem_zip hv).1, if_neg hk]
    simp
  | p :: P, w :: vs, i + 1, m, nd, h1, h2, hk => by
    show bindC kindOf ((p, w) :: P.zip vs) m x = _
    unfold bindC
    exact bindC_get (i := i) (List.nodup_cons.mp nd).2 (by simpa using h1) (by simpa using h2) hk

/-- the names' values at the entry -/
def start (N : List Str) (vs : List V) : St := vs.map some ++ List.replicate (N.length - vs.length) none

/-- the context of a def's body, at its entry; an exception leaves the frame, then lies as CX says -/
def cxOf (CX : CXT) (P : Program) (w : World) (K : PySem.W.Frag) (mg : Str → Option Value) (base : Heap) (N : List Str) (qual : Str) (scope : Scope) (f : Addr) (cd : Value) (A : Around) (outer : List Env) (s : Shared) (H : Hp) (E : XK) : Cx where
  prog := P
  w := w
  K := K
  mg := mg
  base := base
  A := A.deeper (envOfC qual scope s.heap.objs.size f cd)
  N := N
  s₀ := s
  H₀ := H
  env := envOfC qual scope s.heap.objs.size f cd
  outer := outer
  stack := envOfC qual scope s.heap.objs.size f cd :: outer
  ex := []
  calm := true
  fn := fun _ => true
  pn := []
  xe := fun e s' => wpAny (model P w) (A.deeper (envOfC qual scope s.heap.objs.size f cd)) (leaving (envOfC qual scope s.heap.objs.size f cd) e) (fun _ s'' => CX outer H s E e s'') (fun e' s'' => CX outer H s E e' s'') s'

theorem cell_has {sc : Scope} {n : Nat} {x : Str} (h : sc.names.lookup x = some .cell) : ∃ c, (cellsFrom n sc.names []).lookup x = some c := by
  have q := PySem.W.cellsFrom_some sc.names n [] (.inl h)
  exact Option.isSome_iff_exists.mp q

theorem inv_start {CX : CXT} {P : Program} {w : World} {K : PySem.W.Frag} {mg : Str → Option Value} {base : Heap} {N ps : List Str} {qual : Str} {scope : Scope} {f : Addr} {cd : Value} {A : Around} {outer : List Env} {s s1 : Shared} {H : Hp} {E : XK} {us : List Value} {vs : List V}
    (S : FnScope N ps scope) (hd : A.handled = none) (e0 : Env0 P w K mg base A outer s H) (hl : vs.length = ps.length) (r : Vals vs us)
    (x : InCallC s s.heap.objs.size (bindL (envOfC qual scope s.heap.objs.size f cd).kindOf (ps.zip us) fun _ => none) (cellsFrom (s.heap.objs.size + 1) scope.names []) (bindC (envOfC qual scope s.heap.objs.size f cd).kindOf (ps.zip us) fun _ => none) s1) :
    Inv (cxOf CX P w K mg base N qual scope f cd A outer s H E) [] (start N vs) H s1 := by
  have hpl : ps.length ≤ N.length := by have := congrArg List.length S.pre; rw [List.length_take] at this; omega
  obtain ⟨h1, tk, rfl, hk⟩ := x.done
  have noA : ∀ b : Addr, b ∉ (cxOf CX P w K mg base N qual scope f cd A outer s H E).ex := fun b z => absurd (show b ∈ ([] : List Addr) from z) (by simp)
  refine ⟨⟨e0.mod, S.kind, rfl, rfl, Nat.le_refl _, fun y z c h1 h2 => ?_, fun y hy => ?_, fun y c _ h => ?_, fun _ => hd, Around.frames_deeper e0.frames, .inr ⟨rfl, rfl⟩, fun b z => absurd z (noA b), e0.bs, e0.bsz, fun b _ _ => noA b, fun b z => absurd z (noA b), e0.funs, e0.frf⟩,
    rfl, e0.bare, Un.kept hk, ⟨_, x.toInCall.ns, fun i y v h1 h2 h3 => ?_⟩, fun y c h => ⟨_, x.cell y c h⟩, e0.hok.fresh (Nat.le_refl _), fun y c h => ?_, fun p hp => absurd (show p ∈ ([] : List (Addr × Obj)) from hp) (by simp), e0.hok.kept hk, ?_⟩
  · exact name_of_addr x.apart (PySem.mem_of_lookup h1) (PySem.mem_of_lookup h2)
  · have hy : scope.names.lookup y = some .cell ∨ scope.names.lookup y = some .free := hy
    rcases hy with hy | hy
    · exact cell_has hy
    · exact absurd rfl (S.nofree _ (PySem.mem_of_lookup hy))
  · exact Nat.le_of_lt (x.above y c (PySem.mem_of_lookup h))
  · have hi : i < vs.length := by
      unfold start at h2
      by_cases hi : i < vs.length
      · exact hi
      · rw [List.getElem?_append_right (by simpa using hi)] at h2
        rw [List.getElem?_replicate] at h2
        split at h2 <;> cases h2
    have ha : vs[i]? = some v := by
      unfold start at h2
      rw [List.getElem?_append_left (by simpa using hi), List.getElem?_map] at h2
      cases e : vs[i]? with
      | none => rw [e] at h2; cases h2
      | some a => rw [e] at h2; cases h2; rfl
    obtain ⟨u, hu, rv⟩ := r.get ha
    have hp : ps[i]? = some y := by
      rw [← S.pre, List.getElem?_take_of_lt (by omega)]; exact h1
    have ndP : ps.Nodup := by rw [← S.pre]; exact S.nd.sublist (List.take_sublist _ _)
    refine ⟨u, rv, ?_⟩
    rcases S.par y (List.mem_of_getElem? hp) with k | k
    · exact .inl ⟨k, bindL_get ndP hp hu k⟩
    · obtain ⟨c, e⟩ := cell_has (n := s.heap.objs.size + 1) k
      refine .inr ⟨.inl k, c, e, ?_⟩
      have q := x.cell y c e
      rw [bindC_get ndP hp hu (by show scope.names.lookup y ≠ _; rw [k]; decide)] at q
      exact q
  · exact e0.hok.fresh (Nat.le_of_lt (x.above y c (PySem.mem_of_lookup h)))
  · unfold start
    show _ = N.length
    rw [List.length_append, List.length_map, List.length_replicate]
    omega

/-- THE RULE: a def (or a method) of the text, by its body. The body's reading t is chosen for each entry; it is run at the parameters' values -/
theorem fn_of {CX : CXT} {P : Program} {w : World} {K : PySem.W.Frag} {mg : Str → Option Value} {base : Heap} {k : Nat} {f : Addr} {name qual : Str} {params : Arguments} {body : List Stmt} {scope : Scope} {dV kV doc pm cdv ct oc : Value} {an od : Option Addr}
    {osl : Array (Option Value)} {N ps : List Str} {sp : Sp} (lk : K.lookup f = some ⟨oc, od, .func (PySem.W.fnOf name qual params body scope dV kV doc pm an cdv ct), osl⟩) (hcd : PySem.W.codeIn K cdv qual = true) (S : FnScope N ps scope)
    (len : ∀ vs H Q E, sp vs H Q E → vs.length = ps.length)
    (hbody : ∀ (A : Around) (outer : List Env) (s : Shared) (H : Hp) (vs : List V) (Q : VK) (E : XK), Room k (A.deeper (envOfC qual scope s.heap.objs.size f cdv)) → sp vs H Q E →
      ∃ t, PSs (cxOf CX P w K mg base N qual scope f cdv A outer s H E) body t ∧ t { nx := fun _ H' => Q .non H', rt := Q } (start N vs) H) :
    FnOk P w K mg base CX (k + 1) f (PySem.W.fnOf name qual params body scope dV kV doc pm an cdv ct) ps sp := by
  refine ⟨len, fun A outer s H args us vs Q E hr e0 hb r hsp => ?_⟩
  have hl := len _ _ _ _ hsp
  have KX : K.In s.heap := e0.mod.kin.keeps fun b o e => (e0.bs b o e).1
  have lim : s.heap.NoLimit := e0.mod.nolimit.keeps fun b o e => (e0.bs b o e).1
  have hkind : ∀ y ∈ ps.zip us, scope.names.lookup y.1 = some .local ∨ (scope.names.lookup y.1 = some .cell ∧ ((cellsFrom (s.heap.objs.size + 1) scope.names []).lookup y.1).isSome = true) := fun ⟨n, v⟩ hy => by
    rcases S.par n (List.of_mem_zip hy).1 with q | q
    · exact .inl q
    · exact .inr ⟨q, PySem.W.cellsFrom_some _ _ _ (.inl q)⟩
  refine codeAny_call_function hr.depth (KX _ _ lk) rfl S.co S.gen rfl (PySem.W.codeRec_of KX hcd) (hb _ _ _ _ ?_)
  refine wpAny_newFunctionEnv_cells S.kind hkind fun env he s1 x => ?_
  subst he
  refine ⟨lim.keeps x.toInCall.keep, codeAny_func ?_⟩
  obtain ⟨t, ht, hq⟩ := hbody A outer s H vs Q E (hr.deeper _) hsp
  have I : Inv (cxOf CX P w K mg base N qual scope f cdv A outer s H E) [] (start N vs) H s1 := inv_start S hr.hd e0 hl r x
  refine wpAny_mono (ht [] s1 (start N vs) H _ I hq) (fun fl s' hs => ?_) fun e s' hs => hs
  have fin : ∀ {σ' : St} {H' : Hp} {v : V} {u : Value}, Inv (cxOf CX P w K mg base N qual scope f cdv A outer s H E) [] σ' H' s' → RelV v u → Q v H' → CE outer P w H s Q u s' :=
    fun {σ' H' v u} J rv q => ⟨v, H', J.os, J.bare, J.base, J.hok, rv, q⟩
  cases fl with
  | ret u =>
    obtain ⟨v, σ', H', J, rv, q⟩ := hs
    exact fin J rv q
  | next =>
    obtain ⟨σ', H', J, q⟩ := hs
    exact fin (v := V.non) (u := Value.none) J rfl q
  | brk =>
    obtain ⟨_, _, _, q⟩ := hs
    exact False.elim q
  | cont =>
    obtain ⟨_, _, _, q⟩ := hs
    exact False.elim q
end L2

namespace L2
open PySem PySem.Spec PyProof.Rows
section
variable {X : Cx} {x : Str} {p pos : Pos} {e : Expr} {es : List Expr} {t : TA} {id T : String} {r : List V → Hp → VK → Prop}

def tCB (r : List V → Hp → VK → Prop) (t : TA) : TE := fun σ H Q => t σ H fun vs H1 => r vs H1 Q
/-- f(e, ..), f a built-in function -/
theorem pe_callB (hc : CallR X (.builtin id) r) (hg : Gl X x) (hm : X.mg x = none) (hv : bootBuiltins x = some (.builtin id)) (ha : PA X (e :: es) t) (hn : x ≠ "__name__" := by decide) (hdb : (x == ("__debug__" : Str)) = false := by decide)
    (he : starEach (e :: es) X.env = (false, eval e X.env) :: starEach es X.env := by rfl) (hpl : (backTo pos (starEach es X.env)).any (·.1) = false := by rfl) : PE X (.Call (.Name x p) (e :: es) [] pos) (tCB r t) := by
  intro pins s σ H Q I h
  refine wpAny_Call_Name_kw (ld_blt I hg hm hv ?_ hn hdb)
  exact PyProof.Rows.callWith_builtin1 (thn (ha pos pins s σ H _ I h) fun us s1 ⟨vs, H1, I1, r1, q1⟩ => hc pins s1 σ H1 vs us Q I1 r1 q1) he hpl
/-- T(e, ..), T a built-in type -/
theorem pe_callTy (hc : CallR X (.type T) r) (hg : Gl X x) (hm : X.mg x = none) (hv : bootBuiltins x = some (.type T)) (ha : PA X (e :: es) t) (hn : x ≠ "__name__" := by decide) (hdb : (x == ("__debug__" : Str)) = false := by decide)
    (he : starEach (e :: es) X.env = (false, eval e X.env) :: starEach es X.env := by rfl) (hpl : (backTo pos (starEach es X.env)).any (·.1) = false := by rfl) : PE X (.Call (.Name x p) (e :: es) [] pos) (tCB r t) := by
  intro pins s σ H Q I h
  refine wpAny_Call_Name_kw (ld_blt I hg hm hv ?_ hn hdb)
  exact PyProof.Rows.callWith_type1 (thn (ha pos pins s σ H _ I h) fun us s1 ⟨vs, H1, I1, r1, q1⟩ => hc pins s1 σ H1 vs us Q I1 r1 q1) he hpl
end
end L2

namespace HT
open PySem PyProof.Rows

/-- t < u of tuples of ints -/
def lexLt : List Int → List Int → Bool
  | [], [] => false
  | [], _ :: _ => true
  | _ :: _, [] => false
  | x :: xs, y :: ys => if x = y then lexLt xs ys else decide (x < y)
section
open PySem.SeqAt
open PySem.AutoSeq1 (wpAny_loadPart')
open PySem.MeetsSeq PySem.MeetsSeq2 PySem.MeetsSeq3

end

section
variable {prog : Program} {w : World} {A : Around} {E : Value → Shared → Prop} {s : Shared}

/-! ### t[a:b], not the whole -/
/-- a slice's bound as a place among n (d where it is left out) -/
def sIx (n d : Nat) : Option Int → Nat
  | none => d
  | some v => if v < 0 then (v + (n : Int)).toNat else min v.toNat n
theorem sIx_none (n d : Nat) : sIx n d none = d := rfl
end
end HT

namespace L2
open PySem PySem.Spec PyProof.Rows

/-! ### the parts of a slice -/
abbrev TO := St → Hp → (Option Int → Hp → Prop) → Prop
/-- a slice's part (left out, or an int) -/
def PO (X : Cx) (e : Option Expr) (t : TO) : Prop :=
  ∀ (pins : List (Addr × Obj)) (s : Shared) (σ : St) (H : Hp) (Q : Option Int → Hp → Prop), Inv X pins σ H s → t σ H Q →
    wpAny (model X.prog X.w) X.A (evalPart e X.env) (fun u s' => ∃ o H', Inv X pins σ H' s' ∧ IsPart u o ∧ Q o H') X.xe s
def tNoPart : TO := fun _ H Q => Q none H
def tPart (t : TE) : TO := fun σ H Q => t σ H fun x H1 => ∃ i, x = .int i ∧ Q (some i) H1

section
variable {X : Cx} {e : Expr} {te : TE} {lo hi : Option Expr} {tl th : TO} {pos p2 : Pos}

theorem po_none : PO X none tNoPart := by
  intro pins s σ H Q I h
  rw [evalPart_none]
  exact wpAny_pure ⟨none, H, I, .none, h⟩
theorem po_some (h : PE X e te) : PO X (some e) (tPart te) := by
  intro pins s σ H Q I hw
  rw [evalPart_some]
  refine thn (h pins s σ H _ I hw) fun u s1 ⟨x, H1, I1, r1, q1⟩ => ?_
  obtain ⟨i, rfl, q⟩ := q1
  obtain ⟨t, rfl⟩ := r1
  exact ⟨some i, H1, I1, .int i t, q⟩

/-- what a slice of a value is, by values: the slice object stands at sl -/
def SlR (X : Cx) (r : V → Option Int → Option Int → Hp → VK → Prop) : Prop :=
  ∀ (pins : List (Addr × Obj)) (s : Shared) (σ : St) (H : Hp) (x : V) (v vl vu : Value) (lo hi : Option Int) (sl : Addr) (Q : VK), Inv X pins σ H s → RelV x v → s.heap.IsSliceOf sl vl vu .none → IsPart vl lo → IsPart vu hi → r x lo hi H Q →
    ∃ T id, typeLookup (.type T) "__getitem__" = pure (some (.builtin id)) ∧ s.TypeIs v T ∧ wpAny (model X.prog X.w) X.A (getItem v (.ref sl)) (EP X pins σ Q) X.xe s
theorem SlR.or {r r' : V → Option Int → Option Int → Hp → VK → Prop} (h : SlR X r) (h' : SlR X r') : SlR X (fun x lo hi H Q => r x lo hi H Q ∨ r' x lo hi H Q) := by
  intro pins s σ H x v vl vu lo hi sl Q I rx hs pl pu q
  rcases q with q | q
  · exact h pins s σ H x v vl vu lo hi sl Q I rx hs pl pu q
  · exact h' pins s σ H x v vl vu lo hi sl Q I rx hs pl pu q
def tSl (r : V → Option Int → Option Int → Hp → VK → Prop) (te : TE) (tl th : TO) : TE := fun σ H Q => te σ H fun x H1 => tl σ H1 fun l H2 => th σ H2 fun u H3 => r x l u H3 Q
/-- a[lo:hi], any a -/
theorem pe_slice {r : V → Option Int → Option Int → Hp → VK → Prop} (hr : SlR X r) (he : PE X e te) (hl : PO X lo tl) (hu : PO X hi th) : PE X (.Subscript e (.Slice lo hi none p2) pos) (tSl r te tl th) := by
  intro pins s σ H Q I h
  refine Subscript_ (thn (he pins s σ H _ I h) fun v s1 ⟨x, H1, I1, r1, q1⟩ => ?_)
  refine wpAny_Slice (thn (hl pins s1 σ H1 _ I1 q1) fun vl s2 ⟨l, H2, I2, pl, q2⟩ => thn (hu pins s2 σ H2 _ I2 q2) fun vu s3 ⟨u, H3, I3, pu, q3⟩ => ?_)
  rw [evalPart_none]
  refine wpAny_pure ?_
  have I4 : Inv X pins σ H3 { s3 with heap := s3.heap.push { cls := .type "slice", data := .fields #[vl, vu, .none] } } := I3.kept (t' := s3.toks) fun b ob q => Heap.get?_push_of_some _ q
  obtain ⟨T, id, hT, ht, hg⟩ := hr pins { s3 with heap := s3.heap.push { cls := .type "slice", data := .fields #[vl, vu, .none] } } σ H3 x v vl vu l u s3.heap.objs.size Q I4 r1 (Heap.IsSliceOf.new ..) pl pu q3
  show wpAny (model X.prog X.w) X.A (subscriptTail e (.Slice lo hi none p2) v (.ref s3.heap.objs.size)) (EP X pins σ Q) X.xe { s3 with heap := s3.heap.push { cls := .type "slice", data := .fields #[vl, vu, .none] } }
  exact tail_any (ops := [.ref s3.heap.objs.size, v]) ht hT hg (by with_unfolding_all rfl)

/-- the items of xs[lo:hi] -/
def cutV (xs : List V) (lo hi : Option Int) : List V := (xs.drop (HT.sIx xs.length 0 lo)).take (HT.sIx xs.length xs.length hi - HT.sIx xs.length 0 lo)
theorem cutV_length (xs : List V) (lo hi : Option Int) : (cutV xs lo hi).length ≤ xs.length := by
  unfold cutV
  rw [List.length_take, List.length_drop]
  omega
/-- t[lo:hi], not the whole of it (the whole would be t itself) -/
def rSlT (K : PySem.W.Frag) : V → Option Int → Option Int → Hp → VK → Prop := fun x lo hi H Q => ∃ a xs, x = .ref a ∧ SqT K H a xs ∧
  ¬ (HT.sIx xs.length 0 lo = 0 ∧ HT.sIx xs.length xs.length hi = xs.length) ∧ ∀ p, H p = none → Q (.ref p) (upd H p (.tup (cutV xs lo hi)))
/-! ### t < u, t + u -/
def rLtT (K : PySem.W.Frag) : R2 := fun x y H Q => ∃ a b ns ms, x = .ref a ∧ y = .ref b ∧ SqT K H a (ns.map V.int) ∧ SqT K H b (ms.map V.int) ∧ Q (.bl (HT.lexLt ns ms)) H
/-- t + u, t not empty: u empty gives t itself -/
def rCatT (K : PySem.W.Frag) : R2 := fun x y H Q => ∃ a b xs ys, x = .ref a ∧ y = .ref b ∧ SqT K H a xs ∧ SqT K H b ys ∧ xs ≠ [] ∧ xs.length + ys.length ≤ sizeLine ∧
  (ys = [] → Q (.ref a) H) ∧ (ys ≠ [] → ∀ p, H p = none → Q (.ref p) (upd H p (.tup (xs ++ ys))))
end
end L2

namespace L2
open PySem PySem.Spec PyProof.Rows

/-! ### places -/
/-- the place that an index of any sign means -/
def ixN (n : Nat) (i : Int) : Option Nat := if 0 ≤ i then (if i < n then some i.toNat else none) else if -(n : Int) ≤ i then some (i + n).toNat else none
def atI {α : Type} (xs : List α) (i : Int) : Option α := (ixN xs.length i).bind fun j => xs[j]?
theorem ixN_seq {n : Nat} {i : Int} {j : Nat} (h : ixN n i = some j) : seqIndex? i n = some j ∧ j < n ∧ -(n : Int) ≤ i ∧ i < n := by
  unfold ixN at h
  by_cases h0 : 0 ≤ i
  · rw [if_pos h0] at h
    by_cases h1 : i < n
    · rw [if_pos h1] at h
      have e : i.toNat = j := Option.some.inj h
      exact ⟨by rw [seqIndex_of h0 h1, e], by omega, by omega, h1⟩
    · rw [if_neg h1] at h; cases h
  · rw [if_neg h0] at h
    by_cases h1 : -(n : Int) ≤ i
    · rw [if_pos h1] at h
      have e : (i + n).toNat = j := Option.some.inj h
      exact ⟨by rw [seqIndex_neg (by omega) h1, e], by omega, h1, by omega⟩
    · rw [if_neg h1] at h; cases h
theorem atI_get {α : Type} {xs : List α} {i : Int} {v : α} (h : atI xs i = some v) : ∃ j, seqIndex? i xs.length = some j ∧ xs[j]? = some v ∧ j < xs.length ∧ -(xs.length : Int) ≤ i ∧ i < xs.length := by
  unfold atI at h
  cases e : ixN xs.length i with
  | none => rw [e] at h; cases h
  | some j =>
    rw [e] at h
    obtain ⟨h1, h2, h3, h4⟩ := ixN_seq e
    exact ⟨j, h1, h, h2, h3, h4⟩
theorem atI_nat {α : Type} {xs : List α} {j : Nat} {v : α} (h : xs[j]? = some v) : atI xs (j : Int) = some v := by
  have hj : j < xs.length := (List.getElem?_eq_some_iff.mp h).1
  have e : ixN xs.length (j : Int) = some j := by
    unfold ixN
    rw [if_pos (by omega), if_pos (by omega)]; simp
  unfold atI; rw [e]; exact h
/-! ### what may be subscripted -/
/-- what stands as an index of a plain subscript -/
def PlainIx (b : Expr) : Prop := ∀ o i, subscripted b false o i = operate [o, i] (getItem o i)
/-- a subscript by values -/
def IxR (X : Cx) (r : R2) : Prop :=
  ∀ (value slice : Expr) (pins : List (Addr × Obj)) (s : Shared) (σ : St) (H : Hp) (x y : V) (v u : Value) (Q : VK), Inv X pins σ H s → RelV x v → RelV y u → r x y H Q →
    subscripted slice false v u = operate [v, u] (getItem v u) → wpAny (model X.prog X.w) X.A (subscriptTail value slice v u) (EP X pins σ Q) X.xe s
/-- a call of a builtin's method by values: the receiver, the arguments -/
def MtR (X : Cx) (id : String) (r : V → List V → Hp → VK → Prop) : Prop :=
  ∀ (pins : List (Addr × Obj)) (s : Shared) (σ : St) (H : Hp) (x : V) (xs : List V) (v : Value) (us : List Value) (Q : VK), Inv X pins σ H s → RelV x v → Vals xs us → r x xs H Q →
    wpAny (model X.prog X.w) X.A (call (.builtin id) (v :: us)) (EP X pins σ Q) X.xe s
section
variable {X : Cx} {a b : Expr} {ta tb : TE} {pos : Pos}
theorem IxR.or {r r' : R2} (h : IxR X r) (h' : IxR X r') : IxR X (fun x y H Q => r x y H Q ∨ r' x y H Q) := by
  intro value slice pins s σ H x y v u Q I rx ry q hs
  rcases q with q | q
  · exact h value slice pins s σ H x y v u Q I rx ry q hs
  · exact h' value slice pins s σ H x y v u Q I rx ry q hs
theorem MtR.or {id : String} {r r' : V → List V → Hp → VK → Prop} (h : MtR X id r) (h' : MtR X id r') : MtR X id (fun x xs H Q => r x xs H Q ∨ r' x xs H Q) := by
  intro pins s σ H x xs v us Q I rx rs q
  rcases q with q | q
  · exact h pins s σ H x xs v us Q I rx rs q
  · exact h' pins s σ H x xs v us Q I rx rs q
/-- a[b] -/
theorem pe_ix {r : R2} (hr : IxR X r) (ha : PE X a ta) (hb : PE X b tb) (hs : PlainIx b) : PE X (.Subscript a b pos) (tOp r ta tb) := by
  intro pins s σ H Q I h
  exact Subscript_ (binT ha hb I h fun v u s2 x y H2 I2 rx ry q => hr a b pins s2 σ H2 x y v u Q I2 rx ry q (hs _ _))

def rIxL (K : PySem.W.Frag) : R2 := fun x y H Q => ∃ p xs i v, x = .ref p ∧ y = .int i ∧ SqL K H p xs ∧ atI xs i = some v ∧ Q v H
def rIxT (K : PySem.W.Frag) : R2 := fun x y H Q => ∃ p xs i v, x = .ref p ∧ y = .int i ∧ SqT K H p xs ∧ atI xs i = some v ∧ Q v H
def rIxS : R2 := fun x y H Q => ∃ z i c, x = .str z ∧ y = .int i ∧ z.length ≤ sizeLine ∧ atI z.cps.toList i = some c ∧ Q (.str ⟨#[c]⟩) H
theorem ix_list : IxR X (rIxL X.K) := by
  intro value slice pins s σ H x y v u Q I rx ry h hs
  obtain ⟨p, xs, i, z, rfl, rfl, hq, he, q⟩ := h
  cases rx
  obtain ⟨t, rfl⟩ := ry
  obtain ⟨its, r, pl, hz⟩ := I.list hq
  obtain ⟨j, h1, h2, h3, h4, h5⟩ := atI_get he
  obtain ⟨w, ew, rw'⟩ := r.get h2
  have hl := r.length
  have hn := line63
  have fin : EP X pins σ Q w s := ⟨z, H, I, rw', q⟩
  by_cases h0 : 0 ≤ i
  · have hj : i.toNat = j := by
      rw [seqIndex_of h0 h5] at h1
      exact Option.some.inj h1
    exact item_listR pl.isList h0 (by omega) (by rw [hj]; simpa using ew) fin hs
  · have hj : (i + (its.toArray.size : Int)).toNat = j := by
      rw [seqIndex_neg (by omega) h4] at h1
      rw [List.size_toArray, ← hl]
      exact Option.some.inj h1
    exact subscriptTail_builtinR (x := w) pl.isList.typeIs slot_list_getitem.lookup
      (wpAny_getItem_list_neg (Q := fun r s' => r = w ∧ EP X pins σ Q r s') pl.isList (by omega) (by rw [List.size_toArray] <;> omega) (by omega) (by rw [hj]; simpa using ew) ⟨rfl, fin⟩) hs
theorem ix_tup : IxR X (rIxT X.K) := by
  intro value slice pins s σ H x y v u Q I rx ry h hs
  obtain ⟨p, xs, i, z, rfl, rfl, hq, he, q⟩ := h
  cases rx
  obtain ⟨t, rfl⟩ := ry
  obtain ⟨its, r, pl, hz⟩ := I.tuple hq
  obtain ⟨j, h1, h2, h3, h4, h5⟩ := atI_get he
  obtain ⟨w, ew, rw'⟩ := r.get h2
  have hl := r.length
  have hn := line63
  have fin : EP X pins σ Q w s := ⟨z, H, I, rw', q⟩
  exact subscriptTail_builtinR (x := w) pl.typeIs slot_tuple_getitem.lookup
    (getItem_tuple (j := j) (Q := fun r s' => r = w ∧ EP X pins σ Q r s') pl (by omega) (by omega) (by rw [List.size_toArray, ← hl]; exact h1) (by simpa using ew) ⟨rfl, fin⟩) hs
theorem ix_str : IxR X rIxS := by
  intro value slice pins s σ H x y v u Q I rx ry h hs
  obtain ⟨z, i, c, rfl, rfl, hz, he, q⟩ := h
  obtain ⟨t, rfl⟩ := rx
  obtain ⟨t', rfl⟩ := ry
  obtain ⟨j, h1, h2, h3, h4, h5⟩ := atI_get he
  have hl : z.cps.toList.length = z.length := by simp [Str.length]
  rw [hl] at h1 h4 h5
  have hn := line63
  exact tail_any (typeIs_str s z t) slot_str_getitem.lookup (getItem_str (c := c) (by
    have e1 : decide (i < -(2 ^ 63 : Int)) = false := decide_eq_false (by omega)
    have e2 : decide (i ≥ 2 ^ 63) = false := decide_eq_false (by omega)
    rw [e1, e2, Bool.or_false]) (by rw [h1]; simpa using h2) ⟨.str ⟨#[c]⟩, H, I.tok _, ⟨_, rfl⟩, q⟩) hs
/-- list, tuple or str -/
def rIx (K : PySem.W.Frag) : R2 := fun x y H Q => rIxL K x y H Q ∨ rIxT K x y H Q ∨ rIxS x y H Q
/-! ### xs[i] = v, any sign -/
theorem Inv.lst {pins : List (Addr × Obj)} {σ : St} {H : Hp} {s : Shared} {p : Addr} {xs : List V} (I : Inv X pins σ H s) (h : H p = some (.lst xs)) :
    ∃ (its : List Value) (n : Nat), Vals xs its ∧ s.heap.get? p = some { cls := .type "list", data := .seq its.toArray n } ∧ xs.length ≤ sizeLine := by
  obtain ⟨z, its, n, r, e⟩ := I.hok p _ h
  exact ⟨its, n, r, e, z⟩
def rSetL : V → V → V → Hp → (Hp → Prop) → Prop := fun o i v H Q => ∃ p xs k j, o = .ref p ∧ i = .int k ∧ H p = some (.lst xs) ∧ ixN xs.length k = some j ∧ Q (upd H p (.lst (xs.set j v)))
/-! ### slices -/
theorem slice_bounds (lo hi : Option Int) (n : Nat) : (sliceBounds lo hi none n).1 = ((HT.sIx n 0 lo : Nat) : Int) ∧ (sliceBounds lo hi none n).2.1 = ((HT.sIx n n hi : Nat) : Int) ∧ (sliceBounds lo hi none n).2.2 = 1 := by
  refine ⟨?_, ?_, rfl⟩
  · cases lo with
    | none => simp [sliceBounds, HT.sIx]
    | some i =>
      simp only [sliceBounds, HT.sIx, Option.getD_none, show (1 : Int) > 0 by decide, if_true]
      by_cases h : i < 0
      · simp only [h, if_true] <;> omega
      · simp only [h, if_false] <;> omega
  · cases hi with
    | none => simp [sliceBounds, HT.sIx]
    | some i =>
      simp only [sliceBounds, HT.sIx, Option.getD_none, show (1 : Int) > 0 by decide, if_true]
      by_cases h : i < 0
      · simp only [h, if_true] <;> omega
      · simp only [h, if_false] <;> omega
theorem slicePick_cut (its : List Value) (lo hi : Option Int) : slicePick its.toArray lo hi none = ((its.drop (HT.sIx its.length 0 lo)).take (HT.sIx its.length its.length hi - HT.sIx its.length 0 lo)).toArray := by
  obtain ⟨h1, h2, h3⟩ := slice_bounds lo hi its.toArray.size
  unfold slicePick
  rw [h1, h2, h3]
  simp only [sliceRange_one, pick_run, List.size_toArray] <;> rfl
/-- xs[lo:hi] of a list: a new list -/
def rSlL (K : PySem.W.Frag) : V → Option Int → Option Int → Hp → VK → Prop := fun x lo hi H Q => ∃ a xs, x = .ref a ∧ SqL K H a xs ∧ ∀ p, H p = none → Q (.ref p) (upd H p (.lst (cutV xs lo hi)))
theorem sl_list : SlR X (rSlL X.K) := by
  intro pins s σ H x v vl vu lo hi sl Q I rx hs pl pu h
  obtain ⟨a, xs, rfl, hx, q⟩ := h
  cases rx
  obtain ⟨its, r, ht, hz⟩ := I.list hx
  have hlen := r.length
  refine ⟨"list", _, slot_list_getitem.lookup, ht.isList.typeIs, ?_⟩
  refine wpAny_getItem_list_slice ht.isList hs pl pu .none (by simp) ?_ (by rw [List.size_toArray] <;> omega)
  rw [slicePick_cut, ← hlen]
  refine ⟨.ref s.heap.objs.size, _, I.laid (t' := s.toks) (o := .lst (cutV xs lo hi)) (fun b ob q => Heap.get?_push_of_some _ q) (Nat.le_refl _) ?_, rfl, q _ (I.hok.fresh (Nat.le_refl _))⟩
  exact ⟨Nat.le_trans (cutV_length xs lo hi) hz, _, 0, (r.drop (HT.sIx xs.length 0 lo)).take (HT.sIx xs.length xs.length hi - HT.sIx xs.length 0 lo), Heap.get?_push_size _ rfl⟩

/-! ### in, not in: flat items -/
def flatV : V → Bool
  | .non => true
  | .bl _ => true
  | .int _ => true
  | .str _ => true
  | _ => false
/-- == of flat values -/
def eqV : V → V → Bool
  | .non, .non => true
  | .bl a, .bl b => a == b
  | .bl a, .int b => (if a then 1 else 0) == b
  | .int a, .bl b => a == (if b then 1 else 0)
  | .int a, .int b => a == b
  | .str a, .str b => a == b
  | _, _ => false
theorem eqAt_V {A : Around} {s : Shared} {y x : V} {u v : Value} (ry : RelV y u) (rx : RelV x v) (fy : flatV y = true) (fx : flatV x = true) : SeqAt.EqAt A s u v (eqV y x) := by
  cases y with
  | non =>
    cases ry
    cases x with
    | non => cases rx; exact SeqAt.EqAt.same _
    | bl b => cases rx; exact SeqAt.EqAt.none_bool b
    | int b => obtain ⟨t, rfl⟩ := rx; exact SeqAt.EqAt.none_int b t
    | str b => obtain ⟨t, rfl⟩ := rx; exact SeqAt.EqAt.none_str b t
    | _ => exact absurd (show false = true from fx) Bool.false_ne_true
  | bl a =>
    cases ry
    cases x with
    | non => cases rx; exact SeqAt.EqAt.bool_none a
    | bl b => cases rx; exact SeqAt.EqAt.bool_bool a b
    | int b => obtain ⟨t, rfl⟩ := rx; exact SeqAt.EqAt.bool_int a b t
    | str b => obtain ⟨t, rfl⟩ := rx; exact SeqAt.EqAt.bool_str a b t
    | _ => exact absurd (show false = true from fx) Bool.false_ne_true
  | int a =>
    obtain ⟨t', rfl⟩ := ry
    cases x with
    | non => cases rx; exact SeqAt.EqAt.int_none a t'
    | bl b => cases rx; exact SeqAt.EqAt.int_bool a t' b
    | int b => obtain ⟨t, rfl⟩ := rx; exact SeqAt.EqAt.int_int a t' b t
    | str b => obtain ⟨t, rfl⟩ := rx; exact SeqAt.EqAt.int_str a t' b t
    | _ => exact absurd (show false = true from fx) Bool.false_ne_true
  | str a =>
    obtain ⟨t', rfl⟩ := ry
    cases x with
    | non => cases rx; exact SeqAt.EqAt.str_none a t'
    | bl b => cases rx; exact SeqAt.EqAt.str_bool a t' b
    | int b => obtain ⟨t, rfl⟩ := rx; exact SeqAt.EqAt.str_int a t' b t
    | str b => obtain ⟨t, rfl⟩ := rx; exact SeqAt.EqAt.str_str a t' b t
    | _ => exact absurd (show false = true from fx) Bool.false_ne_true
  | _ => exact absurd (show false = true from fy) Bool.false_ne_true
/-- the items' answers, read off the values (a value's own answer does not lean on its token) -/
def eqU (x : V) (u : Value) : Bool := match u with
  | .none => eqV .non x
  | .bool b => eqV (.bl b) x
  | .int i _ => eqV (.int i) x
  | .str z _ => eqV (.str z) x
  | _ => false
theorem eqU_of {x y : V} {u : Value} (r : RelV y u) (f : flatV y = true) : eqU x u = eqV y x := by
  cases y with
  | non => cases r; rfl
  | bl b => cases r; rfl
  | int i => obtain ⟨t, rfl⟩ := r; rfl
  | str z => obtain ⟨t, rfl⟩ := r; rfl
  | _ => exact absurd (show false = true from f) Bool.false_ne_true
theorem any_eqU {x : V} : ∀ {xs : List V} {us : List Value}, Vals xs us → xs.all flatV = true → us.any (eqU x) = xs.any fun y => eqV y x
  | _, _, .nil, _ => rfl
  | y :: xs, u :: us, .cons r t, f => by
    rw [List.all_cons, Bool.and_eq_true] at f
    rw [List.any_cons, List.any_cons, eqU_of r f.1, any_eqU t f.2]
theorem mem_eqAt {A : Around} {s : Shared} {x : V} {v : Value} (rx : RelV x v) (fx : flatV x = true) : ∀ {xs : List V} {us : List Value}, Vals xs us → xs.all flatV = true → ∀ u ∈ us, SeqAt.EqAt A s u v (eqU x u)
  | _, _, .nil, _ => fun u hu => by cases hu
  | y :: xs, u :: us, .cons r t, f => fun u' hu => by
    rw [List.all_cons, Bool.and_eq_true] at f
    rcases List.mem_cons.mp hu with rfl | hu
    · rw [eqU_of r f.1]; exact eqAt_V r rx f.1 fx
    · exact mem_eqAt rx fx t f.2 u' hu
def inV (x : V) (xs : List V) : Bool := xs.any fun y => eqV y x
/-- x in a list or tuple of flat items -/
def rIn (K : PySem.W.Frag) (neg : Bool) : R2 := fun x y H Q => ∃ p xs, y = .ref p ∧ (SqL K H p xs ∨ SqT K H p xs) ∧ flatV x = true ∧ xs.all flatV = true ∧ Q (.bl (if neg then !inV x xs else inV x xs)) H
theorem op_notIn_seq : OpR X (compareOp .NotIn) (rIn X.K true) := by
  intro pins s σ H x y v u Q I rx ry h
  obtain ⟨p, xs, rfl, hq, fx, fs, q⟩ := h
  cases ry
  rcases hq with hq | hq
  · obtain ⟨its, r, pl, hz⟩ := I.list hq
    refine SeqAt.notIn_listAt (eqU x) pl.isList (fun w hw => mem_eqAt rx fx r fs w (by simpa using hw)) ⟨.bl _, H, I, rfl, ?_⟩
    rw [show its.toArray.any (eqU x) = its.any (eqU x) by simp, any_eqU r fs]
    exact q
  · obtain ⟨its, r, pl, hz⟩ := I.tuple hq
    refine SeqAt.notIn_tupleAt (eqU x) pl (fun w hw => mem_eqAt rx fx r fs w (by simpa using hw)) ⟨.bl _, H, I, rfl, ?_⟩
    rw [show its.toArray.any (eqU x) = its.any (eqU x) by simp, any_eqU r fs]
    exact q
/-! ### len, list(x), tuple(x) of any list or tuple that is read -/
theorem call_len_seq : CallR X (.builtin "len") (fun xs H Q => ∃ p ys, xs = [.ref p] ∧ (SqL X.K H p ys ∨ SqT X.K H p ys) ∧ Q (.int ys.length) H) := by
  intro pins s σ H xs us Q I r h
  obtain ⟨p, ys, rfl, hq, q⟩ := h
  obtain ⟨u, rfl, rx⟩ := vals1 r
  cases rx
  have hn := line63
  rcases hq with hq | hq
  · obtain ⟨its, r', pl, hz⟩ := I.list hq
    have hlen := r'.length
    exact Calls.call_len_list pl.isList (by simp only [List.size_toArray] <;> omega) ⟨.int ys.length, H, I.tok _, ⟨s.toks + 1, by rw [List.size_toArray, hlen]⟩, q⟩
  · obtain ⟨its, r', pl, hz⟩ := I.tuple hq
    have hlen := r'.length
    exact len_tuple pl (by simp only [List.size_toArray] <;> omega) ⟨.int ys.length, H, I.tok _, ⟨s.toks + 1, by rw [List.size_toArray, hlen]⟩, q⟩
theorem call_len_str : CallR X (.builtin "len") (fun xs H Q => ∃ z, xs = [.str z] ∧ z.length ≤ sizeLine ∧ Q (.int z.length) H) := by
  intro pins s σ H xs us Q I r h
  obtain ⟨z, rfl, hz, q⟩ := h
  obtain ⟨u, rfl, t, rfl⟩ := vals1 r
  have hn := line63
  exact len_str (by omega) ⟨.int z.length, H, I.tok _, ⟨_, rfl⟩, q⟩
theorem CallR.or {f : Value} {r r' : List V → Hp → VK → Prop} (h : CallR X f r) (h' : CallR X f r') : CallR X f (fun xs H Q => r xs H Q ∨ r' xs H Q) := by
  intro pins s σ H xs us Q I rs q
  rcases q with q | q
  · exact h pins s σ H xs us Q I rs q
  · exact h' pins s σ H xs us Q I rs q
theorem call_tuple_of : CallR X (.type "tuple") (fun xs H Q => ∃ p ys, xs = [.ref p] ∧ ((SqL X.K H p ys ∧ ∀ l, H l = none → Q (.ref l) (upd H l (.tup ys))) ∨ (SqT X.K H p ys ∧ Q (.ref p) H))) := by
  intro pins s σ H xs us Q I r h
  obtain ⟨p, ys, rfl, h⟩ := h
  obtain ⟨u, rfl, rx⟩ := vals1 r
  cases rx
  rcases h with ⟨hq, q⟩ | ⟨hq, q⟩
  · obtain ⟨its, r', pl, hz⟩ := I.list hq
    have hlen := r'.length
    refine call_tuple_list pl.isList (fun h' kp => ?_) (by simp only [List.size_toArray] <;> omega)
    have I1 : Inv X pins σ H { s with heap := h' } := I.kept (t' := s.toks) kp
    have I2 : Inv X pins σ (upd H h'.objs.size (.tup ys)) { s with heap := h'.push { cls := .type "tuple", data := .seq its.toArray } } :=
      I1.laid (t' := s.toks) (fun b o e => Heap.get?_push_of_some _ e) (Nat.le_refl _) (show ObjOk X.prog X.w _ _ _ (.tup ys) from ⟨hz, its, r', IsTup.new _ _⟩)
    exact ⟨.ref h'.objs.size, _, I2, rfl, q _ (I1.hok.fresh (Nat.le_refl _))⟩
  · obtain ⟨its, r', pl, hz⟩ := I.tuple hq
    exact call_tuple_same pl ⟨.ref p, H, I, rfl, q⟩

/-! ### the call of a builtin's method: o.m(..) -/
/-- the value is of that builtin type -/
def tyV (K : PySem.W.Frag) (T : String) (x : V) (H : Hp) : Prop := match x with
  | .str _ => T = "str"
  | .int _ => T = "int"
  | .ref p => (T = "list" ∧ ∃ xs, SqL K H p xs) ∨ (T = "tuple" ∧ ∃ o, K.lookup p = some o ∧ o.cls = .type "tuple" ∧ o.dict = none) ∨
      (T = "dict" ∧ ((∃ kvs, H p = some (.dK kvs)) ∨ ∃ kvs, H p = some (.dT kvs))) ∨ (T = "set" ∧ ∃ S n, H p = some (.set S n))
  | _ => False
theorem tyV_is {pins : List (Addr × Obj)} {σ : St} {H : Hp} {s : Shared} {T : String} {x : V} {v : Value} (I : Inv X pins σ H s) (r : RelV x v) (ty : tyV X.K T x H) :
    s.TypeIs v T ∧ ∀ a, v = .ref a → ∃ ob, s.heap.get? a = some ob ∧ ob.dict = none := by
  cases x with
  | str z =>
    obtain ⟨t, rfl⟩ := r
    cases (show T = "str" from ty)
    exact ⟨typeIs_str s z t, fun _ e => nomatch e⟩
  | int i =>
    obtain ⟨t, rfl⟩ := r
    cases (show T = "int" from ty)
    exact ⟨typeIs_int s i t, fun _ e => nomatch e⟩
  | ref p =>
    cases r
    rcases ty with ⟨rfl, xs, hq⟩ | ⟨rfl, o, hk, hc, hd⟩ | ⟨rfl, hk⟩ | ⟨rfl, S, n, hk⟩
    · obtain ⟨its, _, pl, _⟩ := I.list hq
      refine ⟨pl.isList.typeIs, fun a e => ?_⟩
      cases e
      obtain ⟨o, n, e, c, hd, _⟩ := pl
      exact ⟨o, e, hd⟩
    · refine ⟨⟨o, I.kIn p o hk, hc⟩, fun a e => ?_⟩
      cases e
      exact ⟨o, I.kIn _ o hk, hd⟩
    · have z : ∃ o, s.heap.get? p = some o ∧ o.ExactDict := by
        rcases hk with ⟨kvs, hk⟩ | ⟨kvs, hk⟩
        · obtain ⟨_, _, _, _, o, _, _, e, ex, _⟩ := I.hok p _ hk
          exact ⟨o, e, ex⟩
        · obtain ⟨_, _, _, _, o, _, _, e, ex, _⟩ := I.hok p _ hk
          exact ⟨o, e, ex⟩
      obtain ⟨o, e, ex⟩ := z
      refine ⟨⟨o, e, ex.1⟩, fun a e2 => ?_⟩
      cases e2
      exact ⟨o, e, ex.2.1⟩
    · obtain ⟨o, _, _, _, e, ex, _⟩ := I.hok p _ hk
      refine ⟨⟨o, e, ex.1⟩, fun a e2 => ?_⟩
      cases e2
      exact ⟨o, e, ex.2.1⟩
  | _ => exact False.elim ty
def tBM0 (K : PySem.W.Frag) (T : String) (r : V → List V → Hp → VK → Prop) (to : TE) : TE := fun σ H Q => to σ H fun x H1 => tyV K T x H1 ∧ r x [] H1 Q
def tBM (K : PySem.W.Frag) (T : String) (r : V → List V → Hp → VK → Prop) (to : TE) (t : TA) : TE := fun σ H Q => to σ H fun x H1 => tyV K T x H1 ∧ t σ H1 fun xs H2 => r x xs H2 Q
variable {o e : Expr} {es : List Expr} {to : TE} {t : TA} {name : Str} {apos cpos : Pos} {T id : String} {r : V → List V → Hp → VK → Prop}
theorem pe_bm (pa : PlainAttrs T) (slot : Slot T name id) (hty : typeOf (.builtin id) = pure (.type "method_descriptor")) (hm : MtR X id r) (ho : PE X o to) (ha : PA X (e :: es) t)
    (hbase : attributeBase o name X.env (eval o X.env) = eval o X.env := by rfl)
    (hfew : ((backTo cpos (starEach (e :: es) X.env)).all (fun x => !x.1) && (backToKw cpos (keywordEach [] X.env)).all (fun x => x.1.isSome)
      && decide ((e :: es).length + ([] : List Keyword).length + (if ([] : List Keyword).isEmpty then 0 else 1) < 30)) = true := by rfl)
    (hline : (apos.endLine == cpos.line) = true := by rfl) (hs : starEach (e :: es) X.env = (false, eval e X.env) :: starEach es X.env := by rfl) (hplain : (backTo cpos (starEach es X.env)).any (·.1) = false := by rfl) :
    PE X (.Call (.Attribute o name apos) (e :: es) [] cpos) (tBM X.K T r to t) := by
  intro pins s σ H Q I h
  refine wpAny_Call_method_late hbase hfew hline rfl (thn (ho pins s σ H _ I h) fun v s1 ⟨x, H1, I1, r1, ty, q1⟩ => ?_)
  obtain ⟨h1, h2⟩ := tyV_is I1 r1 ty
  refine ⟨T, id, pa, slot, hty, h1, h2, ?_⟩
  have hA := ha cpos pins s1 σ H1 _ I1 q1
  rw [hs] at hA ⊢
  refine Calls.callWith_builtin (by show (false || (backTo cpos (starEach es X.env)).any (·.1)) = false; rw [hplain] <;> rfl) (Calls.evalArgs_plain ?_)
  exact thn hA fun us s2 ⟨vs, H2, I2, r2, q2⟩ => hm pins s2 σ H2 x vs v us Q I2 r1 r2 q2
/- xs.append(e), list.index on a module's tuple .. are MtR facts of 06m -/
end
end L2

namespace L2
open PySem PySem.Spec PyProof.Rows

def MtM (X : Cx) (id : String) (r : V → List V → Hp → VK → Prop) : Prop :=
  ∀ (pins : List (Addr × Obj)) (s : Shared) (σ : St) (H : Hp) (x : V) (xs : List V) (v : Value) (us : List Value) (Q : VK), Inv X pins σ H s → RelV x v → Vals xs us → r x xs H Q →
    wpAny (model X.prog X.w) X.A (call (.builtin id) (v :: us)) (EP X pins σ Q) X.xe s

/-! ### lists of values -/
theorem Vals.one : ∀ {x : V} {us : List Value}, Vals [x] us → ∃ u, us = [u] ∧ RelV x u
  | _, _, .cons r .nil => ⟨_, rfl, r⟩
theorem Vals.two : ∀ {x y : V} {us : List Value}, Vals [x, y] us → ∃ u v, us = [u, v] ∧ RelV x u ∧ RelV y v
  | _, _, _, .cons r (.cons q .nil) => ⟨_, _, rfl, r, q⟩
theorem Vals.zero : ∀ {us : List Value}, Vals [] us → us = []
  | _, .nil => rfl
theorem Vals.dropLast {xs : List V} {us : List Value} (h : Vals xs us) : Vals xs.dropLast us.dropLast := by
  induction h with
  | nil => exact .nil
  | cons r t ih =>
    cases t with
    | nil => exact .nil
    | cons q t' => exact .cons r ih
theorem Vals.eraseIdx : ∀ {xs : List V} {us : List Value} (i : Nat), Vals xs us → Vals (xs.eraseIdx i) (us.eraseIdx i)
  | _, _, _, .nil => .nil
  | _, _, 0, .cons _ t => t
  | _, _, i + 1, .cons r t => .cons r (Vals.eraseIdx i t)
theorem Vals.reverse {xs : List V} {us : List Value} (h : Vals xs us) : Vals xs.reverse us.reverse := by
  induction h with
  | nil => exact .nil
  | cons r t ih => rw [List.reverse_cons, List.reverse_cons]; exact Vals.append ih (.cons r .nil)
section
variable {X : Cx} {pins : List (Addr × Obj)} {σ : St} {H : Hp} {s : Shared} {l b : Addr} {xs ys zs : List V}

/-! ### the two steps: a tracked list is rewritten, a new list is laid -/
theorem Inv.lset {its its' : List Value} {n : Nat} {f : Array Value → Array Value} {t' : Nat} (I : Inv X pins σ H s) (hH : H l = some (.lst xs))
    (e : s.heap.get? l = some { cls := .type "list", data := .seq its.toArray n }) (hf : f its.toArray = its'.toArray) (hv : Vals ys its') (hz : ys.length ≤ sizeLine) :
    Inv X pins σ (upd H l (.lst ys)) { s with heap := s.heap.update l (Obj.mapSeq f), toks := t' } := by
  have q := PySem.IsL.update e f
  rw [hf] at q
  refine I.write (x := l) (e := l) (by rw [hH]; exact trivial) (.inl rfl) (fun b' u hb hu => (Heap.get?_update_other s.heap (Obj.mapSeq f) (Ne.symm hb)).trans hu) ⟨_, q⟩ ?_
  exact ⟨hz, its', _, hv, q⟩
theorem Inv.lnew {its : List Value} {t' : Nat} (I : Inv X pins σ H s) (hv : Vals ys its) (hz : ys.length ≤ sizeLine) :
    Inv X pins σ (upd H s.heap.objs.size (.lst ys)) { s with heap := s.heap.push { cls := .type "list", data := .seq its.toArray }, toks := t' } :=
  I.laid (fun _ _ q => Heap.get?_push_of_some _ q) (Nat.le_refl _) ⟨hz, its, 0, hv, Heap.get?_push_size _ rfl⟩
theorem Inv.fresh (I : Inv X pins σ H s) : H s.heap.objs.size = none := I.hok.fresh (Nat.le_refl _)
theorem Inv.lstM (I : Inv X pins σ H s) (hH : H l = some (.lst xs)) : xs.length ≤ sizeLine ∧ ∃ (its : List Value) (n : Nat), Vals xs its ∧ xs.length = its.length ∧ s.heap.get? l = some { cls := .type "list", data := .seq its.toArray n } := by
  obtain ⟨z, its, n, r, e⟩ := I.hok l _ hH
  exact ⟨z, its, n, r, r.length, e⟩

end

section
variable {X : Cx}

/-! ### methods -/
def rAppend : V → List V → Hp → VK → Prop := fun x vs H Q => ∃ l xs y, x = .ref l ∧ vs = [y] ∧ H l = some (.lst xs) ∧ xs.length < sizeLine ∧ Q .non (upd H l (.lst (xs ++ [y])))
theorem mt_append : MtM X "list.append" rAppend := by
  intro pins s σ H x vs v us Q I rx rv h
  obtain ⟨l, xs, y, rfl, rfl, hH, hz, q⟩ := h
  cases rx
  obtain ⟨u, rfl, ru⟩ := rv.one
  obtain ⟨z, its, n, r, hl, e⟩ := I.lstM hH
  refine call_meets F.slot_list_append ⟨_, e, rfl⟩ F.entry_list_append (F.args_list_append_2 _ _) (PySem.list_append l its.toArray n u (by rw [List.size_toArray]; omega)) ⟨e, ?_⟩
  refine ⟨.non, _, I.lset (its' := its ++ [u]) hH e (by simp) (r.append (.cons ru .nil)) ?_, rfl, q⟩
  rw [List.length_append, List.length_singleton]
  omega

def rExtend : V → List V → Hp → VK → Prop := fun x vs H Q => ∃ l b xs zs, x = .ref l ∧ vs = [.ref b] ∧ H l = some (.lst xs) ∧ H b = some (.lst zs) ∧ xs.length + zs.length ≤ sizeLine ∧ Q .non (upd H l (.lst (xs ++ zs)))
def rPop : V → List V → Hp → VK → Prop := fun x vs H Q => ∃ l xs y, x = .ref l ∧ vs = [] ∧ H l = some (.lst xs) ∧ xs[xs.length - 1]? = some y ∧ Q y (upd H l (.lst xs.dropLast))
def rPopAt : V → List V → Hp → VK → Prop := fun x vs H Q => ∃ l xs i k y, x = .ref l ∧ vs = [.int i] ∧ H l = some (.lst xs) ∧ -(2 ^ 63) ≤ i ∧ i < 2 ^ 63 ∧ seqIndex? i xs.length = some k ∧ xs[k]? = some y ∧ Q y (upd H l (.lst (xs.eraseIdx k)))
def rReverse : V → List V → Hp → VK → Prop := fun x vs H Q => ∃ l xs, x = .ref l ∧ vs = [] ∧ H l = some (.lst xs) ∧ Q .non (upd H l (.lst xs.reverse))
def rClear : V → List V → Hp → VK → Prop := fun x vs H Q => ∃ l xs, x = .ref l ∧ vs = [] ∧ H l = some (.lst xs) ∧ Q .non (upd H l (.lst []))
/-! ### list + list, list += list, list * int -/
def rCat : R2 := fun x y H Q => ∃ l b xs zs, x = .ref l ∧ y = .ref b ∧ H l = some (.lst xs) ∧ H b = some (.lst zs) ∧ xs.length + zs.length ≤ sizeLine ∧ ∀ p, H p = none → Q (.ref p) (upd H p (.lst (xs ++ zs)))
theorem op_cat : OpR X (binaryOp .Add) rCat := by
  intro pins s σ H x y v u Q I rx ry h
  obtain ⟨l, b, xs, zs, rfl, rfl, hH, hB, hz, q⟩ := h
  cases rx
  cases ry
  obtain ⟨z, its, n, r, hl, e⟩ := I.lstM hH
  obtain ⟨z2, its2, n2, r2, hl2, e2⟩ := I.lstM hB
  refine PySem.P.add_list e e2 ?_ (by rw [List.size_toArray, List.size_toArray]; omega)
  have ea : its.toArray ++ its2.toArray = (its ++ its2).toArray := by simp
  rw [ea]
  exact ⟨.ref _, _, I.lnew (t' := s.toks) (r.append r2) (by rw [List.length_append]; omega), rfl, q _ I.fresh⟩
/-- a list times an int (a negative one is nothing) -/
def rRep : R2 := fun x y H Q => ∃ l k xs, x = .ref l ∧ y = .int k ∧ H l = some (.lst xs) ∧ -(2 ^ 63) ≤ k ∧ k < 2 ^ 63 ∧ xs.length * k.toNat ≤ sizeLine ∧
  ∀ p, H p = none → Q (.ref p) (upd H p (.lst (List.replicate k.toNat xs).flatten))
/-! ### del xs[i] -/
end

/-! ### xs[a:b] = ys -/
section
variable {prog : Program} {w : World} {A : Around} {E : Value → Shared → Prop} {s : Shared}
end

section
variable {X : Cx}
end
end L2

namespace Att
open PySem PySem.W PySem.Calls PyProof.Rows

/-! ### the script -/
theorem ints_of_wellAll {P : Params} {h : Heap} : ∀ (ns : List Int) (vs : List Value), WellAll P h vs (ns.map WData.int) → IntsAre vs ns := by
  intro ns
  induction ns with
  | nil =>
    intro vs w
    rw [List.map_nil] at w
    cases w
    exact .nil
  | cons n ns ih =>
    intro vs w
    rw [List.map_cons] at w
    cases w with
    | cons a b =>
      cases a
      exact .cons _ _ (ih _ b)

theorem script_of {l : OpenLaw} {n : Nat} (hn : l.most = some n) {P : Params} {h : Heap} {args : List WData} {vals : List Value}
    (hpre : l.row.toRowW.claim.pre args = true) (hwl : WellAll P h vals args) :
    ∃ a vs ns, vals = [Value.ref a] ∧ args = [WData.list (ns.map WData.int)] ∧ h.get? a = some { cls := .type "list", data := .seq vs.toArray } ∧ IntsAre vs ns ∧ ns.length ≤ n := by
  have hsh : WShape.hasAll [] args [.list .int] = true := (pre_splitW hpre).1
  have hc : l.pre.holds [] { args := args } = true := (pre_splitW hpre).2
  obtain ⟨d, r, rfl, h1, h2⟩ := hasAllW_cons hsh
  obtain rfl := hasAllW_nil h2
  obtain ⟨xs, rfl, h3⟩ := hasW_list h1
  obtain ⟨ns, rfl⟩ := items_int h3
  have hlen : ns.length ≤ n := by
    unfold OpenLaw.pre at hc
    have h4 : (WTm.not (.lt (.lit (.int (n : Int))) (.len (.arg 0)))).holds [] { args := [.list (ns.map .int)] } = true := by
      have h4 := (holds_andW hc).1
      rw [hn] at h4
      exact h4
    have h5 := condW_of h4 (w_not (w_lt w_lit (w_len_list (w_arg rfl))))
    rw [List.length_map] at h5
    refine Nat.le_of_not_lt fun q => ?_
    have q' : (n : Int) < ((ns.length : Nat) : Int) := by omega
    first
      | (rw [decide_eq_true q'] at h5; exact absurd h5 (by decide))
      | (simp at h5; omega)
  cases hwl with
  | cons w1 w2 =>
    cases w2
    cases w1 with
    | list ho hall => exact ⟨_, _, ns, rfl, rfl, ho, ints_of_wellAll ns _ hall, hlen⟩

theorem post_true (l : OpenLaw) (args : List WData) : l.row.toRowW.claim.post args (.bool true) args = true :=
  postW_of (r := l.row.toRowW) (X := (true == true))
    (show WShape.has [] (.bool true) .bool = true by first | rfl | decide | simp [WShape.has, WShape.arms, WShape.armsAll])
    (show (WTm.eq .res (.lit (.bool true))).value [] { args := args, res := some (.bool true), after := args } = some (.bool (true == true)) from w_eq_bool (w_res rfl) w_lit) rfl

/-! ### the attachment: holds_open's last premise (the goal 'hc' behind k_head) from a wpAny of the law's body -/
/-- the same from a codeAny of the CALL (for a layer whose function contracts speak of calls) -/
theorem attach_call {l : OpenLaw} {n : Nat} {q : Program} {loose : List Str} {XP : (Str → Option Value) → Heap → Prop} {YP : World → Heap → Prop} {d : DefRec}
    (hn : l.most = some n) (hdf : d.params.defaults = [])
    (call : ∀ (w : World) (s₀ s₁ : Shared) (mg mb : Str → Option Value) (fa : Addr) (o : Obj) (pm cd doc : Value) (a : Addr) (vs : List Value) (ns : List Int),
      Ground q loose [] XP w s₀ mg mb s₁.heap → YP w s₁.heap →
      s₁.heap.get? fa = some o → o.data = .func (docDef d.name d.params d.body d.scope pm cd doc) → s₁.heap.CodeRec cd d.name → mg d.name = some (.ref fa) →
      s₁.heap.get? a = some { cls := .type "list", data := .seq vs.toArray } → IntsAre vs ns → ns.length ≤ n → s₁.gens = #[] →
      codeAny (model l.prog w) callerA (.call (.ref fa) ⟨[.ref a], []⟩) (fun r s' => r = .ok (.ret (.bool true)) ∧ OldK s₁.heap s'.heap ∧ s'.os = s₁.os ∧ AllBare s'.gens) s₁) :
    WalkO q loose XP YP l.row.toRowW d [] (fun f vs => PySem.call f vs) := by
  intro w s₀ s₁ mg mb G Y fa o pm cd doc dV kV ho hd hcd hD hmg hg args vals as hpre hlay hrd hwl hlo
  obtain rfl : dV = .none := Dflts.none hD hdf
  obtain rfl : kV = .none := Dflts.noKw hD
  obtain ⟨a, vs, ns, rfl, rfl, hobj, hints, hlen⟩ := script_of hn hpre hwl
  refine enter_call (codeAny_mono (call w s₀ s₁ mg mb fa o pm cd doc a vs ns G Y ho (fd_plain hd) hcd hmg hobj hints hlen hg) fun r s' hq => ?_)
  obtain ⟨rfl, h2, h3, h4⟩ := hq
  exact ⟨.inl ⟨.bool true, .bool true, [], rfl, fun _ => rfl, .bool true, post_true l _, fun _ => ⟨List.Pairwise.nil, fun _ hm => (nomatch hm)⟩⟩, h2, h3, h4⟩

/-! ### rules over ANY heap (no ledger) from facts about the written part K: the library's own take a ledger (News) for what they write -/
section
variable {prog : Program} {w : World} {A : Around} {E : Value → Shared → Prop} {s : Shared} {K : Frag}

/-! the whole heap as the ledger: makes every rule that writes through a ledger a rule over any heap -/
def noObjs (h : Heap) : Heap := { h with objs := #[] }
def ledger (h : Heap) (L d : Addr) : List (Addr × Obj) := (List.range h.objs.size).filterMap fun a => if a = L ∨ a = d then none else (h.get? a).map fun o => (a, o)
end
end Att

namespace L2
open PySem PySem.Spec PyProof.Rows

theorem vals_ints : ∀ {vs : List Value} {ns : List Int}, IntsAre vs ns → Vals (ns.map V.int) vs
  | _, _, .nil => .nil
  | _, _, .cons n t h => .cons ⟨t, rfl⟩ (vals_ints h)

/-- nothing is tracked but the script, known to the object (or it is an object of the module) -/
def Only (H : Hp) : Prop := ∀ b, H b = none ∨ ∃ o xs, H b = some (.frz o (.lst xs))

/-- THE HEAD: the law's promise, at the heap behind the top. F, the promise of the law's def, may use that base is part of the heap (so K.In base, base.Ns mainGlobals mg stand in Mod) -/
theorem law_call {P : Program} {w : World} {K : PySem.W.Frag} {mg mb : Str → Option Value} {CX : CXT} {k : Nat} {fa a : Addr} {fd : FuncData} {x : Str} {sp : Sp} {s₁ : Shared} {vs : List Value} {ns : List Int}
    (KX : K.In s₁.heap) (hns : s₁.heap.Ns mainGlobals mg) (hb : s₁.heap.Ns builtinsNs mb) (hbb : ∀ x : Str, x ≠ "__name__" → mb x = bootBuiltins x) (hlim : s₁.heap.NoLimit) (hg : s₁.gens = #[])
    (ha : s₁.heap.get? a = some { cls := .type "list", data := .seq vs.toArray }) (hi : IntsAre vs ns) (hl : ns.length ≤ sizeLine) (hr : Room k callerA)
    (F : ∀ base : Heap, K.In base → base.Ns mainGlobals mg → FnOk P w K mg base CX k fa fd [x] sp) (hbind : ∀ (s : Shared) (u : Value), BindsTo s fd ⟨[u], []⟩ [(x, u)])
    (hsp : ∀ H : Hp, Only H → SqL K H a (ns.map V.int) → sp [.ref a] H (fun v _ => v = .bl true) fun _ _ _ => False)
    (hCX : ∀ H e s', CX [] H s₁ (fun _ _ _ => False) e s' → False) :
    codeAny (model P w) callerA (.call (.ref fa) ⟨[.ref a], []⟩) (fun r s' => r = .ok (.ret (.bool true)) ∧ OldK s₁.heap s'.heap ∧ s'.os = s₁.os ∧ AllBare s'.gens) s₁ := by
  have rv := vals_ints hi
  have lenV := hi.length
  -- from an abstract heap in which nothing but the script may be tracked
  have core : ∀ H : Hp, Only H → SqL K H a (ns.map V.int) → HOk P w H s₁.heap → (∀ b, H b ≠ none → b = a) → (H a ≠ none → K.lookup a = none) →
      codeAny (model P w) callerA (.call (.ref fa) ⟨[.ref a], []⟩) (fun r s' => r = .ok (.ret (.bool true)) ∧ OldK s₁.heap s'.heap ∧ s'.os = s₁.os ∧ AllBare s'.gens) s₁ := by
    intro H hO hS hok hA hK
    have base_of : ∀ {b : Addr} {o : Obj}, s₁.heap.get? b = some o → H b = none → (hidT s₁.heap H).get? b = some o := fun e n => hidT_get e n
    have noA : ∀ {b : Addr} {o : Obj} {es : Array DictEntry} {ep : Nat}, s₁.heap.get? b = some o → o.data = .dict es ep → H b = none := fun {b o es ep} e d => by
      cases q : H b with
      | none => rfl
      | some u =>
        have e' : b = a := hA b (by rw [q]; simp)
        subst e'
        rw [ha] at e; cases e
        have d' : Data.seq vs.toArray _ = Data.dict es ep := d
        cases d'
    have nsK : ∀ {b : Addr} {m : Str → Option Value}, s₁.heap.Ns b m → (hidT s₁.heap H).Ns b m := fun {b m} ⟨o, es, ep, e, d, r⟩ => ⟨o, es, ep, base_of e (noA e d), d, r⟩
    have hKb : K.In (hidT s₁.heap H) := fun b o e => base_of (KX b o e) (by
      cases q : H b with
      | none => rfl
      | some u =>
        have e' : b = a := hA b (by rw [q]; simp)
        subst e'
        rw [hK (by rw [q]; simp)] at e; cases e)
    have hM : Mod K mg (hidT s₁.heap H) := ⟨hKb, nsK hns, ⟨mb, nsK hb, hbb⟩, let ⟨mc, h1, h2⟩ := hlim; ⟨mc, nsK h1, h2⟩⟩
    have e0 : Env0 P w K mg (hidT s₁.heap H) callerA [] s₁ H := ⟨rfl, hM, fun b o e => of_hidT e, Nat.le_of_eq (hidT_size _ _), trivial, fun b hb => absurd (show b ∈ ([] : List Addr) from hb) (by simp), hok, .of_eq hg⟩
    refine codeAny_mono ((F _ hKb (nsK hns)).run callerA [] s₁ H ⟨[.ref a], []⟩ [.ref a] [.ref a] _ _ hr e0 (hbind s₁ (.ref a)) (.cons rfl .nil) (hsp H hO hS)) fun r s' h => ?_
    cases r with
    | error e => exact (hCX H e s' h).elim
    | ok fl =>
      cases fl with
      | next => exact False.elim h
      | brk => exact False.elim h
      | cont => exact False.elim h
      | ret u =>
        obtain ⟨v, H', os, bare, un, hok', r', q⟩ := h
        have q' : v = .bl true := q
        subst q'
        obtain rfl : u = Value.bool true := r'
        refine ⟨rfl, OldK.of_keep fun b o e => ?_, os, bare⟩
        cases q : H b with
        | none => exact un.keep b o e q (by intro z; exact absurd (show b ∈ ([] : List Addr) from z) (by simp)) (by simp)
        | some u =>
          rcases hO b with z | ⟨ob, xs, z⟩
          · rw [q] at z; cases z
          · have z2 := un.frzs b ob _ z
            obtain ⟨e1, _⟩ := hok b _ z
            obtain ⟨e2, _⟩ := hok' b _ z2
            rw [e] at e1; cases e1
            exact e2
  cases hk : K.lookup a with
  | some o =>
    -- the script is one of the module's own objects
    have e := KX a o hk
    rw [ha] at e
    cases e
    refine core (fun _ => none) (fun _ => .inl rfl) (.inr ⟨_, vs.toArray, _, hk, rfl, rfl, rfl, by rw [List.size_toArray, lenV]; exact hl, by simpa using rv⟩) (fun b u z => by have z' : (none : Option HO) = some u := z; cases z') (fun b z => absurd rfl z) fun z => absurd rfl z
  | none =>
    refine core (fun b => if b = a then some (.frz { cls := .type "list", data := .seq vs.toArray } (.lst (ns.map V.int))) else none) (fun b => ?_) (.inl (.inr ⟨{ cls := .type "list", data := .seq vs.toArray }, if_pos rfl⟩)) (fun b u z => ?_) (fun b z => ?_) fun _ => hk
    · by_cases hb : b = a
      · exact .inr ⟨_, _, if_pos hb⟩
      · exact .inl (if_neg hb)
    · by_cases hb : b = a
      · have z' := (if_pos hb).symm.trans z
        cases z'
        subst hb
        exact ⟨ha, by rw [List.length_map]; exact hl, vs, _, rv, ha⟩
      · have z' := (if_neg hb).symm.trans z
        cases z'
    · by_cases hb : b = a
      · exact hb
      · exact absurd (if_neg hb) z
end L2

namespace L2
open PySem PySem.Spec PyProof.Rows

abbrev KOf {K : PySem.W.Frag} {h : Heap} (_ : K.In h) : PySem.W.Frag := K

/-- the goal that k_head leaves (case hc), from the law's promise. F gives the function object fd (K's own) once, then the promise over every base -/
theorem walk_of {l : PySem.W.OpenLaw} {n k : Nat} {q : Program} {loose : List Str} {XP : (Str → Option Value) → Heap → Prop} {YP : World → Heap → Prop} {d : DefRec} {K : Params → PySem.W.Frag} {CX : World → CXT} {sp : World → Sp} {x : Str}
    (hn : l.most = some n) (hn2 : n ≤ sizeLine) (hdf : d.params.defaults = []) (hr : Room k callerA)
    (hY : ∀ (w : World) (h : Heap), YP w h → (K w.params).In h)
    (F : ∀ (w : World) (mg : Str → Option Value) (fa : Addr) (h : Heap), (K w.params).In h → h.Ns mainGlobals mg → mg d.name = some (.ref fa) →
      ∃ fd : FuncData, (∀ (s : Shared) (u : Value), BindsTo s fd ⟨[u], []⟩ [(x, u)]) ∧
        ∀ base : Heap, (K w.params).In base → base.Ns mainGlobals mg → FnOk l.prog w (K w.params) mg base (CX w) k fa fd [x] (sp w))
    (hsp : ∀ (w : World) (H : Hp) (a : Addr) (ns : List Int), ns.length ≤ n → Only H → SqL (K w.params) H a (ns.map V.int) → sp w [.ref a] H (fun v _ => v = .bl true) fun _ _ _ => False)
    (hCX : ∀ (w : World) (H : Hp) (s : Shared) (e : Value) (s' : Shared), CX w [] H s (fun _ _ _ => False) e s' → False) :
    PySem.W.WalkO q loose XP YP l.row.toRowW d [] (fun f vs => PySem.call f vs) := by
  refine Att.attach_call hn hdf fun w s₀ s₁ mg mb fa o pm cd doc a vs ns G Y ho hd hcd hmg hobj hints hlen hg => ?_
  have KX := hY w _ Y
  obtain ⟨fd, hb, hF⟩ := F w mg fa _ KX G.T.g hmg
  exact law_call KX G.T.g G.T.b G.T.builtins G.T.nolimit hg hobj hints (Nat.le_trans hlen hn2) hr hF hb (fun H hO hS => hsp w H a ns hlen hO hS) fun H e s' => hCX w H s₁ e s'
end L2

/- THE LAST THEOREM (shape; LID, My.* are yours):
   My.Adr: a structure of the addresses that your layer names (classes, functions); My.Txt K t: a structure (Prop) of the equations over K;
   My.txt_mk : {K} {implicit addresses ..} (e1 : nsIn K mainGlobals "law" = some (some (.ref f))) (e2 : K.lookup f = some ⟨oc, od, .func (fnOf "law" "law" params body scope dV kV doc pm an cdv ct), sl⟩) (e3 : codeIn K cdv "law" = true) .. : ∃ t, My.Txt K t

set_option maxRecDepth 100000 in
set_option maxHeartbeats 0 in
theorem PySem.Challenge.cw_LID_holds : PySem.Challenge.rw_LID.Holds := by
  w_on; o_law; k_head; (case hw => w_witness2)
  k_fill
  refine L2.walk_of (l := PySem.Challenge.rw_LID) (n := 63) (k := 40) (x := "script") (CX := fun w => ..) (sp := fun _ => My.sp_law) rfl (by decide) rfl ⟨rfl, by decide, by decide⟩ (fun w h Y => PySem.W.kIn_of Y) ?F ?S ?C
  case F =>
    intro w mg fa h KX G hmg
    have T : ∃ t, My.Txt (L2.KOf KX) t := by
      dsimp only [L2.KOf]                          -- K must stand as «<heap const> w.params» for k_is
      refine' My.txt_mk ?e1 ?e2 ?e3 ..
      (case e1 => PySem.W.k_is)                    -- in the order: a name -> its address -> its object -> its parts
      (case e2 => PySem.W.k_is)
      ..
    obtain ⟨t, T⟩ := T
    have e0 := hmg.symm.trans (PySem.W.mg_of KX G T.law)
    cases e0                                       -- fa is the law's own address
    exact ⟨_, fun s u => .of_eq rfl, fun base kb nb => My.law_fn T kb nb⟩     -- if «.of_eq rfl» comes too early: refine' ⟨_, ?b, fun base kb nb => My.law_fn T kb nb⟩; exact fun s u => .of_eq rfl
  case S => exact fun w H a ns hl hO hS => ..
  case C => exact ..
(the tactic k_is has no namespace: write k_is) -/

/-! SHORT WORDS over the layer: a def of the text, its body, what a loop and a test want. -/
namespace L2
open PySem PySem.Spec PyProof.Rows

/-! ### the text by places -/
/-- the j-th statement of a class's body -/
def inClass (s : Stmt) (j : Nat) : Stmt := match s with
  | .ClassDef _ _ _ body _ _ _ _ _ _ _ => body.getD j (.Pass ⟨0, 0, 0, 0⟩)
  | _ => .Pass ⟨0, 0, 0, 0⟩
def defArgs (s : Stmt) : Arguments := match s with
  | .FunctionDef _ a _ _ _ _ _ _ _ _ => a
  | _ => { posonlyargs := [], args := [], vararg := none, kwonlyargs := [], kw_defaults := [], kwarg := none, defaults := [] }
def defBody (s : Stmt) : List Stmt := match s with
  | .FunctionDef _ _ b _ _ _ _ _ _ _ => b
  | _ => []
def defScope (s : Stmt) : Scope := match s with
  | .FunctionDef _ _ _ _ _ _ sc _ _ _ => sc
  | _ => { kind := .function, names := [], isGenerator := false, isCoroutine := false }

/-! ### no exception leaves a def -/
abbrev CX0 : CXT := fun _ _ _ _ _ _ => False
abbrev E0 : XK := fun _ _ _ => False
theorem pass0 {X : Cx} : Passes CX0 X E0 := fun _ _ _ _ _ _ _ h => h.elim

/-! ### a def (or method) of the text as it stands behind the top -/
structure Fun (K : PySem.W.Frag) (x qual : Str) (st : Stmt) (f : Addr) (fd : FuncData) : Prop where
  ex : ∃ (oc : Value) (od : Option Addr) (kV doc pm : Value) (an : Option Addr) (cdv ct : Value) (osl : Array (Option Value)),
    fd = PySem.W.fnOf x qual (defArgs st) (defBody st) (defScope st) .none kV doc pm an cdv ct ∧ K.lookup f = some ⟨oc, od, .func fd, osl⟩ ∧ PySem.W.codeIn K cdv qual = true
  kp : PySem.W.keepIn K (.ref f) = true
section
variable {P : Program} {w : World} {K : PySem.W.Frag} {mg : Str → Option Value} {base : Heap}
/-- THE RULE for a def: its body as a term of rules, and the reading of that term -/
theorem Fun.ok {x qual : Str} {st : Stmt} {f : Addr} {fd : FuncData} {N ps : List Str} {k : Nat} {sp : Sp} (F : Fun K x qual st f fd) (S : FnScope N ps (defScope st)) (len : ∀ vs H Q E, sp vs H Q E → vs.length = ps.length)
    (hbody : ∀ (cdv : Value) (A : Around) (outer : List Env) (s : Shared) (H : Hp) (vs : List V) (Q : VK) (E : XK), Room k (A.deeper (envOfC qual (defScope st) s.heap.objs.size f cdv)) → sp vs H Q E →
      ∃ t, PSs (cxOf CX0 P w K mg base N qual (defScope st) f cdv A outer s H E).nox (defBody st) t ∧ t { nx := fun _ H' => Q .non H', rt := Q } (start N vs) H) : FnOk P w K mg base CX0 (k + 1) f fd ps sp := by
  obtain ⟨oc, od, kV, doc, pm, an, cdv, ct, osl, rfl, lk, hcd⟩ := F.ex
  refine fn_of lk hcd S len fun A outer s H vs Q E hr hsp => ?_
  obtain ⟨t, h, q⟩ := hbody cdv A outer s H vs Q E hr hsp
  exact ⟨t, h.nox, q⟩
/-- how its arguments bind (no defaults): h is «fun _ _ _ _ _ _ us hl => match us, hl with | [_, _], _ => rfl», one _ a parameter -/
theorem Fun.binds {x qual : Str} {st : Stmt} {f : Addr} {fd : FuncData} {ps : List Str} (F : Fun K x qual st f fd)
    (h : ∀ (kV doc pm : Value) (an : Option Addr) (cdv ct : Value) (us : List Value), us.length = ps.length → bindArgs (PySem.W.fnOf x qual (defArgs st) (defBody st) (defScope st) .none kV doc pm an cdv ct) ⟨us, []⟩ = pure (ps.zip us)) : Binds K fd ps [] := by
  obtain ⟨oc, od, kV, doc, pm, an, cdv, ct, osl, rfl, lk, hcd⟩ := F.ex
  exact .all (h kV doc pm an cdv ct)
theorem fun_mk {x qual : Str} {st : Stmt} {f : Addr} {oc : Value} {od an : Option Addr} {osl : Array (Option Value)} {kV doc pm cdv ct : Value} (l : K.lookup f = some ⟨oc, od, .func (PySem.W.fnOf x qual (defArgs st) (defBody st) (defScope st) .none kV doc pm an cdv ct), osl⟩)
    (c : PySem.W.codeIn K cdv qual = true) (k : PySem.W.keepIn K (.ref f) = true) : Fun K x qual st f (PySem.W.fnOf x qual (defArgs st) (defBody st) (defScope st) .none kV doc pm an cdv ct) := ⟨⟨oc, od, kV, doc, pm, an, cdv, ct, osl, rfl, l, c⟩, k⟩
end
theorem small1000 {n : Nat} (h : n ≤ 1000) : n < sizeLine := Nat.lt_of_le_of_lt h (by decide)

/-! ### expressions in short: the name that stands in the i-th slot -/
section
variable {X : Cx}
theorem pv (i : Nat) {x : Str} {pos : Pos} (hN : X.N[i]? = some x := by rfl) (hv : Vis X.env.scope x := by first | exact Or.inl rfl | exact Or.inr (Or.inl rfl) | exact Or.inr (Or.inr rfl)) (hd : (x == ("__debug__" : Str)) = false := by decide)
    (hcd : (x == ("__classdict__" : Str)) = false := by decide) : PE X (.Name x pos) (tVar i) := pe_var hN hv hd hcd
end

/-! ### tests -/
theorem iteF {A B : Prop} (h : B) : if false = true then A else B := by
  rw [if_neg Bool.false_ne_true]
  exact h
theorem iteT {A B : Prop} (h : A) : if true = true then A else B := by
  rw [if_pos rfl]
  exact h
theorem ite2 {c A B : Prop} [Decidable c] (h1 : c → A) (h2 : ¬ c → B) : if c then A else B := by
  by_cases h : c
  · rw [if_pos h]
    exact h1 h
  · rw [if_neg h]
    exact h2 h
/-! ### heaps -/
/-- all that was tracked is as it was -/
def Same (H H' : Hp) : Prop := ∀ b o, H b = some o → H' b = some o
theorem Same.refl (H : Hp) : Same H H := fun _ _ h => h
theorem Same.trans {H H1 H2 : Hp} (a : Same H H1) (b : Same H1 H2) : Same H H2 := fun c o h => b c o (a c o h)
theorem Same.free {H H' : Hp} (e : Same H H') {l : Addr} (h : H' l = Option.none) : H l = Option.none := by
  cases q : H l with
  | none => rfl
  | some o =>
    rw [e l o q] at h
    cases h
theorem Same.seq {K : PySem.W.Frag} {H H' : Hp} {a : Addr} {xs : List V} (e : Same H H') (h : SqL K H a xs) : SqL K H' a xs := by
  rcases h with (h | ⟨o, h⟩) | h
  · exact .inl (.inl (e _ _ h))
  · exact .inl (.inr ⟨o, e _ _ h⟩)
  · exact .inr h

end L2

/-! OWN RULES over the hand layer: texts cut and walked, a comprehension, all, isinstance. -/
namespace L2
open PySem PySem.Spec PyProof.Rows
section
variable {X : Cx} {e l : Expr} {te tl : TE} {pos : Pos} {tg : Expr}

/-! ### a text cut -/
def rSlS : V → Option Int → Option Int → Hp → VK → Prop := fun x lo hi H Q => ∃ z, x = .str z ∧ z.length ≤ sizeLine ∧ Q (.str (Txt.slice z lo hi)) H
theorem part_of {v : Value} {o : Option Int} (p : IsPart v o) : ∃ q : Option (Int × Tok), v = partValue q ∧ q.map (·.1) = o := by
  cases p with
  | none => exact ⟨none, rfl, rfl⟩
  | int i t => exact ⟨some (i, t), rfl, rfl⟩
theorem sl_str : SlR X rSlS := by
  intro pins s σ H x v vl vu lo hi sl Q I rx hs pl pu h
  obtain ⟨z, rfl, hz, q⟩ := h
  obtain ⟨t, rfl⟩ := rx
  obtain ⟨ql, rfl, rfl⟩ := part_of pl
  obtain ⟨qu, rfl, rfl⟩ := part_of pu
  obtain ⟨o, ho, hc, hd⟩ := hs
  refine ⟨"str", _, F.slot_str_getitem.lookup, typeIs_str _ _ _, ?_⟩
  refine wpAny_getItem_str_slice (l := ql) (u := qu) (st := none) ⟨o, ho, hc, hd⟩ rfl ?_
  exact post_val_or_str ⟨Nat.le_trans (Txt.slice_le z _ _) hz, fun t' k => ⟨.str (Txt.slice z (ql.map (·.1)) (qu.map (·.1))), H, I.tok _, ⟨_, rfl⟩, q⟩⟩

/-! ### a text walked -/
def Its (z : Str) : It := ⟨fun i _ => i < z.length, fun i H x H' => H' = H ∧ ∃ c, z.cps[i]? = some c ∧ x = .str ⟨#[c]⟩, fun i _ => z.length ≤ i⟩
theorem turn_str {P : Program} {w : World} {K : PySem.W.Frag} {ty : String} (hty : ty = "str_ascii_iterator" ∨ ty = "str_iterator") (it : Addr) (z : Str) (t : Tok) : Turn P w K tg (Its z) [it] it (fun i h => h.IsStrIter it ty z t i) where
  mem := by simp
  obj := fun i h st b hb => by
    have e : b = it := by simpa using hb
    subst e
    obtain ⟨o, e, c, d⟩ := st
    exact ⟨o, e, fun v z => by rw [d] at z; cases z⟩
  keep := fun i h h' st k => by
    obtain ⟨o, e, r⟩ := st
    exact ⟨o, k it (by simp) o e, r⟩
  item := by
    intro X hP hw hK hc i pins s σ H E I hf st hg
    subst hP hw hK
    have hi : i < z.cps.size := hg
    have hx : z.cps[i]? = some z.cps[i] := by simp [hi]
    obtain ⟨f0, f1, f2, f3, f4, f5⟩ := hf it (by simp)
    rcases hty with rfl | rfl
    · refine wpAny_pyNext_ascii_item st hx fun h' st' sb => ?_
      have I1 : Inv X pins σ H { s with heap := h', toks := s.toks + 1 } := I.turned (t' := s.toks + 1) (fun b o hb e => (sb.2 b hb).trans e) f0 f1 f3 f4 f5
      obtain ⟨o, e, c, d⟩ := id st'
      exact ⟨_, rfl, go_of (s := { s with heap := h', toks := s.toks + 1 }) e c d (by decide) ⟨.str ⟨#[z.cps[i]]⟩, H, I1, ⟨_, rfl⟩, ⟨rfl, _, hx, rfl⟩, st', fun b hb => (hf b hb).1⟩⟩
    · refine wpAny_pyNext_wide_item st hx fun h' st' sb => ?_
      have I1 : Inv X pins σ H { s with heap := h', toks := s.toks + 1 } := I.turned (t' := s.toks + 1) (fun b o hb e => (sb.2 b hb).trans e) f0 f1 f3 f4 f5
      obtain ⟨o, e, c, d⟩ := id st'
      exact ⟨_, rfl, go_of (s := { s with heap := h', toks := s.toks + 1 }) e c d (by decide) ⟨.str ⟨#[z.cps[i]]⟩, H, I1, ⟨_, rfl⟩, ⟨rfl, _, hx, rfl⟩, st', fun b hb => (hf b hb).1⟩⟩
  done := by
    intro X hP hw hK hc i pins s σ H E I hf st hg
    subst hP hw hK
    have hi : z.cps.size ≤ i := hg
    have hx : z.cps[i]? = none := by simp [hi]
    obtain ⟨f0, f1, f2, f3, f4, f5⟩ := hf it (by simp)
    rcases hty with rfl | rfl
    · exact wpAny_pyNext_ascii_end (I.ok.hd hc) st hx fun h' eb => ⟨rfl, I.turned (t' := s.toks) (fun b o hb e => eb b o hb e) f0 f1 f3 f4 f5⟩
    · exact wpAny_pyNext_wide_end (I.ok.hd hc) st hx fun h' eb => ⟨rfl, I.turned (t' := s.toks) (fun b o hb e => eb b o hb e) f0 f1 f3 f4 f5⟩
  self := fun _ _ _ _ _ st h => by
    rcases hty with rfl | rfl
    · exact wpAny_pyIter_striter_ascii st h
    · exact wpAny_pyIter_striter_wide st h
def iStr (tl : TE) : TI := fun σ H R => tl σ H fun x H1 => ∃ z, x = .str z ∧ R (Its z) H1
theorem pi_str (hl : PE X l tl) : PI X tg l (iStr tl) := by
  intro pins s σ H R I h
  refine thn (hl pins s σ H _ I h) fun v s1 ⟨x, H1, I1, r1, q1⟩ => ?_
  obtain ⟨z, e, q⟩ := q1
  subst e
  obtain ⟨t, rfl⟩ := r1
  have fp : ∀ b ∈ [s1.heap.objs.size], FpOk X pins H1 b := fun b hb => by
    have e : b = s1.heap.objs.size := by simpa using hb
    subst e
    exact I1.fpOk (Nat.le_refl _) (I1.hok.fresh (Nat.le_refl _))
  cases ha : z.cps.all (· < 128) with
  | true =>
    refine wpAny_pyIter_ascii ha ?_
    exact ⟨s1.heap.objs.size, [s1.heap.objs.size], _, _, H1, rfl, I1.kept (t' := s1.toks) fun b o e => Heap.get?_push_of_some _ e, turn_str (.inl rfl) _ z t, ⟨_, Heap.get?_push_size _ rfl, rfl, rfl⟩, fp, q⟩
  | false =>
    refine wpAny_pyIter_wide ha ?_
    exact ⟨s1.heap.objs.size, [s1.heap.objs.size], _, _, H1, rfl, I1.kept (t' := s1.toks) fun b o e => Heap.get?_push_of_some _ e, turn_str (.inr rfl) _ z t, ⟨_, Heap.get?_push_size _ rfl, rfl, rfl⟩, fp, q⟩
/-! ### all of a list of bools -/
theorem call_all_bools (hc : X.calm = true) : CallR X (.builtin "all") (fun xs H Q => ∃ (p : Addr) (bs : List Bool), xs = [.ref p] ∧ SqL X.K H p (bs.map V.bl) ∧ Q (.bl (bs.all id)) H) := by
  intro pins s σ H xs us Q I r h
  obtain ⟨p, bs, rfl, hq, q⟩ := h
  obtain ⟨u, rfl, rx⟩ := vals1 r
  cases rx
  obtain ⟨its, rv, pl, hz⟩ := I.list hq
  have hl := rv.length
  rw [List.length_map] at hl
  have hp : p < s.heap.objs.size := by
    obtain ⟨o, ho, _⟩ := pl.isList
    exact Heap.lt_size ho
  have hne : p ≠ s.heap.objs.size := Nat.ne_of_lt hp
  refine call_all_walk (wpAny_pyIter_list pl.isList ?_)
  refine ⟨s.heap.objs.size, [s.heap.objs.size, p], [s.heap.objs.size], its.toArray.size, _, _, fun i => bs.getD i true, rfl, Walks.list (show X.A.in1.handled = none from I.ok.hd hc) _ p hne its.toArray, ⟨⟨_, Heap.get?_push_size _ rfl, rfl, rfl⟩, pl.isList.push _⟩, ?_, fun h' tk hk => ?_⟩
  · intro i v s' Q' E' hv hQ
    have hv' : its[i]? = some v := by simpa using hv
    have hi : i < its.length := (List.getElem?_eq_some_iff.mp hv').1
    have hb : bs[i]? = some (bs.getD i true) := by
      rw [List.getD_eq_getElem?_getD, List.getElem?_eq_getElem (by omega)]
      rfl
    obtain ⟨w', e1, e2⟩ := rv.get (i := i) (x := .bl (bs.getD i true)) (by rw [List.getElem?_map, hb]; rfl)
    rw [hv'] at e1
    cases e1
    cases (show v = Value.bool _ from e2)
    exact wpAny_truthy_bool hQ
  · have e : (List.range its.toArray.size).all (fun i => bs.getD i true) = bs.all id := by
      rw [Bool.eq_iff_iff, List.all_eq_true, List.all_eq_true]
      constructor
      · intro h x hx
        obtain ⟨i, hi, rfl⟩ := List.mem_iff_getElem.mp hx
        have := h i (List.mem_range.mpr (by simp only [List.size_toArray]; omega))
        rw [List.getD_eq_getElem?_getD, List.getElem?_eq_getElem hi] at this
        exact this
      · intro h i hi
        have hi' : i < bs.length := by have := List.mem_range.mp hi; simp only [List.size_toArray] at this; omega
        rw [List.getD_eq_getElem?_getD, List.getElem?_eq_getElem hi']
        exact h _ (List.getElem_mem hi')
    refine ⟨.bl (bs.all id), H, I.kept (t' := tk) fun b o eb => hk b o ?_ (Heap.get?_push_of_some _ eb), congrArg Value.bool e, q⟩
    intro hm
    have : b = s.heap.objs.size := by simpa using hm
    exact absurd (Heap.lt_size eb) (by rw [this]; exact Nat.lt_irrefl _)

/-! ### isinstance(x, T), T a built-in type -/
theorem call_isinst : CallR X (.builtin "isinstance") (fun xs H Q => ∃ x t n b, xs = [x, .ty n] ∧ TyOf X.K H x t ∧ PySem.W.kitOne X.K t (.type n) = some b ∧ Q (.bl b) H) := by
  intro pins s σ H xs us Q I r h
  obtain ⟨x, t, n, b, rfl, ty, hk, q⟩ := h
  obtain ⟨u, w', rfl, rx, ry⟩ := vals2 r
  cases (show w' = Value.type n from ry)
  exact isinst_ok I rx ty hk fun tk => ⟨.bl b, H, I.tok _, rfl, q⟩
end

/-! ### a comprehension: its block is a context of its own -/
structure Clo (X : Cx) (scope : Scope) (cl : List (Str × Addr)) : Prop where
  eq : closureFor scope X.env = pure cl
  sub : ∀ y c, cl.lookup y = some c → X.env.cells.lookup y = some c
  has : ∀ y, ((relabel scope X.env).names.lookup y = some .cell ∨ (relabel scope X.env).names.lookup y = some .free) → ∃ c, cl.lookup y = some c
theorem clo_none {X : Cx} {scope : Scope} (hfree : ∀ x ∈ scope.names, x.2 ≠ .free) (hcell : ∀ x ∈ scope.names, x.2 ≠ .cell) : Clo X scope [] := by
  refine ⟨closureFor_none hfree, fun y c h => by simp at h, fun y h => ?_⟩
  have e : (relabel scope X.env).names = scope.names := by
    unfold relabel
    refine map_eq_self (fun x hx => ?_)
    obtain ⟨n, k⟩ := x
    have : (k == NameKind.free) = false := by simpa using hfree _ hx
    simp [this]
  rw [e] at h
  rcases h with h | h
  · exact absurd rfl (hcell _ (PySem.mem_of_lookup h))
  · exact absurd rfl (hfree _ (PySem.mem_of_lookup h))

def cxComp (X : Cx) (N' : List Str) (scope : Scope) (cl : List (Str × Addr)) (fp : List Addr) (s₃ : Shared) (H₃ : Hp) : Cx where
  prog := X.prog
  w := X.w
  K := X.K
  mg := X.mg
  base := X.base
  A := X.A
  N := N'
  s₀ := s₃
  H₀ := H₃
  env := compEnvC scope cl s₃.heap.objs.size X.env
  outer := X.stack
  stack := X.stack
  ex := fp
  calm := X.calm
  fn := fun _ => false
  pn := []
  xe := fun _ _ => False

/-- the free names' values -/
def fvs (σ : St) (ix : List Nat) : St := ix.map fun i => (σ[i]?).join
def tLC (wi : TI) (ix : List Nat) (te : TE) : TE := fun σ H Q => wi σ H fun J H1 => ∀ D, H1 D = none →
  ∃ W : Nat → Nat → List V → Hp → Prop, (∃ m, W 0 m [] (upd H1 D (.lst []))) ∧
    ∀ i m ys H', W i m ys H' → H' D = some (.lst ys) ∧
      ((J.stop i H' ∧ Q (.ref D) H') ∨ (J.go i H' ∧ ∀ x H'', J.yld i H' x H'' → te (some x :: fvs σ ix) H'' fun y H3 =>
        H3 D = some (.lst ys) ∧ ys.length < sizeLine ∧ ∃ m', m' < m ∧ W (i + 1) m' (ys ++ [y]) (upd H3 D (.lst (ys ++ [y])))))

/-- the loop of a comprehension, with the step ahead of the store -/
theorem compLoop_go {prog : Program} {w : World} {A : Around} {R : Result → Shared → Prop} {s : Shared} {elt target iter : Expr} {scope : Scope} {pos : Pos} {it acc : Value} {env : Env} (I : Nat → Shared → Prop)
    (turn : ∀ n s, I n s → wpAny (model prog w) A (pyNext it) (fun r s₁ => match r with
      | none => R (.ok .next) s₁
      | some v => wpAny (model prog w) A (letOwnedTupleGo target it v) (fun _ s₁' => wpAny (model prog w) A (assign target env v) (fun _ s₂ => wpAny (model prog w) A (eval elt env) (fun x s₃ =>
          wpAny (model prog w) A (call (.builtin "list.append") [acc, x]) (fun _ s₄ => ∃ m, m < n ∧ I m s₄) (notedBy (model prog w) A env fun e s' => R (.error e) s') s₃)
          (notedBy (model prog w) A env fun e s' => R (.error e) s') s₂) (notedBy (model prog w) A env fun e s' => R (.error e) s') s₁') (notedBy (model prog w) A env fun e s' => R (.error e) s') s₁) (notedBy (model prog w) A env fun e s' => R (.error e) s') s)
    (n : Nat) (h : I n s) :
    codeAny (model prog w) A (.compLoop (.ListComp elt [⟨target, iter, [], 0⟩] scope pos) 0 it acc env) R s := by
  refine codeAny_loop rfl I (fun n s hI => ?_) n h
  show wpAny _ _ ((compTurn (.ListComp elt [⟨target, iter, [], 0⟩] scope pos) 0 it acc env).onRaise (fun x => do noteFrame x env; theTreesLotGoes x)) _ _ s
  refine wpAny_noted ?_
  rw [compTurn_list1]
  refine wpAny_bind (wpAny_standAt (wpAny_bind (wpAny_mono (turn n s hI) (fun r s₁ h₁ => ?_) fun _ _ h' => h')))
  cases r with
  | none => exact wpAny_pure h₁
  | some v =>
    refine wpAny_bind (wpAny_mono h₁ (fun _ s₁' h₁' => ?_) fun _ _ h' => h')
    exact wpAny_bind (wpAny_mono h₁' (fun _ s₂ h₂ => wpAny_bind (wpAny_bind (wpAny_mono h₂ (fun x s₃ h₃ => wpAny_bind (wpAny_mono h₃
      (fun _ s₄ h₄ => wpAny_pure (wpAny_pure ⟨rfl, h₄⟩)) fun _ _ h' => h')) fun _ _ h' => h'))) fun _ _ h' => h')

section
variable {X : Cx} {N' : List Str} {scope : Scope} {cl : List (Str × Addr)} {fp : List Addr} {pins : List (Addr × Obj)} {σ : St} {H : Hp} {s : Shared}
/-- the block's context stands -/
theorem comp_ok (I : Inv X pins σ H s) (C : Clo X scope cl) (hkind : scope.kind = .function) (hf : ∀ b ∈ fp, FpOk X pins H b) (hlt : ∀ b ∈ fp, b < s.heap.objs.size) : (cxComp X N' scope cl fp s H).Ok where
  mod := I.ok.mod
  kind := hkind
  glob := I.ok.glob
  blt := I.ok.blt
  above := Nat.le_refl _
  inj := fun x y c h1 h2 => I.ok.inj x y c (C.sub x c h1) (C.sub y c h2)
  has := fun x h => C.has x h
  cab := fun x c h => by cases (show false = true from h)
  hd := I.ok.hd
  frames := I.ok.frames
  stk := .inl rfl
  exf := fun b hb => ⟨Nat.ne_of_lt (hlt b hb), fun x c h => (hf b hb).2.2.2.2.1 x c (C.sub x c h)⟩
  bs := fun b o h => I.bs b o h
  bsz := Nat.le_trans I.ok.bsz I.sz
  noex := fun b o h hb => by
    rcases (hf b hb).2.2.2.1 with z | z
    · exact I.ok.noex b o h z
    · exact absurd (Nat.lt_of_lt_of_le (Heap.lt_size h) (Nat.le_trans I.ok.bsz z)) (Nat.lt_irrefl _)
  exfs := fun b hb hs => by
    rcases List.mem_cons.mp (I.stkSub b hs) with z | z
    · exact (hf b hb).2.1 z
    · exact (hf b hb).2.2.1 z
  funs := I.stack
  frf := I.stkFree
/-- the block's entry -/
theorem comp_start {ix : List Nat} {h₁ : Heap} {t' : Nat} {m : Str → Option Value} (I : Inv X pins σ H s) (C : Clo X scope cl) (hkind : scope.kind = .function) (hf : ∀ b ∈ fp, FpOk X pins H b) (hlt : ∀ b ∈ fp, b < s.heap.objs.size)
    (hlen : N'.length = ix.length + 1) (hix : ∀ (j i : Nat), ix[j]? = some i → ∃ y, X.N[i]? = some y ∧ N'[j + 1]? = some y ∧ (X.env.kindOf y = some .cell ∨ X.env.kindOf y = some .free) ∧ ((relabel scope X.env).names.lookup y = some .cell ∨ (relabel scope X.env).names.lookup y = some .free))
    (hn : h₁.Ns s.heap.objs.size m) (hk : ∀ b o, s.heap.get? b = some o → h₁.get? b = some o) : Inv (cxComp X N' scope cl fp s H) [] (none :: fvs σ ix) H { s with heap := h₁, toks := t' } := by
  have cellK : ∀ x c, cl.lookup x = some c → ∃ v, h₁.IsCell c v := fun x c h => by
    obtain ⟨v, o, ho, hd⟩ := I.cell x c (C.sub x c h)
    exact ⟨v, o, hk c o ho, hd⟩
  refine ⟨comp_ok I C hkind hf hlt, rfl, I.bare, Un.kept hk, ⟨m, hn, fun i y v h1 h2 h3 => ?_⟩, cellK, I.hok.fresh (Nat.le_refl _), fun x c h => I.freeC x c (C.sub x c h), fun p hp => absurd (show p ∈ ([] : List (Addr × Obj)) from hp) (by simp), I.hok.kept hk, ?_⟩
  · cases i with
    | zero => cases (show some (none : Option V) = some (some v) from h2)
    | succ j =>
      have h2' : (fvs σ ix)[j]? = some (some v) := h2
      unfold fvs at h2'
      rw [List.getElem?_map] at h2'
      cases e : ix[j]? with
      | none => rw [e] at h2'; cases h2'
      | some i =>
        rw [e] at h2'
        have h4 : (σ[i]?).join = some v := Option.some.inj h2'
        have h5 : σ[i]? = some (some v) := by
          cases e' : σ[i]? with
          | none => rw [e'] at h4; cases h4
          | some q =>
            rw [e'] at h4
            have h6 : q = some v := h4
            rw [h6]
        obtain ⟨y', n1, n2, k1, k2⟩ := hix j i e
        have ey : y' = y := Option.some.inj (n2.symm.trans h1)
        subst ey
        obtain ⟨m0, hn0, hl0⟩ := I.loc
        have hv0 : Vis X.env.scope y' := k1.elim (fun z => .inr (.inl z)) fun z => .inr (.inr z)
        obtain ⟨u, ru, l⟩ := hl0 i y' v n1 h5 hv0
        refine ⟨u, ru, .inr ⟨k2, ?_⟩⟩
        rcases l with ⟨k, _⟩ | ⟨_, c, ec, o, ho, hd⟩
        · rcases k1 with z | z
          · rw [z] at k; cases k
          · rw [z] at k; cases k
        · obtain ⟨c', ec'⟩ := C.has y' k2
          have : c' = c := Option.some.inj ((C.sub _ _ ec').symm.trans ec)
          subst this
          exact ⟨c', ec', o, hk c' o ho, hd⟩
  · show (none :: fvs σ ix : St).length = N'.length
    rw [hlen]
    simp [fvs]
/-- the block is left -/
theorem comp_end {σ' : St} {H' : Hp} {s' : Shared} {h' : Heap} (I : Inv X pins σ H s) (J : Inv (cxComp X N' scope cl fp s H) [] σ' H' s') (hf : ∀ b ∈ fp, FpOk X pins H b) (hs : Heap.SameBut s.heap.objs.size s'.heap h') : Inv X pins σ H' { s' with heap := h' } := by
  have ne : ∀ b o, s.heap.get? b = some o → b ≠ s.heap.objs.size := fun b o e => Nat.ne_of_lt (Heap.lt_size e)
  have eq : ∀ b, b ≠ s.heap.objs.size → h'.get? b = s'.heap.get? b := fun b hb => hs.2 b hb
  have B := J.base
  have u : Un (frs X.stack) fp H H' s.heap h' :=
    ⟨fun b o e n h1 h2 => (eq b (ne b o e)).trans (B.keep b o e n h1 h2), fun b o e n h1 h2 => by
      obtain ⟨sl, q⟩ := B.slot b o e n h1 h2
      exact ⟨sl, (eq b (ne b o e)).trans q⟩, fun b o e n h1 => B.free b o e n h1, fun b o e h1 => by
      obtain ⟨o', q⟩ := B.there b o e h1
      exact ⟨o', (eq b (ne b o e)).trans q⟩, B.tups, B.frzs, B.tbls⟩
  have hfree : H' s.heap.objs.size = none := J.free
  have hok : HOk X.prog X.w H' h' := fun b ob e => by
    refine (J.hok b ob e).stay (fun c w' hc q => (eq c ?_).trans q) (fun _ q => q) fun _ _ q => q
    rintro rfl
    rcases hc with z | z
    · rw [← z, hfree] at e; cases e
    · rw [hfree] at z; cases z
  exact I.call' (s' := { s' with heap := h' }) (ch := fp) J.os u hok J.bare fun b hb => ⟨(hf b hb).2.2.2.1, (hf b hb).2.1, (hf b hb).2.2.2.2.1, (hf b hb).2.2.2.2.2⟩
end

section
variable {X : Cx} {N' : List Str} {scope : Scope} {elt iter : Expr} {x : Str} {px pos : Pos} {wi : TI} {te : TE} {ix : List Nat}
theorem pe_lc (hc : X.calm = true) (hkind : scope.kind = .function) (hcell : ∀ y ∈ scope.names, y.2 ≠ .cell) (hnames : ∀ y ∈ scope.names, y.2 = .local → scope.names.lookup y.1 = some .local) (hx : scope.names.lookup x = some .local)
    (hclo : X.Ok → ∃ cl, Clo X scope cl) (hN : N'.Nodup) (hN0 : N'[0]? = some x) (hlen : N'.length = ix.length + 1)
    (hix : ∀ (j i : Nat), ix[j]? = some i → ∃ y, X.N[i]? = some y ∧ N'[j + 1]? = some y ∧ (X.env.kindOf y = some .cell ∨ X.env.kindOf y = some .free) ∧ ((relabel scope X.env).names.lookup y = some .cell ∨ (relabel scope X.env).names.lookup y = some .free))
    (hi : PI X (.Name x px) iter wi) (he : ∀ cl fp s₃ H₃, PE (cxComp X N' scope cl fp s₃ H₃) elt te) (hs : ∀ v, foldedSetIterable iter X.env v = pure v := by intro _; rfl) :
    PE X (.ListComp elt [⟨.Name x px, iter, [], 0⟩] scope pos) (tLC wi ix te) := by
  intro pins s σ H Q I h
  obtain ⟨cl, C⟩ := hclo I.ok
  rw [eval_ListComp]
  refine wpAny_comprehension_free (use := none) rfl hs C.eq hkind hnames (thn (hi pins s σ H _ I h) fun v s1 h1 => thn h1 fun itv s2 h2 => ?_)
  obtain ⟨it, fp, tn, J, H2, e, I2, T, st2, f2, q2⟩ := h2
  subst e
  have hD : H2 s2.heap.objs.size = none := I2.fresh
  obtain ⟨W, ⟨m0, w0⟩, turn⟩ := q2 s2.heap.objs.size hD
  refine wpAny_newObj_type (wpAny_newFunctionEnv hcell (by intro y hy; simp at hy) (fun h₁ hns₁ hsb₁ => ?_) hkind)
  dsimp only at hns₁ hsb₁ ⊢
  have I3 : Inv X pins σ (upd H2 s2.heap.objs.size (.lst [])) { s2 with heap := s2.heap.push { cls := .type "list", data := .seq ([] : List Value).toArray }, toks := s2.toks } := I2.lnew .nil (Nat.zero_le _)
  generalize hs3 : ({ s2 with heap := s2.heap.push { cls := .type "list", data := .seq ([] : List Value).toArray }, toks := s2.toks } : Shared) = s3 at I3
  have e3 : s3.heap = s2.heap.push { cls := .type "list", data := .seq ([] : List Value).toArray } := by rw [← hs3]
  generalize hDD : s2.heap.objs.size = D at *
  generalize hH3 : upd H2 D (.lst []) = H3 at *
  have lt2 : ∀ b ∈ fp, b < s2.heap.objs.size := fun b hb => by
    obtain ⟨o, ho, _⟩ := T.obj 0 _ st2 b hb
    exact Heap.lt_size ho
  have neD : ∀ b ∈ fp, b ≠ D := fun b hb => by rw [← hDD]; exact Nat.ne_of_lt (lt2 b hb)
  have f3 : ∀ b ∈ fp, FpOk X pins H3 b := fun b hb => ⟨by rw [← hH3, upd_ne (neD b hb)]; exact (f2 b hb).1, (f2 b hb).2⟩
  have sz3 : s3.heap.objs.size = D + 1 := by rw [e3, Heap.size_push, hDD]
  have lt3 : ∀ b ∈ fp, b < s3.heap.objs.size := fun b hb => by have q := lt2 b hb; rw [sz3]; rw [hDD] at q; exact Nat.lt_succ_of_lt q
  have old : ∀ b o, s3.heap.get? b = some o → h₁.get? b = some o := fun b o eb => by
    have hb : b < D + 1 := by rw [← sz3]; exact Heap.lt_size eb
    refine hsb₁.extBut b o ?_ (Heap.get?_push_of_some _ (by rw [← e3]; exact eb))
    rw [Heap.size_push, hDD]
    exact Nat.ne_of_lt hb
  have szC : (s2.heap.push { cls := .type "list", data := .seq ([] : List Value).toArray }).objs.size = s3.heap.objs.size := by rw [e3]
  have os3 : s3.os = s2.os := by rw [← hs3]
  rw [szC] at hns₁ hsb₁
  have I4 : Inv (cxComp X N' scope cl fp s3 H3) [] (none :: fvs σ ix) H3 { s3 with heap := h₁, toks := s2.toks + ([] : List (Str × Value)).length } := comp_start I3 C hkind f3 lt3 hlen hix hns₁ old
  have st4 : tn 0 h₁ := T.keep 0 _ _ st2 fun b hb o eb => old b o (by rw [e3]; exact Heap.get?_push_of_some _ eb)
  have stat : ∀ {H' : Hp}, (∀ b ∈ fp, H' b = none) → ∀ b ∈ fp, FpOk (cxComp X N' scope cl fp s3 H3) [] H' b := fun hn b hb =>
    ⟨hn b hb, Nat.ne_of_lt (lt3 b hb), fun hs' => (comp_ok (N' := N') I3 C hkind f3 lt3).exfs b hb hs', .inl hb, fun y c hy => ((comp_ok (N' := N') I3 C hkind f3 lt3).exf b hb).2 y c hy, fun p hp => absurd (show p ∈ ([] : List (Addr × Obj)) from hp) (by simp)⟩
  have loop : ∀ s4 : Shared, s4 = { s3 with heap := h₁, toks := s2.toks + ([] : List (Str × Value)).length } →
      codeAny (model X.prog X.w) X.A (.compLoop (.ListComp elt [⟨.Name x px, iter, [], 0⟩] scope pos) 0 (.ref it) (.ref D) (compEnvC scope cl s3.heap.objs.size X.env))
        (compPost (model X.prog X.w) X.A X.xe none (EP X pins σ Q) (.ref D) s3.heap.objs.size) s4 := by
    rintro s4 rfl
    refine compLoop_go (fun n s' => ∃ i σ0 H' ys, Inv (cxComp X N' scope cl fp s3 H3) [] (σ0 :: fvs σ ix) H' s' ∧ tn i s'.heap ∧ (∀ b ∈ fp, H' b = none) ∧ W i n ys H') ?_ m0 ⟨0, none, H3, [], I4, st4, fun b hb => (f3 b hb).1, w0⟩
    rintro n s5 ⟨i, σ0, H5, ys, I5, st5, fr5, w5⟩
    obtain ⟨hD5, alt⟩ := turn i n ys H5 w5
    rcases alt with ⟨stop, q⟩ | ⟨go, step⟩
    · refine thn (T.done (cxComp X N' scope cl fp s3 H3) rfl rfl rfl hc i [] s5 _ H5 _ I5 (stat fr5) st5 stop) fun r s6 ⟨hr, I6⟩ => ?_
      subst hr
      obtain ⟨m, hn, _⟩ := I6.loc
      exact ⟨m, hn, fun h' hsb => ⟨.ref D, H5, comp_end I3 I6 f3 hsb, rfl, q⟩⟩
    · refine thn (T.item (cxComp X N' scope cl fp s3 H3) rfl rfl rfl hc i [] s5 _ H5 _ I5 (stat fr5) st5 go) fun r s6 ⟨u, hr, h6⟩ => ?_
      subst hr
      refine thn h6 fun _ s7 ⟨y7, H7, I7, r7, yl7, st7, fr7⟩ => ?_
      have I7' := I7.pinned (stat fr7) (T.obj _ _ st7)
      have G : PG (cxComp X N' scope cl fp s3 H3) (.Name x px) (gName 0) := pg_name hN hN0 (.inl (lookup_relabel_local hx)) (.inr (lookup_relabel_local hx))
      refine wpAny_mono (G _ s7 _ H7 y7 u (fun σ' H' => σ' = some y7 :: fvs σ ix ∧ H' = H7) I7' r7 ⟨rfl, rfl⟩) (fun _ s8 h8 => ?_) fun _ _ f => False.elim f
      obtain ⟨σ8, H8, I8, rfl, rfl⟩ := h8
      refine wpAny_mono (he cl fp s3 H3 _ s8 _ H8 _ I8 (step y7 H8 yl7)) (fun yv s9 h9 => ?_) fun _ _ f => False.elim f
      obtain ⟨y9, H9, I9, r9, hD9, hl9, m', hm', w9⟩ := h9
      refine wpAny_mono (mt_append (X := cxComp X N' scope cl fp s3 H3) _ s9 _ H9 (.ref D) [y9] (.ref D) [yv] (fun _ H' => H' = upd H9 D (.lst (ys ++ [y9]))) I9 rfl (.cons r9 .nil) ⟨D, ys, y9, rfl, rfl, hD9, hl9, rfl⟩) (fun _ s10 h10 => ?_) fun _ _ f => False.elim f
      obtain ⟨_, H10, I10, _, rfl⟩ := h10
      refine ⟨m', hm', i + 1, some y7, _, ys ++ [y9], I10.unpinned, T.keep _ _ _ st7 fun b hb o eb => (I10.pin (b, o) (List.mem_append_right _ (List.mem_append_right _ (mem_pinsAt hb eb)))).1, fun b hb => ?_, w9⟩
      obtain ⟨o, eb, d⟩ := T.obj _ _ st7 b hb
      exact (I10.pin (b, o) (List.mem_append_right _ (List.mem_append_right _ (mem_pinsAt hb eb)))).2.1
  subst hs3
  have fin := codeAny_compStart_list (loop _ rfl) (T.self X.A 0 _ _ _ st4 (loop _ rfl))
  exact fin
end
end L2

/-! OWN RULES: texts with fields, lists or tuples walked, closures of comprehensions, comprehensions with a test. Behind Ext. -/
namespace L2
open PySem PySem.Spec PyProof.Rows
section
variable {X : Cx} {e l : Expr} {es : List Expr} {te tl : TE} {pos : Pos} {tg : Expr}
/-! ### f-strings -/
def tFmt (te : TE) : TE := fun σ H Q => te σ H fun x H1 => (∃ z, x = .str z ∧ z.length ≤ sizeLine ∧ Q (.str z) H1) ∨ ∃ i : Int, x = .int i ∧ i.natAbs.log2 < 1920 ∧ Q (.str (toString i)) H1
theorem pe_fv (he : PE X e te) : PE X (.FormattedValue e (-1) none pos) (tFmt te) := by
  intro pins s σ H Q I h
  refine FormattedValue_plain (thn (he pins s σ H _ I h) fun v s1 ⟨x, H1, I1, r1, q1⟩ => ?_)
  rcases q1 with ⟨z, rfl, hz, q⟩ | ⟨i, rfl, hi, q⟩
  · obtain ⟨t, rfl⟩ := r1
    exact formatField_str (fun t' tk => ⟨.str z, H1, I1.tok _, ⟨_, rfl⟩, q⟩) hz
  · obtain ⟨t, rfl⟩ := r1
    exact formatField_int_small hi ⟨.str _, H1, I1.tok _, ⟨_, rfl⟩, q⟩
def tRepr (te : TE) : TE := fun σ H Q => te σ H fun x H1 => ∃ z, x = .str z ∧ (reprText z).length ≤ sizeLine ∧ Q (.str (reprText z)) H1
theorem pe_fvr (he : PE X e te) : PE X (.FormattedValue e 114 none pos) (tRepr te) := by
  intro pins s σ H Q I h
  refine wpAny_FormattedValue_repr (thn (he pins s σ H _ I h) fun v s1 ⟨x, H1, I1, r1, q1⟩ => ?_)
  obtain ⟨z, rfl, hz, q⟩ := q1
  obtain ⟨t, rfl⟩ := r1
  refine wpAny_pyReprObj_str ?_ hz
  exact formatField_str (fun t' tk => ⟨.str (reprText z), H1, I1.tok _, ⟨_, rfl⟩, q⟩) hz
abbrev TJ := St → Hp → Str → (Str → Hp → Prop) → Prop
def PJ (X : Cx) (es : List Expr) (t : TJ) : Prop :=
  ∀ (pins : List (Addr × Obj)) (s : Shared) (σ : St) (H : Hp) (acc : Str) (Q : Str → Hp → Prop) (R : Str → Shared → Prop), Inv X pins σ H s → t σ H acc Q → (∀ out s1 H1, Inv X pins σ H1 s1 → Q out H1 → R out s1) → Joins (model X.prog X.w) X.A X.xe (evalEach es X.env) acc R s
def jNil : TJ := fun _ H acc Q => Q acc H
def jCons (te : TE) (t : TJ) : TJ := fun σ H acc Q => te σ H fun x H1 => ∃ y, x = .str y ∧ (acc ++ y).length ≤ sizeLine ∧ t σ H1 (acc ++ y) Q
theorem pj_nil : PJ X [] jNil := fun _ _ _ _ _ _ _ I h k => k _ _ _ I h
theorem pj_cons {t : TJ} (he : PE X e te) (hr : PJ X es t) : PJ X (e :: es) (jCons te t) := by
  intro pins s σ H acc Q R I h k
  refine thn (he pins s σ H _ I h) fun v s1 ⟨x, H1, I1, r1, q1⟩ => ?_
  obtain ⟨y, rfl, hz, q⟩ := q1
  obtain ⟨t, rfl⟩ := r1
  exact ⟨y, _, rfl, hz, hr pins s1 σ H1 _ Q R I1 q k⟩
def tJoined (t : TJ) : TE := fun σ H Q => t σ H Str.empty fun out H1 => out.length ≤ sizeLine ∧ Q (.str out) H1
theorem pe_joined {v1 v2 : Expr} {t : TJ} (h : PJ X (v1 :: v2 :: es) t) : PE X (.JoinedStr (v1 :: v2 :: es) pos) (tJoined t) := by
  intro pins s σ H Q I hw
  exact wpAny_JoinedStr (h pins s σ H _ _ _ I hw fun out s1 H1 I1 q => ⟨q.1, .str out, H1, I1.tok _, ⟨_, rfl⟩, q.2⟩)

/-! ### a list or a tuple walked -/
def iSeq (K : PySem.W.Frag) (tl : TE) : TI := fun σ H R => tl σ H fun x H1 => ∃ a, x = .ref a ∧ (((∃ xs, SqL K H1 a xs) ∧ R (Itl K a) H1) ∨ ((∃ xs, SqT K H1 a xs) ∧ R (Itt K a) H1))
theorem pi_seq (hl : PE X l tl) : PI X tg l (iSeq X.K tl) := by
  intro pins s σ H R I h
  refine thn (hl pins s σ H _ I h) fun v s1 ⟨x, H1, I1, r1, q1⟩ => ?_
  obtain ⟨a, rfl, q⟩ := q1
  cases r1
  have fp : ∀ b ∈ [s1.heap.objs.size], FpOk X pins H1 b := fun b hb => by
    have e : b = s1.heap.objs.size := by simpa using hb
    subst e
    exact I1.fpOk (Nat.le_refl _) (I1.hok.fresh (Nat.le_refl _))
  rcases q with ⟨⟨xs, hq⟩, q⟩ | ⟨⟨xs, hq⟩, q⟩
  · obtain ⟨its, rv, p, hz⟩ := I1.list hq
    refine wpAny_pyIter_list p.isList ?_
    exact ⟨s1.heap.objs.size, [s1.heap.objs.size], _, _, H1, rfl, I1.kept (t' := s1.toks) fun b o e => Heap.get?_push_of_some _ e, turn_list a _, ⟨_, Heap.get?_push_size _ rfl, rfl, rfl⟩, fp, q⟩
  · obtain ⟨its, rv, p, hz⟩ := I1.tuple hq
    refine wpAny_pyIter_tuple (show s1.heap.IsTuple a its.toArray from p) ?_
    exact ⟨s1.heap.objs.size, [s1.heap.objs.size], _, _, H1, rfl, I1.kept (t' := s1.toks) fun b o e => Heap.get?_push_of_some _ e, turn_tuple a _, ⟨_, Heap.get?_push_size _ rfl, rfl, rfl⟩, fp, q⟩
end

/-! ### a comprehension's closure -/
theorem clo_loop {env : Env} : ∀ (l : List (Str × NameKind)) (acc : List (Str × Addr)), (∀ y ∈ l, y.2 = .free → ∃ c, env.cells.lookup y.1 = some c) →
    ∃ cl, (forIn l acc (fun (y : Str × NameKind) cs => if (y.2 == NameKind.free) = true then do let c ← cellOf env y.1; pure (ForInStep.yield ((y.1, c) :: cs)) else pure (ForInStep.yield cs)) : Sem (List (Str × Addr))) = pure cl ∧
      (∀ y c, cl.lookup y = some c → acc.lookup y = some c ∨ env.cells.lookup y = some c) ∧ ∀ y, ((y, NameKind.free) ∈ l ∨ ∃ c, acc.lookup y = some c) → ∃ c, cl.lookup y = some c
  | [], acc, _ => ⟨acc, rfl, fun _ _ h => .inl h, fun y h => h.elim (fun z => by cases z) fun z => z⟩
  | (n, k) :: r, acc, hf => by
    by_cases hk : k = .free
    · subst hk
      obtain ⟨c, hc⟩ := hf (n, .free) List.mem_cons_self rfl
      obtain ⟨cl, e1, e2, e3⟩ := clo_loop r ((n, c) :: acc) fun y hy => hf y (List.mem_cons_of_mem _ hy)
      refine ⟨cl, ?_, fun y d h => ?_, fun y h => ?_⟩
      · rw [List.forIn_cons]
        have ec : cellOf env n = pure c := by unfold cellOf; rw [show env.cells.lookup n = some c from hc]
        have eb : (NameKind.free == NameKind.free) = true := rfl
        simp only [eb, if_true, ec, pure_bind]
        exact e1
      · rcases e2 y d h with z | z
        · by_cases hy : y = n
          · subst hy
            rw [List.lookup_cons, beq_self_eq_true] at z
            cases z
            exact .inr hc
          · rw [List.lookup_cons, beq_eq_false_iff_ne.mpr hy] at z
            exact .inl z
        · exact .inr z
      · refine e3 y ?_
        by_cases hy : y = n
        · subst hy
          exact .inr ⟨c, by rw [List.lookup_cons, beq_self_eq_true]⟩
        · rcases h with z | ⟨d, z⟩
          · rcases List.mem_cons.mp z with z | z
            · exact absurd (congrArg Prod.fst z) hy
            · exact .inl z
          · exact .inr ⟨d, by rw [List.lookup_cons, beq_eq_false_iff_ne.mpr hy]; exact z⟩
    · obtain ⟨cl, e1, e2, e3⟩ := clo_loop r acc fun y hy => hf y (List.mem_cons_of_mem _ hy)
      refine ⟨cl, ?_, e2, fun y h => e3 y ?_⟩
      · rw [List.forIn_cons]
        have hb : (k == NameKind.free) = false := by simpa using hk
        simp only [hb, Bool.false_eq_true, if_false, pure_bind]
        exact e1
      · rcases h with z | z
        · rcases List.mem_cons.mp z with z | z
          · exact absurd (congrArg Prod.snd z).symm hk
          · exact .inl z
        · exact .inr z
theorem clo_of {X : Cx} {scope sc : Scope} (ok : X.Ok) (hsc : X.env.scope = sc) (hcell : ∀ x ∈ scope.names, x.2 ≠ .cell)
    (hf : ∀ y ∈ scope.names, y.2 = .free → sc.names.lookup y.1 = some .cell ∨ sc.names.lookup y.1 = some .free) : ∃ cl, Clo X scope cl := by
  obtain ⟨cl, e1, e2, e3⟩ := clo_loop (env := X.env) scope.names [] fun y hy h => ok.has y.1 (by
    show X.env.scope.names.lookup y.1 = _ ∨ X.env.scope.names.lookup y.1 = _
    rw [hsc]
    exact hf y hy h)
  refine ⟨cl, ?_, fun y c h => (e2 y c h).elim (fun z => by cases z) fun z => z, fun y h => e3 y (.inl ?_)⟩
  · unfold closureFor
    have e0 : (forIn scope.names ([] : List (Str × Addr)) (fun (x : Str × NameKind) cs => match x with
        | (name, kind) => if (kind == NameKind.free) = true then do let c ← cellOf X.env name; pure (ForInStep.yield ((name, c) :: cs)) else pure (ForInStep.yield cs)) : Sem (List (Str × Addr))) = pure cl := e1
    show (forIn scope.names ([] : List (Str × Addr)) _ >>= fun z => pure z) = pure cl
    rw [bind_pure]
    exact e0
  · have m : ∃ k, (k = .cell ∨ k = .free) ∧ (y, k) ∈ (relabel scope X.env).names := by
      rcases h with h | h
      · exact ⟨_, .inl rfl, PySem.mem_of_lookup h⟩
      · exact ⟨_, .inr rfl, PySem.mem_of_lookup h⟩
    obtain ⟨k, hk, hm⟩ := m
    unfold relabel at hm
    obtain ⟨⟨n0, k0⟩, h0, ez⟩ := List.mem_map.mp hm
    by_cases hc : (k0 == NameKind.free && X.env.scope.kind == .function && X.env.kindOf n0 == some .cell) = true
    · dsimp only at ez
      rw [if_pos hc] at ez
      have en : n0 = y := congrArg Prod.fst ez
      have ef : k0 = .free := by
        rw [Bool.and_eq_true, Bool.and_eq_true] at hc
        simpa using hc.1.1
      rw [en, ef] at h0
      exact h0
    · dsimp only at ez
      rw [if_neg hc] at ez
      have en : n0 = y := congrArg Prod.fst ez
      have ek : k0 = k := congrArg Prod.snd ez
      rw [en, ek] at h0
      rcases hk with z | z
      · exact absurd z (hcell _ h0)
      · rw [z] at h0
        exact h0

/-! ### [elt for x in iter if c] -/
def tLCI (wi : TI) (ix : List Nat) (tc : TT) (te : TE) : TE := fun σ H Q => wi σ H fun J H1 => ∀ D, H1 D = none →
  ∃ W : Nat → Nat → List V → Hp → Prop, (∃ m, W 0 m [] (upd H1 D (.lst []))) ∧
    ∀ i m ys H', W i m ys H' → H' D = some (.lst ys) ∧
      ((J.stop i H' ∧ Q (.ref D) H') ∨ (J.go i H' ∧ ∀ x H'', J.yld i H' x H'' → tc (some x :: fvs σ ix) H'' fun b H3 =>
        if b = true then te (some x :: fvs σ ix) H3 fun y H4 => H4 D = some (.lst ys) ∧ ys.length < sizeLine ∧ ∃ m', m' < m ∧ W (i + 1) m' (ys ++ [y]) (upd H4 D (.lst (ys ++ [y])))
        else ∃ m', m' < m ∧ W (i + 1) m' ys H3))
section
variable {X : Cx} {N' : List Str} {scope : Scope} {elt iter c : Expr} {x : Str} {px pos : Pos} {wi : TI} {tc : TT} {te : TE} {ix : List Nat}
end
end L2

/-! OWN: name = [comprehension], where the store comes ahead of the block's end. Behind Ext2. -/
namespace L2
open PySem PySem.Spec PyProof.Rows
theorem Inv.skip {X : Cx} {pins : List (Addr × Obj)} {σ : St} {H : Hp} {s : Shared} {h' : Heap} {C : Addr} (I : Inv X pins σ H s) (hs : Heap.SameBut C s.heap h') (hC : X.s₀.heap.objs.size ≤ C) (hl : C ≠ X.env.locals) (hcl : ∀ x c, X.env.cells.lookup x = some c → c ≠ C) (hp : ∀ p ∈ X.pn ++ pins, p.1 ≠ C) (hf : H C = none) :
    Inv X pins σ H { s with heap := h' } := by
  have eq : ∀ b, b ≠ C → h'.get? b = s.heap.get? b := fun b hb => hs.2 b hb
  have nm : ∀ {b : Addr}, b ∉ [C] → b ≠ C := fun h z => h (by rw [z]; exact List.mem_cons_self)
  have u : Un (frs X.stack) [C] H H s.heap h' := ⟨fun b o e _ _ h2 => (eq b (nm h2)).trans e, fun b o e _ _ h2 => ⟨o.slots, (eq b (nm h2)).trans e⟩, fun b o e n _ => n, fun b o e h1 => ⟨o, (eq b (nm h1)).trans e⟩, fun _ _ q => q, fun _ _ _ q => q, fun _ ps q => ⟨#[], by rw [q]; simp⟩⟩
  have hok : HOk X.prog X.w H h' := fun b ob e => by
    refine (I.hok b ob e).stay (fun c w' hq q => (eq c ?_).trans q) (fun _ q => q) fun _ _ q => q
    rintro rfl
    rcases hq with z | z
    · rw [← z, hf] at e; cases e
    · rw [hf] at z; cases z
  refine I.call' (s' := { s with heap := h' }) (ch := [C]) rfl u hok I.bare fun b hb => ?_
  have e : b = C := List.mem_singleton.mp hb
  subst e
  exact ⟨.inr hC, hl, hcl, hp⟩
section
variable {X : Cx} {N' : List Str} {scope : Scope} {elt iter : Expr} {x : Str} {px pos : Pos} {wi : TI} {te : TE} {ix : List Nat}
end
section
variable {X : Cx} {N' : List Str} {scope : Scope} {elt iter c : Expr} {x : Str} {px pos : Pos} {wi : TI} {tc : TT} {te : TE} {ix : List Nat}
end
end L2

/-! OWN: values with all that they hold; == and in, deep. Behind the layer. -/
namespace L2
open PySem PySem.Spec PyProof.Rows
inductive Dt where
  | non | bl (b : Bool) | int (i : Int) | str (x : Str) | tup (xs : List Dt) | lst (xs : List Dt)
mutual
def peq : Dt → Dt → Bool
  | .non, .non => true
  | .bl a, .bl b => a == b
  | .bl a, .int b => (if a then 1 else 0) == b
  | .int a, .bl b => a == (if b then 1 else 0)
  | .int a, .int b => a == b
  | .str a, .str b => a == b
  | .tup xs, .tup ys => peqs xs ys
  | .lst xs, .lst ys => peqs xs ys
  | _, _ => false
def peqs : List Dt → List Dt → Bool
  | [], [] => true
  | x :: xs, y :: ys => peq x y && peqs xs ys
  | _, _ => false
end
mutual
def dep : Dt → Nat
  | .tup xs => deps xs + 1
  | .lst xs => deps xs + 1
  | _ => 0
def deps : List Dt → Nat
  | [] => 0
  | x :: xs => max (dep x) (deps xs)
end
mutual
def nob : Dt → Bool
  | .bl _ => false
  | .tup xs => nobs xs
  | .lst xs => nobs xs
  | _ => true
def nobs : List Dt → Bool
  | [] => true
  | x :: xs => nob x && nobs xs
end
mutual
theorem peq_refl : ∀ d : Dt, peq d d = true
  | .non => rfl
  | .bl _ => by simp [peq]
  | .int _ => by simp [peq]
  | .str _ => by simp [peq]
  | .tup xs => by simp only [peq]; exact peqs_refl xs
  | .lst xs => by simp only [peq]; exact peqs_refl xs
theorem peqs_refl : ∀ d : List Dt, peqs d d = true
  | [] => by simp [peqs]
  | x :: xs => by simp only [peqs, peq_refl x, peqs_refl xs, Bool.and_self]
end
mutual
theorem peq_eq : ∀ d e : Dt, nob d = true → nob e = true → peq d e = true → d = e
  | .non, e, _, _, h => by cases e <;> first | rfl | (simp [peq] at h)
  | .bl _, e, h, _, _ => by simp [nob] at h
  | .int _, e, _, h2, h => by cases e <;> first | (simp [nob] at h2; done) | (simp [peq] at h; done) | (simp [peq] at h; rw [h])
  | .str _, e, _, h2, h => by cases e <;> first | (simp [peq] at h; done) | (simp [peq] at h; rw [h])
  | .tup xs, e, h1, h2, h => by
    cases e with
    | tup ys => simp only [peq] at h; simp only [nob] at h1 h2; rw [peqs_eq xs ys h1 h2 h]
    | _ => simp [peq] at h
  | .lst xs, e, h1, h2, h => by
    cases e with
    | lst ys => simp only [peq] at h; simp only [nob] at h1 h2; rw [peqs_eq xs ys h1 h2 h]
    | _ => simp [peq] at h
theorem peqs_eq : ∀ d e : List Dt, nobs d = true → nobs e = true → peqs d e = true → d = e
  | [], e, _, _, h => by cases e <;> first | rfl | (simp [peqs] at h)
  | x :: xs, e, h1, h2, h => by
    cases e with
    | nil => simp [peqs] at h
    | cons y ys =>
      simp only [peqs, Bool.and_eq_true] at h
      simp only [nobs, Bool.and_eq_true] at h1 h2
      rw [peq_eq x y h1.1 h2.1 h.1, peqs_eq xs ys h1.2 h2.2 h.2]
end

/-! ### a value stands for a datum -/
mutual
def Has (K : PySem.W.Frag) (H : Hp) : Dt → V → Prop
  | .non, v => v = .non
  | .bl b, v => v = .bl b
  | .int i, v => v = .int i
  | .str x, v => v = .str x
  | .tup ds, v => ∃ a xs, v = .ref a ∧ SqT K H a xs ∧ HasL K H ds xs
  | .lst ds, v => ∃ a xs, v = .ref a ∧ SqL K H a xs ∧ HasL K H ds xs
def HasL (K : PySem.W.Frag) (H : Hp) : List Dt → List V → Prop
  | [], vs => vs = []
  | d :: ds, vs => ∃ v r, vs = v :: r ∧ Has K H d v ∧ HasL K H ds r
end
theorem HasL.length {K : PySem.W.Frag} {H : Hp} : ∀ {ds : List Dt} {vs : List V}, HasL K H ds vs → ds.length = vs.length
  | [], vs, h => by simp only [HasL] at h; rw [h]; rfl
  | d :: ds, vs, h => by
    simp only [HasL] at h
    obtain ⟨v, r, rfl, _, h2⟩ := h
    rw [List.length_cons, List.length_cons, HasL.length h2]
theorem HasL.get {K : PySem.W.Frag} {H : Hp} : ∀ {ds : List Dt} {vs : List V} {i : Nat} {v : V}, HasL K H ds vs → vs[i]? = some v → ∃ d, ds[i]? = some d ∧ Has K H d v
  | [], vs, i, v, h, e => by simp only [HasL] at h; rw [h] at e; simp at e
  | d :: ds, vs, i, v, h, e => by
    simp only [HasL] at h
    obtain ⟨v0, r, rfl, h1, h2⟩ := h
    cases i with
    | zero => simp at e; subst e; exact ⟨d, rfl, h1⟩
    | succ i =>
      obtain ⟨d', e1, e2⟩ := HasL.get (i := i) h2 (by simpa using e)
      exact ⟨d', by simpa using e1, e2⟩
theorem HasL.getD {K : PySem.W.Frag} {H : Hp} : ∀ {ds : List Dt} {vs : List V} {i : Nat} {d : Dt}, HasL K H ds vs → ds[i]? = some d → ∃ v, vs[i]? = some v ∧ Has K H d v
  | [], vs, i, d, h, e => by simp at e
  | d0 :: ds, vs, i, d, h, e => by
    simp only [HasL] at h
    obtain ⟨v0, r, rfl, h1, h2⟩ := h
    cases i with
    | zero => simp at e; subst e; exact ⟨v0, rfl, h1⟩
    | succ i =>
      obtain ⟨v, e1, e2⟩ := HasL.getD (i := i) h2 (by simpa using e)
      exact ⟨v, by simpa using e1, e2⟩
theorem HasL.append {K : PySem.W.Frag} {H : Hp} : ∀ {ds es : List Dt} {vs ws : List V}, HasL K H ds vs → HasL K H es ws → HasL K H (ds ++ es) (vs ++ ws)
  | [], es, vs, ws, h, h' => by simp only [HasL] at h; rw [h]; exact h'
  | d :: ds, es, vs, ws, h, h' => by
    simp only [HasL] at h
    obtain ⟨v, r, rfl, h1, h2⟩ := h
    show HasL K H (d :: (ds ++ es)) (v :: (r ++ ws))
    simp only [HasL]
    exact ⟨v, r ++ ws, rfl, h1, HasL.append h2 h'⟩
theorem HasL.one {K : PySem.W.Frag} {H : Hp} {d : Dt} {v : V} (h : Has K H d v) : HasL K H [d] [v] := by
  simp only [HasL]
  exact ⟨v, [], rfl, h, rfl⟩
theorem HasL.ints {K : PySem.W.Frag} {H : Hp} : ∀ ns : List Int, HasL K H (ns.map Dt.int) (ns.map V.int)
  | [] => by simp [HasL]
  | n :: ns => by
    simp only [List.map_cons, HasL]
    exact ⟨_, _, rfl, by simp only [Has], HasL.ints ns⟩

/-! ### what stays: data without lists, where tuples stay -/
mutual
def nol : Dt → Bool
  | .lst _ => false
  | .tup xs => nols xs
  | _ => true
def nols : List Dt → Bool
  | [] => true
  | x :: xs => nol x && nols xs
end
def KeepT (H H' : Hp) : Prop := ∀ b xs, Rd H b (.tup xs) → Rd H' b (.tup xs)
theorem KeepT.sq {K : PySem.W.Frag} {H H' : Hp} {a : Addr} {xs : List V} (k : KeepT H H') (h : SqT K H a xs) : SqT K H' a xs := h.elim (fun z => .inl (k a xs z)) .inr
theorem KeepT.refl (H : Hp) : KeepT H H := fun _ _ h => h
theorem KeepT.trans {H H1 H2 : Hp} (a : KeepT H H1) (b : KeepT H1 H2) : KeepT H H2 := fun c xs h => b c xs (a c xs h)
theorem KeepT.of_same {H H' : Hp} (e : Same H H') : KeepT H H' := fun b xs h => by
  rcases h with h | ⟨o, h⟩
  · exact .inl (e _ _ h)
  · exact .inr ⟨o, e _ _ h⟩
theorem KeepT.lst {H : Hp} {l : Addr} {xs ys : List V} (h : H l = some (.lst xs)) : KeepT H (upd H l (.lst ys)) := fun b zs q => by
  rcases q with q | ⟨o, q⟩
  · exact .inl (by rw [upd_ne (ne_of q h (fun z => by cases z))]; exact q)
  · exact .inr ⟨o, by rw [upd_ne (ne_of q h (fun z => by cases z))]; exact q⟩
theorem KeepT.new {H : Hp} {l : Addr} {o : HO} (h : H l = none) : KeepT H (upd H l o) := KeepT.of_same fun b u q => by rw [upd_ne (ne_of_none q h)]; exact q
mutual
theorem Has.keep {K : PySem.W.Frag} {H H' : Hp} (k : KeepT H H') : ∀ {d : Dt} {v : V}, nol d = true → Has K H d v → Has K H' d v
  | .non, v, _, h => by simp only [Has] at h ⊢; exact h
  | .bl _, v, _, h => by simp only [Has] at h ⊢; exact h
  | .int _, v, _, h => by simp only [Has] at h ⊢; exact h
  | .str _, v, _, h => by simp only [Has] at h ⊢; exact h
  | .tup ds, v, n, h => by
    simp only [Has] at h ⊢
    simp only [nol] at n
    obtain ⟨a, xs, e, h1, h2⟩ := h
    exact ⟨a, xs, e, k.sq h1, HasL.keep k n h2⟩
  | .lst _, v, n, h => by simp [nol] at n
theorem HasL.keep {K : PySem.W.Frag} {H H' : Hp} (k : KeepT H H') : ∀ {ds : List Dt} {vs : List V}, nols ds = true → HasL K H ds vs → HasL K H' ds vs
  | [], vs, _, h => by simp only [HasL] at h ⊢; exact h
  | d :: ds, vs, n, h => by
    simp only [HasL] at h ⊢
    simp only [nols, Bool.and_eq_true] at n
    obtain ⟨v, r, e, h1, h2⟩ := h
    exact ⟨v, r, e, Has.keep k n.1 h1, HasL.keep k n.2 h2⟩
end

/-! ### one value stands for one datum -/
section
variable {X : Cx} {pins : List (Addr × Obj)} {σ : St} {H : Hp} {s : Shared}
theorem sq_apart (I : Inv X pins σ H s) {a : Addr} {xs ys : List V} (h : SqL X.K H a xs) (h' : SqT X.K H a ys) : False := by
  obtain ⟨its, _, p, _⟩ := I.list h
  obtain ⟨jts, _, q, _⟩ := I.tuple h'
  obtain ⟨o, e, c, _⟩ := p.isList
  obtain ⟨o', e', c', _⟩ := q
  rw [e] at e'
  cases e'
  rw [c] at c'
  exact absurd (Value.type.inj c') (by decide)
mutual
theorem Has.inj (I : Inv X pins σ H s) : ∀ (d e : Dt) (v : V), Has X.K H d v → Has X.K H e v → d = e
  | .non, e, v, h, h' => by
    simp only [Has] at h
    subst h
    cases e <;> simp only [Has] at h' <;> first | rfl | (cases h'; done) | (obtain ⟨_, _, z, _⟩ := h'; cases z)
  | .bl b, e, v, h, h' => by
    simp only [Has] at h
    subst h
    cases e <;> simp only [Has] at h' <;> first | (cases h'; done) | (cases h'; rfl) | (obtain ⟨_, _, z, _⟩ := h'; cases z)
  | .int b, e, v, h, h' => by
    simp only [Has] at h
    subst h
    cases e <;> simp only [Has] at h' <;> first | (cases h'; done) | (cases h'; rfl) | (obtain ⟨_, _, z, _⟩ := h'; cases z)
  | .str b, e, v, h, h' => by
    simp only [Has] at h
    subst h
    cases e <;> simp only [Has] at h' <;> first | (cases h'; done) | (cases h'; rfl) | (obtain ⟨_, _, z, _⟩ := h'; cases z)
  | .tup ds, e, v, h, h' => by
    simp only [Has] at h
    obtain ⟨a, xs, rfl, h1, h2⟩ := h
    cases e with
    | tup es =>
      simp only [Has] at h'
      obtain ⟨a', ys, z, h3, h4⟩ := h'
      cases z
      rw [I.tuple_inj h3 h1] at h4
      rw [HasL.inj I ds es xs h2 h4]
    | lst es =>
      simp only [Has] at h'
      obtain ⟨a', ys, z, h3, h4⟩ := h'
      cases z
      exact (sq_apart I h3 h1).elim
    | _ => simp only [Has] at h'; cases h'
  | .lst ds, e, v, h, h' => by
    simp only [Has] at h
    obtain ⟨a, xs, rfl, h1, h2⟩ := h
    cases e with
    | lst es =>
      simp only [Has] at h'
      obtain ⟨a', ys, z, h3, h4⟩ := h'
      cases z
      rw [I.list_inj h3 h1] at h4
      rw [HasL.inj I ds es xs h2 h4]
    | tup es =>
      simp only [Has] at h'
      obtain ⟨a', ys, z, h3, h4⟩ := h'
      cases z
      exact (sq_apart I h1 h3).elim
    | _ => simp only [Has] at h'; cases h'
theorem HasL.inj (I : Inv X pins σ H s) : ∀ (ds es : List Dt) (vs : List V), HasL X.K H ds vs → HasL X.K H es vs → ds = es
  | [], es, vs, h, h' => by
    simp only [HasL] at h
    subst h
    cases es with
    | nil => rfl
    | cons e es => simp only [HasL] at h'; obtain ⟨_, _, z, _⟩ := h'; cases z
  | d :: ds, es, vs, h, h' => by
    simp only [HasL] at h
    obtain ⟨v, r, rfl, h1, h2⟩ := h
    cases es with
    | nil => simp only [HasL] at h'; cases h'
    | cons e es =>
      simp only [HasL] at h'
      obtain ⟨v', r', z, h3, h4⟩ := h'
      cases z
      rw [Has.inj I d e v h1 h3, HasL.inj I ds es r h2 h4]
end

/-! ### == -/
def eqAtN (ds es : List Dt) (j : Nat) : Bool := match ds[j]?, es[j]? with
  | some d, some e => peq d e
  | _, _ => true
theorem eqAtN_zero (d e : Dt) (ds es : List Dt) : eqAtN (d :: ds) (e :: es) 0 = peq d e := rfl
theorem all_eqs : ∀ (ds es : List Dt), ((List.range (min ds.length es.length)).all (eqAtN ds es) && ds.length == es.length) = peqs ds es
  | [], [] => by simp [peqs]
  | [], e :: es => by simp [peqs]
  | d :: ds, [] => by simp [peqs]
  | d :: ds, e :: es => by
    have ih := all_eqs ds es
    have e1 : min (d :: ds).length (e :: es).length = min ds.length es.length + 1 := by simp only [List.length_cons]; omega
    rw [e1, List.range_succ_eq_map, List.all_cons, eqAtN_zero, List.all_map]
    have e2 : (eqAtN (d :: ds) (e :: es) ∘ Nat.succ) = eqAtN ds es := by funext j; rfl
    rw [e2, List.length_cons, List.length_cons]
    simp only [peqs]
    rw [← ih, Bool.and_assoc]
    congr 2
    simp
theorem all_eqs' {ds es : List Dt} (h : ds.length = es.length) : (List.range ds.length).all (eqAtN ds es) = peqs ds es := by
  rw [← all_eqs, ← h, Nat.min_self]
  simp
theorem peqs_len {ds es : List Dt} (h : ds.length ≠ es.length) : peqs ds es = false := by
  rw [← all_eqs]
  have : (ds.length == es.length) = false := by simpa using h
  rw [this, Bool.and_false]
theorem tupOf (I : Inv X pins σ H s) {a : Addr} {xs : List V} {ds : List Dt} (h : SqT X.K H a xs) (g : HasL X.K H ds xs) : ∃ its : List Value, Vals xs its ∧ s.heap.IsTuple a its.toArray ∧ its.toArray.size = ds.length := by
  obtain ⟨its, r, p, _⟩ := I.tuple h
  exact ⟨its, r, p, by rw [List.size_toArray, ← r.length, ← g.length]⟩
theorem lstOf (I : Inv X pins σ H s) {a : Addr} {xs : List V} {ds : List Dt} (h : SqL X.K H a xs) (g : HasL X.K H ds xs) : ∃ its : List Value, Vals xs its ∧ s.heap.IsList a its.toArray ∧ its.toArray.size = ds.length := by
  obtain ⟨its, r, p, _⟩ := I.list h
  exact ⟨its, r, p.isList, by rw [List.size_toArray, ← r.length, ← g.length]⟩
/-- what is asked of the items -/
def EqItems (s : Shared) (A : Around) (ds es : List Dt) (xs ys : List V) : Prop :=
  ∀ (us zs : List Value), Vals xs us → Vals ys zs → ∀ (j : Nat) (u z : Value), us[j]? = some u → zs[j]? = some z → SeqAt.EqAt A.in1 s u z (eqAtN ds es j)
theorem rcTT (I : Inv X pins σ H s) {A : Around} {a b : Addr} {xs ys : List V} {ds es : List Dt} (h1 : SqT X.K H a xs) (g1 : HasL X.K H ds xs) (h2 : SqT X.K H b ys) (g2 : HasL X.K H es ys) (hu : A.units < cLine)
    (he : EqItems s A ds es xs ys) : SeqAt.RcAt A s (.ref a) (.ref b) (peqs ds es) ∧ SeqAt.RcNeAt A s (.ref a) (.ref b) (!peqs ds es) := by
  obtain ⟨its, r1, p1, z1⟩ := tupOf I h1 g1
  obtain ⟨jts, r2, p2, z2⟩ := tupOf I h2 g2
  have q : ∀ j (k1 : j < its.toArray.size) (k2 : j < jts.toArray.size), SeqAt.EqAt A.in1 s its.toArray[j] jts.toArray[j] (eqAtN ds es j) := fun j k1 k2 => he its jts r1 r2 j _ _ (by simp at k1 ⊢) (by simp at k2 ⊢)
  have t1 := SeqAt.RcAt.tuples (e := eqAtN ds es) p1 p2 hu q
  have t2 := SeqAt.RcNeAt.tuples (e := eqAtN ds es) p1 p2 hu q
  rw [z1, z2, all_eqs] at t1 t2
  exact ⟨t1, t2⟩
theorem rcLL (I : Inv X pins σ H s) {A : Around} {a b : Addr} {xs ys : List V} {ds es : List Dt} (h1 : SqL X.K H a xs) (g1 : HasL X.K H ds xs) (h2 : SqL X.K H b ys) (g2 : HasL X.K H es ys) (hu : A.units < cLine)
    (he : EqItems s A ds es xs ys) : SeqAt.RcAt A s (.ref a) (.ref b) (peqs ds es) ∧ SeqAt.RcNeAt A s (.ref a) (.ref b) (!peqs ds es) := by
  obtain ⟨its, r1, p1, z1⟩ := lstOf I h1 g1
  obtain ⟨jts, r2, p2, z2⟩ := lstOf I h2 g2
  by_cases hl : ds.length = es.length
  · have q : ∀ j (k1 : j < its.toArray.size) (k2 : j < jts.toArray.size), SeqAt.EqAt A.in1 s its.toArray[j] jts.toArray[j] (eqAtN ds es j) := fun j k1 k2 => he its jts r1 r2 j _ _ (by simp at k1 ⊢) (by simp at k2 ⊢)
    have t1 := SeqAt.RcAt.lists (e := eqAtN ds es) p1 p2 (by rw [z1, z2, hl]) hu q
    have t2 := SeqAt.RcNeAt.lists (e := eqAtN ds es) p1 p2 (by rw [z1, z2, hl]) hu q
    rw [z1, all_eqs' hl] at t1 t2
    exact ⟨t1, t2⟩
  · have hne : (its.toArray.size != jts.toArray.size) = true := by rw [z1, z2]; simpa using hl
    rw [peqs_len hl]
    exact ⟨SeqAt.RcAt.lists_lengths p1 p2 hne hu, SeqAt.RcNeAt.lists_lengths p1 p2 hne hu⟩
theorem unitsOf {A : Around} {d : Dt} (h : A.units + dep d < cLine) : A.units < cLine := Nat.lt_of_le_of_lt (Nat.le_add_right _ _) h
mutual
theorem eqAt_D (I : Inv X pins σ H s) : ∀ (d e : Dt) (v w : V) (u z : Value) (A : Around), Has X.K H d v → Has X.K H e w → RelV v u → RelV w z → A.units + dep d < cLine → SeqAt.EqAt A s u z (peq d e)
  | .non, e, v, w, u, z, A, h, h', r, r', hu => by
    have hu' := unitsOf hu
    simp only [Has] at h
    subst h
    cases e with
    | tup es =>
      simp only [Has] at h'
      obtain ⟨b, ys, rfl, h3, h4⟩ := h'
      obtain ⟨_, _, p, _⟩ := tupOf I h3 h4
      cases (show z = Value.ref b from r')
      cases (show u = Value.none from r)
      exact SeqAt.EqAt.none_tuple p hu'
    | lst es =>
      simp only [Has] at h'
      obtain ⟨b, ys, rfl, h3, h4⟩ := h'
      obtain ⟨_, _, p, _⟩ := lstOf I h3 h4
      cases (show z = Value.ref b from r')
      cases (show u = Value.none from r)
      exact SeqAt.EqAt.none_list p hu'
    | _ => simp only [Has] at h'; subst h'; exact eqAt_V r r' rfl rfl
  | .bl k, e, v, w, u, z, A, h, h', r, r', hu => by
    have hu' := unitsOf hu
    simp only [Has] at h
    subst h
    cases e with
    | tup es =>
      simp only [Has] at h'
      obtain ⟨b, ys, rfl, h3, h4⟩ := h'
      obtain ⟨_, _, p, _⟩ := tupOf I h3 h4
      cases (show z = Value.ref b from r')
      cases (show u = Value.bool k from r)
      exact SeqAt.EqAt.bool_tuple k p hu'
    | lst es =>
      simp only [Has] at h'
      obtain ⟨b, ys, rfl, h3, h4⟩ := h'
      obtain ⟨_, _, p, _⟩ := lstOf I h3 h4
      cases (show z = Value.ref b from r')
      cases (show u = Value.bool k from r)
      exact SeqAt.EqAt.bool_list k p hu'
    | _ => simp only [Has] at h'; subst h'; exact eqAt_V r r' rfl rfl
  | .int k, e, v, w, u, z, A, h, h', r, r', hu => by
    have hu' := unitsOf hu
    simp only [Has] at h
    subst h
    cases e with
    | tup es =>
      simp only [Has] at h'
      obtain ⟨b, ys, rfl, h3, h4⟩ := h'
      obtain ⟨_, _, p, _⟩ := tupOf I h3 h4
      cases (show z = Value.ref b from r')
      obtain ⟨t, rfl⟩ := r
      exact SeqAt.EqAt.int_tuple k t p hu'
    | lst es =>
      simp only [Has] at h'
      obtain ⟨b, ys, rfl, h3, h4⟩ := h'
      obtain ⟨_, _, p, _⟩ := lstOf I h3 h4
      cases (show z = Value.ref b from r')
      obtain ⟨t, rfl⟩ := r
      exact SeqAt.EqAt.int_list k t p hu'
    | _ => simp only [Has] at h'; subst h'; exact eqAt_V r r' rfl rfl
  | .str k, e, v, w, u, z, A, h, h', r, r', hu => by
    have hu' := unitsOf hu
    simp only [Has] at h
    subst h
    cases e with
    | tup es =>
      simp only [Has] at h'
      obtain ⟨b, ys, rfl, h3, h4⟩ := h'
      obtain ⟨_, _, p, _⟩ := tupOf I h3 h4
      cases (show z = Value.ref b from r')
      obtain ⟨t, rfl⟩ := r
      exact SeqAt.EqAt.str_tuple k t p hu'
    | lst es =>
      simp only [Has] at h'
      obtain ⟨b, ys, rfl, h3, h4⟩ := h'
      obtain ⟨_, _, p, _⟩ := lstOf I h3 h4
      cases (show z = Value.ref b from r')
      obtain ⟨t, rfl⟩ := r
      exact SeqAt.EqAt.str_list k t p hu'
    | _ => simp only [Has] at h'; subst h'; exact eqAt_V r r' rfl rfl
  | .tup ds, e, v, w, u, z, A, h, h', r, r', hu => by
    have hu' := unitsOf hu
    have hd := h
    simp only [Has] at h
    obtain ⟨a, xs, rfl, h1, h2⟩ := h
    cases (show u = Value.ref a from r)
    obtain ⟨_, _, p, _⟩ := tupOf I h1 h2
    have hi : A.in1.units + deps ds < cLine := by simp only [dep] at hu; rw [Around.in1_units]; omega
    cases e with
    | tup es =>
      have he := h'
      simp only [Has] at h'
      obtain ⟨b, ys, rfl, h3, h4⟩ := h'
      cases (show z = Value.ref b from r')
      by_cases hab : a = b
      · subst hab
        rw [Has.inj I _ _ _ hd he, peq_refl]
        exact SeqAt.EqAt.same _
      · have q := (rcTT I h1 h2 h3 h4 hu' fun us zs ru rz j u z e1 e2 => eqAt_L I ds es xs ys us zs A.in1 h2 h4 ru rz hi j u z e1 e2).1
        simp only [peq]
        exact SeqAt.EqAt.of_refs hab q
    | lst es =>
      simp only [Has] at h'
      obtain ⟨b, ys, rfl, h3, h4⟩ := h'
      cases (show z = Value.ref b from r')
      obtain ⟨_, _, p', _⟩ := lstOf I h3 h4
      exact SeqAt.EqAt.tuple_list p p' hu'
    | non => simp only [Has] at h'; subst h'; cases (show z = Value.none from r'); exact SeqAt.EqAt.tuple_none p hu'
    | bl k => simp only [Has] at h'; subst h'; cases (show z = Value.bool k from r'); exact SeqAt.EqAt.tuple_bool k p hu'
    | int k => simp only [Has] at h'; subst h'; obtain ⟨t, rfl⟩ := r'; exact SeqAt.EqAt.tuple_int k t p hu'
    | str k => simp only [Has] at h'; subst h'; obtain ⟨t, rfl⟩ := r'; exact SeqAt.EqAt.tuple_str k t p hu'
  | .lst ds, e, v, w, u, z, A, h, h', r, r', hu => by
    have hu' := unitsOf hu
    have hd := h
    simp only [Has] at h
    obtain ⟨a, xs, rfl, h1, h2⟩ := h
    cases (show u = Value.ref a from r)
    obtain ⟨_, _, p, _⟩ := lstOf I h1 h2
    have hi : A.in1.units + deps ds < cLine := by simp only [dep] at hu; rw [Around.in1_units]; omega
    cases e with
    | lst es =>
      have he := h'
      simp only [Has] at h'
      obtain ⟨b, ys, rfl, h3, h4⟩ := h'
      cases (show z = Value.ref b from r')
      by_cases hab : a = b
      · subst hab
        rw [Has.inj I _ _ _ hd he, peq_refl]
        exact SeqAt.EqAt.same _
      · have q := (rcLL I h1 h2 h3 h4 hu' fun us zs ru rz j u z e1 e2 => eqAt_L I ds es xs ys us zs A.in1 h2 h4 ru rz hi j u z e1 e2).1
        simp only [peq]
        exact SeqAt.EqAt.of_refs hab q
    | tup es =>
      simp only [Has] at h'
      obtain ⟨b, ys, rfl, h3, h4⟩ := h'
      cases (show z = Value.ref b from r')
      obtain ⟨_, _, p', _⟩ := tupOf I h3 h4
      exact SeqAt.EqAt.list_tuple p p' hu'
    | non => simp only [Has] at h'; subst h'; cases (show z = Value.none from r'); exact SeqAt.EqAt.list_none p hu'
    | bl k => simp only [Has] at h'; subst h'; cases (show z = Value.bool k from r'); exact SeqAt.EqAt.list_bool k p hu'
    | int k => simp only [Has] at h'; subst h'; obtain ⟨t, rfl⟩ := r'; exact SeqAt.EqAt.list_int k t p hu'
    | str k => simp only [Has] at h'; subst h'; obtain ⟨t, rfl⟩ := r'; exact SeqAt.EqAt.list_str k t p hu'
theorem eqAt_L (I : Inv X pins σ H s) : ∀ (ds es : List Dt) (vs ws : List V) (us zs : List Value) (A : Around), HasL X.K H ds vs → HasL X.K H es ws → Vals vs us → Vals ws zs → A.units + deps ds < cLine →
    ∀ (j : Nat) (u z : Value), us[j]? = some u → zs[j]? = some z → SeqAt.EqAt A s u z (eqAtN ds es j)
  | [], es, vs, ws, us, zs, A, h, h', r, r', hu, j, u, z, e1, e2 => by
    simp only [HasL] at h
    subst h
    cases r
    simp at e1
  | d :: ds, es, vs, ws, us, zs, A, h, h', r, r', hu, j, u, z, e1, e2 => by
    simp only [HasL] at h
    obtain ⟨v, rs, rfl, h1, h2⟩ := h
    cases r with
    | cons r1 r2 =>
      cases es with
      | nil =>
        simp only [HasL] at h'
        subst h'
        cases r'
        simp at e2
      | cons e es =>
        simp only [HasL] at h'
        obtain ⟨w, rt, rfl, h3, h4⟩ := h'
        simp only [deps] at hu
        cases r' with
        | cons r3 r4 =>
          cases j with
          | zero =>
            simp at e1 e2
            subst e1 e2
            exact eqAt_D I d e v w _ _ A h1 h3 r1 r3 (by omega)
          | succ j => exact eqAt_L I ds es rs rt _ _ A h2 h4 r2 r4 (by omega) j u z (by simpa using e1) (by simpa using e2)
end
end
end L2

namespace L2
open PySem PySem.Spec PyProof.Rows
section
variable {X : Cx} {pins : List (Addr × Obj)} {σ : St} {H : Hp} {s : Shared}
/-- == and != of any two data -/
theorem rc_D (I : Inv X pins σ H s) (A : Around) (d e : Dt) (v w : V) (u z : Value) (h : Has X.K H d v) (h' : Has X.K H e w) (r : RelV v u) (r' : RelV w z) (hu : A.units + dep d < cLine) :
    SeqAt.RcAt A s u z (peq d e) ∧ SeqAt.RcNeAt A s u z (!peq d e) := by
  have hu' := unitsOf hu
  cases d with
  | non =>
    simp only [Has] at h
    subst h
    cases (show u = Value.none from r)
    cases e with
    | non =>
      simp only [Has] at h'
      subst h'
      cases (show z = Value.none from r')
      exact ⟨SeqAt.RcAt.none_none, SeqAt.RcNeAt.none_none⟩
    | bl k2 =>
      simp only [Has] at h'
      subst h'
      cases (show z = Value.bool k2 from r')
      exact ⟨SeqAt.RcAt.none_bool k2, SeqAt.RcNeAt.none_bool k2⟩
    | int k2 =>
      simp only [Has] at h'
      subst h'
      obtain ⟨t2, rfl⟩ := r'
      exact ⟨SeqAt.RcAt.none_int k2 t2, SeqAt.RcNeAt.none_int k2 t2⟩
    | str k2 =>
      simp only [Has] at h'
      subst h'
      obtain ⟨t2, rfl⟩ := r'
      exact ⟨SeqAt.RcAt.none_str k2 t2, SeqAt.RcNeAt.none_str k2 t2⟩
    | tup es =>
      simp only [Has] at h'
      obtain ⟨b, ys, rfl, h3, h4⟩ := h'
      obtain ⟨_, _, p, _⟩ := tupOf I h3 h4
      cases (show z = Value.ref b from r')
      exact ⟨SeqAt.RcAt.none_tuple p hu', SeqAt.RcNeAt.none_tuple p hu'⟩
    | lst es =>
      simp only [Has] at h'
      obtain ⟨b, ys, rfl, h3, h4⟩ := h'
      obtain ⟨_, _, p, _⟩ := lstOf I h3 h4
      cases (show z = Value.ref b from r')
      exact ⟨SeqAt.RcAt.none_list p hu', SeqAt.RcNeAt.none_list p hu'⟩
  | bl k1 =>
    simp only [Has] at h
    subst h
    cases (show u = Value.bool k1 from r)
    cases e with
    | non =>
      simp only [Has] at h'
      subst h'
      cases (show z = Value.none from r')
      exact ⟨SeqAt.RcAt.bool_none k1, SeqAt.RcNeAt.bool_none k1⟩
    | bl k2 =>
      simp only [Has] at h'
      subst h'
      cases (show z = Value.bool k2 from r')
      exact ⟨SeqAt.RcAt.bool_bool k1 k2, SeqAt.RcNeAt.bool_bool k1 k2⟩
    | int k2 =>
      simp only [Has] at h'
      subst h'
      obtain ⟨t2, rfl⟩ := r'
      exact ⟨SeqAt.RcAt.bool_int k1 k2 t2, SeqAt.RcNeAt.bool_int k1 k2 t2⟩
    | str k2 =>
      simp only [Has] at h'
      subst h'
      obtain ⟨t2, rfl⟩ := r'
      exact ⟨SeqAt.RcAt.bool_str k1 k2 t2, SeqAt.RcNeAt.bool_str k1 k2 t2⟩
    | tup es =>
      simp only [Has] at h'
      obtain ⟨b, ys, rfl, h3, h4⟩ := h'
      obtain ⟨_, _, p, _⟩ := tupOf I h3 h4
      cases (show z = Value.ref b from r')
      exact ⟨SeqAt.RcAt.bool_tuple k1 p hu', SeqAt.RcNeAt.bool_tuple k1 p hu'⟩
    | lst es =>
      simp only [Has] at h'
      obtain ⟨b, ys, rfl, h3, h4⟩ := h'
      obtain ⟨_, _, p, _⟩ := lstOf I h3 h4
      cases (show z = Value.ref b from r')
      exact ⟨SeqAt.RcAt.bool_list k1 p hu', SeqAt.RcNeAt.bool_list k1 p hu'⟩
  | int k1 =>
    simp only [Has] at h
    subst h
    obtain ⟨t1, rfl⟩ := r
    cases e with
    | non =>
      simp only [Has] at h'
      subst h'
      cases (show z = Value.none from r')
      exact ⟨SeqAt.RcAt.int_none k1 t1, SeqAt.RcNeAt.int_none k1 t1⟩
    | bl k2 =>
      simp only [Has] at h'
      subst h'
      cases (show z = Value.bool k2 from r')
      exact ⟨SeqAt.RcAt.int_bool k1 t1 k2, SeqAt.RcNeAt.int_bool k1 t1 k2⟩
    | int k2 =>
      simp only [Has] at h'
      subst h'
      obtain ⟨t2, rfl⟩ := r'
      exact ⟨SeqAt.RcAt.int_int k1 t1 k2 t2, SeqAt.RcNeAt.int_int k1 t1 k2 t2⟩
    | str k2 =>
      simp only [Has] at h'
      subst h'
      obtain ⟨t2, rfl⟩ := r'
      exact ⟨SeqAt.RcAt.int_str k1 t1 k2 t2, SeqAt.RcNeAt.int_str k1 t1 k2 t2⟩
    | tup es =>
      simp only [Has] at h'
      obtain ⟨b, ys, rfl, h3, h4⟩ := h'
      obtain ⟨_, _, p, _⟩ := tupOf I h3 h4
      cases (show z = Value.ref b from r')
      exact ⟨SeqAt.RcAt.int_tuple k1 t1 p hu', SeqAt.RcNeAt.int_tuple k1 t1 p hu'⟩
    | lst es =>
      simp only [Has] at h'
      obtain ⟨b, ys, rfl, h3, h4⟩ := h'
      obtain ⟨_, _, p, _⟩ := lstOf I h3 h4
      cases (show z = Value.ref b from r')
      exact ⟨SeqAt.RcAt.int_list k1 t1 p hu', SeqAt.RcNeAt.int_list k1 t1 p hu'⟩
  | str k1 =>
    simp only [Has] at h
    subst h
    obtain ⟨t1, rfl⟩ := r
    cases e with
    | non =>
      simp only [Has] at h'
      subst h'
      cases (show z = Value.none from r')
      exact ⟨SeqAt.RcAt.str_none k1 t1, SeqAt.RcNeAt.str_none k1 t1⟩
    | bl k2 =>
      simp only [Has] at h'
      subst h'
      cases (show z = Value.bool k2 from r')
      exact ⟨SeqAt.RcAt.str_bool k1 t1 k2, SeqAt.RcNeAt.str_bool k1 t1 k2⟩
    | int k2 =>
      simp only [Has] at h'
      subst h'
      obtain ⟨t2, rfl⟩ := r'
      exact ⟨SeqAt.RcAt.str_int k1 t1 k2 t2, SeqAt.RcNeAt.str_int k1 t1 k2 t2⟩
    | str k2 =>
      simp only [Has] at h'
      subst h'
      obtain ⟨t2, rfl⟩ := r'
      exact ⟨SeqAt.RcAt.str_str k1 t1 k2 t2, SeqAt.RcNeAt.str_str k1 t1 k2 t2⟩
    | tup es =>
      simp only [Has] at h'
      obtain ⟨b, ys, rfl, h3, h4⟩ := h'
      obtain ⟨_, _, p, _⟩ := tupOf I h3 h4
      cases (show z = Value.ref b from r')
      exact ⟨SeqAt.RcAt.str_tuple k1 t1 p hu', SeqAt.RcNeAt.str_tuple k1 t1 p hu'⟩
    | lst es =>
      simp only [Has] at h'
      obtain ⟨b, ys, rfl, h3, h4⟩ := h'
      obtain ⟨_, _, p, _⟩ := lstOf I h3 h4
      cases (show z = Value.ref b from r')
      exact ⟨SeqAt.RcAt.str_list k1 t1 p hu', SeqAt.RcNeAt.str_list k1 t1 p hu'⟩
  | tup ds =>
    simp only [Has] at h
    obtain ⟨a, xs, rfl, h1, h2⟩ := h
    cases (show u = Value.ref a from r)
    obtain ⟨_, _, p, _⟩ := tupOf I h1 h2
    have hi : A.in1.units + deps ds < cLine := by simp only [dep] at hu; rw [Around.in1_units]; omega
    cases e with
    | non =>
      simp only [Has] at h'
      subst h'
      cases (show z = Value.none from r')
      exact ⟨SeqAt.RcAt.tuple_none p hu', SeqAt.RcNeAt.tuple_none p hu'⟩
    | bl k2 =>
      simp only [Has] at h'
      subst h'
      cases (show z = Value.bool k2 from r')
      exact ⟨SeqAt.RcAt.tuple_bool k2 p hu', SeqAt.RcNeAt.tuple_bool k2 p hu'⟩
    | int k2 =>
      simp only [Has] at h'
      subst h'
      obtain ⟨t2, rfl⟩ := r'
      exact ⟨SeqAt.RcAt.tuple_int k2 t2 p hu', SeqAt.RcNeAt.tuple_int k2 t2 p hu'⟩
    | str k2 =>
      simp only [Has] at h'
      subst h'
      obtain ⟨t2, rfl⟩ := r'
      exact ⟨SeqAt.RcAt.tuple_str k2 t2 p hu', SeqAt.RcNeAt.tuple_str k2 t2 p hu'⟩
    | tup es =>
      simp only [Has] at h'
      obtain ⟨b, ys, rfl, h3, h4⟩ := h'
      cases (show z = Value.ref b from r')
      simp only [peq]
      exact rcTT I h1 h2 h3 h4 hu' fun us zs ru rz j u z e1 e2 => eqAt_L I ds es xs ys us zs A.in1 h2 h4 ru rz hi j u z e1 e2
    | lst es =>
      simp only [Has] at h'
      obtain ⟨b, ys, rfl, h3, h4⟩ := h'
      cases (show z = Value.ref b from r')
      obtain ⟨_, _, p', _⟩ := lstOf I h3 h4
      exact ⟨SeqAt.RcAt.tuple_list p p' hu', SeqAt.RcNeAt.tuple_list p p' hu'⟩
  | lst ds =>
    simp only [Has] at h
    obtain ⟨a, xs, rfl, h1, h2⟩ := h
    cases (show u = Value.ref a from r)
    obtain ⟨_, _, p, _⟩ := lstOf I h1 h2
    have hi : A.in1.units + deps ds < cLine := by simp only [dep] at hu; rw [Around.in1_units]; omega
    cases e with
    | non =>
      simp only [Has] at h'
      subst h'
      cases (show z = Value.none from r')
      exact ⟨SeqAt.RcAt.list_none p hu', SeqAt.RcNeAt.list_none p hu'⟩
    | bl k2 =>
      simp only [Has] at h'
      subst h'
      cases (show z = Value.bool k2 from r')
      exact ⟨SeqAt.RcAt.list_bool k2 p hu', SeqAt.RcNeAt.list_bool k2 p hu'⟩
    | int k2 =>
      simp only [Has] at h'
      subst h'
      obtain ⟨t2, rfl⟩ := r'
      exact ⟨SeqAt.RcAt.list_int k2 t2 p hu', SeqAt.RcNeAt.list_int k2 t2 p hu'⟩
    | str k2 =>
      simp only [Has] at h'
      subst h'
      obtain ⟨t2, rfl⟩ := r'
      exact ⟨SeqAt.RcAt.list_str k2 t2 p hu', SeqAt.RcNeAt.list_str k2 t2 p hu'⟩
    | tup es =>
      simp only [Has] at h'
      obtain ⟨b, ys, rfl, h3, h4⟩ := h'
      cases (show z = Value.ref b from r')
      obtain ⟨_, _, p', _⟩ := tupOf I h3 h4
      exact ⟨SeqAt.RcAt.list_tuple p p' hu', SeqAt.RcNeAt.list_tuple p p' hu'⟩
    | lst es =>
      simp only [Has] at h'
      obtain ⟨b, ys, rfl, h3, h4⟩ := h'
      cases (show z = Value.ref b from r')
      simp only [peq]
      exact rcLL I h1 h2 h3 h4 hu' fun us zs ru rz j u z e1 e2 => eqAt_L I ds es xs ys us zs A.in1 h2 h4 ru rz hi j u z e1 e2
def rEqD (K : PySem.W.Frag) : R2 := fun x y H Q => ∃ d e, Has K H d x ∧ Has K H e y ∧ dep d ≤ 60 ∧ Q (.bl (peq d e)) H
def rNeD (K : PySem.W.Frag) : R2 := fun x y H Q => ∃ d e, Has K H d x ∧ Has K H e y ∧ dep d ≤ 60 ∧ Q (.bl (!peq d e)) H
theorem op_eqD (hu : X.A.units + 64 < cLine) : OpR X (compareOp .Eq) (rEqD X.K) := by
  intro pins s σ H x y v u Q I rx ry h
  obtain ⟨d, e, h1, h2, hd, q⟩ := h
  exact (rc_D I X.A d e x y v u h1 h2 rx ry (by omega)).1 _ _ _ _ ⟨.bl _, H, I, rfl, q⟩
theorem op_neD (hu : X.A.units + 64 < cLine) : OpR X (compareOp .NotEq) (rNeD X.K) := by
  intro pins s σ H x y v u Q I rx ry h
  obtain ⟨d, e, h1, h2, hd, q⟩ := h
  exact (rc_D I X.A d e x y v u h1 h2 rx ry (by omega)).2 _ _ _ _ ⟨.bl _, H, I, rfl, q⟩
/-! ### in, not in, index -/
open Classical in
/-- does this value stand for a datum that is like d -/
noncomputable def hitD (K : PySem.W.Frag) (H : Hp) (d : Dt) (u : Value) : Bool := decide (∃ (v : V) (d' : Dt), RelV v u ∧ Has K H d' v ∧ peq d' d = true)
open Classical in
theorem hitD_of (I : Inv X pins σ H s) {d d' : Dt} {v : V} {u : Value} (r : RelV v u) (h : Has X.K H d' v) : hitD X.K H d u = peq d' d := by
  unfold hitD
  cases e : peq d' d with
  | true => exact decide_eq_true ⟨v, d', r, h, e⟩
  | false =>
    refine decide_eq_false fun ⟨v', d2, r', h', e'⟩ => ?_
    rw [r'.inj r] at h'
    rw [Has.inj I _ _ _ h' h, e] at e'
    cases e'
theorem any_hitD (I : Inv X pins σ H s) {d : Dt} : ∀ {ds : List Dt} {vs : List V} {us : List Value}, HasL X.K H ds vs → Vals vs us → us.any (hitD X.K H d) = ds.any fun d' => peq d' d
  | [], vs, us, h, r => by
    simp only [HasL] at h
    subst h
    cases r
    rfl
  | d' :: ds, vs, us, h, r => by
    simp only [HasL] at h
    obtain ⟨v, rs, rfl, h1, h2⟩ := h
    cases r with
    | cons r1 r2 => rw [List.any_cons, List.any_cons, hitD_of I r1 h1, any_hitD I h2 r2]
theorem mem_hitD (I : Inv X pins σ H s) {A : Around} {d : Dt} {x : V} {ux : Value} (hx : Has X.K H d x) (rx : RelV x ux) : ∀ {ds : List Dt} {vs : List V} {us : List Value}, HasL X.K H ds vs → Vals vs us → A.units + deps ds < cLine → ∀ u ∈ us, SeqAt.EqAt A s u ux (hitD X.K H d u)
  | [], vs, us, h, r, hu, u, hm => by
    simp only [HasL] at h
    subst h
    cases r
    cases hm
  | d' :: ds, vs, us, h, r, hu, u, hm => by
    simp only [HasL] at h
    obtain ⟨v, rs, rfl, h1, h2⟩ := h
    simp only [deps] at hu
    cases r with
    | cons r1 r2 =>
      rcases List.mem_cons.mp hm with rfl | hm
      · rw [hitD_of I r1 h1]
        exact eqAt_D I d' d v x _ _ A h1 hx r1 rx (by omega)
      · exact mem_hitD I hx rx h2 r2 (by omega) u hm
def rInD (K : PySem.W.Frag) (neg : Bool) : R2 := fun x y H Q => ∃ p xs ds d, y = .ref p ∧ (SqL K H p xs ∨ SqT K H p xs) ∧ HasL K H ds xs ∧ Has K H d x ∧ deps ds ≤ 60 ∧ Q (.bl (if neg then !(ds.any fun d' => peq d' d) else ds.any fun d' => peq d' d)) H
theorem op_inD (hu : X.A.units + 64 < cLine) : OpR X (compareOp .In) (rInD X.K false) := by
  intro pins s σ H x y v u Q I rx ry h
  obtain ⟨p, xs, ds, d, rfl, hq, hs, hx, hd, q⟩ := h
  cases ry
  have hin : X.A.in1.units + deps ds < cLine := by rw [Around.in1_units]; omega
  rcases hq with hq | hq
  · obtain ⟨its, r, pl, hz⟩ := I.list hq
    refine SeqAt.in_listAt (hitD X.K H d) pl.isList (fun w hw => mem_hitD I hx rx hs r hin w (by simpa using hw)) ⟨.bl _, H, I, rfl, ?_⟩
    rw [show its.toArray.any (hitD X.K H d) = its.any (hitD X.K H d) by simp, any_hitD I hs r]
    exact q
  · obtain ⟨its, r, pl, hz⟩ := I.tuple hq
    refine SeqAt.in_tupleAt (hitD X.K H d) pl (fun w hw => mem_hitD I hx rx hs r hin w (by simpa using hw)) ⟨.bl _, H, I, rfl, ?_⟩
    rw [show its.toArray.any (hitD X.K H d) = its.any (hitD X.K H d) by simp, any_hitD I hs r]
    exact q
theorem op_notInD (hu : X.A.units + 64 < cLine) : OpR X (compareOp .NotIn) (rInD X.K true) := by
  intro pins s σ H x y v u Q I rx ry h
  obtain ⟨p, xs, ds, d, rfl, hq, hs, hx, hd, q⟩ := h
  cases ry
  have hin : X.A.in1.units + deps ds < cLine := by rw [Around.in1_units]; omega
  rcases hq with hq | hq
  · obtain ⟨its, r, pl, hz⟩ := I.list hq
    refine SeqAt.notIn_listAt (hitD X.K H d) pl.isList (fun w hw => mem_hitD I hx rx hs r hin w (by simpa using hw)) ⟨.bl _, H, I, rfl, ?_⟩
    rw [show its.toArray.any (hitD X.K H d) = its.any (hitD X.K H d) by simp, any_hitD I hs r]
    exact q
  · obtain ⟨its, r, pl, hz⟩ := I.tuple hq
    refine SeqAt.notIn_tupleAt (hitD X.K H d) pl (fun w hw => mem_hitD I hx rx hs r hin w (by simpa using hw)) ⟨.bl _, H, I, rfl, ?_⟩
    rw [show its.toArray.any (hitD X.K H d) = its.any (hitD X.K H d) by simp, any_hitD I hs r]
    exact q
/-- the place of the first that is like d -/
def rIndexD (K : PySem.W.Frag) : V → List V → Hp → VK → Prop := fun x vs H Q => ∃ l xs ds y d j, x = .ref l ∧ vs = [y] ∧ H l = some (.lst xs) ∧ HasL K H ds xs ∧ Has K H d y ∧ deps ds ≤ 60 ∧
  (∃ dj, ds[j]? = some dj ∧ peq dj d = true) ∧ (∀ m dm, m < j → ds[m]? = some dm → peq dm d = false) ∧ Q (.int (j : Nat)) H
theorem mt_indexD (hu : X.A.units + 64 < cLine) : MtM X "list.index" (rIndexD X.K) := by
  intro pins s σ H x vs v us Q I rx rv h
  obtain ⟨l, xs, ds, y, d, j, rfl, rfl, hH, hs, hy, hd, ⟨dj, ej, hj⟩, hno, q⟩ := h
  cases rx
  obtain ⟨u, rfl, ru⟩ := rv.one
  obtain ⟨z, its, n, r, hl, e⟩ := I.lstM hH
  have hlen := hs.length
  have hjl : j < ds.length := (List.getElem?_eq_some_iff.mp ej).1
  have hin : X.A.in1.units + deps ds < cLine := by rw [Around.in1_units]; omega
  have at_ : ∀ m (hm : m < its.toArray.size), ∃ dm, ds[m]? = some dm ∧ hitD X.K H d its.toArray[m] = peq dm d := fun m hm => by
    have hm' : m < ds.length := by rw [List.size_toArray] at hm; omega
    obtain ⟨w, e1, e2⟩ := hs.getD (List.getElem?_eq_getElem hm')
    obtain ⟨wv, e3, e4⟩ := r.get e1
    have e5 : its.toArray[m] = wv := by
      have : its[m]? = some wv := e3
      simp only [List.getElem_toArray]
      rw [List.getElem?_eq_getElem (by rw [List.size_toArray] at hm; exact hm)] at this
      exact Option.some.inj this
    exact ⟨_, List.getElem?_eq_getElem hm', by rw [e5]; exact hitD_of I e4 e2⟩
  have hjs : j < its.toArray.size := by rw [List.size_toArray]; omega
  have hsm : (j : Int) < 2 ^ 63 - 1 := by
    have := sizeLine_eq
    omega
  refine call_meets F.slot_list_index ⟨_, e, rfl⟩ F.entry_list_index (F.args_list_index_2 _ _) (SeqAt.list_indexAt l its.toArray n none #[] u (hitD X.K H d) j hjs hsm ?_ ?_) ⟨e, ?_, ?_⟩
  · obtain ⟨dm, e1, e2⟩ := at_ j hjs
    rw [ej] at e1
    cases e1
    rw [e2, hj]
  · intro m hm hlt
    obtain ⟨dm, e1, e2⟩ := at_ m hm
    rw [e2, hno m dm hlt e1]
  · intro w hw
    exact mem_hitD I hy ru hs r hin w (by simpa using hw)
  · exact ⟨.int (j : Nat), H, I.tok _, ⟨_, rfl⟩, q⟩
end
end L2

/-! OWN: forms that the laws share: a def with all that a caller asks, comprehensions by an invariant, walks by any iterator. Behind Ext2, Deep2. -/
namespace L2
open PySem PySem.Spec PyProof.Rows
/-- a def with its promise, as a caller asks it -/
structure FB (P : Program) (w : World) (K : PySem.W.Frag) (mg : Str → Option Value) (base : Heap) (CX : CXT) (k : Nat) (x : Str) (f : Addr) (fd : FuncData) (ps : List Str) (sp : Sp) : Prop where
  ok : FnOk P w K mg base CX k f fd ps sp
  b : Binds K fd ps []
  kp : PySem.W.keepIn K (.ref f) = true
  m : mg x = some (.ref f)
theorem bsz (n : Nat) (h : n ≤ 1000) : n ≤ sizeLine := Nat.le_of_lt (small1000 h)
theorem take_snoc {α : Type} {xs : List α} {i : Nat} {x : α} (h : xs[i]? = some x) : xs.take (i + 1) = xs.take i ++ [x] := by
  rw [List.take_add_one, h]
  rfl
theorem sameNew {H : Hp} {p : Addr} (h : H p = none) (o : HO) : Same H (upd H p o) := fun b u q => by rw [upd_ne (ne_of_none q h)]; exact q
theorem Same.upd {H0 H : Hp} {l : Addr} {o : HO} (s : Same H0 H) (h : H0 l = none) : Same H0 (upd H l o) := fun b u q => by rw [upd_ne (ne_of_none q h)]; exact s b u q
theorem Same.kt {H H' : Hp} (s : Same H H') : KeepT H H' := KeepT.of_same s
theorem Same.tup {K : PySem.W.Frag} {H H' : Hp} {a : Addr} {xs : List V} (s : Same H H') (h : SqT K H a xs) : SqT K H' a xs := s.kt.sq h

/-! ### an iterator of n turns -/
structure Wk (J : It) (n : Nat) (Ok : Hp → Prop) : Prop where
  stop : ∀ i H, Ok H → n ≤ i → J.stop i H
  go : ∀ i H, Ok H → i < n → J.go i H
theorem wk_range {lo : Int} {n : Nat} : Wk (Itr lo n) n (fun _ => True) := ⟨fun _ _ _ h => h, fun _ _ _ h => h⟩
theorem wk_list {K : PySem.W.Frag} {a : Addr} {xs : List V} : Wk (Itl K a) xs.length (fun H => SqL K H a xs) := ⟨fun _ _ h hi => ⟨xs, h, hi⟩, fun i _ h hi => ⟨xs, xs[i], h, by simp [hi]⟩⟩
theorem wk_tup {K : PySem.W.Frag} {a : Addr} {xs : List V} : Wk (Itt K a) xs.length (fun H => SqT K H a xs) := ⟨fun _ _ h hi => ⟨xs, h, hi⟩, fun i _ h hi => ⟨xs, xs[i], h, by simp [hi]⟩⟩
/-- what a turn of a comprehension is to reach -/
def LcW (n : Nat) (D : Addr) (Pv : Nat → List V → Hp → Prop) (i m : Nat) (ys : List V) (H : Hp) : Prop := m = n - i ∧ i ≤ n ∧ ys.length ≤ i ∧ H D = some (.lst ys) ∧ Pv i ys H
def LcPost (n : Nat) (D : Addr) (Pv : Nat → List V → Hp → Prop) (i : Nat) (ys : List V) : VK := fun y H3 => H3 D = some (.lst ys) ∧ ys.length < sizeLine ∧ ∃ m', m' < n - i ∧ LcW n D Pv (i + 1) m' (ys ++ [y]) (upd H3 D (.lst (ys ++ [y])))
def LcSkip (n : Nat) (D : Addr) (Pv : Nat → List V → Hp → Prop) (i : Nat) (ys : List V) (H3 : Hp) : Prop := ∃ m', m' < n - i ∧ LcW n D Pv (i + 1) m' ys H3
theorem lc_post {n : Nat} {D : Addr} {Pv : Nat → List V → Hp → Prop} {i : Nat} {ys : List V} {y : V} {H3 : Hp} (hn : n ≤ sizeLine) (hi : i < n) (hl : ys.length ≤ i) (hD : H3 D = some (.lst ys)) (p : Pv (i + 1) (ys ++ [y]) (upd H3 D (.lst (ys ++ [y])))) : LcPost n D Pv i ys y H3 :=
  ⟨hD, by omega, n - (i + 1), by omega, rfl, hi, by rw [List.length_append, List.length_singleton]; omega, upd_same, p⟩
theorem lc_by {J : It} {n : Nat} {Ok : Hp → Prop} {te : TE} {fv : St} {H1 : Hp} {D : Addr} {R : Hp → Prop} (W : Wk J n Ok) (Pv : Nat → List V → Hp → Prop) (hok : ∀ i ys H, Pv i ys H → Ok H) (h0 : Pv 0 [] (upd H1 D (.lst [])))
    (hs : ∀ i ys H' x H'', i < n → ys.length ≤ i → H' D = some (.lst ys) → Pv i ys H' → J.yld i H' x H'' → te (some x :: fv) H'' (LcPost n D Pv i ys)) (hd : ∀ ys H', H' D = some (.lst ys) → Pv n ys H' → R H') :
    ∃ W : Nat → Nat → List V → Hp → Prop, (∃ m, W 0 m [] (upd H1 D (.lst []))) ∧ ∀ i m ys H', W i m ys H' → H' D = some (.lst ys) ∧
      ((J.stop i H' ∧ R H') ∨ (J.go i H' ∧ ∀ x H'', J.yld i H' x H'' → te (some x :: fv) H'' fun y H3 => H3 D = some (.lst ys) ∧ ys.length < sizeLine ∧ ∃ m', m' < m ∧ W (i + 1) m' (ys ++ [y]) (upd H3 D (.lst (ys ++ [y]))))) := by
  refine ⟨LcW n D Pv, ⟨n, rfl, Nat.zero_le _, Nat.zero_le _, upd_same, h0⟩, ?_⟩
  rintro i m ys H' ⟨rfl, hi, hl, hD, p⟩
  refine ⟨hD, ?_⟩
  by_cases hlt : i < n
  · exact .inr ⟨W.go i H' (hok _ _ _ p) hlt, fun x H'' y => hs i ys H' x H'' hlt hl hD p y⟩
  · have e : i = n := by omega
    subst e
    exact .inl ⟨W.stop i H' (hok _ _ _ p) (Nat.le_refl _), hd ys H' hD p⟩
theorem for_by {J : It} {n : Nat} {Ok : Hp → Prop} {g : TG} {tb : TS} {D : Ends} {σ : St} {H : Hp} (W : Wk J n Ok) (Pv : Nat → St → Hp → Prop) (hok : ∀ i σ H, Pv i σ H → Ok H) (h0 : Pv 0 σ H)
    (hs : ∀ i σ H x H', i < n → Pv i σ H → J.yld i H x H' → g x σ H' fun σ2 H2 => tb { D with nx := Pv (i + 1), ct := Pv (i + 1), bk := D.nx } σ2 H2) (hd : ∀ σ H, Pv n σ H → D.nx σ H) :
    ∃ W : Nat → Nat → St → Hp → Prop, (∃ m, W 0 m σ H) ∧ ∀ i m σ H, W i m σ H →
      (J.stop i H ∧ D.nx σ H) ∨ (J.go i H ∧ ∃ N : St → Hp → Prop, (∀ σ' H', N σ' H' → ∃ m', m' < m ∧ W (i + 1) m' σ' H') ∧ ∀ x H', J.yld i H x H' → g x σ H' fun σ2 H2 => tb { D with nx := N, ct := N, bk := D.nx } σ2 H2) := by
  refine ⟨fun i m σ H => m = n - i ∧ i ≤ n ∧ Pv i σ H, ⟨n, by simp, Nat.zero_le _, h0⟩, ?_⟩
  rintro i m σ H ⟨rfl, hi, p⟩
  by_cases hlt : i < n
  · exact .inr ⟨W.go i H (hok _ _ _ p) hlt, Pv (i + 1), fun σ' H' p' => ⟨n - (i + 1), by omega, rfl, hlt, p'⟩, fun x H' y => hs i σ H x H' hlt p y⟩
  · have e : i = n := by omega
    subst e
    exact .inl ⟨W.stop i H (hok _ _ _ p) (Nat.le_refl _), hd σ H p⟩

/-! ### data that stand -/
theorem Has.int {K : PySem.W.Frag} {H : Hp} {i : Int} : Has K H (.int i) (.int i) := by simp only [Has]
theorem Has.str' {K : PySem.W.Frag} {H : Hp} {x : Str} : Has K H (.str x) (.str x) := by simp only [Has]
theorem HasL.nil {K : PySem.W.Frag} {H : Hp} : HasL K H [] [] := by simp only [HasL]
theorem HasL.cons {K : PySem.W.Frag} {H : Hp} {d : Dt} {ds : List Dt} {v : V} {vs : List V} (h : Has K H d v) (r : HasL K H ds vs) : HasL K H (d :: ds) (v :: vs) := by
  simp only [HasL]
  exact ⟨v, vs, rfl, h, r⟩
theorem Has.tup' {K : PySem.W.Frag} {H : Hp} {ds : List Dt} {a : Addr} {xs : List V} (h : SqT K H a xs) (r : HasL K H ds xs) : Has K H (.tup ds) (.ref a) := by
  simp only [Has]
  exact ⟨a, xs, rfl, h, r⟩
theorem Has.lst' {K : PySem.W.Frag} {H : Hp} {ds : List Dt} {a : Addr} {xs : List V} (h : SqL K H a xs) (r : HasL K H ds xs) : Has K H (.lst ds) (.ref a) := by
  simp only [Has]
  exact ⟨a, xs, rfl, h, r⟩
theorem hasl_ints {K : PySem.W.Frag} {H : Hp} : ∀ {ns : List Int} {vs : List V}, HasL K H (ns.map Dt.int) vs → vs = ns.map V.int
  | [], vs, h => by simp only [List.map_nil, HasL] at h; rw [h]; rfl
  | n :: ns, vs, h => by
    simp only [List.map_cons, HasL] at h
    obtain ⟨v, r, rfl, h1, h2⟩ := h
    simp only [Has] at h1
    rw [h1, hasl_ints h2]
    rfl
/-- a tuple of two numbers -/
def dP (t : Int × Int) : Dt := .tup [.int t.1, .int t.2]
/-- len of a list or a tuple, where the context is a comprehension's -/
abbrev rLenS (K : PySem.W.Frag) : List V → Hp → VK → Prop := fun xs H Q => ∃ p ys, xs = [.ref p] ∧ (SqL K H p ys ∨ SqT K H p ys) ∧ Q (.int ys.length) H
end L2

/-! OWN: dict(list of pairs), below the layer. -/
namespace PySem
open Sem (wp)
namespace F
end F
section
variable {prog : Program} {w : World} {K : Type} [DecidableEq K] {knd : KeyKind prog w K} {A : Around}
def pairsTo (ks : Nat → K) (vals : Nat → Value) (n : Nat) : List (K × Value) := (List.range n).foldl (fun acc j => stored acc (ks j) (vals j)) []
end
end PySem

namespace L2
open PySem PySem.Spec PyProof.Rows

/-! ### lists of pairs as tables -/
section
variable {κ : Type} [DecidableEq κ]
def valV (kvs : List (κ × V)) (k : κ) : Option V := (kvs.find? fun kv => decide (kv.1 = k)).map (·.2)
/-- in its place, or at the end -/
def putK (kvs : List (κ × V)) (k : κ) (v : V) : List (κ × V) :=
  if (kvs.any fun kv => decide (kv.1 = k)) = true then kvs.map (fun kv => if kv.1 = k then (kv.1, v) else kv) else kvs ++ [(k, v)]
def dropK (kvs : List (κ × V)) (k : κ) : List (κ × V) := kvs.filter fun kv => decide (kv.1 ≠ k)

theorem valV_nil {k : κ} : valV ([] : List (κ × V)) k = none := rfl
theorem valV_pos {p : κ × V} {r : List (κ × V)} {k : κ} (e : p.1 = k) : valV (p :: r) k = some p.2 := by simp [valV, List.find?_cons, e]
theorem valV_neg {p : κ × V} {r : List (κ × V)} {k : κ} (e : ¬ p.1 = k) : valV (p :: r) k = valV r k := by simp [valV, List.find?_cons, e]
theorem valV_any (k : κ) : ∀ kvs : List (κ × V), (kvs.any fun kv => decide (kv.1 = k)) = (valV kvs k).isSome
  | [] => rfl
  | p :: r => by
    rw [List.any_cons]
    by_cases e : p.1 = k
    · simp only [valV_pos e, decide_eq_true e, Bool.true_or, Option.isSome_some]
    · rw [valV_neg e, decide_eq_false e, Bool.false_or]; exact valV_any k r
theorem valV_map (k j : κ) (y : V) : ∀ kvs : List (κ × V), valV (kvs.map fun kv => if kv.1 = k then (kv.1, y) else kv) j = (valV kvs j).map fun x => if j = k then y else x
  | [] => rfl
  | p :: r => by
    have ih := valV_map k j y r
    rw [List.map_cons]
    by_cases h : p.1 = k
    · rw [if_pos h]
      by_cases e : p.1 = j
      · rw [valV_pos (p := (p.1, y)) e, valV_pos e, Option.map_some, if_pos (e.symm.trans h)]
      · rw [valV_neg (p := (p.1, y)) e, valV_neg e, ih]
    · rw [if_neg h]
      by_cases e : p.1 = j
      · rw [valV_pos (p := p) e, valV_pos e, Option.map_some, if_neg (fun z => h (e.trans z))]
      · rw [valV_neg (p := p) e, valV_neg e, ih]
theorem valV_snoc (k j : κ) (y : V) : ∀ kvs : List (κ × V), valV kvs k = none → valV (kvs ++ [(k, y)]) j = if j = k then some y else valV kvs j
  | [], _ => by
    by_cases e : k = j
    · rw [if_pos e.symm]; exact valV_pos (p := (k, y)) e
    · rw [if_neg (fun z => e z.symm)]; exact valV_neg (p := (k, y)) e
  | p :: r, hn => by
    rw [List.cons_append]
    have hk : ¬ p.1 = k := fun z => by rw [valV_pos z] at hn; cases hn
    rw [valV_neg hk] at hn
    have ih := valV_snoc k j y r hn
    by_cases e : p.1 = j
    · rw [valV_pos e, valV_pos e, if_neg (fun z => hk (e.trans z))]
    · rw [valV_neg e, valV_neg e, ih]
theorem valV_put (kvs : List (κ × V)) (k j : κ) (y : V) : valV (putK kvs k y) j = if j = k then some y else valV kvs j := by
  unfold putK
  by_cases a : (kvs.any fun kv => decide (kv.1 = k)) = true
  · rw [if_pos a, valV_map]
    rw [valV_any] at a
    by_cases e : j = k
    · obtain ⟨x, hx⟩ := Option.isSome_iff_exists.mp a
      rw [if_pos e, e, hx, Option.map_some, if_pos rfl]
    · rw [if_neg e]
      cases valV kvs j with
      | none => rfl
      | some x => rw [Option.map_some, if_neg e]
  · rw [if_neg a]
    refine valV_snoc k j y kvs ?_
    rw [valV_any] at a
    cases q : valV kvs k with
    | none => rfl
    | some x => rw [q] at a; exact (a rfl).elim
theorem RelO.isSome_eq {o : Option V} {u : Option Value} (r : RelO o u) : o.isSome = u.isSome := by
  cases o with
  | none => cases u with
    | none => rfl
    | some _ => exact (show False from r).elim
  | some _ => cases u with
    | none => exact (show False from r).elim
    | some _ => rfl
theorem RelO.getD {o : Option V} {u : Option Value} {d : V} {d' : Value} (r : RelO o u) (rd : RelV d d') : RelV (o.getD d) (u.getD d') := by
  cases o with
  | none => cases u with
    | none => exact rd
    | some _ => exact (show False from r).elim
  | some _ => cases u with
    | none => exact (show False from r).elim
    | some _ => exact r

/-- raw tables of the same keys -/
theorem KV.val {kvs : List (κ × V)} {vs : List (κ × Value)} (r : KV kvs vs) (k : κ) : RelO (valV kvs k) (valueAt vs k) := by
  unfold KV at r
  induction r with
  | nil => exact True.intro
  | @cons p q ps qs h t ih =>
    obtain ⟨h1, h2⟩ := h
    by_cases e : p.1 = k
    · have e' : q.1 = k := h1.symm.trans e
      have b : valueAt (q :: qs) k = some q.2 := by simp [valueAt, List.find?_cons, e']
      rw [valV_pos e, b]; exact h2
    · have e' : ¬ q.1 = k := fun z => e (h1.trans z)
      have b : valueAt (q :: qs) k = valueAt qs k := by simp [valueAt, List.find?_cons, e']
      rw [valV_neg e, b]; exact ih
theorem KV.any {kvs : List (κ × V)} {vs : List (κ × Value)} (r : KV kvs vs) (k : κ) : (kvs.any fun kv => decide (kv.1 = k)) = vs.any fun kv => decide (kv.1 = k) := by
  unfold KV at r
  induction r with
  | nil => rfl
  | cons h t ih => rw [List.any_cons, List.any_cons, ih, h.1]
theorem KV.repl {kvs : List (κ × V)} {vs : List (κ × Value)} (r : KV kvs vs) (k : κ) {y : V} {u : Value} (ry : RelV y u) :
    KV (kvs.map fun kv => if kv.1 = k then (kv.1, y) else kv) (vs.map fun kv => if kv.1 = k then (kv.1, u) else kv) := by
  unfold KV at r ⊢
  induction r with
  | nil => exact .nil
  | @cons p q ps qs h t ih =>
    rw [List.map_cons, List.map_cons]
    refine .cons ?_ ih
    obtain ⟨h1, h2⟩ := h
    by_cases e : p.1 = k
    · rw [if_pos e, if_pos (h1.symm.trans e)]; exact ⟨h1, ry⟩
    · rw [if_neg e, if_neg (fun z => e (h1.trans z))]; exact ⟨h1, h2⟩
theorem KV.put {kvs : List (κ × V)} {vs : List (κ × Value)} (r : KV kvs vs) (k : κ) {y : V} {u : Value} (ry : RelV y u) : KV (putK kvs k y) (stored vs k u) := by
  unfold putK stored
  rw [r.any k]
  by_cases e : (vs.any fun kv => decide (kv.1 = k)) = true
  · rw [if_pos e, if_pos e]; exact r.repl k ry
  · rw [if_neg e, if_neg e]; exact Paired.snoc r ⟨rfl, ry⟩
theorem KV.drop {kvs : List (κ × V)} {vs : List (κ × Value)} (r : KV kvs vs) (k : κ) : KV (dropK kvs k) (without vs k) := by
  unfold KV at r ⊢
  unfold dropK without
  induction r with
  | nil => exact .nil
  | @cons p q ps qs h t ih =>
    obtain ⟨h1, h2⟩ := h
    rw [List.filter_cons, List.filter_cons]
    by_cases e : p.1 = k
    · have a : ¬ decide (p.1 ≠ k) = true := by simp [e]
      have b : ¬ decide (q.1 ≠ k) = true := by simp [h1.symm.trans e]
      rw [if_neg a, if_neg b]; exact ih
    · have e' : ¬ q.1 = k := fun z => e (h1.trans z)
      have a : decide (p.1 ≠ k) = true := by simp [e]
      have b : decide (q.1 ≠ k) = true := by simp [e']
      rw [if_pos a, if_pos b]; exact .cons ⟨h1, h2⟩ ih
theorem KV.keys {kvs : List (κ × V)} {vs : List (κ × Value)} (r : KV kvs vs) : kvs.map (·.1) = vs.map (·.1) := by
  unfold KV at r
  induction r with
  | nil => rfl
  | cons h t ih => rw [List.map_cons, List.map_cons, ih, h.1]
theorem KV.length {kvs : List (κ × V)} {vs : List (κ × Value)} (r : KV kvs vs) : kvs.length = vs.length := Paired.length r
end


/-! ### a tracked dict, its keys ints and texts or tuples of these -/
/-- raw entries of a dict with tuple keys -/
abbrev KT (H : Hp) : List (List Key × V) → List (List Key × Addr × Value) → Prop := Paired fun p q => p.1 = q.1 ∧ H q.2.1 = some (.tup (p.1.map kV)) ∧ RelV p.2 q.2.2
theorem KT.val {H : Hp} {kvs : List (List Key × V)} {xs : List (List Key × Addr × Value)} (r : KT H kvs xs) (k : List Key) : RelO (valV kvs k) ((atKey xs k).map (·.2)) := by
  induction r with
  | nil => exact True.intro
  | @cons p q ps qs h t ih =>
    obtain ⟨h1, _, h2⟩ := h
    by_cases e : p.1 = k
    · have e' : q.1 = k := h1.symm.trans e
      have b : atKey (q :: qs) k = some q.2 := by simp [atKey, List.find?_cons, e']
      rw [valV_pos e, b]; exact h2
    · have e' : ¬ q.1 = k := fun z => e (h1.trans z)
      have b : atKey (q :: qs) k = atKey qs k := by simp [atKey, List.find?_cons, e']
      rw [valV_neg e, b]; exact ih
theorem KT.repl {H : Hp} {kvs : List (List Key × V)} {xs : List (List Key × Addr × Value)} (r : KT H kvs xs) (k : List Key) {y : V} {u : Value} (ry : RelV y u) :
    KT H (kvs.map fun kv => if kv.1 = k then (kv.1, y) else kv) (xs.map (putAt k u)) := by
  induction r with
  | nil => exact .nil
  | @cons p q ps qs h t ih =>
    rw [List.map_cons, List.map_cons]
    refine .cons ?_ ih
    obtain ⟨h1, h2, h3⟩ := h
    unfold putAt
    by_cases e : p.1 = k
    · rw [if_pos e, if_pos (h1.symm.trans e)]; exact ⟨h1, h2, ry⟩
    · rw [if_neg e, if_neg (fun z => e (h1.trans z))]; exact ⟨h1, h2, h3⟩
theorem KT.put {H : Hp} {kvs : List (List Key × V)} {xs : List (List Key × Addr × Value)} (r : KT H kvs xs) (k : List Key) {b : Addr} {y : V} {u : Value} (hb : H b = some (.tup (k.map kV))) (ry : RelV y u) :
    KT H (putK kvs k y) (storedH xs k b u) := by
  have e : (kvs.any fun kv => decide (kv.1 = k)) = (atKey xs k).isSome := by
    rw [valV_any, (r.val k).isSome_eq, Option.isSome_map]
  unfold putK storedH
  rw [e]
  by_cases q : (atKey xs k).isSome = true
  · rw [if_pos q, if_pos q]; exact r.repl k ry
  · rw [if_neg q, if_neg q]; exact Paired.snoc r ⟨rfl, hb, ry⟩
theorem KT.keeps {H H' : Hp} {kvs : List (List Key × V)} {xs : List (List Key × Addr × Value)} (r : KT H kvs xs) (ht : ∀ b ys, H b = some (.tup ys) → H' b = some (.tup ys)) : KT H' kvs xs :=
  Paired.mapP r fun _ _ z => ⟨z.1, ht _ _ z.2.1, z.2.2⟩

section
variable {P : Program} {w : World} {H : Hp} {h : Heap} {a : Addr}
end

/-- what the dict at a holds at the key y -/
def DGet (H : Hp) (a : Addr) (y : V) (r : Option V) : Prop :=
  (∃ kvs k, Rd H a (.dK kvs) ∧ y = kV k ∧ r = valV kvs k) ∨ ∃ kvs k b, Rd H a (.dT kvs) ∧ y = .ref b ∧ H b = some (.tup (k.map kV)) ∧ r = valV kvs k
/-- the heap behind a[y] = v -/
def DPut (H : Hp) (a : Addr) (y v : V) (H' : Hp) : Prop :=
  (∃ kvs k, H a = some (.dK kvs) ∧ y = kV k ∧ kvs.length < sizeLine ∧ H' = upd H a (.dK (putK kvs k v))) ∨
  ∃ kvs k b, H a = some (.dT kvs) ∧ y = .ref b ∧ H b = some (.tup (k.map kV)) ∧ kvs.length < sizeLine ∧ H' = upd H a (.dT (putK kvs k v))
theorem DGet.k {H : Hp} {a : Addr} {kvs : List (Key × V)} {k : Key} (e : H a = some (.dK kvs)) : DGet H a (kV k) (valV kvs k) := .inl ⟨kvs, k, .inl e, rfl, rfl⟩
theorem DGet.t {H : Hp} {a b : Addr} {kvs : List (List Key × V)} {k : List Key} (e : H a = some (.dT kvs)) (eb : H b = some (.tup (k.map kV))) : DGet H a (.ref b) (valV kvs k) := .inr ⟨kvs, k, b, .inl e, rfl, eb, rfl⟩
theorem DPut.k {H : Hp} {a : Addr} {kvs : List (Key × V)} {k : Key} {v : V} (e : H a = some (.dK kvs)) (hl : kvs.length < sizeLine) : DPut H a (kV k) v (upd H a (.dK (putK kvs k v))) := .inl ⟨kvs, k, e, rfl, hl, rfl⟩
theorem DPut.t {H : Hp} {a b : Addr} {kvs : List (List Key × V)} {k : List Key} {v : V} (e : H a = some (.dT kvs)) (eb : H b = some (.tup (k.map kV))) (hl : kvs.length < sizeLine) :
    DPut H a (.ref b) v (upd H a (.dT (putK kvs k v))) := .inr ⟨kvs, k, b, e, rfl, eb, hl, rfl⟩


section
variable {X : Cx} {pins : List (Addr × Obj)} {σ : St} {H : Hp} {s : Shared} {a : Addr} {y v : V} {u r : Value} {o : Option V} {A : Around} {E : Value → Shared → Prop}

end

section
variable {X : Cx} {pins : List (Addr × Obj)} {σ : St} {H : Hp} {s : Shared} {a : Addr} {kvs : List (Key × V)} {k : Key} {u : Value} {A : Around} {E : Value → Shared → Prop}
end


/-! ### readings and rules -/
/-- the element of a subscription, not a slice -/
def NoSl (i : Expr) : Prop := ∀ ov iv, subscripted i false ov iv = operate [ov, iv] (getItem ov iv)
/-- d[y] -/
def tDGet (td ty : TE) : TE := fun σ H Q => td σ H fun x H1 => ty σ H1 fun y H2 => ∃ a v, x = .ref a ∧ DGet H2 a y (some v) ∧ Q v H2
/-- y in d, y not in d -/
def tDIn (ty td : TE) : TE := fun σ H Q => ty σ H fun y H1 => td σ H1 fun x H2 => ∃ a o, x = .ref a ∧ DGet H2 a y o ∧ Q (.bl o.isSome) H2
def tDNotIn (ty td : TE) : TE := fun σ H Q => ty σ H fun y H1 => td σ H1 fun x H2 => ∃ a o, x = .ref a ∧ DGet H2 a y o ∧ Q (.bl (!o.isSome)) H2
/-- d[y] = v -/
def sDPut (td ty tv : TE) : TS := fun D σ H => tv σ H fun v H1 => td σ H1 fun x H2 => ty σ H2 fun y H3 => ∃ a H4, x = .ref a ∧ DPut H3 a y v H4 ∧ D.nx σ H4
/-- d[y] op= v -/
def sDAug (td ty tv : TE) (rd : V → V → Hp → VK → Prop) : TS := fun D σ H => td σ H fun x H1 => ty σ H1 fun y H2 => ∃ a v, x = .ref a ∧ DGet H2 a y (some v) ∧
  tv σ H2 fun y2 H3 => rd v y2 H3 fun z H4 => ∃ H5, DPut H4 a y z H5 ∧ D.nx σ H5
/-- del d[y] -/
def sDDel (td ty : TE) : TS := fun D σ H => td σ H fun x H1 => ty σ H1 fun y H2 => ∃ a kvs k, x = .ref a ∧ H2 a = some (.dK kvs) ∧ y = kV k ∧ (valV kvs k).isSome = true ∧ D.nx σ (upd H2 a (.dK (dropK kvs k)))

section
variable {X : Cx} {o i e value : Expr} {pos pos' tpos : Pos} {td ty tv : TE}
end


/-! ### displays -/
/-- {}, to be a dict of the kind that is wanted -/
def tDNewK : TE := fun _ H Q => ∀ p, H p = none → Q (.ref p) (upd H p (.dK []))
def tDNewT : TE := fun _ H Q => ∀ p, H p = none → Q (.ref p) (upd H p (.dT []))
section
variable {X : Cx} {pos : Pos}
end

/-- the pairs of a display, from the left -/
def tPairs : List (TE × TE) → St → Hp → (List (V × V) → Hp → Prop) → Prop
  | [], _, H, Q => Q [] H
  | (tk, tv) :: r, σ, H, Q => tk σ H fun x H1 => tv σ H1 fun y H2 => tPairs r σ H2 fun ps H3 => Q ((x, y) :: ps) H3
abbrev VV : List (V × V) → List (Value × Value) → Prop := Paired fun p q => RelV p.1 q.1 ∧ RelV p.2 q.2
def PPs (X : Cx) (pos : Pos) (keys : List (Option Expr)) (values : List Expr) (trs : List (TE × TE)) : Prop :=
  ∀ (pins : List (Addr × Obj)) (s : Shared) (σ : St) (H : Hp) (Q : List (V × V) → Hp → Prop), Inv X pins σ H s → tPairs trs σ H Q →
    wpAny (model X.prog X.w) X.A (evalPairs (pairTrees keys values X.env pos)) (fun vs s' => ∃ ps H', Inv X pins σ H' s' ∧ VV ps vs ∧ Q ps H') X.xe s
def mergeK (kvs more : List (Key × V)) : List (Key × V) := more.foldl (fun acc kv => putK acc kv.1 kv.2) kvs
/-- {k: v, ..} with keys ints and texts; the new dict stands empty while the pairs are made -/
def tDisp (trs : List (TE × TE)) : TE := fun σ H Q => ∀ p, H p = none → tPairs trs σ (upd H p (.dK [])) fun ps H2 => H2 p = some (.dK []) ∧ ∃ kvs : List (Key × V), ps = kvs.map (fun kv => (kV kv.1, kv.2)) ∧ kvs.length ≤ 15 ∧ Q (.ref p) (upd H2 p (.dK (mergeK [] kvs)))
/-! ### methods -/
/-- a method call o.m(e) of a built-in, with one argument: what must be seen of the text -/
structure M1 (X : Cx) (o : Expr) (m : Str) (apos : Pos) (e : Expr) (cpos : Pos) : Prop where
  base : attributeBase o m X.env (eval o X.env) = eval o X.env
  few : ((backTo cpos (starEach [e] X.env)).all (fun x => !x.1) && (backToKw cpos (keywordEach [] X.env)).all (fun x => x.1.isSome)
    && decide (([e] : List Expr).length + ([] : List Keyword).length + (if ([] : List Keyword).isEmpty then 0 else 1) < 30)) = true
  line : (apos.endLine == cpos.line) = true
  trees : backTo cpos (starEach [e] X.env) = [(false, eval e X.env)]
structure M2 (X : Cx) (o : Expr) (m : Str) (apos : Pos) (e f : Expr) (cpos : Pos) : Prop where
  base : attributeBase o m X.env (eval o X.env) = eval o X.env
  few : ((backTo cpos (starEach [e, f] X.env)).all (fun x => !x.1) && (backToKw cpos (keywordEach [] X.env)).all (fun x => x.1.isSome)
    && decide (([e, f] : List Expr).length + ([] : List Keyword).length + (if ([] : List Keyword).isEmpty then 0 else 1) < 30)) = true
  line : (apos.endLine == cpos.line) = true
  trees : backTo cpos (starEach [e, f] X.env) = [(false, eval e X.env), (false, eval f X.env)]

/-- a is a dict, whatever its keys -/
def IsD (H : Hp) (a : Addr) : Prop := (∃ kvs, Rd H a (.dK kvs)) ∨ ∃ kvs, Rd H a (.dT kvs)
section
variable {X : Cx} {pins : List (Addr × Obj)} {σ : St} {H : Hp} {s : Shared} {a : Addr} {y d : V} {u r : Value} {o : Option V} {A : Around} {E : Value → Shared → Prop}
end

def tDGet1 (td ty : TE) : TE := fun σ H Q => td σ H fun x H1 => ∃ a, x = .ref a ∧ IsD H1 a ∧ ty σ H1 fun y H2 => ∃ o, DGet H2 a y o ∧ Q (o.getD .non) H2
def tDGet2 (td ty tx : TE) : TE := fun σ H Q => td σ H fun x H1 => ∃ a, x = .ref a ∧ IsD H1 a ∧ ty σ H1 fun y H2 => tx σ H2 fun z H3 => ∃ o, DGet H3 a y o ∧ Q (o.getD z) H3
/-- d.pop(k): there; d.pop(k, x): there or not -/
def tDPop1 (td ty : TE) : TE := fun σ H Q => td σ H fun x H1 => ∃ a, x = .ref a ∧ IsD H1 a ∧ ty σ H1 fun y H2 => ∃ kvs k v, H2 a = some (.dK kvs) ∧ y = kV k ∧ valV kvs k = some v ∧ Q v (upd H2 a (.dK (dropK kvs k)))
def tDPop2 (td ty tx : TE) : TE := fun σ H Q => td σ H fun x H1 => ∃ a, x = .ref a ∧ IsD H1 a ∧ ty σ H1 fun y H2 => tx σ H2 fun z H3 => ∃ kvs k, H3 a = some (.dK kvs) ∧ y = kV k ∧
  (∀ v, valV kvs k = some v → Q v (upd H3 a (.dK (dropK kvs k)))) ∧ (valV kvs k = none → Q z H3)
section
variable {X : Cx} {o e f : Expr} {apos cpos : Pos} {td ty tx : TE}
end

/-! ### dict(d): a copy -/
section
variable {X : Cx} {pins : List (Addr × Obj)} {σ : St} {H : Hp} {s : Shared} {a : Addr} {kvs : List (Key × V)} {A : Around} {E : Value → Shared → Prop}
end


section
variable {X : Cx} {pins : List (Addr × Obj)} {σ : St} {H : Hp} {s : Shared} {a : Addr} {y : V} {u : Value} {A : Around} {E : Value → Shared → Prop}
end
end L2

namespace L2
open PySem PySem.Spec PyProof.Rows
section
variable {X : Cx}
end
/-! ### a dict's pairs: keys that differ -/
section
variable {κ : Type} [DecidableEq κ]
end
end L2

/-! OWN: dicts of pairs, any, and what else the later laws ask of built-in functions. Behind Dp, Dct, Bs. -/
namespace L2
open PySem PySem.Spec PyProof.Rows
section
variable {X : Cx}
end
end L2

/-! OWN: rows of parts, sets of held parts, and when a learnt line is right (the mathematics). Behind Ext3. -/
namespace L2
open PySem PySem.Spec PyProof.Rows
/-! ### rows in the heap -/
def dRow (r : List Int) : Dt := .tup (r.map Dt.int)
def SqInt (K : PySem.W.Frag) (H : Hp) (q : Addr) (ps : List Int) : Prop := SqL K H q (ps.map V.int) ∨ SqT K H q (ps.map V.int)
theorem SqInt.same {K : PySem.W.Frag} {H H' : Hp} {q : Addr} {ps : List Int} (h : SqInt K H q ps) (s : Same H H') : SqInt K H' q ps := h.elim (fun z => .inl (s.seq z)) fun z => .inr (s.tup z)
theorem ints_at {ps : List Int} {i : Nat} {x : V} (h : (ps.map V.int)[i]? = some x) : ∃ k, ps[i]? = some k ∧ x = .int k := by
  rw [List.getElem?_map] at h
  cases e : ps[i]? with
  | none => rw [e] at h; cases h
  | some k =>
    rw [e] at h
    exact ⟨k, rfl, (Option.some.inj h).symm⟩
theorem inV_ints (n : Int) : ∀ ps : List Int, inV (.int n) (ps.map V.int) = decide (n ∈ ps)
  | [] => by simp [inV]
  | p :: ps => by
    have ih := inV_ints n ps
    unfold inV at ih ⊢
    rw [List.map_cons, List.any_cons, ih]
    show (p == n || decide (n ∈ ps)) = decide (n ∈ p :: ps)
    by_cases e : p = n
    · subst e
      simp
    · have e' : ¬ n = p := fun z => e z.symm
      simp [e, e']
theorem flat_ints (ps : List Int) : (ps.map V.int).all flatV = true := by
  rw [List.all_eq_true]
  intro x hx
  obtain ⟨n, _, rfl⟩ := List.mem_map.mp hx
  rfl
/-! ### each once -/
def once : List Int → List Int → List Int
  | acc, [] => acc
  | acc, p :: ps => once (if p ∈ acc then acc else acc ++ [p]) ps
theorem once_len : ∀ (ps acc : List Int), (once acc ps).length ≤ acc.length + ps.length
  | [], acc => by simp [once]
  | p :: ps, acc => by
    unfold once
    have h := once_len ps (if p ∈ acc then acc else acc ++ [p])
    split at h <;> simp only [List.length_append, List.length_cons, List.length_singleton, List.length_nil] at h ⊢ <;> split <;> simp_all <;> omega
theorem once_take {ps : List Int} {i : Nat} {k : Int} : ∀ {acc : List Int}, ps[i]? = some k → once acc (ps.take (i + 1)) = if k ∈ once acc (ps.take i) then once acc (ps.take i) else once acc (ps.take i) ++ [k] := by
  induction ps generalizing i with
  | nil => intro acc h; simp at h
  | cons p ps ih =>
    intro acc h
    cases i with
    | zero =>
      simp at h
      subst h
      simp [once]
    | succ i =>
      simp only [List.take_succ_cons, once]
      exact ih (by simpa using h)
/-! ### a dict as a set of parts -/
structure Dset (H : Hp) (d : Addr) (hs : List Int) : Prop where
  ex : ∃ kvs : List (Key × V), H d = some (.dK kvs) ∧ (∀ n : Int, (valV kvs (Sum.inl n)).isSome = decide (n ∈ hs)) ∧ kvs.length ≤ hs.length
theorem putK_len (kvs : List (Key × V)) (k : Key) (v : V) : (putK kvs k v).length ≤ kvs.length + 1 := by
  unfold putK
  split
  · rw [List.length_map]; omega
  · rw [List.length_append]; simp
theorem valV_putI (kvs : List (Key × V)) (n m : Int) (v : V) : (valV (putK kvs (Sum.inl n) v) (Sum.inl m)).isSome = (decide (m = n) || (valV kvs (Sum.inl m)).isSome) := by
  rw [valV_put]
  by_cases e : m = n
  · rw [if_pos (by rw [e]), decide_eq_true e]
    rfl
  · rw [if_neg (fun z => e (by injection z)), decide_eq_false e, Bool.false_or]
theorem Dset.put {H : Hp} {d : Addr} {hs : List Int} {kvs : List (Key × V)} {n : Int} {v : V} (h2 : ∀ n : Int, (valV kvs (Sum.inl n)).isSome = decide (n ∈ hs)) (h3 : kvs.length ≤ hs.length) : Dset (upd H d (.dK (putK kvs (Sum.inl n) v))) d (hs ++ [n]) := by
  refine ⟨_, upd_same, fun m => ?_, ?_⟩
  · rw [valV_putI, h2]
    by_cases e : m = n
    · subst e
      simp
    · simp [e]
  · have := putK_len kvs (Sum.inl n) v
    rw [List.length_append]
    simp only [List.length_singleton]
    omega
/-- the pairs (p, True) -/
def tkv (ps : List Int) : List (Key × V) := ps.map fun p => (Sum.inl p, V.bl true)
theorem tkv_ok : ∀ ps : List Int, (∀ n : Int, (valV (mergeK [] (tkv ps)) (Sum.inl n)).isSome = decide (n ∈ ps)) ∧ (mergeK [] (tkv ps)).length ≤ ps.length := by
  intro ps
  suffices h : ∀ (kvs : List (Key × V)) (hs : List Int), (∀ n : Int, (valV kvs (Sum.inl n)).isSome = decide (n ∈ hs)) → kvs.length ≤ hs.length → (∀ n : Int, (valV (mergeK kvs (tkv ps)) (Sum.inl n)).isSome = decide (n ∈ hs ++ ps)) ∧ (mergeK kvs (tkv ps)).length ≤ (hs ++ ps).length by
    have := h [] [] (fun n => by simp [valV_nil]) (Nat.le_refl _)
    simpa using this
  induction ps with
  | nil => intro kvs hs h1 h2; simpa [tkv, mergeK] using ⟨h1, h2⟩
  | cons p ps ih =>
    intro kvs hs h1 h2
    have e : mergeK kvs (tkv (p :: ps)) = mergeK (putK kvs (Sum.inl p) (.bl true)) (tkv ps) := rfl
    rw [e, show hs ++ p :: ps = (hs ++ [p]) ++ ps by simp]
    refine ih _ _ (fun n => ?_) ?_
    · rw [valV_putI, h1]
      by_cases e : n = p
      · subst e
        simp
      · simp [e]
    · have := putK_len kvs (Sum.inl p) (.bl true)
      rw [List.length_append]
      simp only [List.length_singleton]
      omega
theorem Dset.of {H : Hp} {d : Addr} {ps : List Int} : Dset (upd H d (.dK (mergeK [] (tkv ps)))) d ps := ⟨_, upd_same, (tkv_ok ps).1, (tkv_ok ps).2⟩
theorem Dset.same {H H' : Hp} {d : Addr} {hs : List Int} (h : Dset H d hs) (s : Same H H') : Dset H' d hs := by
  obtain ⟨kvs, h1, h2, h3⟩ := h.ex
  exact ⟨kvs, s _ _ h1, h2, h3⟩
/-! ### when a learnt line is right -/
def nf (row held : List Int) : List Int := once [] (row.filter fun p => decide (-p ∉ held))
def rowAt (Rs : List (List Int)) (h : Int) : List Int := Rs.getD h.toNat []
def goL (Rs : List (List Int)) : List Int → List Int → Bool
  | _, [] => false
  | held, [h] => (nf (rowAt Rs h) held).isEmpty
  | held, h :: h' :: r => match nf (rowAt Rs h) held with
    | [x] => if x ∈ held then false else goL Rs (held ++ [x]) (h' :: r)
    | _ => false
def badHints (n : Nat) (hs : List Int) : Bool := hs.isEmpty || hs.any (fun h => decide (h < 0)) || hs.any (fun h => decide ((n : Int) ≤ h))
def isLearnt (Rs : List (List Int)) (ps hs : List Int) : Bool := if badHints Rs.length hs = true then false else goL Rs (ps.map fun p => -p) hs
/-- the law's own way -/
def leftL (row held : List Int) : Option (List Int) := if row.any (fun p => decide (p ∈ held)) = true then none else some (row.filter fun p => decide (-p ∉ held))
def rightL (Rs : List (List Int)) : List Int → List Int → Bool
  | _, [] => false
  | held, [h] => match leftL (rowAt Rs h) held with
    | some l => l.isEmpty
    | none => false
  | held, h :: h' :: r => match leftL (rowAt Rs h) held with
    | some [x] => rightL Rs (held ++ [x]) (h' :: r)
    | _ => false
def Cons (held : List Int) : Prop := ∀ x ∈ held, -x ∉ held
end L2

/-! OWN: is of bools; min and max of a list or a tuple of numbers. Behind Rw. -/
namespace L2
open PySem PySem.Spec PyProof.Rows
theorem best_gt (val : Nat → Int) : ∀ k, argBest (fun i j => decide (val i > val j)) k ≤ k ∧ ∀ i, i ≤ k → val i ≤ val (argBest (fun i j => decide (val i > val j)) k)
  | 0 => ⟨Nat.le_refl _, fun i hi => by
      have e : i = 0 := by omega
      subst e
      exact Int.le_refl _⟩
  | k + 1 => by
    obtain ⟨h1, h2⟩ := best_gt val k
    unfold argBest
    by_cases e : val (k + 1) > val (argBest (fun i j => decide (val i > val j)) k)
    · rw [if_pos (decide_eq_true e)]
      refine ⟨Nat.le_refl _, fun i hi => ?_⟩
      by_cases hk : i = k + 1
      · rw [hk]
        exact Int.le_refl _
      · have := h2 i (by omega)
        omega
    · rw [if_neg (fun z => e (of_decide_eq_true z))]
      refine ⟨by omega, fun i hi => ?_⟩
      by_cases hk : i = k + 1
      · rw [hk]
        omega
      · exact h2 i (by omega)
theorem getD_mem {ns : List Int} {i : Nat} (h : i < ns.length) : ns.getD i 0 ∈ ns := by
  rw [List.getD_eq_getElem?_getD, List.getElem?_eq_getElem h]
  exact List.getElem_mem h
theorem mem_getD {ns : List Int} {n : Int} (h : n ∈ ns) : ∃ i, i < ns.length ∧ ns.getD i 0 = n := by
  obtain ⟨i, hi, e⟩ := List.mem_iff_getElem.mp h
  exact ⟨i, hi, by rw [List.getD_eq_getElem?_getD, List.getElem?_eq_getElem hi]; exact e⟩
section
variable {X : Cx}
theorem valsInt {ns : List Int} {its : List Value} (rv : Vals (ns.map V.int) its) : ∀ (i : Nat) (v : Value), its.toArray[i]? = some v → ∃ t, v = .int (ns.getD i 0) t := fun i v hv => by
  have hv' : its[i]? = some v := by simpa using hv
  have hi : i < its.length := (List.getElem?_eq_some_iff.mp hv').1
  have hl := rv.length
  rw [List.length_map] at hl
  have hb : ns[i]? = some (ns.getD i 0) := by
    rw [List.getD_eq_getElem?_getD, List.getElem?_eq_getElem (by omega)]
    rfl
  obtain ⟨w', e1, e2⟩ := rv.get (i := i) (x := .int (ns.getD i 0)) (by rw [List.getElem?_map, hb]; rfl)
  rw [hv'] at e1
  cases e1
  exact e2
/-- max of numbers -/
theorem call_maxL (hc : X.calm = true) : CallR X (.builtin "max") (fun xs H Q => ∃ (p : Addr) (ns : List Int), xs = [.ref p] ∧ SqInt X.K H p ns ∧ ns ≠ [] ∧ ∀ m, m ∈ ns → (∀ n ∈ ns, n ≤ m) → Q (.int m) H) := by
  intro pins s σ H xs us Q I r h
  obtain ⟨p, ns, rfl, hq, hne, q⟩ := h
  obtain ⟨u, rfl, ru⟩ := vals1 r
  cases (show u = Value.ref p from ru)
  have fin : ∀ {its : List Value} {v : Value} {h' : Heap} {tk : Nat}, Vals (ns.map V.int) its → its.toArray[argBest (fun i j => decide (ns.getD i 0 > ns.getD j 0)) (its.toArray.size - 1)]? = some v → (∀ b o, s.heap.get? b = some o → h'.get? b = some o) → EP X pins σ Q v { s with heap := h', toks := tk } := fun {its v h' tk} rv hP hk => by
    obtain ⟨t, rfl⟩ := valsInt rv _ _ hP
    have hl := rv.length
    rw [List.length_map] at hl
    have n0 : 0 < ns.length := List.length_pos_iff.mpr hne
    have es : its.toArray.size - 1 = ns.length - 1 := by simp only [List.size_toArray]; omega
    rw [es]
    obtain ⟨b1, b2⟩ := best_gt (fun i => ns.getD i 0) (ns.length - 1)
    exact ⟨.int _, H, I.kept (t' := tk) hk, ⟨t, rfl⟩, q _ (getD_mem (by omega)) fun n hn => by
      obtain ⟨i, hi, e⟩ := mem_getD hn
      rw [← e]
      exact b2 i (by omega)⟩
  have n0 : 0 < ns.length := List.length_pos_iff.mpr hne
  rcases hq with hq | hq
  · obtain ⟨its, rv, pl, hz⟩ := I.list hq
    have hl := rv.length
    rw [List.length_map] at hl
    have hp : p < s.heap.objs.size := by
      obtain ⟨o, ho, _⟩ := pl.isList
      exact Heap.lt_size ho
    refine call_max_walk (wpAny_pyIter_list pl.isList ?_)
    refine ⟨s.heap.objs.size, [s.heap.objs.size, p], [s.heap.objs.size], its.toArray.size, _, _, fun i j => decide (ns.getD i 0 > ns.getD j 0), rfl, Walks.list (show X.A.in1.handled = none from I.ok.hd hc) _ p (Nat.ne_of_lt hp) its.toArray, ⟨⟨_, Heap.get?_push_size _ rfl, rfl, rfl⟩, pl.isList.push _⟩, fun b hb => ?_, by simp only [List.size_toArray]; omega, CmpOf.ints_gt (fun i => ns.getD i 0) (valsInt rv), fun v h' tk hP hk => fin rv hP fun b o e => hk b o (fun hm => ?_) (Heap.get?_push_of_some _ e)⟩
    · show b < (s.heap.push _).objs.size
      rw [Heap.size_push]
      simp only [List.mem_cons, List.not_mem_nil, or_false] at hb
      rcases hb with rfl | rfl
      · exact Nat.lt_succ_self _
      · exact Nat.lt_succ_of_lt hp
    · have : b = s.heap.objs.size := by simpa using hm
      exact absurd (Heap.lt_size e) (by rw [this]; exact Nat.lt_irrefl _)
  · obtain ⟨its, rv, pl, hz⟩ := I.tuple hq
    have hl := rv.length
    rw [List.length_map] at hl
    have pt : s.heap.IsTuple p its.toArray := pl
    have hp : p < s.heap.objs.size := by
      obtain ⟨o, ho, _⟩ := id pt
      exact Heap.lt_size ho
    refine call_max_walk (wpAny_pyIter_tuple pt ?_)
    refine ⟨s.heap.objs.size, [s.heap.objs.size, p], [s.heap.objs.size], its.toArray.size, _, _, fun i j => decide (ns.getD i 0 > ns.getD j 0), rfl, Walks.tuple (show X.A.in1.handled = none from I.ok.hd hc) _ p (Nat.ne_of_lt hp) its.toArray, ⟨⟨_, Heap.get?_push_size _ rfl, rfl, rfl⟩, pt.push _⟩, fun b hb => ?_, by simp only [List.size_toArray]; omega, CmpOf.ints_gt (fun i => ns.getD i 0) (valsInt rv), fun v h' tk hP hk => fin rv hP fun b o e => hk b o (fun hm => ?_) (Heap.get?_push_of_some _ e)⟩
    · show b < (s.heap.push _).objs.size
      rw [Heap.size_push]
      simp only [List.mem_cons, List.not_mem_nil, or_false] at hb
      rcases hb with rfl | rfl
      · exact Nat.lt_succ_self _
      · exact Nat.lt_succ_of_lt hp
    · have : b = s.heap.objs.size := by simpa using hm
      exact absurd (Heap.lt_size e) (by rw [this]; exact Nat.lt_irrefl _)
end
end L2

/-! OWN: comprehensions whose target is any (pairs, triples); list ways that the layer lacks. Behind Ext5. -/
namespace L2
open PySem PySem.Spec PyProof.Rows
def tLCG (wi : TI) (L : Nat) (ix : List Nat) (g : TG) (te : TE) : TE := fun σ H Q => wi σ H fun J H1 => ∀ D, H1 D = none →
  ∃ W : Nat → Nat → List V → Hp → Prop, (∃ m, W 0 m [] (upd H1 D (.lst []))) ∧
    ∀ i m ys H', W i m ys H' → H' D = some (.lst ys) ∧
      ((J.stop i H' ∧ Q (.ref D) H') ∨ (J.go i H' ∧ ∀ x H'', J.yld i H' x H'' → ∀ σ0 : St, σ0.length = L → g x (σ0 ++ fvs σ ix) H'' fun σ' H2 => ∃ σ1 : St, σ1.length = L ∧ σ' = σ1 ++ fvs σ ix ∧ te σ' H2 fun y H3 =>
        H3 D = some (.lst ys) ∧ ys.length < sizeLine ∧ ∃ m', m' < m ∧ W (i + 1) m' (ys ++ [y]) (upd H3 D (.lst (ys ++ [y])))))
def tLCIG (wi : TI) (L : Nat) (ix : List Nat) (g : TG) (tc : TT) (te : TE) : TE := fun σ H Q => wi σ H fun J H1 => ∀ D, H1 D = none →
  ∃ W : Nat → Nat → List V → Hp → Prop, (∃ m, W 0 m [] (upd H1 D (.lst []))) ∧
    ∀ i m ys H', W i m ys H' → H' D = some (.lst ys) ∧
      ((J.stop i H' ∧ Q (.ref D) H') ∨ (J.go i H' ∧ ∀ x H'', J.yld i H' x H'' → ∀ σ0 : St, σ0.length = L → g x (σ0 ++ fvs σ ix) H'' fun σ' H2 => ∃ σ1 : St, σ1.length = L ∧ σ' = σ1 ++ fvs σ ix ∧ tc σ' H2 fun b H3 =>
        if b = true then te σ' H3 fun y H4 => H4 D = some (.lst ys) ∧ ys.length < sizeLine ∧ ∃ m', m' < m ∧ W (i + 1) m' (ys ++ [y]) (upd H4 D (.lst (ys ++ [y])))
        else ∃ m', m' < m ∧ W (i + 1) m' ys H3))
section
variable {X : Cx} {N' : List Str} {scope : Scope} {cl : List (Str × Addr)} {fp : List Addr} {pins : List (Addr × Obj)} {σ : St} {H : Hp} {s : Shared}
end
section
variable {X : Cx} {N' : List Str} {scope : Scope} {elt iter tg : Expr} {L : Nat} {pos : Pos} {wi : TI} {g : TG} {te : TE} {ix : List Nat}
end
section
variable {X : Cx} {N' : List Str} {scope : Scope} {elt iter c tg : Expr} {L : Nat} {pos : Pos} {wi : TI} {g : TG} {tc : TT} {te : TE} {ix : List Nat}
end
end L2

/-! OWN: enumerate of a list in a for with a pair ahead; list.insert. Behind Ext6. -/
namespace L2
open PySem PySem.Spec PyProof.Rows
def Ite (K : PySem.W.Frag) (a : Addr) : It :=
  ⟨fun i H => ∃ xs x, SqL K H a xs ∧ xs[i]? = some x, fun i H x H' => ∃ p y, x = .ref p ∧ H p = none ∧ H' = upd H p (.tup [.int i, y]) ∧ ∀ xs, SqL K H a xs → xs[i]? = some y, fun i H => ∃ xs, SqL K H a xs ∧ xs.length ≤ i⟩
section
variable {X : Cx}
def iEnum (K : PySem.W.Frag) (ta : TA) : TI := fun σ H R => ta σ H fun vs H1 => ∃ a, vs = [.ref a] ∧ (∃ xs, SqL K H1 a xs) ∧ R (Ite K a) H1
def rInsert : V → List V → Hp → VK → Prop := fun x vs H Q => ∃ l xs i y, x = .ref l ∧ vs = [.int (i : Nat), y] ∧ H l = some (.lst xs) ∧ i ≤ xs.length ∧ xs.length < sizeLine ∧ Q .non (upd H l (.lst (xs.take i ++ y :: xs.drop i)))
end
end L2

/-! OWN: sep.join(list of texts); texts of numbers; reversed(list) in a for. Behind Ext7. -/
namespace L2
open PySem PySem.Spec PyProof.Rows
theorem glued_one (sep x : Str) : Builtin.Str.glued sep [x] = x := rfl
theorem glued_snoc (sep y : Str) {xs : List Str} (h : xs ≠ []) : Builtin.Str.glued sep (xs ++ [y]) = Builtin.Str.glued sep xs ++ sep ++ y := by
  cases xs with
  | nil => exact absurd rfl h
  | cons x xs =>
    show (⟨(xs ++ [y]).foldl (fun acc p => acc ++ sep.cps ++ p.cps) x.cps⟩ : Str) = ⟨(xs.foldl (fun acc p => acc ++ sep.cps ++ p.cps) x.cps ++ sep.cps) ++ y.cps⟩
    rw [List.foldl_append]
    rfl
theorem glued_empty_snoc (y : Str) (xs : List Str) : Builtin.Str.glued Str.empty (xs ++ [y]) = Builtin.Str.glued Str.empty xs ++ y := by
  cases xs with
  | nil =>
    show y = Str.empty ++ y
    cases y
    show (_ : Str) = ⟨#[] ++ _⟩
    rw [Array.empty_append]
  | cons x xs =>
    rw [glued_snoc _ _ (by simp)]
    show (⟨(_ ++ #[]) ++ y.cps⟩ : Str) = ⟨_ ++ y.cps⟩
    rw [Array.append_empty]
def lenS (xs : List Str) : Nat := (xs.map Str.length).sum
theorem fold_len (sep : Str) : ∀ (xs : List Str) (a : Array Nat), (xs.foldl (fun acc p => acc ++ sep.cps ++ p.cps) a).size ≤ a.size + lenS xs + xs.length * sep.length
  | [], a => by simp [lenS]
  | x :: xs, a => by
    rw [List.foldl_cons]
    refine Nat.le_trans (fold_len sep xs _) ?_
    rw [Array.size_append, Array.size_append]
    simp only [lenS, List.map_cons, List.sum_cons, List.length_cons, Nat.add_mul, Nat.one_mul]
    show a.size + sep.length + x.length + _ + _ ≤ _
    omega
theorem glued_len (sep : Str) : ∀ xs : List Str, (Builtin.Str.glued sep xs).length ≤ lenS xs + xs.length * sep.length
  | [] => Nat.zero_le _
  | x :: xs => by
    refine Nat.le_trans (fold_len sep xs x.cps) ?_
    simp only [lenS, List.map_cons, List.sum_cons, List.length_cons, Nat.add_mul, Nat.one_mul]
    show x.length + _ + _ ≤ _
    omega
section
variable {X : Cx}
theorem strs_of : ∀ {xs : List Str} {us : List Value}, Vals (xs.map V.str) us → ∃ l : List (Str × Tok), us = strValues l ∧ l.map (·.1) = xs
  | [], us, r => by
    have e : us = [] := Vals.zero r
    exact ⟨[], by rw [e]; rfl, rfl⟩
  | x :: xs, us, r => by
    cases r with
    | cons r1 rr =>
      obtain ⟨l, e1, e2⟩ := strs_of rr
      obtain ⟨t, e3⟩ := r1
      refine ⟨(x, t) :: l, ?_, by rw [List.map_cons, e2]⟩
      rw [e3, e1]
      rfl
theorem foldl_len (k : Nat) : ∀ (xs : List Str) (a : Nat), xs.foldl (fun n x => n + x.length + k) a = a + lenS xs + xs.length * k
  | [], a => by simp [lenS]
  | x :: xs, a => by
    rw [List.foldl_cons, foldl_len k xs]
    simp only [lenS, List.map_cons, List.sum_cons, List.length_cons, Nat.add_mul, Nat.one_mul]
    omega
def rJoin (K : PySem.W.Frag) : V → List V → Hp → VK → Prop := fun x vs H Q => ∃ sep p xs, x = .str sep ∧ vs = [.ref p] ∧ SqL K H p (xs.map V.str) ∧ lenS xs + xs.length * sep.length ≤ sizeLine ∧ Q (.str (Builtin.Str.glued sep xs)) H
theorem mt_join : MtR X "str.join" (rJoin X.K) := by
  intro pins s σ H x vs v us Q I rx rv h
  obtain ⟨sep, p, xs, rfl, rfl, hq, hz, q⟩ := h
  obtain ⟨t, rfl⟩ := rx
  obtain ⟨u, rfl, ru⟩ := rv.one
  cases ru
  obtain ⟨its, r, pl, hz2⟩ := I.list hq
  obtain ⟨l, rfl, e2⟩ := strs_of r
  have hl : Builtin.Str.tooLong ((l.map (·.1)).toArray.foldl (· + ·.length + sep.length) 0) = false := by
    rw [e2]
    unfold Builtin.Str.tooLong
    rw [List.foldl_toArray, foldl_len]
    exact decide_eq_false (by omega)
  refine call_meets F.slot_str_join (typeIs_str s sep t) F.entry_str_join (F.args_str_join_2 _ _) (meets_str_join_list sep t p l hl) ⟨pl.isList, ?_⟩
  match l, e2 with
  | [], e2 =>
    subst e2
    exact ⟨Nat.le_trans (glued_len _ _) hz, .str (Builtin.Str.glued sep []), H, I.tok _, ⟨_, rfl⟩, q⟩
  | [a], e2 =>
    subst e2
    exact ⟨.str a.1, H, I, ⟨_, rfl⟩, q⟩
  | a :: b :: c, e2 =>
    subst e2
    exact ⟨Nat.le_trans (glued_len _ _) hz, .str _, H, I.tok _, ⟨_, rfl⟩, q⟩
end
end L2

/-! OWN: reversed(list) and zip(list, list) in a for; a walk of a dict's keys (the dict is frozen while it is walked); dict.update(dict). Behind Ext8. -/
namespace L2
open PySem PySem.Spec PyProof.Rows
/-! ### reversed(list) -/
def Itv (K : PySem.W.Frag) (a : Addr) (n : Nat) : It :=
  ⟨fun i H => i < n ∧ ∃ xs, SqL K H a xs ∧ xs.length = n, fun i H x H' => H' = H ∧ ∀ xs, SqL K H a xs → xs[n - 1 - i]? = some x, fun i H => n ≤ i⟩
/-! ### zip(list, list) -/
def Itz (K : PySem.W.Frag) (a b : Addr) : It :=
  ⟨fun i H => ∃ xs ys x y, SqL K H a xs ∧ SqL K H b ys ∧ xs[i]? = some x ∧ ys[i]? = some y, fun i H x H' => ∃ p y z, x = .ref p ∧ H p = none ∧ H' = upd H p (.tup [y, z]) ∧ (∀ xs, SqL K H a xs → xs[i]? = some y) ∧ ∀ ys, SqL K H b ys → ys[i]? = some z,
    fun i H => ∃ xs ys, SqL K H a xs ∧ SqL K H b ys ∧ (xs.length ≤ i ∨ ys.length ≤ i)⟩
/-! ### a dict, frozen while it is walked -/
def Itd (d : Addr) (o : Obj) (kvs : List (Key × V)) : It :=
  ⟨fun i H => i < kvs.length ∧ H d = some (.frz o (.dK kvs)), fun i H x H' => H' = H ∧ ∃ k v, kvs[i]? = some (k, v) ∧ x = kV k, fun i H => kvs.length ≤ i ∧ H d = some (.frz o (.dK kvs))⟩
section
variable {X : Cx} {tg : Expr}
def iRev (K : PySem.W.Frag) (ta : TA) : TI := fun σ H R => ta σ H fun vs H1 => ∃ a xs, vs = [.ref a] ∧ SqL K H1 a xs ∧ R (Itv K a xs.length) H1
def iZip (K : PySem.W.Frag) (ta : TA) : TI := fun σ H R => ta σ H fun vs H1 => ∃ a b, vs = [.ref a, .ref b] ∧ (∃ xs, SqL K H1 a xs) ∧ (∃ ys, SqL K H1 b ys) ∧ R (Itz K a b) H1
def iDict (tl : TE) : TI := fun σ H R => tl σ H fun x H1 => ∃ d kvs, x = .ref d ∧ H1 d = some (.dK kvs) ∧ ∀ o, R (Itd d o kvs) (upd H1 d (.frz o (.dK kvs)))
def rUpdate : V → List V → Hp → VK → Prop := fun x vs H Q => ∃ d b kvs more, x = .ref d ∧ vs = [.ref b] ∧ d ≠ b ∧ H d = some (.dK kvs) ∧ H b = some (.dK more) ∧ kvs.length + more.length ≤ sizeLine ∧ Q .non (upd H d (.dK (mergeK kvs more)))
end
end L2

/-! OWN: tuple(reversed(list)); max of a list with default. Behind Ext9. -/
namespace L2
open PySem PySem.Spec PyProof.Rows
set_option maxRecDepth 100000
section
variable {prog : Program} {w : World} {A : Around} {E : Value → Shared → Prop} {s : Shared} {J : Addr} {fp wr : List Addr} {G : Array GenState → Array GenState → Prop} {n : Nat} {P : Nat → Value → Prop} {St : Nat → Shared → Prop}
end
end L2

/-! OWN: tuple(reversed(list)) as an expression; max(list, default=d). Behind Ext10. -/
namespace L2
open PySem PySem.Spec PyProof.Rows
set_option maxRecDepth 100000
section
variable {prog : Program} {w : World} {A : Around} {R : Result → Shared → Prop} {J : Addr} {fp wr : List Addr} {n : Nat} {P : Nat → Value → Prop} {St : Nat → Heap → Prop} {kw : List (Str × Value)}
end
section
variable {prog : Program} {w : World} {A : Around} {E : Value → Shared → Prop} {s : Shared}
end
section
variable {X : Cx}
def tMaxd (K : PySem.W.Frag) (ta tk : TA) : TE := fun σ H Q => ta σ H fun vs H1 => tk σ H1 fun zs H2 => ∃ (p : Addr) (ns : List Int) (dv : Int), vs = [.ref p] ∧ zs = [.int dv] ∧ SqInt K H2 p ns ∧ (ns = [] → Q (.int dv) H2) ∧ ∀ m ∈ ns, (∀ n ∈ ns, n ≤ m) → Q (.int m) H2
/-- tuple(reversed(xs)) -/
def tTupRev (K : PySem.W.Frag) (ta : TA) : TE := fun σ H Q => ta σ H fun vs H1 => ∃ (a : Addr) (xs : List V), vs = [.ref a] ∧ SqL K H1 a xs ∧ ∀ l, H1 l = none → Q (.ref l) (upd H1 l (.tup xs.reverse))
end
end L2

/-! OWN: t[lo:hi] where it is the whole of t. Behind Ext11. -/
namespace HT
open PySem PyProof.Rows
section
variable {prog : Program} {w : World} {A : Around} {E : Value → Shared → Prop} {s : Shared}
end
end HT
namespace L2
open PySem PySem.Spec PyProof.Rows
section
variable {X : Cx}
def rSlTW (K : PySem.W.Frag) : V → Option Int → Option Int → Hp → VK → Prop := fun x lo hi H Q => ∃ a xs, x = .ref a ∧ SqT K H a xs ∧ (HT.sIx xs.length 0 lo = 0 ∧ HT.sIx xs.length xs.length hi = xs.length) ∧ Q (.ref a) H
/-- either way: a tuple of the items that were cut -/
def rSlTA (K : PySem.W.Frag) : V → Option Int → Option Int → Hp → VK → Prop := fun x lo hi H Q => rSlT K x lo hi H Q ∨ rSlTW K x lo hi H Q
end
end L2

/-! OWN: range with the step -1. Behind Ext12. -/
namespace L2
open PySem PySem.Spec PyProof.Rows
/-- hi, hi - 1, ..: n numbers -/
def Itdn (hi : Int) (n : Nat) : It := ⟨fun i _ => i < n, fun i H x H' => H' = H ∧ x = .int (hi - i), fun i _ => n ≤ i⟩
section
variable {X : Cx} {tg : Expr}
def iDown (ta : TA) : TI := fun σ H R => ta σ H fun vs H1 => ∃ i j : Int, vs = [.int i, .int j, .int (-1)] ∧ (-(2 ^ 62) ≤ i ∧ i < 2 ^ 62 ∧ -(2 ^ 62) ≤ j ∧ j < 2 ^ 62) ∧ R (Itdn i (i - j).toNat) H1
end
end L2

/-! OWN: d.values(), list(d.values()), list(d). Behind Ext13. -/
namespace L2
open PySem PySem.Spec PyProof.Rows
set_option maxRecDepth 100000
/-- the view of a dict's values -/
def VView (d v : Addr) : HO := .ext fun h => h.IsValuesView v d
section
variable {X : Cx}
def rValues : V → List V → Hp → VK → Prop := fun x vs H Q => ∃ d kvs, x = .ref d ∧ vs = [] ∧ H d = some (.dK kvs) ∧ ∀ v, H v = none → Q (.ref v) (upd H v (VView d v))
end
end L2

/-! OWN: range(n) as a value, list(range(n)). Behind Ext14. -/
namespace L2
open PySem PySem.Spec PyProof.Rows
set_option maxRecDepth 100000
section
variable {X : Cx}
def tRange1 (ta : TA) : TE := fun σ H Q => ta σ H fun vs H1 => ∃ j : Int, vs = [.int j] ∧ ∀ r, H1 r = none → Q (.ref r) (upd H1 r (.rng 0 j))
end
end L2

/-! a dict whose keys are a text and a tuple of ints and texts, by setdefault. Behind Ext15. -/
namespace L2
open PySem PySem.Spec PyProof.Rows
section
variable {P : Program} {w : World}
abbrev Sgn := Str × List Key
def IsSign (P : Program) (w : World) (h : Heap) (k : Sgn) (a : Addr) : Prop :=
  ∃ (o : Obj) (t : Tok) (q : Addr) (n : Nat), h.get? a = some o ∧ o.cls = .type "tuple" ∧ o.data = .seq #[.str k.1 t, .ref q] n ∧ IsTupleKey (mixKind P w) h k.2 q
theorem IsSign.typeIs {s : Shared} {k : Sgn} {a : Addr} (x : IsSign P w s.heap k a) : s.TypeIs (.ref a) "tuple" := let ⟨o, _, _, _, ho, hc, _⟩ := x; ⟨o, ho, hc⟩
theorem IsSign.inj {h : Heap} {a : Addr} {x y : Sgn} (hx : IsSign P w h x a) (hy : IsSign P w h y a) : x = y := by
  obtain ⟨o, t, q, n, ho, _, hd, hi⟩ := hx
  obtain ⟨o', t', q', n', ho', _, hd', hi'⟩ := hy
  cases ho.symm.trans ho'
  have e := hd.symm.trans hd'
  injection e with e _
  have e2 : [Value.str x.1 t, .ref q] = [Value.str y.1 t', .ref q'] := congrArg Array.toList e
  injection e2 with e3 e4
  injection e3 with e5 _
  injection e4 with e6 _
  injection e6 with e7
  subst e7
  exact Prod.ext e5 (hi.inj hi')
theorem IsSign.keeps {h h' : Heap} {k : Sgn} {a d : Addr} {o : Obj} {es ep} (x : IsSign P w h k a) (ho : h.get? d = some o) (hd : o.data = .dict es ep) (hs : Heap.SameBut d h h') : IsSign P w h' k a := by
  obtain ⟨o', t, q, n, ho', hc, hd', hi⟩ := x
  have hne : a ≠ d := by
    rintro rfl
    cases ho'.symm.trans ho
    rw [hd] at hd'
    exact nomatch hd'
  exact ⟨o', t, q, n, (hs.2 a hne).trans ho', hc, hd', hi.keeps ho hd hs⟩
def signHash (P : Program) (w : World) (k : Sgn) : Int := reduceHash (Builtin.Tuple.tupleHashOf [(mixKind P w).hash (.inr k.1), tupleKeyHash (mixKind P w) k.2])
variable {A : Around} {E : Value → Shared → Prop} {s : Shared}
theorem sign_hash {k : Sgn} {a : Addr} {Q : Int → Shared → Prop} (hu : A.units + 10 < cLine) (hk : IsSign P w s.heap k a) (h : Q (signHash P w k) { s with toks := s.toks + (k.2.length + 3) }) :
    wpAny (model P w) A (pyHash (.ref a)) Q E s := by
  have hT := hk.typeIs
  obtain ⟨o, t, q, n, ho, _, hd, hi⟩ := hk
  unfold pyHash
  first | unfold pyHashByItsType | skip
  first | refine wpAny_bind (wpAny_cRoomFor_or (.inr (by omega)) ?_) | skip
  refine wpAny_bind (wpAny_specialOf hT F.slot_tuple_hash.lookup ?_)
  show wpAny _ _ (if (some (Value.builtin "tuple.__hash__") == some Value.none) = true then _ else _) Q E s
  rw [if_neg (by rw [beq_builtin_none]; exact Bool.false_ne_true)]
  refine wpAny_bind (wpAny_specialOf hT F.slot_tuple_hash.lookup ?_)
  show wpAny _ _ (callSpecialIfBoundUnlessNone? (.ref a) "__hash__" _ >>= _) Q E s
  refine wpAny_bind (wpAny_callSpecialIfBoundUnlessNone?_slot hT F.slot_tuple_hash (wpAny_call_entry F.slot_tuple_hash hT F.entry_tuple_hash ?_ (F.args_tuple_hash_1 _)))
  show wpAny _ _ (Builtin.Tuple.tupleItemsOf (.ref a) >>= _) _ _ s
  refine wpAny_bind (wpAny_tupleItemsOf ho hd ?_)
  refine wpAny_bind ?_
  rw [← Array.forIn_toList]
  refine wpAny_forIn_list _
    (fun rest (b : Array Int) s' => (rest = [.str k.1 t, .ref q] ∧ b = #[] ∧ s' = s) ∨ (rest = [.ref q] ∧ b = #[(mixKind P w).hash (.inr k.1)] ∧ s' = { s with toks := s.toks + 1 }) ∨
      (rest = [] ∧ b = #[(mixKind P w).hash (.inr k.1), tupleKeyHash (mixKind P w) k.2] ∧ s' = { s with toks := s.toks + 1 + (k.2.length + 1) }))
    _ ?_ ?_ _ _ (.inl ⟨rfl, rfl, rfl⟩)
  · rintro x rest b s' (⟨e, rfl, rfl⟩ | ⟨e, rfl, rfl⟩ | ⟨e, rfl, rfl⟩)
    · injection e with e1 e2
      subst e1 e2
      refine wpAny_bind ((mixKind P w).pyHash (k := .inr k.1) (mixKind_str P w k.1 t) ?_)
      first
        | exact wpAny_pure (.inr (.inl ⟨rfl, rfl, rfl⟩))
        | exact wpAny_bind (wpAny_pure (wpAny_pure (.inr (.inl ⟨rfl, rfl, rfl⟩))))
    · injection e with e1 e2
      subst e1 e2
      refine wpAny_bind (wpAny_pyHash_tuple (knd := mixKind P w) (ks := k.2) (by show A.units + 1 < cLine; omega) hi ?_)
      first
        | exact wpAny_pure (.inr (.inr ⟨rfl, rfl, rfl⟩))
        | exact wpAny_bind (wpAny_pure (wpAny_pure (.inr (.inr ⟨rfl, rfl, rfl⟩))))
    · exact nomatch e
  · rintro b s' (⟨e, rfl, rfl⟩ | ⟨e, rfl, rfl⟩ | ⟨e, rfl, rfl⟩)
    · exact nomatch e
    · exact nomatch e
    show wpAny _ _ (retInt (Builtin.Tuple.tupleHashOf [(mixKind P w).hash (.inr k.1), tupleKeyHash (mixKind P w) k.2])) _ _ _
    refine wpAny_ret_mkInt ?_
    have ht : s.toks + (k.2.length + 3) = s.toks + 1 + (k.2.length + 1) + 1 := by omega
    rw [ht] at h
    unfold signHash reduceHash at h
    generalize Builtin.Tuple.tupleHashOf [(mixKind P w).hash (.inr k.1), tupleKeyHash (mixKind P w) k.2] = z at h ⊢
    show wpAny _ _ (if (decide (-(2 : Int) ^ 63 ≤ z) && decide (z < 2 ^ 63)) = true then _ else _) Q E _
    by_cases hr : (decide (-(2 : Int) ^ 63 ≤ z) && decide (z < 2 ^ 63)) = true
    · rw [if_pos hr]
      rw [if_pos hr] at h
      exact wpAny_pure h
    · rw [if_neg hr]
      rw [if_neg hr] at h
      exact wpAny_bind (wpAny_rule (wpAny_pure h))
theorem sign_eq_tree {x y : Sgn} {a b : Addr} {R : Fin → Shared → Prop} (hu : A.units + 5 < cLine) (hx : IsSign P w s.heap x a) (hy : IsSign P w s.heap y b) (h : R (.done (.ret (.bool (decide (x = y))))) s) :
    wpAny (model P w) A (Builtin.«tuple.__eq__» ⟨[.ref a, .ref b], []⟩) R E s := by
  have hTb := hy.typeIs
  obtain ⟨oa, ta, qa, na, hoa, _, hda, hia⟩ := hx
  obtain ⟨ob, tb, qb, nb, hob, _, hdb, hib⟩ := hy
  show wpAny _ _ (isInstance (.ref b) (.type "tuple") >>= _) _ _ s
  refine wpAny_bind (wpAny_isInstance hTb isSubtype_tuple_tuple ?_)
  simp only [Bool.not_true, Bool.false_eq_true, if_false]
  refine wpAny_bind (wpAny_tupleItemsOf hoa hda ?_)
  refine wpAny_bind (wpAny_tupleItemsOf hob hdb ?_)
  refine wpAny_bind ?_
  refine wpAny_forIn_list _
    (fun rest r s' => r.1 = none ∧ s' = s ∧ ((rest = [(.str x.1 ta, .str y.1 tb), (.ref qa, .ref qb)]) ∨ (rest = [(.ref qa, .ref qb)] ∧ x.1 = y.1) ∨ (rest = [] ∧ x = y)))
    _ ?_ ?_ _ _ ⟨rfl, rfl, .inl rfl⟩
  · rintro ⟨u, v⟩ rest r s' ⟨hr, rfl, e | ⟨e, e1⟩ | ⟨e, e1⟩⟩
    · injection e with e2 e3
      injection e2 with e4 e5
      subst e3 e4 e5
      refine wpAny_bind ((mixKind P w).eqBool (a := .inr x.1) (b := .inr y.1) (mixKind_str P w x.1 ta) (mixKind_str P w y.1 tb) ?_)
      by_cases hk : x.1 = y.1
      · rw [decide_eq_true (show (Sum.inr x.1 : Key) = .inr y.1 by rw [hk])]
        simp only [Bool.not_true, Bool.false_eq_true, if_false]
        exact wpAny_pure ⟨by trivial, by trivial, .inr (.inl ⟨by trivial, hk⟩)⟩
      · rw [decide_eq_false (show ¬ (Sum.inr x.1 : Key) = .inr y.1 from fun z => hk (Sum.inr.inj z))]
        simp only [Bool.not_false, if_true]
        rw [decide_eq_false (show ¬ x = y from fun z => hk (by rw [z]))] at h
        exact wpAny_bind (wpAny_pure (wpAny_pure (wpAny_pure h)))
    · injection e with e2 e3
      injection e2 with e4 e5
      subst e3 e4 e5
      refine wpAny_bind (wpAny_eqBool_tuple (knd := mixKind P w) (x := x.2) (y := y.2) (by omega) hia hib ?_)
      by_cases hk : x.2 = y.2
      · rw [decide_eq_true hk]
        simp only [Bool.not_true, Bool.false_eq_true, if_false]
        exact wpAny_pure ⟨by trivial, by trivial, .inr (.inr ⟨by trivial, Prod.ext e1 hk⟩)⟩
      · rw [decide_eq_false hk]
        simp only [Bool.not_false, if_true]
        rw [decide_eq_false (show ¬ x = y from fun z => hk (by rw [z]))] at h
        exact wpAny_bind (wpAny_pure (wpAny_pure (wpAny_pure h)))
    · exact nomatch e
  · rintro ⟨r1, r2⟩ s' ⟨hr, rfl, e | ⟨e, e1⟩ | ⟨e, e1⟩⟩
    · exact nomatch e
    · exact nomatch e
    simp only at hr
    subst hr
    refine wpAny_pure ?_
    rw [decide_eq_true e1] at h
    exact h
theorem sign_eq {x y : Sgn} {a b : Addr} {Q : Bool → Shared → Prop} (hu : A.units + 10 < cLine) (hx : IsSign P w s.heap x a) (hy : IsSign P w s.heap y b) (h : Q (decide (x = y)) s) :
    wpAny (model P w) A (eqBool (.ref a) (.ref b)) Q E s := by
  unfold eqBool
  try with_reducible refine wpAny_holding ?_
  show wpAny _ _ (if (Value.ref a == Value.ref b) = true then _ else _) Q E s
  by_cases hab : (Value.ref a == Value.ref b) = true
  · rw [if_pos hab]
    have e : a = b := by have := eq_of_beq hab; injection this
    subst e
    cases hx.inj hy
    exact wpAny_bind (wpAny_rule (wpAny_pure (by simpa using h)))
  · rw [if_neg hab]
    exact wpAny_bind (wpAny_richCompare_same_room (op := .Eq) hx.typeIs hy.typeIs F.slot_tuple_eq
      (wpAny_call_entry F.slot_tuple_eq hx.typeIs F.entry_tuple_eq (sign_eq_tree (by show A.units + 1 + 5 < cLine; omega) hx hy ⟨_, rfl, (fun e => nomatch e), wpAny_truthy_bool h⟩) (F.args_tuple_eq_2 _ _)) (by omega))
theorem quiet7 {ks : List Key} {a : Addr} {Q : Bool → Shared → Prop} (hk : IsTupleKey (mixKind P w) s.heap ks a) (h : Q true s) : wpAny (model P w) A (eqIsQuiet 7 (.ref a)) Q E s := by
  have hT := hk.typeIs
  obtain ⟨o, items, n, ho, _, hd, hi⟩ := hk
  unfold eqIsQuiet
  refine wpAny_bind (wpAny_specialOf hT F.slot_tuple_eq.lookup ?_)
  show wpAny _ _ (isInstance (.ref a) (.type "tuple") >>= _) _ _ s
  refine wpAny_bind (wpAny_isInstance hT isSubtype_tuple_tuple ?_)
  simp only [Bool.not_true, Bool.false_eq_true, if_false]
  refine wpAny_bind (wpAny_seqItems ho hd ?_)
  refine wpAny_bind ?_
  show wpAny _ _ (forIn items _ _) _ _ s
  rw [← Array.forIn_toList]
  refine wpAny_forIn_list _ (fun rest r s' => r.1 = none ∧ s' = s ∧ ∀ v ∈ rest, carriedByValue v = true) _ ?_ ?_ _ _ ⟨rfl, rfl, hi.byValue⟩
  · rintro v rest r s' ⟨hr, rfl, hall⟩
    rw [eqIsQuiet_byValue _ (hall v List.mem_cons_self)]
    refine wpAny_bind (wpAny_pure ?_)
    simp only [Bool.not_true, Bool.false_eq_true, if_false]
    exact wpAny_pure ⟨rfl, rfl, fun u hu' => hall u (List.mem_cons_of_mem _ hu')⟩
  · rintro ⟨r1, r2⟩ s' ⟨hr, rfl, _⟩
    simp only at hr
    subst hr
    exact wpAny_pure h
theorem sign_quiet {k : Sgn} {a : Addr} {Q : Bool → Shared → Prop} (hk : IsSign P w s.heap k a) (h : Q true s) : wpAny (model P w) A (eqIsQuiet 8 (.ref a)) Q E s := by
  have hT := hk.typeIs
  obtain ⟨o, t, q, n, ho, _, hd, hi⟩ := hk
  unfold eqIsQuiet
  refine wpAny_bind (wpAny_specialOf hT F.slot_tuple_eq.lookup ?_)
  show wpAny _ _ (isInstance (.ref a) (.type "tuple") >>= _) _ _ s
  refine wpAny_bind (wpAny_isInstance hT isSubtype_tuple_tuple ?_)
  simp only [Bool.not_true, Bool.false_eq_true, if_false]
  refine wpAny_bind (wpAny_seqItems ho hd ?_)
  refine wpAny_bind ?_
  show wpAny _ _ (forIn #[Value.str k.1 t, .ref q] _ _) _ _ s
  rw [← Array.forIn_toList]
  refine wpAny_forIn_list _ (fun rest r s' => r.1 = none ∧ s' = s ∧ ∀ v ∈ rest, carriedByValue v = true ∨ v = .ref q) _ ?_ ?_ _ _ ⟨rfl, rfl, fun v hv => ?_⟩
  · rintro v rest r s' ⟨hr, rfl, hall⟩
    rcases hall v List.mem_cons_self with hv | rfl
    · rw [eqIsQuiet_byValue _ hv]
      refine wpAny_bind (wpAny_pure ?_)
      simp only [Bool.not_true, Bool.false_eq_true, if_false]
      exact wpAny_pure ⟨rfl, rfl, fun u hu' => hall u (List.mem_cons_of_mem _ hu')⟩
    · refine wpAny_bind (quiet7 hi ?_)
      simp only [Bool.not_true, Bool.false_eq_true, if_false]
      exact wpAny_pure ⟨rfl, rfl, fun u hu' => hall u (List.mem_cons_of_mem _ hu')⟩
  · rintro ⟨r1, r2⟩ s' ⟨hr, rfl, _⟩
    simp only at hr
    subst hr
    exact wpAny_pure h
  · rcases List.mem_cons.mp hv with rfl | hv
    · exact .inl rfl
    · exact .inr (List.mem_singleton.mp hv)
end
def signKind (P : Program) (w : World) : HeapKind P w Sgn where
  is := IsSign P w
  hash := signHash P w
  draws := fun k => k.2.length + 3
  room := fun A => A.units + 10 < cLine
  inj := fun hx hy => hx.inj hy
  keeps := fun x ho hd hs => x.keeps ho hd hs
  pyHash := fun hu hk h => sign_hash hu hk h
  eqBool := fun hu hx hy h => sign_eq hu hx hy h
  quiet := fun hk h => sign_quiet hk h
section
variable {prog : Program} {w : World} {K : Type} [DecidableEq K] {knd : HeapKind prog w K} {A : Around} {E : Value → Shared → Prop} {s : Shared}
end
end L2

/-! setdefault of a dict by signs: the rule. Behind Ext16. -/
namespace L2
open PySem PySem.Spec PyProof.Rows
abbrev SE := Sgn × Addr × V
def relS (p : SE) (q : Sgn × Addr × Value) : Prop := p.1 = q.1 ∧ p.2.1 = q.2.1 ∧ RelV p.2.2 q.2.2
def SDict (P : Program) (w : World) (a : Addr) (kvs : List SE) : HO := .ext fun h => (a == sysModules) = false ∧ ∃ xs : List (Sgn × Addr × Value), Paired relS kvs xs ∧
  ∃ o es ep, h.get? a = some o ∧ o.ExactDict ∧ o.data = .dict es ep ∧ es.toList = xs.map (entryOfKey (signKind P w)) ∧ (xs.map (·.1)).Nodup
def SD (P : Program) (w : World) (H : Hp) (a : Addr) (kvs : List SE) : Prop := (H a = some (.dK []) ∧ kvs = []) ∨ H a = some (SDict P w a kvs)
def SgnAt (K : PySem.W.Frag) (H : Hp) (k : Sgn) (p : Addr) : Prop := ∃ q, SqT K H p [.str k.1, .ref q] ∧ SqT K H q (k.2.map kV)
def atS (kvs : List SE) (k : Sgn) : Option SE := kvs.find? fun e => decide (e.1 = k)
section
variable {X : Cx}
def rSetd (P : Program) (w : World) (K : PySem.W.Frag) : V → List V → Hp → VK → Prop := fun x vs H Q => ∃ d p k v kvs, x = .ref d ∧ vs = [.ref p, v] ∧ SD P w H d kvs ∧ kvs.length < sizeLine ∧ (∀ e ∈ kvs, SgnAt K H e.1 e.2.1) ∧ SgnAt K H k p ∧
  ((∃ e, atS kvs k = some e ∧ Q e.2.2 H) ∨ (atS kvs k = none ∧ Q v (upd H d (SDict P w d (kvs ++ [(k, p, v)])))))
def tSetd (P : Program) (w : World) (K : PySem.W.Frag) (to : TE) (t : TA) : TE := fun σ H Q => to σ H fun x H1 => (∃ d kvs, x = .ref d ∧ SD P w H1 d kvs) ∧ t σ H1 fun xs H2 => rSetd P w K x xs H2 Q
end
end L2

/-! t[::-1] of a tuple. Behind Ext17. -/
namespace HT
open PySem PySem.Spec PyProof.Rows
section
variable {prog : Program} {w : World} {A : Around} {E : Value → Shared → Prop} {s : Shared}
end
end HT
namespace L2
open PySem PySem.Spec PyProof.Rows
section
variable {X : Cx} {e st : Expr} {te ts : TE} {pos p2 : Pos}
def tRevT (K : PySem.W.Frag) (te ts : TE) : TE := fun σ H Q => te σ H fun x H1 => ts σ H1 fun y H2 => y = .int (-1) ∧ ∃ a xs, x = .ref a ∧ SqT K H2 a xs ∧ ∀ p, H2 p = none → Q (.ref p) (upd H2 p (.tup xs.reverse))
end
end L2

/-! zip of two tuples in a for or a comprehension. Behind Ext18. -/
namespace L2
open PySem PySem.Spec PyProof.Rows
section
variable {prog : Program} {w : World} {A : Around} {E : Value → Shared → Prop} {s : Shared}
/-- a tuple and its iterator -/
def TuI (h : Heap) (it t : Addr) (i : Nat) (xs : Array Value) : Prop := h.IsTupleIter it t i ∧ h.IsTuple t xs
theorem TuI.ext {h h' : Heap} {it t b : Addr} {i : Nat} {xs : Array Value} (x : TuI h it t i xs) (hs : Heap.ExtBut b h h') (h1 : it ≠ b) (h2 : t ≠ b) : TuI h' it t i xs := ⟨x.1.extBut hs h1, x.2.extBut hs h2⟩
end
abbrev zpT1 (h : Heap) (l1 : Addr) : Heap := h.push { cls := .type "tuple_iterator", data := .fields #[.ref l1, .int 0 0] }
abbrev zpT2 (h : Heap) (l1 l2 : Addr) : Heap := (zpT1 h l1).push { cls := .type "tuple_iterator", data := .fields #[.ref l2, .int 0 0] }
abbrev zpT3 (h : Heap) (l1 l2 : Addr) : Heap := (zpT2 h l1 l2).push { cls := .type "tuple", data := .seq #[.ref h.objs.size, .ref (zpT1 h l1).objs.size] }
abbrev zpT4 (h : Heap) (l1 l2 : Addr) : Heap := (zpT3 h l1 l2).push { cls := .type "tuple", data := .seq #[.none, .none] }
abbrev zpT5 (h : Heap) (l1 l2 : Addr) : Heap := (zpT4 h l1 l2).push { cls := .type "zip", data := .fields #[.none, .bool false, .bool false, .ref (zpT2 h l1 l2).objs.size, .ref (zpT3 h l1 l2).objs.size] }
section
variable {prog : Program} {w : World} {A : Around} {E : Value → Shared → Prop} {s : Shared}
end
/-! ### the walk -/
def ItzT (K : PySem.W.Frag) (a b : Addr) : It :=
  ⟨fun i H => ∃ xs ys x y, SqT K H a xs ∧ SqT K H b ys ∧ xs[i]? = some x ∧ ys[i]? = some y, fun i H x H' => ∃ p y z, x = .ref p ∧ H p = none ∧ H' = upd H p (.tup [y, z]) ∧ (∀ xs, SqT K H a xs → xs[i]? = some y) ∧ ∀ ys, SqT K H b ys → ys[i]? = some z,
    fun i H => ∃ xs ys, SqT K H a xs ∧ SqT K H b ys ∧ (xs.length ≤ i ∨ ys.length ≤ i)⟩
def iZipT (K : PySem.W.Frag) (ta : TA) : L2.TI := fun σ H R => ta σ H fun vs H1 => ∃ a b, vs = [.ref a, .ref b] ∧ (∃ xs, SqT K H1 a xs) ∧ (∃ ys, SqT K H1 b ys) ∧ R (ItzT K a b) H1
end L2

/-! a text times an int; isinstance against an own class. Behind Ext19. -/
namespace L2
open PySem PySem.Spec PyProof.Rows
section
variable {X : Cx}
end
end L2

/-! OWN RULES: an own exception raised, passed through defs, taken by a try. Behind the layer. -/
namespace L2
open PySem PySem.Spec PyProof.Rows
section
variable {P : Program} {w : World} {H H' : Hp} {h h' B : Heap} {a : Addr} {o : HO}
theorem ObjOk.there (x : ObjOk P w H h a o) : ∃ ob, h.get? a = some ob := by
  cases o with
  | lst xs => obtain ⟨_, _, _, _, q⟩ := x; exact ⟨_, q⟩
  | tup xs => obtain ⟨_, _, _, ob, q, _⟩ := x; exact ⟨_, q⟩
  | dK kvs => obtain ⟨_, _, _, _, o, _, _, q, _⟩ := x; exact ⟨_, q⟩
  | dT kvs => obtain ⟨_, _, _, _, o, _, _, q, _⟩ := x; exact ⟨_, q⟩
  | set S n => obtain ⟨o, _, _, _, q, _⟩ := x; exact ⟨_, q⟩
  | ins C dx fs => obtain ⟨_, _, _, q, _⟩ := x; exact ⟨_, q⟩
  | own y => exact x
  | xd fs => obtain ⟨_, ⟨_, _, _, q, _⟩, _⟩ := x; exact ⟨_, q⟩
  | rng lo hi => obtain ⟨_, _, _, q⟩ := x; exact ⟨_, q⟩
  | frz ob u => exact ⟨_, x.1⟩
  | tbl ps => exact ⟨_, (show h.get? a = some _ from x)⟩
  | met f y => exact ⟨_, (show h.get? a = some _ from x)⟩
  | ext φ => exact x.2.1
/-- all that is tracked stands in B as it is -/
def Trk (H : Hp) (h B : Heap) : Prop := ∀ b ob, H b ≠ none → h.get? b = some ob → B.get? b = some ob
/-- what was there stands in B, what is not tracked as it was; but for the frames -/
def Old (fs : List Addr) (H : Hp) (h B : Heap) : Prop := ∀ b ob, h.get? b = some ob → b ∉ fs → ∃ ob', B.get? b = some ob' ∧ (H b = none → ob' = ob)
theorem HOk.stays (ok : HOk P w H h) (t : Trk H h B) (k : B.StaysIn h') : HOk P w H h' := fun a o e =>
  (ok a o e).stay (fun b u hb q => k b u (t b u (hb.elim (fun z => by rw [z, e]; exact nofun) fun z => by rw [z]; exact nofun) q)) (fun _ q => q) fun _ _ q => q
theorem Trk.stays (ok : HOk P w H h) (t : Trk H h B) (k : B.StaysIn h') : Trk H h' B := fun b ob hb e => by
  cases q : H b with
  | none => exact absurd q hb
  | some u =>
    obtain ⟨ob1, e1⟩ := (ok b u q).there
    have z := t b ob1 hb e1
    have z2 := k b ob1 z
    rw [e] at z2
    cases z2
    exact z
end

/-- an exception of an own class has left a def: where its record is, its class, the heap behind it, what stays -/
def CX1 (P : Program) (w : World) : CXT := fun outer H s E e s' => ∃ (ea C : Addr) (H' : Hp) (B : Heap) (a0 : Value), e = .ref ea ∧ s'.os = s.os ∧ AllBare s'.gens ∧ Un (frs outer) [] H H' s.heap s'.heap ∧ HOk P w H' s'.heap ∧
  Heap.FlyingW B outer ea (.ref C) a0 s'.heap ∧ Trk H' s'.heap B ∧ Old (frs outer) H s.heap B ∧ E (.ref C) none H'
/-- the context of a def out of which exceptions may go -/
structure Xe1 (X : Cx) (E : XK) : Prop where
  xe : X.xe = fun e s' => wpAny (model X.prog X.w) X.A (leaving X.env e) (fun _ s'' => CX1 X.prog X.w X.outer X.H₀ X.s₀ E e s'') (fun e' s'' => CX1 X.prog X.w X.outer X.H₀ X.s₀ E e' s'') s'
  stk : X.stack = X.env :: X.outer
  fr : X.env.frame = some X.env.locals
  ex : X.ex = []
section
variable {X : Cx} {E : XK} {pins : List (Addr × Obj)} {σ : St} {H H' : Hp} {s s' : Shared} {B : Heap} {ea C : Addr} {a0 : Value}
theorem cx1_out (hx : Xe1 X E) (I : Inv X pins σ H s) {s'' : Shared} (os : s''.os = s.os) (bare : AllBare s''.gens) (u : Un (frs X.stack) [] H H' s.heap s'.heap) (ok : HOk X.prog X.w H' s'.heap)
    (fl : Heap.FlyingW B X.outer ea (.ref C) a0 s''.heap) (sm : s'.heap.UpToSlots s''.heap) (trk : Trk H' s'.heap B) (old : Old (frs X.stack) H s.heap B) (hE : E (.ref C) none H') :
    CX1 X.prog X.w X.outer X.H₀ X.s₀ E (.ref ea) s'' := by
  have hfs : frs X.stack = X.env.locals :: X.fs := by
    rw [hx.stk]
    unfold frs
    rw [List.filterMap_cons, hx.fr]
    rfl
  have nx : ∀ b, b ∉ X.ex := fun b hb => by rw [hx.ex] at hb; cases hb
  have nf : ∀ b ob, X.s₀.heap.get? b = some ob → b ∉ X.fs → b ∉ frs X.stack := fun b ob e hb z => by
    rw [hfs] at z
    rcases List.mem_cons.mp z with z | z
    · exact absurd (Nat.lt_of_lt_of_le (Heap.lt_size e) I.ok.above) (by rw [z]; exact Nat.lt_irrefl _)
    · exact hb z
  have st : B.StaysIn s''.heap := fl.1
  have U := I.base
  have old' : Old X.fs X.H₀ X.s₀.heap B := fun b ob e hb => by
    obtain ⟨o1, e1⟩ := U.there b ob e (nx b)
    obtain ⟨o', eB, hB⟩ := old b o1 e1 (nf b ob e hb)
    refine ⟨o', eB, fun n => ?_⟩
    have k := U.keep b ob e n hb (nx b)
    rw [e1] at k
    cases k
    exact hB (U.free b ob e n (nx b))
  have slot : ∀ b ob, X.s₀.heap.get? b = some ob → X.H₀ b = none → b ∈ X.fs → ∃ sl, s''.heap.get? b = some { ob with slots := sl } := fun b ob e n hb => by
    obtain ⟨sl, k⟩ := U.slot b ob e n hb (nx b)
    obtain ⟨sl2, k2⟩ := u.any k (U.free b ob e n (nx b)) (by simp)
    obtain ⟨_, o3, e3, hd⟩ := I.ok.funs.mem hb
    rw [e] at e3
    cases e3
    obtain ⟨sl3, k3⟩ := sm b _ k2 fun vs q => hd vs q
    exact ⟨sl3, k3⟩
  refine ⟨ea, C, H', B, a0, rfl, os.trans I.os, bare, ⟨fun b ob e n hb _ => ?_, fun b ob e n hb _ => slot b ob e n hb, fun b ob e n _ => ?_, fun b ob e _ => ?_, fun b xs q => u.tups b xs (U.tups b xs q), fun b ob xs q => u.frzs b ob xs (U.frzs b ob xs q), fun b ps q => ?_⟩,
    ok.stays trk st, fl, Trk.stays ok trk st, old', hE⟩
  · obtain ⟨o', eB, hB⟩ := old' b ob e hb
    rw [hB n] at eB
    exact st b ob eB
  · obtain ⟨o1, e1⟩ := U.there b ob e (nx b)
    exact u.free b o1 e1 (U.free b ob e n (nx b)) (by simp)
  · by_cases hb : b ∈ X.fs
    · obtain ⟨sl, k⟩ := slot b ob e (I.ok.frf b hb) hb
      exact ⟨_, k⟩
    · obtain ⟨o', eB, _⟩ := old' b ob e hb
      exact ⟨o', st b o' eB⟩
  · obtain ⟨m1, e1⟩ := U.tbls b ps q
    obtain ⟨m2, e2⟩ := u.tbls b _ e1
    exact ⟨m1 ++ m2, by rw [e2, Array.append_assoc]⟩
/-- an exception out of a def that was called goes on out of this one -/
theorem passes1 (hx : Xe1 X E) : Passes (CX1 X.prog X.w) X E := by
  intro pins σ H s e s' I h
  obtain ⟨ea, C, H', B, a0, rfl, os, bare, u, ok, fl, trk, old, hE⟩ := h
  rw [hx.xe]
  have fl2 := fl
  rw [hx.stk] at fl2
  have hfr : X.A.frames = some (X.env :: X.outer) := by rw [I.ok.frames, hx.stk]
  exact wpAny_leaves_onW hfr hx.fr fl2 fun h' fl' sm => cx1_out hx I os bare u ok fl' sm trk old hE
/-- a new exception goes out of this def -/
theorem xe_made {h' : Heap} {vs : List Value} (hx : Xe1 X E) (I : Inv X pins σ H s) (m : Heap.MadeExcOf s.heap h' ea (.ref C) vs) (hE : E (.ref C) none H) : X.xe (.ref ea) { s with heap := h' } := by
  rw [hx.xe]
  have hl : s.heap.FunFrames (PySem.W.hideAll s.heap (frs X.stack)) X.stack := PySem.W.funFrames_hide I.stack fun env he a ha => List.mem_filterMap.mpr ⟨env, he, ha⟩
  have hl2 : s.heap.FunFrames (PySem.W.hideAll s.heap (frs X.stack)) (X.env :: X.outer) := by
    have z := hl
    rw [show X.stack = X.env :: X.outer from hx.stk] at z ⊢
    exact z
  have hfr : X.A.frames = some (X.env :: X.outer) := by rw [I.ok.frames, hx.stk]
  refine wpAny_leaves_madeW (base := PySem.W.hideAll s.heap (frs X.stack)) (h := s.heap) hfr hx.fr (fun b ob q => PySem.W.of_hideAll _ q) hl2 m fun h'' t fl _ _ sm => ?_
  refine cx1_out (s' := { s with heap := h' }) hx I rfl I.bare (Un.kept m.keeps) (I.hok.kept m.keeps) fl sm (fun b ob hb q => ?_) (fun b ob q hb => ⟨ob, PySem.W.hideAll_get _ q hb, fun _ => rfl⟩) hE
  cases z : H b with
  | none => exact absurd z hb
  | some v =>
    obtain ⟨o1, e1⟩ := (I.hok b v z).there
    have e2 := m.keeps b o1 e1
    have q' : h'.get? b = some ob := q
    rw [q'] at e2
    cases e2
    exact PySem.W.hideAll_get _ e1 fun y => hb (I.stkFree b y)

/-! ### raise C(..) -/
/-- what the class of an own exception is, as the fragment has it -/
theorem own_at {K : PySem.W.Frag} {hp : Heap} {bmB : List Value} {newId : String} (XI : K.In hp) (q : PySem.W.excIn K C bmB newId = true) :
    ∃ bm N nm qn bs hdct sn sub ab col dd k0 k1 k2 k3 k5 mN, hp.get? C = some (excClassObj nm qn C N bs bm hdct sn sub ab col dd k0 k1 k2 k3 k5 newId) ∧ hp.Ns N mN ∧ mN "__init__" = none ∧ OwnTail hp bmB bm := by
  unfold PySem.W.excIn at q
  split at q
  · rename_i d1 c1 l1 hC1
    split at q
    · rename_i C2 bm2 y0 y1 y2 y3 n2 y5 hm2 hs2
      simp only [Bool.and_eq_true, beq_iff_eq, Bool.not_eq_true'] at q
      obtain ⟨⟨⟨⟨⟨rfl, rfl⟩, hdl⟩, htl⟩, hno⟩, hin⟩ := q
      obtain ⟨nm, bs, mro, ns, qn, hd, sn, sub, ab, col, del⟩ := c1
      dsimp only at hm2 hdl hno hin
      subst hm2 hdl
      have hsl : l1 = #[y0, y1, y2, y3, some (.builtin n2), y5] := by
        obtain ⟨l⟩ := l1
        simp only at hs2
        rw [hs2]
      subst hsl
      exact ⟨bm2, ns, nm, qn, bs, hd, sn, sub, ab, col, d1, y0, y1, y2, y3, y5, _, XI _ _ hC1, .of_isNs (PySem.W.isNs_of_in XI hno), PySem.W.nsMap_none_of_in XI hno hin, PySem.W.tail_of_in XI htl⟩
    · cases q
  · cases q
variable {e0 : Expr} {rest : List Expr} {t : TA} {x : Str} {np cpos pos : Pos} {Bn newId initId : String} {bm : List Value}
def tRaise (E : XK) (C : Addr) (t : TA) : TS := fun _ σ H => t σ H fun vs H1 => vs.length ≤ sizeLine ∧ E (.ref C) none H1
theorem ps_raise (hx : Xe1 X E) (hc : X.calm = true) (hg : Gl X x) (hm : X.mg x = some (.ref C)) (F : ExcBaseFacts Bn newId initId bm) (q : PySem.W.excIn X.K C bm newId = true) (ha : PA X (e0 :: rest) t)
    (hdb : (x == ("__debug__" : Str)) = false := by decide) (hse : starEach (e0 :: rest) X.env = (false, eval e0 X.env) :: starEach rest X.env := by rfl) (hpl : (backTo cpos (starEach rest X.env)).any (·.1) = false := by rfl) :
    PS X (.Raise (some (.Call (.Name x np) (e0 :: rest) [] cpos)) none pos) (tRaise E C t) := by
  intro pins s σ H D I h
  obtain ⟨tl, N, nm, qn, bs, hdct, sn, sub, ab, col, dd, k0, k1, k2, k3, k5, mN, hC, hN, hni, T⟩ := own_at (C := C) I.mod.kin q
  refine wpAny_Raise_call_subT (C := C) (nm := nm) (q := qn) (N := N) (bs := bs) (bm := tl) (hdct := hdct) (sn := sn) (sub := sub) (ab := ab) (col := col) (dd := dd) (k0 := k0) (k1 := k1) (k2 := k2) (k3 := k3) (k5 := k5) F (mN := mN)
    (T.hasType F.hasBase) (I.ok.hd hc) (by rw [hse]; show (false || (backTo cpos (starEach rest X.env)).any (·.1)) = false; rw [hpl]; rfl) hni (ld_glob I hg hm ⟨rfl, ?_⟩ hdb)
  have g := ha cpos pins s σ H _ I h
  rw [hse] at g ⊢
  refine Calls.evalArgs_plain (wpAny_mono g (fun vs s2 ⟨ws, H2, I2, r2, hz, hE⟩ => ?_) fun _ _ y => y)
  exact ⟨rfl, by rw [← r2.length]; exact hz, I2.bk _ _ hC, hN.keeps I2.bk, T.keeps I2.bk, fun h' ea m => xe_made hx I2 m hE⟩
end
end L2

/-! OWN RULES: try with except. Behind Exc. -/
namespace L2
open PySem PySem.Spec PyProof.Rows
/-- within the except suite for the exception at ea -/
abbrev Cx.susp (X : Cx) (ea : Addr) : Cx := { X with A := X.A.mark (some (.ref ea)), calm := false, xe := fun _ _ => False }
/-- within a try: the pins go along, an exception is wanted so -/
abbrev Cx.tryc (X : Cx) (pins : List (Addr × Obj)) (E1 : Value → Shared → Prop) : Cx := { X with pn := X.pn ++ pins, xe := E1 }
section
variable {X : Cx} {pins : List (Addr × Obj)} {σ : St} {H H' : Hp} {s s' : Shared} {B : Heap} {ea C : Addr} {a0 : Value} {D : Ends} {f : Flow} {E1 : Value → Shared → Prop}
theorem Inv.susp (I : Inv X pins σ H s) (ea : Addr) : Inv (X.susp ea) pins σ H s :=
  ⟨⟨I.ok.mod, I.ok.kind, I.ok.glob, I.ok.blt, I.ok.above, I.ok.inj, I.ok.has, I.ok.cab, fun z => (by cases z), I.ok.frames, I.ok.stk, I.ok.exf, I.ok.bs, I.ok.bsz, I.ok.noex, I.ok.exfs, I.ok.funs, I.ok.frf⟩, I.os, I.bare, I.base, I.loc, I.cell, I.free, I.freeC, I.pin, I.hok, I.len⟩
theorem Inv.unsusp (ok : X.Ok) (I : Inv (X.susp ea) pins σ H s) : Inv X pins σ H s := ⟨ok, I.os, I.bare, I.base, I.loc, I.cell, I.free, I.freeC, I.pin, I.hok, I.len⟩
theorem SP.unsusp (ok : X.Ok) (h : SP (X.susp ea) pins D f s) : SP X pins D f s := by
  cases f with
  | next => obtain ⟨a, b, I, q⟩ := h; exact ⟨a, b, I.unsusp ok, q⟩
  | brk => obtain ⟨a, b, I, q⟩ := h; exact ⟨a, b, I.unsusp ok, q⟩
  | cont => obtain ⟨a, b, I, q⟩ := h; exact ⟨a, b, I.unsusp ok, q⟩
  | ret u => obtain ⟨v, a, b, I, r, q⟩ := h; exact ⟨v, a, b, I.unsusp ok, r, q⟩
theorem Inv.tryc (I : Inv X pins σ H s) (E1 : Value → Shared → Prop) : Inv (X.tryc pins E1) [] σ H s :=
  ⟨⟨I.ok.mod, I.ok.kind, I.ok.glob, I.ok.blt, I.ok.above, I.ok.inj, I.ok.has, I.ok.cab, I.ok.hd, I.ok.frames, I.ok.stk, I.ok.exf, I.ok.bs, I.ok.bsz, I.ok.noex, I.ok.exfs, I.ok.funs, I.ok.frf⟩, I.os, I.bare, I.base, I.loc, I.cell, I.free, I.freeC,
    fun p hp => I.pin p (by simpa using hp), I.hok, I.len⟩
theorem Inv.untryc {pins1 : List (Addr × Obj)} (ok : X.Ok) (I : Inv (X.tryc pins E1) pins1 σ H s) : Inv X pins σ H s :=
  ⟨ok, I.os, I.bare, I.base, I.loc, I.cell, I.free, I.freeC, fun p hp => I.pin p (List.mem_append_left _ hp), I.hok, I.len⟩
theorem SP.untryc {pins1 : List (Addr × Obj)} (ok : X.Ok) (h : SP (X.tryc pins E1) pins1 D f s) : SP X pins D f s := by
  cases f with
  | next => obtain ⟨a, b, I, q⟩ := h; exact ⟨a, b, I.untryc ok, q⟩
  | brk => obtain ⟨a, b, I, q⟩ := h; exact ⟨a, b, I.untryc ok, q⟩
  | cont => obtain ⟨a, b, I, q⟩ := h; exact ⟨a, b, I.untryc ok, q⟩
  | ret u => obtain ⟨v, a, b, I, r, q⟩ := h; exact ⟨v, a, b, I.untryc ok, r, q⟩

/-- an exception came out of a call that was made at s: it is here, at s' -/
structure Came (X : Cx) (pins : List (Addr × Obj)) (σ : St) (H : Hp) (s : Shared) (H' : Hp) (B : Heap) (s' : Shared) : Prop where
  I : Inv X pins σ H s
  os : s'.os = s.os
  bare : AllBare s'.gens
  u : Un (frs X.stack) [] H H' s.heap s'.heap
  ok : HOk X.prog X.w H' s'.heap
  trk : Trk H' s'.heap B
  old : Old (frs X.stack) H s.heap B
/-- the handlers, from here on -/
def PH (X : Cx) (hs : List ExceptHandler) (th : Addr → TS) : Prop :=
  ∀ (pins : List (Addr × Obj)) (σ : St) (H : Hp) (s : Shared) (H' : Hp) (B : Heap) (s' : Shared) (D : Ends) (ea C : Addr) (a0 : Value) (h' : Heap), Came X pins σ H s H' B s' → Heap.FlyingW B X.stack ea (.ref C) a0 h' → s'.heap.UpToSlots h' → th C D σ H' →
    wpAny (model X.prog X.w) X.A (handleBy (.ref ea) X.env hs) (SP X pins D) X.xe { s' with heap := h' }
/-- except x: suite -/
def tExc (K : PySem.W.Frag) (C1 : Addr) (ts : TS) (th : Addr → TS) : Addr → TS := fun C D σ H => ∃ b, PySem.W.exmOne K (.ref C) (.ref C1) = some b ∧ if b = true then ts D σ H else th C D σ H
/-- try: body, except .. -/
def tTry (n : Nat) (tb : XK → TS) (th : Addr → TS) : TS := fun D σ H => tb (fun c _ H' => ∃ C, c = .ref C ∧ ∀ σ1 : St, σ1.length = n → th C D σ1 H') D σ H
end
end L2

/-! OWN RULES: except .. as name; isinstance of an exception. Behind Try. -/
namespace L2
open PySem PySem.Spec PyProof.Rows
/-- an exception's record: its class -/
def ExcOf (ea C : Addr) (h : Heap) : Prop := ∃ oe, h.get? ea = some oe ∧ oe.cls = .ref C
section
variable {X : Cx} {pins : List (Addr × Obj)} {σ : St} {H H' : Hp} {s s' : Shared} {B : Heap} {ea C : Addr} {a0 : Value} {D : Ends} {f : Flow}
/-- an exception that came is none of what was there -/
theorem Came.apart (c : Came X pins σ H s H' B s') {h' : Heap} (fl : Heap.FlyingW B X.stack ea (.ref C) a0 h') : s.heap.get? ea = none := by
  cases q : s.heap.get? ea with
  | none => rfl
  | some ob =>
    by_cases hb : ea ∈ frs X.stack
    · obtain ⟨_, _, ff, oe, vs, _, _, _, he, _, hd, _⟩ := fl
      obtain ⟨_, o, ho, hnf⟩ := ff.mem hb
      rw [he] at ho
      cases ho
      exact absurd hd (hnf vs)
    · obtain ⟨o', eB, _⟩ := c.old ea ob q hb
      rw [fl.2.1] at eB
      cases eB
/-- except x as n: suite -/
def tExcAs (K : PySem.W.Frag) (C1 : Addr) (i nN : Nat) (ts : TS) (th : Addr → TS) : Addr → TS := fun C D σ H => ∃ b, PySem.W.exmOne K (.ref C) (.ref C1) = some b ∧
  if b = true then ∀ ea, H ea = none → ts { nx := fun _ H1 => D.nx (List.replicate nN none) H1, rt := D.rt, bk := fun _ H1 => D.bk (List.replicate nN none) H1, ct := fun _ H1 => D.ct (List.replicate nN none) H1 } (σ.set i (some (.ref ea))) (upd H ea (.ext (ExcOf ea C))) else th C D σ H
/-! ### isinstance(e, c) of an exception e, where it is so -/
def rIsiE (K : PySem.W.Frag) : List V → Hp → VK → Prop := fun xs H Q => ∃ ea C n, xs = [.ref ea, .ty n] ∧ H ea = some (.ext (ExcOf ea C)) ∧ PySem.W.kitCls K (.ref C) (.type n) = some true ∧ Q (.bl true) H
end
end L2

/-! OWN: lengths of texts. Behind Ext18. -/
namespace L2
open PySem
abbrev abcS : Str := "abcdefghijklmnopqrstuvwxyz"
end L2

/-! law k04: atoms and rows. First part: the mathematics, the program's own defs. Behind the layer, Ext, Ext2, Deep, Deep2, Exc, Try, Try2. Made of wip/K02a.lean where the text is the same. -/
namespace K04
open PySem L2
def top (i : Nat) : Stmt := PySem.Challenge.pw_yesorno_k04_written.main.body.getD i (.Pass ⟨0, 0, 0, 0⟩)
abbrev s_shown_term : Stmt := top 1
abbrev s_shown_atom : Stmt := top 2
abbrev s_shown_part : Stmt := top 3
abbrev s_shown_row : Stmt := top 4
abbrev s_written : Stmt := top 5
abbrev sIsWord : Stmt := top 21
abbrev sIsName : Stmt := top 22
abbrev sAskName : Stmt := top 23
abbrev sOnce : Stmt := top 24
abbrev sPlace : Stmt := top 25
abbrev sInit : Stmt := inClass (top 26) 0
abbrev sAskTerm : Stmt := inClass (top 26) 1
abbrev sAskPart : Stmt := inClass (top 26) 2
abbrev sAdd : Stmt := inClass (top 26) 3
abbrev sPlain : Stmt := inClass (top 26) 4
abbrev sSame : Stmt := inClass (top 26) 5
abbrev sRow : Stmt := inClass (top 26) 6
abbrev sCell : Stmt := top 28
abbrev s__law_word : Stmt := top 29
abbrev s__law_names : Stmt := top 30
abbrev s__law_terms : Stmt := top 31
abbrev s__law_texts : Stmt := top 32
abbrev s__law_atoms : Stmt := top 33
abbrev s__law_rows : Stmt := top 34
abbrev s__law_part_text : Stmt := top 35
abbrev s__law_whole_text : Stmt := top 36
abbrev s__law_more : Stmt := top 37
abbrev s_law : Stmt := top 38

/-! ### what is said -/
abbrev abc : Str := "abcdefghijklmnopqrstuvwxyz"
def isL (c : Str) : Bool := !(Builtin.Str.occurrences abc c 0 abc.length 1).isEmpty
def lets (z : Str) : List Bool := z.cps.toList.map fun c => isL ⟨#[c]⟩
def keptV : List V := [.str "or", .str "and", .str "not", .str "never", .str "always", .str "then", .str "as", .str "unlike"]
def wordB (z : Str) : Bool := decide ((0 : Int) < (z.length : Int)) && (lets z).all id
def nameB (z : Str) : Bool := wordB z && (decide ((z.length : Int) ≤ 8) && !inV (.str z) keptV)
theorem sz (n : Nat) (h : n ≤ 1000) : n ≤ sizeLine := Nat.le_of_lt (small1000 h)
theorem abc_len : abc.cps.toList.length = 26 := by decide +kernel
theorem keptV_flat : keptV.all flatV = true := by decide +kernel
theorem lets_len (z : Str) : (lets z).length = z.length := by simp [lets, Str.length]

theorem at_in {α : Type} {xs : List α} {i : Int} (h0 : 0 ≤ i) (h1 : i < (xs.length : Int)) : ∃ c, atI xs i = some c := by
  have hk : i.toNat < xs.length := by omega
  have e : i = ((i.toNat : Nat) : Int) := by omega
  have q : atI xs ((i.toNat : Nat) : Int) = some xs[i.toNat] := atI_nat (List.getElem?_eq_getElem hk)
  rw [← e] at q
  exact ⟨_, q⟩
theorem app_len (a b : Str) : (a ++ b).length = a.length + b.length := by
  show (a.cps ++ b.cps).size = a.cps.size + b.cps.size
  exact Array.size_append
theorem cut_le {w : Str} {lo hi : Option Int} {n : Nat} (h : w.length ≤ n) : (Txt.slice w lo hi).length ≤ n := Nat.le_trans (Txt.slice_le w lo hi) h
theorem take_one {z : Str} {i ch : Nat} (hch : z.cps[i]? = some ch) : (lets z).take (i + 1) = (lets z).take i ++ [isL ⟨#[ch]⟩] := by
  have hb : (lets z)[i]? = some (isL ⟨#[ch]⟩) := by
    unfold lets
    rw [List.getElem?_map, Array.getElem?_toList, hch]
    rfl
  rw [List.take_add_one, hb]
  rfl
theorem one_len (c : Nat) : (⟨#[c]⟩ : Str).length = 1 := rfl


/-! ### terms -/
abbrev Tm := Str × List Int
def dT (t : Tm) : Dt := .tup [.str t.1, .tup (t.2.map Dt.int)]
theorem nobs_ints : ∀ ns : List Int, nobs (ns.map Dt.int) = true
  | [] => by simp [nobs]
  | n :: ns => by simp only [List.map_cons, nobs, nob, Bool.true_and]; exact nobs_ints ns
theorem nols_ints : ∀ ns : List Int, nols (ns.map Dt.int) = true
  | [] => by simp [nols]
  | n :: ns => by simp only [List.map_cons, nols, nol, Bool.true_and]; exact nols_ints ns
theorem deps_ints : ∀ ns : List Int, deps (ns.map Dt.int) = 0
  | [] => by simp [deps]
  | n :: ns => by simp only [List.map_cons, deps, dep, deps_ints ns]; rfl
theorem nob_dT (t : Tm) : nob (dT t) = true := by simp only [dT, nob, nobs, nobs_ints, Bool.and_self]
theorem nol_dT (t : Tm) : nol (dT t) = true := by simp only [dT, nol, nols, nols_ints, Bool.and_self]
theorem dep_dT (t : Tm) : dep (dT t) = 2 := by simp only [dT, dep, deps, deps_ints]; rfl
theorem nols_dTs : ∀ T : List Tm, nols (T.map dT) = true
  | [] => by simp [nols]
  | t :: T => by simp only [List.map_cons, nols, nol_dT, Bool.true_and]; exact nols_dTs T
theorem deps_dTs : ∀ T : List Tm, deps (T.map dT) ≤ 2
  | [] => by simp [deps]
  | t :: T => by
    have h := deps_dTs T
    simp only [List.map_cons, deps, dep_dT]
    omega
theorem int_inj {a b : Int} (h : Dt.int a = Dt.int b) : a = b := by cases h; rfl
theorem ints_inj : ∀ {as bs : List Int}, as.map Dt.int = bs.map Dt.int → as = bs
  | [], [], _ => rfl
  | [], b :: bs, h => by cases h
  | a :: as, [], h => by cases h
  | a :: as, b :: bs, h => by
    rw [List.map_cons, List.map_cons] at h
    injection h with h1 h2
    rw [int_inj h1, ints_inj h2]
theorem dT_inj {a b : Tm} (h : dT a = dT b) : a = b := by
  obtain ⟨n, ps⟩ := a
  obtain ⟨m, qs⟩ := b
  unfold dT at h
  injection h with h
  injection h with h1 h2
  injection h1 with h1
  injection h2 with h2 _
  injection h2 with h2
  have e1 : n = m := h1
  have e2 : ps = qs := ints_inj h2
  rw [e1, e2]
theorem peq_dT (a b : Tm) : peq (dT a) (dT b) = decide (a = b) := by
  by_cases h : a = b
  · subst h
    rw [peq_refl, decide_eq_true rfl]
  · rw [decide_eq_false h]
    cases e : peq (dT a) (dT b) with
    | false => rfl
    | true => exact absurd (dT_inj (peq_eq _ _ (nob_dT a) (nob_dT b) e)) h
inductive Out where
  | num (n : Nat) | name | term | many | part
def bad (T : List Tm) (ps : List Int) : Bool := decide (3 < ps.length) || ps.any fun p => decide (p < 0) || decide ((T.length : Int) ≤ p)
def addT (T : List Tm) (good : Bool) (t : Tm) : Out × List Tm :=
  if good = false then (.name, T) else if bad T t.2 = true then (.term, T) else if t ∈ T then (.num (T.idxOf t), T) else if 60 ≤ T.length then (.many, T) else (.num T.length, T ++ [t])
def outV : Out → V
  | .num n => .int (n : Nat)
  | .name => .str "name"
  | .term => .str "term"
  | .many => .str "many"
  | .part => .str "part"
/-! ### lists of what is told by data -/
theorem any_code {α : Type} [BEq α] [LawfulBEq α] {code : α → Dt} (hc : ∀ a b, peq (code a) (code b) = true ↔ a = b) (T : List α) (t : α) : ((T.map code).any fun d => peq d (code t)) = decide (t ∈ T) := by
  rw [Bool.eq_iff_iff, List.any_eq_true]
  constructor
  · rintro ⟨d, hd, e⟩
    obtain ⟨u, hu, rfl⟩ := List.mem_map.mp hd
    rw [hc] at e
    rw [← e]
    exact decide_eq_true hu
  · intro h
    exact ⟨code t, List.mem_map.mpr ⟨t, of_decide_eq_true h, rfl⟩, peq_refl _⟩
theorem idx_code {α : Type} [BEq α] [LawfulBEq α] {code : α → Dt} (hc : ∀ a b, peq (code a) (code b) = true ↔ a = b) (T : List α) (t : α) : (T.map code).findIdx (fun d => peq d (code t)) = T.idxOf t := by
  rw [List.findIdx_map]
  unfold List.idxOf
  congr 1
  funext a
  show peq (code a) (code t) = (a == t)
  rw [Bool.eq_iff_iff, hc, beq_iff_eq]
theorem iff_dT (a b : Tm) : peq (dT a) (dT b) = true ↔ a = b := by
  rw [peq_dT]
  exact decide_eq_true_iff
inductive At where
  | plain (z : Str)
  | same (a b : Int)
  deriving DecidableEq
def dA : At → Dt
  | .plain z => .tup [.str "plain", .str z]
  | .same a b => .tup [.str "same", .int a, .int b]
theorem nob_dA (t : At) : nob (dA t) = true := by cases t <;> simp only [dA, nob, nobs, Bool.and_self]
theorem nol_dA (t : At) : nol (dA t) = true := by cases t <;> simp only [dA, nol, nols, Bool.and_self]
theorem dep_dA (t : At) : dep (dA t) = 1 := by cases t <;> simp only [dA, dep, deps] <;> rfl
theorem dA_inj {a b : At} (h : dA a = dA b) : a = b := by
  cases a <;> cases b
  all_goals
    unfold dA at h
    injection h with h
    injection h with h1 h2
    injection h2 with h2 h3
    first
      | (injection h2 with h2; injection h3 with h3 _; injection h3 with h3; rw [h2, h3])
      | (injection h2 with h2; rw [h2])
      | (injection h1 with h1; exact absurd h1 (by decide +kernel))
      | cases h2
theorem peq_dA (a b : At) : peq (dA a) (dA b) = decide (a = b) := by
  by_cases h : a = b
  · subst h
    rw [peq_refl, decide_eq_true rfl]
  · rw [decide_eq_false h]
    cases e : peq (dA a) (dA b) with
    | false => rfl
    | true => exact absurd (dA_inj (peq_eq _ _ (nob_dA a) (nob_dA b) e)) h
theorem iff_dA (a b : At) : peq (dA a) (dA b) = true ↔ a = b := by
  rw [peq_dA]
  exact decide_eq_true_iff
def dR (r : List Int) : Dt := .tup (r.map Dt.int)
theorem nol_dR (r : List Int) : nol (dR r) = true := by simp only [dR, nol, nols_ints]
theorem dep_dR (r : List Int) : dep (dR r) = 1 := by simp only [dR, dep, deps_ints]
theorem nols_code {α : Type} {code : α → Dt} (hc : ∀ a, nol (code a) = true) : ∀ T : List α, nols (T.map code) = true
  | [] => by simp [nols]
  | t :: T => by simp only [List.map_cons, nols, hc, Bool.true_and]; exact nols_code hc T
theorem deps_code {α : Type} {code : α → Dt} {n : Nat} (hc : ∀ a, dep (code a) ≤ n) : ∀ T : List α, deps (T.map code) ≤ n
  | [] => by simp [deps]
  | t :: T => by
    have h := deps_code hc T
    have := hc t
    simp only [List.map_cons, deps]
    omega

/-! ### a problem in the heap -/
theorem kTA : ¬ (("terms" : Str) = "atoms") := by decide +kernel
theorem kTR : ¬ (("terms" : Str) = "rows") := by decide +kernel
theorem kAR : ¬ (("atoms" : Str) = "rows") := by decide +kernel
def flds (tl al rl : Addr) : List (Str × V) := putF "rows" (.ref rl) (putF "atoms" (.ref al) (putF "terms" (.ref tl) []))
theorem flds_terms (tl al rl : Addr) : (flds tl al rl).lookup ("terms" : Str) = some (.ref tl) := by
  unfold flds
  rw [lookup_putF, if_neg kTR, lookup_putF, if_neg kTA, lookup_putF, if_pos rfl]
theorem flds_atoms (tl al rl : Addr) : (flds tl al rl).lookup ("atoms" : Str) = some (.ref al) := by
  unfold flds
  rw [lookup_putF, if_neg kAR, lookup_putF, if_pos rfl]
theorem flds_rows (tl al rl : Addr) : (flds tl al rl).lookup ("rows" : Str) = some (.ref rl) := by
  unfold flds
  rw [lookup_putF, if_pos rfl]
theorem flds_no (tl al rl : Addr) {m : Str} (h1 : ¬ m = "rows") (h2 : ¬ m = "atoms") (h3 : ¬ m = "terms") : (flds tl al rl).lookup m = none := by
  unfold flds
  rw [lookup_putF, if_neg h1, lookup_putF, if_neg h2, lookup_putF, if_neg h3]
  all_goals rfl
/-- all but what stands at z is as it was -/
def Fr1 (H H' : Hp) (z : Addr) : Prop := ∀ b o, H b = some o → b ≠ z → H' b = some o
theorem Fr1.of_same {H H' : Hp} {z : Addr} (s : Same H H') : Fr1 H H' z := fun b o e _ => s b o e
theorem Fr1.trans {H H1 H2 : Hp} {z : Addr} (a : Fr1 H H1 z) (b : Fr1 H1 H2 z) : Fr1 H H2 z := fun c o e n => b c o (a c o e n) n
theorem Fr1.keepT {H H' : Hp} {z : Addr} {xs : List V} (f : Fr1 H H' z) (h : H z = some (.lst xs)) : KeepT H H' := fun b ys q => by
  rcases q with q | ⟨o, q⟩
  · exact .inl (f b _ q (ne_of q h (fun e => by cases e)))
  · exact .inr ⟨o, f b _ q (ne_of q h (fun e => by cases e))⟩
structure PrAt (K : PySem.W.Frag) (C : Addr) (H : Hp) (p tl al rl : Addr) (T : List Tm) (As : List At) (Rs : List (List Int)) : Prop where
  ob : ∃ dx, H p = some (.ins C dx (flds tl al rl))
  tm : ∃ xs, H tl = some (.lst xs) ∧ HasL K H (T.map dT) xs
  am : ∃ xs, H al = some (.lst xs) ∧ HasL K H (As.map dA) xs
  rm : ∃ xs, H rl = some (.lst xs) ∧ HasL K H (Rs.map dR) xs
  na : al ≠ tl
  nr : rl ≠ tl
  nx : rl ≠ al
theorem PrAt.keep {K : PySem.W.Frag} {C : Addr} {H H' : Hp} {p tl al rl z : Addr} {T : List Tm} {As : List At} {Rs : List (List Int)} {zs : List V} (h : PrAt K C H p tl al rl T As Rs) (f : Fr1 H H' z) (hz : H z = some (.lst zs)) (n1 : z ≠ tl) (n2 : z ≠ al) (n3 : z ≠ rl) : PrAt K C H' p tl al rl T As Rs := by
  obtain ⟨⟨dx, h1⟩, ⟨xs, h2, h3⟩, ⟨ys, h4, h5⟩, ⟨ws, h6, h7⟩, h8, h9, h10⟩ := h
  exact ⟨⟨dx, f _ _ h1 (ne_of h1 hz (fun e => by cases e))⟩, ⟨xs, f _ _ h2 n1.symm, h3.keep (f.keepT hz) (nols_dTs T)⟩, ⟨ys, f _ _ h4 n2.symm, h5.keep (f.keepT hz) (nols_code nol_dA As)⟩, ⟨ws, f _ _ h6 n3.symm, h7.keep (f.keepT hz) (nols_code nol_dR Rs)⟩, h8, h9, h10⟩
theorem PrAt.same {K : PySem.W.Frag} {C : Addr} {H H' : Hp} {p tl al rl : Addr} {T : List Tm} {As : List At} {Rs : List (List Int)} (h : PrAt K C H p tl al rl T As Rs) (s : Same H H') : PrAt K C H' p tl al rl T As Rs := by
  obtain ⟨⟨dx, h1⟩, ⟨xs, h2, h3⟩, ⟨ys, h4, h5⟩, ⟨ws, h6, h7⟩, h8, h9, h10⟩ := h
  exact ⟨⟨dx, s _ _ h1⟩, ⟨xs, s _ _ h2, h3.keep (.of_same s) (nols_dTs T)⟩, ⟨ys, s _ _ h4, h5.keep (.of_same s) (nols_code nol_dA As)⟩, ⟨ws, s _ _ h6, h7.keep (.of_same s) (nols_code nol_dR Rs)⟩, h8, h9, h10⟩
/-- one of the three lists is written anew -/
theorem PrAt.setT {K : PySem.W.Frag} {C : Addr} {H : Hp} {p tl al rl : Addr} {T T' : List Tm} {As : List At} {Rs : List (List Int)} {us : List V} (h : PrAt K C H p tl al rl T As Rs) (hs : HasL K (upd H tl (.lst us)) (T'.map dT) us) : PrAt K C (upd H tl (.lst us)) p tl al rl T' As Rs := by
  obtain ⟨⟨dx, h1⟩, ⟨xs, h2, h3⟩, ⟨ys, h4, h5⟩, ⟨ws, h6, h7⟩, h8, h9, h10⟩ := h
  have kt : KeepT H (upd H tl (.lst us)) := KeepT.lst h2
  exact ⟨⟨dx, by rw [upd_ne (ne_of h1 h2 (fun e => by cases e))]; exact h1⟩, ⟨us, upd_same, hs⟩, ⟨ys, by rw [upd_ne h8]; exact h4, h5.keep kt (nols_code nol_dA As)⟩, ⟨ws, by rw [upd_ne h9]; exact h6, h7.keep kt (nols_code nol_dR Rs)⟩, h8, h9, h10⟩
theorem PrAt.setA {K : PySem.W.Frag} {C : Addr} {H : Hp} {p tl al rl : Addr} {T : List Tm} {As As' : List At} {Rs : List (List Int)} {us : List V} (h : PrAt K C H p tl al rl T As Rs) (hs : HasL K (upd H al (.lst us)) (As'.map dA) us) : PrAt K C (upd H al (.lst us)) p tl al rl T As' Rs := by
  obtain ⟨⟨dx, h1⟩, ⟨xs, h2, h3⟩, ⟨ys, h4, h5⟩, ⟨ws, h6, h7⟩, h8, h9, h10⟩ := h
  have kt : KeepT H (upd H al (.lst us)) := KeepT.lst h4
  exact ⟨⟨dx, by rw [upd_ne (ne_of h1 h4 (fun e => by cases e))]; exact h1⟩, ⟨xs, by rw [upd_ne h8.symm]; exact h2, h3.keep kt (nols_dTs T)⟩, ⟨us, upd_same, hs⟩, ⟨ws, by rw [upd_ne h10]; exact h6, h7.keep kt (nols_code nol_dR Rs)⟩, h8, h9, h10⟩
theorem PrAt.setR {K : PySem.W.Frag} {C : Addr} {H : Hp} {p tl al rl : Addr} {T : List Tm} {As : List At} {Rs Rs' : List (List Int)} {us : List V} (h : PrAt K C H p tl al rl T As Rs) (hs : HasL K (upd H rl (.lst us)) (Rs'.map dR) us) : PrAt K C (upd H rl (.lst us)) p tl al rl T As Rs' := by
  obtain ⟨⟨dx, h1⟩, ⟨xs, h2, h3⟩, ⟨ys, h4, h5⟩, ⟨ws, h6, h7⟩, h8, h9, h10⟩ := h
  have kt : KeepT H (upd H rl (.lst us)) := KeepT.lst h6
  exact ⟨⟨dx, by rw [upd_ne (ne_of h1 h6 (fun e => by cases e))]; exact h1⟩, ⟨xs, by rw [upd_ne h9.symm]; exact h2, h3.keep kt (nols_dTs T)⟩, ⟨ys, by rw [upd_ne h10.symm]; exact h4, h5.keep kt (nols_code nol_dA As)⟩, ⟨us, upd_same, hs⟩, h8, h9, h10⟩
def SqI (K : PySem.W.Frag) (H : Hp) (q : Addr) (ps : List Int) : Prop := SqL K H q (ps.map V.int) ∨ SqT K H q (ps.map V.int)
theorem SqI.same {K : PySem.W.Frag} {H H' : Hp} {q : Addr} {ps : List Int} (h : SqI K H q ps) (s : Same H H') : SqI K H' q ps := h.elim (fun z => .inl (s.seq z)) fun z => .inr ((KeepT.of_same s).sq z)
/-- the signs of a text are such as can be shown -/
def Low (z : Str) : Prop := z.length ≤ 100 ∧ ∀ c ∈ z.cps.toList, c < 1000
theorem Low.repr {z : Str} (h : Low z) : (reprText z).length ≤ 1002 := by
  have := StrLaws.reprText_len z fun c hc => Nat.lt_of_lt_of_le (h.2 c hc) (by decide)
  have := h.1
  omega

/-! ### promises -/
def spIsWord : Sp := fun vs H Q _ => ∃ z : Str, vs = [.str z] ∧ z.length ≤ 1000 ∧ ∀ H', Same H H' → Q (.bl (wordB z)) H'
def spIsName : Sp := fun vs H Q _ => ∃ z : Str, vs = [.str z] ∧ z.length ≤ 1000 ∧ ∀ H', Same H H' → Q (.bl (nameB z)) H'
def spCell (K : PySem.W.Frag) : Sp := fun vs H Q _ => ∃ (a : Addr) (ns : List Int) (k : Int), vs = [.ref a, .int k] ∧ SqL K H a (ns.map V.int) ∧ ns.length ≤ 63 ∧ 0 ≤ k ∧ ∀ i : Int, Q (.int i) H
def spAskName (CN : Addr) : Sp := fun vs H Q E => ∃ z : Str, vs = [.str z] ∧ Low z ∧ if nameB z = true then ∀ H', Same H H' → Q .non H' else ∀ H', Same H H' → E (.ref CN) none H'
def spPlace (K : PySem.W.Frag) (CM : Addr) : Sp := fun vs H Q E => ∃ (a tl : Addr) (m : Int) (xs : List V) (ds : List Dt) (d : Dt), vs = [.ref a, .ref tl, .int m] ∧ Has K H d (.ref a) ∧ H tl = some (.lst xs) ∧ HasL K H ds xs ∧ deps ds ≤ 50 ∧ ds.length ≤ 1000 ∧ 0 ≤ m ∧ m ≤ 1000 ∧
  if (ds.any fun e => peq e d) = true then ∀ H', Same H H' → Q (.int ((ds.findIdx fun e => peq e d) : Nat)) H' else if m ≤ (ds.length : Int) then ∀ H', Same H H' → E (.ref CM) none H' else Q (.int (ds.length : Nat)) (upd H tl (.lst (xs ++ [.ref a])))
def spInit (C : Addr) : Sp := fun vs H Q _ => ∃ (p dx : Addr), vs = [.ref p] ∧ H p = some (.ins C dx []) ∧ ∀ (tl al rl : Addr) (H' : Hp), H tl = none → H al = none → H rl = none → al ≠ tl → rl ≠ tl → rl ≠ al → H' p = some (.ins C dx (flds tl al rl)) → H' tl = some (.lst []) → H' al = some (.lst []) → H' rl = some (.lst []) →
  (∀ b o, H b = some o → b ≠ p → H' b = some o) → Q .non H'
def spAskTerm (K : PySem.W.Frag) (C CT : Addr) : Sp := fun vs H Q E => ∃ (p tl al rl : Addr) (T : List Tm) (As : List At) (Rs : List (List Int)) (n : Int), vs = [.ref p, .int n] ∧ PrAt K C H p tl al rl T As Rs ∧ -1000 ≤ n ∧ n ≤ 1000 ∧
  if n < 0 ∨ (T.length : Int) ≤ n then ∀ H', Same H H' → E (.ref CT) none H' else Q .non H
def noPart (m : Nat) (n : Int) : Bool := decide (n = 0) || decide ((m : Int) < n) || decide (n < -(m : Int))
def spAskPart (K : PySem.W.Frag) (C CP : Addr) : Sp := fun vs H Q E => ∃ (p tl al rl : Addr) (T : List Tm) (As : List At) (Rs : List (List Int)) (n : Int), vs = [.ref p, .int n] ∧ PrAt K C H p tl al rl T As Rs ∧ -1000 ≤ n ∧ n ≤ 1000 ∧
  if noPart As.length n = true then ∀ H', Same H H' → E (.ref CP) none H' else Q .non H
theorem same_new {H : Hp} {p : Addr} (h : H p = none) (o : HO) : Same H (upd H p o) := fun b u q => by rw [upd_ne (ne_of_none q h)]; exact q

abbrev bmV : List Value := [.type "ValueError", .type "Exception", .type "BaseException", .type "object"]
structure Txt (K : PySem.W.Frag) (mg : Str → Option Value) (aK C CN CT CP CM : Addr) : Prop where
  small : ∃ t, mg "SMALL_LETTERS" = some (.str abc t)
  longest : ∃ t, mg "LONGEST_NAME" = some (.int 8 t)
  parts : ∃ t, mg "MOST_TERM_PARTS" = some (.int 3 t)
  terms : ∃ t, mg "MOST_TERMS" = some (.int 60 t)
  atoms : ∃ t, mg "MOST_ATOMS" = some (.int 40 t)
  rparts : ∃ t, mg "MOST_ROW_PARTS" = some (.int 20 t)
  rows : ∃ t, mg "MOST_ROWS" = some (.int 200 t)
  kept : mg "KEPT_WORDS" = some (.ref aK)
  tup : ∀ H, SqT K H aK keptV
  len : mg "len" = none
  all : mg "all" = none
  range : mg "range" = none
  isi : mg "isinstance" = none
  bool : mg "bool" = none
  tuple : mg "tuple" = none
  abs : mg "abs" = none
  bname : mg "BadName" = some (.ref CN)
  bterm : mg "BadTerm" = some (.ref CT)
  bpart : mg "BadPart" = some (.ref CP)
  bmany : mg "TooMany" = some (.ref CM)
  xname : PySem.W.excIn K CN bmV "ValueError.__new__" = true
  xterm : PySem.W.excIn K CT bmV "ValueError.__new__" = true
  xpart : PySem.W.excIn K CP bmV "ValueError.__new__" = true
  xmany : PySem.W.excIn K CM bmV "ValueError.__new__" = true
  cl : Cls K C
  nT : NoAttr K C "terms"
  nA : NoAttr K C "atoms"
  nR : NoAttr K C "rows"

section
variable {P : Program} {w : World} {K : PySem.W.Frag} {mg : Str → Option Value} {base : Heap} {aK C CN CT CP CM : Addr}
/-- a def out of which exceptions may go -/
theorem Fun.okX {x qual : Str} {st : Stmt} {f : Addr} {fd : FuncData} {N ps : List Str} {k : Nat} {sp : Sp} (F : Fun K x qual st f fd) (S : FnScope N ps (defScope st)) (len : ∀ vs H Q E, sp vs H Q E → vs.length = ps.length)
    (hbody : ∀ (cdv : Value) (A : Around) (outer : List Env) (s : Shared) (H : Hp) (vs : List V) (Q : VK) (E : XK), Room k (A.deeper (PyProof.Rows.envOfC qual (defScope st) s.heap.objs.size f cdv)) → sp vs H Q E →
      ∃ t, PSs (cxOf (CX1 P w) P w K mg base N qual (defScope st) f cdv A outer s H E) (defBody st) t ∧ t { nx := fun _ H' => Q .non H', rt := Q } (start N vs) H) : FnOk P w K mg base (CX1 P w) (k + 1) f fd ps sp := by
  obtain ⟨oc, od, kV, doc, pm, an, cdv, ct, osl, rfl, lk, hcd⟩ := F.ex
  exact fn_of lk hcd S len fun A outer s H vs Q E hr hsp => hbody cdv A outer s H vs Q E hr hsp
theorem xe1 {N : List Str} {qual : Str} {scope : Scope} {f : Addr} {cd : Value} {A : Around} {outer : List Env} {s : Shared} {H : Hp} {E : XK} : Xe1 (cxOf (CX1 P w) P w K mg base N qual scope f cd A outer s H E) E := ⟨rfl, rfl, rfl, rfl⟩
theorem hu64 {k : Nat} {A : Around} (hr : Room k A) : A.units + 64 < cLine := hr.units
theorem scC : FnScope ["_law_script", "_law_k"] ["_law_script", "_law_k"] (defScope sCell) := ⟨rfl, rfl, rfl, by decide +kernel, rfl, by decide +kernel, by decide +kernel⟩
theorem ok_cell {f : Addr} {fd : FuncData} (F : Fun K "_law_cell_at" "_law_cell_at" sCell f fd) (T : Txt K mg aK C CN CT CP CM) : FnOk P w K mg base CX0 1 f fd ["_law_script", "_law_k"] (spCell K) := by
  refine F.ok scC (fun vs H Q E h => ?_) (fun cdv A outer s H vs Q E hr h => ?_)
  · obtain ⟨a, ns, k, rfl, _⟩ := h
    rfl
  obtain ⟨a, ns, k, rfl, hS, h63, h0, q⟩ := h
  refine ⟨_, pss_cons (ps_if (pt_cmpR op_lt (pv 1) (pe_callB call_len_seq rfl T.len PySem.boot_len (pa_cons (pv 0) pa_nil)) (nomark _)) (pss_one (ps_ret (pe_ix ix_list (pv 0) (pv 1) (fun _ _ => rfl)))) pss_nil) (pss_one (ps_ret pe_int)), ?_⟩
  refine ⟨_, rfl, _, rfl, a, _, rfl, .inl hS, _, _, rfl, rfl, _, rfl, ?_⟩
  refine ite2 (fun c => ?_) (fun c => ?_)
  · have c' : k < (((ns.map V.int).length : Nat) : Int) := of_decide_eq_true c
    rw [List.length_map] at c'
    have hk : k.toNat < ns.length := by omega
    have ek : k = ((k.toNat : Nat) : Int) := by omega
    have hat : atI (ns.map V.int) ((k.toNat : Nat) : Int) = some (.int ns[k.toNat]) := atI_nat (by rw [List.getElem?_map, List.getElem?_eq_getElem hk] <;> rfl)
    rw [← ek] at hat
    exact ⟨_, rfl, _, rfl, a, _, _, _, rfl, rfl, hS, hat, q _⟩
  · exact q 0

theorem scIW : FnScope ["text"] ["text"] (defScope sIsWord) := ⟨rfl, rfl, rfl, by decide +kernel, rfl, by decide +kernel, by decide +kernel⟩
theorem ok_isword {f : Addr} {fd : FuncData} (F : Fun K "is_word" "is_word" sIsWord f fd) (T : Txt K mg aK C CN CT CP CM) : FnOk P w K mg base CX0 1 f fd ["text"] spIsWord := by
  obtain ⟨t1, e1⟩ := T.small
  refine F.ok scIW (fun vs H Q E h => ?_) (fun cdv A outer s H vs Q E hr h => ?_)
  · obtain ⟨z, rfl, _⟩ := h
    rfl
  obtain ⟨z, rfl, hz, q⟩ := h
  refine ⟨_, pss_one (ps_ret (pe_and (pe_cmpR op_gt (pe_callB call_len_str rfl T.len PySem.boot_len (pa_cons (pv 0) pa_nil)) pe_int (nomark _))
    (pe_one (pe_callB (call_all_bools rfl) rfl T.all PyProof.Rows.Boot.all (pa_cons
      (pe_lc (N' := ["letter"]) (ix := []) rfl rfl (by decide +kernel) (by decide +kernel) rfl (fun _ => ⟨[], clo_none (by decide +kernel) (by decide +kernel)⟩) (by decide +kernel) rfl rfl (fun j i h => by simp at h)
        (pi_str (pv 0)) (fun cl fp s₃ H₃ => pe_cmpR op_in_str (pv 0) (pe_glob (v := .str abc) rfl e1 ⟨_, rfl⟩) rfl)) pa_nil))))), ?_⟩
  refine ⟨_, rfl, z, rfl, sz _ hz, _, _, rfl, rfl, _, rfl, ?_⟩
  refine ite2 (fun c => ?_) (fun c => ?_)
  · have c' : (0 : Int) < (z.length : Int) := of_decide_eq_true c
    refine ⟨_, rfl, z, rfl, fun D hD => ⟨fun i m ys H' => m = z.length - i ∧ i ≤ z.length ∧ ys = ((lets z).take i).map V.bl ∧ H' = upd H D (.lst ys), ⟨z.length, rfl, Nat.zero_le _, rfl, rfl⟩, ?_⟩⟩
    rintro i m ys H' ⟨rfl, hi, rfl, rfl⟩
    refine ⟨upd_same, ?_⟩
    by_cases hlt : i < z.length
    · refine .inr ⟨hlt, fun x H'' y => ?_⟩
      obtain ⟨rfl, ch, hch, rfl⟩ := y
      have et := take_one hch
      refine ⟨_, rfl, _, _, rfl, rfl, upd_same, ?_, z.length - (i + 1), by omega, rfl, hlt, ?_, upd_upd⟩
      · rw [List.length_map, List.length_take, lets_len]
        exact Nat.lt_of_le_of_lt (Nat.le_trans (Nat.min_le_right _ _) hz) (by decide)
      · rw [et, List.map_append]
        rfl
    · have hi' : i = z.length := by omega
      subst hi'
      refine .inl ⟨Nat.le_refl _, D, lets z, rfl, SqL.of (by rw [upd_same, List.take_of_length_le (by rw [lets_len]; exact Nat.le_refl _)]), ?_⟩
      have := q _ (same_new hD (.lst (((lets z).take z.length).map V.bl)))
      unfold wordB at this
      rw [c, Bool.true_and] at this
      exact this
  · have := q H (Same.refl H)
    unfold wordB at this
    rw [Bool.eq_false_iff.mpr c, Bool.false_and] at this
    exact this

theorem scIN : FnScope ["word"] ["word"] (defScope sIsName) := ⟨rfl, rfl, rfl, by decide +kernel, rfl, by decide +kernel, by decide +kernel⟩
theorem ok_isname {f g : Addr} {fd gd : FuncData} (F : Fun K "is_name" "is_name" sIsName f fd) (T : Txt K mg aK C CN CT CP CM) (G : FnOk P w K mg base CX0 1 g gd ["text"] spIsWord) (bG : Binds K gd ["text"] []) (kG : PySem.W.keepIn K (.ref g) = true) (mG : mg "is_word" = some (.ref g)) :
    FnOk P w K mg base CX0 2 f fd ["word"] spIsName := by
  obtain ⟨t2, e2⟩ := T.longest
  refine F.ok scIN (fun vs H Q E h => ?_) (fun cdv A outer s H vs Q E hr h => ?_)
  · obtain ⟨z, rfl, _⟩ := h
    rfl
  obtain ⟨z, rfl, hz, q⟩ := h
  refine ⟨_, pss_one (ps_ret (pe_and (pe_call G hr rfl mG kG bG .nil pass0 (pa_cons (pv 0) pa_nil)) (pe_and (pe_cmpR op_le (pe_callB call_len_str rfl T.len PySem.boot_len (pa_cons (pv 0) pa_nil)) (pe_glob (v := .int 8) rfl e2 ⟨_, rfl⟩) (nomark _))
    (pe_one (pe_cmpR op_notIn_seq (pv 0) (pe_glob (v := .ref aK) rfl T.kept rfl) rfl))))), ?_⟩
  refine ⟨_, rfl, z, rfl, hz, fun H1 s1 => ⟨_, rfl, ?_⟩⟩
  refine ite2 (fun c => ?_) (fun c => ?_)
  · refine ⟨_, rfl, z, rfl, sz _ hz, _, _, rfl, rfl, _, rfl, ?_⟩
    refine ite2 (fun c2 => ?_) (fun c2 => ?_)
    · refine ⟨_, rfl, aK, keptV, rfl, .inr (T.tup H1), rfl, keptV_flat, ?_⟩
      have := q H1 s1
      unfold nameB at this
      rw [c, c2, Bool.true_and, Bool.true_and] at this
      exact this
    · have := q H1 s1
      unfold nameB at this
      rw [c, Bool.eq_false_iff.mpr c2, Bool.true_and, Bool.false_and] at this
      exact this
  · have := q H1 s1
    unfold nameB at this
    rw [Bool.eq_false_iff.mpr c, Bool.false_and] at this
    exact this


theorem scAN : FnScope ["word"] ["word"] (defScope sAskName) := ⟨rfl, rfl, rfl, by decide +kernel, rfl, by decide +kernel, by decide +kernel⟩
theorem ok_askname {f g : Addr} {fd gd : FuncData} (F : Fun K "ask_name" "ask_name" sAskName f fd) (T : Txt K mg aK C CN CT CP CM) (G : FnOk P w K mg base CX0 2 g gd ["word"] spIsName) (bG : Binds K gd ["word"] []) (kG : PySem.W.keepIn K (.ref g) = true) (mG : mg "is_name" = some (.ref g)) :
    FnOk P w K mg base (CX1 P w) 3 f fd ["word"] (spAskName CN) := by
  refine Fun.okX F scAN (fun vs H Q E h => ?_) (fun cdv A outer s H vs Q E hr h => ?_)
  · obtain ⟨z, rfl, _⟩ := h
    rfl
  obtain ⟨z, rfl, lo, h⟩ := h
  refine ⟨_, pss_one (ps_if (pt_not (pt_val (pe_call G hr rfl mG kG bG .nil pass0 (pa_cons (pv 0) pa_nil))))
    (pss_one (ps_raise (C := CN) xe1 rfl rfl T.bname PySem.F.excBase_ValueError T.xname (pa_cons (pe_joined (pj_cons (pe_fvr (pv 0)) (pj_cons pe_str pj_nil))) pa_nil))) pss_nil), ?_⟩
  refine ⟨_, rfl, z, rfl, Nat.le_trans lo.1 (by decide), fun H1 s1 => ⟨_, rfl, ?_⟩⟩
  have hre := lo.repr
  cases e : nameB z with
  | true =>
    rw [e] at h
    exact iteF (h H1 s1)
  | false =>
    rw [e, if_neg (by decide)] at h
    refine iteT ?_
    refine ⟨_, rfl, z, rfl, Nat.le_trans hre (by decide), _, rfl, ?_, _, rfl, ?_, ?_, (by show 1 ≤ sizeLine; decide), h H1 s1⟩
    · rw [app_len]
      exact Nat.le_trans (Nat.add_le_add_left hre _) (by decide +kernel)
    · rw [app_len, app_len]
      exact Nat.le_trans (Nat.add_le_add_right (Nat.add_le_add_left hre _) _) (by decide +kernel)
    · rw [app_len, app_len]
      exact Nat.le_trans (Nat.add_le_add_right (Nat.add_le_add_left hre _) _) (by decide +kernel)

theorem scPl : FnScope ["thing", "things", "most"] ["thing", "things", "most"] (defScope sPlace) := ⟨rfl, rfl, rfl, by decide +kernel, rfl, by decide +kernel, by decide +kernel⟩
theorem num_len {n : Int} (h1 : -1000 ≤ n) (h2 : n ≤ 1000) : n.natAbs.log2 < 1920 ∧ ((toString n : String) : Str).length ≤ 1002 := by
  have hb : n.natAbs ≤ 1000 := by omega
  refine ⟨?_, ?_⟩
  · by_cases h0 : n.natAbs = 0
    · rw [h0]
      decide
    · have := (Nat.log2_lt h0 (k := 1920)).mpr (Nat.lt_of_le_of_lt hb (by decide +kernel))
      exact this
  · have := PyProof.Rows.len_str_of_int n
    omega
theorem ok_place {f : Addr} {fd : FuncData} (F : Fun K "place_of" "place_of" sPlace f fd) (T : Txt K mg aK C CN CT CP CM) : FnOk P w K mg base (CX1 P w) 1 f fd ["thing", "things", "most"] (spPlace K CM) := by
  refine Fun.okX F scPl (fun vs H Q E h => ?_) (fun cdv A outer s H vs Q E hr h => ?_)
  · obtain ⟨a, tl, m, xs, ds, d, rfl, _⟩ := h
    rfl
  obtain ⟨a, tl, m, xs, ds, d, rfl, ht, hl, hs, hd, hn, m0, m1, h⟩ := h
  have hu := hu64 hr
  have hlen : xs.length = ds.length := hs.length.symm
  obtain ⟨hlog, hsl⟩ := num_len (n := m) (by omega) m1
  refine ⟨_, pss_cons (ps_if (pt_cmpR (op_inD hu) (pv 0) (pv 1) rfl) (pss_one (ps_ret (pe_bm PySem.F.plainAttrs_list PySem.F.slot_list_index PySem.F.type_list_index (mt_indexD hu) (pv 1) (pa_cons (pv 0) pa_nil)))) pss_nil)
    (pss_cons (ps_if (pt_cmpR op_ge (pe_callB call_len_seq rfl T.len PySem.boot_len (pa_cons (pv 1) pa_nil)) (pv 2) (nomark _))
      (pss_one (ps_raise (C := CM) xe1 rfl rfl T.bmany PySem.F.excBase_ValueError T.xmany (pa_cons (pe_joined (pj_cons pe_str (pj_cons (pe_fv (pv 2)) (pj_cons pe_str pj_nil)))) pa_nil))) pss_nil)
    (pss_cons (ps_expr (pe_bm PySem.F.plainAttrs_list PySem.F.slot_list_append PySem.F.type_list_append mt_append (pv 1) (pa_cons (pv 0) pa_nil)))
    (pss_one (ps_ret (pe_op op_sub (pe_callB call_len_seq rfl T.len PySem.boot_len (pa_cons (pv 1) pa_nil)) pe_int))))), ?_⟩
  refine ⟨_, rfl, _, rfl, tl, xs, ds, d, rfl, .inl (SqL.of hl), hs, ht, Nat.le_trans hd (by decide), _, rfl, ?_⟩
  refine ite2 (fun c => ?_) (fun c => ?_)
  · have c' : (ds.any fun e => peq e d) = true := c
    rw [if_pos c'] at h
    have hlt : (ds.findIdx fun e => peq e d) < ds.length := List.findIdx_lt_length_of_exists (by simpa using c')
    refine ⟨_, rfl, .inl ⟨rfl, _, SqL.of hl⟩, _, rfl, tl, xs, ds, _, d, ds.findIdx (fun e => peq e d), rfl, rfl, hl, hs, ht, Nat.le_trans hd (by decide), ⟨_, List.getElem?_eq_getElem hlt, List.findIdx_getElem (w := hlt)⟩, fun j dj h1 h2 => ?_, h H (Same.refl H)⟩
    obtain ⟨h3, h4⟩ := List.getElem?_eq_some_iff.mp h2
    have z := List.not_of_lt_findIdx (p := fun e => peq e d) h1
    rw [h4] at z
    cases e : peq dj d with
    | false => rfl
    | true => rw [e] at z; cases z
  · have c' : ¬ (ds.any fun e => peq e d) = true := c
    rw [if_neg c'] at h
    refine ⟨_, rfl, tl, xs, rfl, .inl (SqL.of hl), _, rfl, _, _, rfl, rfl, _, rfl, ite2 (fun c2 => ?_) (fun c2 => ?_)⟩
    · have c3 : m ≤ ((xs.length : Nat) : Int) := of_decide_eq_true c2
      rw [hlen] at c3
      rw [if_pos c3] at h
      refine ⟨_, rfl, by decide +kernel, _, rfl, .inr ⟨m, rfl, hlog, _, rfl, ?_, _, rfl, ?_, ?_, (by show 1 ≤ sizeLine; decide), h H (Same.refl H)⟩⟩
      all_goals
        simp only [app_len]
        first
          | exact Nat.le_trans (Nat.add_le_add_left hsl _) (by decide +kernel)
          | exact Nat.le_trans (Nat.add_le_add_right (Nat.add_le_add_left hsl _) _) (by decide +kernel)
    · have c3 : ¬ m ≤ ((xs.length : Nat) : Int) := fun z => c2 (decide_eq_true z)
      rw [hlen] at c3
      rw [if_neg c3] at h
      refine ⟨_, rfl, .inl ⟨rfl, _, SqL.of hl⟩, _, rfl, tl, xs, _, rfl, rfl, hl, Nat.lt_of_le_of_lt (by rw [hlen]; exact hn) (by decide), ?_⟩
      refine ⟨_, rfl, tl, _, rfl, .inl (SqL.of upd_same), _, _, rfl, rfl, ?_⟩
      have e : (((xs ++ [V.ref a]).length : Nat) : Int) - 1 = (ds.length : Nat) := by rw [List.length_append, hlen]; simp
      show Q (.int ((((xs ++ [V.ref a]).length : Nat) : Int) - 1)) _
      rw [e]
      exact h

theorem scI : FnScope ["self"] ["self"] (defScope sInit) := ⟨rfl, rfl, rfl, by decide +kernel, rfl, by decide +kernel, by decide +kernel⟩
theorem ok_init {f : Addr} {fd : FuncData} (F : Fun K "__init__" "Problem.__init__" sInit f fd) (T : Txt K mg aK C CN CT CP CM) : FnOk P w K mg base CX0 1 f fd ["self"] (spInit C) := by
  refine F.ok scI (fun vs H Q E h => ?_) (fun cdv A outer s H vs Q E hr h => ?_)
  · obtain ⟨p, dx, rfl, _⟩ := h
    rfl
  obtain ⟨p, dx, rfl, hp, k⟩ := h
  refine ⟨_, pss_cons (ps_fld (pv 0) (pe_lst pa_nil) rfl) (pss_cons (ps_fld (pv 0) (pe_lst pa_nil) rfl) (pss_one (ps_fld (pv 0) (pe_lst pa_nil) rfl))), ?_⟩
  refine ⟨(by show 0 ≤ sizeLine; decide), fun tl ht => ?_⟩
  have n1 : p ≠ tl := ne_of_none hp ht
  refine ⟨_, rfl, p, C, dx, [], rfl, (by rw [upd_ne n1]; exact hp), T.cl, T.nT, (by show 0 < 1000; decide), ?_⟩
  refine ⟨(by show 0 ≤ sizeLine; decide), fun al ha => ?_⟩
  have a1 : al ≠ p := fun z => by rw [z, upd_same] at ha; cases ha
  have a2 : al ≠ tl := fun z => by rw [z, upd_ne n1.symm, upd_same] at ha; cases ha
  have a0 : H al = none := by rw [upd_ne a1, upd_ne a2] at ha; exact ha
  refine ⟨_, rfl, p, C, dx, _, rfl, (by rw [upd_ne a1.symm, upd_same]), T.cl, T.nA, (by show 1 < 1000; decide), ?_⟩
  refine ⟨(by show 0 ≤ sizeLine; decide), fun rl hrl => ?_⟩
  have r1 : rl ≠ p := fun z => by rw [z, upd_same] at hrl; cases hrl
  have r2 : rl ≠ al := fun z => by rw [z, upd_ne a1, upd_same] at hrl; cases hrl
  have r3 : rl ≠ tl := fun z => by rw [z, upd_ne n1.symm, upd_ne a2.symm, upd_ne n1.symm, upd_same] at hrl; cases hrl
  have r0 : H rl = none := by rw [upd_ne r1, upd_ne r2, upd_ne r1, upd_ne r3] at hrl; exact hrl
  refine ⟨_, rfl, p, C, dx, _, rfl, (by rw [upd_ne r1.symm, upd_same]), T.cl, T.nR, (by show 2 < 1000; decide), ?_⟩
  refine k tl al rl _ ht a0 r0 a2 r3 r2 upd_same ?_ ?_ ?_ fun b o e hb => ?_
  · rw [upd_ne n1.symm, upd_ne r3.symm, upd_ne n1.symm, upd_ne a2.symm, upd_ne n1.symm, upd_same]
  · rw [upd_ne a1, upd_ne r2.symm, upd_ne a1, upd_same]
  · rw [upd_ne r1, upd_same]
  · rw [upd_ne hb, upd_ne (ne_of_none e r0), upd_ne hb, upd_ne (ne_of_none e a0), upd_ne hb, upd_ne (ne_of_none e ht)]
    exact e

theorem scAT : FnScope ["self", "number"] ["self", "number"] (defScope sAskTerm) := ⟨rfl, rfl, rfl, by decide +kernel, rfl, by decide +kernel, by decide +kernel⟩
theorem ok_askterm {f : Addr} {fd : FuncData} (F : Fun K "ask_term" "Problem.ask_term" sAskTerm f fd) (T : Txt K mg aK C CN CT CP CM) : FnOk P w K mg base (CX1 P w) 1 f fd ["self", "number"] (spAskTerm K C CT) := by
  refine Fun.okX F scAT (fun vs H Q E h => ?_) (fun cdv A outer s H vs Q E hr h => ?_)
  · obtain ⟨p, tl, al, rl, T, As, Rs, n, rfl, _⟩ := h
    rfl
  obtain ⟨p, tl, al, rl, T', As, Rs, n, rfl, S, h1, h2, h⟩ := h
  obtain ⟨⟨dx, ho⟩, ⟨xs, hl, hs⟩, _⟩ := id S
  have hlen : xs.length = T'.length := by rw [← hs.length, List.length_map]
  obtain ⟨hlog, hsl⟩ := num_len h1 h2
  refine ⟨_, pss_one (ps_if (PW.pt (pw_or (pt_cmpR op_lt (pv 1) pe_int (nomark _)) (pw_or1 (pt_cmpR op_ge (pv 1) (pe_callB call_len_seq rfl T.len PySem.boot_len (pa_cons (pe_fld (pv 0) rfl) pa_nil)) (nomark _)))))
    (pss_one (ps_raise (C := CT) xe1 rfl rfl T.bterm PySem.F.excBase_ValueError T.xterm (pa_cons (pe_joined (pj_cons (pe_fv (pv 1)) (pj_cons pe_str pj_nil))) pa_nil))) pss_nil), ?_⟩
  refine ⟨_, rfl, _, _, rfl, rfl, _, rfl, ite2 (fun c => iteT ?_) (fun c => ⟨_, rfl, _, rfl, p, C, dx, _, _, rfl, ho, T.cl, T.nT, flds_terms _ _ _, tl, xs, rfl, .inl (SqL.of hl), _, _, rfl, rfl, _, rfl, ite2 (fun c2 => ?_) (fun c2 => ?_)⟩)⟩
  rotate_left 2
  · have c' : ¬ n < 0 := fun z => c (decide_eq_true z)
    have c2' : ¬ ((xs.length : Nat) : Int) ≤ n := fun z => c2 (decide_eq_true z)
    rw [hlen] at c2'
    rw [if_neg (by omega)] at h
    exact h
  all_goals
    have hcond : n < 0 ∨ (T'.length : Int) ≤ n := by
      first
        | exact .inl (of_decide_eq_true c)
        | exact .inr (by have z : ((xs.length : Nat) : Int) ≤ n := of_decide_eq_true c2; rw [hlen] at z; exact z)
    rw [if_pos hcond] at h
    refine ⟨_, rfl, .inr ⟨n, rfl, hlog, _, rfl, ?_, _, rfl, ?_, ?_, (by show 1 ≤ sizeLine; decide), h H (Same.refl H)⟩⟩
    · rw [app_len]
      exact Nat.le_trans (Nat.add_le_add_left hsl _) (by decide +kernel)
    · rw [app_len, app_len]
      exact Nat.le_trans (Nat.add_le_add_right (Nat.add_le_add_left hsl _) _) (by decide +kernel)
    · rw [app_len, app_len]
      exact Nat.le_trans (Nat.add_le_add_right (Nat.add_le_add_left hsl _) _) (by decide +kernel)

theorem scAP : FnScope ["self", "part"] ["self", "part"] (defScope sAskPart) := ⟨rfl, rfl, rfl, by decide +kernel, rfl, by decide +kernel, by decide +kernel⟩
theorem ok_askpart {f : Addr} {fd : FuncData} (F : Fun K "ask_part" "Problem.ask_part" sAskPart f fd) (T : Txt K mg aK C CN CT CP CM) : FnOk P w K mg base (CX1 P w) 1 f fd ["self", "part"] (spAskPart K C CP) := by
  refine Fun.okX F scAP (fun vs H Q E h => ?_) (fun cdv A outer s H vs Q E hr h => ?_)
  · obtain ⟨p, tl, al, rl, T, As, Rs, n, rfl, _⟩ := h
    rfl
  obtain ⟨p, tl, al, rl, T', As, Rs, n, rfl, S, h1, h2, h⟩ := h
  obtain ⟨⟨dx, ho⟩, _, ⟨xs, hl, hs⟩, _⟩ := id S
  have hlen : xs.length = As.length := by rw [← hs.length, List.length_map]
  obtain ⟨hlog, hsl⟩ := num_len h1 h2
  refine ⟨_, pss_one (ps_if (PW.pt (pw_or (pt_cmpR op_eq (pv 1) pe_int (nomark _)) (pw_or1 (pt_cmpR op_gt (pe_callB call_abs rfl T.abs PyProof.Rows.Boot.abs (pa_cons (pv 1) pa_nil)) (pe_callB call_len_seq rfl T.len PySem.boot_len (pa_cons (pe_fld (pv 0) rfl) pa_nil)) (nomark _)))))
    (pss_one (ps_raise (C := CP) xe1 rfl rfl T.bpart PySem.F.excBase_ValueError T.xpart (pa_cons (pe_joined (pj_cons (pe_fv (pv 1)) (pj_cons pe_str pj_nil))) pa_nil))) pss_nil), ?_⟩
  refine ⟨_, rfl, rfl, _, rfl, ite2 (fun c => iteT ?_) (fun c => ⟨_, rfl, n, rfl, _, rfl, p, C, dx, _, _, rfl, ho, T.cl, T.nA, flds_atoms _ _ _, al, xs, rfl, .inl (SqL.of hl), _, _, rfl, rfl, _, rfl, ite2 (fun c2 => ?_) (fun c2 => ?_)⟩)⟩
  rotate_left 2
  · have c' : ¬ n = 0 := fun z => c (decide_eq_true (by rw [z]))
    have c2' : ¬ ((xs.length : Nat) : Int) < (if n < 0 then -n else n) := fun z => c2 (decide_eq_true z)
    rw [hlen] at c2'
    have hb : noPart As.length n = false := by
      unfold noPart
      have a1 : ¬ ((As.length : Nat) : Int) < n := by split at c2' <;> omega
      have a2 : ¬ n < -((As.length : Nat) : Int) := by split at c2' <;> omega
      rw [decide_eq_false c', decide_eq_false a1, decide_eq_false a2]
      rfl
    rw [if_neg (by rw [hb]; decide)] at h
    exact h
  all_goals
    have hb : noPart As.length n = true := by
      unfold noPart
      first
        | (have c' : V.int n = V.int 0 := of_decide_eq_true c
           have c2' : n = 0 := by injection c'
           rw [decide_eq_true c2']; rfl)
        | (have z : ((xs.length : Nat) : Int) < (if n < 0 then -n else n) := of_decide_eq_true c2
           rw [hlen] at z
           split at z
           · rw [decide_eq_true (show n < -((As.length : Nat) : Int) by omega), Bool.or_true]
           · rw [decide_eq_true (show ((As.length : Nat) : Int) < n by omega), Bool.or_true, Bool.true_or])
    rw [if_pos hb] at h
    refine ⟨_, rfl, .inr ⟨n, rfl, hlog, _, rfl, ?_, _, rfl, ?_, ?_, (by show 1 ≤ sizeLine; decide), h H (Same.refl H)⟩⟩
    · rw [app_len]
      exact Nat.le_trans (Nat.add_le_add_left hsl _) (by decide +kernel)
    · rw [app_len, app_len]
      exact Nat.le_trans (Nat.add_le_add_right (Nat.add_le_add_left hsl _) _) (by decide +kernel)
    · rw [app_len, app_len]
      exact Nat.le_trans (Nat.add_le_add_right (Nat.add_le_add_left hsl _) _) (by decide +kernel)
end
end K04

/-! law k04, second part: the problem's own methods. Behind K04a. -/
namespace K04
open PySem L2
def Fr2 (H H' : Hp) (z y : Addr) : Prop := ∀ b o, H b = some o → b ≠ z → b ≠ y → H' b = some o
theorem Fr2.of1 {H H' : Hp} {z y : Addr} (f : Fr1 H H' z) : Fr2 H H' z y := fun b o e n _ => f b o e n
theorem Fr2.of_same {H H' : Hp} {z y : Addr} (s : Same H H') : Fr2 H H' z y := fun b o e _ _ => s b o e
theorem Fr2.trans {H H1 H2 : Hp} {z y : Addr} (a : Fr2 H H1 z y) (b : Fr2 H1 H2 z y) : Fr2 H H2 z y := fun c o e n m => b c o (a c o e n m) n m
def addP (As : List At) (z : Str) : Out × List At :=
  if nameB z = false then (.name, As) else if .plain z ∈ As then (.num (As.idxOf (.plain z) + 1), As) else if 40 ≤ As.length then (.many, As) else (.num (As.length + 1), As ++ [.plain z])
def addS (n : Nat) (As : List At) (a b : Int) : Out × List At :=
  if a < 0 ∨ (n : Int) ≤ a ∨ b < 0 ∨ (n : Int) ≤ b then (.term, As) else if .same b a ∈ As then (.num (As.idxOf (.same b a) + 1), As) else if .same a b ∈ As then (.num (As.idxOf (.same a b) + 1), As) else if 40 ≤ As.length then (.many, As) else (.num (As.length + 1), As ++ [.same a b])
def once : List Int → List Int → List Int
  | acc, [] => acc
  | acc, p :: ps => once (if p ∈ acc then acc else acc ++ [p]) ps
def addR (m : Nat) (Rs : List (List Int)) (ps : List Int) : Out × List (List Int) :=
  if ps.any (noPart m) = true then (.part, Rs) else if 20 < ps.length then (.many, Rs) else if 200 ≤ Rs.length then (.many, Rs) else (.num Rs.length, Rs ++ [once [] ps])
/-- what is told of a deed -/
def Told (K : PySem.W.Frag) (C CN CT CP CM : Addr) (H : Hp) (p tl al rl : Addr) (T : List Tm) (As : List At) (Rs : List (List Int)) (Q : VK) (E : XK) : Out → Prop
  | .num k => ∀ H', PrAt K C H' p tl al rl T As Rs → Fr2 H H' al rl → Q (.int (k : Nat)) H'
  | .name => ∀ H', Same H H' → E (.ref CN) none H'
  | .term => ∀ H', Same H H' → E (.ref CT) none H'
  | .part => ∀ H', Same H H' → E (.ref CP) none H'
  | .many => ∀ H', Same H H' → E (.ref CM) none H'
def spPlain (K : PySem.W.Frag) (C CN CT CP CM : Addr) : Sp := fun vs H Q E => ∃ (p tl al rl : Addr) (T : List Tm) (As : List At) (Rs : List (List Int)) (z : Str), vs = [.ref p, .str z] ∧ PrAt K C H p tl al rl T As Rs ∧ Low z ∧ As.length ≤ 1000 ∧
  Told K C CN CT CP CM H p tl al rl T (addP As z).2 Rs Q E (addP As z).1
def spSame (K : PySem.W.Frag) (C CN CT CP CM : Addr) : Sp := fun vs H Q E => ∃ (p tl al rl : Addr) (T : List Tm) (As : List At) (Rs : List (List Int)) (a b : Int), vs = [.ref p, .int a, .int b] ∧ PrAt K C H p tl al rl T As Rs ∧ (-1000 ≤ a ∧ a ≤ 1000) ∧ (-1000 ≤ b ∧ b ≤ 1000) ∧ As.length ≤ 1000 ∧
  Told K C CN CT CP CM H p tl al rl T (addS T.length As a b).2 Rs Q E (addS T.length As a b).1
def spRow (K : PySem.W.Frag) (C CN CT CP CM : Addr) : Sp := fun vs H Q E => ∃ (p tl al rl q : Addr) (T : List Tm) (As : List At) (Rs : List (List Int)) (ps : List Int), vs = [.ref p, .ref q] ∧ PrAt K C H p tl al rl T As Rs ∧ SqI K H q ps ∧ ps.length ≤ 1000 ∧ (∀ i ∈ ps, -1000 ≤ i ∧ i ≤ 1000) ∧ Rs.length ≤ 1000 ∧
  Told K C CN CT CP CM H p tl al rl T As (addR As.length Rs ps).2 Q E (addR As.length Rs ps).1
def spOnce (K : PySem.W.Frag) : Sp := fun vs H Q _ => ∃ (q : Addr) (ps : List Int), vs = [.ref q] ∧ SqI K H q ps ∧ ps.length ≤ 1000 ∧ ∀ (H' : Hp) (l : Addr), Same H H' → H' l = some (.tup ((once [] ps).map V.int)) → Q (.ref l) H'
theorem peq_int (a b : Int) : peq (.int a) (.int b) = decide (a = b) := by
  simp only [peq]
  rfl
theorem q1 {Q : VK} {n : Nat} {H : Hp} (h : Q (.int ((n + 1 : Nat) : Int)) H) : Q (.int (((n : Nat) : Int) + 1)) H := h
theorem once_len : ∀ (ps acc : List Int), (once acc ps).length ≤ acc.length + ps.length
  | [], acc => by simp [once]
  | p :: ps, acc => by
    unfold once
    have h := once_len ps (if p ∈ acc then acc else acc ++ [p])
    split at h <;> simp only [List.length_append, List.length_cons, List.length_singleton, List.length_nil] at h ⊢ <;> split <;> simp_all <;> omega
theorem once_take {ps : List Int} {i : Nat} {k : Int} : ∀ {acc : List Int}, ps[i]? = some k → once acc (ps.take (i + 1)) = if k ∈ once acc (ps.take i) then once acc (ps.take i) else once acc (ps.take i) ++ [k] := by
  induction ps generalizing i with
  | nil => intro acc h; simp at h
  | cons p ps ih =>
    intro acc h
    cases i with
    | zero =>
      simp at h
      subst h
      simp [once]
    | succ i =>
      simp only [List.take_succ_cons, once]
      exact ih (by simpa using h)
section
variable {P : Program} {w : World} {K : PySem.W.Frag} {mg : Str → Option Value} {base : Heap} {aK C CN CT CP CM : Addr}
theorem place_A {H : Hp} {p tl al rl a : Addr} {T : List Tm} {As : List At} {Rs : List (List Int)} {t : At} {Q : VK} {E : XK} (S : PrAt K C H p tl al rl T As Rs) (ha : Has K H (dA t) (.ref a)) (len : As.length ≤ 1000)
    (k1 : t ∈ As → ∀ H', Same H H' → Q (.int (As.idxOf t : Nat)) H') (k2 : t ∉ As → 40 ≤ As.length → ∀ H', Same H H' → E (.ref CM) none H')
    (k3 : t ∉ As → ¬ 40 ≤ As.length → ∀ H', PrAt K C H' p tl al rl T (As ++ [t]) Rs → Fr1 H H' al → Q (.int (As.length : Nat)) H') : spPlace K CM [.ref a, .ref al, .int 40] H Q E := by
  obtain ⟨xs, hl, hs⟩ := id S.am
  refine ⟨a, al, 40, xs, As.map dA, dA t, rfl, ha, hl, hs, Nat.le_trans (deps_code (n := 1) (fun a => by rw [dep_dA]; exact Nat.le_refl _) As) (by decide), by rw [List.length_map]; exact len, by decide, by decide, ?_⟩
  rw [any_code iff_dA, idx_code iff_dA, List.length_map]
  by_cases hm : t ∈ As
  · rw [if_pos (decide_eq_true hm)]
    exact k1 hm
  · rw [if_neg (by rw [decide_eq_false hm]; decide)]
    by_cases h40 : 40 ≤ As.length
    · rw [if_pos (by omega)]
      exact k2 hm h40
    · rw [if_neg (by omega)]
      have kt : KeepT H (upd H al (.lst (xs ++ [.ref a]))) := KeepT.lst hl
      refine k3 hm h40 _ (S.setA ?_) fun b o e hb => by rw [upd_ne hb]; exact e
      rw [List.map_append]
      exact (hs.keep kt (nols_code nol_dA As)).append (HasL.one (ha.keep kt (nol_dA t)))
theorem scP : FnScope ["self", "name"] ["self", "name"] (defScope sPlain) := ⟨rfl, rfl, rfl, by decide +kernel, rfl, by decide +kernel, by decide +kernel⟩
theorem ok_plain {f fN fP : Addr} {fd dN dP : FuncData} (F : Fun K "add_plain" "Problem.add_plain" sPlain f fd) (T : Txt K mg aK C CN CT CP CM)
    (GN : FnOk P w K mg base (CX1 P w) 3 fN dN ["word"] (spAskName CN)) (bN : Binds K dN ["word"] []) (kN : PySem.W.keepIn K (.ref fN) = true) (mN : mg "ask_name" = some (.ref fN))
    (GP : FnOk P w K mg base (CX1 P w) 1 fP dP ["thing", "things", "most"] (spPlace K CM)) (bP : Binds K dP ["thing", "things", "most"] []) (kP : PySem.W.keepIn K (.ref fP) = true) (mP : mg "place_of" = some (.ref fP)) :
    FnOk P w K mg base (CX1 P w) 4 f fd ["self", "name"] (spPlain K C CN CT CP CM) := by
  obtain ⟨t40, e40⟩ := T.atoms
  refine Fun.okX F scP (fun vs H Q E h => ?_) (fun cdv A outer s H vs Q E hr h => ?_)
  · obtain ⟨p, tl, al, rl, T, As, Rs, z, rfl, _⟩ := h
    rfl
  obtain ⟨p, tl, al, rl, T', As, Rs, z, rfl, S, lo, len, h⟩ := h
  have hr1 : Room 1 _ := hr.mono (by decide)
  refine ⟨_, pss_cons (ps_expr (pe_call GN hr rfl mN kN bN .nil (passes1 xe1) (pa_cons (pv 1) pa_nil)))
    (pss_one (ps_ret (pe_op op_add (pe_call GP hr1 rfl mP kP bP .nil (passes1 xe1) (pa_cons (pe_tup (pa_cons pe_str (pa_cons (pv 1) pa_nil))) (pa_cons (pe_fld (pv 0) rfl) (pa_cons (pe_glob (v := .int 40) rfl e40 ⟨_, rfl⟩) pa_nil)))) pe_int))), ?_⟩
  refine ⟨_, rfl, z, rfl, lo, ?_⟩
  cases hg : nameB z with
  | false =>
    rw [if_neg (by decide)]
    have e : addP As z = (.name, As) := if_pos hg
    rw [e] at h
    exact h
  | true =>
  rw [if_pos rfl]
  intro H1 s1
  refine ⟨_, rfl, (by show 2 ≤ sizeLine; decide), fun a ha => ?_⟩
  have s2 : Same H1 (upd H1 a (.tup [.str "plain", .str z])) := same_new ha _
  have s12 := s1.trans s2
  have S2 := S.same s12
  obtain ⟨⟨dx, ho⟩, _⟩ := id S2
  have hd : Has K (upd H1 a (.tup [.str "plain", .str z])) (dA (.plain z)) (.ref a) := by
    simp only [dA, Has, HasL]
    exact ⟨a, _, rfl, SqT.of upd_same, _, _, rfl, rfl, _, _, rfl, rfl, rfl⟩
  refine ⟨_, rfl, p, C, dx, _, _, rfl, ho, T.cl, T.nA, flds_atoms _ _ _, ?_⟩
  refine place_A (CM := CM) (E := E) (Q := fun x H' => rI0 (fun i j => .int (i + j)) x (.int 1) H' Q) S2 hd len (fun hm H' s' => ?_) (fun hm h40 H' s' => ?_) (fun hm h40 H' S' fr => ?_)
  · have e : addP As z = (.num (As.idxOf (.plain z) + 1), As) := by unfold addP; rw [if_neg (by rw [hg]; decide), if_pos hm]
    rw [e] at h
    exact ⟨_, _, rfl, rfl, q1 <| h H' (S2.same s') (Fr2.of_same (s12.trans s'))⟩
  · have e : addP As z = (.many, As) := by unfold addP; rw [if_neg (by rw [hg]; decide), if_neg hm, if_pos h40]
    rw [e] at h
    exact h H' (s12.trans s')
  · have e : addP As z = (.num (As.length + 1), As ++ [.plain z]) := by unfold addP; rw [if_neg (by rw [hg]; decide), if_neg hm, if_neg h40]
    rw [e] at h
    exact ⟨_, _, rfl, rfl, q1 <| h H' S' ((Fr2.of_same s12).trans (Fr2.of1 fr))⟩
theorem scSm : FnScope ["self", "one", "other", "turned"] ["self", "one", "other"] (defScope sSame) := ⟨rfl, rfl, rfl, by decide +kernel, rfl, by decide +kernel, by decide +kernel⟩
theorem ok_same {f fT fP : Addr} {fd dT' dP : FuncData} (F : Fun K "add_same" "Problem.add_same" sSame f fd) (T : Txt K mg aK C CN CT CP CM)
    (GT : FnOk P w K mg base (CX1 P w) 1 fT dT' ["self", "number"] (spAskTerm K C CT)) (bT : Binds K dT' ["self", "number"] []) (mT : Meth K C "ask_term" fT)
    (GP : FnOk P w K mg base (CX1 P w) 1 fP dP ["thing", "things", "most"] (spPlace K CM)) (bP : Binds K dP ["thing", "things", "most"] []) (kP : PySem.W.keepIn K (.ref fP) = true) (mP : mg "place_of" = some (.ref fP)) :
    FnOk P w K mg base (CX1 P w) 2 f fd ["self", "one", "other"] (spSame K C CN CT CP CM) := by
  obtain ⟨t40, e40⟩ := T.atoms
  refine Fun.okX F scSm (fun vs H Q E h => ?_) (fun cdv A outer s H vs Q E hr h => ?_)
  · obtain ⟨p, tl, al, rl, T, As, Rs, a, b, rfl, _⟩ := h
    rfl
  obtain ⟨p, tl, al, rl, T', As, Rs, a, b, rfl, S, ⟨a1, a2⟩, ⟨b1, b2⟩, len, h⟩ := h
  have hu := hu64 hr
  refine ⟨_, pss_cons (ps_expr (pe_meth (pv 0) T.cl mT GT hr bT .nil (passes1 xe1) (pa_cons (pv 1) pa_nil)))
    (pss_cons (ps_expr (pe_meth (pv 0) T.cl mT GT hr bT .nil (passes1 xe1) (pa_cons (pv 2) pa_nil)))
    (pss_cons (ps_set (i := 3) scSm.nd rfl (Or.inl rfl) (pe_tup (pa_cons pe_str (pa_cons (pv 2) (pa_cons (pv 1) pa_nil)))))
    (pss_cons (ps_if (pt_cmpR (op_inD hu) (pv 3) (pe_fld (pv 0) rfl) rfl) (pss_one (ps_ret (pe_op op_add (pe_bm PySem.F.plainAttrs_list PySem.F.slot_list_index PySem.F.type_list_index (mt_indexD hu) (pe_fld (pv 0) rfl) (pa_cons (pv 3) pa_nil)) pe_int))) pss_nil)
    (pss_one (ps_ret (pe_op op_add (pe_call GP hr rfl mP kP bP .nil (passes1 xe1) (pa_cons (pe_tup (pa_cons pe_str (pa_cons (pv 1) (pa_cons (pv 2) pa_nil)))) (pa_cons (pe_fld (pv 0) rfl) (pa_cons (pe_glob (v := .int 40) rfl e40 ⟨_, rfl⟩) pa_nil)))) pe_int)))))), ?_⟩
  obtain ⟨⟨dx, ho⟩, _, ⟨xs, hl, hs⟩, _⟩ := id S
  have no := flds_no tl al rl (m := "ask_term") (by decide +kernel) (by decide +kernel) (by decide +kernel)
  refine ⟨_, rfl, p, dx, _, rfl, ho, no, _, rfl, p, tl, al, rl, T', As, Rs, a, rfl, S, a1, a2, ?_⟩
  by_cases ca : a < 0 ∨ (T'.length : Int) ≤ a
  · rw [if_pos ca]
    have e : addS T'.length As a b = (.term, As) := if_pos (ca.elim .inl fun z => .inr (.inl z))
    rw [e] at h
    exact h
  rw [if_neg ca]
  refine ⟨_, rfl, p, dx, _, rfl, ho, no, _, rfl, p, tl, al, rl, T', As, Rs, b, rfl, S, b1, b2, ?_⟩
  by_cases cb : b < 0 ∨ (T'.length : Int) ≤ b
  · rw [if_pos cb]
    have e : addS T'.length As a b = (.term, As) := if_pos (.inr (.inr cb))
    rw [e] at h
    exact h
  rw [if_neg cb]
  have cn : ¬ (a < 0 ∨ (T'.length : Int) ≤ a ∨ b < 0 ∨ (T'.length : Int) ≤ b) := by omega
  refine ⟨_, rfl, _, rfl, (by show 3 ≤ sizeLine; decide), fun u hu' => ?_⟩
  have s1 : Same H (upd H u (.tup [.str "same", .int b, .int a])) := same_new hu' _
  have hd : Has K (upd H u (.tup [.str "same", .int b, .int a])) (dA (.same b a)) (.ref u) := by
    simp only [dA, Has, HasL]
    exact ⟨u, _, rfl, SqT.of upd_same, _, _, rfl, rfl, _, _, rfl, rfl, _, _, rfl, rfl, rfl⟩
  have S1 := S.same s1
  have hs1 := hs.keep (.of_same s1) (nols_code nol_dA As)
  have dp : deps (As.map dA) ≤ 60 := Nat.le_trans (deps_code (n := 1) (fun a => by rw [dep_dA]; exact Nat.le_refl _) As) (by decide)
  refine ⟨_, rfl, _, rfl, p, C, dx, _, _, rfl, s1 _ _ ho, T.cl, T.nA, flds_atoms _ _ _, al, xs, As.map dA, dA (.same b a), rfl, .inl (SqL.of (s1 _ _ hl)), hs1, hd, dp, _, rfl, ?_⟩
  have ea := any_code iff_dA As (.same b a)
  by_cases hm : At.same b a ∈ As
  · rw [decide_eq_true hm] at ea
    refine ite2 (fun _ => ?_) (fun c => absurd ea c)
    have e : addS T'.length As a b = (.num (As.idxOf (.same b a) + 1), As) := by unfold addS; rw [if_neg cn, if_pos hm]
    rw [e] at h
    have hlt := List.idxOf_lt_length_of_mem hm
    refine ⟨_, rfl, p, C, dx, _, _, rfl, s1 _ _ ho, T.cl, T.nA, flds_atoms _ _ _, .inl ⟨rfl, _, SqL.of (s1 _ _ hl)⟩, _, rfl, al, xs, As.map dA, _, dA (.same b a), As.idxOf (.same b a), rfl, rfl, s1 _ _ hl, hs1, hd, dp, ⟨dA (.same b a), ?_, peq_refl _⟩, fun m dm h1 h2 => ?_, _, _, rfl, rfl, q1 (h _ S1 (Fr2.of_same s1))⟩
    · rw [List.getElem?_map, List.getElem?_eq_getElem hlt]
      simp
    · rw [List.getElem?_map] at h2
      cases q : As[m]? with
      | none => rw [q] at h2; cases h2
      | some v =>
        rw [q] at h2
        have e' : dm = dA v := (Option.some.inj h2).symm
        rw [e', peq_dA]
        refine decide_eq_false fun z => ?_
        obtain ⟨hm', hv⟩ := List.getElem?_eq_some_iff.mp q
        have z' := List.not_of_lt_findIdx (p := (· == At.same b a)) h1
        rw [hv, z, beq_self_eq_true] at z'
        cases z'
  · rw [decide_eq_false hm] at ea
    refine ite2 (fun c => absurd (show false = true from ea.symm.trans c) (by decide)) (fun _ => ?_)
    refine ⟨_, rfl, _, rfl, (by show 3 ≤ sizeLine; decide), fun v hv => ?_⟩
    have s2 : Same (upd H u (.tup [.str "same", .int b, .int a])) (upd (upd H u (.tup [.str "same", .int b, .int a])) v (.tup [.str "same", .int a, .int b])) := same_new hv _
    have s12 := s1.trans s2
    have S2 := S.same s12
    have hd2 : Has K (upd (upd H u (.tup [.str "same", .int b, .int a])) v (.tup [.str "same", .int a, .int b])) (dA (.same a b)) (.ref v) := by
      simp only [dA, Has, HasL]
      exact ⟨v, _, rfl, SqT.of upd_same, _, _, rfl, rfl, _, _, rfl, rfl, _, _, rfl, rfl, rfl⟩
    refine ⟨_, rfl, p, C, dx, _, _, rfl, s12 _ _ ho, T.cl, T.nA, flds_atoms _ _ _, ?_⟩
    refine place_A (CM := CM) (E := E) (Q := fun x H' => rI0 (fun i j => .int (i + j)) x (.int 1) H' Q) S2 hd2 len (fun hm2 H' s' => ?_) (fun hm2 h40 H' s' => ?_) (fun hm2 h40 H' S' fr => ?_)
    · have e : addS T'.length As a b = (.num (As.idxOf (.same a b) + 1), As) := by unfold addS; rw [if_neg cn, if_neg hm, if_pos hm2]
      rw [e] at h
      exact ⟨_, _, rfl, rfl, q1 <| h H' (S2.same s') (Fr2.of_same (s12.trans s'))⟩
    · have e : addS T'.length As a b = (.many, As) := by unfold addS; rw [if_neg cn, if_neg hm, if_neg hm2, if_pos h40]
      rw [e] at h
      exact h H' (s12.trans s')
    · have e : addS T'.length As a b = (.num (As.length + 1), As ++ [.same a b]) := by unfold addS; rw [if_neg cn, if_neg hm, if_neg hm2, if_neg h40]
      rw [e] at h
      exact ⟨_, _, rfl, rfl, q1 <| h H' S' ((Fr2.of_same s12).trans (Fr2.of1 fr))⟩
end
end K04

/-! law k04, third part: add_term, once_each, add_row. Behind K04b. -/
namespace K04
open PySem L2
/-- what add_term asks ahead -/
structure Asks (K : PySem.W.Frag) (C : Addr) (H : Hp) (p tl al rl q : Addr) (T : List Tm) (As : List At) (Rs : List (List Int)) (n : Str) (ps : List Int) : Prop where
  pr : PrAt K C H p tl al rl T As Rs
  sq : SqI K H q ps
  low : Low n
  few : ps.length ≤ 10
  small : ∀ i ∈ ps, -1000 ≤ i ∧ i ≤ 1000
  len : T.length ≤ 1000
def spAdd (K : PySem.W.Frag) (C CN CT CM : Addr) : Sp := fun vs H Q E => ∃ (p tl al rl q : Addr) (T : List Tm) (As : List At) (Rs : List (List Int)) (n : Str) (ps : List Int), vs = [.ref p, .str n, .ref q] ∧ Asks K C H p tl al rl q T As Rs n ps ∧
  match addT T (nameB n) (n, ps) with
  | (.num k, T') => ∀ H', PrAt K C H' p tl al rl T' As Rs → Fr1 H H' tl → Q (.int (k : Nat)) H'
  | (.name, _) => ∀ H', Same H H' → E (.ref CN) none H'
  | (.term, _) => ∀ H', Same H H' → E (.ref CT) none H'
  | (.many, _) => ∀ H', Same H H' → E (.ref CM) none H'
  | (.part, _) => True
section
variable {P : Program} {w : World} {K : PySem.W.Frag} {mg : Str → Option Value} {base : Heap} {aK C CN CT CP CM : Addr}
theorem scA : FnScope ["self", "name", "parts", "part"] ["self", "name", "parts"] (defScope sAdd) := ⟨rfl, rfl, rfl, by decide +kernel, rfl, by decide +kernel, by decide +kernel⟩
theorem ints_get {ps : List Int} {i : Nat} {x : V} (h : (ps.map V.int)[i]? = some x) : ∃ k, ps[i]? = some k ∧ x = .int k := by
  rw [List.getElem?_map] at h
  cases e : ps[i]? with
  | none => rw [e] at h; cases h
  | some k =>
    rw [e] at h
    exact ⟨k, rfl, (Option.some.inj h).symm⟩
theorem bad_at {T : List Tm} {ps : List Int} {i : Nat} {k : Int} (h3 : ps.length ≤ 3) (e : ps[i]? = some k) (h : k < 0 ∨ (T.length : Int) ≤ k) : bad T ps = true := by
  unfold bad
  rw [Bool.or_eq_true]
  refine .inr (List.any_eq_true.mpr ⟨k, List.mem_of_getElem? e, ?_⟩)
  rw [Bool.or_eq_true]
  exact h.elim (fun z => .inl (decide_eq_true z)) fun z => .inr (decide_eq_true z)
theorem not_bad {T : List Tm} {ps : List Int} (h3 : ps.length ≤ 3) (h : ∀ (i : Nat) k, ps[i]? = some k → ¬ (k < 0 ∨ (T.length : Int) ≤ k)) : bad T ps = false := by
  cases e : bad T ps with
  | false => rfl
  | true =>
    unfold bad at e
    rw [Bool.or_eq_true] at e
    rcases e with e | e
    · have := of_decide_eq_true e
      omega
    · obtain ⟨k, hk, e⟩ := List.any_eq_true.mp e
      obtain ⟨i, hi⟩ := List.mem_iff_getElem?.mp hk
      rw [Bool.or_eq_true] at e
      exact absurd (e.elim (fun z => .inl (of_decide_eq_true z)) fun z => .inr (of_decide_eq_true z)) (h i k hi)
theorem ok_add {f fN fT fP : Addr} {fd dN dT' dP : FuncData} (F : Fun K "add_term" "Problem.add_term" sAdd f fd) (T : Txt K mg aK C CN CT CP CM)
    (GN : FnOk P w K mg base (CX1 P w) 3 fN dN ["word"] (spAskName CN)) (bN : Binds K dN ["word"] []) (kN : PySem.W.keepIn K (.ref fN) = true) (mN : mg "ask_name" = some (.ref fN))
    (GT : FnOk P w K mg base (CX1 P w) 1 fT dT' ["self", "number"] (spAskTerm K C CT)) (bT : Binds K dT' ["self", "number"] []) (mT : Meth K C "ask_term" fT)
    (GP : FnOk P w K mg base (CX1 P w) 1 fP dP ["thing", "things", "most"] (spPlace K CM)) (bP : Binds K dP ["thing", "things", "most"] []) (kP : PySem.W.keepIn K (.ref fP) = true) (mP : mg "place_of" = some (.ref fP)) :
    FnOk P w K mg base (CX1 P w) 4 f fd ["self", "name", "parts"] (spAdd K C CN CT CM) := by
  obtain ⟨t3, e3⟩ := T.parts
  obtain ⟨t60, e60⟩ := T.terms
  refine Fun.okX F scA (fun vs H Q E h => ?_) (fun cdv A outer s H vs Q E hr h => ?_)
  · obtain ⟨p, tl, al, rl, q, T, As, Rs, n, ps, rfl, _⟩ := h
    rfl
  obtain ⟨p, tl, al, rl, q, T', As, Rs, n, ps, rfl, A0, h⟩ := h
  obtain ⟨S, hq, lo, few, small, len⟩ := A0
  have hr1 : Room 1 _ := hr.mono (by decide)
  refine ⟨_, pss_cons (ps_expr (pe_call GN hr rfl mN kN bN .nil (passes1 xe1) (pa_cons (pv 1) pa_nil)))
    (pss_cons (ps_if (pt_cmpR op_gt (pe_callB call_len_seq rfl T.len PySem.boot_len (pa_cons (pv 2) pa_nil)) (pe_glob (v := .int 3) rfl e3 ⟨_, rfl⟩) (nomark _))
      (pss_one (ps_raise (C := CT) xe1 rfl rfl T.bterm PySem.F.excBase_ValueError T.xterm (pa_cons (pe_joined (pj_cons (pe_fv (pv 1)) (pj_cons pe_str (pj_cons (pe_fv (pe_glob (v := .int 3) rfl e3 ⟨_, rfl⟩)) (pj_cons pe_str pj_nil))))) pa_nil))) pss_nil)
    (pss_cons (ps_for PassesOwn.leaving rfl (pi_seq (pv 2)) (pg_name (i := 3) scA.nd rfl (Or.inl rfl)) (pss_one (ps_expr (pe_meth (pv 0) T.cl mT GT hr1 bT .nil (passes1 xe1) (pa_cons (pv 3) pa_nil)))))
    (pss_one (ps_ret (pe_call GP hr1 rfl mP kP bP .nil (passes1 xe1) (pa_cons (pe_tup (pa_cons (pv 1) (pa_cons (pe_callTy call_tuple_of rfl T.tuple PyProof.Rows.Boot.tuple (pa_cons (pv 2) pa_nil)) pa_nil))) (pa_cons (pe_fld (pv 0) rfl) (pa_cons (pe_glob (v := .int 60) rfl e60 ⟨_, rfl⟩) pa_nil)))))))), ?_⟩
  refine ⟨_, rfl, n, rfl, lo, ?_⟩
  cases hg : nameB n with
  | false =>
    have e : addT T' false (n, ps) = (.name, T') := if_pos rfl
    rw [hg, e] at h
    rw [if_neg (by decide)]
    exact h
  | true =>
  rw [if_pos rfl]
  intro H1 s1
  have S1 := S.same s1
  have hq1 := hq.same s1
  refine ⟨_, rfl, q, _, rfl, hq1, _, _, rfl, rfl, _, rfl, ?_⟩
  have hl1 : (ps.map V.int).length = ps.length := List.length_map _
  refine ite2 (fun c => ?_) (fun c => ?_)
  · have c' : (3 : Int) < (((ps.map V.int).length : Nat) : Int) := of_decide_eq_true c
    rw [hl1] at c'
    have hb : bad T' ps = true := by unfold bad; rw [decide_eq_true (by omega : 3 < ps.length)]; rfl
    have e : addT T' true (n, ps) = (.term, T') := by unfold addT; rw [if_neg (by decide), if_pos hb]
    rw [hg, e] at h
    have hn := lo.1
    refine ⟨_, rfl, .inl ⟨n, rfl, Nat.le_trans hn (by decide), _, rfl, ?_, _, rfl, ?_, .inr ⟨3, rfl, by decide +kernel, _, rfl, ?_, _, rfl, ?_, ?_, (by show 1 ≤ sizeLine; decide), h H1 s1⟩⟩⟩
    all_goals
      simp only [app_len]
      exact Nat.le_trans (by first | exact Nat.add_le_add_left hn _ | exact Nat.add_le_add_right (Nat.add_le_add_left hn _) _ | exact Nat.add_le_add_right (Nat.add_le_add_right (Nat.add_le_add_left hn _) _) _ | exact Nat.add_le_add_right (Nat.add_le_add_right (Nat.add_le_add_right (Nat.add_le_add_left hn _) _) _) _) (by decide +kernel)
  · have c' : ¬ (3 : Int) < (((ps.map V.int).length : Nat) : Int) := fun z => c (decide_eq_true z)
    rw [hl1] at c'
    have h3 : ps.length ≤ 3 := by omega
    obtain ⟨⟨dx, ho⟩, ⟨xs, hl, hs⟩, _⟩ := id S1
    have addE : bad T' ps = false → addT T' true (n, ps) = if (n, ps) ∈ T' then (.num (T'.idxOf (n, ps)), T') else if 60 ≤ T'.length then (.many, T') else (.num T'.length, T' ++ [(n, ps)]) := fun hb => by unfold addT; rw [if_neg (by decide), if_neg (by rw [hb]; decide)]
    have last : ∀ (H3 : Hp) (a l : Addr), Same H H3 → H3 a = some (.tup [.str n, .ref l]) → SqT K H3 l (ps.map V.int) → bad T' ps = false → spPlace K CM [.ref a, .ref tl, .int 60] H3 Q E := fun H3 a l s3 ha hq3 hb => by
      have S3 := S.same s3
      rw [hg, addE hb] at h
      obtain ⟨xs3, hl3, hs3⟩ := id S3.tm
      have hd : Has K H3 (dT (n, ps)) (.ref a) := by
        simp only [dT, Has, HasL]
        exact ⟨a, _, rfl, SqT.of ha, _, _, rfl, rfl, _, _, rfl, ⟨l, _, rfl, hq3, HasL.ints ps⟩, rfl⟩
      refine ⟨a, tl, 60, xs3, T'.map dT, dT (n, ps), rfl, hd, hl3, hs3, Nat.le_trans (deps_dTs T') (by decide), by rw [List.length_map]; exact len, by decide, by decide, ?_⟩
      rw [any_code iff_dT, idx_code iff_dT, List.length_map]
      by_cases hm : (n, ps) ∈ T'
      · rw [if_pos hm] at h
        rw [if_pos (decide_eq_true hm)]
        exact fun H' s' => h H' (S3.same s') (Fr1.of_same (s3.trans s'))
      · rw [if_neg hm] at h
        rw [if_neg (by rw [decide_eq_false hm]; decide)]
        by_cases h60 : 60 ≤ T'.length
        · rw [if_pos h60] at h
          rw [if_pos (by omega)]
          exact fun H' s' => h H' (s3.trans s')
        · rw [if_neg h60] at h
          rw [if_neg (by omega)]
          have kt : KeepT H3 (upd H3 tl (.lst (xs3 ++ [.ref a]))) := KeepT.lst hl3
          refine h _ (S3.setT ?_) fun b o e hb' => ?_
          · rw [List.map_append]
            exact (hs3.keep kt (nols_dTs T')).append (HasL.one (hd.keep kt (nol_dT _)))
          · rw [upd_ne hb']
            exact s3 b o e
    rcases hq1 with hqX | hqX
    · refine ⟨_, rfl, q, rfl, .inl ⟨⟨_, hqX⟩, for_list (K := K) (a := q) (xs := ps.map V.int) (fun i σ H2 => H2 = H1 ∧ (∃ z, σ = [some (.ref p), some (.str n), some (.ref q), z]) ∧ ∀ (j : Nat) k, j < i → ps[j]? = some k → ¬ (k < 0 ∨ (T'.length : Int) ≤ k))
        ⟨rfl, ⟨_, rfl⟩, fun j k hj => absurd hj (Nat.not_lt_zero j)⟩ (fun i σ H2 _ ⟨e, _⟩ => by rw [e]; exact hqX) ?_ ?_⟩⟩
      · rintro i x σ H2 hx ⟨rfl, ⟨z, rfl⟩, no⟩
        obtain ⟨k, ek, rfl⟩ := ints_get hx
        have sk := small k (List.mem_of_getElem? ek)
        refine ⟨_, rfl, p, dx, _, rfl, ho, flds_no _ _ _ (by decide +kernel) (by decide +kernel) (by decide +kernel), _, rfl, p, tl, al, rl, T', As, Rs, k, rfl, S1, sk.1, sk.2, ?_⟩
        by_cases hk : k < 0 ∨ (T'.length : Int) ≤ k
        · rw [if_pos hk]
          have e : addT T' true (n, ps) = (.term, T') := by unfold addT; rw [if_neg (by decide), if_pos (bad_at h3 ek hk)]
          rw [hg, e] at h
          exact fun H' s' => h H' (s1.trans s')
        · rw [if_neg hk]
          refine ⟨rfl, ⟨_, rfl⟩, fun j k' hj ej => ?_⟩
          by_cases hji : j < i
          · exact no j k' hji ej
          · have : j = i := by omega
            subst this
            rw [ek] at ej
            cases ej
            exact hk
      · rintro σ H2 ⟨rfl, ⟨z, rfl⟩, no⟩
        have hb : bad T' ps = false := not_bad h3 fun i k e => no i k (by rw [hl1]; exact (List.getElem?_eq_some_iff.mp e).1) e
        refine ⟨_, rfl, _, rfl, q, _, rfl, .inl ⟨hqX, fun l hl' => ⟨(by show 2 ≤ sizeLine; decide), fun a ha => ?_⟩⟩⟩
        have sA : Same H2 (upd H2 l (.tup (ps.map V.int))) := same_new hl' _
        have sB : Same (upd H2 l (.tup (ps.map V.int))) (upd (upd H2 l (.tup (ps.map V.int))) a (.tup [.str n, .ref l])) := same_new ha _
        have sAB := sA.trans sB
        have hq3 : SqT K (upd (upd H2 l (.tup (ps.map V.int))) a (.tup [.str n, .ref l])) l (ps.map V.int) := SqT.of (sB _ _ upd_same)
        refine ⟨_, rfl, p, C, dx, _, _, rfl, sAB _ _ ho, T.cl, T.nT, flds_terms _ _ _, last _ a _ (s1.trans sAB) upd_same hq3 hb⟩
    · refine ⟨_, rfl, q, rfl, .inr ⟨⟨_, hqX⟩, for_tup (K := K) (a := q) (xs := ps.map V.int) (fun i σ H2 => H2 = H1 ∧ (∃ z, σ = [some (.ref p), some (.str n), some (.ref q), z]) ∧ ∀ (j : Nat) k, j < i → ps[j]? = some k → ¬ (k < 0 ∨ (T'.length : Int) ≤ k))
        ⟨rfl, ⟨_, rfl⟩, fun j k hj => absurd hj (Nat.not_lt_zero j)⟩ (fun i σ H2 _ ⟨e, _⟩ => by rw [e]; exact hqX) ?_ ?_⟩⟩
      · rintro i x σ H2 hx ⟨rfl, ⟨z, rfl⟩, no⟩
        obtain ⟨k, ek, rfl⟩ := ints_get hx
        have sk := small k (List.mem_of_getElem? ek)
        refine ⟨_, rfl, p, dx, _, rfl, ho, flds_no _ _ _ (by decide +kernel) (by decide +kernel) (by decide +kernel), _, rfl, p, tl, al, rl, T', As, Rs, k, rfl, S1, sk.1, sk.2, ?_⟩
        by_cases hk : k < 0 ∨ (T'.length : Int) ≤ k
        · rw [if_pos hk]
          have e : addT T' true (n, ps) = (.term, T') := by unfold addT; rw [if_neg (by decide), if_pos (bad_at h3 ek hk)]
          rw [hg, e] at h
          exact fun H' s' => h H' (s1.trans s')
        · rw [if_neg hk]
          refine ⟨rfl, ⟨_, rfl⟩, fun j k' hj ej => ?_⟩
          by_cases hji : j < i
          · exact no j k' hji ej
          · have : j = i := by omega
            subst this
            rw [ek] at ej
            cases ej
            exact hk
      · rintro σ H2 ⟨rfl, ⟨z, rfl⟩, no⟩
        have hb : bad T' ps = false := not_bad h3 fun i k e => no i k (by rw [hl1]; exact (List.getElem?_eq_some_iff.mp e).1) e
        refine ⟨_, rfl, _, rfl, q, _, rfl, .inr ⟨hqX, (by show 2 ≤ sizeLine; decide), fun a ha => ?_⟩⟩
        have sAB : Same H2 (upd H2 a (.tup [.str n, .ref q])) := same_new ha _
        have hq3 : SqT K (upd H2 a (.tup [.str n, .ref q])) q (ps.map V.int) := (KeepT.of_same sAB).sq hqX
        refine ⟨_, rfl, p, C, dx, _, _, rfl, sAB _ _ ho, T.cl, T.nT, flds_terms _ _ _, last _ a _ (s1.trans sAB) upd_same hq3 hb⟩
end
end K04

/-! law k04, fourth part: once_each, add_row. Behind K04c. -/
namespace K04
open PySem L2
theorem iff_int (a b : Int) : peq (.int a) (.int b) = true ↔ a = b := by
  rw [peq_int]
  exact decide_eq_true_iff
theorem intsGet {ps : List Int} {i : Nat} {x : V} (h : (ps.map V.int)[i]? = some x) : ∃ k, ps[i]? = some k ∧ x = .int k := by
  rw [List.getElem?_map] at h
  cases e : ps[i]? with
  | none => rw [e] at h; cases h
  | some k =>
    rw [e] at h
    exact ⟨k, rfl, (Option.some.inj h).symm⟩
section
variable {P : Program} {w : World} {K : PySem.W.Frag} {mg : Str → Option Value} {base : Heap} {aK C CN CT CP CM : Addr}
theorem scO : FnScope ["parts", "kept", "part"] ["parts"] (defScope sOnce) := ⟨rfl, rfl, rfl, by decide +kernel, rfl, by decide +kernel, by decide +kernel⟩
theorem ok_once {f : Addr} {fd : FuncData} (F : Fun K "once_each" "once_each" sOnce f fd) (T : Txt K mg aK C CN CT CP CM) : FnOk P w K mg base CX0 1 f fd ["parts"] (spOnce K) := by
  refine F.ok scO (fun vs H Q E h => ?_) (fun cdv A outer s H vs Q E hr h => ?_)
  · obtain ⟨q, ps, rfl, _⟩ := h
    rfl
  obtain ⟨q, ps, rfl, hq, len, k⟩ := h
  have hu := hu64 hr
  refine ⟨_, pss_cons (ps_set (i := 1) scO.nd rfl (Or.inl rfl) (pe_lst pa_nil))
    (pss_cons (ps_for PassesOwn.never rfl (pi_seq (pv 0)) (pg_name (i := 2) scO.nd rfl (Or.inl rfl))
      (pss_one (ps_if (pt_cmpR (op_notInD hu) (pv 2) (pv 1) rfl) (pss_one (ps_expr (pe_bm PySem.F.plainAttrs_list PySem.F.slot_list_append PySem.F.type_list_append mt_append (pv 1) (pa_cons (pv 2) pa_nil)))) pss_nil)))
    (pss_one (ps_ret (pe_callTy call_tuple_of rfl T.tuple PyProof.Rows.Boot.tuple (pa_cons (pv 1) pa_nil))))), ?_⟩
  refine ⟨(by show 0 ≤ sizeLine; decide), fun l hl => ?_⟩
  have s1 : Same H (upd H l (.lst [])) := same_new hl _
  rcases hq with hqX | hqX
  · refine ⟨_, rfl, q, rfl, .inl ⟨⟨_, s1.seq hqX⟩, for_list (K := K) (a := q) (xs := ps.map V.int) (fun i σ H2 => Same H H2 ∧ (∃ z, σ = [some (.ref q), some (.ref l), z]) ∧ H2 l = some (.lst ((once [] (ps.take i)).map V.int)))
      ⟨s1, ⟨_, rfl⟩, upd_same⟩ (fun i σ H2 _ ⟨e, _⟩ => e.seq hqX) ?_ ?_⟩⟩
    · rintro i x σ H2 hx ⟨s2, ⟨z, rfl⟩, hl2⟩
      obtain ⟨k', ek, rfl⟩ := intsGet hx
      have et := once_take (acc := []) ek
      have lenz : ((once [] (ps.take i)).map V.int).length < sizeLine := by
        rw [List.length_map]
        have := once_len (ps.take i) []
        rw [List.length_take, List.length_nil] at this
        exact Nat.lt_of_le_of_lt (show _ ≤ 1000 by omega) (by decide)
      refine ⟨_, rfl, _, rfl, l, _, (once [] (ps.take i)).map Dt.int, .int k', rfl, .inl (SqL.of hl2), HasL.ints _, by simp only [Has], by rw [deps_ints]; decide, _, rfl, ?_⟩
      have ea := any_code iff_int (once [] (ps.take i)) k'
      by_cases hm : k' ∈ once [] (ps.take i)
      · rw [decide_eq_true hm] at ea
        refine ite2 (fun c => absurd (show (!((once [] (ps.take i)).map Dt.int).any fun d' => peq d' (.int k')) = true from c) (by rw [ea]; decide)) (fun _ => ?_)
        rw [if_pos hm] at et
        exact ⟨s2, ⟨_, rfl⟩, by rw [et]; exact hl2⟩
      · rw [decide_eq_false hm] at ea
        refine ite2 (fun _ => ?_) (fun c => absurd (show (!((once [] (ps.take i)).map Dt.int).any fun d' => peq d' (.int k')) = true by rw [ea]; rfl) c)
        rw [if_neg hm] at et
        refine ⟨_, rfl, .inl ⟨rfl, _, SqL.of hl2⟩, _, rfl, l, _, _, rfl, rfl, hl2, lenz, ?_⟩
        refine ⟨fun b o e => by rw [upd_ne (ne_of_none e hl)]; exact s2 b o e, ⟨_, rfl⟩, ?_⟩
        rw [et, List.map_append, upd_same]
        rfl
    · rintro σ H2 ⟨s2, ⟨z, rfl⟩, hl2⟩
      rw [List.length_map, List.take_length] at hl2
      refine ⟨_, rfl, l, _, rfl, .inl ⟨SqL.of hl2, fun l2 hl2' => k _ l2 (s2.trans (same_new hl2' _)) upd_same⟩⟩
  · refine ⟨_, rfl, q, rfl, .inr ⟨⟨_, (KeepT.of_same s1).sq hqX⟩, for_tup (K := K) (a := q) (xs := ps.map V.int) (fun i σ H2 => Same H H2 ∧ (∃ z, σ = [some (.ref q), some (.ref l), z]) ∧ H2 l = some (.lst ((once [] (ps.take i)).map V.int)))
      ⟨s1, ⟨_, rfl⟩, upd_same⟩ (fun i σ H2 _ ⟨e, _⟩ => (KeepT.of_same e).sq hqX) ?_ ?_⟩⟩
    · rintro i x σ H2 hx ⟨s2, ⟨z, rfl⟩, hl2⟩
      obtain ⟨k', ek, rfl⟩ := intsGet hx
      have et := once_take (acc := []) ek
      have lenz : ((once [] (ps.take i)).map V.int).length < sizeLine := by
        rw [List.length_map]
        have := once_len (ps.take i) []
        rw [List.length_take, List.length_nil] at this
        exact Nat.lt_of_le_of_lt (show _ ≤ 1000 by omega) (by decide)
      refine ⟨_, rfl, _, rfl, l, _, (once [] (ps.take i)).map Dt.int, .int k', rfl, .inl (SqL.of hl2), HasL.ints _, by simp only [Has], by rw [deps_ints]; decide, _, rfl, ?_⟩
      have ea := any_code iff_int (once [] (ps.take i)) k'
      by_cases hm : k' ∈ once [] (ps.take i)
      · rw [decide_eq_true hm] at ea
        refine ite2 (fun c => absurd (show (!((once [] (ps.take i)).map Dt.int).any fun d' => peq d' (.int k')) = true from c) (by rw [ea]; decide)) (fun _ => ?_)
        rw [if_pos hm] at et
        exact ⟨s2, ⟨_, rfl⟩, by rw [et]; exact hl2⟩
      · rw [decide_eq_false hm] at ea
        refine ite2 (fun _ => ?_) (fun c => absurd (show (!((once [] (ps.take i)).map Dt.int).any fun d' => peq d' (.int k')) = true by rw [ea]; rfl) c)
        rw [if_neg hm] at et
        refine ⟨_, rfl, .inl ⟨rfl, _, SqL.of hl2⟩, _, rfl, l, _, _, rfl, rfl, hl2, lenz, ?_⟩
        refine ⟨fun b o e => by rw [upd_ne (ne_of_none e hl)]; exact s2 b o e, ⟨_, rfl⟩, ?_⟩
        rw [et, List.map_append, upd_same]
        rfl
    · rintro σ H2 ⟨s2, ⟨z, rfl⟩, hl2⟩
      rw [List.length_map, List.take_length] at hl2
      refine ⟨_, rfl, l, _, rfl, .inl ⟨SqL.of hl2, fun l2 hl2' => k _ l2 (s2.trans (same_new hl2' _)) upd_same⟩⟩
theorem scRw : FnScope ["self", "parts", "part"] ["self", "parts"] (defScope sRow) := ⟨rfl, rfl, rfl, by decide +kernel, rfl, by decide +kernel, by decide +kernel⟩
theorem ok_row {f fP fO : Addr} {fd dP dO : FuncData} (F : Fun K "add_row" "Problem.add_row" sRow f fd) (T : Txt K mg aK C CN CT CP CM)
    (GP : FnOk P w K mg base (CX1 P w) 1 fP dP ["self", "part"] (spAskPart K C CP)) (bP : Binds K dP ["self", "part"] []) (mP : Meth K C "ask_part" fP)
    (GO : FnOk P w K mg base CX0 1 fO dO ["parts"] (spOnce K)) (bO : Binds K dO ["parts"] []) (kO : PySem.W.keepIn K (.ref fO) = true) (mO : mg "once_each" = some (.ref fO)) :
    FnOk P w K mg base (CX1 P w) 2 f fd ["self", "parts"] (spRow K C CN CT CP CM) := by
  obtain ⟨t20, e20⟩ := T.rparts
  obtain ⟨t200, e200⟩ := T.rows
  refine Fun.okX F scRw (fun vs H Q E h => ?_) (fun cdv A outer s H vs Q E hr h => ?_)
  · obtain ⟨p, tl, al, rl, q, T, As, Rs, ps, rfl, _⟩ := h
    rfl
  obtain ⟨p, tl, al, rl, q, T', As, Rs, ps, rfl, S, hq, len, small, rlen, h⟩ := h
  obtain ⟨t2, h2, q2⟩ : ∃ t, PSs (cxOf (CX1 P w) P w K mg base ["self", "parts", "part"] "Problem.add_row" (defScope sRow) f cdv A outer s H E) ((defBody sRow).drop 1) t ∧
      ∀ z, ps.any (noPart As.length) = false → t { nx := fun _ H' => Q .non H', rt := Q } [some (.ref p), some (.ref q), z] H := by
    refine ⟨_, pss_cons (ps_if (pt_cmpR op_gt (pe_callB call_len_seq rfl T.len PySem.boot_len (pa_cons (pv 1) pa_nil)) (pe_glob (v := .int 20) rfl e20 ⟨_, rfl⟩) (nomark _))
        (pss_one (ps_raise (C := CM) xe1 rfl rfl T.bmany PySem.F.excBase_ValueError T.xmany (pa_cons (pe_joined (pj_cons pe_str (pj_cons (pe_fv (pe_glob (v := .int 20) rfl e20 ⟨_, rfl⟩)) (pj_cons pe_str pj_nil)))) pa_nil))) pss_nil)
      (pss_cons (ps_if (pt_cmpR op_ge (pe_callB call_len_seq rfl T.len PySem.boot_len (pa_cons (pe_fld (pv 0) rfl) pa_nil)) (pe_glob (v := .int 200) rfl e200 ⟨_, rfl⟩) (nomark _))
        (pss_one (ps_raise (C := CM) xe1 rfl rfl T.bmany PySem.F.excBase_ValueError T.xmany (pa_cons (pe_joined (pj_cons pe_str (pj_cons (pe_fv (pe_glob (v := .int 200) rfl e200 ⟨_, rfl⟩)) (pj_cons pe_str pj_nil)))) pa_nil))) pss_nil)
      (pss_cons (ps_expr (pe_bm PySem.F.plainAttrs_list PySem.F.slot_list_append PySem.F.type_list_append mt_append (pe_fld (pv 0) rfl) (pa_cons (pe_call GO hr rfl mO kO bO .nil pass0 (pa_cons (pv 1) pa_nil)) pa_nil)))
      (pss_one (ps_ret (pe_op op_sub (pe_callB call_len_seq rfl T.len PySem.boot_len (pa_cons (pe_fld (pv 0) rfl) pa_nil)) pe_int))))), ?_⟩
    intro z no
    obtain ⟨⟨dx, ho⟩, _, _, ⟨xs, hl, hs⟩, _⟩ := id S
    have hlen : xs.length = Rs.length := by rw [← hs.length, List.length_map]
    have hpl : (ps.map V.int).length = ps.length := List.length_map _
    refine ⟨_, rfl, q, _, rfl, hq, _, _, rfl, rfl, _, rfl, ite2 (fun c => ?_) (fun c => ?_)⟩
    · have c' : (20 : Int) < (((ps.map V.int).length : Nat) : Int) := of_decide_eq_true c
      rw [hpl] at c'
      have e : addR As.length Rs ps = (.many, Rs) := by unfold addR; rw [if_neg (by rw [no]; decide), if_pos (by omega)]
      rw [e] at h
      exact ⟨_, rfl, by decide +kernel, .inr ⟨20, rfl, by decide +kernel, _, rfl, by decide +kernel, _, rfl, by decide +kernel, by decide +kernel, (by show 1 ≤ sizeLine; decide), h H (Same.refl H)⟩⟩
    have c' : ¬ (20 : Int) < (((ps.map V.int).length : Nat) : Int) := fun z => c (decide_eq_true z)
    rw [hpl] at c'
    refine ⟨_, rfl, p, C, dx, _, _, rfl, ho, T.cl, T.nR, flds_rows _ _ _, rl, xs, rfl, .inl (SqL.of hl), _, _, rfl, rfl, _, rfl, ite2 (fun c2 => ?_) (fun c2 => ?_)⟩
    · have c3 : (200 : Int) ≤ ((xs.length : Nat) : Int) := of_decide_eq_true c2
      rw [hlen] at c3
      have e : addR As.length Rs ps = (.many, Rs) := by unfold addR; rw [if_neg (by rw [no]; decide), if_neg (by omega), if_pos (by omega)]
      rw [e] at h
      exact ⟨_, rfl, by decide +kernel, .inr ⟨200, rfl, by decide +kernel, _, rfl, by decide +kernel, _, rfl, by decide +kernel, by decide +kernel, (by show 1 ≤ sizeLine; decide), h H (Same.refl H)⟩⟩
    have c3 : ¬ (200 : Int) ≤ ((xs.length : Nat) : Int) := fun z => c2 (decide_eq_true z)
    rw [hlen] at c3
    have e : addR As.length Rs ps = (.num Rs.length, Rs ++ [once [] ps]) := by unfold addR; rw [if_neg (by rw [no]; decide), if_neg (by omega), if_neg (by omega)]
    rw [e] at h
    refine ⟨_, rfl, p, C, dx, _, _, rfl, ho, T.cl, T.nR, flds_rows _ _ _, .inl ⟨rfl, _, SqL.of hl⟩, _, rfl, q, ps, rfl, hq, len, fun H2 l s2 hl2 => ?_⟩
    have S2 := S.same s2
    have hlr := s2 _ _ hl
    have hd : Has K H2 (dR (once [] ps)) (.ref l) := by
      simp only [dR, Has]
      exact ⟨l, _, rfl, SqT.of hl2, HasL.ints _⟩
    have kt : KeepT H2 (upd H2 rl (.lst (xs ++ [.ref l]))) := KeepT.lst hlr
    have S3 : PrAt K C (upd H2 rl (.lst (xs ++ [.ref l]))) p tl al rl T' As (Rs ++ [once [] ps]) := S2.setR (by
      rw [List.map_append]
      exact ((hs.keep (.of_same s2) (nols_code nol_dR Rs)).keep kt (nols_code nol_dR Rs)).append (HasL.one (hd.keep kt (nol_dR _))))
    obtain ⟨⟨dx3, ho3⟩, _⟩ := id S3
    refine ⟨rl, xs, _, rfl, rfl, hlr, Nat.lt_of_le_of_lt (by rw [hlen]; exact rlen) (by decide), ?_⟩
    refine ⟨_, rfl, p, C, dx3, _, _, rfl, ho3, T.cl, T.nR, flds_rows _ _ _, rl, _, rfl, .inl (SqL.of upd_same), _, _, rfl, rfl, ?_⟩
    have en : (((xs ++ [V.ref l]).length : Nat) : Int) - 1 = (Rs.length : Nat) := by rw [List.length_append, hlen]; simp
    have fin := h _ S3 (fun b o e _ n2 => by rw [upd_ne n2]; exact s2 b o e)
    show Q (.int ((((xs ++ [V.ref l]).length : Nat) : Int) - 1)) _
    rw [en]
    exact fin
  refine ⟨_, pss_cons (ps_for PassesOwn.leaving rfl (pi_seq (pv 1)) (pg_name (i := 2) scRw.nd rfl (Or.inl rfl)) (pss_one (ps_expr (pe_meth (pv 0) T.cl mP GP hr bP .nil (passes1 xe1) (pa_cons (pv 2) pa_nil))))) h2, ?_⟩
  obtain ⟨⟨dx, ho⟩, _⟩ := id S
  have noA := flds_no tl al rl (m := "ask_part") (by decide +kernel) (by decide +kernel) (by decide +kernel)
  have fin : ∀ z, ps.any (noPart As.length) = false → SqI K H q ps → t2 { nx := fun _ H' => Q .non H', rt := Q } [some (.ref p), some (.ref q), z] H := fun z no _ => q2 z no
  rcases hq with hqX | hqX
  · refine ⟨_, rfl, q, rfl, .inl ⟨⟨_, hqX⟩, for_list (K := K) (a := q) (xs := ps.map V.int) (fun i σ H2 => H2 = H ∧ (∃ z, σ = [some (.ref p), some (.ref q), z]) ∧ (ps.take i).any (noPart As.length) = false)
      ⟨rfl, ⟨_, rfl⟩, by simp⟩ (fun i σ H2 _ ⟨e, _⟩ => by rw [e]; exact hqX) ?_ ?_⟩⟩
    · rintro i x σ H2 hx ⟨rfl, ⟨z, rfl⟩, no⟩
      obtain ⟨k', ek, rfl⟩ := intsGet hx
      have sk := small k' (List.mem_of_getElem? ek)
      refine ⟨_, rfl, p, dx, _, rfl, ho, noA, _, rfl, p, tl, al, rl, T', As, Rs, k', rfl, S, sk.1, sk.2, ?_⟩
      by_cases hk : noPart As.length k' = true
      · rw [if_pos hk]
        have e : addR As.length Rs ps = (.part, Rs) := if_pos (List.any_eq_true.mpr ⟨k', List.mem_of_getElem? ek, hk⟩)
        rw [e] at h
        exact h
      · rw [if_neg hk]
        refine ⟨rfl, ⟨_, rfl⟩, ?_⟩
        rw [List.take_add_one, ek, List.any_append, no]
        simpa using hk
    · rintro σ H2 ⟨rfl, ⟨z, rfl⟩, no⟩
      rw [List.length_map, List.take_length] at no
      exact fin z no (.inl hqX)
  · refine ⟨_, rfl, q, rfl, .inr ⟨⟨_, hqX⟩, for_tup (K := K) (a := q) (xs := ps.map V.int) (fun i σ H2 => H2 = H ∧ (∃ z, σ = [some (.ref p), some (.ref q), z]) ∧ (ps.take i).any (noPart As.length) = false)
      ⟨rfl, ⟨_, rfl⟩, by simp⟩ (fun i σ H2 _ ⟨e, _⟩ => by rw [e]; exact hqX) ?_ ?_⟩⟩
    · rintro i x σ H2 hx ⟨rfl, ⟨z, rfl⟩, no⟩
      obtain ⟨k', ek, rfl⟩ := intsGet hx
      have sk := small k' (List.mem_of_getElem? ek)
      refine ⟨_, rfl, p, dx, _, rfl, ho, noA, _, rfl, p, tl, al, rl, T', As, Rs, k', rfl, S, sk.1, sk.2, ?_⟩
      by_cases hk : noPart As.length k' = true
      · rw [if_pos hk]
        have e : addR As.length Rs ps = (.part, Rs) := if_pos (List.any_eq_true.mpr ⟨k', List.mem_of_getElem? ek, hk⟩)
        rw [e] at h
        exact h
      · rw [if_neg hk]
        refine ⟨rfl, ⟨_, rfl⟩, ?_⟩
        rw [List.take_add_one, ek, List.any_append, no]
        simpa using hk
    · rintro σ H2 ⟨rfl, ⟨z, rfl⟩, no⟩
      rw [List.length_map, List.take_length] at no
      exact fin z no (.inr hqX)
end
end K04

/-! law k04: texts; names. Behind K04d. -/
namespace K04
open PySem L2
/-! what the problem's methods answer where all is well -/
theorem passF {P : Program} {w : World} {X : Cx} : Passes (CX1 P w) X E0 := fun _ _ _ _ _ _ _ h => by
  obtain ⟨_, _, _, _, _, _, _, _, _, _, _, _, _, hE⟩ := h
  exact hE.elim
theorem at_mem {α : Type} {xs : List α} {i : Int} {c : α} (h : atI xs i = some c) : c ∈ xs := by
  obtain ⟨j, _, h2, _⟩ := atI_get h
  exact List.mem_of_getElem? h2
theorem modB (a : Int) {b : Int} (h : 0 < b) : 0 ≤ a % b ∧ a % b < b := ⟨Int.emod_nonneg _ (by omega), Int.emod_lt_of_pos _ h⟩
theorem addR_num {m : Nat} {Rs : List (List Int)} {ps : List Int} (hp : ∀ i ∈ ps, i ≠ 0 ∧ -(m : Int) ≤ i ∧ i ≤ (m : Int)) (h20 : ps.length ≤ 20) (hl : Rs.length < 200) : addR m Rs ps = (.num Rs.length, Rs ++ [once [] ps]) := by
  have no : ps.any (noPart m) = false := by
    rw [List.any_eq_false]
    intro i hi
    obtain ⟨h1, h2, h3⟩ := hp i hi
    unfold noPart
    rw [decide_eq_false h1, decide_eq_false (by omega), decide_eq_false (by omega)]
    decide
  unfold addR
  rw [if_neg (by rw [no]; decide), if_neg (by omega), if_neg (by omega)]
theorem made {K : PySem.W.Frag} {C : Addr} {H H1 : Hp} {x dx tl al rl : Addr} (hx : H x = none) (hdx : H dx = none) (hne : dx ≠ x) (h1 : (upd (upd H dx (.own x)) x (.ins C dx [])) tl = none) (h2 : (upd (upd H dx (.own x)) x (.ins C dx [])) al = none)
    (h3 : (upd (upd H dx (.own x)) x (.ins C dx [])) rl = none) (na : al ≠ tl) (nr : rl ≠ tl) (nx : rl ≠ al) (k1 : H1 x = some (.ins C dx (flds tl al rl))) (k2 : H1 tl = some (.lst [])) (k3 : H1 al = some (.lst [])) (k4 : H1 rl = some (.lst []))
    (k5 : ∀ b o, (upd (upd H dx (.own x)) x (.ins C dx [])) b = some o → b ≠ x → H1 b = some o) : PrAt K C H1 x tl al rl [] [] [] ∧ Same H H1 ∧ H tl = none ∧ H al = none ∧ H rl = none := by
  have sm : Same H (upd (upd H dx (.own x)) x (.ins C dx [])) := (same_new hdx _).trans (same_new (by rw [upd_ne hne.symm]; exact hx) _)
  exact ⟨⟨⟨dx, k1⟩, ⟨[], k2, .nil⟩, ⟨[], k3, .nil⟩, ⟨[], k4, .nil⟩, na, nr, nx⟩, fun b o e => k5 b o (sm _ _ e) (ne_of_none e hx), sm.free h1, sm.free h2, sm.free h3⟩
/-- the problem's own words -/
structure Own (P : Program) (w : World) (K : PySem.W.Frag) (mg : Str → Option Value) (base : Heap) (C CN CT CP CM : Addr) (fI fA fQ fS fR : Addr) (dI dA' dQ dS dR' : FuncData) : Prop where
  I : FnOk P w K mg base CX0 1 fI dI ["self"] (spInit C)
  bI : Binds K dI ["self"] []
  mI : Mk K C fI
  gI : mg "Problem" = some (.ref C)
  A : FnOk P w K mg base (CX1 P w) 4 fA dA' ["self", "name", "parts"] (spAdd K C CN CT CM)
  bA : Binds K dA' ["self", "name", "parts"] []
  mA : Meth K C "add_term" fA
  Q : FnOk P w K mg base (CX1 P w) 4 fQ dQ ["self", "name"] (spPlain K C CN CT CP CM)
  bQ : Binds K dQ ["self", "name"] []
  mQ : Meth K C "add_plain" fQ
  S : FnOk P w K mg base (CX1 P w) 4 fS dS ["self", "one", "other"] (spSame K C CN CT CP CM)
  bS : Binds K dS ["self", "one", "other"] []
  mS : Meth K C "add_same" fS
  R : FnOk P w K mg base (CX1 P w) 4 fR dR' ["self", "parts"] (spRow K C CN CT CP CM)
  bR : Binds K dR' ["self", "parts"] []
  mR : Meth K C "add_row" fR
section
variable {K : PySem.W.Frag} {C CN CT CP CM : Addr}
theorem PrAt.lenT {H : Hp} {p tl al rl : Addr} {T : List Tm} {As : List At} {Rs : List (List Int)} (S : PrAt K C H p tl al rl T As Rs) : ∃ dx xs, H p = some (.ins C dx (flds tl al rl)) ∧ H tl = some (.lst xs) ∧ xs.length = T.length := by
  obtain ⟨⟨dx, h1⟩, ⟨xs, h2, h3⟩, _⟩ := S
  exact ⟨dx, xs, h1, h2, by rw [← h3.length, List.length_map]⟩
theorem PrAt.lenA {H : Hp} {p tl al rl : Addr} {T : List Tm} {As : List At} {Rs : List (List Int)} (S : PrAt K C H p tl al rl T As Rs) : ∃ dx xs, H p = some (.ins C dx (flds tl al rl)) ∧ H al = some (.lst xs) ∧ xs.length = As.length := by
  obtain ⟨⟨dx, h1⟩, _, ⟨xs, h2, h3⟩, _⟩ := S
  exact ⟨dx, xs, h1, h2, by rw [← h3.length, List.length_map]⟩
theorem PrAt.lenR {H : Hp} {p tl al rl : Addr} {T : List Tm} {As : List At} {Rs : List (List Int)} (S : PrAt K C H p tl al rl T As Rs) : ∃ dx xs, H p = some (.ins C dx (flds tl al rl)) ∧ H rl = some (.lst xs) ∧ xs.length = Rs.length := by
  obtain ⟨⟨dx, h1⟩, _, _, ⟨xs, h2, h3⟩, _⟩ := S
  exact ⟨dx, xs, h1, h2, by rw [← h3.length, List.length_map]⟩
theorem no_add_term (tl al rl : Addr) : (flds tl al rl).lookup ("add_term" : Str) = none := flds_no _ _ _ (by decide +kernel) (by decide +kernel) (by decide +kernel)
theorem no_add_plain (tl al rl : Addr) : (flds tl al rl).lookup ("add_plain" : Str) = none := flds_no _ _ _ (by decide +kernel) (by decide +kernel) (by decide +kernel)
theorem no_add_same (tl al rl : Addr) : (flds tl al rl).lookup ("add_same" : Str) = none := flds_no _ _ _ (by decide +kernel) (by decide +kernel) (by decide +kernel)
theorem no_add_row (tl al rl : Addr) : (flds tl al rl).lookup ("add_row" : Str) = none := flds_no _ _ _ (by decide +kernel) (by decide +kernel) (by decide +kernel)
end
/-! names that are good: a mark among letters -/
def marks : List Nat := [98, 120, 102]
theorem abc_isL : ∀ c ∈ abc.cps.toList, isL ⟨#[c]⟩ = true := by decide +kernel
theorem abc_low : ∀ c ∈ abc.cps.toList, c < 1000 := by decide +kernel
theorem kept_marks {z : Str} (h : inV (.str z) keptV = true) : ∀ c ∈ z.cps.toList, c ∉ marks := by
  obtain ⟨y, hy, e⟩ := List.any_eq_true.mp h
  have key : ∀ w : Str, (∀ c ∈ w.cps.toList, c ∉ marks) → eqV (.str w) (.str z) = true → ∀ c ∈ z.cps.toList, c ∉ marks := fun w hw e => by
    have e' : w = z := eq_of_beq e
    rw [← e']
    exact hw
  simp only [keptV, List.mem_cons, List.not_mem_nil, or_false] at hy
  rcases hy with rfl | rfl | rfl | rfl | rfl | rfl | rfl | rfl
  all_goals exact key _ (by decide +kernel) e
theorem nameB_of {z : Str} (h1 : 1 ≤ z.length) (h8 : z.length ≤ 8) (ha : ∀ c ∈ z.cps.toList, c ∈ abc.cps.toList) (hm : ∃ c ∈ z.cps.toList, c ∈ marks) : nameB z = true := by
  have e1 : (lets z).all id = true := by
    rw [List.all_eq_true]
    intro b hb
    unfold lets at hb
    obtain ⟨c, hc, rfl⟩ := List.mem_map.mp hb
    exact abc_isL c (ha c hc)
  have e2 : inV (.str z) keptV = false := by
    cases e : inV (.str z) keptV with
    | false => rfl
    | true =>
      obtain ⟨c, hc, hm⟩ := hm
      exact absurd hm (kept_marks e c hc)
  unfold nameB wordB
  rw [e1, e2, decide_eq_true (by omega : (0 : Int) < (z.length : Int)), decide_eq_true (by omega : (z.length : Int) ≤ 8)]
  rfl
structure GoodN (z : Str) : Prop where
  nm : nameB z = true
  lo : Low z
  mr : ∃ c ∈ z.cps.toList, c ∈ marks
  ab : ∀ c ∈ z.cps.toList, c ∈ abc.cps.toList
theorem cps_app (a b : Str) : (a ++ b).cps.toList = a.cps.toList ++ b.cps.toList := by
  show (a.cps ++ b.cps).toList = _
  exact Array.toList_append
theorem len_cps (a : Str) : a.cps.toList.length = a.length := by simp [Str.length]
theorem slice_to {x : Str} {j : Int} (h0 : 0 ≤ j) : (Txt.slice x none (some j)).cps.toList = x.cps.toList.take j.toNat := by
  by_cases h : j ≤ x.cps.toList.length
  · have e := eq_of_beq (PyProof.Rows.slice_closes_to (x := x) ⟨h0, h⟩)
    rw [e]
    simp
  · have e : Txt.slice x none (some j) = x := by
      have hn : (x.length : Int) ≤ j := by rw [len_cps] at h; omega
      have hz : (Builtin.Str.strSliceIndices none (some j) 1 x.length).length = x.length := by
        unfold Builtin.Str.strSliceIndices
        simp only [show (1 : Int) > 0 by decide, if_true]
        have e1 : ¬ j < 0 := by omega
        simp only [e1, if_false]
        have e2 : max 0 (min j (x.length : Int)) = ((x.length : Nat) : Int) := by omega
        rw [e2]
        have e3 : sliceRange 0 ((x.length : Nat) : Int) 1 = (List.range (x.length - 0)).map (0 + ·) := sliceRange_one 0 x.length
        rw [e3]
        simp
      unfold Txt.slice
      rw [if_pos (by rw [hz]; simp)]
    rw [e, List.take_of_length_le (by omega)]
theorem slice_from {x : Str} {j : Int} (h0 : 0 ≤ j) : (Txt.slice x (some j) none).cps.toList = x.cps.toList.drop j.toNat := by
  by_cases h : j ≤ x.length
  · rw [PyProof.Rows.slice_from_eq h0 h rfl]
    show (x.cps.toList.drop j.toNat).take ((x.length : Int) - j).toNat = _
    rw [List.take_of_length_le]
    rw [List.length_drop, len_cps]
    omega
  · rw [PyProof.Rows.slice_beyond (by omega), List.drop_eq_nil_of_le (by rw [len_cps]; omega)]
    rfl
theorem good_of {y : Str} {at_ : Int} {c : Nat} (h0 : 0 ≤ at_) (hy : y.length ≤ 7) (ha : ∀ c ∈ y.cps.toList, c ∈ abc.cps.toList) (hc : c ∈ marks) (hca : c ∈ abc.cps.toList) : GoodN (Txt.slice y none (some at_) ++ ⟨#[c]⟩ ++ Txt.slice y (some at_) none) ∧ (Txt.slice y none (some at_) ++ ⟨#[c]⟩ ++ Txt.slice y (some at_) none).length = y.length + 1 := by
  have e : (Txt.slice y none (some at_) ++ ⟨#[c]⟩ ++ Txt.slice y (some at_) none).cps.toList = y.cps.toList.take at_.toNat ++ [c] ++ y.cps.toList.drop at_.toNat := by
    rw [cps_app, cps_app, slice_to h0, slice_from h0]
  have hl : (Txt.slice y none (some at_) ++ ⟨#[c]⟩ ++ Txt.slice y (some at_) none).length = y.length + 1 := by
    rw [← len_cps, e, List.length_append, List.length_append, List.length_take, List.length_drop, len_cps]
    simp only [List.length_singleton]
    omega
  have hm : ∀ d ∈ (Txt.slice y none (some at_) ++ ⟨#[c]⟩ ++ Txt.slice y (some at_) none).cps.toList, d ∈ abc.cps.toList := fun d hd => by
    rw [e] at hd
    rcases List.mem_append.mp hd with hd | hd
    · rcases List.mem_append.mp hd with hd | hd
      · exact ha d (List.mem_of_mem_take hd)
      · rw [List.mem_singleton.mp hd]
        exact hca
    · exact ha d (List.mem_of_mem_drop hd)
  have mk : ∃ d ∈ (Txt.slice y none (some at_) ++ ⟨#[c]⟩ ++ Txt.slice y (some at_) none).cps.toList, d ∈ marks := ⟨c, by rw [e]; simp, hc⟩
  exact ⟨⟨nameB_of (by omega) (by omega) hm mk, ⟨by omega, fun d hd => abc_low d (hm d hd)⟩, mk, hm⟩, hl⟩
/-! texts of terms, parts, rows -/
theorem szM {n : Nat} (h : n ≤ 16000000) : n ≤ sizeLine := Nat.le_trans h (by rw [sizeLine_eq]; decide)
theorem app_assoc (a b c : Str) : a ++ b ++ c = a ++ (b ++ c) := by
  show (⟨(a.cps ++ b.cps) ++ c.cps⟩ : Str) = ⟨a.cps ++ (b.cps ++ c.cps)⟩
  rw [Array.append_assoc]
def txtN (n : Str) (ss : List Str) : Str := if ss.isEmpty = true then n else n ++ "(" ++ Builtin.Str.glued ", " ss ++ ")"
theorem lenS_cons (x : Str) (xs : List Str) : lenS (x :: xs) = x.length + lenS xs := by simp [lenS]
theorem c1 : (("(" : Str)).length = 1 := by decide +kernel
theorem c2 : ((")" : Str)).length = 1 := by decide +kernel
theorem c3 : ((", " : Str)).length = 2 := by decide +kernel
theorem c4 : ((" or " : Str)).length = 4 := by decide +kernel
theorem c5 : ((" = " : Str)).length = 3 := by decide +kernel
theorem c6 : (("not " : Str)).length = 4 := by decide +kernel
theorem c7 : (("\n" : Str)).length = 1 := by decide +kernel
theorem c8 : (("never" : Str)).length = 5 := by decide +kernel
theorem c9 : (("" : Str)).length = 0 := by decide +kernel
theorem txtN_len (n : Str) (ss : List Str) : (txtN n ss).length ≤ n.length + 2 + (lenS ss + ss.length * 2) := by
  unfold txtN
  split
  · omega
  · have := glued_len ", " ss
    rw [c3] at this
    rw [app_len, app_len, app_len, c1, c2]
    omega
theorem lenS_le {m : Nat} : ∀ {ss : List Str}, (∀ s ∈ ss, s.length ≤ m) → lenS ss ≤ m * ss.length
  | [], _ => by simp [lenS]
  | s :: ss, h => by
    have h1 := h s (by simp)
    have h2 := lenS_le (ss := ss) fun u hu => h u (List.mem_cons_of_mem _ hu)
    rw [lenS_cons, List.length_cons, Nat.mul_add]
    omega
def gS (us : List Str) (p : Int) : Str := us.getD p.toNat ""
def txStep (us : List Str) (t : Tm) : List Str := us ++ [txtN t.1 (t.2.map (gS us))]
def txs (T : List Tm) : List Str := T.foldl txStep []
theorem txs_snoc (T : List Tm) (t : Tm) : txs (T ++ [t]) = txs T ++ [txtN t.1 (t.2.map (gS (txs T)))] := by
  unfold txs
  rw [List.foldl_append]
  rfl
theorem txs_pre : ∀ (L : List Tm) (us : List Str), ∃ ws, L.foldl txStep us = us ++ ws ∧ ws.length = L.length
  | [], us => ⟨[], by simp, rfl⟩
  | t :: L, us => by
    obtain ⟨ws, h, hl⟩ := txs_pre L (txStep us t)
    refine ⟨txtN t.1 (t.2.map (gS us)) :: ws, ?_, by rw [List.length_cons, List.length_cons, hl]⟩
    rw [List.foldl_cons, h]
    unfold txStep
    simp
theorem txs_len (T : List Tm) : (txs T).length = T.length := by
  obtain ⟨ws, h, hl⟩ := txs_pre T []
  unfold txs
  rw [h, List.length_append, hl]
  simp
theorem txs_take (T : List Tm) (i : Nat) : ∃ ws, txs T = txs (T.take i) ++ ws := by
  obtain ⟨ws, h, _⟩ := txs_pre (T.drop i) (txs (T.take i))
  refine ⟨ws, ?_⟩
  rw [← h]
  unfold txs
  rw [← List.foldl_append, List.take_append_drop]
/-- parts lie ahead -/
def Wf (T : List Tm) : Prop := ∀ (i : Nat) (t : Tm), T[i]? = some t → t.2.length ≤ 3 ∧ ∀ p ∈ t.2, 0 ≤ p ∧ p < (i : Int)
theorem Wf.take {T : List Tm} (h : Wf T) (n : Nat) : Wf (T.take n) := fun i t e => by
  rw [List.getElem?_take] at e
  split at e
  · exact h i t e
  · cases e
theorem Wf.snoc {T : List Tm} {t : Tm} (h : Wf T) (h3 : t.2.length ≤ 3) (hp : ∀ p ∈ t.2, 0 ≤ p ∧ p < (T.length : Int)) : Wf (T ++ [t]) := fun i u e => by
  by_cases hi : i < T.length
  · rw [List.getElem?_append_left hi] at e
    exact h i u e
  · have hi2 : i = T.length := by
      have := (List.getElem?_eq_some_iff.mp e).1
      rw [List.length_append, List.length_singleton] at this
      omega
    subst hi2
    rw [List.getElem?_append_right (Nat.le_refl _)] at e
    simp at e
    subst e
    exact ⟨h3, hp⟩
theorem gS_take {T : List Tm} {i : Nat} {p : Int} (h0 : 0 ≤ p) (h1 : p < (i : Int)) (hi : i ≤ T.length) : gS (txs (T.take i)) p = gS (txs T) p := by
  obtain ⟨ws, h⟩ := txs_take T i
  unfold gS
  rw [h, List.getD_eq_getElem?_getD, List.getD_eq_getElem?_getD, List.getElem?_append_left (by rw [txs_len, List.length_take]; omega)]
theorem txs_at {T : List Tm} {i : Nat} {t : Tm} (hW : Wf T) (h : T[i]? = some t) : (txs T)[i]? = some (txtN t.1 (t.2.map (gS (txs T)))) := by
  have hi := (List.getElem?_eq_some_iff.mp h).1
  obtain ⟨ws, hw⟩ := txs_take T (i + 1)
  have e := take_snoc h
  have hl : (txs (T.take i)).length = i := by rw [txs_len, List.length_take]; omega
  have g : (txs T)[i]? = some (txtN t.1 (t.2.map (gS (txs (T.take i))))) := by
    rw [hw, e, txs_snoc, List.getElem?_append_left (by rw [List.length_append, hl]; simp), List.getElem?_append_right (by omega), hl]
    simp
  have em : t.2.map (gS (txs (T.take i))) = t.2.map (gS (txs T)) := List.map_congr_left fun p hp => by
    have := (hW i t h).2 p hp
    exact gS_take this.1 this.2 (by omega)
  rw [g, em]
theorem gS_at {us : List Str} {p : Int} {s : Str} (h0 : 0 ≤ p) (h : us[p.toNat]? = some s) : gS us p = s := by
  unfold gS
  rw [List.getD_eq_getElem?_getD, h]
  rfl
theorem atI_gS {us : List Str} {p : Int} (h0 : 0 ≤ p) (h1 : p < (us.length : Int)) : atI (us.map V.str) p = some (.str (gS us p)) := by
  have hk : p.toNat < us.length := by omega
  have e : p = ((p.toNat : Nat) : Int) := by omega
  have q : atI (us.map V.str) ((p.toNat : Nat) : Int) = some (.str us[p.toNat]) := atI_nat (by rw [List.getElem?_map, List.getElem?_eq_getElem hk]; rfl)
  rw [← e] at q
  rw [q, gS_at h0 (List.getElem?_eq_getElem hk)]
def Sm (us : List Str) : Prop := ∀ s ∈ us, s.length ≤ 2000
theorem Sm.g {us : List Str} (h : Sm us) (p : Int) : (gS us p).length ≤ 2000 := by
  unfold gS
  rw [List.getD_eq_getElem?_getD]
  cases e : us[p.toNat]? with
  | none => exact Nat.le_trans (Nat.le_of_eq c9) (by decide)
  | some s => exact h s (List.mem_of_getElem? e)
def atx (us : List Str) : At → Str
  | .plain z => z
  | .same a b => gS us a ++ " = " ++ gS us b
def aG (As : List At) (p : Int) : At := As.getD (p.natAbs - 1) (.plain "")
def ptx (us : List Str) (As : List At) (p : Int) : Str := if p < 0 then "not " ++ atx us (aG As p) else atx us (aG As p)
def rtx (us : List Str) (As : List At) (r : List Int) : Str := if r.isEmpty = true then "never" else Builtin.Str.glued " or " (r.map (ptx us As))
def wtx (us : List Str) (As : List At) (Rs : List (List Int)) : Str := Builtin.Str.glued "" (Rs.map fun r => rtx us As r ++ "\n")
/-- atoms that can be: names of up to 8, terms that there are -/
def AOk (n : Nat) : At → Prop
  | .plain z => z.length ≤ 8
  | .same a b => (0 ≤ a ∧ a < (n : Int)) ∧ (0 ≤ b ∧ b < (n : Int))
def POk (m : Nat) (p : Int) : Prop := p ≠ 0 ∧ -(m : Int) ≤ p ∧ p ≤ (m : Int)
theorem aG_at {As : List At} {p : Int} (h : POk As.length p) : As[p.natAbs - 1]? = some (aG As p) := by
  obtain ⟨h0, h1, h2⟩ := h
  unfold aG
  rw [List.getD_eq_getElem?_getD, List.getElem?_eq_getElem (by omega)]
  rfl
theorem aG_mem {As : List At} {p : Int} (h : POk As.length p) : aG As p ∈ As := List.mem_of_getElem? (aG_at h)
theorem atx_len {us : List Str} {n : Nat} {a : At} (hs : Sm us) (h : AOk n a) : (atx us a).length ≤ 4003 := by
  cases a with
  | plain z => exact Nat.le_trans h (by decide)
  | same x y =>
    have := hs.g x
    have := hs.g y
    simp only [atx]
    rw [app_len, app_len, c5]
    omega
theorem ptx_len {us : List Str} {n : Nat} {As : List At} {p : Int} (hs : Sm us) (h : ∀ a ∈ As, AOk n a) (hp : POk As.length p) : (ptx us As p).length ≤ 4007 := by
  have := atx_len hs (h _ (aG_mem hp))
  unfold ptx
  split
  · rw [app_len, c6]
    omega
  · omega
theorem ptxs_len {us : List Str} {n : Nat} {As : List At} {r : List Int} (hs : Sm us) (h : ∀ a ∈ As, AOk n a) (hp : ∀ p ∈ r, POk As.length p) : lenS (r.map (ptx us As)) ≤ 4007 * r.length := by
  have := lenS_le (m := 4007) (ss := r.map (ptx us As)) fun s hs' => by
    obtain ⟨p, hp', rfl⟩ := List.mem_map.mp hs'
    exact ptx_len hs h (hp p hp')
  rw [List.length_map] at this
  exact this
theorem rtx_len {us : List Str} {n : Nat} {As : List At} {r : List Int} (hs : Sm us) (h : ∀ a ∈ As, AOk n a) (hp : ∀ p ∈ r, POk As.length p) (h5 : r.length ≤ 10) : (rtx us As r).length ≤ 50000 := by
  unfold rtx
  split
  · exact Nat.le_trans (Nat.le_of_eq c8) (by decide)
  · have h1 := ptxs_len hs h hp
    have h2 := glued_len " or " (r.map (ptx us As))
    rw [c4, List.length_map] at h2
    omega
theorem rtxs_len {us : List Str} {n : Nat} {As : List At} {Rs : List (List Int)} (hs : Sm us) (h : ∀ a ∈ As, AOk n a) (hp : ∀ r ∈ Rs, r.length ≤ 10 ∧ ∀ p ∈ r, POk As.length p) : lenS (Rs.map fun r => rtx us As r ++ "\n") ≤ 50001 * Rs.length := by
  have := lenS_le (m := 50001) (ss := Rs.map fun r => rtx us As r ++ "\n") fun s hs' => by
    obtain ⟨r, hr, rfl⟩ := List.mem_map.mp hs'
    have := rtx_len hs h (hp r hr).2 (hp r hr).1
    rw [app_len, c7]
    omega
  rw [List.length_map] at this
  exact this
theorem wtx_len {us : List Str} {n : Nat} {As : List At} {Rs : List (List Int)} (hs : Sm us) (h : ∀ a ∈ As, AOk n a) (hp : ∀ r ∈ Rs, r.length ≤ 10 ∧ ∀ p ∈ r, POk As.length p) : (wtx us As Rs).length ≤ 50001 * Rs.length := by
  have h1 := rtxs_len hs h hp
  have h2 := glued_len "" (Rs.map fun r => rtx us As r ++ "\n")
  unfold wtx
  rw [c9] at h2
  omega
theorem empty_eq : ("" : Str) = Str.empty := rfl
theorem wtx_snoc (us : List Str) (As : List At) (Rs : List (List Int)) (r : List Int) : wtx us As (Rs ++ [r]) = wtx us As Rs ++ (rtx us As r ++ "\n") := by
  unfold wtx
  rw [List.map_append, empty_eq, List.map_singleton, glued_empty_snoc]
/-- an atom more changes no text of the parts ahead -/
theorem ptx_more {us : List Str} {As : List At} {p : Int} (b : At) (h : POk As.length p) : ptx us (As ++ [b]) p = ptx us As p := by
  have e : aG (As ++ [b]) p = aG As p := by
    have h1 := aG_at h
    have hl := (List.getElem?_eq_some_iff.mp h1).1
    unfold aG
    rw [List.getD_eq_getElem?_getD, List.getD_eq_getElem?_getD, List.getElem?_append_left hl]
  unfold ptx
  rw [e]
theorem wtx_more {us : List Str} {As : List At} (b : At) {Rs : List (List Int)} (h : ∀ r ∈ Rs, ∀ p ∈ r, POk As.length p) : wtx us (As ++ [b]) Rs = wtx us As Rs := by
  unfold wtx
  congr 1
  refine List.map_congr_left fun r hr => ?_
  unfold rtx
  rw [List.map_congr_left fun p hp => ptx_more b (h r hr p hp)]
theorem glued_two (sep x y : Str) : Builtin.Str.glued sep [x, y] = x ++ sep ++ y := by
  rw [show [x, y] = [x] ++ [y] from rfl, glued_snoc sep y (by simp), glued_one]
theorem lit1 : (("not " : Str)) ++ "zz" ++ " or " = "not zz or " := by decide +kernel
theorem lit2 : (("\n" : Str)) ++ ("never" ++ "\n") = "\nnever\n" := by decide +kernel
/-- the text behind an atom and two rows more -/
theorem wtx_end {us : List Str} {As : List At} {Rs : List (List Int)} (h : ∀ r ∈ Rs, ∀ p ∈ r, POk As.length p) :
    wtx us (As ++ [.plain "zz"]) (Rs ++ [[-(((As.length : Nat) : Int) + 1), 1]] ++ [[]]) = wtx us As Rs ++ "not zz or " ++ ptx us (As ++ [.plain "zz"]) 1 ++ "\nnever\n" := by
  have e : aG (As ++ [.plain "zz"]) (-(((As.length : Nat) : Int) + 1)) = .plain "zz" := by
    unfold aG
    rw [List.getD_eq_getElem?_getD, show (-(((As.length : Nat) : Int) + 1)).natAbs - 1 = As.length by omega, List.getElem?_append_right (Nat.le_refl _)]
    simp
  have e2 : ptx us (As ++ [.plain "zz"]) (-(((As.length : Nat) : Int) + 1)) = "not " ++ "zz" := by
    unfold ptx
    rw [if_pos (by omega), e]
    rfl
  have e3 : rtx us (As ++ [.plain "zz"]) [-(((As.length : Nat) : Int) + 1), 1] = "not " ++ "zz" ++ " or " ++ ptx us (As ++ [.plain "zz"]) 1 := by
    unfold rtx
    rw [if_neg (by simp), List.map_cons, List.map_cons, List.map_nil, glued_two, e2]
  have e4 : rtx us (As ++ [.plain "zz"]) [] = "never" := rfl
  rw [wtx_snoc, wtx_snoc, wtx_more _ h, e3, e4, lit1, ← lit2]
  generalize wtx us As Rs = a
  generalize ptx us (As ++ [.plain "zz"]) 1 = b
  simp only [app_assoc]
end K04

/-! law k04: the program's texts. Behind K04e. -/
namespace K04
open PySem L2
section
variable {P : Program} {w : World} {K : PySem.W.Frag} {mg : Str → Option Value} {base : Heap} {aK C CN CT CP CM : Addr} {f fT fA fP fR : Addr} {fd dT' dA' dP dR' : FuncData}
/-- a problem whose texts can be written -/
structure PrW (K : PySem.W.Frag) (C : Addr) (H : Hp) (p tl al rl : Addr) (T : List Tm) (As : List At) (Rs : List (List Int)) : Prop where
  pr : PrAt K C H p tl al rl T As Rs
  wf : Wf T
  sm : Sm (txs T)
  ao : ∀ a ∈ As, AOk T.length a
  nm : ∀ t ∈ T, t.1.length ≤ 8
theorem PrW.same {H H' : Hp} {p tl al rl : Addr} {T : List Tm} {As : List At} {Rs : List (List Int)} (h : PrW K C H p tl al rl T As Rs) (s : Same H H') : PrW K C H' p tl al rl T As Rs := ⟨h.pr.same s, h.wf, h.sm, h.ao, h.nm⟩
theorem hasT_at {H : Hp} {T : List Tm} {xs : List V} {i : Nat} {x : V} (h : HasL K H (T.map dT) xs) (e : xs[i]? = some x) : ∃ t q r, T[i]? = some t ∧ x = .ref q ∧ SqT K H q [.str t.1, .ref r] ∧ SqT K H r (t.2.map V.int) := by
  obtain ⟨d, e1, e2⟩ := h.get e
  rw [List.getElem?_map] at e1
  cases q : T[i]? with
  | none => rw [q] at e1; cases e1
  | some t =>
    rw [q] at e1
    cases e1
    simp only [dT, Has, HasL] at e2
    obtain ⟨p, ys, rfl, hp, v1, r1, rfl, rfl, v2, r2, rfl, ⟨r, zs, rfl, hr, hz⟩, rfl⟩ := e2
    rw [hasl_ints hz] at hr
    exact ⟨t, p, r, rfl, rfl, hp, hr⟩
theorem hasA_at {H : Hp} {As : List At} {xs : List V} {i : Nat} {x : V} (h : HasL K H (As.map dA) xs) (e : xs[i]? = some x) : ∃ a, As[i]? = some a ∧ Has K H (dA a) x := by
  obtain ⟨d, e1, e2⟩ := h.get e
  rw [List.getElem?_map] at e1
  cases q : As[i]? with
  | none => rw [q] at e1; cases e1
  | some t =>
    rw [q] at e1
    cases e1
    exact ⟨t, rfl, e2⟩
theorem hasR_at {H : Hp} {Rs : List (List Int)} {xs : List V} {i : Nat} {x : V} (h : HasL K H (Rs.map dR) xs) (e : xs[i]? = some x) : ∃ r q, Rs[i]? = some r ∧ x = .ref q ∧ SqT K H q (r.map V.int) := by
  obtain ⟨d, e1, e2⟩ := h.get e
  rw [List.getElem?_map] at e1
  cases q : Rs[i]? with
  | none => rw [q] at e1; cases e1
  | some t =>
    rw [q] at e1
    cases e1
    simp only [dR, Has] at e2
    obtain ⟨a, xs, rfl, hs, hl⟩ := e2
    rw [hasl_ints hl] at hs
    exact ⟨t, a, rfl, rfl, hs⟩
theorem has_plain {H : Hp} {z : Str} {x : V} (h : Has K H (dA (.plain z)) x) : ∃ q, x = .ref q ∧ SqT K H q [.str "plain", .str z] := by
  unfold dA at h
  simp only [Has, HasL] at h
  obtain ⟨a, xs, rfl, hs, v, r, rfl, rfl, v2, r2, rfl, rfl, rfl⟩ := h
  exact ⟨a, rfl, hs⟩
theorem has_same {H : Hp} {a b : Int} {x : V} (h : Has K H (dA (.same a b)) x) : ∃ q, x = .ref q ∧ SqT K H q [.str "same", .int a, .int b] := by
  unfold dA at h
  simp only [Has, HasL] at h
  obtain ⟨q, xs, rfl, hs, v, r, rfl, rfl, v2, r2, rfl, rfl, v3, r3, rfl, rfl, rfl⟩ := h
  exact ⟨q, rfl, hs⟩
/-- an item of a list by a number -/
theorem at_num {α : Type} {xs : List α} {i : Int} (h0 : 0 ≤ i) (h1 : i < (xs.length : Int)) : ∃ x, xs[i.toNat]? = some x ∧ atI xs i = some x := by
  have hk : i.toNat < xs.length := by omega
  have e : i = ((i.toNat : Nat) : Int) := by omega
  have q : atI xs ((i.toNat : Nat) : Int) = some xs[i.toNat] := atI_nat (List.getElem?_eq_getElem hk)
  rw [← e] at q
  exact ⟨_, List.getElem?_eq_getElem hk, q⟩
def sp_sterm (K : PySem.W.Frag) (C : Addr) (n : Nat) : Sp := fun vs H Q _ => ∃ (p tl al rl : Addr) (T : List Tm) (As : List At) (Rs : List (List Int)) (k : Int), vs = [.ref p, .int k] ∧ PrW K C H p tl al rl T As Rs ∧ 0 ≤ k ∧ k < (T.length : Int) ∧ k < (n : Int) ∧ ∀ H', Same H H' → Q (.str (gS (txs T) k)) H'
theorem sc_shown_term : FnScope ["problem", "number", "term", "within"] ["problem", "number"] (defScope s_shown_term) := ⟨rfl, rfl, rfl, by decide +kernel, rfl, by decide +kernel, by decide +kernel⟩
set_option maxHeartbeats 1000000 in
theorem ok_sterm (F : Fun K "shown_term" "shown_term" s_shown_term f fd) (T : Txt K mg aK C CN CT CP CM) (b : Binds K fd ["problem", "number"] []) (kp : PySem.W.keepIn K (.ref f) = true) (m : mg "shown_term" = some (.ref f)) : ∀ n, FnOk P w K mg base CX0 n f fd ["problem", "number"] (sp_sterm K C n)
  | 0 => ⟨fun vs H Q E ⟨_, _, _, _, _, _, _, _, _, _, h0, _, h, _⟩ => by omega, fun A outer s H args us vs Q E _ _ _ _ ⟨_, _, _, _, _, _, _, _, _, _, h0, _, h, _⟩ => by omega⟩
  | n + 1 => by
    have IH := ok_sterm F T b kp m n
    refine F.ok sc_shown_term (fun vs H Q E h => ?_) (fun cdv A outer s H vs Q E hr h => ?_)
    · obtain ⟨p, tl, al, rl, T, As, Rs, k, rfl, _⟩ := h
      rfl
    obtain ⟨p, tl, al, rl, T', As, Rs, k, rfl, hP, k0, k1, kn, q⟩ := h
    refine ⟨_, (pss_cons (ps_set (i := 2) sc_shown_term.nd rfl (Or.inl rfl) (pe_ix ix_list (pe_fld (pv 0) rfl) (pv 1) (fun _ _ => rfl)))
      (pss_cons (ps_if (pt_cmpR op_eq (pe_callB call_len_seq rfl T.len PySem.boot_len (pa_cons (pe_ix ix_tup (pv 2) pe_int (fun _ _ => rfl)) pa_nil)) pe_int (nomark _))
        (pss_one (ps_ret (pe_ix ix_tup (pv 2) pe_int (fun _ _ => rfl))))
        pss_nil)
      (pss_cons (ps_set (i := 3) sc_shown_term.nd rfl (Or.inl rfl) (pe_bm PySem.F.plainAttrs_str PySem.F.slot_str_join PySem.F.type_str_join mt_join pe_str (pa_cons (pe_lc (N' := ["part", "problem"]) (ix := [0]) rfl rfl (by decide +kernel) (by decide +kernel) rfl (fun ok => clo_of (sc := defScope s_shown_term) ok rfl (by decide +kernel) (by decide +kernel)) (by decide +kernel) rfl rfl (fun j i h => match j, h with | 0, h => by cases h; exact ⟨_, rfl, rfl, .inl rfl, .inl rfl⟩ | n + 1, h => by simp at h) (pi_tup (pe_ix ix_tup (pv 2) pe_int (fun _ _ => rfl))) (fun _ _ _ _ => (pe_call IH hr rfl m kp b .nil pass0 (pa_cons (pv 1) (pa_cons (pv 0) pa_nil))))) pa_nil)))
      (pss_one (ps_ret (pe_op op_add_str (pe_op op_add_str (pe_op op_add_str (pe_ix ix_tup (pv 2) pe_int (fun _ _ => rfl)) pe_str) (pv 3)) pe_str)))))), ?_⟩
    obtain ⟨dx, xs, ho, hx, xl⟩ := hP.pr.lenT
    obtain ⟨xs', hx', hxs⟩ := hP.pr.tm
    cases hx.symm.trans hx'
    obtain ⟨x, e1, e2⟩ := at_num (xs := xs) k0 (by omega)
    obtain ⟨t, tq, r, ht, rfl, hq, hr'⟩ := hasT_at hxs e1
    have wf := hP.wf _ t ht
    have tx := txs_at hP.wf ht
    have gx := gS_at k0 tx
    have nm := hP.nm t (List.mem_of_getElem? ht)
    rw [gx] at q
    refine ⟨_, rfl, p, C, dx, _, _, rfl, ho, T.cl, T.nT, flds_terms _ _ _, _, rfl, tl, _, _, _, rfl, rfl, SqL.of hx, e2, ?_⟩
    refine ⟨_, rfl, tq, _, _, _, rfl, rfl, hq, rfl, r, _, rfl, .inr hr', rfl, _, rfl, ite2 (fun c => ?_) (fun c => ?_)⟩
    · have c' : (((t.2.map V.int).length : Nat) : Int) = 0 := by
        have := of_decide_eq_true c
        injection this
      rw [List.length_map] at c'
      have e : t.2 = [] := List.length_eq_zero_iff.mp (by omega)
      refine ⟨_, rfl, tq, _, _, _, rfl, rfl, hq, rfl, ?_⟩
      have := q H (Same.refl H)
      rw [e] at this
      exact this
    have hne : t.2 ≠ [] := fun e => c (by rw [e]; decide)
    refine ⟨rfl, _, rfl, tq, _, _, _, rfl, rfl, hq, rfl, r, rfl, ⟨_, hr'⟩, fun D hD => lc_by wk_tup (fun i us H' => Same H H' ∧ us = ((t.2.take i).map (gS (txs T'))).map V.str) (fun i us H' ⟨s4, _⟩ => s4.tup hr') ⟨sameNew hD _, rfl⟩ ?_ ?_⟩
    · rintro i us H8 x H4 hi hly hDs ⟨s4, rfl⟩ ⟨rfl, hx4⟩
      obtain ⟨k', hk', rfl⟩ := ints_at (hx4 _ (s4.tup hr'))
      have kb := wf.2 k' (List.mem_of_getElem? hk')
      refine ⟨_, rfl, _, rfl, p, tl, al, rl, T', As, Rs, k', rfl, hP.same s4, kb.1, by omega, by omega, fun H5 s5 => lc_post (szM (by rw [List.length_map]; omega)) hi hly (s5 _ _ hDs) ⟨(s4.trans s5).upd hD, ?_⟩⟩
      rw [take_snoc hk', List.map_append, List.map_append]
      rfl
    rintro us H4 hDs ⟨s4, rfl⟩
    rw [List.length_map, List.take_of_length_le (Nat.le_refl _)] at hDs
    have ls : lenS (t.2.map (gS (txs T'))) ≤ 2000 * t.2.length := by
      have := lenS_le (m := 2000) (ss := t.2.map (gS (txs T'))) fun s hs => by
        obtain ⟨p', _, rfl⟩ := List.mem_map.mp hs
        exact hP.sm.g p'
      rw [List.length_map] at this
      exact this
    have gl := glued_len ", " (t.2.map (gS (txs T')))
    rw [c3, List.length_map] at gl
    refine ⟨", ", D, _, rfl, rfl, SqL.of hDs, szM (by rw [c3, List.length_map]; omega), ?_⟩
    refine ⟨_, rfl, tq, _, _, _, rfl, rfl, s4.tup hq, rfl, _, _, rfl, rfl, szM (by rw [c1]; omega), _, rfl, _, _, rfl, rfl, szM (by rw [app_len, c1]; omega), _, _, rfl, rfl, szM (by rw [app_len, app_len, c1, c2]; omega), ?_⟩
    have e : txtN t.1 (t.2.map (gS (txs T'))) = t.1 ++ "(" ++ Builtin.Str.glued ", " (t.2.map (gS (txs T'))) ++ ")" := by
      unfold txtN
      rw [if_neg (by
        cases e : t.2 with
        | nil => exact absurd e hne
        | cons a l => simp)]
    rw [← e]
    exact q H4 s4
def sp_satom (K : PySem.W.Frag) (C : Addr) : Sp := fun vs H Q _ => ∃ (p tl al rl : Addr) (T : List Tm) (As : List At) (Rs : List (List Int)) (k : Int), vs = [.ref p, .int k] ∧ PrW K C H p tl al rl T As Rs ∧ 1 ≤ k ∧ k ≤ (As.length : Int) ∧ T.length ≤ 61 ∧ ∀ H', Same H H' → Q (.str (atx (txs T) (aG As k))) H'
theorem sc_shown_atom : FnScope ["problem", "number", "atom"] ["problem", "number"] (defScope s_shown_atom) := ⟨rfl, rfl, rfl, by decide +kernel, rfl, by decide +kernel, by decide +kernel⟩
theorem ok_satom (F : Fun K "shown_atom" "shown_atom" s_shown_atom f fd) (T : Txt K mg aK C CN CT CP CM) (BT : FB P w K mg base CX0 61 "shown_term" fT dT' ["problem", "number"] (sp_sterm K C 61)) : FnOk P w K mg base CX0 62 f fd ["problem", "number"] (sp_satom K C) := by
  refine F.ok sc_shown_atom (fun vs H Q E h => ?_) (fun cdv A outer s H vs Q E hr h => ?_)
  · obtain ⟨p, tl, al, rl, T, As, Rs, k, rfl, _⟩ := h
    rfl
  obtain ⟨p, tl, al, rl, T', As, Rs, k, rfl, hP, k0, k1, t61, q⟩ := h
  refine ⟨_, (pss_cons (ps_set (i := 2) sc_shown_atom.nd rfl (Or.inl rfl) (pe_ix ix_list (pe_fld (pv 0) rfl) (pe_op op_sub (pv 1) pe_int) (fun _ _ => rfl)))
    (pss_cons (ps_if (pt_cmpR op_eq (pe_ix ix_tup (pv 2) pe_int (fun _ _ => rfl)) pe_str (nomark _))
      (pss_one (ps_ret (pe_ix ix_tup (pv 2) pe_int (fun _ _ => rfl))))
      pss_nil)
    (pss_one (ps_ret (pe_op op_add_str (pe_op op_add_str (pe_call BT.ok hr rfl BT.m BT.kp BT.b .nil pass0 (pa_cons (pv 0) (pa_cons (pe_ix ix_tup (pv 2) pe_int (fun _ _ => rfl)) pa_nil))) pe_str) (pe_call BT.ok hr rfl BT.m BT.kp BT.b .nil pass0 (pa_cons (pv 0) (pa_cons (pe_ix ix_tup (pv 2) pe_int (fun _ _ => rfl)) pa_nil)))))))), ?_⟩
  obtain ⟨dx, xs, ho, hx, xl⟩ := hP.pr.lenA
  obtain ⟨xs', hx', hxs⟩ := hP.pr.am
  cases hx.symm.trans hx'
  obtain ⟨x, e1, e2⟩ := at_num (xs := xs) (i := k - 1) (by omega) (by omega)
  obtain ⟨a, ha, hax⟩ := hasA_at hxs e1
  have pk : POk As.length k := ⟨by omega, by omega, by omega⟩
  have ea : aG As k = a := by
    have := aG_at pk
    rw [show k.natAbs - 1 = (k - 1).toNat by omega, ha] at this
    exact (Option.some.inj this).symm
  rw [ea] at q
  have aok := hP.ao a (List.mem_of_getElem? ha)
  refine ⟨_, rfl, p, C, dx, _, _, rfl, ho, T.cl, T.nA, flds_atoms _ _ _, _, rfl, _, _, rfl, rfl, al, _, _, _, rfl, rfl, SqL.of hx, e2, ?_⟩
  cases a with
  | plain z =>
    obtain ⟨aq, rfl, hq⟩ := has_plain hax
    exact ⟨_, rfl, aq, _, _, _, rfl, rfl, hq, rfl, rfl, _, rfl, ite2 (fun _ => ⟨_, rfl, aq, _, _, _, rfl, rfl, hq, rfl, q H (Same.refl H)⟩) (fun c => absurd (show _ = true by decide +kernel) c)⟩
  | same x y =>
    obtain ⟨aq, rfl, hq⟩ := has_same hax
    have g1 := hP.sm.g x
    have g2 := hP.sm.g y
    refine ⟨_, rfl, aq, _, _, _, rfl, rfl, hq, rfl, rfl, _, rfl, ite2 (fun c => absurd c (by decide +kernel)) (fun _ => ?_)⟩
    refine ⟨_, rfl, _, rfl, aq, _, _, _, rfl, rfl, hq, rfl, p, tl, al, rl, T', As, Rs, x, rfl, hP, aok.1.1, aok.1.2, by have := aok.1.2; omega, fun H1 s1 => ⟨_, _, rfl, rfl, szM (by rw [c5]; omega), _, rfl, _, rfl, aq, _, _, _, rfl, rfl, s1.tup hq, rfl, p, tl, al, rl, T', As, Rs, y, rfl, hP.same s1, aok.2.1, aok.2.2, by have := aok.2.2; omega, fun H2 s2 => ⟨_, _, rfl, rfl, szM (by rw [app_len, c5]; omega), q H2 (s1.trans s2)⟩⟩⟩
def sp_spart (K : PySem.W.Frag) (C : Addr) : Sp := fun vs H Q _ => ∃ (p tl al rl : Addr) (T : List Tm) (As : List At) (Rs : List (List Int)) (k : Int), vs = [.ref p, .int k] ∧ PrW K C H p tl al rl T As Rs ∧ POk As.length k ∧ T.length ≤ 61 ∧ ∀ H', Same H H' → Q (.str (ptx (txs T) As k)) H'
theorem sc_shown_part : FnScope ["problem", "part"] ["problem", "part"] (defScope s_shown_part) := ⟨rfl, rfl, rfl, by decide +kernel, rfl, by decide +kernel, by decide +kernel⟩
theorem aG_neg (As : List At) (k : Int) : aG As (-k) = aG As k := by
  unfold aG
  rw [Int.natAbs_neg]
theorem ok_spart (F : Fun K "shown_part" "shown_part" s_shown_part f fd) (BA : FB P w K mg base CX0 62 "shown_atom" fA dA' ["problem", "number"] (sp_satom K C)) : FnOk P w K mg base CX0 63 f fd ["problem", "part"] (sp_spart K C) := by
  refine F.ok sc_shown_part (fun vs H Q E h => ?_) (fun cdv A outer s H vs Q E hr h => ?_)
  · obtain ⟨p, tl, al, rl, T, As, Rs, k, rfl, _⟩ := h
    rfl
  obtain ⟨p, tl, al, rl, T', As, Rs, k, rfl, hP, pk, t61, q⟩ := h
  refine ⟨_, (pss_cons (ps_if (pt_cmpR op_lt (pv 1) pe_int (nomark _))
      (pss_one (ps_ret (pe_op op_add_str pe_str (pe_call BA.ok hr rfl BA.m BA.kp BA.b .nil pass0 (pa_cons (pv 0) (pa_cons (pe_un un_neg (pv 1)) pa_nil))))))
      pss_nil)
    (pss_one (ps_ret (pe_call BA.ok hr rfl BA.m BA.kp BA.b .nil pass0 (pa_cons (pv 0) (pa_cons (pv 1) pa_nil)))))), ?_⟩
  have al' := atx_len hP.sm (hP.ao _ (aG_mem pk))
  obtain ⟨p0, p1, p2⟩ := pk
  refine ⟨_, rfl, _, _, rfl, rfl, _, rfl, ite2 (fun c => ?_) (fun c => ?_)⟩
  · have c' : k < 0 := of_decide_eq_true c
    refine ⟨_, rfl, _, rfl, _, rfl, p, tl, al, rl, T', As, Rs, -k, rfl, hP, by omega, by omega, t61, fun H1 s1 => ?_⟩
    have := q H1 s1
    unfold ptx at this
    rw [if_pos c'] at this
    rw [aG_neg]
    exact ⟨_, _, rfl, rfl, szM (by rw [c6]; omega), this⟩
  · have c' : ¬ k < 0 := fun z => c (decide_eq_true z)
    refine ⟨_, rfl, _, rfl, p, tl, al, rl, T', As, Rs, k, rfl, hP, by omega, by omega, t61, fun H1 s1 => ?_⟩
    have := q H1 s1
    unfold ptx at this
    rw [if_neg c'] at this
    exact this
def sp_srow (K : PySem.W.Frag) (C : Addr) : Sp := fun vs H Q _ => ∃ (p tl al rl r : Addr) (T : List Tm) (As : List At) (Rs : List (List Int)) (ks : List Int), vs = [.ref p, .ref r] ∧ PrW K C H p tl al rl T As Rs ∧ SqT K H r (ks.map V.int) ∧ (∀ k ∈ ks, POk As.length k) ∧ ks.length ≤ 10 ∧ T.length ≤ 61 ∧ ∀ H', Same H H' → Q (.str (rtx (txs T) As ks)) H'
theorem sc_shown_row : FnScope ["problem", "row"] ["problem", "row"] (defScope s_shown_row) := ⟨rfl, rfl, rfl, by decide +kernel, rfl, by decide +kernel, by decide +kernel⟩
theorem ok_srow (F : Fun K "shown_row" "shown_row" s_shown_row f fd) (T : Txt K mg aK C CN CT CP CM) (BP : FB P w K mg base CX0 63 "shown_part" fP dP ["problem", "part"] (sp_spart K C)) : FnOk P w K mg base CX0 64 f fd ["problem", "row"] (sp_srow K C) := by
  refine F.ok sc_shown_row (fun vs H Q E h => ?_) (fun cdv A outer s H vs Q E hr h => ?_)
  · obtain ⟨p, tl, al, rl, r, T, As, Rs, ks, rfl, _⟩ := h
    rfl
  obtain ⟨p, tl, al, rl, r, T', As, Rs, ks, rfl, hP, hr', kok, k10, t61, q⟩ := h
  refine ⟨_, (pss_cons (ps_if (pt_cmpR op_eq (pe_callB call_len_seq rfl T.len PySem.boot_len (pa_cons (pv 1) pa_nil)) pe_int (nomark _))
      (pss_one (ps_ret pe_str))
      pss_nil)
    (pss_one (ps_ret (pe_bm PySem.F.plainAttrs_str PySem.F.slot_str_join PySem.F.type_str_join mt_join pe_str (pa_cons (pe_lc (N' := ["part", "problem"]) (ix := [0]) rfl rfl (by decide +kernel) (by decide +kernel) rfl (fun ok => clo_of (sc := defScope s_shown_row) ok rfl (by decide +kernel) (by decide +kernel)) (by decide +kernel) rfl rfl (fun j i h => match j, h with | 0, h => by cases h; exact ⟨_, rfl, rfl, .inl rfl, .inl rfl⟩ | n + 1, h => by simp at h) (pi_tup (pv 1)) (fun _ _ _ _ => (pe_call BP.ok hr rfl BP.m BP.kp BP.b .nil pass0 (pa_cons (pv 1) (pa_cons (pv 0) pa_nil))))) pa_nil))))), ?_⟩
  refine ⟨_, rfl, r, _, rfl, .inr hr', rfl, _, rfl, ite2 (fun c => ?_) (fun c => ?_)⟩
  · have c' : (((ks.map V.int).length : Nat) : Int) = 0 := by
      have := of_decide_eq_true c
      injection this
    rw [List.length_map] at c'
    have e : ks = [] := List.length_eq_zero_iff.mp (by omega)
    subst e
    exact q H (Same.refl H)
  have hne : ks ≠ [] := fun e => c (by rw [e]; decide)
  refine ⟨rfl, _, rfl, r, rfl, ⟨_, hr'⟩, fun D hD => lc_by wk_tup (fun i us H' => Same H H' ∧ us = ((ks.take i).map (ptx (txs T') As)).map V.str) (fun i us H' ⟨s4, _⟩ => s4.tup hr') ⟨sameNew hD _, rfl⟩ ?_ ?_⟩
  · rintro i us H8 x H4 hi hly hDs ⟨s4, rfl⟩ ⟨rfl, hx4⟩
    obtain ⟨k', hk', rfl⟩ := ints_at (hx4 _ (s4.tup hr'))
    refine ⟨_, rfl, _, rfl, p, tl, al, rl, T', As, Rs, k', rfl, hP.same s4, kok k' (List.mem_of_getElem? hk'), t61, fun H5 s5 => lc_post (szM (by rw [List.length_map]; omega)) hi hly (s5 _ _ hDs) ⟨(s4.trans s5).upd hD, ?_⟩⟩
    rw [take_snoc hk', List.map_append, List.map_append]
    rfl
  rintro us H4 hDs ⟨s4, rfl⟩
  rw [List.length_map, List.take_of_length_le (Nat.le_refl _)] at hDs
  have pl := ptxs_len hP.sm hP.ao kok
  refine ⟨" or ", D, _, rfl, rfl, SqL.of hDs, szM (by rw [c4, List.length_map]; omega), ?_⟩
  have := q H4 s4
  unfold rtx at this
  rw [if_neg (by
    cases ks with
    | nil => exact absurd rfl hne
    | cons a l => simp)] at this
  exact this
def sp_written (K : PySem.W.Frag) (C : Addr) : Sp := fun vs H Q _ => ∃ (p tl al rl : Addr) (T : List Tm) (As : List At) (Rs : List (List Int)), vs = [.ref p] ∧ PrW K C H p tl al rl T As Rs ∧ (∀ r ∈ Rs, r.length ≤ 10 ∧ ∀ k ∈ r, POk As.length k) ∧ Rs.length ≤ 20 ∧ T.length ≤ 61 ∧ ∀ H', Same H H' → Q (.str (wtx (txs T) As Rs)) H'
theorem sc_written : FnScope ["problem"] ["problem"] (defScope s_written) := ⟨rfl, rfl, rfl, by decide +kernel, rfl, by decide +kernel, by decide +kernel⟩
theorem ok_written (F : Fun K "written" "written" s_written f fd) (T : Txt K mg aK C CN CT CP CM) (BR : FB P w K mg base CX0 64 "shown_row" fR dR' ["problem", "row"] (sp_srow K C)) : FnOk P w K mg base CX0 65 f fd ["problem"] (sp_written K C) := by
  refine F.ok sc_written (fun vs H Q E h => ?_) (fun cdv A outer s H vs Q E hr h => ?_)
  · obtain ⟨p, tl, al, rl, T, As, Rs, rfl, _⟩ := h
    rfl
  obtain ⟨p, tl, al, rl, T', As, Rs, rfl, hP, rok, r20, t61, q⟩ := h
  refine ⟨_, (pss_one (ps_ret (pe_bm PySem.F.plainAttrs_str PySem.F.slot_str_join PySem.F.type_str_join mt_join pe_str (pa_cons (pe_lc (N' := ["row", "problem"]) (ix := [0]) rfl rfl (by decide +kernel) (by decide +kernel) rfl (fun ok => clo_of (sc := defScope s_written) ok rfl (by decide +kernel) (by decide +kernel)) (by decide +kernel) rfl rfl (fun j i h => match j, h with | 0, h => by cases h; exact ⟨_, rfl, rfl, .inl rfl, .inl rfl⟩ | n + 1, h => by simp at h) (pi_list (pe_fld (pv 0) rfl)) (fun _ _ _ _ => (pe_op op_add_str (pe_call BR.ok hr rfl BR.m BR.kp BR.b .nil pass0 (pa_cons (pv 1) (pa_cons (pv 0) pa_nil))) pe_str))) pa_nil)))), ?_⟩
  obtain ⟨dx, xs, ho, hx, xl⟩ := hP.pr.lenR
  obtain ⟨xs', hx', hxs⟩ := hP.pr.rm
  cases hx.symm.trans hx'
  refine ⟨rfl, _, rfl, p, C, dx, _, _, rfl, ho, T.cl, T.nR, flds_rows _ _ _, rl, rfl, ⟨_, SqL.of hx⟩, fun D hD => lc_by wk_list (fun i us H' => Same H H' ∧ us = ((Rs.take i).map fun r => rtx (txs T') As r ++ "\n").map V.str) (fun i us H' ⟨s4, _⟩ => SqL.of (s4 _ _ hx)) ⟨sameNew hD _, rfl⟩ ?_ ?_⟩
  · rintro i us H8 x H4 hi hly hDs ⟨s4, rfl⟩ ⟨rfl, hx4⟩
    obtain ⟨r, rq, hrr, rfl, hrq⟩ := hasR_at (hxs.keep s4.kt (nols_code nol_dR _)) (hx4 _ (SqL.of (s4 _ _ hx)))
    have rk := rok r (List.mem_of_getElem? hrr)
    have rl' := rtx_len hP.sm hP.ao rk.2 rk.1
    refine ⟨_, rfl, _, rfl, p, tl, al, rl, rq, T', As, Rs, r, rfl, hP.same s4, hrq, rk.2, rk.1, t61, fun H5 s5 => ⟨_, _, rfl, rfl, szM (by rw [c7]; omega), lc_post (szM (by omega)) hi hly (s5 _ _ hDs) ⟨(s4.trans s5).upd hD, ?_⟩⟩⟩
    rw [take_snoc hrr, List.map_append, List.map_append]
    rfl
  rintro us H4 hDs ⟨s4, rfl⟩
  rw [xl, List.take_of_length_le (Nat.le_refl _)] at hDs
  have pl := rtxs_len hP.sm hP.ao rok
  exact ⟨"", D, _, rfl, rfl, SqL.of hDs, szM (by rw [c9, List.length_map]; omega), q H4 s4⟩
end
end K04

/-! law k04: the law's own texts. Behind K04f. -/
namespace K04
open PySem L2
section
variable {P : Program} {w : World} {K : PySem.W.Frag} {mg : Str → Option Value} {base : Heap} {aK C CN CT CP CM : Addr} {f fP : Addr} {fd dP : FuncData}
def sp_texts (K : PySem.W.Frag) : Sp := fun vs H Q _ => ∃ (tl : Addr) (xs : List V) (T : List Tm), vs = [.ref tl] ∧ SqL K H tl xs ∧ HasL K H (T.map dT) xs ∧ Wf T ∧ Sm (txs T) ∧ (∀ t ∈ T, t.1.length ≤ 8) ∧ T.length ≤ 61 ∧
  ∀ (H' : Hp) (l : Addr), Same H H' → H l = none → H' l = some (.lst ((txs T).map V.str)) → Q (.ref l) H'
theorem sc__law_texts : FnScope ["_law_terms_here", "_law_texts_here", "_law_name", "_law_parts", "_law_inner"] ["_law_terms_here"] (defScope s__law_texts) := ⟨rfl, rfl, rfl, by decide +kernel, rfl, by decide +kernel, by decide +kernel⟩
theorem Sm.take {T : List Tm} (h : Sm (txs T)) (i : Nat) : Sm (txs (T.take i)) := fun s hs => by
  obtain ⟨ws, e⟩ := txs_take T i
  exact h s (by rw [e]; exact List.mem_append_left _ hs)
set_option maxHeartbeats 1000000 in
theorem ok_texts (F : Fun K "_law_texts" "_law_texts" s__law_texts f fd) (T : Txt K mg aK C CN CT CP CM) : FnOk P w K mg base CX0 1 f fd ["_law_terms_here"] (sp_texts K) := by
  refine F.ok sc__law_texts (fun vs H Q E h => ?_) (fun cdv A outer s H vs Q E hr h => ?_)
  · obtain ⟨tl, xs, T, rfl, _⟩ := h
    rfl
  obtain ⟨tl, xs, T', rfl, hT, hL, wf, sm, nm, t61, q⟩ := h
  have hu := hu64 hr
  have xl : xs.length = T'.length := by rw [← hL.length, List.length_map]
  refine ⟨_, (pss_cons (ps_set (i := 1) sc__law_texts.nd rfl (Or.inr rfl) (pe_lst pa_nil))
    (pss_cons (ps_for PassesOwn.never rfl (pi_list (pv 0)) (pg_tup rfl (pgs_cons (pg_name (i := 2) sc__law_texts.nd rfl (Or.inl rfl)) (pgs_cons (pg_name (i := 3) sc__law_texts.nd rfl (Or.inl rfl)) pgs_nil)))
      (pss_cons (ps_set (i := 4) sc__law_texts.nd rfl (Or.inl rfl) (pe_bm PySem.F.plainAttrs_str PySem.F.slot_str_join PySem.F.type_str_join mt_join pe_str (pa_cons (pe_lc (N' := ["_law_part", "_law_texts_here"]) (ix := [1]) rfl rfl (by decide +kernel) (by decide +kernel) rfl (fun ok => clo_of (sc := defScope s__law_texts) ok rfl (by decide +kernel) (by decide +kernel)) (by decide +kernel) rfl rfl (fun j i h => match j, h with | 0, h => by cases h; exact ⟨_, rfl, rfl, .inl rfl, .inl rfl⟩ | n + 1, h => by simp at h) (pi_tup (pv 3)) (fun _ _ _ _ => (pe_ix (r := rIxL K) ix_list (pv 1) (pv 0) (fun _ _ => rfl)))) pa_nil)))
        (pss_one (ps_if (pt_cmpR (op_eqD hu) (pv 3) (pe_tup pa_nil) rfl)
          (pss_one (ps_expr (pe_bm PySem.F.plainAttrs_list PySem.F.slot_list_append PySem.F.type_list_append mt_append (pv 1) (pa_cons (pv 2) pa_nil))))
          (pss_one (ps_expr (pe_bm PySem.F.plainAttrs_list PySem.F.slot_list_append PySem.F.type_list_append mt_append (pv 1) (pa_cons (pe_op op_add_str (pe_op op_add_str (pe_op op_add_str (pv 2) pe_str) (pv 4)) pe_str) pa_nil))))))))
    (pss_one (ps_ret (pv 1))))), ?_⟩
  refine ⟨(by show 0 ≤ sizeLine; decide), fun l hl => ?_⟩
  have s1 : Same H (upd H l (.lst [])) := sameNew hl _
  have n1 := upd_same (H := H) (a := l) (o := .lst [])
  generalize upd H l (.lst []) = H1 at s1 n1
  refine ⟨_, rfl, tl, rfl, ⟨_, s1.seq hT⟩, for_by wk_list (fun i σ H' => ∃ (v2 v3 v4 : Option V), σ = [some (.ref tl), some (.ref l), v2, v3, v4] ∧ Same H H' ∧ H' l = some (.lst ((txs (T'.take i)).map V.str)))
    (fun i σ H' ⟨_, _, _, _, s2, _⟩ => s2.seq hT) ⟨none, none, none, rfl, s1, n1⟩ ?_ ?_⟩
  · rintro i σ H9 x H2 hi ⟨v2, v3, v4, rfl, s2, hl2⟩ ⟨rfl, hx⟩
    obtain ⟨t, p, r, ht, rfl, hp, hr'⟩ := hasT_at (hL.keep s2.kt (nols_dTs _)) (hx _ (s2.seq hT))
    have tin := wf i t ht
    have smi := sm.take i
    have ti : (txs (T'.take i)).length = i := by
      have := (List.getElem?_eq_some_iff.mp ht).1
      rw [txs_len, List.length_take]
      omega
    have tn := nm t (List.mem_of_getElem? ht)
    refine ⟨p, _, rfl, hp, rfl, _, _, rfl, _, _, rfl, rfl, ?_⟩
    refine ⟨rfl, _, rfl, r, rfl, ⟨_, hr'⟩, fun D hD => lc_by wk_tup (fun j us H' => Same H2 H' ∧ us = ((t.2.take j).map (gS (txs (T'.take i)))).map V.str) (fun j us H' ⟨s4, _⟩ => s4.tup hr') ⟨sameNew hD _, rfl⟩ ?_ ?_⟩
    · rintro j us H8 x H4 hj hly hDs ⟨s4, rfl⟩ ⟨rfl, hx4⟩
      obtain ⟨k', hk', rfl⟩ := ints_at (hx4 _ (s4.tup hr'))
      have kb := tin.2 k' (List.mem_of_getElem? hk')
      refine ⟨_, rfl, _, rfl, l, _, _, _, rfl, rfl, SqL.of (s4 _ _ hl2), atI_gS kb.1 (by rw [ti]; exact kb.2), lc_post (szM (by rw [List.length_map]; omega)) hj hly hDs ⟨s4.upd hD, ?_⟩⟩
      rw [take_snoc hk', List.map_append, List.map_append]
      rfl
    rintro us H4 hDs ⟨s4, rfl⟩
    rw [List.length_map, List.take_of_length_le (Nat.le_refl _)] at hDs
    have ls : lenS (t.2.map (gS (txs (T'.take i)))) ≤ 2000 * t.2.length := by
      have := lenS_le (m := 2000) (ss := t.2.map (gS (txs (T'.take i)))) fun s hs => by
        obtain ⟨p', _, rfl⟩ := List.mem_map.mp hs
        exact smi.g p'
      rw [List.length_map] at this
      exact this
    have gl := glued_len ", " (t.2.map (gS (txs (T'.take i))))
    rw [c3, List.length_map] at gl
    refine ⟨", ", D, _, rfl, rfl, SqL.of hDs, szM (by rw [c3, List.length_map]; omega), ?_⟩
    refine ⟨_, rfl, (by show 0 ≤ sizeLine; decide), fun e he => ?_⟩
    have s5 : Same H4 (upd H4 e (.tup [])) := sameNew he _
    have n5 := upd_same (H := H4) (a := e) (o := .tup [])
    generalize upd H4 e (.tup []) = H5 at s5 n5
    have s25 := s4.trans s5
    have hl5 := s25 _ _ hl2
    refine ⟨.tup (t.2.map Dt.int), .tup [], Has.tup' (s25.tup hr') (HasL.ints _), Has.tup' (SqT.of n5) HasL.nil, (by simp only [dep, deps_ints]; decide), _, rfl, ?_⟩
    by_cases hne : t.2 = []
    · have e1 : peq (.tup (t.2.map Dt.int)) (.tup []) = true := by rw [hne]; rfl
      rw [e1]
      refine iteT ⟨_, rfl, .inl ⟨rfl, _, SqL.of hl5⟩, _, rfl, l, _, _, rfl, rfl, hl5, small1000 (by rw [List.length_map, ti]; omega), _, _, _, rfl, (s2.trans s25).upd hl, ?_⟩
      rw [take_snoc ht, txs_snoc, hne, List.map_append, upd_same]
      rfl
    · have e1 : peq (.tup (t.2.map Dt.int)) (.tup []) = false := by
        cases e2 : t.2 with
        | nil => exact absurd e2 hne
        | cons a b => rfl
      rw [e1]
      refine iteF ⟨_, rfl, .inl ⟨rfl, _, SqL.of hl5⟩, _, rfl, _, _, rfl, rfl, szM (by rw [c1]; omega), _, rfl, _, _, rfl, rfl, szM (by rw [app_len, c1]; omega), _, _, rfl, rfl, szM (by rw [app_len, app_len, c1, c2]; omega), l, _, _, rfl, rfl, hl5, small1000 (by rw [List.length_map, ti]; omega), _, _, _, rfl, (s2.trans s25).upd hl, ?_⟩
      have e3 : txtN t.1 (t.2.map (gS (txs (T'.take i)))) = t.1 ++ "(" ++ Builtin.Str.glued ", " (t.2.map (gS (txs (T'.take i)))) ++ ")" := by
        unfold txtN
        rw [if_neg (by
          cases e : t.2 with
          | nil => exact absurd e hne
          | cons a l => simp)]
      rw [take_snoc ht, txs_snoc, List.map_append, upd_same, e3]
      rfl
  · rintro σ H2 ⟨v2, v3, v4, rfl, s2, hl2⟩
    rw [xl, List.take_of_length_le (Nat.le_refl _)] at hl2
    exact ⟨_, rfl, q H2 l s2 hl hl2⟩
def sp_ptext (K : PySem.W.Frag) : Sp := fun vs H Q _ => ∃ (ul al : Addr) (us : List Str) (ys : List V) (As : List At) (k : Int), vs = [.ref ul, .ref al, .int k] ∧ SqL K H ul (us.map V.str) ∧ SqL K H al ys ∧ HasL K H (As.map dA) ys ∧ Sm us ∧ (∀ a ∈ As, AOk us.length a) ∧ POk As.length k ∧ ∀ H', Same H H' → Q (.str (ptx us As k)) H'
theorem sc__law_part_text : FnScope ["_law_texts_here", "_law_atoms_here", "_law_part", "_law_atom", "_law_said"] ["_law_texts_here", "_law_atoms_here", "_law_part"] (defScope s__law_part_text) := ⟨rfl, rfl, rfl, by decide +kernel, rfl, by decide +kernel, by decide +kernel⟩
set_option maxHeartbeats 1000000 in
theorem ok_ptext (F : Fun K "_law_part_text" "_law_part_text" s__law_part_text f fd) (T : Txt K mg aK C CN CT CP CM) : FnOk P w K mg base CX0 1 f fd ["_law_texts_here", "_law_atoms_here", "_law_part"] (sp_ptext K) := by
  refine F.ok sc__law_part_text (fun vs H Q E h => ?_) (fun cdv A outer s H vs Q E hr h => ?_)
  · obtain ⟨ul, al, us, ys, As, k, rfl, _⟩ := h
    rfl
  obtain ⟨ul, al, us, ys, As, k, rfl, hU, hA, hL, sm, ao, pk, q⟩ := h
  refine ⟨_, (pss_cons (ps_set (i := 3) sc__law_part_text.nd rfl (Or.inl rfl) (pe_ix ix_list (pv 1) (pe_op op_sub (pe_callB call_abs rfl T.abs PyProof.Rows.Boot.abs (pa_cons (pv 2) pa_nil)) pe_int) (fun _ _ => rfl)))
    (pss_cons (ps_set (i := 4) sc__law_part_text.nd rfl (Or.inl rfl) (pe_ix ix_tup (pv 3) pe_int (fun _ _ => rfl)))
    (pss_cons (ps_if (pt_cmpR op_eq (pe_ix ix_tup (pv 3) pe_int (fun _ _ => rfl)) pe_str (nomark _))
      (pss_one (ps_set (i := 4) sc__law_part_text.nd rfl (Or.inl rfl) (pe_op op_add_str (pe_op op_add_str (pe_ix ix_list (pv 0) (pe_ix ix_tup (pv 3) pe_int (fun _ _ => rfl)) (fun _ _ => rfl)) pe_str) (pe_ix ix_list (pv 0) (pe_ix ix_tup (pv 3) pe_int (fun _ _ => rfl)) (fun _ _ => rfl)))))
      pss_nil)
    (pss_cons (ps_if (pt_cmpR op_lt (pv 2) pe_int (nomark _))
      (pss_one (ps_ret (pe_op op_add_str pe_str (pv 4))))
      pss_nil)
    (pss_one (ps_ret (pv 4))))))), ?_⟩
  have yl : ys.length = As.length := by rw [← hL.length, List.length_map]
  have ea := aG_at pk
  have am := ao _ (aG_mem pk)
  have al' := atx_len sm am
  obtain ⟨p0, p1, p2⟩ := id pk
  have qq : ∀ H', Same H H' → (k < 0 → Q (.str ("not " ++ atx us (aG As k))) H') ∧ (¬ k < 0 → Q (.str (atx us (aG As k))) H') := fun H' s' => by
    have := q H' s'
    unfold ptx at this
    exact ⟨fun h => by rw [if_pos h] at this; exact this, fun h => by rw [if_neg h] at this; exact this⟩
  obtain ⟨x, e1, e2⟩ := at_num (xs := ys) (i := ((k.natAbs : Nat) : Int) - 1) (by omega) (by omega)
  have eabs : (if k < 0 then -k else k) = ((k.natAbs : Nat) : Int) := by split <;> omega
  obtain ⟨a, ha, hax⟩ := hasA_at hL e1
  have eq : aG As k = a := by
    rw [show (((k.natAbs : Nat) : Int) - 1).toNat = k.natAbs - 1 by omega, ea] at ha
    exact Option.some.inj ha
  rw [eq] at qq am al'
  rw [← eabs] at e2
  refine ⟨_, rfl, _, rfl, _, rfl, _, _, rfl, rfl, al, _, _, _, rfl, rfl, hA, e2, ?_⟩
  cases a with
  | plain z =>
    obtain ⟨aq, rfl, hq⟩ := has_plain hax
    refine ⟨_, rfl, aq, _, _, _, rfl, rfl, hq, rfl, _, rfl, aq, _, _, _, rfl, rfl, hq, rfl, rfl, _, rfl, ite2 (fun c => absurd c (by decide +kernel)) (fun _ => ?_)⟩
    refine ⟨_, rfl, _, _, rfl, rfl, _, rfl, ite2 (fun c => ?_) (fun c => ?_)⟩
    · exact ⟨_, rfl, _, _, rfl, rfl, szM (by simp only [atx] at al'; rw [c6]; omega), (qq H (Same.refl H)).1 (of_decide_eq_true c)⟩
    · exact ⟨_, rfl, (qq H (Same.refl H)).2 fun z => c (decide_eq_true z)⟩
  | same x y =>
    obtain ⟨aq, rfl, hq⟩ := has_same hax
    have g1 := sm.g x
    have g2 := sm.g y
    refine ⟨_, rfl, aq, _, _, _, rfl, rfl, hq, rfl, _, rfl, aq, _, _, _, rfl, rfl, hq, rfl, rfl, _, rfl, ite2 (fun _ => ?_) (fun c => absurd (show _ = true by decide +kernel) c)⟩
    refine ⟨_, rfl, _, rfl, aq, _, _, _, rfl, rfl, hq, rfl, ul, _, _, _, rfl, rfl, hU, atI_gS am.1.1 am.1.2, _, _, rfl, rfl, szM (by rw [c5]; omega), _, rfl, _, rfl, aq, _, _, _, rfl, rfl, hq, rfl, ul, _, _, _, rfl, rfl, hU, atI_gS am.2.1 am.2.2, _, _, rfl, rfl, szM (by rw [app_len, c5]; omega), ?_⟩
    refine ⟨_, rfl, _, _, rfl, rfl, _, rfl, ite2 (fun c => ?_) (fun c => ?_)⟩
    · exact ⟨_, rfl, _, _, rfl, rfl, szM (by simp only [app_len, c5, c6]; omega), (qq H (Same.refl H)).1 (of_decide_eq_true c)⟩
    · exact ⟨_, rfl, (qq H (Same.refl H)).2 fun z => c (decide_eq_true z)⟩
def sp_wtext (K : PySem.W.Frag) : Sp := fun vs H Q _ => ∃ (ul al rl : Addr) (us : List Str) (ys zs : List V) (As : List At) (Rs : List (List Int)), vs = [.ref ul, .ref al, .ref rl] ∧ SqL K H ul (us.map V.str) ∧ SqL K H al ys ∧ HasL K H (As.map dA) ys ∧ SqL K H rl zs ∧ HasL K H (Rs.map dR) zs ∧ Sm us ∧ (∀ a ∈ As, AOk us.length a) ∧ (∀ r ∈ Rs, r.length ≤ 10 ∧ ∀ k ∈ r, POk As.length k) ∧ Rs.length ≤ 20 ∧ ∀ H', Same H H' → Q (.str (wtx us As Rs)) H'
theorem sc__law_whole_text : FnScope ["_law_texts_here", "_law_atoms_here", "_law_rows_here", "_law_text", "_law_row"] ["_law_texts_here", "_law_atoms_here", "_law_rows_here"] (defScope s__law_whole_text) := ⟨rfl, rfl, rfl, by decide +kernel, rfl, by decide +kernel, by decide +kernel⟩
theorem lit3 : (("never" : Str)) ++ "\n" = "never\n" := by decide +kernel
theorem c10 : (("never\n" : Str)).length = 6 := by decide +kernel
set_option maxHeartbeats 1000000 in
theorem ok_wtext (F : Fun K "_law_whole_text" "_law_whole_text" s__law_whole_text f fd) (BP : FB P w K mg base CX0 1 "_law_part_text" fP dP ["_law_texts_here", "_law_atoms_here", "_law_part"] (sp_ptext K)) : FnOk P w K mg base CX0 2 f fd ["_law_texts_here", "_law_atoms_here", "_law_rows_here"] (sp_wtext K) := by
  refine F.ok sc__law_whole_text (fun vs H Q E h => ?_) (fun cdv A outer s H vs Q E hr h => ?_)
  · obtain ⟨ul, al, rl, us, ys, zs, As, Rs, rfl, _⟩ := h
    rfl
  obtain ⟨ul, al, rl, us, ys, zs, As, Rs, rfl, hU, hA, hL, hR, hZ, sm, ao, rok, r20, q⟩ := h
  have hu := hu64 hr
  have zl : zs.length = Rs.length := by rw [← hZ.length, List.length_map]
  refine ⟨_, (pss_cons (ps_set (i := 3) sc__law_whole_text.nd rfl (Or.inl rfl) pe_str)
    (pss_cons (ps_for PassesOwn.never rfl (pi_list (pv 2)) (pg_name (i := 4) sc__law_whole_text.nd rfl (Or.inl rfl))
      (pss_one (ps_if (pt_cmpR (op_eqD hu) (pv 4) (pe_tup pa_nil) rfl)
          (pss_one (ps_set (i := 3) sc__law_whole_text.nd rfl (Or.inl rfl) (pe_op op_add_str (pv 3) pe_str)))
          (pss_one (ps_set (i := 3) sc__law_whole_text.nd rfl (Or.inl rfl) (pe_op op_add_str (pe_op op_add_str (pv 3) (pe_bm PySem.F.plainAttrs_str PySem.F.slot_str_join PySem.F.type_str_join mt_join pe_str (pa_cons (pe_lc (N' := ["_law_part", "_law_texts_here", "_law_atoms_here"]) (ix := [0, 1]) rfl rfl (by decide +kernel) (by decide +kernel) rfl (fun ok => clo_of (sc := defScope s__law_whole_text) ok rfl (by decide +kernel) (by decide +kernel)) (by decide +kernel) rfl rfl (fun j i h => match j, h with | 0, h => by cases h; exact ⟨_, rfl, rfl, .inl rfl, .inl rfl⟩ | 1, h => by cases h; exact ⟨_, rfl, rfl, .inl rfl, .inl rfl⟩ | n + 2, h => by simp at h) (pi_tup (pv 4)) (fun _ _ _ _ => (pe_call BP.ok hr rfl BP.m BP.kp BP.b .nil pass0 (pa_cons (pv 1) (pa_cons (pv 2) (pa_cons (pv 0) pa_nil)))))) pa_nil))) pe_str))))))
    (pss_one (ps_ret (pv 3))))), ?_⟩
  refine ⟨_, rfl, rl, rfl, ⟨_, hR⟩, for_by wk_list (fun i σ H' => Same H H' ∧ ∃ (v4 : Option V), σ = [some (.ref ul), some (.ref al), some (.ref rl), some (.str (wtx us As (Rs.take i))), v4])
    (fun i σ H' ⟨s2, _⟩ => s2.seq hR) ⟨Same.refl H, none, rfl⟩ ?_ ?_⟩
  · rintro i σ H9 x H2 hi ⟨s2, v4, rfl⟩ ⟨rfl, hx⟩
    obtain ⟨r, rq, hrr, rfl, hrq⟩ := hasR_at (hZ.keep s2.kt (nols_code nol_dR _)) (hx _ (s2.seq hR))
    have rk := rok r (List.mem_of_getElem? hrr)
    have rl' := rtx_len sm ao rk.2 rk.1
    have wl := wtx_len sm ao (Rs := Rs.take i) fun r hr' => rok r (List.mem_of_mem_take hr')
    have ti : (Rs.take i).length ≤ 20 := by rw [List.length_take]; omega
    have w1 : (wtx us As (Rs.take i)).length ≤ 1000020 := by
      have := Nat.mul_le_mul_left 50001 ti
      omega
    have ws : wtx us As (Rs.take (i + 1)) = wtx us As (Rs.take i) ++ (rtx us As r ++ "\n") := by rw [take_snoc hrr, wtx_snoc]
    refine ⟨_, rfl, (by show 0 ≤ sizeLine; decide), fun e he => ?_⟩
    have s3 : Same H2 (upd H2 e (.tup [])) := sameNew he _
    have n3 := upd_same (H := H2) (a := e) (o := .tup [])
    generalize upd H2 e (.tup []) = H3 at s3 n3
    have hrq3 := s3.tup hrq
    refine ⟨.tup (r.map Dt.int), .tup [], Has.tup' hrq3 (HasL.ints _), Has.tup' (SqT.of n3) HasL.nil, (by simp only [dep, deps_ints]; decide), _, rfl, ?_⟩
    by_cases hne : r = []
    · subst hne
      refine iteT ⟨_, rfl, _, _, rfl, rfl, szM (by rw [c10]; omega), s2.trans s3, some (.ref rq), ?_⟩
      rw [ws, ← lit3]
      rfl
    · have e1 : peq (.tup (r.map Dt.int)) (.tup []) = false := by
        cases r with
        | nil => exact absurd rfl hne
        | cons a b => rfl
      rw [e1]
      have er : rtx us As r = Builtin.Str.glued " or " (r.map (ptx us As)) := by
        unfold rtx
        rw [if_neg (by
          cases r with
          | nil => exact absurd rfl hne
          | cons a l => simp)]
      rw [er] at rl' ws
      refine iteF ⟨_, rfl, rfl, _, rfl, rq, rfl, ⟨_, hrq3⟩, fun D hD => lc_by wk_tup (fun j vs H' => Same H3 H' ∧ vs = ((r.take j).map (ptx us As)).map V.str) (fun j vs H' ⟨s4, _⟩ => s4.tup hrq3) ⟨sameNew hD _, rfl⟩ ?_ ?_⟩
      · rintro j vs H8 x H4 hj hly hDs ⟨s4, rfl⟩ ⟨rfl, hx4⟩
        obtain ⟨k', hk', rfl⟩ := ints_at (hx4 _ (s4.tup hrq3))
        have s24 := s2.trans (s3.trans s4)
        refine ⟨_, rfl, _, rfl, _, rfl, ul, al, us, ys, As, k', rfl, s24.seq hU, s24.seq hA, hL.keep s24.kt (nols_code nol_dA _), sm, ao, rk.2 k' (List.mem_of_getElem? hk'), fun H5 s5 => lc_post (szM (by rw [List.length_map]; omega)) hj hly (s5 _ _ hDs) ⟨(s4.trans s5).upd hD, ?_⟩⟩
        rw [take_snoc hk', List.map_append, List.map_append]
        rfl
      rintro vs H4 hDs ⟨s4, rfl⟩
      rw [List.length_map, List.take_of_length_le (Nat.le_refl _)] at hDs
      have pl := ptxs_len sm ao rk.2
      refine ⟨" or ", D, _, rfl, rfl, SqL.of hDs, szM (by rw [c4, List.length_map]; omega), _, _, rfl, rfl, szM (by omega), _, _, rfl, rfl, szM (by rw [app_len, c7]; omega), s2.trans (s3.trans s4), some (.ref rq), ?_⟩
      rw [ws, ← app_assoc]
      rfl
  · rintro σ H2 ⟨s2, v4, rfl⟩
    rw [zl, List.take_of_length_le (Nat.le_refl _)]
    exact ⟨_, rfl, q H2 s2⟩
end
end K04

/-! law k04: names; the terms, what is said of them. Behind K04g. -/
namespace K04
open PySem L2
section
variable {P : Program} {w : World} {K : PySem.W.Frag} {mg : Str → Option Value} {base : Heap} {aK C CN CT CP CM : Addr} {f g : Addr} {fd gd : FuncData}
def spWord : Sp := fun vs H Q _ => ∃ c n : Int, vs = [.int c, .int n] ∧ 0 ≤ n ∧ n ≤ 100 ∧ ∀ y : Str, (y.length : Int) = n → (∀ d ∈ y.cps.toList, d ∈ abc.cps.toList) → Q (.str y) H
theorem scW : FnScope ["_law_cell", "_law_size", "_law_letters", "_law_word_here", "_law_k"] ["_law_cell", "_law_size"] (defScope s__law_word) := ⟨rfl, rfl, rfl, by decide +kernel, rfl, by decide +kernel, by decide +kernel⟩
theorem ok_word (F : Fun K "_law_word" "_law_word" s__law_word f fd) (T : Txt K mg aK C CN CT CP CM) : FnOk P w K mg base CX0 1 f fd ["_law_cell", "_law_size"] spWord := by
  refine F.ok scW (fun vs H Q E h => ?_) (fun cdv A outer s H vs Q E hr h => ?_)
  · obtain ⟨c, n, rfl, _⟩ := h
    rfl
  obtain ⟨c, n, rfl, h0, h1, q⟩ := h
  refine ⟨_, pss_cons (ps_set (i := 2) scW.nd rfl (Or.inl rfl) pe_str) (pss_cons (ps_set (i := 3) scW.nd rfl (Or.inl rfl) pe_str)
    (pss_cons (ps_for PassesOwn.never rfl (pi_range1 rfl T.range (pa_cons (pv 1) pa_nil)) (pg_name (i := 4) scW.nd rfl (Or.inl rfl))
      (pss_cons (ps_set (i := 0) scW.nd rfl (Or.inl rfl) (pe_op op_mod (pe_op op_add (pe_op op_mul (pv 0) pe_int) pe_int) pe_int))
      (pss_one (ps_set (i := 3) scW.nd rfl (Or.inl rfl) (pe_op op_add_str (pv 3) (pe_ix ix_str (pv 2) (pe_op op_mod (pe_op op_fdiv (pv 0) pe_int) pe_int) (fun _ _ => rfl)))))))
    (pss_one (ps_ret (pv 3))))), ?_⟩
  refine ⟨_, rfl, n, rfl, by omega, by omega, for_range (lo := 0) (n := n.toNat) (fun i σ H' => H' = H ∧ ∃ (c : Int) (y : Str) (k : Option V), σ = [some (.int c), some (.int n), some (.str abc), some (.str y), k] ∧ y.length = i ∧ ∀ d ∈ y.cps.toList, d ∈ abc.cps.toList)
    ⟨rfl, c, "", none, rfl, by decide +kernel, by decide +kernel⟩ ?_ ?_⟩
  · rintro i σ H' hi ⟨rfl, c, y, k, rfl, hy, hab⟩
    refine ⟨_, rfl, _, _, rfl, rfl, .inr ⟨by decide, by decide⟩, _, _, rfl, rfl, _, _, rfl, rfl, (by show (0 : Int) < 2147483647; decide), ?_⟩
    have m := modB ((c * 48271 + 11) % 2147483647 / 7) (show (0 : Int) < 26 by decide)
    obtain ⟨ch, hch⟩ := at_in (xs := abc.cps.toList) m.1 (by rw [abc_len]; exact m.2)
    refine ⟨_, rfl, _, rfl, _, rfl, _, _, rfl, rfl, ⟨by decide, by decide⟩, _, _, rfl, rfl, (by show (0 : Int) < 26; decide), abc, _, ch, rfl, rfl, sz _ (by decide +kernel), hch, y, _, rfl, rfl, sz _ (by rw [one_len]; omega), ?_⟩
    refine ⟨rfl, _, _, _, rfl, by rw [app_len, one_len, hy], fun d hd => ?_⟩
    rw [cps_app] at hd
    rcases List.mem_append.mp hd with hd | hd
    · exact hab d hd
    · have e : d = ch := by simpa using hd
      rw [e]
      exact at_mem hch
  · rintro σ H' ⟨rfl, c, y, k, rfl, hy, hab⟩
    exact ⟨_, rfl, q y (by omega) hab⟩
/-- three names of one length -/
structure Nms (zs : List Str) (L : Nat) : Prop where
  n3 : zs.length = 3
  gd : ∀ z ∈ zs, GoodN z
  ln : ∀ z ∈ zs, z.length = L
  l7 : L ≤ 7
def sp_names : Sp := fun vs H Q _ => ∃ c : Int, vs = [.int c] ∧ ∀ (H' : Hp) (l : Addr) (zs : List Str) (L : Nat), Nms zs L → Same H H' → H l = none → H' l = some (.lst (zs.map V.str)) → Q (.ref l) H'
theorem sc__law_names : FnScope ["_law_cell", "_law_base", "_law_at"] ["_law_cell"] (defScope s__law_names) := ⟨rfl, rfl, rfl, by decide +kernel, rfl, by decide +kernel, by decide +kernel⟩
theorem three (i c : Nat) (h : (("bxf" : Str)).cps[i]? = some c) : c ∈ marks ∧ c ∈ abc.cps.toList := by
  have h' : c ∈ (("bxf" : Str)).cps.toList := by
    rw [← Array.getElem?_toList] at h
    exact List.mem_of_getElem? h
  have : ∀ c ∈ (("bxf" : Str)).cps.toList, c ∈ marks ∧ c ∈ abc.cps.toList := by decide +kernel
  exact this c h'
theorem ok_names (F : Fun K "_law_names" "_law_names" s__law_names f fd) (BW : FB P w K mg base CX0 1 "_law_word" g gd ["_law_cell", "_law_size"] spWord) : FnOk P w K mg base CX0 2 f fd ["_law_cell"] sp_names := by
  refine F.ok sc__law_names (fun vs H Q E h => ?_) (fun cdv A outer s H vs Q E hr h => ?_)
  · obtain ⟨c, rfl, _⟩ := h
    rfl
  obtain ⟨c, rfl, q⟩ := h
  refine ⟨_, (pss_cons (ps_set (i := 1) sc__law_names.nd rfl (Or.inr rfl) (pe_call BW.ok hr rfl BW.m BW.kp BW.b .nil pass0 (pa_cons (pv 0) (pa_cons (pe_op op_mod (pv 0) pe_int) pa_nil))))
    (pss_cons (ps_set (i := 2) sc__law_names.nd rfl (Or.inr rfl) (pe_op op_mod (pe_op op_fdiv (pv 0) pe_int) pe_int))
    (pss_one (ps_ret (pe_lc (N' := ["_law_letter", "_law_base", "_law_at"]) (ix := [1, 2]) rfl rfl (by decide +kernel) (by decide +kernel) rfl (fun ok => clo_of (sc := defScope s__law_names) ok rfl (by decide +kernel) (by decide +kernel)) (by decide +kernel) rfl rfl (fun j i h => match j, h with | 0, h => by cases h; exact ⟨_, rfl, rfl, .inl rfl, .inl rfl⟩ | 1, h => by cases h; exact ⟨_, rfl, rfl, .inl rfl, .inl rfl⟩ | n + 2, h => by simp at h) (pi_str pe_str) (fun _ _ _ _ => (pe_op op_add_str (pe_op op_add_str (pe_slice sl_str (pv 1) po_none (po_some (pv 2))) (pv 0)) (pe_slice sl_str (pv 1) (po_some (pv 2)) po_none)))))))), ?_⟩
  have b7 := modB c (show (0 : Int) < 7 by decide)
  refine ⟨_, rfl, _, rfl, _, _, rfl, rfl, (by show (0 : Int) < 7; decide), c, c % 7, rfl, by omega, by omega, fun y hy hab => ?_⟩
  refine ⟨_, rfl, _, _, rfl, rfl, ⟨by decide, by decide⟩, _, _, rfl, rfl, (by show (0 : Int) < 8; decide), ?_⟩
  have h7 : y.length ≤ 7 := by omega
  have h0 := (modB (c / 8) (show (0 : Int) < 8 by decide)).1
  refine ⟨_, rfl, fun D hD => ⟨fun i m ys H' => m = 3 - i ∧ i ≤ 3 ∧ (∃ zs : List Str, zs.length = i ∧ (∀ z ∈ zs, GoodN z ∧ z.length = y.length + 1) ∧ ys = zs.map V.str) ∧ H' = upd H D (.lst ys), ⟨3, rfl, Nat.zero_le _, ⟨[], rfl, (fun z hz => nomatch hz), rfl⟩, rfl⟩, ?_⟩⟩
  rintro i m ys H' ⟨rfl, hi, ⟨zs, hzl, hzg, rfl⟩, rfl⟩
  refine ⟨upd_same, ?_⟩
  have e4 : (("bxf" : Str)).length = 3 := by decide +kernel
  by_cases hlt : i < 3
  · refine .inr ⟨(show i < (("bxf" : Str)).length by rw [e4]; exact hlt), fun x H'' y' => ?_⟩
    obtain ⟨rfl, ch, hch, rfl⟩ := y'
    obtain ⟨hm, ha⟩ := three i ch hch
    have g := good_of h0 h7 hab hm ha
    refine ⟨_, rfl, _, rfl, _, rfl, y, rfl, sz _ (by omega), _, rfl, _, _, rfl, rfl, sz _ (Nat.le_trans (Nat.add_le_add (cut_le h7) (Nat.le_refl _)) (by rw [one_len]; decide)), ?_⟩
    refine ⟨_, rfl, _, rfl, _, rfl, y, rfl, sz _ (by omega), _, _, rfl, rfl, sz _ (Nat.le_trans (Nat.add_le_add (by rw [app_len, one_len]; exact Nat.add_le_add (cut_le h7) (Nat.le_refl _)) (cut_le h7)) (by decide)), upd_same, ?_, 3 - (i + 1), by omega, rfl, hlt, ⟨zs ++ [Txt.slice y none (some (c / 8 % 8)) ++ ⟨#[ch]⟩ ++ Txt.slice y (some (c / 8 % 8)) none], ?_, ?_, ?_⟩, upd_upd⟩
    · rw [List.length_map, hzl]
      exact Nat.lt_of_lt_of_le hlt (by decide)
    · rw [List.length_append, hzl]; rfl
    · intro z hz
      rcases List.mem_append.mp hz with hz | hz
      · exact hzg z hz
      · rw [List.mem_singleton.mp hz]
        exact g
    · rw [List.map_append]; rfl
  · have hi3 : i = 3 := by omega
    subst hi3
    exact .inl ⟨(show (("bxf" : Str)).length ≤ 3 by rw [e4]; exact Nat.le_refl _), q _ D zs (y.length + 1) ⟨hzl, fun z hz => (hzg z hz).1, fun z hz => (hzg z hz).2, by omega⟩ (same_new hD _) hD upd_same⟩
end
/-! ### the terms, what is said of them -/
structure TmsOk (T : List Tm) : Prop where
  wf : Wf T
  gd : ∀ t ∈ T, GoodN t.1 ∧ t.1.length ≤ 8
  nd : T.Nodup
  sm : Sm (txs T)
theorem Nms.at {zs : List Str} {L : Nat} (h : Nms zs L) (c : Int) : ∃ z ∈ zs, atI (zs.map V.str) (c % 3) = some (.str z) := by
  have b := modB c (show (0 : Int) < 3 by decide)
  obtain ⟨x, e1, e2⟩ := at_num (xs := zs) (i := c % 3) b.1 (by rw [h.n3]; exact b.2)
  refine ⟨x, List.mem_of_getElem? e1, ?_⟩
  have e : c % 3 = (((c % 3).toNat : Nat) : Int) := by omega
  rw [e]
  exact atI_nat (by rw [List.getElem?_map, e1]; rfl)
theorem sm_of {us : List Str} {n : Nat} (h : ∀ (i : Nat) s, us[i]? = some s → s.length ≤ 12 * (i + 1)) (hn : us.length ≤ n) (h60 : n ≤ 61) : Sm us := fun s hs => by
  obtain ⟨i, hi⟩ := List.mem_iff_getElem?.mp hs
  have := h i s hi
  have := (List.getElem?_eq_some_iff.mp hi).1
  omega
/-! a chain -/
structure Chain (zs : List Str) (T : List Tm) : Prop where
  at_ : ∀ (i : Nat) t, T[i]? = some t → t.1 ∈ zs ∧ t.2 = if i = 0 then [] else [0 + (i : Int) - 1]
  ln : ∀ (i : Nat) s, (txs T)[i]? = some s → s.length ≤ 12 * (i + 1)
theorem Chain.nil (zs : List Str) : Chain zs [] := ⟨fun i t h => by simp at h, fun i s h => by simp [txs] at h⟩
theorem Chain.wf {zs : List Str} {T : List Tm} (h : Chain zs T) : Wf T := fun i t e => by
  obtain ⟨_, e2⟩ := h.at_ i t e
  rw [e2]
  split
  · exact ⟨by decide, fun p hp => nomatch hp⟩
  · exact ⟨by simp, fun p hp => by rw [List.mem_singleton.mp hp]; omega⟩
theorem Chain.snoc {zs : List Str} {L : Nat} {T : List Tm} (hN : Nms zs L) (h : Chain zs T) {z : Str} (hz : z ∈ zs) : Chain zs (T ++ [(z, if T.length = 0 then [] else [0 + (T.length : Int) - 1])]) := by
  refine ⟨fun i t e => ?_, fun i s e => ?_⟩
  · by_cases hi : i < T.length
    · rw [List.getElem?_append_left hi] at e
      exact h.at_ i t e
    · have hi2 : i = T.length := by
        have := (List.getElem?_eq_some_iff.mp e).1
        rw [List.length_append, List.length_singleton] at this
        omega
      subst hi2
      rw [List.getElem?_append_right (Nat.le_refl _)] at e
      simp only [Nat.sub_self, List.getElem?_cons_zero, Option.some.injEq] at e
      subst e
      exact ⟨hz, rfl⟩
  · rw [txs_snoc] at e
    by_cases hi : i < (txs T).length
    · rw [List.getElem?_append_left hi] at e
      exact h.ln i s e
    · have hi2 : i = (txs T).length := by
        have := (List.getElem?_eq_some_iff.mp e).1
        rw [List.length_append, List.length_singleton] at this
        omega
      subst hi2
      rw [List.getElem?_append_right (Nat.le_refl _)] at e
      simp only [Nat.sub_self, List.getElem?_cons_zero, Option.some.injEq] at e
      subst e
      have l8 : z.length ≤ 8 := by have := hN.ln z hz; have := hN.l7; omega
      rw [txs_len]
      by_cases h0 : T.length = 0
      · rw [if_pos h0]
        have := txtN_len z ([].map (gS (txs T)))
        simp [lenS] at this
        simp
        omega
      · rw [if_neg h0]
        have hlt : T.length - 1 < (txs T).length := by rw [txs_len]; omega
        have e1 : (txs T)[T.length - 1]? = some (gS (txs T) (0 + (T.length : Int) - 1)) := by
          rw [List.getElem?_eq_getElem hlt]
          exact congrArg some (gS_at (by omega) (by rw [show (0 + (T.length : Int) - 1).toNat = T.length - 1 by omega, List.getElem?_eq_getElem hlt])).symm
        have e2 := h.ln _ _ e1
        have := txtN_len z ([0 + (T.length : Int) - 1].map (gS (txs T)))
        simp only [List.map_cons, List.map_nil, List.length_singleton] at this ⊢
        rw [lenS_cons] at this
        simp only [lenS, List.map_nil, List.sum_nil] at this
        omega
theorem Chain.nd {zs : List Str} {T : List Tm} (h : Chain zs T) : T.Nodup := by
  refine List.pairwise_iff_getElem.mpr fun i j hi hj hij e' => ?_
  obtain ⟨_, a1⟩ := h.at_ i _ (List.getElem?_eq_getElem hi)
  obtain ⟨_, a2⟩ := h.at_ j _ (List.getElem?_eq_getElem hj)
  rw [e', a2, if_neg (by omega)] at a1
  split at a1
  · cases a1
  · injection a1 with a1 _
    omega
theorem Chain.ok {zs : List Str} {L : Nat} {T : List Tm} (hN : Nms zs L) (h : Chain zs T) (h60 : T.length ≤ 60) : TmsOk T := by
  refine ⟨h.wf, fun t ht => ?_, h.nd, sm_of h.ln (Nat.le_of_eq (txs_len T)) (by omega)⟩
  obtain ⟨i, hi⟩ := List.mem_iff_getElem?.mp ht
  have hz := (h.at_ i t hi).1
  have := hN.ln _ hz
  have := hN.l7
  exact ⟨hN.gd _ hz, by omega⟩
theorem cut_chain (i : Nat) : cutV [V.int (0 + (i : Int) - 1)] none (some (0 + (i : Int))) = (if i = 0 then [] else [0 + (i : Int) - 1]).map V.int := by
  cases i with
  | zero => rfl
  | succ i =>
    rw [if_neg (by omega)]
    unfold cutV
    have e : HT.sIx 1 1 (some (0 + ((i + 1 : Nat) : Int))) = 1 := by
      show (if (0 + ((i + 1 : Nat) : Int) : Int) < 0 then ((0 + ((i + 1 : Nat) : Int) : Int) + (1 : Int)).toNat else min (0 + ((i + 1 : Nat) : Int) : Int).toNat 1) = 1
      rw [if_neg (by omega)]
      omega
    rw [show ([V.int (0 + ((i + 1 : Nat) : Int) - 1)]).length = 1 from rfl, e, HT.sIx_none]
    rfl
/-! terms by cells -/
def LB : Nat → Nat
  | 0 => 0
  | d + 1 => 16 + 3 * LB d
theorem LB_mono {d e : Nat} (h : d ≤ e) : LB d ≤ LB e := by
  induction e with
  | zero => rw [Nat.le_zero.mp h]; exact Nat.le_refl _
  | succ e ih =>
    by_cases h' : d ≤ e
    · have := ih h'
      simp only [LB]
      omega
    · have : d = e + 1 := by omega
      rw [this]
      exact Nat.le_refl _
def lett (k : Nat) : Str := ⟨#[97 + k]⟩
def deepOf (ds : List Int) (p : Int) : Int := ds.getD p.toNat 0
structure Gen (zs : List Str) (T : List Tm) (ds : List Int) : Prop where
  len : ds.length = T.length
  wf : Wf T
  gd : ∀ t ∈ T, GoodN t.1 ∧ t.1.length ≤ 8
  nd : T.Nodup
  form : ∀ (j : Nat) t, T[j]? = some t → t.1 ∈ zs ∨ ∃ nm ∈ zs, t = (nm ++ lett j, [])
  dp : ∀ (j : Nat) s, (txs T)[j]? = some s → ∃ d : Nat, ds[j]? = some (d : Int) ∧ d ≤ 5 ∧ s.length ≤ LB d
theorem Gen.nil (zs : List Str) : Gen zs [] [] := ⟨rfl, fun i t h => by simp at h, (fun t ht => nomatch ht), by simp, fun j t h => by simp at h, fun j s h => by simp [txs] at h⟩
theorem Gen.sm {zs : List Str} {T : List Tm} {ds : List Int} (h : Gen zs T ds) : Sm (txs T) := fun s hs => by
  obtain ⟨i, hi⟩ := List.mem_iff_getElem?.mp hs
  obtain ⟨d, _, hd, hl⟩ := h.dp i s hi
  have := LB_mono hd
  have : LB 5 ≤ 2000 := by decide
  omega
theorem Gen.snoc {zs : List Str} {T : List Tm} {ds : List Int} {t : Tm} {d : Nat} (h : Gen zs T ds) (h3 : t.2.length ≤ 3) (hp : ∀ p ∈ t.2, 0 ≤ p ∧ p < (T.length : Int)) (hg : GoodN t.1 ∧ t.1.length ≤ 8) (hn : t ∉ T) (hf : t.1 ∈ zs ∨ ∃ nm ∈ zs, t = (nm ++ lett T.length, [])) (d5 : d ≤ 5)
    (hl : (txtN t.1 (t.2.map (gS (txs T)))).length ≤ LB d) : Gen zs (T ++ [t]) (ds ++ [(d : Int)]) := by
  refine ⟨by rw [List.length_append, List.length_append, h.len]; rfl, h.wf.snoc h3 hp, fun u hu => ?_, ?_, fun j u e => ?_, fun j s e => ?_⟩
  · rcases List.mem_append.mp hu with hu | hu
    · exact h.gd u hu
    · rw [List.mem_singleton.mp hu]
      exact hg
  · refine List.nodup_append.mpr ⟨h.nd, by simp, fun a ha b hb e => ?_⟩
    rw [List.mem_singleton.mp hb] at e
    exact hn (e ▸ ha)
  · by_cases hi : j < T.length
    · rw [List.getElem?_append_left hi] at e
      exact h.form j u e
    · have hi2 : j = T.length := by
        have := (List.getElem?_eq_some_iff.mp e).1
        rw [List.length_append, List.length_singleton] at this
        omega
      subst hi2
      rw [List.getElem?_append_right (Nat.le_refl _)] at e
      simp only [Nat.sub_self, List.getElem?_cons_zero, Option.some.injEq] at e
      subst e
      exact hf
  · rw [txs_snoc] at e
    by_cases hi : j < (txs T).length
    · rw [List.getElem?_append_left hi] at e
      obtain ⟨d', h1, h2⟩ := h.dp j s e
      exact ⟨d', by rw [List.getElem?_append_left (by rw [h.len, ← txs_len]; exact hi)]; exact h1, h2⟩
    · have hi2 : j = (txs T).length := by
        have := (List.getElem?_eq_some_iff.mp e).1
        rw [List.length_append, List.length_singleton] at this
        omega
      subst hi2
      rw [List.getElem?_append_right (Nat.le_refl _)] at e
      simp only [Nat.sub_self, List.getElem?_cons_zero, Option.some.injEq] at e
      subst e
      exact ⟨d, by rw [txs_len, ← h.len, List.getElem?_append_right (Nat.le_refl _)]; simp, d5, hl⟩
theorem Gen.ok {zs : List Str} {T : List Tm} {ds : List Int} (h : Gen zs T ds) : TmsOk T := ⟨h.wf, h.gd, h.nd, h.sm⟩
/-- a name of the three, with parts that are not too deep -/
theorem Gen.put {zs : List Str} {L : Nat} {T : List Tm} {ds : List Int} {nm : Str} {ps : List Int} {m : Nat} (hN : Nms zs L) (h : Gen zs T ds) (hz : nm ∈ zs) (h3 : ps.length ≤ 3) (hp : ∀ p ∈ ps, 0 ≤ p ∧ p < (T.length : Int)) (hn : (nm, ps) ∉ T) (hm : ∀ p ∈ ps, deepOf ds p ≤ (m : Int)) (m4 : m ≤ 4) : Gen zs (T ++ [(nm, ps)]) (ds ++ [((m + 1 : Nat) : Int)]) := by
  have l8 : nm.length ≤ 8 := by have := hN.ln nm hz; have := hN.l7; omega
  refine h.snoc h3 hp ⟨hN.gd nm hz, l8⟩ hn (.inl hz) (by omega) ?_
  have ls : lenS (ps.map (gS (txs T))) ≤ LB m * (ps.map (gS (txs T))).length := lenS_le fun s hs => by
    obtain ⟨p, hp', rfl⟩ := List.mem_map.mp hs
    have pb := hp p hp'
    have hk : p.toNat < (txs T).length := by rw [txs_len]; omega
    have e1 : (txs T)[p.toNat]? = some (gS (txs T) p) := by
      rw [List.getElem?_eq_getElem hk]
      exact congrArg some (gS_at pb.1 (List.getElem?_eq_getElem hk)).symm
    obtain ⟨d, h1, _, h2⟩ := h.dp _ _ e1
    have h4 := hm p hp'
    unfold deepOf at h4
    rw [List.getD_eq_getElem?_getD, h1] at h4
    have h5 : (d : Int) ≤ (m : Int) := h4
    exact Nat.le_trans h2 (LB_mono (by omega))
  have := txtN_len nm (ps.map (gS (txs T)))
  rw [List.length_map] at this ls
  have h6 := Nat.mul_le_mul_left (LB m) h3
  simp only [LB]
  omega
theorem lett_good {k : Nat} (hk : k < 12) : 97 + k ∈ abc.cps.toList := by
  have : ∀ k < 12, 97 + k ∈ abc.cps.toList := by decide +kernel
  exact this k hk
theorem app_lett {a b : Str} {j k : Nat} (h : a ++ lett j = b ++ lett k) : j = k := by
  have e := congrArg (fun s : Str => s.cps.toList.getLast?) h
  simp only [cps_app] at e
  have e2 : ((lett j).cps.toList) = [97 + j] := rfl
  have e3 : ((lett k).cps.toList) = [97 + k] := rfl
  rw [e2, e3, List.getLast?_append, List.getLast?_append] at e
  simp at e
  exact e
/-- a name with one letter more -/
theorem Gen.put2 {zs : List Str} {L : Nat} {T : List Tm} {ds : List Int} {nm : Str} (hN : Nms zs L) (h : Gen zs T ds) (hz : nm ∈ zs) (h12 : T.length < 12) : Gen zs (T ++ [(nm ++ lett T.length, [])]) (ds ++ [((1 : Nat) : Int)]) := by
  have ln := hN.ln nm hz
  have l7 := hN.l7
  have len : (nm ++ lett T.length).length = nm.length + 1 := by rw [app_len]; rfl
  have g := hN.gd nm hz
  have ab : ∀ c ∈ (nm ++ lett T.length).cps.toList, c ∈ abc.cps.toList := fun c hc => by
    rw [cps_app] at hc
    rcases List.mem_append.mp hc with hc | hc
    · exact g.ab c hc
    · have : c = 97 + T.length := by simpa [lett] using hc
      rw [this]
      exact lett_good h12
  have mr : ∃ c ∈ (nm ++ lett T.length).cps.toList, c ∈ marks := by
    obtain ⟨c, hc, hm⟩ := g.mr
    exact ⟨c, by rw [cps_app]; exact List.mem_append_left _ hc, hm⟩
  have gn : GoodN (nm ++ lett T.length) := ⟨nameB_of (by omega) (by omega) ab mr, ⟨by omega, fun c hc => abc_low c (ab c hc)⟩, mr, ab⟩
  refine h.snoc (Nat.zero_le _) (fun p hp => nomatch hp) ⟨gn, by show (nm ++ lett T.length).length ≤ 8; omega⟩ (fun hm => ?_) (.inr ⟨nm, hz, rfl⟩) (by decide) ?_
  · obtain ⟨j, hj⟩ := List.mem_iff_getElem?.mp hm
    have hjl := (List.getElem?_eq_some_iff.mp hj).1
    rcases h.form j _ hj with hz' | ⟨nm', hz', e⟩
    · have := hN.ln _ hz'
      have : (nm ++ lett T.length).length = L := this
      omega
    · have e1 : nm ++ lett T.length = nm' ++ lett j := congrArg Prod.fst e
      have := app_lett e1
      omega
  · show (txtN (nm ++ lett T.length) []).length ≤ LB 1
    have : (txtN (nm ++ lett T.length) []) = nm ++ lett T.length := rfl
    rw [this]
    simp only [LB]
    omega
end K04

/-! law k04: _law_terms. Behind K04h. -/
namespace K04
open PySem L2
def forB (s : Stmt) : List Stmt := match s with
  | .For _ _ b _ _ => b
  | _ => []
abbrev NTs : List Str := ["_law_script", "_law_names_here", "_law_terms_here", "_law_deep", "_law_many", "_law_k", "_law_cell", "_law_parts", "_law_j"]
theorem twelve : ∀ k < 12, atI (("abcdefghijkl" : Str)).cps.toList ((k : Nat) : Int) = some (97 + k) := by decide +kernel
theorem deep_at {ds : List Int} {p : Int} (h0 : 0 ≤ p) (h1 : p < (ds.length : Int)) : atI (ds.map V.int) p = some (.int (deepOf ds p)) := by
  have hk : p.toNat < ds.length := by omega
  have e : p = ((p.toNat : Nat) : Int) := by omega
  have q : atI (ds.map V.int) ((p.toNat : Nat) : Int) = some (.int ds[p.toNat]) := atI_nat (by rw [List.getElem?_map, List.getElem?_eq_getElem hk]; rfl)
  rw [← e] at q
  rw [q]
  unfold deepOf
  rw [List.getD_eq_getElem?_getD, List.getElem?_eq_getElem hk]
  rfl
section
variable {P : Program} {w : World} {K : PySem.W.Frag} {mg : Str → Option Value} {base : Heap} {aK C CN CT CP CM : Addr} {f fC : Addr} {fd dC : FuncData}
theorem sc__law_terms : FnScope NTs ["_law_script", "_law_names_here"] (defScope s__law_terms) := ⟨rfl, rfl, rfl, by decide +kernel, rfl, by decide +kernel, by decide +kernel⟩
theorem has_dT {H : Hp} {p q : Addr} {z : Str} {ps : List Int} (hp : SqT K H p [.str z, .ref q]) (hq : SqT K H q (ps.map V.int)) : Has K H (dT (z, ps)) (.ref p) := Has.tup' hp (.cons Has.str' (.cons (Has.tup' hq (HasL.ints _)) .nil))
theorem deps_T (T : List Tm) : deps (T.map dT) ≤ 2 := deps_code (code := dT) (n := 2) (fun t => Nat.le_of_eq (dep_dT t)) T
theorem not_any {T : List Tm} {t : Tm} (h : ¬ ((T.map dT).any fun d => peq d (dT t)) = true) : t ∉ T := fun hm => h (List.any_eq_true.mpr ⟨dT t, List.mem_map.mpr ⟨t, hm, rfl⟩, peq_refl _⟩)
set_option maxHeartbeats 2000000 in
theorem terms3 (T : Txt K mg aK C CN CT CP CM) (nMx : mg "max" = none) {cdv : Value} {A : Around} {outer : List Env} {s : Shared} {H0 : Hp} {E : XK} (hr : Room 1 (A.deeper (PyProof.Rows.envOfC "_law_terms" (defScope s__law_terms) s.heap.objs.size f cdv))) :
    ∃ t, PSs (cxOf CX0 P w K mg base NTs "_law_terms" (defScope s__law_terms) f cdv A outer s H0 E).nox ((forB ((defBody s__law_terms).getD 3 (.Pass ⟨0, 0, 0, 0⟩))).drop 3) t ∧
      ∀ (D : Ends) (Hb H : Hp) (nl tl dl pl : Addr) (xs : List V) (zs : List Str) (L : Nat) (T : List Tm) (ds ps : List Int) (k : Nat) (c : Int) (v0 v4 v8 : Option V), Same Hb H → Hb tl = none → Hb dl = none → tl ≠ dl → H nl = some (.lst (zs.map V.str)) → H tl = some (.lst xs) → HasL K H (T.map dT) xs → H dl = some (.lst (ds.map V.int)) → H pl = some (.lst (ps.map V.int)) →
        Nms zs L → Gen zs T ds → T.length = k → k < 12 → ps.length ≤ 3 → (∀ p ∈ ps, 0 ≤ p ∧ p < (k : Int) ∧ deepOf ds p < 5) → pl ≠ tl → pl ≠ dl → nl ≠ tl → nl ≠ dl →
        (∀ (H' : Hp) (xs' : List V) (T' : List Tm) (ds' : List Int), Same Hb H' → H' nl = some (.lst (zs.map V.str)) → H' tl = some (.lst xs') → HasL K H' (T'.map dT) xs' → H' dl = some (.lst (ds'.map V.int)) → Gen zs T' ds' → T'.length = k + 1 → D.nx [v0, some (.ref nl), some (.ref tl), some (.ref dl), v4, some (.int (k : Int)), some (.int c), some (.ref pl), v8] H') →
        t D [v0, some (.ref nl), some (.ref tl), some (.ref dl), v4, some (.int (k : Int)), some (.int c), some (.ref pl), v8] H := by
  have hu := hu64 hr
  refine ⟨_, (pss_one (ps_if (pt_cmpR (op_notInD hu) (pe_tup (pa_cons (pe_ix ix_list (pv 1) (pe_op op_mod (pv 6) pe_int) (fun _ _ => rfl)) (pa_cons (pe_callTy call_tuple_of rfl T.tuple PyProof.Rows.Boot.tuple (pa_cons (pv 7) pa_nil)) pa_nil))) (pv 2) rfl)
          (pss_cons (ps_expr (pe_bm PySem.F.plainAttrs_list PySem.F.slot_list_append PySem.F.type_list_append mt_append (pv 2) (pa_cons (pe_tup (pa_cons (pe_ix ix_list (pv 1) (pe_op op_mod (pv 6) pe_int) (fun _ _ => rfl)) (pa_cons (pe_callTy call_tuple_of rfl T.tuple PyProof.Rows.Boot.tuple (pa_cons (pv 7) pa_nil)) pa_nil))) pa_nil)))
            (pss_one (ps_expr (pe_bm PySem.F.plainAttrs_list PySem.F.slot_list_append PySem.F.type_list_append mt_append (pv 3) (pa_cons (pe_op op_add pe_int (pe_callB (call_maxL rfl) rfl nMx PyProof.Rows.Boot.max (pa_cons (pe_op op_cat (pe_lst (pa_cons pe_int pa_nil)) (pe_lc (N' := ["_law_part", "_law_deep"]) (ix := [3]) rfl rfl (by decide +kernel) (by decide +kernel) rfl (fun ok => clo_of (sc := defScope s__law_terms) ok rfl (by decide +kernel) (by decide +kernel)) (by decide +kernel) rfl rfl (fun j i h => match j, h with | 0, h => by cases h; exact ⟨_, rfl, rfl, .inl rfl, .inl rfl⟩ | n + 1, h => by simp at h) (pi_list (pv 7)) (fun _ _ _ _ => (pe_ix (r := rIxL K) ix_list (pv 1) (pv 0) (fun _ _ => rfl))))) pa_nil))) pa_nil)))))
          (pss_cons (ps_expr (pe_bm PySem.F.plainAttrs_list PySem.F.slot_list_append PySem.F.type_list_append mt_append (pv 2) (pa_cons (pe_tup (pa_cons (pe_op op_add_str (pe_ix ix_list (pv 1) (pe_op op_mod (pv 6) pe_int) (fun _ _ => rfl)) (pe_ix ix_str pe_str (pv 5) (fun _ _ => rfl))) (pa_cons (pe_tup pa_nil) pa_nil))) pa_nil)))
            (pss_one (ps_expr (pe_bm PySem.F.plainAttrs_list PySem.F.slot_list_append PySem.F.type_list_append mt_append (pv 3) (pa_cons pe_int pa_nil))))))), ?_⟩
  intro D Hb H nl tl dl pl xs zs L T' ds ps k c v0 v4 v8 sb ftl fdl ntd hN hT hL hD hP Nz gen tk k12 p3 pp npt npd nnt nnd nx
  obtain ⟨z, hz, ha⟩ := Nz.at c
  have zl := Nz.ln z hz
  have z7 := Nz.l7
  have dlen : ds.length = k := by rw [gen.len, tk]
  have xl : xs.length = T'.length := by rw [← hL.length, List.length_map]
  have dd := deps_T T'
  refine ⟨_, rfl, _, rfl, _, _, rfl, rfl, (by show (0 : Int) < 3; decide), nl, _, _, _, rfl, rfl, SqL.of hN, ha, _, rfl, pl, _, rfl, .inl ⟨SqL.of hP, fun l1 hl1 => ⟨(by show 2 ≤ sizeLine; decide), fun p1 hp1 => ?_⟩⟩⟩
  have s1 : Same H (upd H l1 (.tup (ps.map V.int))) := sameNew hl1 _
  have n1 := upd_same (H := H) (a := l1) (o := .tup (ps.map V.int))
  generalize upd H l1 (.tup (ps.map V.int)) = H1 at s1 n1 hp1 ⊢
  have s2 : Same H1 (upd H1 p1 (.tup [.str z, .ref l1])) := sameNew hp1 _
  have n2 := upd_same (H := H1) (a := p1) (o := .tup [.str z, .ref l1])
  generalize upd H1 p1 (.tup [.str z, .ref l1]) = H2 at s2 n2
  have s02 := s1.trans s2
  have hL2 := hL.keep s02.kt (nols_dTs _)
  have hT2 := s02 _ _ hT
  refine ⟨_, rfl, tl, xs, T'.map dT, dT (z, ps), rfl, .inl (SqL.of hT2), hL2, has_dT (SqT.of n2) (SqT.of (s2 _ _ n1)), by omega, _, rfl, ite2 (fun cc => ?_) (fun _ => ?_)⟩
  · have hn : (z, ps) ∉ T' := not_any (by
      intro e
      rw [if_pos rfl] at cc
      rw [e] at cc
      cases cc)
    have hN2 := s02 _ _ hN
    have hP2 := s02 _ _ hP
    refine ⟨_, rfl, .inl ⟨rfl, _, SqL.of hT2⟩, _, rfl, _, rfl, _, _, rfl, rfl, (by show (0 : Int) < 3; decide), nl, _, _, _, rfl, rfl, SqL.of hN2, ha, _, rfl, pl, _, rfl, .inl ⟨SqL.of hP2, fun l3 hl3 => ⟨(by show 2 ≤ sizeLine; decide), fun p3' hp3 => ?_⟩⟩⟩
    have s3 : Same H2 (upd H2 l3 (.tup (ps.map V.int))) := sameNew hl3 _
    have n3 := upd_same (H := H2) (a := l3) (o := .tup (ps.map V.int))
    generalize upd H2 l3 (.tup (ps.map V.int)) = H3 at s3 n3 hp3 ⊢
    have s4 : Same H3 (upd H3 p3' (.tup [.str z, .ref l3])) := sameNew hp3 _
    have n4 := upd_same (H := H3) (a := p3') (o := .tup [.str z, .ref l3])
    generalize upd H3 p3' (.tup [.str z, .ref l3]) = H4 at s4 n4
    have s04 := (s02.trans s3).trans s4
    have hT4 := s04 _ _ hT
    have hL4 := hL.keep s04.kt (nols_dTs _)
    refine ⟨tl, _, _, rfl, rfl, hT4, small1000 (by omega), ?_⟩
    have kt5 := KeepT.lst (ys := xs ++ [.ref p3']) hT4
    have hL5 : HasL K (upd H4 tl (.lst (xs ++ [.ref p3']))) ((T' ++ [(z, ps)]).map dT) (xs ++ [.ref p3']) := by
      rw [List.map_append]
      exact HasL.append (hL4.keep kt5 (nols_dTs _)) (HasL.one ((has_dT (SqT.of n4) (SqT.of (s4 _ _ n3))).keep kt5 (nol_dT _)))
    have hD5 : (upd H4 tl (.lst (xs ++ [.ref p3']))) dl = some (.lst (ds.map V.int)) := by rw [upd_ne ntd.symm]; exact s04 _ _ hD
    have hP5 : (upd H4 tl (.lst (xs ++ [.ref p3']))) pl = some (.lst (ps.map V.int)) := by rw [upd_ne npt]; exact s04 _ _ hP
    have hN5 : (upd H4 tl (.lst (xs ++ [.ref p3']))) nl = some (.lst (zs.map V.str)) := by rw [upd_ne nnt]; exact s04 _ _ hN
    have hT5 := upd_same (H := H4) (a := tl) (o := .lst (xs ++ [.ref p3']))
    have sb5 : Same Hb (upd H4 tl (.lst (xs ++ [.ref p3']))) := (sb.trans s04).upd ftl
    generalize upd H4 tl (.lst (xs ++ [.ref p3'])) = H5 at hL5 hD5 hP5 hN5 hT5 sb5
    -- how deep it is
    refine ⟨_, rfl, .inl ⟨rfl, _, SqL.of hD5⟩, (by show 1 ≤ sizeLine; decide), fun l6 hl6 => ?_⟩
    have s6 : Same H5 (upd H5 l6 (.lst [.int 0])) := sameNew hl6 _
    have n6 := upd_same (H := H5) (a := l6) (o := .lst [.int 0])
    generalize upd H5 l6 (.lst [.int 0]) = H6 at s6 n6
    have hP6 := s6 _ _ hP5
    refine ⟨_, rfl, pl, rfl, ⟨_, SqL.of hP6⟩, fun D7 hD7 => lc_by wk_list (fun i us H' => Same H6 H' ∧ us = ((ps.take i).map (deepOf ds)).map V.int) (fun i us H' ⟨s7, _⟩ => SqL.of (s7 _ _ hP6)) ⟨sameNew hD7 _, rfl⟩ ?_ ?_⟩
    · rintro i us H8 x H7 hi hly hDs ⟨s7, rfl⟩ ⟨rfl, hx⟩
      obtain ⟨p', hp', rfl⟩ := ints_at (hx _ (SqL.of (s7 _ _ hP6)))
      have pb := pp p' (List.mem_of_getElem? hp')
      refine ⟨_, rfl, _, rfl, dl, _, _, _, rfl, rfl, SqL.of (s7 _ _ (s6 _ _ hD5)), deep_at pb.1 (by omega), lc_post (szM (by rw [List.length_map]; omega)) hi hly hDs ⟨s7.upd hD7, ?_⟩⟩
      rw [take_snoc hp', List.map_append, List.map_append]
      rfl
    rintro us H7 hDs ⟨s7, rfl⟩
    rw [List.length_map, List.take_of_length_le (Nat.le_refl _)] at hDs
    have n67 := s7 _ _ n6
    refine ⟨l6, D7, _, _, rfl, rfl, n67, hDs, szM (by rw [List.length_map, List.length_map, List.length_singleton]; omega), fun p8 hp8 => ?_⟩
    have s8 : Same H7 (upd H7 p8 (.lst ([.int 0] ++ (ps.map (deepOf ds)).map V.int))) := sameNew hp8 _
    have n8 := upd_same (H := H7) (a := p8) (o := .lst ([.int 0] ++ (ps.map (deepOf ds)).map V.int))
    generalize upd H7 p8 (.lst ([.int 0] ++ (ps.map (deepOf ds)).map V.int)) = H8 at s8 n8
    have s58 := (s6.trans s7).trans s8
    have n8' : H8 p8 = some (.lst ((0 :: ps.map (deepOf ds)).map V.int)) := n8
    refine ⟨p8, 0 :: ps.map (deepOf ds), rfl, .inl (SqL.of n8'), by simp, fun m hm hx => ?_⟩
    have m0 : 0 ≤ m := hx 0 (by simp)
    have mp : ∀ p ∈ ps, deepOf ds p ≤ m := fun p hp => hx _ (List.mem_cons_of_mem _ (List.mem_map.mpr ⟨p, hp, rfl⟩))
    have m4 : m ≤ 4 := by
      rcases List.mem_cons.mp hm with rfl | hm
      · decide
      · obtain ⟨p, hp, rfl⟩ := List.mem_map.mp hm
        have := (pp p hp).2.2
        omega
    have hD8 := s58 _ _ hD5
    refine ⟨_, _, rfl, rfl, dl, _, _, rfl, rfl, hD8, small1000 (by rw [List.length_map]; omega), ?_⟩
    have em : (1 : Int) + m = (((m.toNat + 1 : Nat)) : Int) := by omega
    have kt9 := KeepT.lst (ys := ds.map V.int ++ [.int (1 + m)]) hD8
    refine nx _ (xs ++ [.ref p3']) (T' ++ [(z, ps)]) (ds ++ [((m.toNat + 1 : Nat) : Int)]) ((sb5.trans s58).upd fdl) ?_ ?_ ?_ ?_ (gen.put Nz hz p3 (fun p hp => by have := pp p hp; omega) hn (fun p hp => by have := mp p hp; omega) (by omega)) (by rw [List.length_append, tk]; rfl)
    · rw [upd_ne nnd]
      exact s58 _ _ hN5
    · rw [upd_ne ntd]
      exact s58 _ _ hT5
    · exact (hL5.keep s58.kt (nols_dTs _)).keep kt9 (nols_dTs _)
    · rw [upd_same, List.map_append, ← em]
      rfl
  · have hN2 := s02 _ _ hN
    have kk : atI (("abcdefghijkl" : Str)).cps.toList ((k : Nat) : Int) = some (97 + k) := twelve k k12
    refine ⟨_, rfl, .inl ⟨rfl, _, SqL.of hT2⟩, _, rfl, _, rfl, _, _, rfl, rfl, (by show (0 : Int) < 3; decide), nl, _, _, _, rfl, rfl, SqL.of hN2, ha, _, rfl, "abcdefghijkl", _, _, rfl, rfl, sz _ (by decide +kernel), kk, _, _, rfl, rfl, szM (by rw [one_len]; omega), (by show 0 ≤ sizeLine; decide), fun l3 hl3 => ⟨(by show 2 ≤ sizeLine; decide), fun p3' hp3 => ?_⟩⟩
    have s3 : Same H2 (upd H2 l3 (.tup [])) := sameNew hl3 _
    have n3 := upd_same (H := H2) (a := l3) (o := .tup [])
    generalize upd H2 l3 (.tup []) = H3 at s3 n3 hp3 ⊢
    have s4 : Same H3 (upd H3 p3' (.tup [.str (z ++ ⟨#[97 + k]⟩), .ref l3])) := sameNew hp3 _
    have n4 := upd_same (H := H3) (a := p3') (o := .tup [.str (z ++ ⟨#[97 + k]⟩), .ref l3])
    generalize upd H3 p3' (.tup [.str (z ++ ⟨#[97 + k]⟩), .ref l3]) = H4 at s4 n4
    have s04 := (s02.trans s3).trans s4
    have hT4 := s04 _ _ hT
    have hL4 := hL.keep s04.kt (nols_dTs _)
    refine ⟨tl, _, _, rfl, rfl, hT4, small1000 (by omega), ?_⟩
    have kt5 := KeepT.lst (ys := xs ++ [.ref p3']) hT4
    have hL5 : HasL K (upd H4 tl (.lst (xs ++ [.ref p3']))) ((T' ++ [(z ++ lett k, [])]).map dT) (xs ++ [.ref p3']) := by
      rw [List.map_append]
      exact HasL.append (hL4.keep kt5 (nols_dTs _)) (HasL.one ((has_dT (z := z ++ lett k) (ps := []) (SqT.of n4) (SqT.of (s4 _ _ n3))).keep kt5 (nol_dT _)))
    have hD5 : (upd H4 tl (.lst (xs ++ [.ref p3']))) dl = some (.lst (ds.map V.int)) := by rw [upd_ne ntd.symm]; exact s04 _ _ hD
    have hN5 : (upd H4 tl (.lst (xs ++ [.ref p3']))) nl = some (.lst (zs.map V.str)) := by rw [upd_ne nnt]; exact s04 _ _ hN
    have hT5 := upd_same (H := H4) (a := tl) (o := .lst (xs ++ [.ref p3']))
    have sb5 : Same Hb (upd H4 tl (.lst (xs ++ [.ref p3']))) := (sb.trans s04).upd ftl
    generalize upd H4 tl (.lst (xs ++ [.ref p3'])) = H5 at hL5 hD5 hN5 hT5 sb5
    refine ⟨_, rfl, .inl ⟨rfl, _, SqL.of hD5⟩, dl, _, _, rfl, rfl, hD5, small1000 (by rw [List.length_map]; omega), ?_⟩
    have kt9 := KeepT.lst (ys := ds.map V.int ++ [.int 1]) hD5
    have gp := gen.put2 Nz hz (by omega)
    rw [tk] at gp
    refine nx _ (xs ++ [.ref p3']) (T' ++ [(z ++ lett k, [])]) (ds ++ [((1 : Nat) : Int)]) (sb5.upd fdl) ?_ ?_ ?_ ?_ gp (by rw [List.length_append, tk]; rfl)
    · rw [upd_ne nnd]
      exact hN5
    · rw [upd_ne ntd]
      exact hT5
    · exact hL5.keep kt9 (nols_dTs _)
    · rw [upd_same, List.map_append]
      rfl
end
end K04

/-! law k04: _law_terms, from its beginning. Behind K04i. -/
namespace K04
open PySem L2
section
variable {P : Program} {w : World} {K : PySem.W.Frag} {mg : Str → Option Value} {base : Heap} {aK C CN CT CP CM : Addr} {f fC : Addr} {fd dC : FuncData}
def rTupOf (K : PySem.W.Frag) : List V → Hp → VK → Prop := fun xs H Q => ∃ p ys, xs = [.ref p] ∧ ((SqL K H p ys ∧ ∀ l, H l = none → Q (.ref l) (upd H l (.tup ys))) ∨ SqT K H p ys ∧ Q (.ref p) H)
def sp_terms (K : PySem.W.Frag) : Sp := fun vs H Q _ => ∃ (a nl : Addr) (ns : List Int) (zs : List Str) (L : Nat), vs = [.ref a, .ref nl] ∧ SqL K H a (ns.map V.int) ∧ ns.length ≤ 63 ∧ H nl = some (.lst (zs.map V.str)) ∧ Nms zs L ∧
  ∀ (H' : Hp) (l : Addr) (xs : List V) (T : List Tm), Same H H' → H l = none → H' l = some (.lst xs) → HasL K H' (T.map dT) xs → TmsOk T → 1 ≤ T.length → T.length ≤ 60 → Q (.ref l) H'
set_option maxHeartbeats 2000000 in
theorem ok_terms (F : Fun K "_law_terms" "_law_terms" s__law_terms f fd) (T : Txt K mg aK C CN CT CP CM) (nMx : mg "max" = none) (BC : FB P w K mg base CX0 1 "_law_cell_at" fC dC ["_law_script", "_law_k"] (spCell K)) : FnOk P w K mg base CX0 2 f fd ["_law_script", "_law_names_here"] (sp_terms K) := by
  refine F.ok sc__law_terms (fun vs H Q E h => ?_) (fun cdv A outer s H vs Q E hr h => ?_)
  · obtain ⟨a, nl, ns, zs, L, rfl, _⟩ := h
    rfl
  obtain ⟨a, nl, ns, zs, L, rfl, hS, h63, hN, Nz, q⟩ := h
  obtain ⟨t3, h3, q3⟩ := terms3 (P := P) (w := w) (K := K) (base := base) (f := f) (outer := outer) (H0 := H) (E := E) T nMx hr
  refine ⟨_, (pss_cons (ps_set (i := 2) sc__law_terms.nd rfl (Or.inl rfl) (pe_lst pa_nil))
    (pss_cons (ps_set (i := 3) sc__law_terms.nd rfl (Or.inr rfl) (pe_lst pa_nil))
    (pss_cons (ps_if (pt_cmpR op_eq (pe_op op_mod (pe_op op_fdiv (pe_call BC.ok hr rfl BC.m BC.kp BC.b .nil pass0 (pa_cons (pv 0) (pa_cons pe_int pa_nil))) pe_int) pe_int) pe_int (nomark _))
      (pss_cons (ps_set (i := 4) sc__law_terms.nd rfl (Or.inl rfl) (pe_op op_add pe_int (pe_op op_mod (pe_op op_fdiv (pe_call BC.ok hr rfl BC.m BC.kp BC.b .nil pass0 (pa_cons (pv 0) (pa_cons pe_int pa_nil))) pe_int) pe_int)))
        (pss_one (ps_ret (pe_lc (N' := ["_law_k", "_law_names_here"]) (ix := [1]) rfl rfl (by decide +kernel) (by decide +kernel) rfl (fun ok => clo_of (sc := defScope s__law_terms) ok rfl (by decide +kernel) (by decide +kernel)) (by decide +kernel) rfl rfl (fun j i h => match j, h with | 0, h => by cases h; exact ⟨_, rfl, rfl, .inl rfl, .inl rfl⟩ | n + 1, h => by simp at h) (pi_range1 rfl T.range (pa_cons (pv 4) pa_nil)) (fun _ _ _ _ => (pe_tup (pa_cons (pe_ix (r := rIxL K) ix_list (pv 1) (pe_op op_mod (pv 0) pe_int) (fun _ _ => rfl)) (pa_cons (pe_callTy (r := rTupOf K) call_tuple_of rfl T.tuple PyProof.Rows.Boot.tuple (pa_cons (pe_slice (r := rSlL K) sl_list (pe_lst (pa_cons (pe_op op_sub (pv 0) pe_int) pa_nil)) po_none (po_some (pv 0))) pa_nil)) pa_nil))))))))
      pss_nil)
    (pss_cons (ps_for PassesOwn.never rfl (pi_range1 rfl T.range (pa_cons (pe_op op_add pe_int (pe_op op_mod (pe_call BC.ok hr rfl BC.m BC.kp BC.b .nil pass0 (pa_cons (pv 0) (pa_cons pe_int pa_nil))) pe_int)) pa_nil)) (pg_name (i := 5) sc__law_terms.nd rfl (Or.inl rfl))
      (pss_cons (ps_set (i := 6) sc__law_terms.nd rfl (Or.inl rfl) (pe_op op_mod (pe_op op_add (pe_op op_mul (pe_call BC.ok hr rfl BC.m BC.kp BC.b .nil pass0 (pa_cons (pv 0) (pa_cons (pe_op op_add pe_int (pv 5)) pa_nil))) pe_int) (pe_op op_mul pe_int (pv 5))) pe_int))
        (pss_cons (ps_set (i := 7) sc__law_terms.nd rfl (Or.inl rfl) (pe_lst pa_nil))
        (pss_cons (ps_for PassesOwn.never rfl (pi_range1 rfl T.range (pa_cons (pe_ix ix_list (pe_lst (pa_cons pe_int (pa_cons pe_int (pa_cons pe_int (pa_cons pe_int (pa_cons pe_int pa_nil)))))) (pe_op op_mod (pv 6) pe_int) (fun _ _ => rfl)) pa_nil)) (pg_name (i := 8) sc__law_terms.nd rfl (Or.inl rfl))
          (pss_cons (ps_set (i := 6) sc__law_terms.nd rfl (Or.inl rfl) (pe_op op_mod (pe_op op_add (pe_op op_mul (pv 6) pe_int) pe_int) pe_int))
            (pss_one (ps_if (PW.pt (pw_and (pt_cmpR op_gt (pv 5) pe_int (nomark _)) (pw_and1 (pt_cmpR op_lt (pe_ix ix_list (pv 3) (pe_op op_mod (pv 6) (pv 5)) (fun _ _ => rfl)) pe_int (nomark _)))))
              (pss_one (ps_expr (pe_bm PySem.F.plainAttrs_list PySem.F.slot_list_append PySem.F.type_list_append mt_append (pv 7) (pa_cons (pe_op op_mod (pv 6) (pv 5)) pa_nil))))
              pss_nil)))) h3))))
    (pss_one (ps_ret (pv 2))))))), ?_⟩
  refine ⟨(by show 0 ≤ sizeLine; decide), fun tl htl => ⟨(by show 0 ≤ sizeLine; decide), fun dl hdl => ?_⟩⟩
  have s1 : Same H (upd H tl (.lst [])) := sameNew htl _
  have n1 := upd_same (H := H) (a := tl) (o := .lst [])
  generalize upd H tl (.lst []) = H1 at s1 n1 hdl ⊢
  have s2 : Same H1 (upd H1 dl (.lst [])) := sameNew hdl _
  have n2 := upd_same (H := H1) (a := dl) (o := .lst [])
  have ntd : tl ≠ dl := ne_of_none n1 hdl
  generalize upd H1 dl (.lst []) = H2 at s2 n2
  have s02 := s1.trans s2
  have fdl : H dl = none := s1.free hdl
  have n12 := s2 _ _ n1
  have nnt : nl ≠ tl := ne_of_none hN htl
  have nnd : nl ≠ dl := ne_of_none hN fdl
  refine ⟨_, rfl, a, ns, 1, rfl, s02.seq hS, h63, by decide, fun i1 => ⟨_, _, rfl, rfl, ⟨by decide, by decide⟩, _, _, rfl, rfl, (by show (0 : Int) < 8; decide), rfl, _, rfl, ite2 (fun _ => ?_) (fun _ => ?_)⟩⟩
  · refine ⟨_, rfl, a, ns, 1, rfl, s02.seq hS, h63, by decide, fun i2 => ⟨_, _, rfl, rfl, ⟨by decide, by decide⟩, _, _, rfl, rfl, (by show (0 : Int) < 48; decide), _, _, rfl, rfl, ?_⟩⟩
    have b := modB (i2 / 96) (show (0 : Int) < 48 by decide)
    refine ⟨_, rfl, _, rfl, (by show -(2 ^ 62) ≤ 13 + i2 / 96 % 48; omega), (by show 13 + i2 / 96 % 48 < 2 ^ 62; omega), fun D hD => lc_by wk_range (fun i us H' => Same H2 H' ∧ ∃ T' : List Tm, HasL K H' (T'.map dT) us ∧ Chain zs T' ∧ T'.length = i) (fun _ _ _ _ => trivial) ⟨sameNew hD _, [], HasL.nil, Chain.nil zs, rfl⟩ ?_ ?_⟩
    · rintro i us H8 x H4 hi hly hDs ⟨s4, T', hT', ch, tl'⟩ ⟨rfl, rfl⟩
      have hi' : i < (13 + i2 / 96 % 48).toNat := hi
      obtain ⟨z, hz, ha⟩ := Nz.at (0 + (i : Int))
      have hN4 := s4 _ _ (s02 _ _ hN)
      refine ⟨_, rfl, _, rfl, _, _, rfl, rfl, (by show (0 : Int) < 3; decide), nl, _, _, _, rfl, rfl, SqL.of hN4, ha, _, rfl, _, _, rfl, rfl, (by show 1 ≤ sizeLine; decide), fun l1 hl1 => ?_⟩
      have s5 : Same H4 (upd H4 l1 (.lst [.int (0 + (i : Int) - 1)])) := sameNew hl1 _
      have n5 := upd_same (H := H4) (a := l1) (o := .lst [.int (0 + (i : Int) - 1)])
      generalize upd H4 l1 (.lst [.int (0 + (i : Int) - 1)]) = H5 at s5 n5
      refine ⟨_, rfl, _, rfl, l1, _, rfl, SqL.of n5, fun l2 hl2 => ?_⟩
      rw [cut_chain]
      have s6 : Same H5 (upd H5 l2 (.lst ((if i = 0 then [] else [0 + (i : Int) - 1]).map V.int))) := sameNew hl2 _
      have n6 := upd_same (H := H5) (a := l2) (o := .lst ((if i = 0 then [] else [0 + (i : Int) - 1]).map V.int))
      generalize upd H5 l2 (.lst ((if i = 0 then [] else [0 + (i : Int) - 1]).map V.int)) = H6 at s6 n6
      refine ⟨l2, _, rfl, .inl ⟨SqL.of n6, fun l3 hl3 => ⟨(by show 2 ≤ sizeLine; decide), fun p hp => ?_⟩⟩⟩
      have s7 : Same H6 (upd H6 l3 (.tup ((if i = 0 then [] else [0 + (i : Int) - 1]).map V.int))) := sameNew hl3 _
      have n7 := upd_same (H := H6) (a := l3) (o := .tup ((if i = 0 then [] else [0 + (i : Int) - 1]).map V.int))
      generalize upd H6 l3 (.tup ((if i = 0 then [] else [0 + (i : Int) - 1]).map V.int)) = H7 at s7 n7 hp ⊢
      have s8 : Same H7 (upd H7 p (.tup [.str z, .ref l3])) := sameNew hp _
      have n8 := upd_same (H := H7) (a := p) (o := .tup [.str z, .ref l3])
      generalize upd H7 p (.tup [.str z, .ref l3]) = H9 at s8 n8
      have s49 := ((s5.trans s6).trans s7).trans s8
      have hDs9 := s49 _ _ hDs
      have kt := KeepT.lst (ys := us ++ [.ref p]) hDs9
      have cs := ch.snoc Nz hz
      rw [tl'] at cs
      refine lc_post (szM (by show (13 + i2 / 96 % 48).toNat ≤ _; omega)) hi hly hDs9 ⟨(s4.trans s49).upd hD, _, ?_, cs, by rw [List.length_append, tl']; rfl⟩
      rw [List.map_append]
      exact HasL.append ((hT'.keep s49.kt (nols_dTs _)).keep kt (nols_dTs _)) (HasL.one ((has_dT (SqT.of n8) (SqT.of (s8 _ _ n7))).keep kt (nol_dT _)))
    · rintro us H4 hDs ⟨s4, T', hT', ch, tl'⟩
      have tl2 : T'.length = (13 + i2 / 96 % 48).toNat := tl'
      exact q H4 D us T' (s02.trans s4) (s02.free hD) hDs hT' (ch.ok Nz (by omega)) (by omega) (by omega)
  · refine ⟨_, rfl, a, ns, 1, rfl, s02.seq hS, h63, by decide, fun i3 => ⟨_, _, rfl, rfl, (by show (0 : Int) < 12; decide), _, _, rfl, rfl, _, rfl, ?_⟩⟩
    have b12 := modB i3 (show (0 : Int) < 12 by decide)
    refine ⟨(by show -(2 ^ 62) ≤ 1 + i3 % 12; omega), (by show 1 + i3 % 12 < 2 ^ 62; omega), for_range (lo := 0) (n := (1 + i3 % 12).toNat) (fun k σ H' => Same H H' ∧ ∃ (xs : List V) (T' : List Tm) (ds : List Int) (v5 v6 v7 v8 : Option V), σ = [some (.ref a), some (.ref nl), some (.ref tl), some (.ref dl), none, v5, v6, v7, v8] ∧ H' tl = some (.lst xs) ∧ HasL K H' (T'.map dT) xs ∧ H' dl = some (.lst (ds.map V.int)) ∧ Gen zs T' ds ∧ T'.length = k)
      ⟨s02, [], [], [], none, none, none, none, rfl, n12, HasL.nil, n2, Gen.nil zs, rfl⟩ ?_ ?_⟩
    · rintro k σ H3 hk ⟨s3, xs, T', ds, v5, v6, v7, v8, rfl, hT3, hL3, hD3, gen, tk⟩
      have k12 : k < 12 := by omega
      have ek : (0 : Int) + (k : Int) = (k : Int) := by omega
      rw [ek]
      have hN3 := s3 _ _ hN
      refine ⟨_, rfl, _, rfl, _, _, rfl, rfl, a, ns, _, rfl, s3.seq hS, h63, by omega, fun ic => ⟨_, _, rfl, rfl, .inr ⟨by decide, by decide⟩, _, rfl, _, _, rfl, rfl, .inl ⟨by decide, by decide⟩, _, _, rfl, rfl, _, _, rfl, rfl, (by show (0 : Int) < 2147483647; decide), ?_⟩⟩
      refine ⟨(by show 0 ≤ sizeLine; decide), fun pl hpl => ⟨(by show 5 ≤ sizeLine; decide), fun l5 hl5 => ?_⟩⟩
      have s4 : Same H3 (upd H3 pl (.lst [])) := sameNew hpl _
      have n4 := upd_same (H := H3) (a := pl) (o := .lst [])
      generalize upd H3 pl (.lst []) = H4 at s4 n4 hl5 ⊢
      have s5 : Same H4 (upd H4 l5 (.lst [V.int 0, .int 1, .int 2, .int 3, .int 1])) := sameNew hl5 _
      have n5 := upd_same (H := H4) (a := l5) (o := .lst [V.int 0, .int 1, .int 2, .int 3, .int 1])
      generalize upd H4 l5 (.lst [V.int 0, .int 1, .int 2, .int 3, .int 1]) = H5 at s5 n5
      obtain ⟨mn, hm, m3⟩ : ∃ mn : Nat, atI [V.int 0, .int 1, .int 2, .int 3, .int 1] ((ic * 48271 + 11 * (k : Int)) % 2147483647 % 5) = some (.int (mn : Int)) ∧ mn ≤ 3 := by
        have b5 := modB ((ic * 48271 + 11 * (k : Int)) % 2147483647) (show (0 : Int) < 5 by decide)
        generalize (ic * 48271 + 11 * (k : Int)) % 2147483647 % 5 = u at b5
        have : u = 0 ∨ u = 1 ∨ u = 2 ∨ u = 3 ∨ u = 4 := by omega
        rcases this with e | e | e | e | e <;> rw [e]
        · exact ⟨0, rfl, by decide⟩
        · exact ⟨1, rfl, by decide⟩
        · exact ⟨2, rfl, by decide⟩
        · exact ⟨3, rfl, by decide⟩
        · exact ⟨1, rfl, by decide⟩
      have dlen : ds.length = k := by rw [gen.len, tk]
      refine ⟨_, rfl, _, _, rfl, rfl, (by show (0 : Int) < 5; decide), l5, _, _, _, rfl, rfl, SqL.of n5, hm, _, rfl, (by show -(2 ^ 62) ≤ (mn : Int); omega), (by show (mn : Int) < 2 ^ 62; omega), for_range (lo := 0) (n := ((mn : Int)).toNat) (fun j σ H' => Same H3 H' ∧ ∃ (ps : List Int) (c : Int) (v8 : Option V), σ = [some (.ref a), some (.ref nl), some (.ref tl), some (.ref dl), none, some (.int (k : Int)), some (.int c), some (.ref pl), v8] ∧ H' pl = some (.lst (ps.map V.int)) ∧ ps.length ≤ j ∧ ∀ p ∈ ps, 0 ≤ p ∧ p < (k : Int) ∧ deepOf ds p < 5)
        ⟨s4.trans s5, [], _, _, rfl, s5 _ _ n4, Nat.le_refl _, fun p hp => nomatch hp⟩ ?_ ?_⟩
      · rintro j σ H6 hj ⟨s6, ps, c, u8, rfl, hP6, lp, pp⟩
        refine ⟨_, rfl, _, _, rfl, rfl, .inr ⟨by decide, by decide⟩, _, _, rfl, rfl, _, _, rfl, rfl, (by show (0 : Int) < 2147483647; decide), ?_⟩
        refine ⟨_, rfl, _, _, rfl, rfl, _, rfl, ite2 (fun c1 => ?_) (fun _ => iteF ⟨s6, ps, _, _, rfl, hP6, by omega, pp⟩)⟩
        have kpos : (0 : Int) < (k : Int) := of_decide_eq_true c1
        have bk := modB ((c * 69621 + 5) % 2147483647) kpos
        refine ⟨_, rfl, _, rfl, _, rfl, _, _, rfl, rfl, kpos, dl, _, _, _, rfl, rfl, SqL.of (s6 _ _ hD3), deep_at bk.1 (by rw [dlen]; exact bk.2), _, _, rfl, rfl, _, rfl, ite2 (fun c2 => ?_) (fun _ => ⟨s6, ps, _, _, rfl, hP6, by omega, pp⟩)⟩
        have c2' : deepOf ds ((c * 69621 + 5) % 2147483647 % (k : Int)) < 5 := of_decide_eq_true c2
        refine ⟨_, rfl, .inl ⟨rfl, _, SqL.of hP6⟩, _, rfl, _, rfl, _, _, rfl, rfl, kpos, pl, _, _, rfl, rfl, hP6, small1000 (by rw [List.length_map]; omega), s6.upd hpl, ps ++ [(c * 69621 + 5) % 2147483647 % (k : Int)], _, _, rfl, ?_, by rw [List.length_append, List.length_singleton]; omega, fun p hp => ?_⟩
        · rw [upd_same, List.map_append]
          rfl
        · rcases List.mem_append.mp hp with hp | hp
          · exact pp p hp
          · rw [List.mem_singleton.mp hp]
            exact ⟨bk.1, bk.2, c2'⟩
      · rintro σ H6 ⟨s6, ps, c, u8, rfl, hP6, lp, pp⟩
        have lp' : ps.length ≤ ((mn : Int)).toNat := lp
        refine q3 _ H H6 nl tl dl pl xs zs L T' ds ps k c _ _ _ (s3.trans s6) htl fdl ntd (s6 _ _ hN3) (s6 _ _ hT3) (hL3.keep s6.kt (nols_dTs _)) (s6 _ _ hD3) hP6 Nz gen tk k12 (by omega) pp (Ne.symm (ne_of_none hT3 hpl)) (Ne.symm (ne_of_none hD3 hpl)) nnt nnd fun H7 xs7 T7 ds7 s7 _ hT7 hL7 hD7 gen7 tk7 => ?_
        exact ⟨s7, xs7, T7, ds7, _, _, _, _, rfl, hT7, hL7, hD7, gen7, tk7⟩
    · rintro σ H3 ⟨s3, xs, T', ds, v5, v6, v7, v8, rfl, hT3, hL3, hD3, gen, tk⟩
      exact ⟨_, rfl, q H3 tl xs T' s3 htl hT3 hL3 gen.ok (by omega) (by omega)⟩
end
end K04

/-! law k04: _law_atoms, _law_rows. Behind K04j. -/
namespace K04
open PySem L2
structure AsW (zs : List Str) (n : Nat) (As : List At) : Prop where
  ao : ∀ a ∈ As, AOk n a ∧ ∀ z, a = .plain z → z ∈ zs
  pl : ∀ (i : Nat) z, As[i]? = some (.plain z) → At.plain z ∉ As.take i
  sa : ∀ (i : Nat) x y, As[i]? = some (.same x y) → At.same x y ∉ As.take i ∧ At.same y x ∉ As.take i
theorem AsW.nil (zs : List Str) (n : Nat) : AsW zs n [] := ⟨(fun a ha => nomatch ha), fun i z h => by simp at h, fun i x y h => by simp at h⟩
theorem AsW.snoc {zs : List Str} {n : Nat} {As : List At} {a : At} (h : AsW zs n As) (ha : AOk n a ∧ ∀ z, a = .plain z → z ∈ zs) (hp : ∀ z, a = .plain z → At.plain z ∉ As) (hs : ∀ x y, a = .same x y → At.same x y ∉ As ∧ At.same y x ∉ As) : AsW zs n (As ++ [a]) := by
  have split : ∀ (i : Nat) b, (As ++ [a])[i]? = some b → (As[i]? = some b ∧ (As ++ [a]).take i = As.take i) ∨ (b = a ∧ (As ++ [a]).take i = As) := fun i b e => by
    by_cases hi : i < As.length
    · rw [List.getElem?_append_left hi] at e
      exact .inl ⟨e, by rw [List.take_append_of_le_length (by omega)]⟩
    · have hi2 : i = As.length := by
        have := (List.getElem?_eq_some_iff.mp e).1
        rw [List.length_append, List.length_singleton] at this
        omega
      subst hi2
      rw [List.getElem?_append_right (Nat.le_refl _)] at e
      simp only [Nat.sub_self, List.getElem?_cons_zero, Option.some.injEq] at e
      exact .inr ⟨e.symm, by simp⟩
  refine ⟨fun b hb => ?_, fun i z e => ?_, fun i x y e => ?_⟩
  · rcases List.mem_append.mp hb with hb | hb
    · exact h.ao b hb
    · rw [List.mem_singleton.mp hb]
      exact ha
  · rcases split i _ e with ⟨e1, e2⟩ | ⟨e1, e2⟩
    · rw [e2]
      exact h.pl i z e1
    · rw [e2]
      exact hp z e1.symm
  · rcases split i _ e with ⟨e1, e2⟩ | ⟨e1, e2⟩
    · rw [e2]
      exact h.sa i x y e1
    · rw [e2]
      exact hs x y e1.symm
theorem not_anyA {As : List At} {a : At} (h : ¬ ((As.map dA).any fun d => peq d (dA a)) = true) : a ∉ As := fun hm => h (List.any_eq_true.mpr ⟨dA a, List.mem_map.mpr ⟨a, hm, rfl⟩, peq_refl _⟩)
theorem inV_ints {p : Int} {ps : List Int} : inV (.int p) (ps.map V.int) = true ↔ p ∈ ps := by
  unfold inV
  rw [List.any_eq_true]
  constructor
  · rintro ⟨y, hy, e⟩
    obtain ⟨w, hw, rfl⟩ := List.mem_map.mp hy
    have : w = p := eq_of_beq e
    rw [← this]
    exact hw
  · intro h
    exact ⟨.int p, List.mem_map.mpr ⟨p, h, rfl⟩, beq_self_eq_true p⟩
theorem flat_ints (ps : List Int) : (ps.map V.int).all flatV = true := by
  rw [List.all_eq_true]
  intro x hx
  obtain ⟨p, _, rfl⟩ := List.mem_map.mp hx
  rfl
def RsW (m : Nat) (Rs : List (List Int)) : Prop := ∀ r ∈ Rs, r.length ≤ 4 ∧ r.Nodup ∧ ∀ p ∈ r, POk m p
section
variable {P : Program} {w : World} {K : PySem.W.Frag} {mg : Str → Option Value} {base : Heap} {aK C CN CT CP CM : Addr} {f fC : Addr} {fd dC : FuncData}
abbrev NAs : List Str := ["_law_script", "_law_terms_here", "_law_names_here", "_law_atoms_here", "_law_k", "_law_cell", "_law_more_here", "_law_atom"]
theorem sc__law_atoms : FnScope NAs ["_law_script", "_law_terms_here", "_law_names_here"] (defScope s__law_atoms) := ⟨rfl, rfl, rfl, by decide +kernel, rfl, by decide +kernel, by decide +kernel⟩
theorem deps_A (As : List At) : deps (As.map dA) ≤ 1 := deps_code (code := dA) (n := 1) (fun t => Nat.le_of_eq (dep_dA t)) As
set_option maxHeartbeats 1000000 in
theorem atoms4 {cdv : Value} {A : Around} {outer : List Env} {s : Shared} {H0 : Hp} {E : XK} (hr : Room 1 (A.deeper (PyProof.Rows.envOfC "_law_atoms" (defScope s__law_atoms) s.heap.objs.size f cdv))) :
    ∃ t, PSs (cxOf CX0 P w K mg base NAs "_law_atoms" (defScope s__law_atoms) f cdv A outer s H0 E).nox ((forB ((defBody s__law_atoms).getD 1 (.Pass ⟨0, 0, 0, 0⟩))).drop 4) t ∧
      ∀ (D : Ends) (Hb H : Hp) (al q : Addr) (ys : List V) (zs : List Str) (n : Nat) (As : List At) (a : At) (v0 v1 v2 v4 v5 v6 : Option V), Same Hb H → Hb al = none → H al = some (.lst ys) → HasL K H (As.map dA) ys → AsW zs n As → As.length ≤ 10 → Has K H (dA a) (.ref q) → (AOk n a ∧ ∀ z, a = .plain z → z ∈ zs) →
        (∀ (H' : Hp) (ys' : List V) (As' : List At), Same Hb H' → H' al = some (.lst ys') → HasL K H' (As'.map dA) ys' → AsW zs n As' → As'.length ≤ As.length + 1 → D.nx [v0, v1, v2, some (.ref al), v4, v5, v6, some (.ref q)] H') →
        t D [v0, v1, v2, some (.ref al), v4, v5, v6, some (.ref q)] H := by
  have hu := hu64 hr
  refine ⟨_, (pss_one (ps_if (PW.pt (pw_and (pt_cmpR (op_notInD hu) (pv 7) (pv 3) rfl) (pw_and1 (pt_cmpR (op_notInD hu) (pe_tup (pa_cons pe_str (pa_cons (pe_ix ix_tup (pv 7) (pe_un un_neg pe_int) (fun _ _ => rfl)) (pa_cons (pe_ix ix_tup (pv 7) pe_int (fun _ _ => rfl)) pa_nil)))) (pv 3) rfl))))
          (pss_one (ps_expr (pe_bm PySem.F.plainAttrs_list PySem.F.slot_list_append PySem.F.type_list_append mt_append (pv 3) (pa_cons (pv 7) pa_nil))))
          pss_nil)), ?_⟩
  intro D Hb H al q ys zs n As a v0 v1 v2 v4 v5 v6 sb fal hA hL W l10 ha aok nx
  have yl : ys.length = As.length := by rw [← hL.length, List.length_map]
  have dd := deps_A As
  have skip : ∀ H', Same H H' → D.nx [v0, v1, v2, some (.ref al), v4, v5, v6, some (.ref q)] H' := fun H' s' => nx H' ys As (sb.trans s') (s' _ _ hA) (hL.keep s'.kt (nols_code nol_dA _)) W (by omega)
  have put : ∀ H', Same H H' → (∀ z, a = .plain z → At.plain z ∉ As) → (∀ x y, a = .same x y → At.same x y ∉ As ∧ At.same y x ∉ As) → D.nx [v0, v1, v2, some (.ref al), v4, v5, v6, some (.ref q)] (upd H' al (.lst (ys ++ [.ref q]))) := fun H' s' h1 h2 => by
    have hA' := s' _ _ hA
    have kt := KeepT.lst (ys := ys ++ [.ref q]) hA'
    refine nx _ (ys ++ [.ref q]) (As ++ [a]) ((sb.trans s').upd fal) upd_same ?_ (W.snoc aok h1 h2) (by rw [List.length_append]; exact Nat.le_refl _)
    rw [List.map_append]
    exact HasL.append ((hL.keep s'.kt (nols_code nol_dA _)).keep kt (nols_code nol_dA _)) (HasL.one ((ha.keep s'.kt (nol_dA _)).keep kt (nol_dA _)))
  refine ⟨_, rfl, _, rfl, al, ys, As.map dA, dA a, rfl, .inl (SqL.of hA), hL, ha, by omega, _, rfl, ite2 (fun c1 => ?_) (fun _ => iteF (skip H (Same.refl H)))⟩
  have na : a ∉ As := not_anyA (by
    intro e
    rw [if_pos rfl, e] at c1
    cases c1)
  cases a with
  | plain z =>
    obtain ⟨q', e, hq⟩ := has_plain ha
    cases e
    refine ⟨_, rfl, _, rfl, q, _, _, _, rfl, rfl, hq, rfl, _, rfl, q, _, _, _, rfl, rfl, hq, rfl, (by show 3 ≤ sizeLine; decide), fun p hp => ?_⟩
    have s1 : Same H (upd H p (.tup [.str "same", .str z, .str z])) := sameNew hp _
    have n1 := upd_same (H := H) (a := p) (o := .tup [.str "same", .str z, .str z])
    generalize upd H p (.tup [.str "same", .str z, .str z]) = H1 at s1 n1
    have hA1 := s1 _ _ hA
    refine ⟨_, rfl, al, ys, As.map dA, .tup [.str "same", .str z, .str z], rfl, .inl (SqL.of hA1), hL.keep s1.kt (nols_code nol_dA _), Has.tup' (SqT.of n1) (.cons Has.str' (.cons Has.str' (.cons Has.str' .nil))), by omega, _, rfl, ite2 (fun _ => ?_) (fun _ => skip H1 s1)⟩
    exact ⟨_, rfl, .inl ⟨rfl, _, SqL.of hA1⟩, _, rfl, al, _, _, rfl, rfl, hA1, small1000 (by omega), put H1 s1 (fun z' e => by cases e; exact na) (fun x y e => by cases e)⟩
  | same x y =>
    obtain ⟨q', e, hq⟩ := has_same ha
    cases e
    refine ⟨_, rfl, _, rfl, q, _, _, _, rfl, rfl, hq, rfl, _, rfl, q, _, _, _, rfl, rfl, hq, rfl, (by show 3 ≤ sizeLine; decide), fun p hp => ?_⟩
    have s1 : Same H (upd H p (.tup [.str "same", .int y, .int x])) := sameNew hp _
    have n1 := upd_same (H := H) (a := p) (o := .tup [.str "same", .int y, .int x])
    generalize upd H p (.tup [.str "same", .int y, .int x]) = H1 at s1 n1
    have hA1 := s1 _ _ hA
    refine ⟨_, rfl, al, ys, As.map dA, dA (.same y x), rfl, .inl (SqL.of hA1), hL.keep s1.kt (nols_code nol_dA _), Has.tup' (SqT.of n1) (.cons Has.str' (HasL.ints [y, x])), by omega, _, rfl, ite2 (fun c2 => ?_) (fun _ => skip H1 s1)⟩
    have nb : At.same y x ∉ As := not_anyA (by
      intro e
      rw [if_pos rfl, e] at c2
      cases c2)
    exact ⟨_, rfl, .inl ⟨rfl, _, SqL.of hA1⟩, _, rfl, al, _, _, rfl, rfl, hA1, small1000 (by omega), put H1 s1 (fun z' e => by cases e) (fun x' y' e => by cases e; exact ⟨na, nb⟩)⟩
def sp_atoms (K : PySem.W.Frag) : Sp := fun vs H Q _ => ∃ (a tl nl : Addr) (ns : List Int) (xs : List V) (zs : List Str) (L : Nat), vs = [.ref a, .ref tl, .ref nl] ∧ SqL K H a (ns.map V.int) ∧ ns.length ≤ 63 ∧ H tl = some (.lst xs) ∧ 1 ≤ xs.length ∧ H nl = some (.lst (zs.map V.str)) ∧ Nms zs L ∧
  ∀ (H' : Hp) (l : Addr) (ys : List V) (As : List At), Same H H' → H l = none → H' l = some (.lst ys) → HasL K H' (As.map dA) ys → AsW zs xs.length As → As.length ≤ 6 → Q (.ref l) H'
set_option maxHeartbeats 2000000 in
theorem ok_atoms (F : Fun K "_law_atoms" "_law_atoms" s__law_atoms f fd) (T : Txt K mg aK C CN CT CP CM) (BC : FB P w K mg base CX0 1 "_law_cell_at" fC dC ["_law_script", "_law_k"] (spCell K)) : FnOk P w K mg base CX0 2 f fd ["_law_script", "_law_terms_here", "_law_names_here"] (sp_atoms K) := by
  refine F.ok sc__law_atoms (fun vs H Q E h => ?_) (fun cdv A outer s H vs Q E hr h => ?_)
  · obtain ⟨a, tl, nl, ns, xs, zs, L, rfl, _⟩ := h
    rfl
  obtain ⟨a, tl, nl, ns, xs, zs, L, rfl, hS, h63, hT, x1, hN, Nz, q⟩ := h
  obtain ⟨t4, h4, q4⟩ := atoms4 (P := P) (w := w) (K := K) (mg := mg) (base := base) (f := f) (outer := outer) (H0 := H) (E := E) hr
  refine ⟨_, (pss_cons (ps_set (i := 3) sc__law_atoms.nd rfl (Or.inl rfl) (pe_lst pa_nil))
    (pss_cons (ps_for PassesOwn.never rfl (pi_range1 rfl T.range (pa_cons (pe_op op_mod (pe_call BC.ok hr rfl BC.m BC.kp BC.b .nil pass0 (pa_cons (pv 0) (pa_cons pe_int pa_nil))) pe_int) pa_nil)) (pg_name (i := 4) sc__law_atoms.nd rfl (Or.inl rfl))
      (pss_cons (ps_set (i := 5) sc__law_atoms.nd rfl (Or.inl rfl) (pe_op op_mod (pe_op op_add (pe_op op_mul (pe_call BC.ok hr rfl BC.m BC.kp BC.b .nil pass0 (pa_cons (pv 0) (pa_cons (pe_op op_add pe_int (pv 4)) pa_nil))) pe_int) (pe_op op_mul pe_int (pv 4))) pe_int))
        (pss_cons (ps_set (i := 6) sc__law_atoms.nd rfl (Or.inl rfl) (pe_op op_mod (pe_op op_mul (pv 5) pe_int) pe_int))
        (pss_cons (ps_set (i := 7) sc__law_atoms.nd rfl (Or.inl rfl) (pe_tup (pa_cons pe_str (pa_cons (pe_ix ix_list (pv 2) (pe_op op_mod (pv 6) pe_int) (fun _ _ => rfl)) pa_nil))))
        (pss_cons (ps_if (pt_cmpR op_gt (pe_op op_mod (pv 5) pe_int) pe_int (nomark _))
          (pss_one (ps_set (i := 7) sc__law_atoms.nd rfl (Or.inl rfl) (pe_tup (pa_cons pe_str (pa_cons (pe_op op_mod (pe_op op_fdiv (pv 5) pe_int) (pe_callB call_len_seq rfl T.len PySem.boot_len (pa_cons (pv 1) pa_nil))) (pa_cons (pe_op op_mod (pv 6) (pe_callB call_len_seq rfl T.len PySem.boot_len (pa_cons (pv 1) pa_nil))) pa_nil))))))
          pss_nil) h4)))))
    (pss_one (ps_ret (pv 3))))), ?_⟩
  refine ⟨(by show 0 ≤ sizeLine; decide), fun al hal => ?_⟩
  have s1 : Same H (upd H al (.lst [])) := sameNew hal _
  have n1 := upd_same (H := H) (a := al) (o := .lst [])
  generalize upd H al (.lst []) = H1 at s1 n1
  refine ⟨_, rfl, a, ns, 14, rfl, s1.seq hS, h63, by decide, fun i1 => ⟨_, _, rfl, rfl, (by show (0 : Int) < 7; decide), _, rfl, ?_⟩⟩
  have b7 := modB i1 (show (0 : Int) < 7 by decide)
  refine ⟨(by show -(2 ^ 62) ≤ i1 % 7; omega), (by show i1 % 7 < 2 ^ 62; omega), for_range (lo := 0) (n := (i1 % 7).toNat) (fun k σ H' => Same H H' ∧ ∃ (ys : List V) (As : List At) (v4 v5 v6 v7 : Option V), σ = [some (.ref a), some (.ref tl), some (.ref nl), some (.ref al), v4, v5, v6, v7] ∧ H' al = some (.lst ys) ∧ HasL K H' (As.map dA) ys ∧ AsW zs xs.length As ∧ As.length ≤ k)
    ⟨s1, [], [], none, none, none, none, rfl, n1, HasL.nil, AsW.nil _ _, Nat.le_refl _⟩ ?_ ?_⟩
  · rintro k σ H2 hk ⟨s2, ys, As, v4, v5, v6, v7, rfl, hA2, hL2, W2, lk⟩
    have hT2 := s2 _ _ hT
    have hN2 := s2 _ _ hN
    refine ⟨_, rfl, _, rfl, _, _, rfl, rfl, a, ns, _, rfl, s2.seq hS, h63, by omega, fun ic => ⟨_, _, rfl, rfl, .inr ⟨by decide, by decide⟩, _, rfl, _, _, rfl, rfl, .inl ⟨by decide, by decide⟩, _, _, rfl, rfl, _, _, rfl, rfl, (by show (0 : Int) < 2147483647; decide), ?_⟩⟩
    refine ⟨_, rfl, _, _, rfl, rfl, .inr ⟨by decide, by decide⟩, _, _, rfl, rfl, (by show (0 : Int) < 2147483647; decide), ?_⟩
    obtain ⟨z, hz, ha⟩ := Nz.at ((ic * 48271 + 13 * (0 + (k : Int))) % 2147483647 * 69621 % 2147483647)
    refine ⟨_, rfl, _, rfl, _, _, rfl, rfl, (by show (0 : Int) < 3; decide), nl, _, _, _, rfl, rfl, SqL.of hN2, ha, (by show 2 ≤ sizeLine; decide), fun p hp => ?_⟩
    have s3 : Same H2 (upd H2 p (.tup [.str "plain", .str z])) := sameNew hp _
    have n3 := upd_same (H := H2) (a := p) (o := .tup [.str "plain", .str z])
    generalize upd H2 p (.tup [.str "plain", .str z]) = H3 at s3 n3
    have z8 : z.length ≤ 8 := by have := Nz.ln z hz; have := Nz.l7; omega
    have e0 : (0 : Int) < ((xs.length : Nat) : Int) := by omega
    refine ⟨_, rfl, _, _, rfl, rfl, (by show (0 : Int) < 3; decide), _, _, rfl, rfl, _, rfl, ite2 (fun _ => ?_) (fun _ => ?_)⟩
    · have hT3 := s3 _ _ hT2
      have m1 := modB ((ic * 48271 + 13 * (0 + (k : Int))) % 2147483647 / 3) e0
      have m2 := modB ((ic * 48271 + 13 * (0 + (k : Int))) % 2147483647 * 69621 % 2147483647) e0
      refine ⟨_, rfl, _, _, rfl, rfl, ⟨by decide, by decide⟩, _, rfl, tl, _, rfl, .inl (SqL.of hT3), _, _, rfl, rfl, e0, _, rfl, _, rfl, tl, _, rfl, .inl (SqL.of hT3), _, _, rfl, rfl, e0, (by show 3 ≤ sizeLine; decide), fun p2 hp2 => ?_⟩
      have s4 : Same H3 (upd H3 p2 (.tup [.str "same", .int ((ic * 48271 + 13 * (0 + (k : Int))) % 2147483647 / 3 % ((xs.length : Nat) : Int)), .int ((ic * 48271 + 13 * (0 + (k : Int))) % 2147483647 * 69621 % 2147483647 % ((xs.length : Nat) : Int))])) := sameNew hp2 _
      refine q4 _ H _ al p2 ys zs xs.length As (.same ((ic * 48271 + 13 * (0 + (k : Int))) % 2147483647 / 3 % ((xs.length : Nat) : Int)) ((ic * 48271 + 13 * (0 + (k : Int))) % 2147483647 * 69621 % 2147483647 % ((xs.length : Nat) : Int))) _ _ _ _ _ _ (s2.trans (s3.trans s4)) hal ((s3.trans s4) _ _ hA2) (hL2.keep (s3.trans s4).kt (nols_code nol_dA _)) W2 (by omega) (Has.tup' (SqT.of upd_same) (.cons Has.str' (HasL.ints [_, _]))) ⟨⟨m1, m2⟩, fun z e => by cases e⟩ fun H' ys' As' s' hA' hL' W' l' => ?_
      exact ⟨s', ys', As', _, _, _, _, rfl, hA', hL', W', by omega⟩
    · refine q4 _ H H3 al p ys zs xs.length As (.plain z) _ _ _ _ _ _ (s2.trans s3) hal (s3 _ _ hA2) (hL2.keep s3.kt (nols_code nol_dA _)) W2 (by omega) (Has.tup' (SqT.of n3) (.cons Has.str' (.cons Has.str' .nil))) ⟨z8, fun z' e => by cases e; exact hz⟩ fun H' ys' As' s' hA' hL' W' l' => ?_
      exact ⟨s', ys', As', _, _, _, _, rfl, hA', hL', W', by omega⟩
  · rintro σ H2 ⟨s2, ys, As, v4, v5, v6, v7, rfl, hA2, hL2, W2, lk⟩
    exact ⟨_, rfl, q H2 al ys As s2 hal hA2 hL2 W2 (by omega)⟩
def sp_rows (K : PySem.W.Frag) : Sp := fun vs H Q _ => ∃ (a al : Addr) (ns : List Int) (ys : List V) (As : List At), vs = [.ref a, .ref al] ∧ SqL K H a (ns.map V.int) ∧ ns.length ≤ 63 ∧ H al = some (.lst ys) ∧ HasL K H (As.map dA) ys ∧ As.length ≤ 10 ∧
  ∀ (H' : Hp) (l : Addr) (zs : List V) (Rs : List (List Int)), Same H H' → H l = none → H' l = some (.lst zs) → HasL K H' (Rs.map dR) zs → RsW As.length Rs → Rs.length ≤ 5 → Q (.ref l) H'
theorem sc__law_rows : FnScope ["_law_script", "_law_atoms_here", "_law_rows_here", "_law_k", "_law_cell", "_law_row", "_law_j", "_law_part"] ["_law_script", "_law_atoms_here"] (defScope s__law_rows) := ⟨rfl, rfl, rfl, by decide +kernel, rfl, by decide +kernel, by decide +kernel⟩
set_option maxHeartbeats 2000000 in
theorem ok_rows (F : Fun K "_law_rows" "_law_rows" s__law_rows f fd) (T : Txt K mg aK C CN CT CP CM) (nMx : mg "max" = none) (BC : FB P w K mg base CX0 1 "_law_cell_at" fC dC ["_law_script", "_law_k"] (spCell K)) : FnOk P w K mg base CX0 2 f fd ["_law_script", "_law_atoms_here"] (sp_rows K) := by
  refine F.ok sc__law_rows (fun vs H Q E h => ?_) (fun cdv A outer s H vs Q E hr h => ?_)
  · obtain ⟨a, al, ns, ys, As, rfl, _⟩ := h
    rfl
  obtain ⟨a, al, ns, ys, As, rfl, hS, h63, hA, hL, l10, q⟩ := h
  have hu := hu64 hr
  have yl : ys.length = As.length := by rw [← hL.length, List.length_map]
  have dd := deps_A As
  refine ⟨_, (pss_cons (ps_set (i := 2) sc__law_rows.nd rfl (Or.inl rfl) (pe_lst pa_nil))
    (pss_cons (ps_for PassesOwn.never rfl (pi_range1 rfl T.range (pa_cons (pe_op op_mod (pe_call BC.ok hr rfl BC.m BC.kp BC.b .nil pass0 (pa_cons (pv 0) (pa_cons pe_int pa_nil))) pe_int) pa_nil)) (pg_name (i := 3) sc__law_rows.nd rfl (Or.inl rfl))
      (pss_cons (ps_set (i := 4) sc__law_rows.nd rfl (Or.inl rfl) (pe_op op_mod (pe_op op_add (pe_op op_mul (pe_call BC.ok hr rfl BC.m BC.kp BC.b .nil pass0 (pa_cons (pv 0) (pa_cons (pe_op op_add pe_int (pv 3)) pa_nil))) pe_int) (pe_op op_mul pe_int (pv 3))) pe_int))
        (pss_cons (ps_set (i := 5) sc__law_rows.nd rfl (Or.inl rfl) (pe_lst pa_nil))
        (pss_cons (ps_for PassesOwn.never rfl (pi_range1 rfl T.range (pa_cons (pe_op op_mod (pv 4) pe_int) pa_nil)) (pg_name (i := 6) sc__law_rows.nd rfl (Or.inl rfl))
          (pss_cons (ps_set (i := 4) sc__law_rows.nd rfl (Or.inl rfl) (pe_op op_mod (pe_op op_add (pe_op op_mul (pv 4) pe_int) pe_int) pe_int))
            (pss_cons (ps_set (i := 7) sc__law_rows.nd rfl (Or.inl rfl) (pe_op op_mul (pe_op op_add pe_int (pe_op op_mod (pv 4) (pe_callB (call_max2 rfl) rfl nMx PyProof.Rows.Boot.max (pa_cons pe_int (pa_cons (pe_callB call_len_seq rfl T.len PySem.boot_len (pa_cons (pv 1) pa_nil)) pa_nil))))) (pe_op op_sub pe_int (pe_op op_mul pe_int (pe_op op_mod (pe_op op_fdiv (pv 4) pe_int) pe_int)))))
            (pss_one (ps_if (PW.pt (pw_and (pt_cmpR (op_neD hu) (pv 1) (pe_lst pa_nil) rfl) (pw_and1 (pt_cmpR op_notIn_seq (pv 7) (pv 5) rfl))))
              (pss_one (ps_expr (pe_bm PySem.F.plainAttrs_list PySem.F.slot_list_append PySem.F.type_list_append mt_append (pv 5) (pa_cons (pv 7) pa_nil))))
              pss_nil)))))
        (pss_one (ps_expr (pe_bm PySem.F.plainAttrs_list PySem.F.slot_list_append PySem.F.type_list_append mt_append (pv 2) (pa_cons (pe_callTy call_tuple_of rfl T.tuple PyProof.Rows.Boot.tuple (pa_cons (pv 5) pa_nil)) pa_nil))))))))
    (pss_one (ps_ret (pv 2))))), ?_⟩
  refine ⟨(by show 0 ≤ sizeLine; decide), fun rl hrl => ?_⟩
  have s1 : Same H (upd H rl (.lst [])) := sameNew hrl _
  have n1 := upd_same (H := H) (a := rl) (o := .lst [])
  generalize upd H rl (.lst []) = H1 at s1 n1
  refine ⟨_, rfl, a, ns, 22, rfl, s1.seq hS, h63, by decide, fun i1 => ⟨_, _, rfl, rfl, (by show (0 : Int) < 6; decide), _, rfl, ?_⟩⟩
  have b6 := modB i1 (show (0 : Int) < 6 by decide)
  refine ⟨(by show -(2 ^ 62) ≤ i1 % 6; omega), (by show i1 % 6 < 2 ^ 62; omega), for_range (lo := 0) (n := (i1 % 6).toNat) (fun k σ H' => Same H H' ∧ ∃ (zs : List V) (Rs : List (List Int)) (v3 v4 v5 v6 v7 : Option V), σ = [some (.ref a), some (.ref al), some (.ref rl), v3, v4, v5, v6, v7] ∧ H' rl = some (.lst zs) ∧ HasL K H' (Rs.map dR) zs ∧ RsW As.length Rs ∧ Rs.length = k)
    ⟨s1, [], [], none, none, none, none, none, rfl, n1, HasL.nil, (fun r hr => nomatch hr), rfl⟩ ?_ ?_⟩
  · rintro k σ H2 hk ⟨s2, zs, Rs, v3, v4, v5, v6, v7, rfl, hR2, hL2, W2, lk⟩
    have zl : zs.length = Rs.length := by rw [← hL2.length, List.length_map]
    refine ⟨_, rfl, _, rfl, _, _, rfl, rfl, a, ns, _, rfl, s2.seq hS, h63, by omega, fun ic => ⟨_, _, rfl, rfl, .inr ⟨by decide, by decide⟩, _, rfl, _, _, rfl, rfl, .inl ⟨by decide, by decide⟩, _, _, rfl, rfl, _, _, rfl, rfl, (by show (0 : Int) < 2147483647; decide), ?_⟩⟩
    refine ⟨(by show 0 ≤ sizeLine; decide), fun pl hpl => ?_⟩
    have s3 : Same H2 (upd H2 pl (.lst [])) := sameNew hpl _
    have n3 := upd_same (H := H2) (a := pl) (o := .lst [])
    generalize upd H2 pl (.lst []) = H3 at s3 n3
    have b5 := modB ((ic * 48271 + 17 * (0 + (k : Int))) % 2147483647) (show (0 : Int) < 5 by decide)
    refine ⟨_, rfl, _, _, rfl, rfl, (by show (0 : Int) < 5; decide), _, rfl, (by show -(2 ^ 62) ≤ (ic * 48271 + 17 * (0 + (k : Int))) % 2147483647 % 5; omega), (by show (ic * 48271 + 17 * (0 + (k : Int))) % 2147483647 % 5 < 2 ^ 62; omega), for_range (lo := 0) (n := ((ic * 48271 + 17 * (0 + (k : Int))) % 2147483647 % 5).toNat) (fun j σ H' => Same H2 H' ∧ ∃ (ps : List Int) (c : Int) (v6 v7 : Option V), σ = [some (.ref a), some (.ref al), some (.ref rl), some (.int (0 + (k : Int))), some (.int c), some (.ref pl), v6, v7] ∧ H' pl = some (.lst (ps.map V.int)) ∧ ps.length ≤ j ∧ ps.Nodup ∧ ∀ p ∈ ps, POk As.length p)
      ⟨s3, [], _, _, _, rfl, n3, Nat.le_refl _, by simp, fun p hp => nomatch hp⟩ ?_ ?_⟩
    · rintro j σ H4 hj ⟨s4, ps, c, u6, u7, rfl, hP4, lp, nd, pp⟩
      have s04 := s2.trans s4
      have hA4 := s04 _ _ hA
      have hj5 : j < 5 := by omega
      refine ⟨_, rfl, _, _, rfl, rfl, .inr ⟨by decide, by decide⟩, _, _, rfl, rfl, _, _, rfl, rfl, (by show (0 : Int) < 2147483647; decide), ?_⟩
      have mx : (0 : Int) < (if ((ys.length : Nat) : Int) > 1 then ((ys.length : Nat) : Int) else 1) := by split <;> omega
      have bm := modB ((c * 69621 + 5) % 2147483647) mx
      have b2 := modB ((c * 69621 + 5) % 2147483647 / 64) (show (0 : Int) < 2 by decide)
      have mx2 : (if ((ys.length : Nat) : Int) > 1 then ((ys.length : Nat) : Int) else 1) ≤ 10 := by split <;> omega
      refine ⟨_, rfl, _, rfl, al, _, rfl, .inl (SqL.of hA4), _, _, rfl, _, _, rfl, rfl, mx, _, _, rfl, rfl, _, rfl, _, _, rfl, rfl, ⟨by decide, by decide⟩, _, _, rfl, rfl, (by show (0 : Int) < 2; decide), _, _, rfl, rfl, .inl ⟨by decide, by decide⟩, _, _, rfl, rfl, _, _, rfl, rfl, .inl ⟨by omega, by omega⟩, ?_⟩
      refine ⟨_, rfl, (by show 0 ≤ sizeLine; decide), fun e he => ?_⟩
      have s5 : Same H4 (upd H4 e (.lst [])) := sameNew he _
      have n5 := upd_same (H := H4) (a := e) (o := .lst [])
      generalize upd H4 e (.lst []) = H5 at s5 n5
      have hP5 := s5 _ _ hP4
      refine ⟨.lst (As.map dA), .lst [], Has.lst' (SqL.of (s5 _ _ hA4)) (hL.keep (s04.trans s5).kt (nols_code nol_dA _)), Has.lst' (SqL.of n5) HasL.nil, (by simp only [dep]; omega), _, rfl, ?_⟩
      by_cases hne : As = []
      · subst hne
        exact iteF ⟨s4.trans s5, ps, _, _, _, rfl, hP5, by omega, nd, pp⟩
      have e0 : peq (.lst (As.map dA)) (.lst []) = false := by
        cases As with
        | nil => exact absurd rfl hne
        | cons t ts => rfl
      rw [e0]
      refine iteT ⟨_, rfl, _, rfl, pl, ps.map V.int, rfl, .inl (SqL.of hP5), rfl, flat_ints ps, _, rfl, ite2 (fun cc => ?_) (fun _ => ⟨s4.trans s5, ps, _, _, _, rfl, hP5, by omega, nd, pp⟩)⟩
      have a1 : 1 ≤ As.length := Nat.pos_of_ne_zero fun z => hne (List.length_eq_zero_iff.mp z)
      have emx : (if ((ys.length : Nat) : Int) > 1 then ((ys.length : Nat) : Int) else 1) = ((As.length : Nat) : Int) := by rw [yl]; split <;> omega
      have hn : (1 + (c * 69621 + 5) % 2147483647 % (if ((ys.length : Nat) : Int) > 1 then ((ys.length : Nat) : Int) else 1)) * (1 - 2 * ((c * 69621 + 5) % 2147483647 / 64 % 2)) ∉ ps := fun hm => by
        rw [inV_ints.mpr hm] at cc
        cases cc
      refine ⟨_, rfl, .inl ⟨rfl, _, SqL.of hP5⟩, _, rfl, pl, _, _, rfl, rfl, hP5, small1000 (by rw [List.length_map]; omega), (s4.trans s5).upd hpl, ps ++ [(1 + (c * 69621 + 5) % 2147483647 % (if ((ys.length : Nat) : Int) > 1 then ((ys.length : Nat) : Int) else 1)) * (1 - 2 * ((c * 69621 + 5) % 2147483647 / 64 % 2))], _, _, _, rfl, ?_, by rw [List.length_append, List.length_singleton]; omega, ?_, fun p hp => ?_⟩
      · rw [upd_same, List.map_append]
        rfl
      · refine List.nodup_append.mpr ⟨nd, by simp, fun x hx y hy e => ?_⟩
        rw [List.mem_singleton.mp hy] at e
        exact hn (e ▸ hx)
      · rcases List.mem_append.mp hp with hp | hp
        · exact pp p hp
        · rw [List.mem_singleton.mp hp]
          rw [emx] at bm ⊢
          have hb : (c * 69621 + 5) % 2147483647 / 64 % 2 = 0 ∨ (c * 69621 + 5) % 2147483647 / 64 % 2 = 1 := by omega
          rcases hb with e | e
          · rw [e]
            exact ⟨by omega, by omega, by omega⟩
          · rw [e]
            exact ⟨by omega, by omega, by omega⟩
    · rintro σ H4 ⟨s4, ps, c, u6, u7, rfl, hP4, lp, nd, pp⟩
      have hR4 := s4 _ _ hR2
      have lp' : ps.length ≤ ((ic * 48271 + 17 * (0 + (k : Int))) % 2147483647 % 5).toNat := lp
      refine ⟨_, rfl, .inl ⟨rfl, _, SqL.of hR4⟩, _, rfl, pl, _, rfl, .inl ⟨SqL.of hP4, fun l5 hl5 => ?_⟩⟩
      have s5 : Same H4 (upd H4 l5 (.tup (ps.map V.int))) := sameNew hl5 _
      have n5 := upd_same (H := H4) (a := l5) (o := .tup (ps.map V.int))
      generalize upd H4 l5 (.tup (ps.map V.int)) = H5 at s5 n5
      have hR5 := s5 _ _ hR4
      have kt := KeepT.lst (ys := zs ++ [.ref l5]) hR5
      have s25 := s4.trans s5
      refine ⟨rl, _, _, rfl, rfl, hR5, small1000 (by omega), (s2.trans s25).upd hrl, zs ++ [.ref l5], Rs ++ [ps], _, _, _, _, _, rfl, upd_same, ?_, fun r hr' => ?_, by rw [List.length_append, lk]; rfl⟩
      · rw [List.map_append]
        exact HasL.append ((hL2.keep s25.kt (nols_code nol_dR _)).keep kt (nols_code nol_dR _)) (HasL.one (Has.tup' (kt.sq (SqT.of n5)) (HasL.ints ps)))
      · rcases List.mem_append.mp hr' with hr' | hr'
        · exact W2 r hr'
        · rw [List.mem_singleton.mp hr']
          exact ⟨by omega, nd, pp⟩
  · rintro σ H2 ⟨s2, zs, Rs, v3, v4, v5, v6, v7, rfl, hR2, hL2, W2, lk⟩
    exact ⟨_, rfl, q H2 rl zs Rs s2 hrl hR2 hL2 W2 (by omega)⟩
end
end K04

/-! law k04: _law_more; the law, its second half. Behind K04k. -/
namespace K04
open PySem L2
theorem kit_self (K : PySem.W.Frag) (n : String) : PySem.W.kitOne K (.type n) (.type n) = some true := by
  unfold PySem.W.kitOne
  rw [if_pos (by rw [beq_self_eq_true])]
theorem zz_name : nameB "zz" = true := by decide +kernel
theorem low_zz : Low "zz" := ⟨by decide +kernel, by decide +kernel⟩
theorem zz2 : (("zz" : Str)).length ≤ 8 := by decide +kernel
theorem POk.more {m : Nat} {p : Int} (h : POk m p) : POk (m + 1) p := by
  obtain ⟨h0, h1, h2⟩ := h
  exact ⟨h0, by omega, by omega⟩
def spLaw (K : PySem.W.Frag) : Sp := fun vs H Q _ => ∃ (a : Addr) (ns : List Int), vs = [.ref a] ∧ SqL K H a (ns.map V.int) ∧ ns.length ≤ 63 ∧ ∀ H', Q (.bl true) H'
section
variable {P : Program} {w : World} {K : PySem.W.Frag} {mg : Str → Option Value} {base : Heap} {aK C CN CT CP CM : Addr} {f fW fP fT fU fV fX fMo : Addr} {fd dW dP dT' dU dV dX dMo : FuncData}
variable {fI fA fQ fS fR : Addr} {dI dA' dQ dS dR' : FuncData}
def sp_more (K : PySem.W.Frag) (C : Addr) : Sp := fun vs H Q _ => ∃ (p tl al rl : Addr) (T : List Tm) (As : List At) (Rs : List (List Int)), vs = [.ref p, .str (wtx (txs T) As Rs), .str (ptx (txs T) (As ++ [.plain "zz"]) 1)] ∧ PrW K C H p tl al rl T As Rs ∧ (∀ r ∈ Rs, r.length ≤ 10 ∧ ∀ k ∈ r, POk As.length k) ∧ At.plain "zz" ∉ As ∧ As.length ≤ 10 ∧ Rs.length ≤ 10 ∧ T.length ≤ 60 ∧ ∀ H', Q (.bl true) H'
theorem sc__law_more : FnScope ["_law_problem", "_law_found", "_law_first", "_law_number"] ["_law_problem", "_law_found", "_law_first"] (defScope s__law_more) := ⟨rfl, rfl, rfl, by decide +kernel, rfl, by decide +kernel, by decide +kernel⟩
set_option maxHeartbeats 2000000 in
theorem ok_more (F : Fun K "_law_more" "_law_more" s__law_more f fd) (T : Txt K mg aK C CN CT CP CM) (G : Own P w K mg base C CN CT CP CM fI fA fQ fS fR dI dA' dQ dS dR') (BW : FB P w K mg base CX0 65 "written" fW dW ["problem"] (sp_written K C)) (BP : FB P w K mg base CX0 63 "shown_part" fP dP ["problem", "part"] (sp_spart K C)) : FnOk P w K mg base CX0 66 f fd ["_law_problem", "_law_found", "_law_first"] (sp_more K C) := by
  refine F.ok sc__law_more (fun vs H Q E h => ?_) (fun cdv A outer s H vs Q E hr h => ?_)
  · obtain ⟨p, tl, al, rl, T, As, Rs, rfl, _⟩ := h
    rfl
  obtain ⟨p, tl, al, rl, T', As, Rs, rfl, hP, rok, nz, a10, r10, t60, k⟩ := h
  have hr4 : Room 4 _ := hr.mono (by decide)
  have hr63 : Room 63 _ := hr.mono (by decide)
  refine ⟨_, (pss_cons (ps_set (i := 3) sc__law_more.nd rfl (Or.inl rfl) (pe_meth (pv 0) T.cl G.mQ G.Q hr4 G.bQ .nil passF (pa_cons pe_str pa_nil)))
    (pss_cons (ps_expr (pe_meth (pv 0) T.cl G.mR G.R hr4 G.bR .nil passF (pa_cons (pe_tup (pa_cons (pe_un un_neg (pv 3)) (pa_cons pe_int pa_nil))) pa_nil)))
    (pss_cons (ps_expr (pe_meth (pv 0) T.cl G.mR G.R hr4 G.bR .nil passF (pa_cons (pe_tup pa_nil) pa_nil)))
    (pss_one (ps_ret (pe_and (pe_cmpR op_eq (pe_call BW.ok hr rfl BW.m BW.kp BW.b .nil pass0 (pa_cons (pv 0) pa_nil)) (pe_op op_add_str (pe_op op_add_str (pe_op op_add_str (pv 1) pe_str) (pv 2)) pe_str) (nomark _)) (pe_one (pe_cmpR op_eq (pe_call BP.ok hr63 rfl BP.m BP.kp BP.b .nil pass0 (pa_cons (pv 0) (pa_cons (pv 3) pa_nil))) pe_str (nomark _))))))))), ?_⟩
  obtain ⟨dx, _, ho, _⟩ := hP.pr.lenT
  refine ⟨_, rfl, p, dx, _, rfl, ho, no_add_plain _ _ _, p, tl, al, rl, T', As, Rs, _, rfl, hP.pr, low_zz, by omega, ?_⟩
  have ap : addP As "zz" = (.num (As.length + 1), As ++ [.plain "zz"]) := by
    unfold addP
    rw [if_neg (by rw [zz_name]; decide), if_neg nz, if_neg (by omega)]
  rw [ap]
  intro H1 pr1 _
  have la : (As ++ [At.plain "zz"]).length = As.length + 1 := by rw [List.length_append]; rfl
  -- a row of two parts
  obtain ⟨dx1, _, ho1, _⟩ := pr1.lenT
  refine ⟨_, rfl, p, dx1, _, rfl, ho1, no_add_row _ _ _, _, rfl, _, rfl, (by show 2 ≤ sizeLine; decide), fun q hq => ?_⟩
  have s2 : Same H1 (upd H1 q (.tup [.int (-((As.length + 1 : Nat) : Int)), .int 1])) := same_new hq _
  have n2 := upd_same (H := H1) (a := q) (o := .tup [.int (-((As.length + 1 : Nat) : Int)), .int 1])
  generalize upd H1 q (.tup [.int (-((As.length + 1 : Nat) : Int)), .int 1]) = H2 at s2 n2
  have bnd : ∀ i ∈ ([-((As.length + 1 : Nat) : Int), 1] : List Int), i ≠ 0 ∧ -(((As ++ [At.plain "zz"]).length : Nat) : Int) ≤ i ∧ i ≤ (((As ++ [At.plain "zz"]).length : Nat) : Int) := fun i hi => by
    rw [la]
    simp only [List.mem_cons, List.not_mem_nil, or_false] at hi
    omega
  refine ⟨p, tl, al, rl, q, T', As ++ [.plain "zz"], Rs, [-((As.length + 1 : Nat) : Int), 1], rfl, pr1.same s2, .inr (SqT.of n2), by simp, (fun i hi => by have := bnd i hi; rw [la] at this; omega), by omega, ?_⟩
  rw [addR_num bnd (by simp) (by omega)]
  intro H3 pr3 _
  have e1 : once [] [-((As.length + 1 : Nat) : Int), 1] = [-((As.length + 1 : Nat) : Int), 1] := by
    simp [once]
    omega
  rw [e1] at pr3
  -- a row without parts
  obtain ⟨dx3, _, ho3, _⟩ := pr3.lenT
  refine ⟨_, rfl, p, dx3, _, rfl, ho3, no_add_row _ _ _, (by show 0 ≤ sizeLine; decide), fun q4 hq4 => ?_⟩
  have s4 : Same H3 (upd H3 q4 (.tup [])) := same_new hq4 _
  have n4 := upd_same (H := H3) (a := q4) (o := .tup [])
  generalize upd H3 q4 (.tup []) = H4 at s4 n4
  have lr : (Rs ++ [[-((As.length + 1 : Nat) : Int), 1]]).length = Rs.length + 1 := by rw [List.length_append]; rfl
  refine ⟨p, tl, al, rl, q4, T', As ++ [.plain "zz"], Rs ++ [[-((As.length + 1 : Nat) : Int), 1]], [], rfl, pr3.same s4, .inr (SqT.of n4), by decide, (fun i hi => nomatch hi), by omega, ?_⟩
  rw [addR_num (ps := []) (fun i hi => nomatch hi) (by decide) (by omega)]
  intro H5 pr5 _
  have e2 : once [] [] = ([] : List Int) := rfl
  rw [e2] at pr5
  have W5 : PrW K C H5 p tl al rl T' (As ++ [.plain "zz"]) (Rs ++ [[-((As.length + 1 : Nat) : Int), 1]] ++ [[]]) := ⟨pr5, hP.wf, hP.sm, fun a ha => by
    rcases List.mem_append.mp ha with ha | ha
    · exact hP.ao a ha
    · rw [List.mem_singleton.mp ha]
      exact zz2, hP.nm⟩
  have rok5 : ∀ r ∈ Rs ++ [[-((As.length + 1 : Nat) : Int), 1]] ++ [[]], r.length ≤ 10 ∧ ∀ j ∈ r, POk (As ++ [At.plain "zz"]).length j := fun r hr' => by
    rw [la]
    rcases List.mem_append.mp hr' with hr' | hr'
    · rcases List.mem_append.mp hr' with hr' | hr'
      · exact ⟨(rok r hr').1, fun j hj => ((rok r hr').2 j hj).more⟩
      · rw [List.mem_singleton.mp hr']
        refine ⟨by simp, fun j hj => ?_⟩
        simp only [List.mem_cons, List.not_mem_nil, or_false] at hj
        exact ⟨by omega, by omega, by omega⟩
    · rw [List.mem_singleton.mp hr']
      exact ⟨by decide, fun j hj => nomatch hj⟩
  have we := wtx_end (us := txs T') (As := As) (Rs := Rs) fun r hr' => (rok r hr').2
  rw [show (-(((As.length : Nat) : Int) + 1)) = -((As.length + 1 : Nat) : Int) by omega] at we
  have wl := wtx_len hP.sm hP.ao rok
  have w1 : (wtx (txs T') As Rs).length ≤ 500010 := by
    have := Nat.mul_le_mul_left 50001 r10
    omega
  have pk1 : POk (As ++ [At.plain "zz"]).length 1 := by rw [la]; exact ⟨by decide, by omega, by omega⟩
  have p1 := ptx_len hP.sm W5.ao pk1
  refine ⟨_, rfl, p, tl, al, rl, T', As ++ [.plain "zz"], _, rfl, W5, rok5, by rw [List.length_append, lr]; simp; omega, by omega, fun H6 s6 => ?_⟩
  refine ⟨_, rfl, _, _, rfl, rfl, szM (by rw [show (("not zz or " : Str)).length = 10 by decide +kernel]; omega), _, rfl, _, _, rfl, rfl, szM (by rw [app_len, show (("not zz or " : Str)).length = 10 by decide +kernel]; omega), _, _, rfl, rfl, szM (by rw [app_len, app_len, show (("not zz or " : Str)).length = 10 by decide +kernel, show (("\nnever\n" : Str)).length = 7 by decide +kernel]; omega), rfl, _, rfl, ite2 (fun _ => ?_) (fun c => absurd (decide_eq_true (congrArg V.str we)) c)⟩
  have pkn : POk (As ++ [At.plain "zz"]).length ((As.length + 1 : Nat) : Int) := by rw [la]; exact ⟨by omega, by omega, by omega⟩
  refine ⟨_, rfl, _, rfl, p, tl, al, rl, T', As ++ [.plain "zz"], _, ((As.length + 1 : Nat) : Int), rfl, W5.same s6, pkn, by omega, fun H7 s7 => ⟨rfl, ?_⟩⟩
  have ez : ptx (txs T') (As ++ [.plain "zz"]) ((As.length + 1 : Nat) : Int) = "zz" := by
    have e : aG (As ++ [.plain "zz"]) ((As.length + 1 : Nat) : Int) = .plain "zz" := by
      unfold aG
      rw [List.getD_eq_getElem?_getD, show (((As.length + 1 : Nat) : Int)).natAbs - 1 = As.length by omega, List.getElem?_append_right (Nat.le_refl _)]
      simp
    unfold ptx
    rw [if_neg (by omega), e]
    rfl
  rw [ez]
  have := k H7
  simpa using this
abbrev NL : List Str := ["_law_script", "_law_names_here", "_law_terms_here", "_law_atoms_here", "_law_rows_here", "_law_problem", "_law_name", "_law_parts", "_law_atom", "_law_row", "_law_texts_here", "_law_number", "_law_found", "_law_part"]
theorem sc_law : FnScope NL ["_law_script"] (defScope s_law) := ⟨rfl, rfl, rfl, by decide +kernel, rfl, by decide +kernel, by decide +kernel⟩
set_option maxHeartbeats 4000000 in
theorem law8 (T : Txt K mg aK C CN CT CP CM) (nSt : mg "str" = none) (BU : FB P w K mg base CX0 1 "_law_texts" fU dU ["_law_terms_here"] (sp_texts K)) (BT : FB P w K mg base CX0 61 "shown_term" fT dT' ["problem", "number"] (sp_sterm K C 61)) (BP : FB P w K mg base CX0 63 "shown_part" fP dP ["problem", "part"] (sp_spart K C)) (BV : FB P w K mg base CX0 1 "_law_part_text" fV dV ["_law_texts_here", "_law_atoms_here", "_law_part"] (sp_ptext K))
    (BW : FB P w K mg base CX0 65 "written" fW dW ["problem"] (sp_written K C)) (BX : FB P w K mg base CX0 2 "_law_whole_text" fX dX ["_law_texts_here", "_law_atoms_here", "_law_rows_here"] (sp_wtext K)) (BM : FB P w K mg base CX0 66 "_law_more" fMo dMo ["_law_problem", "_law_found", "_law_first"] (sp_more K C))
    {cdv : Value} {A : Around} {outer : List Env} {s : Shared} {H0 : Hp} {E : XK} (hr : Room 66 (A.deeper (PyProof.Rows.envOfC "law" (defScope s_law) s.heap.objs.size f cdv))) :
    ∃ t, PSs (cxOf CX0 P w K mg base NL "law" (defScope s_law) f cdv A outer s H0 E).nox ((defBody s_law).drop 8) t ∧
      ∀ (D : Ends) (H : Hp) (p ptl pal prl tl al rl : Addr) (xs ys zs : List V) (T : List Tm) (As : List At) (Rs : List (List Int)) (v0 v1 v6 v7 v8 v9 : Option V), PrW K C H p ptl pal prl T As Rs → H tl = some (.lst xs) → HasL K H (T.map dT) xs → H al = some (.lst ys) → HasL K H (As.map dA) ys → H rl = some (.lst zs) → HasL K H (Rs.map dR) zs →
        (∀ r ∈ Rs, r.length ≤ 10 ∧ ∀ k ∈ r, POk As.length k) → At.plain "zz" ∉ As → As.length ≤ 10 → Rs.length ≤ 10 → T.length ≤ 60 → (∀ H', D.rt (.bl true) H') →
        t D [v0, v1, some (.ref tl), some (.ref al), some (.ref rl), some (.ref p), v6, v7, v8, v9, none, none, none, none] H := by
  have hu := hu64 hr
  have hr1 : Room 1 _ := hr.mono (by decide)
  have hr2 : Room 2 _ := hr.mono (by decide)
  have hr61 : Room 61 _ := hr.mono (by decide)
  have hr63 : Room 63 _ := hr.mono (by decide)
  have hr65 : Room 65 _ := hr.mono (by decide)
  refine ⟨_, (pss_cons (ps_set (i := 10) sc_law.nd rfl (Or.inl rfl) (pe_call BU.ok hr1 rfl BU.m BU.kp BU.b .nil pass0 (pa_cons (pv 2) pa_nil)))
    (pss_cons (ps_for PassesOwn.never rfl (pi_range1 rfl T.range (pa_cons (pe_callB call_len_seq rfl T.len PySem.boot_len (pa_cons (pv 2) pa_nil)) pa_nil)) (pg_name (i := 11) sc_law.nd rfl (Or.inl rfl))
      (pss_cons (ps_set (i := 12) sc_law.nd rfl (Or.inl rfl) (pe_call BT.ok hr61 rfl BT.m BT.kp BT.b .nil pass0 (pa_cons (pv 5) (pa_cons (pv 11) pa_nil))))
        (pss_one (ps_if (PW.pt (pw_or (pt_not (pt_val (pe_callB call_isinst rfl T.isi PyProof.Rows.Boot.isinstance (pa_cons (pv 12) (pa_cons (pe_bltn (v := .ty "str") rfl nSt PyProof.Rows.Boot.str rfl) pa_nil))))) (pw_or1 (pt_cmpR op_ne (pv 12) (pe_ix ix_list (pv 10) (pv 11) (fun _ _ => rfl)) (nomark _)))))
          (pss_one (ps_ret pe_bl))
          pss_nil))))
    (pss_cons (ps_for PassesOwn.never rfl (pi_range2 rfl T.range (pa_cons pe_int (pa_cons (pe_op op_add (pe_callB call_len_seq rfl T.len PySem.boot_len (pa_cons (pv 3) pa_nil)) pe_int) pa_nil))) (pg_name (i := 13) sc_law.nd rfl (Or.inl rfl))
      (pss_cons (ps_if (pt_cmpR op_ne (pe_call BP.ok hr63 rfl BP.m BP.kp BP.b .nil pass0 (pa_cons (pv 5) (pa_cons (pv 13) pa_nil))) (pe_call BV.ok hr1 rfl BV.m BV.kp BV.b .nil pass0 (pa_cons (pv 10) (pa_cons (pv 3) (pa_cons (pv 13) pa_nil)))) (nomark _))
          (pss_one (ps_ret pe_bl))
          pss_nil)
        (pss_one (ps_if (pt_cmpR op_ne (pe_call BP.ok hr63 rfl BP.m BP.kp BP.b .nil pass0 (pa_cons (pv 5) (pa_cons (pe_un un_neg (pv 13)) pa_nil))) (pe_call BV.ok hr1 rfl BV.m BV.kp BV.b .nil pass0 (pa_cons (pv 10) (pa_cons (pv 3) (pa_cons (pe_un un_neg (pv 13)) pa_nil)))) (nomark _))
          (pss_one (ps_ret pe_bl))
          pss_nil))))
    (pss_cons (ps_set (i := 12) sc_law.nd rfl (Or.inl rfl) (pe_call BW.ok hr65 rfl BW.m BW.kp BW.b .nil pass0 (pa_cons (pv 5) pa_nil)))
    (pss_cons (ps_if (PW.pt (pw_or (pt_not (pt_val (pe_callB call_isinst rfl T.isi PyProof.Rows.Boot.isinstance (pa_cons (pv 12) (pa_cons (pe_bltn (v := .ty "str") rfl nSt PyProof.Rows.Boot.str rfl) pa_nil))))) (pw_or (pt_cmpR op_ne (pv 12) (pe_call BX.ok hr2 rfl BX.m BX.kp BX.b .nil pass0 (pa_cons (pv 10) (pa_cons (pv 3) (pa_cons (pv 4) pa_nil)))) (nomark _)) (pw_or1 (pt_cmpR op_ne (pe_call BW.ok hr65 rfl BW.m BW.kp BW.b .nil pass0 (pa_cons (pv 5) pa_nil)) (pv 12) (nomark _))))))
      (pss_one (ps_ret pe_bl))
      pss_nil)
    (pss_cons (ps_if (PW.pt (pw_or (pt_cmpR (op_neD hu) (pe_fld (pv 5) rfl) (pv 2) rfl) (pw_or (pt_cmpR (op_neD hu) (pe_fld (pv 5) rfl) (pv 3) rfl) (pw_or1 (pt_cmpR (op_neD hu) (pe_fld (pv 5) rfl) (pv 4) rfl)))))
      (pss_one (ps_ret pe_bl))
      pss_nil)
    (pss_one (ps_ret (pe_call BM.ok hr rfl BM.m BM.kp BM.b .nil pass0 (pa_cons (pv 5) (pa_cons (pv 12) (pa_cons (pe_call BV.ok hr1 rfl BV.m BV.kp BV.b .nil pass0 (pa_cons (pv 10) (pa_cons (pe_op op_cat (pv 3) (pe_lst (pa_cons (pe_tup (pa_cons pe_str (pa_cons pe_str pa_nil))) pa_nil))) (pa_cons pe_int pa_nil)))) pa_nil)))))))))))), ?_⟩
  intro D H p ptl pal prl tl al rl xs ys zs T' As Rs v0 v1 v6 v7 v8 v9 hP hT hL hA hLA hR hLR rok nz a10 r10 t60 k
  have xl : xs.length = T'.length := by rw [← hL.length, List.length_map]
  have yl : ys.length = As.length := by rw [← hLA.length, List.length_map]
  have tlen := txs_len T'
  have ao : ∀ a ∈ As, AOk (txs T').length a := fun a ha => by rw [tlen]; exact hP.ao a ha
  refine ⟨_, rfl, tl, xs, T', rfl, SqL.of hT, hL, hP.wf, hP.sm, hP.nm, by omega, fun H1 ul s1 ful hU => ?_⟩
  refine ⟨_, rfl, tl, _, rfl, .inl (SqL.of (s1 _ _ hT)), _, rfl, by omega, by omega, for_range (lo := 0) (n := (((xs.length : Nat) : Int)).toNat) (fun i σ H' => Same H1 H' ∧ ∃ (v11 v12 : Option V), σ = [v0, v1, some (.ref tl), some (.ref al), some (.ref rl), some (.ref p), v6, v7, v8, v9, some (.ref ul), v11, v12, none])
    ⟨Same.refl _, none, none, rfl⟩ ?_ ?_⟩
  · rintro i σ H2 hi ⟨s2, v11, v12, rfl⟩
    have hi' : i < T'.length := by
      have : i < (((xs.length : Nat) : Int)).toNat := hi
      omega
    have s02 := s1.trans s2
    refine ⟨_, rfl, _, rfl, p, ptl, pal, prl, T', As, Rs, 0 + (i : Int), rfl, hP.same s02, by omega, by omega, by omega, fun H3 s3 => ?_⟩
    have hU3 := s3 _ _ (s2 _ _ hU)
    exact ⟨_, rfl, _, .type "str", "str", true, rfl, TyOf.str _, kit_self K "str", _, rfl, iteF ⟨_, rfl, _, rfl, _, rfl, ul, _, _, _, rfl, rfl, SqL.of hU3, atI_gS (by omega) (by rw [tlen]; omega), rfl, _, rfl, ite2 (fun c => absurd c (by simp)) (fun _ => ⟨s2.trans s3, _, _, rfl⟩)⟩⟩
  rintro σ H2 ⟨s2, v11, v12, rfl⟩
  have s02 := s1.trans s2
  have hU2 := s2 _ _ hU
  refine ⟨_, rfl, al, _, rfl, .inl (SqL.of (s02 _ _ hA)), _, _, rfl, rfl, 1, _, rfl, ⟨by decide, by decide, by omega, by omega⟩, for_range (lo := 1) (n := (((ys.length : Nat) : Int) + 1 - 1).toNat) (fun i σ H' => Same H2 H' ∧ ∃ (v13 : Option V), σ = [v0, v1, some (.ref tl), some (.ref al), some (.ref rl), some (.ref p), v6, v7, v8, v9, some (.ref ul), v11, v12, v13])
    ⟨Same.refl _, none, rfl⟩ ?_ ?_⟩
  · rintro i σ H3 hi ⟨s3, v13, rfl⟩
    have hi' : i < As.length := by
      have : i < (((ys.length : Nat) : Int) + 1 - 1).toNat := hi
      omega
    have s03 := s02.trans s3
    have pk : POk As.length (1 + (i : Int)) := ⟨by omega, by omega, by omega⟩
    have pk2 : POk As.length (-(1 + (i : Int))) := ⟨by omega, by omega, by omega⟩
    refine ⟨_, rfl, _, rfl, p, ptl, pal, prl, T', As, Rs, 1 + (i : Int), rfl, hP.same s03, pk, by omega, fun H4 s4 => ?_⟩
    have s04 := s03.trans s4
    refine ⟨_, rfl, _, rfl, _, rfl, ul, al, txs T', ys, As, 1 + (i : Int), rfl, SqL.of (s4 _ _ (s3 _ _ hU2)), SqL.of (s04 _ _ hA), hLA.keep s04.kt (nols_code nol_dA _), hP.sm, ao, pk, fun H5 s5 => ⟨rfl, _, rfl, ite2 (fun c => absurd c (by simp)) (fun _ => ?_)⟩⟩
    have s05 := s04.trans s5
    refine ⟨_, rfl, _, rfl, _, rfl, p, ptl, pal, prl, T', As, Rs, -(1 + (i : Int)), rfl, hP.same s05, pk2, by omega, fun H6 s6 => ?_⟩
    have s06 := s05.trans s6
    have s26 := ((s3.trans s4).trans s5).trans s6
    refine ⟨_, rfl, _, rfl, _, rfl, _, rfl, ul, al, txs T', ys, As, -(1 + (i : Int)), rfl, SqL.of (s26 _ _ hU2), SqL.of (s06 _ _ hA), hLA.keep s06.kt (nols_code nol_dA _), hP.sm, ao, pk2, fun H7 s7 => ⟨rfl, _, rfl, ite2 (fun c => absurd c (by simp)) (fun _ => ⟨s26.trans s7, _, rfl⟩)⟩⟩
  rintro σ H3 ⟨s3, v13, rfl⟩
  have s03 := s02.trans s3
  have hU3 := s3 _ _ hU2
  refine ⟨_, rfl, p, ptl, pal, prl, T', As, Rs, rfl, hP.same s03, rok, by omega, by omega, fun H4 s4 => ?_⟩
  have s04 := s03.trans s4
  have hU4 := s4 _ _ hU3
  refine ⟨_, rfl, _, .type "str", "str", true, rfl, TyOf.str _, kit_self K "str", _, rfl, iteF ⟨_, rfl, _, rfl, _, rfl, _, rfl, ul, al, rl, txs T', ys, zs, As, Rs, rfl, SqL.of hU4, SqL.of (s04 _ _ hA), hLA.keep s04.kt (nols_code nol_dA _), SqL.of (s04 _ _ hR), hLR.keep s04.kt (nols_code nol_dR _), hP.sm, ao, rok, by omega, fun H5 s5 => ⟨rfl, _, rfl, ite2 (fun c => absurd c (by simp)) (fun _ => ?_)⟩⟩⟩
  have s05 := s04.trans s5
  have hU5 := s5 _ _ hU4
  refine ⟨_, rfl, p, ptl, pal, prl, T', As, Rs, rfl, hP.same s05, rok, by omega, by omega, fun H6 s6 => ⟨_, rfl, rfl, _, rfl, ite2 (fun c => absurd c (by simp)) (fun _ => ?_)⟩⟩
  have s06 := s05.trans s6
  have hU6 := s6 _ _ hU5
  have hP6 := hP.same s06
  obtain ⟨dx6, _, ho6, _⟩ := hP6.pr.lenT
  obtain ⟨⟨xt, ht6, hxt⟩, ⟨xa, ha6, hxa⟩, ⟨xr, hr6, hxr⟩⟩ := (⟨hP6.pr.tm, hP6.pr.am, hP6.pr.rm⟩ : (∃ xs, H6 ptl = some (.lst xs) ∧ HasL K H6 (T'.map dT) xs) ∧ (∃ xs, H6 pal = some (.lst xs) ∧ HasL K H6 (As.map dA) xs) ∧ (∃ xs, H6 prl = some (.lst xs) ∧ HasL K H6 (Rs.map dR) xs))
  have d1 := deps_T T'
  have d2 := deps_A As
  have d3 : deps (Rs.map dR) ≤ 1 := deps_code (code := dR) (n := 1) (fun t => Nat.le_of_eq (dep_dR t)) Rs
  have hL6 := hL.keep s06.kt (nols_dTs _)
  have hLA6 := hLA.keep s06.kt (nols_code nol_dA _)
  have hLR6 := hLR.keep s06.kt (nols_code nol_dR _)
  refine ⟨_, rfl, p, C, dx6, _, _, rfl, ho6, T.cl, T.nT, flds_terms _ _ _, _, rfl, _, _, Has.lst' (SqL.of ht6) hxt, Has.lst' (SqL.of (s06 _ _ hT)) hL6, (by simp only [dep]; omega), _, rfl, ?_⟩
  rw [peq_refl]
  refine iteF ⟨_, rfl, p, C, dx6, _, _, rfl, ho6, T.cl, T.nA, flds_atoms _ _ _, _, rfl, _, _, Has.lst' (SqL.of ha6) hxa, Has.lst' (SqL.of (s06 _ _ hA)) hLA6, (by simp only [dep]; omega), _, rfl, ?_⟩
  rw [peq_refl]
  refine iteF ⟨_, rfl, p, C, dx6, _, _, rfl, ho6, T.cl, T.nR, flds_rows _ _ _, _, rfl, _, _, Has.lst' (SqL.of hr6) hxr, Has.lst' (SqL.of (s06 _ _ hR)) hLR6, (by simp only [dep]; omega), _, rfl, ?_⟩
  rw [peq_refl]
  refine iteF ?_
  refine ⟨_, rfl, _, rfl, _, rfl, _, rfl, (by show 2 ≤ sizeLine; decide), fun q hq => ⟨(by show 1 ≤ sizeLine; decide), fun b hb => ?_⟩⟩
  have s7 : Same H6 (upd H6 q (.tup [.str "plain", .str "zz"])) := sameNew hq _
  have n7 := upd_same (H := H6) (a := q) (o := .tup [.str "plain", .str "zz"])
  generalize upd H6 q (.tup [.str "plain", .str "zz"]) = H7 at s7 n7 hb ⊢
  have s8 : Same H7 (upd H7 b (.lst [.ref q])) := sameNew hb _
  have n8 := upd_same (H := H7) (a := b) (o := .lst [.ref q])
  generalize upd H7 b (.lst [.ref q]) = H8 at s8 n8
  have s68 := s7.trans s8
  refine ⟨al, b, _, _, rfl, rfl, s68 _ _ (s06 _ _ hA), n8, szM (by rw [List.length_singleton]; omega), fun l9 hl9 => ?_⟩
  have s9 : Same H8 (upd H8 l9 (.lst (ys ++ [.ref q]))) := sameNew hl9 _
  have n9 := upd_same (H := H8) (a := l9) (o := .lst (ys ++ [.ref q]))
  generalize upd H8 l9 (.lst (ys ++ [.ref q])) = H9 at s9 n9
  have s69 := s68.trans s9
  have ao9 : ∀ a ∈ As ++ [At.plain "zz"], AOk (txs T').length a := fun a ha => by
    rcases List.mem_append.mp ha with ha | ha
    · exact ao a ha
    · rw [List.mem_singleton.mp ha]
      exact zz2
  have hL9 : HasL K H9 ((As ++ [At.plain "zz"]).map dA) (ys ++ [.ref q]) := by
    rw [List.map_append]
    exact HasL.append (hLA6.keep s69.kt (nols_code nol_dA _)) (HasL.one (Has.tup' (SqT.of ((s8.trans s9) _ _ n7)) (.cons Has.str' (.cons Has.str' .nil))))
  refine ⟨ul, l9, txs T', ys ++ [.ref q], As ++ [.plain "zz"], 1, rfl, SqL.of (s69 _ _ hU6), SqL.of n9, hL9, hP.sm, ao9, ⟨by decide, by rw [List.length_append]; simp; omega, by rw [List.length_append]; simp; omega⟩, fun H10 s10 => ?_⟩
  exact ⟨p, ptl, pal, prl, T', As, Rs, rfl, hP6.same (s69.trans s10), rok, nz, a10, r10, t60, k⟩
end
end K04

/-! law k04: the law. Behind K04l. -/
namespace K04
open PySem L2
theorem once_app : ∀ (r acc : List Int), (acc ++ r).Nodup → once acc r = acc ++ r
  | [], acc, _ => by simp [once]
  | p :: r, acc, h => by
    have hp : p ∉ acc := fun hm => by
      have := (List.nodup_append.mp h).2.2 p hm p (by simp)
      exact this rfl
    show once (if p ∈ acc then acc else acc ++ [p]) r = acc ++ p :: r
    rw [if_neg hp, once_app r (acc ++ [p]) (by simpa using h)]
    simp
theorem once_nd {r : List Int} (h : r.Nodup) : once [] r = r := once_app r [] h
theorem not_take {α : Type} {T : List α} {i : Nat} {t : α} (nd : T.Nodup) (h : T[i]? = some t) : t ∉ T.take i := fun hm => by
  have e := take_snoc h
  have q : (T.take (i + 1)).Nodup := nd.sublist (List.take_sublist _ _)
  rw [e] at q
  exact (List.nodup_append.mp q).2.2 _ hm _ List.mem_cons_self rfl
theorem addT_take {T : List Tm} {i : Nat} {t : Tm} (ok : TmsOk T) (h60 : T.length ≤ 60) (h : T[i]? = some t) : addT (T.take i) (nameB t.1) (t.1, t.2) = (.num i, T.take (i + 1)) := by
  have hi := (List.getElem?_eq_some_iff.mp h).1
  have lt : (T.take i).length = i := by rw [List.length_take]; omega
  have wf := ok.wf i t h
  have hb : bad (T.take i) t.2 = false := not_bad wf.1 fun j k hk => by
    have := wf.2 k (List.mem_of_getElem? hk)
    rw [lt]
    omega
  have nm := (ok.gd t (List.mem_of_getElem? h)).1.nm
  unfold addT
  rw [if_neg (by rw [nm]; decide), if_neg (by show ¬ bad (T.take i) t.2 = true; rw [hb]; decide), if_neg (not_take ok.nd h), if_neg (by omega), lt, take_snoc h]
theorem addP_take {zs : List Str} {L n : Nat} {As : List At} {i : Nat} {z : Str} (W : AsW zs n As) (Nz : Nms zs L) (l : As.length ≤ 10) (h : As[i]? = some (.plain z)) : addP (As.take i) z = (.num (i + 1), As.take (i + 1)) := by
  have hi := (List.getElem?_eq_some_iff.mp h).1
  have lt : (As.take i).length = i := by rw [List.length_take]; omega
  have nm := (Nz.gd z ((W.ao _ (List.mem_of_getElem? h)).2 z rfl)).nm
  unfold addP
  rw [if_neg (by rw [nm]; decide), if_neg (W.pl i z h), if_neg (by omega), lt, take_snoc h]
theorem addS_take {zs : List Str} {n : Nat} {As : List At} {i : Nat} {x y : Int} (W : AsW zs n As) (l : As.length ≤ 10) (h : As[i]? = some (.same x y)) : addS n (As.take i) x y = (.num (i + 1), As.take (i + 1)) := by
  have hi := (List.getElem?_eq_some_iff.mp h).1
  have lt : (As.take i).length = i := by rw [List.length_take]; omega
  have ao := (W.ao _ (List.mem_of_getElem? h)).1
  obtain ⟨n1, n2⟩ := W.sa i x y h
  have a1 := ao.1
  have a2 := ao.2
  unfold addS
  rw [if_neg (by omega), if_neg n2, if_neg n1, if_neg (by omega), lt, take_snoc h]
theorem addR_take {m : Nat} {Rs : List (List Int)} {i : Nat} {r : List Int} (W : RsW m Rs) (l : Rs.length ≤ 10) (h : Rs[i]? = some r) : addR m (Rs.take i) r = (.num i, Rs.take (i + 1)) := by
  have hi := (List.getElem?_eq_some_iff.mp h).1
  have lt : (Rs.take i).length = i := by rw [List.length_take]; omega
  obtain ⟨w1, w2, w3⟩ := W r (List.mem_of_getElem? h)
  rw [addR_num (fun p hp => w3 p hp) (by omega) (by omega), once_nd w2, lt, take_snoc h]
theorem zz_not {zs : List Str} {L n : Nat} {As : List At} (W : AsW zs n As) (Nz : Nms zs L) : At.plain "zz" ∉ As := fun hm => by
  obtain ⟨c, hc, hm'⟩ := (Nz.gd _ ((W.ao _ hm).2 _ rfl)).mr
  have : ∀ c ∈ (("zz" : Str)).cps.toList, c ∉ marks := by decide +kernel
  exact this c hc hm'
section
variable {P : Program} {w : World} {K : PySem.W.Frag} {mg : Str → Option Value} {base : Heap} {aK C CN CT CP CM : Addr} {f fW fP fT fU fV fX fMo fC fN fTs fAs fRs : Addr} {fd dW dP dT' dU dV dX dMo dC dN dTs dAs dRs : FuncData}
variable {fI fA fQ fS fR : Addr} {dI dA' dQ dS dR' : FuncData}
set_option maxHeartbeats 4000000 in
theorem ok_law (F : Fun K "law" "law" s_law f fd) (T : Txt K mg aK C CN CT CP CM) (nSt : mg "str" = none) (G : Own P w K mg base C CN CT CP CM fI fA fQ fS fR dI dA' dQ dS dR') (BC : FB P w K mg base CX0 1 "_law_cell_at" fC dC ["_law_script", "_law_k"] (spCell K)) (BN : FB P w K mg base CX0 2 "_law_names" fN dN ["_law_cell"] sp_names)
    (BTs : FB P w K mg base CX0 2 "_law_terms" fTs dTs ["_law_script", "_law_names_here"] (sp_terms K)) (BAs : FB P w K mg base CX0 2 "_law_atoms" fAs dAs ["_law_script", "_law_terms_here", "_law_names_here"] (sp_atoms K)) (BRs : FB P w K mg base CX0 2 "_law_rows" fRs dRs ["_law_script", "_law_atoms_here"] (sp_rows K))
    (BU : FB P w K mg base CX0 1 "_law_texts" fU dU ["_law_terms_here"] (sp_texts K)) (BT : FB P w K mg base CX0 61 "shown_term" fT dT' ["problem", "number"] (sp_sterm K C 61)) (BP : FB P w K mg base CX0 63 "shown_part" fP dP ["problem", "part"] (sp_spart K C)) (BV : FB P w K mg base CX0 1 "_law_part_text" fV dV ["_law_texts_here", "_law_atoms_here", "_law_part"] (sp_ptext K))
    (BW : FB P w K mg base CX0 65 "written" fW dW ["problem"] (sp_written K C)) (BX : FB P w K mg base CX0 2 "_law_whole_text" fX dX ["_law_texts_here", "_law_atoms_here", "_law_rows_here"] (sp_wtext K)) (BM : FB P w K mg base CX0 66 "_law_more" fMo dMo ["_law_problem", "_law_found", "_law_first"] (sp_more K C)) :
    FnOk P w K mg base CX0 67 f fd ["_law_script"] (spLaw K) := by
  refine F.ok sc_law (fun vs H Q E h => ?_) (fun cdv A outer s H vs Q E hr h => ?_)
  · obtain ⟨a, ns, rfl, _⟩ := h
    rfl
  obtain ⟨a, ns, rfl, hS, h63, k⟩ := h
  have hr1 : Room 1 _ := hr.mono (by decide)
  have hr2 : Room 2 _ := hr.mono (by decide)
  have hr4 : Room 4 _ := hr.mono (by decide)
  obtain ⟨t8, h8, q8⟩ := law8 (f := f) (outer := outer) (H0 := H) (E := E) T nSt BU BT BP BV BW BX BM hr
  refine ⟨_, (pss_cons (ps_set (i := 1) sc_law.nd rfl (Or.inl rfl) (pe_call BN.ok hr2 rfl BN.m BN.kp BN.b .nil pass0 (pa_cons (pe_call BC.ok hr1 rfl BC.m BC.kp BC.b .nil pass0 (pa_cons (pv 0) (pa_cons pe_int pa_nil))) pa_nil)))
    (pss_cons (ps_set (i := 2) sc_law.nd rfl (Or.inl rfl) (pe_call BTs.ok hr2 rfl BTs.m BTs.kp BTs.b .nil pass0 (pa_cons (pv 0) (pa_cons (pv 1) pa_nil))))
    (pss_cons (ps_set (i := 3) sc_law.nd rfl (Or.inl rfl) (pe_call BAs.ok hr2 rfl BAs.m BAs.kp BAs.b .nil pass0 (pa_cons (pv 0) (pa_cons (pv 2) (pa_cons (pv 1) pa_nil)))))
    (pss_cons (ps_set (i := 4) sc_law.nd rfl (Or.inl rfl) (pe_call BRs.ok hr2 rfl BRs.m BRs.kp BRs.b .nil pass0 (pa_cons (pv 0) (pa_cons (pv 3) pa_nil))))
    (pss_cons (ps_set (i := 5) sc_law.nd rfl (Or.inl rfl) (pe_make0 G.mI G.I hr2 rfl G.gI G.bI .nil pass0))
    (pss_cons (ps_for PassesOwn.never rfl (pi_list (pv 2)) (pg_tup rfl (pgs_cons (pg_name (i := 6) sc_law.nd rfl (Or.inl rfl)) (pgs_cons (pg_name (i := 7) sc_law.nd rfl (Or.inl rfl)) pgs_nil)))
      (pss_one (ps_expr (pe_meth (pv 5) T.cl G.mA G.A hr4 G.bA .nil passF (pa_cons (pv 6) (pa_cons (pv 7) pa_nil))))))
    (pss_cons (ps_for PassesOwn.never rfl (pi_list (pv 3)) (pg_name (i := 8) sc_law.nd rfl (Or.inl rfl))
      (pss_one (ps_if (pt_cmpR op_eq (pe_ix ix_tup (pv 8) pe_int (fun _ _ => rfl)) pe_str (nomark _))
          (pss_one (ps_expr (pe_meth (pv 5) T.cl G.mQ G.Q hr4 G.bQ .nil passF (pa_cons (pe_ix ix_tup (pv 8) pe_int (fun _ _ => rfl)) pa_nil))))
          (pss_one (ps_expr (pe_meth (pv 5) T.cl G.mS G.S hr4 G.bS .nil passF (pa_cons (pe_ix ix_tup (pv 8) pe_int (fun _ _ => rfl)) (pa_cons (pe_ix ix_tup (pv 8) pe_int (fun _ _ => rfl)) pa_nil))))))))
    (pss_cons (ps_for PassesOwn.never rfl (pi_list (pv 4)) (pg_name (i := 9) sc_law.nd rfl (Or.inl rfl))
      (pss_one (ps_expr (pe_meth (pv 5) T.cl G.mR G.R hr4 G.bR .nil passF (pa_cons (pv 9) pa_nil))))) h8)))))))), ?_⟩
  refine ⟨_, rfl, a, ns, 0, rfl, hS, h63, by decide, fun i0 => ⟨i0, rfl, fun H1 nl zsn L Nz s1 fnl hnl => ?_⟩⟩
  refine ⟨_, rfl, _, rfl, a, nl, ns, zsn, L, rfl, s1.seq hS, h63, hnl, Nz, fun H2 tl xs T' s2 ftl htl hL2 ok t1 t60 => ?_⟩
  have s12 := s1.trans s2
  have xl : xs.length = T'.length := by rw [← hL2.length, List.length_map]
  refine ⟨_, rfl, _, rfl, _, rfl, a, tl, nl, ns, xs, zsn, L, rfl, s12.seq hS, h63, htl, by omega, s2 _ _ hnl, Nz, fun H3 al ys As s3 fal hal hLA3 WA a6 => ?_⟩
  rw [xl] at WA
  have s13 := s12.trans s3
  have yl : ys.length = As.length := by rw [← hLA3.length, List.length_map]
  refine ⟨_, rfl, _, rfl, a, al, ns, ys, As, rfl, s13.seq hS, h63, hal, hLA3, by omega, fun H4 rl zs Rs s4 frl hrl hLR4 WR r5 => ?_⟩
  have zl : zs.length = Rs.length := by rw [← hLR4.length, List.length_map]
  have hT4 := s4 _ _ (s3 _ _ htl)
  have hL4 := hL2.keep (s3.trans s4).kt (nols_dTs _)
  have hA4 := s4 _ _ hal
  have hLA4 := hLA3.keep s4.kt (nols_code nol_dA _)
  -- the problem
  intro p dx np ndx nex
  refine ⟨p, dx, rfl, upd_same, fun ptl pal prl H5 ht ha hrr na nr nx k1 k2 k3 k4 k5 => ⟨rfl, ?_⟩⟩
  obtain ⟨pr5, s5, ft, fa, fr⟩ := made (K := K) np ndx nex ht ha hrr na nr nx k1 k2 k3 k4 k5
  refine ⟨_, rfl, tl, rfl, ⟨_, SqL.of (s5 _ _ hT4)⟩, for_by wk_list (fun i σ H' => Same H4 H' ∧ PrAt K C H' p ptl pal prl (T'.take i) [] [] ∧ ∃ (v6 v7 : Option V), σ = [some (.ref a), some (.ref nl), some (.ref tl), some (.ref al), some (.ref rl), some (.ref p), v6, v7, none, none, none, none, none, none])
    (fun i σ H' ⟨s', _⟩ => SqL.of (s' _ _ hT4)) ⟨s5, pr5, none, none, rfl⟩ ?_ ?_⟩
  · rintro i σ H9 x H6 hi ⟨s6, pr6, v6, v7, rfl⟩ ⟨rfl, hx⟩
    obtain ⟨t, q, r, ht', rfl, hq, hr'⟩ := hasT_at (hL4.keep s6.kt (nols_dTs _)) (hx _ (SqL.of (s6 _ _ hT4)))
    obtain ⟨dx6, _, ho6, _⟩ := pr6.lenT
    have tm := List.mem_of_getElem? ht'
    have hi' := (List.getElem?_eq_some_iff.mp ht').1
    have wf := ok.wf i t ht'
    refine ⟨q, _, rfl, hq, rfl, _, _, rfl, _, _, rfl, rfl, ?_⟩
    refine ⟨_, rfl, p, dx6, _, rfl, ho6, no_add_term _ _ _, _, rfl, _, rfl, p, ptl, pal, prl, r, T'.take i, [], [], t.1, t.2, rfl, ⟨pr6, .inr hr', (ok.gd t tm).1.lo, by have := wf.1; omega, fun j hj => by have := wf.2 j hj; omega, by rw [List.length_take]; omega⟩, ?_⟩
    rw [addT_take ok t60 ht']
    exact fun H7 pr7 fr7 => ⟨fun b o z => fr7 b o (s6 _ _ z) (ne_of_none z ft), pr7, _, _, rfl⟩
  rintro σ H6 ⟨s6, pr6, v6, v7, rfl⟩
  rw [xl, List.take_of_length_le (Nat.le_refl _)] at pr6
  refine ⟨_, rfl, al, rfl, ⟨_, SqL.of (s6 _ _ hA4)⟩, for_by wk_list (fun i σ H' => Same H4 H' ∧ PrAt K C H' p ptl pal prl T' (As.take i) [] ∧ ∃ (v8 : Option V), σ = [some (.ref a), some (.ref nl), some (.ref tl), some (.ref al), some (.ref rl), some (.ref p), v6, v7, v8, none, none, none, none, none])
    (fun i σ H' ⟨s', _⟩ => SqL.of (s' _ _ hA4)) ⟨s6, pr6, none, rfl⟩ ?_ ?_⟩
  · rintro i σ H9 x H7 hi ⟨s7, pr7, v8, rfl⟩ ⟨rfl, hx⟩
    obtain ⟨at', hat, hax⟩ := hasA_at (hLA4.keep s7.kt (nols_code nol_dA _)) (hx _ (SqL.of (s7 _ _ hA4)))
    obtain ⟨dx7, _, ho7, _⟩ := pr7.lenT
    have am := List.mem_of_getElem? hat
    have hi' := (List.getElem?_eq_some_iff.mp hat).1
    cases at' with
    | plain z =>
      obtain ⟨q, rfl, hq⟩ := has_plain hax
      refine ⟨_, rfl, q, _, _, _, rfl, rfl, hq, rfl, rfl, _, rfl, ite2 (fun _ => ?_) (fun c => absurd (show _ = true by decide +kernel) c)⟩
      refine ⟨_, rfl, p, dx7, _, rfl, ho7, no_add_plain _ _ _, _, rfl, q, _, _, _, rfl, rfl, hq, rfl, p, ptl, pal, prl, T', As.take i, [], z, rfl, pr7, (Nz.gd z ((WA.ao _ am).2 z rfl)).lo, by rw [List.length_take]; omega, ?_⟩
      rw [addP_take WA Nz (by omega) hat]
      exact fun H8 pr8 fr8 => ⟨fun b o z => fr8 b o (s7 _ _ z) (ne_of_none z fa) (ne_of_none z fr), pr8, _, rfl⟩
    | same x y =>
      obtain ⟨q, rfl, hq⟩ := has_same hax
      have ao := (WA.ao _ am).1
      have a1 := ao.1
      have a2 := ao.2
      refine ⟨_, rfl, q, _, _, _, rfl, rfl, hq, rfl, rfl, _, rfl, ite2 (fun c => absurd c (by decide +kernel)) (fun _ => ?_)⟩
      refine ⟨_, rfl, p, dx7, _, rfl, ho7, no_add_same _ _ _, _, rfl, q, _, _, _, rfl, rfl, hq, rfl, _, rfl, q, _, _, _, rfl, rfl, hq, rfl, p, ptl, pal, prl, T', As.take i, [], x, y, rfl, pr7, ⟨by omega, by omega⟩, ⟨by omega, by omega⟩, by rw [List.length_take]; omega, ?_⟩
      rw [addS_take WA (by omega) hat]
      exact fun H8 pr8 fr8 => ⟨fun b o z => fr8 b o (s7 _ _ z) (ne_of_none z fa) (ne_of_none z fr), pr8, _, rfl⟩
  rintro σ H7 ⟨s7, pr7, v8, rfl⟩
  rw [yl, List.take_of_length_le (Nat.le_refl _)] at pr7
  refine ⟨_, rfl, rl, rfl, ⟨_, SqL.of (s7 _ _ hrl)⟩, for_by wk_list (fun i σ H' => Same H4 H' ∧ PrAt K C H' p ptl pal prl T' As (Rs.take i) ∧ ∃ (v9 : Option V), σ = [some (.ref a), some (.ref nl), some (.ref tl), some (.ref al), some (.ref rl), some (.ref p), v6, v7, v8, v9, none, none, none, none])
    (fun i σ H' ⟨s', _⟩ => SqL.of (s' _ _ hrl)) ⟨s7, pr7, none, rfl⟩ ?_ ?_⟩
  · rintro i σ H9 x H8 hi ⟨s8, pr8, v9, rfl⟩ ⟨rfl, hx⟩
    obtain ⟨r, q, hrr', rfl, hq⟩ := hasR_at (hLR4.keep s8.kt (nols_code nol_dR _)) (hx _ (SqL.of (s8 _ _ hrl)))
    obtain ⟨dx8, _, ho8, _⟩ := pr8.lenT
    obtain ⟨w1, w2, w3⟩ := WR r (List.mem_of_getElem? hrr')
    refine ⟨_, rfl, p, dx8, _, rfl, ho8, no_add_row _ _ _, _, rfl, p, ptl, pal, prl, q, T', As, Rs.take i, r, rfl, pr8, .inr hq, by omega, (fun j hj => by have := w3 j hj; unfold POk at this; omega), by rw [List.length_take]; omega, ?_⟩
    rw [addR_take WR (by omega) hrr']
    exact fun H10 pr10 fr10 => ⟨fun b o z => fr10 b o (s8 _ _ z) (ne_of_none z fa) (ne_of_none z fr), pr10, _, rfl⟩
  rintro σ H8 ⟨s8, pr8, v9, rfl⟩
  rw [zl, List.take_of_length_le (Nat.le_refl _)] at pr8
  exact q8 _ H8 p ptl pal prl tl al rl xs ys zs T' As Rs _ _ _ _ _ _ ⟨pr8, ok.wf, ok.sm, fun a ha => (WA.ao a ha).1, fun t ht => (ok.gd t ht).2⟩ (s8 _ _ hT4) (hL4.keep s8.kt (nols_dTs _)) (s8 _ _ hA4) (hLA4.keep s8.kt (nols_code nol_dA _)) (s8 _ _ hrl) (hLR4.keep s8.kt (nols_code nol_dR _)) (fun r hr' => ⟨by have := (WR r hr').1; omega, (WR r hr').2.2⟩) (zz_not WA Nz) (by omega) (by omega) t60 k
end
end K04

/-! law k04, last part: what the top has written, and the law. Behind K04m. -/
namespace K04
open PySem L2
theorem all_mk {l : PySem.W.OpenLaw} {w : World} {K : PySem.W.Frag} {h : Heap} {mg : Str → Option Value} {fa aK C CN CT CP CM f1 f2 f3 f4 f5 f6 f7 f8 f9 f10 f11 f12 f13 f14 f15 f16 f17 f18 f19 f20 f21 f22 f23 f24 f25 f26 f27 f28 : Addr} (X : K.In h) (G : h.Ns mainGlobals mg) (hfa : mg "law" = some (.ref fa))
    {od1 an1 od2 an2 od3 an3 od4 an4 od5 an5 od6 an6 od7 an7 od8 an8 od9 an9 od10 an10 od11 an11 od12 an12 od13 an13 od14 an14 od15 an15 od16 an16 od17 an17 od18 an18 od19 an19 od20 an20 od21 an21 od22 an22 od23 an23 od24 an24 od25 an25 od26 an26 od27 an27 od28 an28 : Option Addr} {sl1 sl2 sl3 sl4 sl5 sl6 sl7 sl8 sl9 sl10 sl11 sl12 sl13 sl14 sl15 sl16 sl17 sl18 sl19 sl20 sl21 sl22 sl23 sl24 sl25 sl26 sl27 sl28 : Array (Option Value)} {oc1 kV1 dc1 pm1 cd1 ct1 oc2 kV2 dc2 pm2 cd2 ct2 oc3 kV3 dc3 pm3 cd3 ct3 oc4 kV4 dc4 pm4 cd4 ct4 oc5 kV5 dc5 pm5 cd5 ct5 oc6 kV6 dc6 pm6 cd6 ct6 oc7 kV7 dc7 pm7 cd7 ct7 oc8 kV8 dc8 pm8 cd8 ct8 oc9 kV9 dc9 pm9 cd9 ct9 oc10 kV10 dc10 pm10 cd10 ct10 oc11 kV11 dc11 pm11 cd11 ct11 oc12 kV12 dc12 pm12 cd12 ct12 oc13 kV13 dc13 pm13 cd13 ct13 oc14 kV14 dc14 pm14 cd14 ct14 oc15 kV15 dc15 pm15 cd15 ct15 oc16 kV16 dc16 pm16 cd16 ct16 oc17 kV17 dc17 pm17 cd17 ct17 oc18 kV18 dc18 pm18 cd18 ct18 oc19 kV19 dc19 pm19 cd19 ct19 oc20 kV20 dc20 pm20 cd20 ct20 oc21 kV21 dc21 pm21 cd21 ct21 oc22 kV22 dc22 pm22 cd22 ct22 oc23 kV23 dc23 pm23 cd23 ct23 oc24 kV24 dc24 pm24 cd24 ct24 oc25 kV25 dc25 pm25 cd25 ct25 oc26 kV26 dc26 pm26 cd26 ct26 oc27 kV27 dc27 pm27 cd27 ct27 oc28 kV28 dc28 pm28 cd28 ct28 : Value} {odK : Option Addr} {slK : Array (Option Value)} {t1 t2 t3 t4 t5 t6 t7 u1 u2 u3 u4 u5 u6 u7 u8 : Tok} {nK : Nat}
    (aC : PySem.W.nsIn K mainGlobals "Problem" = some (some (.ref C)))
    (aN : PySem.W.nsIn K mainGlobals "BadName" = some (some (.ref CN)))
    (aT : PySem.W.nsIn K mainGlobals "BadTerm" = some (some (.ref CT)))
    (aP : PySem.W.nsIn K mainGlobals "BadPart" = some (some (.ref CP)))
    (aM : PySem.W.nsIn K mainGlobals "TooMany" = some (some (.ref CM)))
    (a1 : PySem.W.nsIn K mainGlobals "is_word" = some (some (.ref f1)))
    (l1 : K.lookup f1 = some ⟨oc1, od1, .func (PySem.W.fnOf "is_word" "is_word" (defArgs sIsWord) (defBody sIsWord) (defScope sIsWord) .none kV1 dc1 pm1 an1 cd1 ct1), sl1⟩)
    (c1 : PySem.W.codeIn K cd1 "is_word" = true)
    (k1 : PySem.W.keepIn K (.ref f1) = true)
    (a2 : PySem.W.nsIn K mainGlobals "is_name" = some (some (.ref f2)))
    (l2 : K.lookup f2 = some ⟨oc2, od2, .func (PySem.W.fnOf "is_name" "is_name" (defArgs sIsName) (defBody sIsName) (defScope sIsName) .none kV2 dc2 pm2 an2 cd2 ct2), sl2⟩)
    (c2 : PySem.W.codeIn K cd2 "is_name" = true)
    (k2 : PySem.W.keepIn K (.ref f2) = true)
    (a3 : PySem.W.nsIn K mainGlobals "ask_name" = some (some (.ref f3)))
    (l3 : K.lookup f3 = some ⟨oc3, od3, .func (PySem.W.fnOf "ask_name" "ask_name" (defArgs sAskName) (defBody sAskName) (defScope sAskName) .none kV3 dc3 pm3 an3 cd3 ct3), sl3⟩)
    (c3 : PySem.W.codeIn K cd3 "ask_name" = true)
    (k3 : PySem.W.keepIn K (.ref f3) = true)
    (a4 : PySem.W.nsIn K mainGlobals "once_each" = some (some (.ref f4)))
    (l4 : K.lookup f4 = some ⟨oc4, od4, .func (PySem.W.fnOf "once_each" "once_each" (defArgs sOnce) (defBody sOnce) (defScope sOnce) .none kV4 dc4 pm4 an4 cd4 ct4), sl4⟩)
    (c4 : PySem.W.codeIn K cd4 "once_each" = true)
    (k4 : PySem.W.keepIn K (.ref f4) = true)
    (a5 : PySem.W.nsIn K mainGlobals "place_of" = some (some (.ref f5)))
    (l5 : K.lookup f5 = some ⟨oc5, od5, .func (PySem.W.fnOf "place_of" "place_of" (defArgs sPlace) (defBody sPlace) (defScope sPlace) .none kV5 dc5 pm5 an5 cd5 ct5), sl5⟩)
    (c5 : PySem.W.codeIn K cd5 "place_of" = true)
    (k5 : PySem.W.keepIn K (.ref f5) = true)
    (a6 : PySem.W.nsIn K mainGlobals "shown_term" = some (some (.ref f6)))
    (l6 : K.lookup f6 = some ⟨oc6, od6, .func (PySem.W.fnOf "shown_term" "shown_term" (defArgs s_shown_term) (defBody s_shown_term) (defScope s_shown_term) .none kV6 dc6 pm6 an6 cd6 ct6), sl6⟩)
    (c6 : PySem.W.codeIn K cd6 "shown_term" = true)
    (k6 : PySem.W.keepIn K (.ref f6) = true)
    (a7 : PySem.W.nsIn K mainGlobals "shown_atom" = some (some (.ref f7)))
    (l7 : K.lookup f7 = some ⟨oc7, od7, .func (PySem.W.fnOf "shown_atom" "shown_atom" (defArgs s_shown_atom) (defBody s_shown_atom) (defScope s_shown_atom) .none kV7 dc7 pm7 an7 cd7 ct7), sl7⟩)
    (c7 : PySem.W.codeIn K cd7 "shown_atom" = true)
    (k7 : PySem.W.keepIn K (.ref f7) = true)
    (a8 : PySem.W.nsIn K mainGlobals "shown_part" = some (some (.ref f8)))
    (l8 : K.lookup f8 = some ⟨oc8, od8, .func (PySem.W.fnOf "shown_part" "shown_part" (defArgs s_shown_part) (defBody s_shown_part) (defScope s_shown_part) .none kV8 dc8 pm8 an8 cd8 ct8), sl8⟩)
    (c8 : PySem.W.codeIn K cd8 "shown_part" = true)
    (k8 : PySem.W.keepIn K (.ref f8) = true)
    (a9 : PySem.W.nsIn K mainGlobals "shown_row" = some (some (.ref f9)))
    (l9 : K.lookup f9 = some ⟨oc9, od9, .func (PySem.W.fnOf "shown_row" "shown_row" (defArgs s_shown_row) (defBody s_shown_row) (defScope s_shown_row) .none kV9 dc9 pm9 an9 cd9 ct9), sl9⟩)
    (c9 : PySem.W.codeIn K cd9 "shown_row" = true)
    (k9 : PySem.W.keepIn K (.ref f9) = true)
    (a10 : PySem.W.nsIn K mainGlobals "written" = some (some (.ref f10)))
    (l10 : K.lookup f10 = some ⟨oc10, od10, .func (PySem.W.fnOf "written" "written" (defArgs s_written) (defBody s_written) (defScope s_written) .none kV10 dc10 pm10 an10 cd10 ct10), sl10⟩)
    (c10 : PySem.W.codeIn K cd10 "written" = true)
    (k10 : PySem.W.keepIn K (.ref f10) = true)
    (a11 : PySem.W.nsIn K mainGlobals "_law_cell_at" = some (some (.ref f11)))
    (l11 : K.lookup f11 = some ⟨oc11, od11, .func (PySem.W.fnOf "_law_cell_at" "_law_cell_at" (defArgs sCell) (defBody sCell) (defScope sCell) .none kV11 dc11 pm11 an11 cd11 ct11), sl11⟩)
    (c11 : PySem.W.codeIn K cd11 "_law_cell_at" = true)
    (k11 : PySem.W.keepIn K (.ref f11) = true)
    (a12 : PySem.W.nsIn K mainGlobals "_law_word" = some (some (.ref f12)))
    (l12 : K.lookup f12 = some ⟨oc12, od12, .func (PySem.W.fnOf "_law_word" "_law_word" (defArgs s__law_word) (defBody s__law_word) (defScope s__law_word) .none kV12 dc12 pm12 an12 cd12 ct12), sl12⟩)
    (c12 : PySem.W.codeIn K cd12 "_law_word" = true)
    (k12 : PySem.W.keepIn K (.ref f12) = true)
    (a13 : PySem.W.nsIn K mainGlobals "_law_names" = some (some (.ref f13)))
    (l13 : K.lookup f13 = some ⟨oc13, od13, .func (PySem.W.fnOf "_law_names" "_law_names" (defArgs s__law_names) (defBody s__law_names) (defScope s__law_names) .none kV13 dc13 pm13 an13 cd13 ct13), sl13⟩)
    (c13 : PySem.W.codeIn K cd13 "_law_names" = true)
    (k13 : PySem.W.keepIn K (.ref f13) = true)
    (a14 : PySem.W.nsIn K mainGlobals "_law_terms" = some (some (.ref f14)))
    (l14 : K.lookup f14 = some ⟨oc14, od14, .func (PySem.W.fnOf "_law_terms" "_law_terms" (defArgs s__law_terms) (defBody s__law_terms) (defScope s__law_terms) .none kV14 dc14 pm14 an14 cd14 ct14), sl14⟩)
    (c14 : PySem.W.codeIn K cd14 "_law_terms" = true)
    (k14 : PySem.W.keepIn K (.ref f14) = true)
    (a15 : PySem.W.nsIn K mainGlobals "_law_texts" = some (some (.ref f15)))
    (l15 : K.lookup f15 = some ⟨oc15, od15, .func (PySem.W.fnOf "_law_texts" "_law_texts" (defArgs s__law_texts) (defBody s__law_texts) (defScope s__law_texts) .none kV15 dc15 pm15 an15 cd15 ct15), sl15⟩)
    (c15 : PySem.W.codeIn K cd15 "_law_texts" = true)
    (k15 : PySem.W.keepIn K (.ref f15) = true)
    (a16 : PySem.W.nsIn K mainGlobals "_law_atoms" = some (some (.ref f16)))
    (l16 : K.lookup f16 = some ⟨oc16, od16, .func (PySem.W.fnOf "_law_atoms" "_law_atoms" (defArgs s__law_atoms) (defBody s__law_atoms) (defScope s__law_atoms) .none kV16 dc16 pm16 an16 cd16 ct16), sl16⟩)
    (c16 : PySem.W.codeIn K cd16 "_law_atoms" = true)
    (k16 : PySem.W.keepIn K (.ref f16) = true)
    (a17 : PySem.W.nsIn K mainGlobals "_law_rows" = some (some (.ref f17)))
    (l17 : K.lookup f17 = some ⟨oc17, od17, .func (PySem.W.fnOf "_law_rows" "_law_rows" (defArgs s__law_rows) (defBody s__law_rows) (defScope s__law_rows) .none kV17 dc17 pm17 an17 cd17 ct17), sl17⟩)
    (c17 : PySem.W.codeIn K cd17 "_law_rows" = true)
    (k17 : PySem.W.keepIn K (.ref f17) = true)
    (a18 : PySem.W.nsIn K mainGlobals "_law_part_text" = some (some (.ref f18)))
    (l18 : K.lookup f18 = some ⟨oc18, od18, .func (PySem.W.fnOf "_law_part_text" "_law_part_text" (defArgs s__law_part_text) (defBody s__law_part_text) (defScope s__law_part_text) .none kV18 dc18 pm18 an18 cd18 ct18), sl18⟩)
    (c18 : PySem.W.codeIn K cd18 "_law_part_text" = true)
    (k18 : PySem.W.keepIn K (.ref f18) = true)
    (a19 : PySem.W.nsIn K mainGlobals "_law_whole_text" = some (some (.ref f19)))
    (l19 : K.lookup f19 = some ⟨oc19, od19, .func (PySem.W.fnOf "_law_whole_text" "_law_whole_text" (defArgs s__law_whole_text) (defBody s__law_whole_text) (defScope s__law_whole_text) .none kV19 dc19 pm19 an19 cd19 ct19), sl19⟩)
    (c19 : PySem.W.codeIn K cd19 "_law_whole_text" = true)
    (k19 : PySem.W.keepIn K (.ref f19) = true)
    (a20 : PySem.W.nsIn K mainGlobals "_law_more" = some (some (.ref f20)))
    (l20 : K.lookup f20 = some ⟨oc20, od20, .func (PySem.W.fnOf "_law_more" "_law_more" (defArgs s__law_more) (defBody s__law_more) (defScope s__law_more) .none kV20 dc20 pm20 an20 cd20 ct20), sl20⟩)
    (c20 : PySem.W.codeIn K cd20 "_law_more" = true)
    (k20 : PySem.W.keepIn K (.ref f20) = true)
    (a21 : PySem.W.nsIn K mainGlobals "law" = some (some (.ref f21)))
    (l21 : K.lookup f21 = some ⟨oc21, od21, .func (PySem.W.fnOf "law" "law" (defArgs s_law) (defBody s_law) (defScope s_law) .none kV21 dc21 pm21 an21 cd21 ct21), sl21⟩)
    (c21 : PySem.W.codeIn K cd21 "law" = true)
    (k21 : PySem.W.keepIn K (.ref f21) = true)
    (a22 : PySem.W.findIn K (.ref C) "__init__" = some (some (.ref f22)))
    (i22 : PySem.W.isFn K (.ref f22) = true)
    (l22 : K.lookup f22 = some ⟨oc22, od22, .func (PySem.W.fnOf "__init__" "Problem.__init__" (defArgs sInit) (defBody sInit) (defScope sInit) .none kV22 dc22 pm22 an22 cd22 ct22), sl22⟩)
    (c22 : PySem.W.codeIn K cd22 "Problem.__init__" = true)
    (k22 : PySem.W.keepIn K (.ref f22) = true)
    (a23 : PySem.W.findIn K (.ref C) "ask_term" = some (some (.ref f23)))
    (i23 : PySem.W.isFn K (.ref f23) = true)
    (l23 : K.lookup f23 = some ⟨oc23, od23, .func (PySem.W.fnOf "ask_term" "Problem.ask_term" (defArgs sAskTerm) (defBody sAskTerm) (defScope sAskTerm) .none kV23 dc23 pm23 an23 cd23 ct23), sl23⟩)
    (c23 : PySem.W.codeIn K cd23 "Problem.ask_term" = true)
    (k23 : PySem.W.keepIn K (.ref f23) = true)
    (a24 : PySem.W.findIn K (.ref C) "ask_part" = some (some (.ref f24)))
    (i24 : PySem.W.isFn K (.ref f24) = true)
    (l24 : K.lookup f24 = some ⟨oc24, od24, .func (PySem.W.fnOf "ask_part" "Problem.ask_part" (defArgs sAskPart) (defBody sAskPart) (defScope sAskPart) .none kV24 dc24 pm24 an24 cd24 ct24), sl24⟩)
    (c24 : PySem.W.codeIn K cd24 "Problem.ask_part" = true)
    (k24 : PySem.W.keepIn K (.ref f24) = true)
    (a25 : PySem.W.findIn K (.ref C) "add_term" = some (some (.ref f25)))
    (i25 : PySem.W.isFn K (.ref f25) = true)
    (l25 : K.lookup f25 = some ⟨oc25, od25, .func (PySem.W.fnOf "add_term" "Problem.add_term" (defArgs sAdd) (defBody sAdd) (defScope sAdd) .none kV25 dc25 pm25 an25 cd25 ct25), sl25⟩)
    (c25 : PySem.W.codeIn K cd25 "Problem.add_term" = true)
    (k25 : PySem.W.keepIn K (.ref f25) = true)
    (a26 : PySem.W.findIn K (.ref C) "add_plain" = some (some (.ref f26)))
    (i26 : PySem.W.isFn K (.ref f26) = true)
    (l26 : K.lookup f26 = some ⟨oc26, od26, .func (PySem.W.fnOf "add_plain" "Problem.add_plain" (defArgs sPlain) (defBody sPlain) (defScope sPlain) .none kV26 dc26 pm26 an26 cd26 ct26), sl26⟩)
    (c26 : PySem.W.codeIn K cd26 "Problem.add_plain" = true)
    (k26 : PySem.W.keepIn K (.ref f26) = true)
    (a27 : PySem.W.findIn K (.ref C) "add_same" = some (some (.ref f27)))
    (i27 : PySem.W.isFn K (.ref f27) = true)
    (l27 : K.lookup f27 = some ⟨oc27, od27, .func (PySem.W.fnOf "add_same" "Problem.add_same" (defArgs sSame) (defBody sSame) (defScope sSame) .none kV27 dc27 pm27 an27 cd27 ct27), sl27⟩)
    (c27 : PySem.W.codeIn K cd27 "Problem.add_same" = true)
    (k27 : PySem.W.keepIn K (.ref f27) = true)
    (a28 : PySem.W.findIn K (.ref C) "add_row" = some (some (.ref f28)))
    (i28 : PySem.W.isFn K (.ref f28) = true)
    (l28 : K.lookup f28 = some ⟨oc28, od28, .func (PySem.W.fnOf "add_row" "Problem.add_row" (defArgs sRow) (defBody sRow) (defScope sRow) .none kV28 dc28 pm28 an28 cd28 ct28), sl28⟩)
    (c28 : PySem.W.codeIn K cd28 "Problem.add_row" = true)
    (k28 : PySem.W.keepIn K (.ref f28) = true)
    (s1 : PySem.W.nsIn K mainGlobals "SMALL_LETTERS" = some (some (.str abc t1)))
    (s2 : PySem.W.nsIn K mainGlobals "LONGEST_NAME" = some (some (.int 8 t2)))
    (s3 : PySem.W.nsIn K mainGlobals "MOST_TERM_PARTS" = some (some (.int 3 t3)))
    (s4 : PySem.W.nsIn K mainGlobals "MOST_TERMS" = some (some (.int 60 t4)))
    (s5 : PySem.W.nsIn K mainGlobals "MOST_ATOMS" = some (some (.int 40 t5)))
    (s6 : PySem.W.nsIn K mainGlobals "MOST_ROW_PARTS" = some (some (.int 20 t6)))
    (s7 : PySem.W.nsIn K mainGlobals "MOST_ROWS" = some (some (.int 200 t7)))
    (s8 : PySem.W.nsIn K mainGlobals "KEPT_WORDS" = some (some (.ref aK)))
    (s9 : K.lookup aK = some ⟨.type "tuple", odK, .seq #[.str "or" u1, .str "and" u2, .str "not" u3, .str "never" u4, .str "always" u5, .str "then" u6, .str "as" u7, .str "unlike" u8] nK, slK⟩)
    (z_len : PySem.W.nsIn K mainGlobals "len" = some none)
    (z_all : PySem.W.nsIn K mainGlobals "all" = some none)
    (z_range : PySem.W.nsIn K mainGlobals "range" = some none)
    (z_isinstance : PySem.W.nsIn K mainGlobals "isinstance" = some none)
    (z_bool : PySem.W.nsIn K mainGlobals "bool" = some none)
    (z_tuple : PySem.W.nsIn K mainGlobals "tuple" = some none)
    (z_abs : PySem.W.nsIn K mainGlobals "abs" = some none)
    (z_max : PySem.W.nsIn K mainGlobals "max" = some none)
    (z_str : PySem.W.nsIn K mainGlobals "str" = some none)
    (pg : PySem.W.plainGet K C Str.empty = true)
    (hd : PySem.W.hasDictIn K C = true)
    (po : PySem.W.plainOver K C = true)
    (sa : PySem.W.findIn K (.ref C) "__setattr__" = some (some (.builtin "object.__setattr__")))
    (mk : PySem.W.makesIn K C = true)
    (kc : PySem.W.keepIn K (.ref C) = true)
    (nT : PySem.W.findIn K (.ref C) "terms" = some none)
    (nA : PySem.W.findIn K (.ref C) "atoms" = some none)
    (nR : PySem.W.findIn K (.ref C) "rows" = some none)
    (xN : PySem.W.excIn K CN bmV "ValueError.__new__" = true)
    (xT : PySem.W.excIn K CT bmV "ValueError.__new__" = true)
    (xP : PySem.W.excIn K CP bmV "ValueError.__new__" = true)
    (xM : PySem.W.excIn K CM bmV "ValueError.__new__" = true)
    : ∃ fd : FuncData, (∀ (s : Shared) (v : Value), BindsTo s fd ⟨[v], []⟩ [("_law_script", v)]) ∧ ∀ base : Heap, K.In base → base.Ns mainGlobals mg → FnOk l.prog w K mg base CX0 67 fa fd ["_law_script"] (spLaw K) := by
  have e := hfa.symm.trans (PySem.W.mg_of X G a21)
  cases e
  have T : Txt K mg aK C CN CT CP CM := ⟨⟨_, PySem.W.mg_of X G s1⟩, ⟨_, PySem.W.mg_of X G s2⟩, ⟨_, PySem.W.mg_of X G s3⟩, ⟨_, PySem.W.mg_of X G s4⟩, ⟨_, PySem.W.mg_of X G s5⟩, ⟨_, PySem.W.mg_of X G s6⟩, ⟨_, PySem.W.mg_of X G s7⟩, PySem.W.mg_of X G s8, fun H => .inr ⟨_, _, _, s9, rfl, rfl, (by show 8 ≤ sizeLine; decide), .cons ⟨_, rfl⟩ (.cons ⟨_, rfl⟩ (.cons ⟨_, rfl⟩ (.cons ⟨_, rfl⟩ (.cons ⟨_, rfl⟩ (.cons ⟨_, rfl⟩ (.cons ⟨_, rfl⟩ (.cons ⟨_, rfl⟩ .nil)))))))⟩, PySem.W.mg_none_of X G z_len, PySem.W.mg_none_of X G z_all, PySem.W.mg_none_of X G z_range, PySem.W.mg_none_of X G z_isinstance, PySem.W.mg_none_of X G z_bool, PySem.W.mg_none_of X G z_tuple, PySem.W.mg_none_of X G z_abs, PySem.W.mg_of X G aN, PySem.W.mg_of X G aT, PySem.W.mg_of X G aP, PySem.W.mg_of X G aM, xN, xT, xP, xM, ⟨pg, hd, po, sa⟩, nT, nA, nR⟩
  have F1 := fun_mk (st := sIsWord) l1 c1 k1
  have b1 := F1.binds (ps := ["text"]) fun _ _ _ _ _ _ us hl => match us, hl with | [_], _ => rfl
  have m1 := PySem.W.mg_of X G a1
  have F2 := fun_mk (st := sIsName) l2 c2 k2
  have b2 := F2.binds (ps := ["word"]) fun _ _ _ _ _ _ us hl => match us, hl with | [_], _ => rfl
  have m2 := PySem.W.mg_of X G a2
  have F3 := fun_mk (st := sAskName) l3 c3 k3
  have b3 := F3.binds (ps := ["word"]) fun _ _ _ _ _ _ us hl => match us, hl with | [_], _ => rfl
  have m3 := PySem.W.mg_of X G a3
  have F4 := fun_mk (st := sOnce) l4 c4 k4
  have b4 := F4.binds (ps := ["parts"]) fun _ _ _ _ _ _ us hl => match us, hl with | [_], _ => rfl
  have m4 := PySem.W.mg_of X G a4
  have F5 := fun_mk (st := sPlace) l5 c5 k5
  have b5 := F5.binds (ps := ["thing", "things", "most"]) fun _ _ _ _ _ _ us hl => match us, hl with | [_, _, _], _ => rfl
  have m5 := PySem.W.mg_of X G a5
  have F6 := fun_mk (st := s_shown_term) l6 c6 k6
  have b6 := F6.binds (ps := ["problem", "number"]) fun _ _ _ _ _ _ us hl => match us, hl with | [_, _], _ => rfl
  have m6 := PySem.W.mg_of X G a6
  have F7 := fun_mk (st := s_shown_atom) l7 c7 k7
  have b7 := F7.binds (ps := ["problem", "number"]) fun _ _ _ _ _ _ us hl => match us, hl with | [_, _], _ => rfl
  have m7 := PySem.W.mg_of X G a7
  have F8 := fun_mk (st := s_shown_part) l8 c8 k8
  have b8 := F8.binds (ps := ["problem", "part"]) fun _ _ _ _ _ _ us hl => match us, hl with | [_, _], _ => rfl
  have m8 := PySem.W.mg_of X G a8
  have F9 := fun_mk (st := s_shown_row) l9 c9 k9
  have b9 := F9.binds (ps := ["problem", "row"]) fun _ _ _ _ _ _ us hl => match us, hl with | [_, _], _ => rfl
  have m9 := PySem.W.mg_of X G a9
  have F10 := fun_mk (st := s_written) l10 c10 k10
  have b10 := F10.binds (ps := ["problem"]) fun _ _ _ _ _ _ us hl => match us, hl with | [_], _ => rfl
  have m10 := PySem.W.mg_of X G a10
  have F11 := fun_mk (st := sCell) l11 c11 k11
  have b11 := F11.binds (ps := ["_law_script", "_law_k"]) fun _ _ _ _ _ _ us hl => match us, hl with | [_, _], _ => rfl
  have m11 := PySem.W.mg_of X G a11
  have F12 := fun_mk (st := s__law_word) l12 c12 k12
  have b12 := F12.binds (ps := ["_law_cell", "_law_size"]) fun _ _ _ _ _ _ us hl => match us, hl with | [_, _], _ => rfl
  have m12 := PySem.W.mg_of X G a12
  have F13 := fun_mk (st := s__law_names) l13 c13 k13
  have b13 := F13.binds (ps := ["_law_cell"]) fun _ _ _ _ _ _ us hl => match us, hl with | [_], _ => rfl
  have m13 := PySem.W.mg_of X G a13
  have F14 := fun_mk (st := s__law_terms) l14 c14 k14
  have b14 := F14.binds (ps := ["_law_script", "_law_names_here"]) fun _ _ _ _ _ _ us hl => match us, hl with | [_, _], _ => rfl
  have m14 := PySem.W.mg_of X G a14
  have F15 := fun_mk (st := s__law_texts) l15 c15 k15
  have b15 := F15.binds (ps := ["_law_terms_here"]) fun _ _ _ _ _ _ us hl => match us, hl with | [_], _ => rfl
  have m15 := PySem.W.mg_of X G a15
  have F16 := fun_mk (st := s__law_atoms) l16 c16 k16
  have b16 := F16.binds (ps := ["_law_script", "_law_terms_here", "_law_names_here"]) fun _ _ _ _ _ _ us hl => match us, hl with | [_, _, _], _ => rfl
  have m16 := PySem.W.mg_of X G a16
  have F17 := fun_mk (st := s__law_rows) l17 c17 k17
  have b17 := F17.binds (ps := ["_law_script", "_law_atoms_here"]) fun _ _ _ _ _ _ us hl => match us, hl with | [_, _], _ => rfl
  have m17 := PySem.W.mg_of X G a17
  have F18 := fun_mk (st := s__law_part_text) l18 c18 k18
  have b18 := F18.binds (ps := ["_law_texts_here", "_law_atoms_here", "_law_part"]) fun _ _ _ _ _ _ us hl => match us, hl with | [_, _, _], _ => rfl
  have m18 := PySem.W.mg_of X G a18
  have F19 := fun_mk (st := s__law_whole_text) l19 c19 k19
  have b19 := F19.binds (ps := ["_law_texts_here", "_law_atoms_here", "_law_rows_here"]) fun _ _ _ _ _ _ us hl => match us, hl with | [_, _, _], _ => rfl
  have m19 := PySem.W.mg_of X G a19
  have F20 := fun_mk (st := s__law_more) l20 c20 k20
  have b20 := F20.binds (ps := ["_law_problem", "_law_found", "_law_first"]) fun _ _ _ _ _ _ us hl => match us, hl with | [_, _, _], _ => rfl
  have m20 := PySem.W.mg_of X G a20
  have F21 := fun_mk (st := s_law) l21 c21 k21
  have F22 := fun_mk (st := sInit) l22 c22 k22
  have b22 := F22.binds (ps := ["self"]) fun _ _ _ _ _ _ us hl => match us, hl with | [_], _ => rfl
  have F23 := fun_mk (st := sAskTerm) l23 c23 k23
  have b23 := F23.binds (ps := ["self", "number"]) fun _ _ _ _ _ _ us hl => match us, hl with | [_, _], _ => rfl
  have M23 : Meth K C "ask_term" f23 := ⟨a23, i23, k23⟩
  have F24 := fun_mk (st := sAskPart) l24 c24 k24
  have b24 := F24.binds (ps := ["self", "part"]) fun _ _ _ _ _ _ us hl => match us, hl with | [_, _], _ => rfl
  have M24 : Meth K C "ask_part" f24 := ⟨a24, i24, k24⟩
  have F25 := fun_mk (st := sAdd) l25 c25 k25
  have b25 := F25.binds (ps := ["self", "name", "parts"]) fun _ _ _ _ _ _ us hl => match us, hl with | [_, _, _], _ => rfl
  have M25 : Meth K C "add_term" f25 := ⟨a25, i25, k25⟩
  have F26 := fun_mk (st := sPlain) l26 c26 k26
  have b26 := F26.binds (ps := ["self", "name"]) fun _ _ _ _ _ _ us hl => match us, hl with | [_, _], _ => rfl
  have M26 : Meth K C "add_plain" f26 := ⟨a26, i26, k26⟩
  have F27 := fun_mk (st := sSame) l27 c27 k27
  have b27 := F27.binds (ps := ["self", "one", "other"]) fun _ _ _ _ _ _ us hl => match us, hl with | [_, _, _], _ => rfl
  have M27 : Meth K C "add_same" f27 := ⟨a27, i27, k27⟩
  have F28 := fun_mk (st := sRow) l28 c28 k28
  have b28 := F28.binds (ps := ["self", "parts"]) fun _ _ _ _ _ _ us hl => match us, hl with | [_, _], _ => rfl
  have M28 : Meth K C "add_row" f28 := ⟨a28, i28, k28⟩
  refine ⟨PySem.W.fnOf "law" "law" (defArgs s_law) (defBody s_law) (defScope s_law) .none kV21 dc21 pm21 an21 cd21 ct21, fun s v => .of_eq rfl, fun base _ _ => ?_⟩
  have G1 := ok_isword (P := l.prog) (w := w) (base := base) F1 T
  have G2 := ok_isname F2 T G1 b1 k1 m1
  have G3 := ok_askname F3 T G2 b2 k2 m2
  have G4 := ok_once (P := l.prog) (w := w) (base := base) F4 T
  have G5 := ok_place (P := l.prog) (w := w) (base := base) F5 T
  have G22 := ok_init (P := l.prog) (w := w) (base := base) F22 T
  have G23 := ok_askterm (P := l.prog) (w := w) (base := base) F23 T
  have G24 := ok_askpart (P := l.prog) (w := w) (base := base) F24 T
  have G25 := ok_add F25 T G3 b3 k3 m3 G23 b23 M23 G5 b5 k5 m5
  have G26 := ok_plain F26 T G3 b3 k3 m3 G5 b5 k5 m5
  have G27 := ok_same F27 T G23 b23 M23 G5 b5 k5 m5
  have G28 := ok_row F28 T G24 b24 M24 G4 b4 k4 m4
  have GR4 := G28.mono (k := 4) (by decide)
  have GS4 := G27.mono (k := 4) (by decide)
  have MKI : Mk K C f22 := ⟨mk, a22, i22, kc⟩
  have OW : Own l.prog w K mg base C CN CT CP CM f22 f25 f26 f27 f28 _ _ _ _ _ := ⟨G22, b22, MKI, PySem.W.mg_of X G aC, G25, b25, M25, G26, b26, M26, GS4, b27, M27, GR4, b28, M28⟩
  have G6 := ok_sterm (P := l.prog) (w := w) (base := base) F6 T b6 k6 m6 61
  have G7 := ok_satom F7 T ⟨G6, b6, k6, m6⟩
  have G8 := ok_spart F8 ⟨G7, b7, k7, m7⟩
  have G9 := ok_srow F9 T ⟨G8, b8, k8, m8⟩
  have G10 := ok_written F10 T ⟨G9, b9, k9, m9⟩
  have G11 := ok_cell (P := l.prog) (w := w) (base := base) F11 T
  have G12 := ok_word (P := l.prog) (w := w) (base := base) F12 T
  have G13 := ok_names F13 ⟨G12, b12, k12, m12⟩
  have G14 := ok_terms F14 T (PySem.W.mg_none_of X G z_max) ⟨G11, b11, k11, m11⟩
  have G15 := ok_texts (P := l.prog) (w := w) (base := base) F15 T
  have G16 := ok_atoms F16 T ⟨G11, b11, k11, m11⟩
  have G17 := ok_rows F17 T (PySem.W.mg_none_of X G z_max) ⟨G11, b11, k11, m11⟩
  have G18 := ok_ptext (P := l.prog) (w := w) (base := base) F18 T
  have G19 := ok_wtext F19 ⟨G18, b18, k18, m18⟩
  have G20 := ok_more F20 T OW ⟨G10, b10, k10, m10⟩ ⟨G8, b8, k8, m8⟩
  exact ok_law F21 T (PySem.W.mg_none_of X G z_str) OW ⟨G11, b11, k11, m11⟩ ⟨G13, b13, k13, m13⟩ ⟨G14, b14, k14, m14⟩ ⟨G16, b16, k16, m16⟩ ⟨G17, b17, k17, m17⟩ ⟨G15, b15, k15, m15⟩ ⟨G6, b6, k6, m6⟩ ⟨G8, b8, k8, m8⟩ ⟨G18, b18, k18, m18⟩ ⟨G10, b10, k10, m10⟩ ⟨G19, b19, k19, m19⟩ ⟨G20, b20, k20, m20⟩
theorem walk {l : PySem.W.OpenLaw} {q : Program} {loose : List Str} {XP : (Str → Option Value) → Heap → Prop} {YP : World → Heap → Prop} {d : DefRec} {K : Params → PySem.W.Frag} (hn : l.most = some 63) (hdf : d.params.defaults = [])
    (hY : ∀ (w : World) (h : Heap), YP w h → (K w.params).In h)
    (F : ∀ (w : World) (mg : Str → Option Value) (fa : Addr) (h : Heap), (K w.params).In h → h.Ns mainGlobals mg → mg d.name = some (.ref fa) →
      ∃ fd : FuncData, (∀ (s : Shared) (u : Value), BindsTo s fd ⟨[u], []⟩ [("_law_script", u)]) ∧ ∀ base : Heap, (K w.params).In base → base.Ns mainGlobals mg → FnOk l.prog w (K w.params) mg base CX0 67 fa fd ["_law_script"] (spLaw (K w.params))) :
    PySem.W.WalkO q loose XP YP l.row.toRowW d [] (fun f vs => PySem.call f vs) :=
  L2.walk_of (n := 63) (k := 67) (x := "_law_script") (CX := fun _ => CX0) (sp := fun w => spLaw (K w.params)) hn (by decide) hdf ⟨rfl, by decide, by decide⟩ hY F (fun _ _ a ns hl _ hS => ⟨a, ns, rfl, hS, hl, fun _ => rfl⟩) fun _ _ _ _ _ z => z
end K04
open PySem PySem.W PyProof.Rows
set_option maxRecDepth 100000 in
set_option maxHeartbeats 0 in
theorem PySem.Challenge.cw_yesorno_k04_written_holds : PySem.Challenge.rw_yesorno_k04_written.Holds := by
  w_on; o_law; k_head; (case hw => w_witness2)
  k_fill
  refine K04.walk (l := PySem.Challenge.rw_yesorno_k04_written) rfl rfl (fun w h Y => PySem.W.kIn_of Y) ?F
  case F =>
    intro w mg fa h KX G hmg
    refine' K04.all_mk KX G hmg ?aC ?aN ?aT ?aP ?aM ?a1 ?l1 ?c1 ?k1 ?a2 ?l2 ?c2 ?k2 ?a3 ?l3 ?c3 ?k3 ?a4 ?l4 ?c4 ?k4 ?a5 ?l5 ?c5 ?k5 ?a6 ?l6 ?c6 ?k6 ?a7 ?l7 ?c7 ?k7 ?a8 ?l8 ?c8 ?k8 ?a9 ?l9 ?c9 ?k9 ?a10 ?l10 ?c10 ?k10 ?a11 ?l11 ?c11 ?k11 ?a12 ?l12 ?c12 ?k12 ?a13 ?l13 ?c13 ?k13 ?a14 ?l14 ?c14 ?k14 ?a15 ?l15 ?c15 ?k15 ?a16 ?l16 ?c16 ?k16 ?a17 ?l17 ?c17 ?k17 ?a18 ?l18 ?c18 ?k18 ?a19 ?l19 ?c19 ?k19 ?a20 ?l20 ?c20 ?k20 ?a21 ?l21 ?c21 ?k21 ?a22 ?i22 ?l22 ?c22 ?k22 ?a23 ?i23 ?l23 ?c23 ?k23 ?a24 ?i24 ?l24 ?c24 ?k24 ?a25 ?i25 ?l25 ?c25 ?k25 ?a26 ?i26 ?l26 ?c26 ?k26 ?a27 ?i27 ?l27 ?c27 ?k27 ?a28 ?i28 ?l28 ?c28 ?k28 ?s1 ?s2 ?s3 ?s4 ?s5 ?s6 ?s7 ?s8 ?s9 ?z_len ?z_all ?z_range ?z_isinstance ?z_bool ?z_tuple ?z_abs ?z_max ?z_str ?pg ?hd ?po ?sa ?mk ?kc ?nT ?nA ?nR ?xN ?xT ?xP ?xM
    (case aC => k_is)
    (case aN => k_is)
    (case aT => k_is)
    (case aP => k_is)
    (case aM => k_is)
    (case a1 => k_is)
    (case l1 => k_is)
    (case c1 => k_is)
    (case k1 => k_is)
    (case a2 => k_is)
    (case l2 => k_is)
    (case c2 => k_is)
    (case k2 => k_is)
    (case a3 => k_is)
    (case l3 => k_is)
    (case c3 => k_is)
    (case k3 => k_is)
    (case a4 => k_is)
    (case l4 => k_is)
    (case c4 => k_is)
    (case k4 => k_is)
    (case a5 => k_is)
    (case l5 => k_is)
    (case c5 => k_is)
    (case k5 => k_is)
    (case a6 => k_is)
    (case l6 => k_is)
    (case c6 => k_is)
    (case k6 => k_is)
    (case a7 => k_is)
    (case l7 => k_is)
    (case c7 => k_is)
    (case k7 => k_is)
    (case a8 => k_is)
    (case l8 => k_is)
    (case c8 => k_is)
    (case k8 => k_is)
    (case a9 => k_is)
    (case l9 => k_is)
    (case c9 => k_is)
    (case k9 => k_is)
    (case a10 => k_is)
    (case l10 => k_is)
    (case c10 => k_is)
    (case k10 => k_is)
    (case a11 => k_is)
    (case l11 => k_is)
    (case c11 => k_is)
    (case k11 => k_is)
    (case a12 => k_is)
    (case l12 => k_is)
    (case c12 => k_is)
    (case k12 => k_is)
    (case a13 => k_is)
    (case l13 => k_is)
    (case c13 => k_is)
    (case k13 => k_is)
    (case a14 => k_is)
    (case l14 => k_is)
    (case c14 => k_is)
    (case k14 => k_is)
    (case a15 => k_is)
    (case l15 => k_is)
    (case c15 => k_is)
    (case k15 => k_is)
    (case a16 => k_is)
    (case l16 => k_is)
    (case c16 => k_is)
    (case k16 => k_is)
    (case a17 => k_is)
    (case l17 => k_is)
    (case c17 => k_is)
    (case k17 => k_is)
    (case a18 => k_is)
    (case l18 => k_is)
    (case c18 => k_is)
    (case k18 => k_is)
    (case a19 => k_is)
    (case l19 => k_is)
    (case c19 => k_is)
    (case k19 => k_is)
    (case a20 => k_is)
    (case l20 => k_is)
    (case c20 => k_is)
    (case k20 => k_is)
    (case a21 => k_is)
    (case l21 => k_is)
    (case c21 => k_is)
    (case k21 => k_is)
    (case a22 => k_is)
    (case i22 => k_is)
    (case l22 => k_is)
    (case c22 => k_is)
    (case k22 => k_is)
    (case a23 => k_is)
    (case i23 => k_is)
    (case l23 => k_is)
    (case c23 => k_is)
    (case k23 => k_is)
    (case a24 => k_is)
    (case i24 => k_is)
    (case l24 => k_is)
    (case c24 => k_is)
    (case k24 => k_is)
    (case a25 => k_is)
    (case i25 => k_is)
    (case l25 => k_is)
    (case c25 => k_is)
    (case k25 => k_is)
    (case a26 => k_is)
    (case i26 => k_is)
    (case l26 => k_is)
    (case c26 => k_is)
    (case k26 => k_is)
    (case a27 => k_is)
    (case i27 => k_is)
    (case l27 => k_is)
    (case c27 => k_is)
    (case k27 => k_is)
    (case a28 => k_is)
    (case i28 => k_is)
    (case l28 => k_is)
    (case c28 => k_is)
    (case k28 => k_is)
    (case s1 => k_is)
    (case s2 => k_is)
    (case s3 => k_is)
    (case s4 => k_is)
    (case s5 => k_is)
    (case s6 => k_is)
    (case s7 => k_is)
    (case s8 => k_is)
    (case s9 => k_is)
    (case z_len => k_is)
    (case z_all => k_is)
    (case z_range => k_is)
    (case z_isinstance => k_is)
    (case z_bool => k_is)
    (case z_tuple => k_is)
    (case z_abs => k_is)
    (case z_max => k_is)
    (case z_str => k_is)
    (case pg => k_is)
    (case hd => k_is)
    (case po => k_is)
    (case sa => k_is)
    (case mk => k_is)
    (case kc => k_is)
    (case nT => k_is)
    (case nA => k_is)
    (case nR => k_is)
    (case xN => k_exc)
    (case xT => k_exc)
    (case xP => k_exc)
    (case xM => k_exc)

