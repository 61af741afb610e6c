import PyProof.Rows.All
import Wide.All
import OpenK.AllK
import Wide.FinOn
import Lean
import PyProof.EqAt
import PyProof.EqKinds
import PyProof.TupleCall
import PySem.Challenge.RW_yesorno_k85_papers_read
set_option Elab.async false
set_option linter.all false
set_option maxRecDepth 100000
/-! THE HAND LAYER, for ints, bools, texts, own classes, LISTS and tuples (index, slices, in, append, pop ..), calls, loops. Paste it whole ahead of your own text; what your proof does not reach may be deleted. -/
namespace L2
open PySem PySem.Spec PyProof.Rows

/-- a key: an int or a str -/
abbrev Key := Sum Int Str
def keyIs : Key → Value → Bool
  | .inl k, v => Value.isInt k v
  | .inr x, v => Value.isStrOf x v
def keyH (w : World) : Key → Int
  | .inl k => hashInt k
  | .inr x => hashStr w x
theorem keyIs_shape : ∀ {k : Key} {v : Value}, keyIs k v = true → (∃ i t, k = Sum.inl i ∧ v = Value.int i t) ∨ (∃ x t, k = Sum.inr x ∧ v = Value.str x t)
  | .inl i, v, h => by
    obtain ⟨t, e⟩ := Value.isInt_shape (k := i) (v := v) h
    exact .inl ⟨i, t, rfl, e⟩
  | .inr x, v, h => by
    obtain ⟨t, e⟩ := Value.isStrOf_shape (x := x) (v := v) h
    exact .inr ⟨x, t, rfl, e⟩
theorem keyIs_str (x : Str) (t : Tok) : keyIs (.inr x) (.str x t) = true := by simp [keyIs, Value.isStrOf]
theorem key_ll (a b : Int) : decide ((Sum.inl a : Key) = Sum.inl b) = (a == b) := by
  by_cases e : a = b
  · subst e; simp
  · have h : ¬ (Sum.inl a : Key) = Sum.inl b := fun q => e (Sum.inl.inj q)
    rw [decide_eq_false h]
    exact (beq_eq_false_iff_ne.mpr e).symm
theorem key_rr (a b : Str) : decide ((Sum.inr a : Key) = Sum.inr b) = decide (a = b) := by
  by_cases e : a = b
  · subst e; simp
  · have h : ¬ (Sum.inr a : Key) = Sum.inr b := fun q => e (Sum.inr.inj q)
    rw [decide_eq_false h, decide_eq_false e]
theorem key_lr (a : Int) (b : Str) : decide ((Sum.inl a : Key) = Sum.inr b) = false := decide_eq_false (fun q => nomatch q)
theorem key_rl (a : Str) (b : Int) : decide ((Sum.inr a : Key) = Sum.inl b) = false := decide_eq_false (fun q => nomatch q)

def mixKind (prog : Program) (w : World) : PySem.KeyKind prog w Key where
  is := keyIs
  hash := keyH w
  inj := fun v a b ha hb => by
    rcases keyIs_shape ha with ⟨i, t, rfl, rfl⟩ | ⟨x, t, rfl, rfl⟩
    · rcases keyIs_shape hb with ⟨j, u, rfl, e⟩ | ⟨y, u, rfl, e⟩
      · injection e with e1 _; rw [e1]
      · exact nomatch e
    · rcases keyIs_shape hb with ⟨j, u, rfl, e⟩ | ⟨y, u, rfl, e⟩
      · exact nomatch e
      · injection e with e1 _; rw [e1]
  byValue := fun k v h => by
    rcases keyIs_shape h with ⟨i, t, rfl, rfl⟩ | ⟨x, t, rfl, rfl⟩ <;> rfl
  pyHash := fun hv h => by
    rcases keyIs_shape hv with ⟨i, t, rfl, rfl⟩ | ⟨x, t, rfl, rfl⟩
    · exact wpAny_pyHash_int h
    · exact wpAny_pyHash_str h
  eqBool := fun hu hv h => by
    rcases keyIs_shape hu with ⟨i, t, rfl, rfl⟩ | ⟨x, t, rfl, rfl⟩
    · rcases keyIs_shape hv with ⟨j, u, rfl, rfl⟩ | ⟨y, u, rfl, rfl⟩
      · rw [key_ll] at h; exact wpAny_eqBool_int h
      · rw [key_lr] at h; exact SeqAt.EqAt.int_str i t y u _ _ _ _ h
    · rcases keyIs_shape hv with ⟨j, u, rfl, rfl⟩ | ⟨y, u, rfl, rfl⟩
      · rw [key_rl] at h; exact SeqAt.EqAt.str_int x t j u _ _ _ _ h
      · rw [key_rr] at h; exact wpAny_eqBool_str h
  «strs» := fun k x t v h => by
    rcases keyIs_shape h with ⟨i, u, rfl, e⟩ | ⟨y, u, rfl, e⟩
    · exact nomatch e
    · injection e with e1 _
      subst e1
      cases v <;> rfl

theorem mixKind_str (prog : Program) (w : World) (x : Str) (t : Tok) : (mixKind prog w).is (.inr x) (.str x t) = true := keyIs_str x t
end L2

namespace L2
open PySem PySem.Spec PyProof.Rows

/-- a value, without the heap -/
inductive V where
  | non | bl (b : Bool) | int (i : Int) | str (x : Str) | byt (b : Array UInt8) | flt (b : UInt64) | ref (a : Addr) | ty (n : String)
  deriving DecidableEq

def RelV : V → Value → Prop
  | .non, u => u = Value.none
  | .bl b, u => u = Value.bool b
  | .int i, u => ∃ t, u = Value.int i t
  | .str x, u => ∃ t, u = Value.str x t
  | .byt b, u => ∃ t, u = Value.bytes b t
  | .flt b, u => ∃ t, u = Value.float b t
  | .ref a, u => u = Value.ref a
  | .ty n, u => u = Value.type n

abbrev Vals : List V → List Value → Prop := Paired RelV
theorem Vals.length {xs : List V} {us : List Value} (r : Vals xs us) : xs.length = us.length := Paired.length r
theorem Vals.get : ∀ {xs : List V} {us : List Value} {i : Nat} {x : V}, Vals xs us → xs[i]? = some x → ∃ u, us[i]? = some u ∧ RelV x u
  | _, _, _, _, .nil, e => by simp at e
  | _, _, 0, _, .cons r _, e => by simp at e; subst e; exact ⟨_, rfl, r⟩
  | _, _, i + 1, x, .cons _ t, e => by
    obtain ⟨u, h1, h2⟩ := Vals.get (i := i) (x := x) t (by simpa using e)
    exact ⟨u, by simpa using h1, h2⟩
theorem Vals.set {x : V} {u : Value} (r : RelV x u) : ∀ {xs : List V} {us : List Value} (i : Nat), Vals xs us → Vals (xs.set i x) (us.set i u)
  | _, _, _, .nil => .nil
  | _, _, 0, .cons _ t => .cons r t
  | _, _, i + 1, .cons q t => .cons q (Vals.set r i t)
theorem Vals.append : ∀ {xs ys : List V} {us ws : List Value}, Vals xs us → Vals ys ws → Vals (xs ++ ys) (us ++ ws)
  | _, _, _, _, .nil, s => s
  | _, _, _, _, .cons r t, s => .cons r (Vals.append t s)
theorem Vals.take : ∀ {xs : List V} {us : List Value} (n : Nat), Vals xs us → Vals (xs.take n) (us.take n)
  | _, _, 0, _ => .nil
  | _, _, _ + 1, .nil => .nil
  | _, _, n + 1, .cons r t => .cons r (Vals.take n t)
theorem Vals.drop : ∀ {xs : List V} {us : List Value} (n : Nat), Vals xs us → Vals (xs.drop n) (us.drop n)
  | _, _, 0, r => r
  | _, _, _ + 1, .nil => .nil
  | _, _, n + 1, .cons _ t => Vals.drop n t
theorem Vals.none_of : ∀ {xs : List V} {us : List Value} {i : Nat}, Vals xs us → xs[i]? = none → us[i]? = none := fun {xs us i} r e => by
  have h1 := r.length
  have h2 : xs.length ≤ i := List.getElem?_eq_none_iff.mp e
  exact List.getElem?_eq_none_iff.mpr (by omega)

def RelO : Option V → Option Value → Prop
  | some v, some u => RelV v u
  | none, none => True
  | _, _ => False
def KV {κ : Type} : List (κ × V) → List (κ × Value) → Prop := Paired fun (p : κ × V) (q : κ × Value) => p.1 = q.1 ∧ RelV p.2 q.2

/-- a key of a dict (00_mix): an int or a text -/
def kV : Key → V
  | .inl i => .int i
  | .inr x => .str x

/-- what stands at a tracked address -/
inductive HO where
  /-- a list -/
  | lst (xs : List V)
  /-- a tuple (never changes) -/
  | tup (xs : List V)
  /-- a dict whose keys are ints and texts; one whose keys are tuples of ints and texts (the empty one is both) -/
  | dK (kvs : List (Key × V)) | dT (kvs : List (List Key × V))
  /-- a set of ints: its members, its size -/
  | set (S : Int → Bool) (n : Nat)
  /-- an instance of the class at C, its dict at dx, its attributes -/
  | ins (C dx : Addr) (fs : List (Str × V))
  /-- the dict of the instance at x -/
  | own (x : Addr)
  /-- the dict of an exception -/
  | xd (fs : List (Str × V))
  /-- a bound method, f of x -/
  | met (f x : Addr)
  /-- a range object lo, lo + 1, .. below hi -/
  | rng (lo hi : Int)
  /-- a thing that is known to the object (the script; a dict while a loop walks it): read, never written while it is so -/
  | frz (o : Obj) (u : HO)
  /-- a code object's table -/
  | tbl (ps : Array Value)
  /-- any other thing, by what is true of its one object (a def of one's own: SetO a S n := HO.ext fun h => ..) -/
  | ext (φ : Heap → Prop)

abbrev Hp := Addr → Option HO
def upd (H : Hp) (a : Addr) (o : HO) : Hp := fun b => if b = a then some o else H b
theorem upd_same {H : Hp} {a : Addr} {o : HO} : upd H a o a = some o := by unfold upd; rw [if_pos rfl]
theorem upd_ne {H : Hp} {a b : Addr} {o : HO} (h : b ≠ a) : upd H a o b = H b := by unfold upd; rw [if_neg h]
/-- two objects of different content stand apart -/
theorem ne_of {H : Hp} {a b : Addr} {o u : HO} (h : H a = some o) (h' : H b = some u) (d : o ≠ u) : a ≠ b := by
  intro e; subst e; rw [h] at h'; exact d (Option.some.inj h')
theorem ne_of_none {H : Hp} {a b : Addr} {o : HO} (h : H a = some o) (h' : H b = none) : a ≠ b := by
  intro e; subst e; rw [h] at h'; cases h'

section
variable (P : Program) (w : World)
def ObjOk (H : Hp) (h : Heap) (a : Addr) : HO → Prop
  | .lst xs => xs.length ≤ sizeLine ∧ ∃ (its : List Value) (n : Nat), Vals xs its ∧ h.get? a = some { cls := .type "list", data := .seq its.toArray n }
  | .tup xs => xs.length ≤ sizeLine ∧ ∃ its : List Value, Vals xs its ∧ IsTup h a its.toArray
  | .dK kvs => kvs.length ≤ sizeLine ∧ (a == sysModules) = false ∧ ∃ vs, KV kvs vs ∧ h.DictOf (mixKind P w) a vs
  | .dT kvs => kvs.length ≤ sizeLine ∧ (a == sysModules) = false ∧ ∃ xs : List (List Key × Addr × Value),
      Paired (fun (p : List Key × V) (q : List Key × Addr × Value) => p.1 = q.1 ∧ H q.2.1 = some (.tup (p.1.map kV)) ∧ RelV p.2 q.2.2) kvs xs ∧
      ∃ o es ep, h.get? a = some o ∧ o.ExactDict ∧ o.data = .dict es ep ∧ es.toList = xs.map (entryOfKey (tupleKind (mixKind P w))) ∧ (xs.map (·.1)).Nodup
  | .set S n => h.SetOf (intKind P w) a S n
  | .ins C dx fs => H dx = some (.own a) ∧ fs.length ≤ 1000 ∧ dx ≠ a ∧ h.get? a = some (PySem.W.instObj C dx) ∧
      ∃ mA, h.Ns1 dx mA ∧ (∀ f, RelO (fs.lookup f) (mA f)) ∧ PySem.Within mA (fs.map (·.1))
  | .own _ => ∃ o, h.get? a = some o
  | .xd fs => ∃ mA, h.Ns1 a mA ∧ ∀ f, RelO (fs.lookup f) (mA f)
  | .rng lo hi => ∃ t u v, h.get? a = some { cls := .type "range", data := .fields #[.int lo t, .int hi u, .int 1 v] }
  | .frz o u => h.get? a = some o ∧ ObjOk H h a u
  | .tbl ps => h.get? a = some { cls := .none, data := .fields ps }
  | .met f x => h.get? a = some (PySem.W.methodObj (.ref f) (.ref x))
  | .ext φ => φ h ∧ (∃ o, h.get? a = some o) ∧ ∀ h1 h2 : Heap, φ h1 → (∀ o, h1.get? a = some o → h2.get? a = some o) → φ h2
/-- the abstract heap is held -/
def HOk (H : Hp) (h : Heap) : Prop := ∀ a o, H a = some o → ObjOk P w H h a o
end

section
variable {P : Program} {w : World} {H H' : Hp} {h h' : Heap} {a : Addr} {o : HO}
theorem ObjOk.lt (x : ObjOk P w H h a o) : a < h.objs.size := by
  cases o with
  | lst xs => obtain ⟨_, _, _, _, e⟩ := x; exact Heap.lt_size e
  | tup xs => obtain ⟨_, _, _, p⟩ := x; exact p.lt
  | dK kvs => obtain ⟨_, _, _, _, o, _, _, e, _⟩ := x; exact Heap.lt_size e
  | dT kvs => obtain ⟨_, _, _, _, o, _, _, e, _⟩ := x; exact Heap.lt_size e
  | set S n => obtain ⟨o, _, _, _, e, _⟩ := x; exact Heap.lt_size e
  | ins C dx fs => obtain ⟨_, _, _, e, _⟩ := x; exact Heap.lt_size e
  | own y => obtain ⟨_, e⟩ := x; exact Heap.lt_size e
  | xd fs => obtain ⟨_, ⟨_, _, _, e, _⟩, _⟩ := x; exact Heap.lt_size e
  | rng lo hi => obtain ⟨_, _, _, e⟩ := x; exact Heap.lt_size e
  | frz ob u => obtain ⟨e, _⟩ := x; exact Heap.lt_size e
  | tbl ps => exact Heap.lt_size (show h.get? a = some _ from x)
  | met f y => exact Heap.lt_size (show h.get? a = some _ from x)
  | ext φ => obtain ⟨_, ⟨_, e⟩, _⟩ := x; exact Heap.lt_size e
theorem Paired.mapP {α β : Type} {F G : α → β → Prop} : ∀ {l₁ : List α} {l₂ : List β}, Paired F l₁ l₂ → (∀ a b, F a b → G a b) → Paired G l₁ l₂
  | _, _, .nil, _ => .nil
  | _, _, .cons r t, f => .cons (f _ _ r) (Paired.mapP t f)
/-- what an object's description leans on: its own object, its own dict, the tuples -/
theorem ObjOk.stay (x : ObjOk P w H h a o) (k : ∀ b u, (b = a ∨ H b = some (.own a)) → h.get? b = some u → h'.get? b = some u)
    (ho : ∀ b, H b = some (.own a) → H' b = some (.own a)) (ht : ∀ b xs, H b = some (.tup xs) → H' b = some (.tup xs)) : ObjOk P w H' h' a o := by
  induction o with
  | lst xs => obtain ⟨z, its, n, r, e⟩ := x; exact ⟨z, its, n, r, k _ _ (.inl rfl) e⟩
  | tup xs => obtain ⟨z, its, r, ob, e, c⟩ := x; exact ⟨z, its, r, ob, k _ _ (.inl rfl) e, c⟩
  | dK kvs => obtain ⟨z, y, vs, r, ob, es, ep, e, c⟩ := x; exact ⟨z, y, vs, r, ob, es, ep, k _ _ (.inl rfl) e, c⟩
  | dT kvs =>
    obtain ⟨z, y, xs, r, ob, es, ep, e, c⟩ := x
    exact ⟨z, y, xs, Paired.mapP r fun p q z => ⟨z.1, ht _ _ z.2.1, z.2.2⟩, ob, es, ep, k _ _ (.inl rfl) e, c⟩
  | set S n => obtain ⟨ob, es, ep, t, e, c⟩ := x; exact ⟨ob, es, ep, t, k _ _ (.inl rfl) e, c⟩
  | ins C dx fs =>
    obtain ⟨d, z, ne, e, mA, ⟨od, es, ep, e2, c⟩, r⟩ := x
    exact ⟨ho _ d, z, ne, k _ _ (.inl rfl) e, mA, ⟨od, es, ep, k _ _ (.inr d) e2, c⟩, r⟩
  | own y => obtain ⟨ob, e⟩ := x; exact ⟨ob, k _ _ (.inl rfl) e⟩
  | xd fs => obtain ⟨mA, ⟨od, es, ep, e, c⟩, r⟩ := x; exact ⟨mA, ⟨od, es, ep, k _ _ (.inl rfl) e, c⟩, r⟩
  | rng lo hi => obtain ⟨t, u, v, e⟩ := x; exact ⟨t, u, v, k _ _ (.inl rfl) e⟩
  | frz ob u ih => obtain ⟨e, q⟩ := x; exact ⟨k _ _ (.inl rfl) e, ih q⟩
  | tbl ps =>
    have e : h.get? a = some { cls := .none, data := .fields ps } := x
    show h'.get? a = some { cls := .none, data := .fields ps }
    exact k a _ (.inl rfl) e
  | met f y =>
    have e : h.get? a = some (PySem.W.methodObj (.ref f) (.ref y)) := x
    show h'.get? a = some (PySem.W.methodObj (.ref f) (.ref y))
    exact k a _ (.inl rfl) e
  | ext φ => obtain ⟨p, ⟨o, e⟩, st⟩ := x; exact ⟨st _ _ p fun o q => k _ _ (.inl rfl) q, ⟨o, k _ _ (.inl rfl) e⟩, st⟩
theorem HOk.lt (x : HOk P w H h) (e : H a = some o) : a < h.objs.size := (x a o e).lt
theorem HOk.fresh (x : HOk P w H h) (e : h.objs.size ≤ a) : H a = none := by
  cases q : H a with
  | none => rfl
  | some u => exact absurd (Nat.lt_of_lt_of_le (x.lt q) e) (Nat.lt_irrefl _)
/-- every object of the heap is kept -/
theorem HOk.kept (x : HOk P w H h) (k : ∀ b u, h.get? b = some u → h'.get? b = some u) : HOk P w H h' := fun a o e =>
  (x a o e).stay (fun b u _ q => k b u q) (fun _ q => q) fun _ _ q => q
/-- a new object is laid and tracked -/
theorem HOk.laid (x : HOk P w H h) (k : ∀ b u, h.get? b = some u → h'.get? b = some u) (hp : h.objs.size ≤ a) (new : ObjOk P w (upd H a o) h' a o) : HOk P w (upd H a o) h' := fun b u e => by
  have hn := x.fresh hp
  by_cases hb : b = a
  · subst hb; rw [upd_same] at e; cases e; exact new
  · rw [upd_ne hb] at e
    exact (x b u e).stay (fun c v _ q => k c v q) (fun c q => by rw [upd_ne (ne_of_none q hn)]; exact q) fun c xs q => by rw [upd_ne (ne_of_none q hn)]; exact q
end

/-- what may be read as u: it is u, or a known u -/
def Rd (H : Hp) (a : Addr) (u : HO) : Prop := H a = some u ∨ ∃ o, H a = some (.frz o u)
theorem Rd.of {H : Hp} {a : Addr} {u : HO} (h : H a = some u) : Rd H a u := .inl h
theorem Rd.ok {P : Program} {w : World} {H : Hp} {h : Heap} {a : Addr} {u : HO} (r : Rd H a u) (x : HOk P w H h) : ObjOk P w H h a u := by
  rcases r with r | ⟨o, r⟩
  · exact x a u r
  · obtain ⟨_, q⟩ := x a _ r
    exact q
/-- what may be written -/
def Mut : Option HO → Prop
  | some (.lst _) => True
  | some (.dK _) => True
  | some (.dT _) => True
  | some (.set _ _) => True
  | some (.ins _ _ _) => True
  | some (.ext _) => True
  | _ => False
section
variable {P : Program} {w : World} {H : Hp} {h h' : Heap} {x e : Addr} {o' : HO}
/-- the object at e is changed: x itself, or the dict of the instance x -/
theorem HOk.write (ok : HOk P w H h) (mu : Mut (H x)) (he : e = x ∨ H e = some (.own x)) (k : ∀ b u, b ≠ e → h.get? b = some u → h'.get? b = some u) (heo : ∃ u, h'.get? e = some u)
    (new : ObjOk P w (upd H x o') h' x o') : HOk P w (upd H x o') h' := fun b u q => by
  have nown : ∀ c y, H c = some (.own y) → c ≠ x := fun c y r z => by subst z; rw [r] at mu; exact mu
  have ntup : ∀ c xs, H c = some (.tup xs) → c ≠ x := fun c xs r z => by subst z; rw [r] at mu; exact mu
  by_cases hb : b = x
  · subst hb; rw [upd_same] at q; cases q; exact new
  · rw [upd_ne hb] at q
    by_cases hbe : b = e
    · have q' : H b = some (.own x) := by
        rcases he with z | z
        · exact absurd (hbe.trans z) hb
        · rw [hbe]; exact z
      rw [q] at q'; cases q'
      obtain ⟨v, hv⟩ := heo
      exact ⟨v, by rw [hbe]; exact hv⟩
    · refine (ok b u q).stay (fun c v hc r => k c v ?_ r) (fun c r => by rw [upd_ne (nown c b r)]; exact r) fun c xs r => by rw [upd_ne (ntup c xs r)]; exact r
      rcases hc with rfl | hc
      · exact hbe
      · rintro rfl
        rcases he with z | z
        · exact nown c b hc z
        · rw [hc] at z; cases z; exact hb rfl
end

/-! ### kept unless tracked; of the frames at fs (the callers') the slots may change (an exception that passes writes there); of the records at ex (iterators) nothing is said -/
structure Un (fs ex : List Addr) (H H' : Hp) (h h' : Heap) : Prop where
  keep : ∀ b o, h.get? b = some o → H b = none → b ∉ fs → b ∉ ex → h'.get? b = some o
  slot : ∀ b o, h.get? b = some o → H b = none → b ∈ fs → b ∉ ex → ∃ sl, h'.get? b = some { o with slots := sl }
  free : ∀ b o, h.get? b = some o → H b = none → b ∉ ex → H' b = none
  there : ∀ b o, h.get? b = some o → b ∉ ex → ∃ o', h'.get? b = some o'
  tups : ∀ b xs, H b = some (.tup xs) → H' b = some (.tup xs)
  frzs : ∀ b o u, H b = some (.frz o u) → H' b = some (.frz o u)
  tbls : ∀ b ps, H b = some (.tbl ps) → ∃ more, H' b = some (.tbl (ps ++ more))
section
variable {fs fs' ex ex' : List Addr} {H H1 H2 : Hp} {h h1 h2 h' : Heap} {a x e : Addr} {o : HO}
theorem Un.any (u : Un fs ex H H1 h h1) {b : Addr} {ob : Obj} (q : h.get? b = some ob) (n : H b = none) (hx : b ∉ ex) : ∃ sl, h1.get? b = some { ob with slots := sl } := by
  by_cases hb : b ∈ fs
  · exact u.slot b ob q n hb hx
  · exact ⟨ob.slots, u.keep b ob q n hb hx⟩
theorem Un.trans (a : Un fs ex H H1 h h1) (b : Un fs ex H1 H2 h1 h2) : Un fs ex H H2 h h2 where
  keep := fun c ob q n hc hx => b.keep c ob (a.keep c ob q n hc hx) (a.free c ob q n hx) hc hx
  slot := fun c ob q n hc hx => by
    obtain ⟨sl, e1⟩ := a.slot c ob q n hc hx
    obtain ⟨sl', e2⟩ := b.slot c _ e1 (a.free c ob q n hx) hc hx
    exact ⟨sl', e2⟩
  free := fun c ob q n hx => by
    obtain ⟨o', e1⟩ := a.there c ob q hx
    exact b.free c o' e1 (a.free c ob q n hx) hx
  there := fun c ob q hx => by
    obtain ⟨o', e1⟩ := a.there c ob q hx
    exact b.there c o' e1 hx
  tups := fun c xs q => b.tups c xs (a.tups c xs q)
  frzs := fun c ob xs q => b.frzs c ob xs (a.frzs c ob xs q)
  tbls := fun c ps q => by
    obtain ⟨m1, e1⟩ := a.tbls c ps q
    obtain ⟨m2, e2⟩ := b.tbls c _ e1
    exact ⟨m1 ++ m2, by rw [e2, Array.append_assoc]⟩
theorem Un.kept (k : ∀ b u, h.get? b = some u → h'.get? b = some u) : Un fs ex H H h h' :=
  ⟨fun b ob q _ _ _ => k b ob q, fun b ob q _ _ _ => ⟨ob.slots, k b ob q⟩, fun _ _ _ n _ => n, fun b ob q _ => ⟨ob, k b ob q⟩, fun _ _ q => q, fun _ _ _ q => q, fun _ ps q => ⟨#[], by rw [q]; simp⟩⟩
theorem Un.refl : Un fs ex H H h h := Un.kept fun _ _ q => q
theorem Un.laid (k : ∀ b u, h.get? b = some u → h'.get? b = some u) (hp : h.objs.size ≤ a) (hn : H a = none) : Un fs ex H (upd H a o) h h' where
  keep := fun b u q _ _ _ => k b u q
  slot := fun b u q _ _ _ => ⟨u.slots, k b u q⟩
  free := fun b u q n _ => by rw [upd_ne (Nat.ne_of_lt (Nat.lt_of_lt_of_le (Heap.lt_size q) hp))]; exact n
  there := fun b u q _ => ⟨u, k b u q⟩
  tups := fun b xs q => by rw [upd_ne (ne_of_none q hn)]; exact q
  frzs := fun b u xs q => by rw [upd_ne (ne_of_none q hn)]; exact q
  tbls := fun b ps q => ⟨#[], by rw [upd_ne (ne_of_none q hn), q]; simp⟩
theorem Un.write (mu : Mut (H x)) (he : e = x ∨ H e = some (.own x)) (k : ∀ b u, b ≠ e → h.get? b = some u → h'.get? b = some u) (heo : ∃ u, h'.get? e = some u) : Un fs ex H (upd H x o) h h' := by
  have hx : ∀ b, H b = none → b ≠ x := fun b n z => by subst z; rw [n] at mu; exact mu
  have hb : ∀ b, H b = none → b ≠ e := fun b n z => by
    subst z
    rcases he with r | r
    · exact hx b n r
    · rw [n] at r; cases r
  have hm : ∀ b u, H b = some u → ¬ Mut (some u) → b ≠ x := fun b u q nm z => by subst z; rw [q] at mu; exact nm mu
  refine ⟨fun b u q n _ _ => k b u (hb b n) q, fun b u q n _ _ => ⟨u.slots, k b u (hb b n) q⟩, fun b u q n _ => by rw [upd_ne (hx b n)]; exact n, fun b u q _ => ?_,
    fun b xs q => by rw [upd_ne (hm b _ q fun z => z)]; exact q, fun b u xs q => by rw [upd_ne (hm b _ q fun z => z)]; exact q, fun b ps q => ⟨#[], by rw [upd_ne (hm b _ q fun z => z), q]; simp⟩⟩
  by_cases hbe : b = e
  · subst hbe; exact heo
  · exact ⟨u, k b u hbe q⟩
theorem Un.mono (u : Un fs ex H H1 h h1) (hs : ∀ b ∈ fs, b ∈ fs') (hx : ∀ b ∈ ex, b ∈ ex') : Un fs' ex' H H1 h h1 :=
  ⟨fun b ob q n hb he => u.keep b ob q n (fun z => hb (hs b z)) fun z => he (hx b z), fun _ _ q n _ he => u.any q n fun z => he (hx _ z), fun b ob q n he => u.free b ob q n fun z => he (hx b z), fun b ob q he => u.there b ob q fun z => he (hx b z), u.tups, u.frzs, u.tbls⟩
end

/-! ### the heap without what is tracked -/
def trk (h : Heap) (H : Hp) : List Addr := (List.range h.objs.size).filter fun a => (H a).isSome
def hidT (h : Heap) (H : Hp) : Heap := PySem.W.hideAll h (trk h H)
theorem hidT_size (h : Heap) (H : Hp) : (hidT h H).objs.size = h.objs.size := PySem.W.hideAll_size _ _
theorem hidT_get {h : Heap} {H : Hp} {b : Addr} {o : Obj} (e : h.get? b = some o) (n : H b = none) : (hidT h H).get? b = some o :=
  PySem.W.hideAll_get _ e fun hm => by
    have q : (H b).isSome = true := (List.mem_filter.mp hm).2
    rw [n] at q; simp at q
theorem of_hidT {h : Heap} {H : Hp} {b : Addr} {o : Obj} (e : (hidT h H).get? b = some o) : h.get? b = some o ∧ H b = none := by
  have e' : h.get? b = some o := PySem.W.of_hideAll (trk h H) e
  refine ⟨e', ?_⟩
  cases q : H b with
  | none => rfl
  | some x =>
    have hm : b ∈ trk h H := List.mem_filter.mpr ⟨List.mem_range.mpr (Heap.lt_size e'), by simp [q]⟩
    have z : (hidT h H).get? b = none := PySem.W.hideAll_none (trk h H) hm
    rw [z] at e; cases e

/-! ### OpenK's ledger, filled with every new object but one -/
def allNews (g h : Heap) (L : Addr) : List (Addr × Obj) := (List.range h.objs.size).filterMap fun a => if a = L ∨ (g.get? a).isSome = true then none else (h.get? a).map fun o => (a, o)
def rest (g h : Heap) (L d : Addr) : List (Addr × Obj) := (allNews g h L).filter fun p => decide (p.1 ≠ d)
end L2

namespace L2
open PySem PySem.Spec PyProof.Rows

/-- the module's facts, over the base: the heap at the law's entry without what is tracked there -/
structure Mod (K : PySem.W.Frag) (mg : Str → Option Value) (base : Heap) : Prop where
  kin : K.In base
  glob : base.Ns mainGlobals mg
  blt : ∃ mb, base.Ns builtinsNs mb ∧ ∀ x : Str, x ≠ "__name__" → mb x = bootBuiltins x
  nolimit : base.NoLimit

/-- the context: a def's body (or a comprehension's block) running. base: fixed through the whole law; s₀, H₀: the entry; outer: the frames whose slots others may change (a def's callers); stack: all frames that run;
   ex: iterators that were made ahead of the entry and are walked here (a comprehension's); fn: the names whose cells were made at the entry (a def: all; a comprehension's block: its own); calm: not within an except suite; pn: pins that every state bears; xe: what is wanted of an exception that leaves the code -/
structure Cx where
  prog : Program
  w : World
  K : PySem.W.Frag
  mg : Str → Option Value
  base : Heap
  A : Around
  N : List Str
  s₀ : Shared
  H₀ : Hp
  env : Env
  outer : List Env
  stack : List Env
  ex : List Addr
  fn : Str → Bool
  calm : Bool
  pn : List (Addr × Obj)
  xe : Value → Shared → Prop
/-- the callers' frames -/
def frs (l : List Env) : List Addr := l.filterMap (·.frame)
abbrev Cx.fs (X : Cx) : List Addr := frs X.outer

def Vis (sc : Scope) (x : Str) : Prop := sc.names.lookup x = some .local ∨ sc.names.lookup x = some .cell ∨ sc.names.lookup x = some .free
def Loc (sc : Scope) (x : Str) : Prop := sc.names.lookup x = some .local ∨ sc.names.lookup x = some .cell
def Look (env : Env) (h : Heap) (m : Str → Option Value) (x : Str) (u : Value) : Prop :=
  (env.kindOf x = some .local ∧ m x = some u) ∨ ((env.kindOf x = some .cell ∨ env.kindOf x = some .free) ∧ ∃ c, env.cells.lookup x = some c ∧ h.IsCell c (some u))

structure Cx.Ok (X : Cx) : Prop where
  mod : Mod X.K X.mg X.base
  kind : X.env.scope.kind = .function
  glob : X.env.globals = mainGlobals
  blt : X.env.builtins = builtinsNs
  above : X.s₀.heap.objs.size ≤ X.env.locals
  inj : ∀ x y c, X.env.cells.lookup x = some c → X.env.cells.lookup y = some c → x = y
  has : ∀ x, (X.env.kindOf x = some .cell ∨ X.env.kindOf x = some .free) → ∃ c, X.env.cells.lookup x = some c
  cab : ∀ x c, X.fn x = true → X.env.cells.lookup x = some c → X.s₀.heap.objs.size ≤ c
  hd : X.calm = true → X.A.handled = none
  frames : X.A.frames = some X.stack
  stk : X.stack = X.outer ∨ (X.stack = X.env :: X.outer ∧ X.env.frame = some X.env.locals)
  exf : ∀ b ∈ X.ex, b ≠ X.env.locals ∧ ∀ x c, X.env.cells.lookup x = some c → c ≠ b
  bs : ∀ b o, X.base.get? b = some o → X.s₀.heap.get? b = some o ∧ X.H₀ b = none
  bsz : X.base.objs.size ≤ X.s₀.heap.objs.size
  noex : ∀ b o, X.base.get? b = some o → b ∉ X.ex
  exfs : ∀ b ∈ X.ex, b ∉ X.fs
  funs : X.s₀.heap.FunFrames X.base X.outer
  frf : ∀ b ∈ X.fs, X.H₀ b = none

structure Inv (X : Cx) (pins : List (Addr × Obj)) (σ : List (Option V)) (H : Hp) (s : Shared) : Prop where
  ok : X.Ok
  os : s.os = X.s₀.os
  bare : AllBare s.gens
  base : Un X.fs X.ex X.H₀ H X.s₀.heap s.heap
  loc : ∃ m, s.heap.Ns X.env.locals m ∧ ∀ (i : Nat) (x : Str) (v : V), X.N[i]? = some x → σ[i]? = some (some v) → Vis X.env.scope x → ∃ u, RelV v u ∧ Look X.env s.heap m x u
  cell : ∀ x c, X.env.cells.lookup x = some c → ∃ v, s.heap.IsCell c v
  free : H X.env.locals = none
  freeC : ∀ x c, X.env.cells.lookup x = some c → H c = none
  pin : ∀ p ∈ X.pn ++ pins, s.heap.get? p.1 = some p.2 ∧ H p.1 = none ∧ p.1 ≠ X.env.locals ∧ p.1 ∉ X.fs ∧ ∀ v, p.2.data ≠ .cell v
  hok : HOk X.prog X.w H s.heap
  len : σ.length = X.N.length

section
variable {X : Cx} {pins : List (Addr × Obj)} {σ : List (Option V)} {H H' : Hp} {s : Shared} {h' : Heap}

theorem Cx.Ok.nofr (ok : X.Ok) {b : Addr} {o : Obj} (e : X.base.get? b = some o) : b ∉ X.fs := fun hb => by
  have := (ok.funs.mem hb).1
  rw [e] at this; cases this
theorem Inv.bs (I : Inv X pins σ H s) : ∀ b o, X.base.get? b = some o → s.heap.get? b = some o ∧ H b = none := fun b o e =>
  ⟨I.base.keep b o (I.ok.bs b o e).1 (I.ok.bs b o e).2 (I.ok.nofr e) (I.ok.noex b o e), I.base.free b o (I.ok.bs b o e).1 (I.ok.bs b o e).2 (I.ok.noex b o e)⟩
theorem Inv.bk (I : Inv X pins σ H s) : ∀ b o, X.base.get? b = some o → s.heap.get? b = some o := fun b o e => (I.bs b o e).1
theorem Inv.mod (I : Inv X pins σ H s) : Mod X.K X.mg X.base := I.ok.mod
theorem Inv.kIn (I : Inv X pins σ H s) : X.K.In s.heap := I.ok.mod.kin.keeps I.bk
theorem Inv.nolimit (I : Inv X pins σ H s) : s.heap.NoLimit := I.ok.mod.nolimit.keeps I.bk
/-- the frame over the base: for OpenK's rules (K.In X.base is I.mod.kin) -/
theorem Inv.fr (I : Inv X pins σ H s) : ∃ m, Fr X.base X.env.locals s.heap m :=
  let ⟨m, hn, _⟩ := I.loc
  ⟨m, hn, I.bk, Nat.le_trans I.ok.bsz I.ok.above⟩
theorem Inv.lt (I : Inv X pins σ H s) : X.env.locals < s.heap.objs.size := let ⟨_, hn, _⟩ := I.loc; hn.lt
theorem Inv.sz (I : Inv X pins σ H s) : X.s₀.heap.objs.size ≤ s.heap.objs.size := Nat.le_trans I.ok.above (Nat.le_of_lt I.lt)
theorem Inv.nofs (I : Inv X pins σ H s) {a : Addr} (h : s.heap.objs.size ≤ a) : a ∉ X.fs := fun hb => by
  obtain ⟨_, o, ho, _⟩ := I.ok.funs.mem hb
  exact absurd (Nat.lt_of_lt_of_le (Heap.lt_size ho) (Nat.le_trans I.sz h)) (Nat.lt_irrefl _)
theorem Inv.cne (I : Inv X pins σ H s) : ∀ x c, X.env.cells.lookup x = some c → c ≠ X.env.locals := fun x c e z => by
  obtain ⟨v, o, ho, hd⟩ := I.cell x c e
  obtain ⟨m, ⟨o', es, ep, ho', hd', _⟩, _⟩ := I.loc
  rw [z, ho'] at ho; cases ho; rw [hd'] at hd; cases hd
theorem Inv.funs (I : Inv X pins σ H s) : s.heap.FunFrames X.base X.outer := by
  have all : ∀ (l : List Env), (∀ b ∈ frs l, b ∈ X.fs) → X.s₀.heap.FunFrames X.base l → s.heap.FunFrames X.base l := by
    intro l
    induction l with
    | nil => intro _ _; trivial
    | cons env r ih =>
      intro hs hl
      obtain ⟨hk, ⟨L, o, hf, hn, ho, hd⟩, hr⟩ := hl
      have hL : L ∈ X.fs := hs L (by unfold frs; rw [List.filterMap_cons, hf]; exact List.mem_cons_self)
      obtain ⟨sl, e⟩ := I.base.slot L o ho (I.ok.frf L hL) hL fun z => I.ok.exfs L z hL
      exact ⟨hk, ⟨L, _, hf, hn, e, hd⟩, ih (fun b hb => hs b (by unfold frs; rw [List.filterMap_cons, hf]; exact List.mem_cons_of_mem _ hb)) hr⟩
  exact all X.outer (fun _ hb => hb) I.ok.funs

/-- the frames that run, for a call -/
theorem Inv.stack (I : Inv X pins σ H s) : s.heap.FunFrames X.base X.stack := by
  rcases I.ok.stk with e | ⟨e, hf⟩
  · rw [e]; exact I.funs
  · rw [e]
    obtain ⟨m, hn, _⟩ := I.loc
    refine .cons (by rw [I.ok.kind]; decide) hf hn ?_ I.funs
    exact Heap.get?_none_of_le (Nat.le_trans I.ok.bsz I.ok.above)
theorem Inv.stkSub (I : Inv X pins σ H s) : ∀ b ∈ frs X.stack, b ∈ X.env.locals :: X.fs := fun b hb => by
  rcases I.ok.stk with e | ⟨e, hf⟩
  · rw [e] at hb; exact List.mem_cons_of_mem _ hb
  · rw [e] at hb
    unfold frs at hb
    rw [List.filterMap_cons, hf] at hb
    exact hb
theorem Inv.stkFree (I : Inv X pins σ H s) : ∀ b ∈ frs X.stack, H b = none := fun b hb => by
  rcases List.mem_cons.mp (I.stkSub b hb) with e | hb
  · rw [e]; exact I.free
  · obtain ⟨_, o, ho, _⟩ := I.ok.funs.mem hb
    exact I.base.free b o ho (I.ok.frf b hb) fun z => I.ok.exfs b z hb

/-- THE STEP: the untracked objects but the frame and the records at ch are kept (the callers' frames up to slots), the frame's map is kept, the new abstract heap is held -/
theorem Inv.step {g' : Array GenState} {t' : Nat} {d' : Drawn} {ch : List Addr} (I : Inv X pins σ H s)
    (hch : ∀ b ∈ ch, (b ∈ X.ex ∨ X.s₀.heap.objs.size ≤ b) ∧ b ≠ X.env.locals ∧ (∀ x c, X.env.cells.lookup x = some c → c ≠ b) ∧ ∀ p ∈ X.pn ++ pins, p.1 ≠ b)
    (keep : ∀ b o, b ≠ X.env.locals → b ∉ X.fs → b ∉ ch → s.heap.get? b = some o → H b = none → h'.get? b = some o)
    (slot : ∀ b o, b ≠ X.env.locals → b ∈ X.fs → b ∉ ch → s.heap.get? b = some o → H b = none → ∃ sl, h'.get? b = some { o with slots := sl }) (free : ∀ b o, b ∉ ch → s.heap.get? b = some o → H b = none → H' b = none)
    (there : ∀ b o, b ∉ ch → s.heap.get? b = some o → ∃ o', h'.get? b = some o')
    (tups : ∀ b xs, H b = some (.tup xs) → H' b = some (.tup xs)) (frzs : ∀ b o u, H b = some (.frz o u) → H' b = some (.frz o u)) (tbls : ∀ b ps, H b = some (.tbl ps) → ∃ more, H' b = some (.tbl (ps ++ more)))
    (ns : ∀ m, s.heap.Ns X.env.locals m → h'.Ns X.env.locals m) (hok : HOk X.prog X.w H' h') (hg : AllBare g') :
    Inv X pins σ H' { s with heap := h', gens := g', drawn := d', toks := t' } := by
  have neL : ∀ b o, X.s₀.heap.get? b = some o → b ≠ X.env.locals := fun b o e => Nat.ne_of_lt (Nat.lt_of_lt_of_le (Heap.lt_size e) I.ok.above)
  have neC : ∀ b o, X.s₀.heap.get? b = some o → b ∉ X.ex → b ∉ ch := fun b o e hx hb => by
    rcases (hch b hb).1 with z | z
    · exact hx z
    · exact absurd (Nat.lt_of_lt_of_le (Heap.lt_size e) z) (Nat.lt_irrefl _)
  have cellK : ∀ x c, X.env.cells.lookup x = some c → ∀ v, s.heap.IsCell c v → h'.IsCell c v := fun x c e v ⟨o, ho, hd⟩ => by
    have nch : c ∉ ch := fun z => (hch c z).2.2.1 x c e rfl
    by_cases hc : c ∈ X.fs
    · obtain ⟨sl, q⟩ := slot c o (I.cne x c e) hc nch ho (I.freeC x c e)
      exact ⟨_, q, hd⟩
    · exact ⟨o, keep c o (I.cne x c e) hc nch ho (I.freeC x c e), hd⟩
  refine ⟨I.ok, I.os, hg, ⟨fun b o e n hb hx => ?_, fun b o e n hb hx => ?_, fun b o e n hx => ?_, fun b o e hx => ?_, fun b xs e => tups b xs (I.base.tups b xs e), fun b o xs e => frzs b o xs (I.base.frzs b o xs e), fun b ps e => ?_⟩, ?_, fun x c e => ?_, ?_, fun x c e => ?_, fun p hp => ?_, hok, I.len⟩
  · exact keep b o (neL b o e) hb (neC b o e hx) (I.base.keep b o e n hb hx) (I.base.free b o e n hx)
  · obtain ⟨sl, e1⟩ := I.base.slot b o e n hb hx
    obtain ⟨sl', e2⟩ := slot b _ (neL b o e) hb (neC b o e hx) e1 (I.base.free b o e n hx)
    exact ⟨sl', e2⟩
  · obtain ⟨o', e1⟩ := I.base.there b o e hx
    exact free b o' (neC b o e hx) e1 (I.base.free b o e n hx)
  · obtain ⟨o', e1⟩ := I.base.there b o e hx
    exact there b o' (neC b o e hx) e1
  · obtain ⟨m1, e1⟩ := I.base.tbls b ps e
    obtain ⟨m2, e2⟩ := tbls b _ e1
    exact ⟨m1 ++ m2, by rw [e2, Array.append_assoc]⟩
  · obtain ⟨m, hn, hl⟩ := I.loc
    refine ⟨m, ns m hn, fun i x v e1 e2 e3 => ?_⟩
    obtain ⟨u, r, l⟩ := hl i x v e1 e2 e3
    refine ⟨u, r, ?_⟩
    rcases l with l | ⟨k, c, e, z⟩
    · exact .inl l
    · exact .inr ⟨k, c, e, cellK x c e _ z⟩
  · obtain ⟨v, z⟩ := I.cell x c e
    exact ⟨v, cellK x c e v z⟩
  · obtain ⟨m, ⟨o, _, _, ho, _⟩, _⟩ := I.loc
    exact free _ o (fun z => (hch _ z).2.1 rfl) ho I.free
  · obtain ⟨v, o, ho, hd⟩ := I.cell x c e
    exact free c o (fun z => (hch c z).2.2.1 x c e rfl) ho (I.freeC x c e)
  · obtain ⟨e, n, ne, nf, d⟩ := I.pin p hp
    have nch : p.1 ∉ ch := fun z => (hch p.1 z).2.2.2 p hp rfl
    exact ⟨keep p.1 p.2 ne nf nch e n, free p.1 p.2 nch e n, ne, nf, d⟩
/-- .. where the frame's own object is kept too -/
theorem Inv.un {t' : Nat} (I : Inv X pins σ H s) (u : Un X.fs [] H H' s.heap h') (hok : HOk X.prog X.w H' h') : Inv X pins σ H' { s with heap := h', toks := t' } := by
  obtain ⟨m, ⟨o, es, ep, ho, r⟩, _⟩ := id I.loc
  obtain ⟨sl, hL⟩ := u.any ho I.free (by simp)
  exact I.step (g' := s.gens) (d' := s.drawn) (ch := []) (fun _ z => nomatch z) (fun b o _ hb _ e n => u.keep b o e n hb (by simp)) (fun b o _ hb _ e n => u.slot b o e n hb (by simp)) (fun b o _ e n => u.free b o e n (by simp)) (fun b o _ e => u.there b o e (by simp)) u.tups u.frzs u.tbls (fun m' hm => by
    obtain ⟨o', es', ep', ho', r'⟩ := hm
    rw [ho] at ho'; cases ho'
    exact ⟨_, es', ep', hL, r'⟩) hok I.bare
/-- behind a call (or a comprehension's block): the slots of this frame may have changed too, the records at ch may have turned -/
theorem Inv.call {g' : Array GenState} {t' : Nat} {d' : Drawn} {ch : List Addr} (I : Inv X pins σ H s) (u : Un (frs X.stack) ch H H' s.heap h') (hok : HOk X.prog X.w H' h') (hg : AllBare g')
    (hch : ∀ b ∈ ch, (b ∈ X.ex ∨ X.s₀.heap.objs.size ≤ b) ∧ b ≠ X.env.locals ∧ (∀ x c, X.env.cells.lookup x = some c → c ≠ b) ∧ ∀ p ∈ X.pn ++ pins, p.1 ≠ b) :
    Inv X pins σ H' { s with heap := h', gens := g', drawn := d', toks := t' } := by
  obtain ⟨m, ⟨o, es, ep, ho, r⟩, _⟩ := id I.loc
  obtain ⟨sl, hL⟩ := u.any ho I.free fun z => (hch _ z).2.1 rfl
  exact I.step (ch := ch) hch (fun b o hL hb hc e n => u.keep b o e n (fun z => (List.mem_cons.mp (I.stkSub b z)).elim hL hb) hc) (fun b o _ _ hc e n => u.any e n hc) (fun b o hc e n => u.free b o e n hc) (fun b o hc e => u.there b o e hc) u.tups u.frzs u.tbls (fun m' hm => by
    obtain ⟨o', es', ep', ho', r'⟩ := hm
    rw [ho] at ho'; cases ho'
    exact ⟨_, es', ep', hL, r'⟩) hok hg
/-- an untracked record of ours (an iterator) has turned -/
theorem Inv.turned {t' : Nat} {it : Addr} (I : Inv X pins σ H s) (k : ∀ b o, b ≠ it → s.heap.get? b = some o → h'.get? b = some o) (hn : H it = none) (hL : it ≠ X.env.locals)
    (h1 : it ∈ X.ex ∨ X.s₀.heap.objs.size ≤ it) (h2 : ∀ x c, X.env.cells.lookup x = some c → c ≠ it) (h3 : ∀ p ∈ X.pn ++ pins, p.1 ≠ it) : Inv X pins σ H { s with heap := h', toks := t' } := by
  have nit : ∀ b u, H b = some u → b ≠ it := fun b u e z => by rw [z, hn] at e; cases e
  refine I.step (g' := s.gens) (d' := s.drawn) (ch := [it]) (fun b hb => ?_) (fun b o _ _ hc e _ => k b o (fun z => hc (by simp [z])) e) (fun b o _ _ hc e _ => ⟨o.slots, k b o (fun z => hc (by simp [z])) e⟩) (fun _ _ _ _ n => n)
    (fun b o hc e => ⟨o, k b o (fun z => hc (by simp [z])) e⟩) (fun _ _ e => e) (fun _ _ _ e => e) (fun b ps e => ⟨#[], by rw [e]; simp⟩) (fun m hm => ?_) (fun b u e => ?_) I.bare
  · have e : b = it := by simpa using hb
    subst e
    exact ⟨h1, hL, h2, h3⟩
  · obtain ⟨o, es, ep, ho, r⟩ := hm
    exact ⟨o, es, ep, k _ o (Ne.symm hL) ho, r⟩
  · refine (I.hok b u e).stay (fun c v hc q => k c v ?_ q) (fun _ q => q) fun _ _ q => q
    rcases hc with z | z
    · rw [z]; exact nit b u e
    · exact nit c _ z
theorem Inv.tok (I : Inv X pins σ H s) (t : Nat) : Inv X pins σ H { s with toks := t } := I.un (h' := s.heap) (t' := t) Un.refl I.hok
/-- all objects kept -/
theorem Inv.kept {t' : Nat} (I : Inv X pins σ H s) (k : ∀ b u, s.heap.get? b = some u → h'.get? b = some u) : Inv X pins σ H { s with heap := h', toks := t' } := I.un (Un.kept k) (I.hok.kept k)
/-- a new object laid and tracked -/
theorem Inv.laid {a : Addr} {o : HO} {t' : Nat} (I : Inv X pins σ H s) (k : ∀ b u, s.heap.get? b = some u → h'.get? b = some u) (hp : s.heap.objs.size ≤ a) (new : ObjOk X.prog X.w (upd H a o) h' a o) :
    Inv X pins σ (upd H a o) { s with heap := h', toks := t' } := I.un (Un.laid k hp (I.hok.fresh hp)) (I.hok.laid k hp new)
/-- an object written -/
theorem Inv.write {x e : Addr} {o : HO} {t' : Nat} (I : Inv X pins σ H s) (mu : Mut (H x)) (he : e = x ∨ H e = some (.own x)) (k : ∀ b u, b ≠ e → s.heap.get? b = some u → h'.get? b = some u) (heo : ∃ u, h'.get? e = some u)
    (new : ObjOk X.prog X.w (upd H x o) h' x o) : Inv X pins σ (upd H x o) { s with heap := h', toks := t' } := I.un (Un.write mu he k heo) (I.hok.write mu he k heo new)
theorem Inv.pins_of {pins' : List (Addr × Obj)} (I : Inv X pins σ H s) (h : ∀ p ∈ pins', s.heap.get? p.1 = some p.2 ∧ H p.1 = none ∧ p.1 ≠ X.env.locals ∧ p.1 ∉ X.fs ∧ ∀ v, p.2.data ≠ .cell v) : Inv X pins' σ H s :=
  ⟨I.ok, I.os, I.bare, I.base, I.loc, I.cell, I.free, I.freeC, fun p hp => (List.mem_append.mp hp).elim (fun z => I.pin p (List.mem_append_left _ z)) (h p), I.hok, I.len⟩

theorem nodup_ix {N : List Str} (hN : N.Nodup) {i j : Nat} {x : Str} (a : N[i]? = some x) (b : N[j]? = some x) : i = j := by
  obtain ⟨h1, e1⟩ := List.getElem?_eq_some_iff.mp a
  obtain ⟨h2, e2⟩ := List.getElem?_eq_some_iff.mp b
  exact (List.getElem_inj hN).mp (e1.trans e2.symm)

/-- a name is stored; what changed -/
theorem store_ok2 {M : Model} {A : Around} {E : Value → Shared → Prop} {i : Nat} {x : Str} {v : V} {u : Value} {Q : Unit → Shared → Prop} (I : Inv X pins σ H s) (hN : X.N.Nodup) (hi : X.N[i]? = some x) (hx : Loc X.env.scope x) (r : RelV v u)
    (h : ∀ s', Inv X pins (σ.set i (some v)) H s' → (∃ a, Heap.SameBut a s.heap s'.heap ∧ (a = X.env.locals ∨ X.env.cells.lookup x = some a)) → Q () s') (hf : X.fn x = true ∨ X.env.scope.names.lookup x = some .local := by first | exact .inl rfl | exact .inr rfl | assumption) : wpAny M A (storeName X.env x u) Q E s := by
  obtain ⟨m, hn, hl⟩ := id I.loc
  have hcls : (X.env.scope.kind == .class || (X.env.scope.kind == .module && X.env.locals != X.env.globals)) = false := by rw [I.ok.kind]; rfl
  have hiσ : i < σ.length := by rw [I.len]; exact (List.getElem?_eq_some_iff.mp hi).1
  have cne := I.cne
  have tracked : ∀ {a : Addr} {h' : Heap}, (∃ o, s.heap.get? a = some o ∧ H a = none) → Heap.SameBut a s.heap h' → HOk X.prog X.w H h' := fun {a h'} ha hs b ob e => by
    obtain ⟨_, _, hfree⟩ := ha
    refine (I.hok b ob e).stay (fun c w' hc q => (hs.2 c ?_).trans q) (fun _ q => q) fun _ _ q => q
    rintro rfl
    rcases hc with rfl | hc
    · rw [hfree] at e; cases e
    · rw [hfree] at hc; cases hc
  rcases hx with hk | hk
  · refine wpAny_storeName_local hk hn (fun h' hn' hs => ?_) hcls
    obtain ⟨oL, _, _, hoL, _⟩ := id hn
    refine h _ ⟨I.ok, I.os, I.bare, ⟨fun b o e n hb hx => ?_, fun b o e n hb hx => ?_, I.base.free, fun b o e hx => ?_, I.base.tups, I.base.frzs, I.base.tbls⟩, ⟨_, hn', fun j y v' e1 e2 e3 => ?_⟩, fun y c e => ?_, I.free, I.freeC, fun p hp => ?_, tracked ⟨oL, hoL, I.free⟩ hs, by simpa using I.len⟩ ⟨_, hs, .inl rfl⟩
    · exact (hs.2 b (Nat.ne_of_lt (Nat.lt_of_lt_of_le (Heap.lt_size e) I.ok.above))).trans (I.base.keep b o e n hb hx)
    · obtain ⟨sl, e1⟩ := I.base.slot b o e n hb hx
      exact ⟨sl, (hs.2 b (Nat.ne_of_lt (Nat.lt_of_lt_of_le (Heap.lt_size e) I.ok.above))).trans e1⟩
    · obtain ⟨o', e1⟩ := I.base.there b o e hx
      exact ⟨o', (hs.2 b (Nat.ne_of_lt (Nat.lt_of_lt_of_le (Heap.lt_size e) I.ok.above))).trans e1⟩
    · by_cases hj : j = i
      · subst hj
        rw [hi] at e1; cases e1
        rw [List.getElem?_set_self hiσ] at e2
        cases e2
        exact ⟨u, r, .inl ⟨hk, by simp⟩⟩
      · rw [List.getElem?_set_ne (Ne.symm hj)] at e2
        obtain ⟨u', r', q⟩ := hl j y v' e1 e2 e3
        refine ⟨u', r', ?_⟩
        rcases q with ⟨k, e⟩ | ⟨k, c, e, z⟩
        · refine .inl ⟨k, ?_⟩
          have : y ≠ x := fun e => hj (nodup_ix hN e1 (e ▸ hi))
          simp [this, e]
        · exact .inr ⟨k, c, e, z.sameBut hs (cne y c e)⟩
    · obtain ⟨w', z⟩ := I.cell y c e
      exact ⟨w', z.sameBut hs (cne y c e)⟩
    · obtain ⟨e, n, ne, nf, d⟩ := I.pin p hp
      exact ⟨(hs.2 p.1 ne).trans e, n, ne, nf, d⟩
  · have hfn : X.fn x = true := by
      rcases hf with z | z
      · exact z
      · rw [z] at hk; cases hk
    obtain ⟨c, hc⟩ := I.ok.has x (.inl hk)
    obtain ⟨w', z⟩ := I.cell x c hc
    refine wpAny_storeName_cell I.ok.kind hk hc z (fun h' hc' hs => ?_)
    obtain ⟨oc, hoc, hocd⟩ := id z
    refine h { s with heap := h' } ⟨I.ok, I.os, I.bare, ⟨fun b o e n hb hx => ?_, fun b o e n hb hx => ?_, I.base.free, fun b o e hx => ?_, I.base.tups, I.base.frzs, I.base.tbls⟩, ⟨m, hn.sameBut hs (Ne.symm (cne x c hc)), fun j y v' e1 e2 e3 => ?_⟩, fun y c' e => ?_, I.free, I.freeC, fun p hp => ?_, tracked ⟨oc, hoc, I.freeC x c hc⟩ hs, by simpa using I.len⟩ ⟨c, hs, .inr hc⟩
    · exact (hs.2 b (Nat.ne_of_lt (Nat.lt_of_lt_of_le (Heap.lt_size e) (I.ok.cab x c hfn hc)))).trans (I.base.keep b o e n hb hx)
    · obtain ⟨sl, e1⟩ := I.base.slot b o e n hb hx
      exact ⟨sl, (hs.2 b (Nat.ne_of_lt (Nat.lt_of_lt_of_le (Heap.lt_size e) (I.ok.cab x c hfn hc)))).trans e1⟩
    · obtain ⟨o', e1⟩ := I.base.there b o e hx
      exact ⟨o', (hs.2 b (Nat.ne_of_lt (Nat.lt_of_lt_of_le (Heap.lt_size e) (I.ok.cab x c hfn hc)))).trans e1⟩
    · by_cases hj : j = i
      · subst hj
        rw [hi] at e1; cases e1
        rw [List.getElem?_set_self hiσ] at e2
        cases e2
        exact ⟨u, r, .inr ⟨.inl hk, c, hc, hc'⟩⟩
      · rw [List.getElem?_set_ne (Ne.symm hj)] at e2
        obtain ⟨u', r', q⟩ := hl j y v' e1 e2 e3
        refine ⟨u', r', ?_⟩
        rcases q with q | ⟨k, c', e, z'⟩
        · exact .inl q
        · refine .inr ⟨k, c', e, z'.sameBut hs ?_⟩
          rintro rfl
          exact hj (nodup_ix hN e1 (I.ok.inj _ _ _ e hc ▸ hi))
    · by_cases hcc : c' = c
      · subst hcc; exact ⟨_, hc'⟩
      · obtain ⟨w2, z2⟩ := I.cell y c' e
        exact ⟨w2, z2.sameBut hs hcc⟩
    · obtain ⟨e, n, ne, nf, d⟩ := I.pin p hp
      refine ⟨(hs.2 p.1 ?_).trans e, n, ne, nf, d⟩
      intro q
      rw [q, hoc] at e
      have q' : oc = p.2 := Option.some.inj e
      exact d w' (by rw [← q']; exact hocd)
theorem store_ok {M : Model} {A : Around} {E : Value → Shared → Prop} {i : Nat} {x : Str} {v : V} {u : Value} {Q : Unit → Shared → Prop} (I : Inv X pins σ H s) (hN : X.N.Nodup) (hi : X.N[i]? = some x) (hx : Loc X.env.scope x) (r : RelV v u)
    (h : ∀ s', Inv X pins (σ.set i (some v)) H s' → Q () s') (hf : X.fn x = true ∨ X.env.scope.names.lookup x = some .local := by first | exact .inl rfl | exact .inr rfl | assumption) : wpAny M A (storeName X.env x u) Q E s :=
  store_ok2 I hN hi hx r (fun s' I' _ => h s' I') hf
/-- behind a call or a block, the state as it is -/
theorem Inv.call' {s' : Shared} {ch : List Addr} (I : Inv X pins σ H s) (ho : s'.os = s.os) (u : Un (frs X.stack) ch H H' s.heap s'.heap) (hok : HOk X.prog X.w H' s'.heap) (hg : AllBare s'.gens)
    (hch : ∀ b ∈ ch, (b ∈ X.ex ∨ X.s₀.heap.objs.size ≤ b) ∧ b ≠ X.env.locals ∧ (∀ x c, X.env.cells.lookup x = some c → c ≠ b) ∧ ∀ p ∈ X.pn ++ pins, p.1 ≠ b) : Inv X pins σ H' s' := by
  obtain ⟨h', g', d', t', o'⟩ := s'
  have e : o' = s.os := ho
  subst e
  exact I.call (g' := g') (t' := t') (d' := d') u hok hg hch
end

/-! ### the judgements -/
/-- an exception: its class, its own dict's address (where it has one), the abstract heap behind it -/
abbrev XK := Value → Option Addr → Hp → Prop
abbrev St := List (Option V)
abbrev VK := V → Hp → Prop
/-- an expression's reading; a test's; an argument list's -/
abbrev TE := St → Hp → VK → Prop
abbrev TT := St → Hp → (Bool → Hp → Prop) → Prop
abbrev TA := St → Hp → (List V → Hp → Prop) → Prop
/-- what is wanted behind a statement -/
structure Ends where
  nx : St → Hp → Prop
  rt : VK
  bk : St → Hp → Prop := fun _ _ => False
  ct : St → Hp → Prop := fun _ _ => False
abbrev TS := Ends → St → Hp → Prop

def EP (X : Cx) (pins : List (Addr × Obj)) (σ : St) (Q : VK) (u : Value) (s' : Shared) : Prop := ∃ v H', Inv X pins σ H' s' ∧ RelV v u ∧ Q v H'
def TP (X : Cx) (pins : List (Addr × Obj)) (σ : St) (Q : Bool → Hp → Prop) (b : Bool) (s' : Shared) : Prop := ∃ H', Inv X pins σ H' s' ∧ Q b H'
def AP (X : Cx) (pins : List (Addr × Obj)) (σ : St) (Q : List V → Hp → Prop) (us : List Value) (s' : Shared) : Prop := ∃ vs H', Inv X pins σ H' s' ∧ Vals vs us ∧ Q vs H'
def SP (X : Cx) (pins : List (Addr × Obj)) (D : Ends) (f : Flow) (s' : Shared) : Prop :=
  match f with
  | .next => ∃ σ' H', Inv X pins σ' H' s' ∧ D.nx σ' H'
  | .brk => ∃ σ' H', Inv X pins σ' H' s' ∧ D.bk σ' H'
  | .cont => ∃ σ' H', Inv X pins σ' H' s' ∧ D.ct σ' H'
  | .ret u => ∃ v σ' H', Inv X pins σ' H' s' ∧ RelV v u ∧ D.rt v H'

def PE (X : Cx) (e : Expr) (t : TE) : Prop :=
  ∀ (pins : List (Addr × Obj)) (s : Shared) (σ : St) (H : Hp) (Q : VK), Inv X pins σ H s → t σ H Q → wpAny (model X.prog X.w) X.A (eval e X.env) (EP X pins σ Q) X.xe s
def PT (X : Cx) (e : Expr) (t : TT) : Prop :=
  ∀ (pins : List (Addr × Obj)) (s : Shared) (σ : St) (H : Hp) (Q : Bool → Hp → Prop), Inv X pins σ H s → t σ H Q → wpAny (model X.prog X.w) X.A (isTrue e X.env (eval e X.env)) (TP X pins σ Q) X.xe s
/-- a test whatever its 'whole' is (and, or) -/
def PW (X : Cx) (e : Expr) (t : TT) : Prop :=
  ∀ (whole : Sem Value) (pins : List (Addr × Obj)) (s : Shared) (σ : St) (H : Hp) (Q : Bool → Hp → Prop), Inv X pins σ H s → t σ H Q → wpAny (model X.prog X.w) X.A (isTrue e X.env whole) (TP X pins σ Q) X.xe s
theorem PW.pt {X : Cx} {e : Expr} {t : TT} (h : PW X e t) : PT X e t := h _
/-- an argument list (no star), from the left -/
def PA (X : Cx) (es : List Expr) (t : TA) : Prop :=
  ∀ (pos : Pos) (pins : List (Addr × Obj)) (s : Shared) (σ : St) (H : Hp) (Q : List V → Hp → Prop), Inv X pins σ H s → t σ H Q → wpAny (model X.prog X.w) X.A (spliced (backTo pos (starEach es X.env))) (AP X pins σ Q) X.xe s
def PS (X : Cx) (st : Stmt) (t : TS) : Prop :=
  ∀ (pins : List (Addr × Obj)) (s : Shared) (σ : St) (H : Hp) (D : Ends), Inv X pins σ H s → t D σ H → wpAny (model X.prog X.w) X.A (exec st X.env) (SP X pins D) X.xe s
def PSs (X : Cx) (st : List Stmt) (t : TS) : Prop :=
  ∀ (pins : List (Addr × Obj)) (s : Shared) (σ : St) (H : Hp) (D : Ends), Inv X pins σ H s → t D σ H → wpAny (model X.prog X.w) X.A (execs st X.env) (SP X pins D) X.xe s
/-- weaken the end -/
theorem thn {α : Type} {t : Sem α} {Q Q' : α → Shared → Prop} {M : Model} {A : Around} {E : Value → Shared → Prop} {s : Shared} (h : wpAny M A t Q E s) (hQ : ∀ a s, Q a s → Q' a s) : wpAny M A t Q' E s := wpAny_mono h hQ fun _ _ x => x
end L2

namespace L2
open PySem PySem.Spec PyProof.Rows
section
variable {X : Cx}

/-! ### names and constants -/
def tVar (i : Nat) : TE := fun σ H Q => ∃ v, σ[i]? = some (some v) ∧ Q v H
def tC (v : V) : TE := fun _ H Q => Q v H
theorem pe_var {i : Nat} {x : Str} {pos : Pos} (hN : X.N[i]? = some x) (hv : Vis X.env.scope x) (hd : (x == ("__debug__" : Str)) = false := by decide) (hcd : (x == ("__classdict__" : Str)) = false := by decide) : PE X (.Name x pos) (tVar i) := by
  intro pins s σ H Q I h
  obtain ⟨v, e, h⟩ := h
  obtain ⟨m, hn, hl⟩ := I.loc
  obtain ⟨u, r, l⟩ := hl i x v hN e hv
  have fin : EP X pins σ Q u s := ⟨v, H, I, r, h⟩
  rcases l with ⟨hk, hm⟩ | ⟨hk, c, hc, hcell⟩
  · exact wpAny_Name (wpAny_loadName_local I.ok.kind hk hn hm fin) hd
  · rcases hk with hk | hk
    · exact wpAny_Name (wpAny_loadName_cell I.ok.kind hk hc hcell fin) hd
    · exact wpAny_Name (wpAny_loadName_free I.ok.kind hk hc hcell fin hcd) hd
theorem pe_int {i j pos} : PE X (.Constant (.int i) j pos) (tC (.int i)) := fun _ _ _ H _ I h => wpAny_Constant_int ⟨.int i, H, I.tok _, ⟨_, rfl⟩, h⟩
theorem pe_bl {b j pos} : PE X (.Constant (.bool b) j pos) (tC (.bl b)) := fun _ _ _ H _ I h => Constant_bool ⟨.bl b, H, I, rfl, h⟩
theorem pe_non {j pos} : PE X (.Constant .none j pos) (tC .non) := fun _ _ _ H _ I h => Constant_none ⟨.non, H, I, rfl, h⟩
theorem pe_str {x j pos} : PE X (.Constant (.str x) j pos) (tC (.str x)) := fun _ _ _ H _ I h => Calls.Constant_str ⟨.str x, H, I.tok _, ⟨_, rfl⟩, h⟩

/-- a global name of the def -/
def Gl (X : Cx) (x : Str) : Prop := X.env.kindOf x = some .globalImplicit
theorem ld_glob {E : Value → Shared → Prop} {pins : List (Addr × Obj)} {s : Shared} {σ : St} {H : Hp} {x : Str} {u : Value} {pos : Pos} {Q : Value → Shared → Prop} (I : Inv X pins σ H s) (hg : Gl X x) (hm : X.mg x = some u) (h : Q u s)
    (hd : (x == ("__debug__" : Str)) = false := by decide) : wpAny (model X.prog X.w) X.A (eval (.Name x pos) X.env) Q E s :=
  Calls.Name_function_global I.ok.kind hg (Calls.loadGlobal_global (by rw [I.ok.glob]; exact I.mod.glob.keeps I.bk) hm h) hd
theorem ld_blt {E : Value → Shared → Prop} {pins : List (Addr × Obj)} {s : Shared} {σ : St} {H : Hp} {x : Str} {u : Value} {pos : Pos} {Q : Value → Shared → Prop} (I : Inv X pins σ H s) (hg : Gl X x) (hm : X.mg x = none) (hv : bootBuiltins x = some u) (h : Q u s)
    (hn : x ≠ "__name__" := by decide) (hd : (x == ("__debug__" : Str)) = false := by decide) : wpAny (model X.prog X.w) X.A (eval (.Name x pos) X.env) Q E s := by
  obtain ⟨mb, h1, h2⟩ := I.mod.blt
  exact Calls.Name_function_global I.ok.kind hg (Calls.loadGlobal_builtin (by rw [I.ok.glob]; exact I.mod.glob.keeps I.bk) hm (by rw [I.ok.blt]; exact h1.keeps I.bk) ((h2 x hn).trans hv) h) hd
/-- a module's constant, a class, a function, as a value -/
theorem pe_glob {x : Str} {v : V} {u : Value} {pos : Pos} (hg : Gl X x) (hm : X.mg x = some u) (r : RelV v u) (hd : (x == ("__debug__" : Str)) = false := by decide) : PE X (.Name x pos) (tC v) :=
  fun _ _ _ H _ I h => ld_glob I hg hm ⟨v, H, I, r, h⟩ hd
theorem pe_bltn {x : Str} {v : V} {u : Value} {pos : Pos} (hg : Gl X x) (hm : X.mg x = none) (hv : bootBuiltins x = some u) (r : RelV v u) (hn : x ≠ "__name__" := by decide) (hd : (x == ("__debug__" : Str)) = false := by decide) : PE X (.Name x pos) (tC v) :=
  fun _ _ _ H _ I h => ld_blt I hg hm hv ⟨v, H, I, r, h⟩ hn hd

/-! ### arithmetic -/
/-- two ints -/
def t2I (ta tb : TE) (k : Int → Int → Hp → Prop) : St → Hp → Prop := fun σ H => ta σ H fun x H1 => tb σ H1 fun y H2 => ∃ i j, x = .int i ∧ y = .int j ∧ k i j H2
def tAdd (ta tb : TE) : TE := fun σ H Q => t2I ta tb (fun i j H2 => Q (.int (i + j)) H2) σ H
def tSub (ta tb : TE) : TE := fun σ H Q => t2I ta tb (fun i j H2 => Q (.int (i - j)) H2) σ H
/-- the left factor below 2^64 -/
def tMul (ta tb : TE) : TE := fun σ H Q => t2I ta tb (fun i j H2 => (-(2 ^ 64) < i ∧ i < 2 ^ 64) ∧ Q (.int (i * j)) H2) σ H
variable {a b : Expr} {ta tb : TE} {pos : Pos}
/-! ### comparisons -/
def PC (X : Cx) (op : CmpOp) (a b : Expr) (t : TE) : Prop :=
  ∀ (pins : List (Addr × Obj)) (s : Shared) (σ : St) (H : Hp) (Q : VK), Inv X pins σ H s → t σ H Q →
    wpAny (model X.prog X.w) X.A (eval a X.env) (fun v s₁ => wpAny (model X.prog X.w) X.A (eval b X.env) (fun u s₂ => wpAny (model X.prog X.w) X.A (compareOp op v u) (EP X pins σ Q) X.xe s₂) X.xe s₁) X.xe s
def tCmp (p : Int → Int → Bool) (ta tb : TE) : TE := fun σ H Q => t2I ta tb (fun i j H2 => Q (.bl (p i j)) H2) σ H
abbrev tLt : TE → TE → TE := tCmp fun i j => decide (i < j)
abbrev tLe : TE → TE → TE := tCmp fun i j => decide (i ≤ j)
abbrev tGt : TE → TE → TE := tCmp fun i j => decide (j < i)
abbrev tGe : TE → TE → TE := tCmp fun i j => decide (j ≤ i)
abbrev tEqI : TE → TE → TE := tCmp fun i j => decide (i = j)
abbrev tNeI : TE → TE → TE := tCmp fun i j => !decide (i = j)
/-- is None -/
def tIsN (ta : TE) : TE := fun σ H Q => ta σ H fun x H1 => Q (.bl (decide (x = .non))) H1
def tNotN (ta : TE) : TE := fun σ H Q => ta σ H fun x H1 => Q (.bl (!decide (x = .non))) H1
/-- a comparison as a value, as a test -/
def tB (t : TE) : TT := fun σ H Q => t σ H fun x H1 => ∃ c, x = .bl c ∧ Q c H1
/-- an expression whose value is a bool, as a test -/
theorem pt_val {e : Expr} {t : TE} (h : PE X e t) (he : ∀ whole, isTrue e X.env whole = (do let v ← whole; standAt e.pos; holding [v] (truthy v)) := by intro _; rfl) : PT X e (tB t) := by
  intro pins s σ H Q I hw
  refine isTrue_plain (thn (h pins s σ H _ I hw) fun v s1 ⟨x, H1, I1, r1, q1⟩ => ?_) (he _)
  obtain ⟨d, rfl, q⟩ := q1
  cases r1
  exact wpAny_truthy_bool ⟨H1, I1, q⟩

/-! ### and, or, not -/
variable {tA tB' : TT} {rest : List Expr}
def tAnd (t u : TT) : TT := fun σ H Q => t σ H fun c H1 => if c = true then u σ H1 Q else Q false H1
def tOr (t u : TT) : TT := fun σ H Q => t σ H fun c H1 => if c = true then Q true H1 else u σ H1 Q
def tNot (t : TT) : TT := fun σ H Q => t σ H fun c H1 => Q (!c) H1
theorem pw_and1 (ha : PT X a tA) : PW X (.BoolOp .And [a] pos) tA := by
  intro wh pins s σ H Q I h
  refine isTrue_and (thn (ha pins s σ H Q I h) fun c s1 e => ?_)
  cases c with
  | true => exact isTrue_and_nil e
  | false => exact e
theorem pw_or1 (ha : PT X a tA) : PW X (.BoolOp .Or [a] pos) tA := by
  intro wh pins s σ H Q I h
  refine isTrue_or (thn (ha pins s σ H Q I h) fun c s1 e => ?_)
  cases c with
  | false => exact isTrue_or_nil e
  | true => exact e
theorem pw_and (ha : PT X a tA) (hb : PW X (.BoolOp .And (b :: rest) pos) tB') : PW X (.BoolOp .And (a :: b :: rest) pos) (tAnd tA tB') := by
  intro wh pins s σ H Q I h
  refine isTrue_and (thn (ha pins s σ H _ I h) fun c s1 ⟨H1, I1, q1⟩ => ?_)
  cases c with
  | true => exact hb wh pins s1 σ H1 Q I1 q1
  | false => exact ⟨H1, I1, q1⟩
theorem pw_or (ha : PT X a tA) (hb : PW X (.BoolOp .Or (b :: rest) pos) tB') : PW X (.BoolOp .Or (a :: b :: rest) pos) (tOr tA tB') := by
  intro wh pins s σ H Q I h
  refine isTrue_or (thn (ha pins s σ H _ I h) fun c s1 ⟨H1, I1, q1⟩ => ?_)
  cases c with
  | true => exact ⟨H1, I1, q1⟩
  | false => exact hb wh pins s1 σ H1 Q I1 q1
theorem pt_not (ha : PT X a tA) : PT X (.UnaryOp .Not a pos) (tNot tA) := by
  intro pins s σ H Q I h
  exact isTrue_not (ha pins s σ H (fun c H1 => Q (!c) H1) I h)
/-- .. as values (bools) -/
def tAndV (ta tb : TE) : TE := fun σ H Q => ta σ H fun x H1 => ∃ c, x = .bl c ∧ if c = true then tb σ H1 Q else Q (.bl false) H1
def tOrV (ta tb : TE) : TE := fun σ H Q => ta σ H fun x H1 => ∃ c, x = .bl c ∧ if c = true then Q (.bl true) H1 else tb σ H1 Q
def tNotV (ta : TE) : TE := fun σ H Q => ta σ H fun x H1 => ∃ c, x = .bl c ∧ Q (.bl (!c)) H1
theorem pe_one {op} {t : TE} (h : PE X a t) : PE X (.BoolOp op [a] pos) t := fun pins s σ H Q I hw => BoolOp_one (h pins s σ H Q I hw)
theorem pe_and (ha : PE X a ta) (hb : PE X (.BoolOp .And (b :: rest) pos) tb) : PE X (.BoolOp .And (a :: b :: rest) pos) (tAndV ta tb) := by
  intro pins s σ H Q I h
  refine BoolOp_and (thn (ha pins s σ H _ I h) fun v s1 ⟨x, H1, I1, r1, q1⟩ => ?_)
  obtain ⟨c, rfl, q1⟩ := q1
  cases r1
  refine wpAny_truthy_bool ?_
  cases c with
  | true => exact hb pins s1 σ H1 Q I1 q1
  | false => exact ⟨.bl false, H1, I1, rfl, q1⟩
theorem pe_or (ha : PE X a ta) (hb : PE X (.BoolOp .Or (b :: rest) pos) tb) : PE X (.BoolOp .Or (a :: b :: rest) pos) (tOrV ta tb) := by
  intro pins s σ H Q I h
  refine BoolOp_or (thn (ha pins s σ H _ I h) fun v s1 ⟨x, H1, I1, r1, q1⟩ => ?_)
  obtain ⟨c, rfl, q1⟩ := q1
  cases r1
  refine wpAny_truthy_bool ?_
  cases c with
  | false => exact hb pins s1 σ H1 Q I1 q1
  | true => exact ⟨.bl true, H1, I1, rfl, q1⟩
theorem pe_not (ha : PE X a ta) : PE X (.UnaryOp .Not a pos) (tNotV ta) := by
  intro pins s σ H Q I h
  refine UnaryOp_ (thn (ha pins s σ H _ I h) fun v s1 ⟨x, H1, I1, r1, q1⟩ => ?_)
  obtain ⟨c, rfl, q1⟩ := q1
  cases r1
  exact not_of (wpAny_truthy_bool ⟨.bl (!c), H1, I1, rfl, q1⟩)
/-- a if t else b -/
def tIf (t : TT) (ta tb : TE) : TE := fun σ H Q => t σ H fun c H1 => if c = true then ta σ H1 Q else tb σ H1 Q
theorem pe_ifExp {c : Expr} (hc : PT X c tA) (ha : PE X a ta) (hb : PE X b tb) : PE X (.IfExp c a b pos) (tIf tA ta tb) := by
  intro pins s σ H Q I h
  refine wpAny_IfExp (thn (hc pins s σ H _ I h) fun d s1 ⟨H1, I1, q1⟩ => ?_)
  cases d with
  | true => exact ha pins s1 σ H1 Q I1 q1
  | false => exact hb pins s1 σ H1 Q I1 q1
end
end L2

namespace L2
open PySem PySem.Spec PyProof.Rows

/-! ### a list, a tuple that is read: tracked, frozen, or an object of the module -/
def SqL (K : PySem.W.Frag) (H : Hp) (a : Addr) (xs : List V) : Prop :=
  Rd H a (.lst xs) ∨
    ∃ (o : Obj) (its : Array Value) (n : Nat), K.lookup a = some o ∧ o.cls = .type "list" ∧ o.dict = none ∧ o.data = .seq its n ∧ its.size ≤ sizeLine ∧ Vals xs its.toList
def SqT (K : PySem.W.Frag) (H : Hp) (a : Addr) (xs : List V) : Prop :=
  Rd H a (.tup xs) ∨
    ∃ (o : Obj) (its : Array Value) (n : Nat), K.lookup a = some o ∧ o.cls = .type "tuple" ∧ o.data = .seq its n ∧ its.size ≤ sizeLine ∧ Vals xs its.toList
def absV : Value → Option V
  | .none => some .non
  | .bool b => some (.bl b)
  | .int i _ => some (.int i)
  | .str x _ => some (.str x)
  | .bytes b _ => some (.byt b)
  | .float b _ => some (.flt b)
  | .ref a => some (.ref a)
  | .type n => some (.ty n)
  | _ => none
theorem RelV.abs {x : V} {u : Value} (r : RelV x u) : absV u = some x := by
  cases x with
  | non => cases r; rfl
  | bl _ => cases r; rfl
  | int _ => obtain ⟨t, rfl⟩ := r; rfl
  | str _ => obtain ⟨t, rfl⟩ := r; rfl
  | byt _ => obtain ⟨t, rfl⟩ := r; rfl
  | flt _ => obtain ⟨t, rfl⟩ := r; rfl
  | ref _ => cases r; rfl
  | ty _ => cases r; rfl
theorem RelV.inj {x y : V} {u : Value} (r : RelV x u) (q : RelV y u) : x = y := Option.some.inj (r.abs.symm.trans q.abs)
theorem Vals.inj : ∀ {xs ys : List V} {us : List Value}, Vals xs us → Vals ys us → xs = ys
  | _, _, _, .nil, .nil => rfl
  | _, _, _, .cons r t, .cons r' t' => by rw [r.inj r', Vals.inj t t']
section
variable {X : Cx} {pins : List (Addr × Obj)} {σ : St} {H : Hp} {s : Shared} {a : Addr} {xs ys : List V}
theorem SqL.of {K : PySem.W.Frag} (h : H a = some (.lst xs)) : SqL K H a xs := .inl (.inl h)
theorem SqT.of {K : PySem.W.Frag} (h : H a = some (.tup xs)) : SqT K H a xs := .inl (.inl h)
theorem Inv.list (I : Inv X pins σ H s) (h : SqL X.K H a xs) : ∃ its : List Value, Vals xs its ∧ PlainL s.heap a its.toArray ∧ xs.length ≤ sizeLine := by
  rcases h with h | ⟨o, its, n, hk, hc, hd, hs, hz, r⟩
  · obtain ⟨z, its, n, r, e⟩ := h.ok I.hok
    exact ⟨its, r, ⟨_, n, e, rfl, rfl, rfl⟩, z⟩
  · refine ⟨its.toList, r, ⟨o, n, I.kIn a o hk, hc, hd, by simpa using hs⟩, ?_⟩
    have e := r.length
    simp only [Array.length_toList] at e
    omega
theorem Inv.tuple (I : Inv X pins σ H s) (h : SqT X.K H a xs) : ∃ its : List Value, Vals xs its ∧ IsTup s.heap a its.toArray ∧ xs.length ≤ sizeLine := by
  rcases h with h | ⟨o, its, n, hk, hc, hs, hz, r⟩
  · obtain ⟨z, its, r, p⟩ := h.ok I.hok
    exact ⟨its, r, p, z⟩
  · refine ⟨its.toList, r, ⟨o, I.kIn a o hk, hc, n, by simpa using hs⟩, ?_⟩
    have e := r.length
    simp only [Array.length_toList] at e
    omega
theorem Inv.list_inj (I : Inv X pins σ H s) (h : SqL X.K H a xs) (h' : SqL X.K H a ys) : xs = ys := by
  obtain ⟨its, r, ⟨o, n, e, _, _, d⟩, _⟩ := I.list h
  obtain ⟨its', r', ⟨o', n', e', _, _, d'⟩, _⟩ := I.list h'
  rw [e] at e'; cases e'
  rw [d] at d'
  injection d' with d1 _
  have : its = its' := by simpa using congrArg Array.toList d1
  subst this
  exact r.inj r'
theorem Inv.tuple_inj (I : Inv X pins σ H s) (h : SqT X.K H a xs) (h' : SqT X.K H a ys) : xs = ys := by
  obtain ⟨its, r, ⟨o, e, _, n, d⟩, _⟩ := I.tuple h
  obtain ⟨its', r', ⟨o', e', _, n', d'⟩, _⟩ := I.tuple h'
  rw [e] at e'; cases e'
  rw [d] at d'
  injection d' with d1 _
  have : its = its' := by simpa using congrArg Array.toList d1
  subst this
  exact r.inj r'
end

/-! ### another wish about exceptions -/
abbrev Cx.wish (X : Cx) (E : Value → Shared → Prop) : Cx := { X with xe := E }
/-- no exception leaves -/
abbrev Cx.nox (X : Cx) : Cx := X.wish fun _ _ => False
theorem Cx.Ok.wish {X : Cx} (ok : X.Ok) (E : Value → Shared → Prop) : (X.wish E).Ok :=
  ⟨ok.mod, ok.kind, ok.glob, ok.blt, ok.above, ok.inj, ok.has, ok.cab, ok.hd, ok.frames, ok.stk, ok.exf, ok.bs, ok.bsz, ok.noex, ok.exfs, ok.funs, ok.frf⟩
theorem Cx.Ok.unwish {X : Cx} {E : Value → Shared → Prop} (ok : (X.wish E).Ok) : X.Ok :=
  ⟨ok.mod, ok.kind, ok.glob, ok.blt, ok.above, ok.inj, ok.has, ok.cab, ok.hd, ok.frames, ok.stk, ok.exf, ok.bs, ok.bsz, ok.noex, ok.exfs, ok.funs, ok.frf⟩
section
variable {X : Cx} {pins : List (Addr × Obj)} {σ : St} {H : Hp} {s : Shared} {E : Value → Shared → Prop}
theorem Inv.wish (I : Inv X pins σ H s) (E : Value → Shared → Prop) : Inv (X.wish E) pins σ H s := ⟨I.ok.wish E, I.os, I.bare, I.base, I.loc, I.cell, I.free, I.freeC, I.pin, I.hok, I.len⟩
theorem Inv.unwish (I : Inv (X.wish E) pins σ H s) : Inv X pins σ H s := ⟨I.ok.unwish, I.os, I.bare, I.base, I.loc, I.cell, I.free, I.freeC, I.pin, I.hok, I.len⟩
theorem SP.unwish {D : Ends} {f : Flow} {s' : Shared} (h : SP (X.wish E) pins D f s') : SP X pins D f s' := by
  cases f with
  | next => obtain ⟨σ', H', I, q⟩ := h; exact ⟨σ', H', I.unwish, q⟩
  | brk => obtain ⟨σ', H', I, q⟩ := h; exact ⟨σ', H', I.unwish, q⟩
  | cont => obtain ⟨σ', H', I, q⟩ := h; exact ⟨σ', H', I.unwish, q⟩
  | ret u => obtain ⟨v, σ', H', I, r, q⟩ := h; exact ⟨v, σ', H', I.unwish, r, q⟩
theorem PE.nox {e : Expr} {t : TE} (h : PE X.nox e t) : PE X e t := fun pins s σ H Q I hw =>
  wpAny_mono (h pins s σ H Q (I.wish _) hw) (fun _ _ ⟨v, H', I', r, q⟩ => ⟨v, H', I'.unwish, r, q⟩) fun _ _ z => False.elim z
theorem PT.nox {e : Expr} {t : TT} (h : PT X.nox e t) : PT X e t := fun pins s σ H Q I hw =>
  wpAny_mono (h pins s σ H Q (I.wish _) hw) (fun _ _ ⟨H', I', q⟩ => ⟨H', I'.unwish, q⟩) fun _ _ z => False.elim z
theorem PSs.nox {st : List Stmt} {t : TS} (h : PSs X.nox st t) : PSs X st t := fun pins s σ H D I hw =>
  wpAny_mono (h pins s σ H D (I.wish _) hw) (fun _ _ q => q.unwish) fun _ _ z => False.elim z
end

/-! ### blocks and small statements -/
section
variable {X : Cx} {st : Stmt} {rest : List Stmt} {t u : TS} {e : Expr} {te : TE} {pos : Pos}
def tNext : TS := fun D σ H => D.nx σ H
def tSeq (t u : TS) : TS := fun D σ H => t { D with nx := u D } σ H
theorem pss_nil : PSs X [] tNext := fun _ _ σ H _ I h => wpAny_execs_nil ⟨σ, H, I, h⟩
theorem pss_cons (h1 : PS X st t) (h2 : PSs X rest u) : PSs X (st :: rest) (tSeq t u) := by
  intro pins s σ H D I h
  refine wpAny_execs_cons (thn (h1 pins s σ H { D with nx := u D } I h) fun f s1 q => ?_)
  cases f with
  | next =>
    obtain ⟨σ', H', I', q⟩ := q
    exact h2 pins s1 σ' H' D I' q
  | ret v => exact q
  | brk => exact q
  | cont => exact q
theorem pss_one (h1 : PS X st t) : PSs X [st] t := by
  intro pins s σ H D I h
  refine wpAny_execs_cons (thn (h1 pins s σ H D I h) fun f s1 q => ?_)
  cases f with
  | next => exact wpAny_execs_nil q
  | ret v => exact q
  | brk => exact q
  | cont => exact q
def tBreak : TS := fun D σ H => D.bk σ H
def tCont : TS := fun D σ H => D.ct σ H
/-- in a def's body nothing is shown -/
theorem Inv.quiet {pins : List (Addr × Obj)} {σ : St} {H : Hp} {s : Shared} (I : Inv X pins σ H s) : interactive X.env = false := by simp [interactive, I.ok.kind]
/-- an expression whose value is dropped -/
def tDrop (te : TE) : TS := fun D σ H => te σ H fun _ H1 => D.nx σ H1
theorem ps_expr (he : PE X e te) (hs : swapsWith e none pos.line X.env = pure false := by rfl) : PS X (.Expr e pos) (tDrop te) := by
  intro pins s σ H D I h
  exact wpAny_Expr_any (thn (he pins s σ H _ I h) fun v s1 ⟨x, H1, I1, r1, q1⟩ => ⟨σ, H1, I1, q1⟩) I.quiet hs
def tRet (te : TE) : TS := fun D σ H => te σ H D.rt
theorem ps_ret (he : PE X e te) : PS X (.Return (some e) pos) (tRet te) := by
  intro pins s σ H D I h
  exact wpAny_Return_some (thn (he pins s σ H _ I h) fun v s1 ⟨x, H1, I1, r1, q1⟩ => ⟨x, σ, H1, I1, r1, q1⟩)
def tRetN : TS := fun D _ H => D.rt .non H
def tIfS (c : TT) (t u : TS) : TS := fun D σ H => c σ H fun b H1 => if b = true then t D σ H1 else u D σ H1
theorem ps_if {c : Expr} {a b : List Stmt} {tc : TT} (hc : PT X c tc) (ha : PSs X a t) (hb : PSs X b u) : PS X (.If c a b pos) (tIfS tc t u) := by
  intro pins s σ H D I h
  refine wpAny_If (thn (hc pins s σ H _ I h) fun d s1 ⟨H1, I1, q1⟩ => ?_)
  cases d with
  | true => exact ha pins s1 σ H1 D I1 q1
  | false => exact hb pins s1 σ H1 D I1 q1
/-- code that the proof never comes to -/
def tNever : TS := fun _ _ _ => False
end

/-! ### targets -/
abbrev TG := V → St → Hp → (St → Hp → Prop) → Prop
abbrev TGs := List V → St → Hp → (St → Hp → Prop) → Prop
def PG (X : Cx) (target : Expr) (t : TG) : Prop :=
  ∀ (pins : List (Addr × Obj)) (s : Shared) (σ : St) (H : Hp) (v : V) (u : Value) (Q : St → Hp → Prop), Inv X pins σ H s → RelV v u → t v σ H Q →
    wpAny (model X.prog X.w) X.A (assign target X.env u) (fun _ s' => ∃ σ' H', Inv X pins σ' H' s' ∧ Q σ' H') X.xe s
/-- several targets, one after another -/
def PGs (X : Cx) (ts : List Expr) (t : TGs) : Prop :=
  ∀ (pins : List (Addr × Obj)) (s : Shared) (σ : St) (H : Hp) (vs : List V) (us : List Value) (Q : St → Hp → Prop), Inv X pins σ H s → Vals vs us → t vs σ H Q →
    wpAny (model X.prog X.w) X.A (assignInOrder ((assignEach ts X.env).map (·.2)) us) (fun _ s' => ∃ σ' H', Inv X pins σ' H' s' ∧ Q σ' H') X.xe s
/-- o[i] = v, by values -/
abbrev TSet := V → V → V → Hp → (Hp → Prop) → Prop
def PSet (X : Cx) (t : TSet) : Prop :=
  ∀ (pins : List (Addr × Obj)) (s : Shared) (σ : St) (H : Hp) (o i v : V) (ov iv u : Value) (Q : Hp → Prop), Inv X pins σ H s → RelV o ov → RelV i iv → RelV v u → t o i v H Q →
    wpAny (model X.prog X.w) X.A (setItem ov iv u) (fun _ s' => ∃ H', Inv X pins σ H' s' ∧ Q H') X.xe s
/-- a op= b, by values -/
abbrev TIp := V → V → Hp → VK → Prop
def PIp (X : Cx) (op : Operator) (t : TIp) : Prop :=
  ∀ (pins : List (Addr × Obj)) (s : Shared) (σ : St) (H : Hp) (x y : V) (v u : Value) (Q : VK), Inv X pins σ H s → RelV x v → RelV y u → t x y H Q →
    wpAny (model X.prog X.w) X.A (inplaceOp op v u) (EP X pins σ Q) X.xe s
section
variable {X : Cx} {pos : Pos}
def gName (i : Nat) : TG := fun v σ H Q => Q (σ.set i (some v)) H
theorem pg_name {i : Nat} {x : Str} (hN : X.N.Nodup) (hi : X.N[i]? = some x) (hx : Loc X.env.scope x) (hf : X.fn x = true ∨ X.env.scope.names.lookup x = some .local := by first | exact .inl rfl | exact .inr rfl | assumption) : PG X (.Name x pos) (gName i) := by
  intro pins s σ H v u Q I r h
  exact wpAny_assign_Name (store_ok I hN hi hx r (fun s' I' => ⟨_, H, I', h⟩) hf)
def gNil : TGs := fun vs σ H Q => vs = [] ∧ Q σ H
def gCons (t : TG) (u : TGs) : TGs := fun vs σ H Q => ∃ v r, vs = v :: r ∧ t v σ H fun σ' H' => u r σ' H' Q
/-- (a, b, ..) = a tuple of that length -/
def gTup (K : PySem.W.Frag) (n : Nat) (t : TGs) : TG := fun v σ H Q => ∃ a xs, v = .ref a ∧ SqT K H a xs ∧ xs.length = n ∧ t xs σ H Q
/-- o[i] = .. -/
def gSub (to ti : TE) (t : TSet) : TG := fun v σ H Q => to σ H fun o H1 => ti σ H1 fun i H2 => t o i v H2 fun H3 => Q σ H3
/-- target = value -/
def tAsg (te : TE) (g : TG) : TS := fun D σ H => te σ H fun x H1 => g x σ H1 D.nx
/-- name = value -/
theorem ps_set {i : Nat} {x : Str} {e : Expr} {te : TE} {pos' : Pos} (hN : X.N.Nodup) (hi : X.N[i]? = some x) (hx : Loc X.env.scope x) (he : PE X e te) (hs : swapsWith e (some (.Name x pos')) pos.line X.env = pure false := by rfl) (hf : X.fn x = true ∨ X.env.scope.names.lookup x = some .local := by first | exact .inl rfl | exact .inr rfl | assumption) :
    PS X (.Assign [.Name x pos'] e pos) (tAsg te (gName i)) := by
  intro pins s σ H D I h
  refine wpAny_Assign_Name (thn (he pins s σ H _ I h) fun v s1 ⟨y, H1, I1, r1, q1⟩ => ?_) hs
  exact store_ok I1 hN hi hx r1 (fun s2 I2 => ⟨_, H1, I2, q1⟩) hf
/-- a, b = x, y with plain local names: stored from the right; the pair itself is not tracked (the opening rows as in PyProof/Rows/TupAssign.lean:23) -/
def tPar (i j : Nat) (ta : TA) : TS := fun D σ H => ta σ H fun vs H1 => ∃ v w, vs = [v, w] ∧ D.nx ((σ.set i (some v)).set j (some w)) H1
/-- name op= e -/
def tAug (i : Nat) (te : TE) (ti : TIp) : TS := fun D σ H => ∃ x, σ[i]? = some (some x) ∧ te σ H fun y H1 => ti x y H1 fun z H2 => D.nx (σ.set i (some z)) H2
/-- o[i] op= e -/
def tAugS (to ti te : TE) (tget : V → V → Hp → VK → Prop) (tip : TIp) (tset : TSet) : TS := fun D σ H => to σ H fun o H1 => ti σ H1 fun i H2 => tget o i H2 fun x H3 => te σ H3 fun y H4 => tip x y H4 fun z H5 => tset o i z H5 fun H6 => D.nx σ H6
/-- o[i], by values -/
def PGet (X : Cx) (t : V → V → Hp → VK → Prop) : Prop :=
  ∀ (pins : List (Addr × Obj)) (s : Shared) (σ : St) (H : Hp) (o i : V) (ov iv : Value) (Q : VK), Inv X pins σ H s → RelV o ov → RelV i iv → t o i H Q →
    wpAny (model X.prog X.w) X.A (getItem ov iv) (EP X pins σ Q) X.xe s
/-- ints -/
def ipI (f : Int → Int → Int) : TIp := fun x y H Q => ∃ i j, x = .int i ∧ y = .int j ∧ Q (.int (f i j)) H
end

/-! ### while -/
section
variable {X : Cx} {pos : Pos}
/-- the invariant W with its measure -/
def tWhile (c : TT) (tb : TS) : TS := fun D σ H => ∃ W : Nat → St → Hp → Prop, (∃ m, W m σ H) ∧ ∀ m σ H, W m σ H →
  c σ H fun b H1 => if b = true then ∃ N : St → Hp → Prop, (∀ σ' H', N σ' H' → ∃ m', m' < m ∧ W m' σ' H') ∧ tb { D with nx := N, ct := N, bk := D.nx } σ H1 else D.nx σ H1
end

/-! ### what a loop or a comprehension walks -/
/-- at turn i: it yields x (the heap may grow), or it stops -/
structure It where
  go : Nat → Hp → Prop
  yld : Nat → Hp → V → Hp → Prop
  stop : Nat → Hp → Prop
/-- the iterator's own objects may turn: they are not the frame's, not pinned, younger than the entry (or a comprehension's own) -/
def FpOk (X : Cx) (pins : List (Addr × Obj)) (H : Hp) (b : Addr) : Prop :=
  H b = none ∧ b ≠ X.env.locals ∧ b ∉ X.fs ∧ (b ∈ X.ex ∨ X.s₀.heap.objs.size ≤ b) ∧ (∀ x c, X.env.cells.lookup x = some c → c ≠ b) ∧ ∀ p ∈ X.pn ++ pins, p.1 ≠ b
theorem Inv.fpOk {X : Cx} {pins : List (Addr × Obj)} {σ : St} {H H' : Hp} {s : Shared} {b : Addr} (I : Inv X pins σ H s) (hb : s.heap.objs.size ≤ b) (hn : H' b = none) : FpOk X pins H' b := by
  refine ⟨hn, Nat.ne_of_gt (Nat.lt_of_lt_of_le I.lt hb), I.nofs hb, .inr (Nat.le_trans I.sz hb), fun x c e z => ?_, fun p hp z => ?_⟩
  · obtain ⟨v, q⟩ := I.cell x c e
    exact absurd (Nat.lt_of_lt_of_le q.lt (by rw [z]; exact hb)) (Nat.lt_irrefl _)
  · exact absurd (Nat.lt_of_lt_of_le (Heap.lt_size (I.pin p hp).1) (by rw [z]; exact hb)) (Nat.lt_irrefl _)
structure Turn (P : Program) (w : World) (K : PySem.W.Frag) (tg : Expr) (J : It) (fp : List Addr) (it : Addr) (tn : Nat → Heap → Prop) : Prop where
  mem : it ∈ fp
  obj : ∀ i h, tn i h → ∀ b ∈ fp, ∃ o, h.get? b = some o ∧ ∀ v, o.data ≠ .cell v
  keep : ∀ i h h', tn i h → (∀ b ∈ fp, ∀ o, h.get? b = some o → h'.get? b = some o) → tn i h'
  item : ∀ (X : Cx), X.prog = P → X.w = w → X.K = K → X.calm = true → ∀ (i : Nat) (pins : List (Addr × Obj)) (s : Shared) (σ : St) (H : Hp) (E : Value → Shared → Prop), Inv X pins σ H s → (∀ b ∈ fp, FpOk X pins H b) → tn i s.heap → J.go i H →
    wpAny (model P w) X.A (pyNext (.ref it)) (fun r s1 => ∃ u, r = some u ∧
      wpAny (model P w) X.A (letOwnedTupleGo tg (.ref it) u) (fun _ s2 => ∃ x H', Inv X pins σ H' s2 ∧ RelV x u ∧ J.yld i H x H' ∧ tn (i + 1) s2.heap ∧ ∀ b ∈ fp, H' b = none) E s1) E s
  done : ∀ (X : Cx), X.prog = P → X.w = w → X.K = K → X.calm = true → ∀ (i : Nat) (pins : List (Addr × Obj)) (s : Shared) (σ : St) (H : Hp) (E : Value → Shared → Prop), Inv X pins σ H s → (∀ b ∈ fp, FpOk X pins H b) → tn i s.heap → J.stop i H →
    wpAny (model P w) X.A (pyNext (.ref it)) (fun r s1 => r = none ∧ Inv X pins σ H s1) E s
  self : ∀ (A : Around) (i : Nat) (s : Shared) (Q : Value → Shared → Prop) (E : Value → Shared → Prop), tn i s.heap → Q (.ref it) s → wpAny (model P w) A (pyIter (.ref it)) Q E s
abbrev TI := St → Hp → (It → Hp → Prop) → Prop
/-- an iterator has come -/
def PIE (X : Cx) (pins : List (Addr × Obj)) (σ : St) (tg : Expr) (R : It → Hp → Prop) (itv : Value) (s2 : Shared) : Prop :=
  ∃ (it : Addr) (fp : List Addr) (tn : Nat → Heap → Prop) (J : It) (H' : Hp), itv = .ref it ∧ Inv X pins σ H' s2 ∧ Turn X.prog X.w X.K tg J fp it tn ∧ tn 0 s2.heap ∧ (∀ b ∈ fp, FpOk X pins H' b) ∧ R J H'
def PI (X : Cx) (tg iter : Expr) (wi : TI) : Prop :=
  ∀ (pins : List (Addr × Obj)) (s : Shared) (σ : St) (H : Hp) (R : It → Hp → Prop), Inv X pins σ H s → wi σ H R →
    wpAny (model X.prog X.w) X.A (eval iter X.env) (fun v s1 => wpAny (model X.prog X.w) X.A (pyIter v) (PIE X pins σ tg R) X.xe s1) X.xe s

/-- the step ahead of the store is nothing for an iterator that keeps no tuple -/
theorem go_of {M : Model} {A : Around} {E : Value → Shared → Prop} {s : Shared} {tg : Expr} {it : Addr} {u : Value} {o : Obj} {n : String} {vs : Array Value} {Q : Unit → Shared → Prop} (ho : s.heap.get? it = some o) (hc : o.cls = .type n) (hd : o.data = .fields vs)
    (hn : ["enumerate", "zip", "dict_itemiterator", "dict_reverseitemiterator", "odict_iterator", "itertools.zip_longest", "itertools.pairwise"].contains n = false) (hQ : Q () s) : wpAny M A (letOwnedTupleGo tg (.ref it) u) Q E s := by
  unfold letOwnedTupleGo
  cases tg <;> first
    | exact wpAny_pure hQ
    | (cases u <;> first
        | exact wpAny_pure hQ
        | (refine wpAny_bind (wpAny_load ho ?_)
           rw [hc, hd]
           show wpAny M A (if (["enumerate", "zip", "dict_itemiterator", "dict_reverseitemiterator", "odict_iterator", "itertools.zip_longest", "itertools.pairwise"].contains n && vs[0]? == some (rawInt _)) = true then _ else _) Q E s
           rw [if_neg (by intro h; rw [hn, Bool.false_and] at h; cases h)]
           exact wpAny_pure hQ))

/-- the list at a, as it stands at each turn (a loop may append to it) -/
def Itl (K : PySem.W.Frag) (a : Addr) : It :=
  ⟨fun i H => ∃ xs x, SqL K H a xs ∧ xs[i]? = some x, fun i H x H' => H' = H ∧ ∀ xs, SqL K H a xs → xs[i]? = some x, fun i H => ∃ xs, SqL K H a xs ∧ xs.length ≤ i⟩
def Itt (K : PySem.W.Frag) (a : Addr) : It :=
  ⟨fun i H => ∃ xs x, SqT K H a xs ∧ xs[i]? = some x, fun i H x H' => H' = H ∧ ∀ xs, SqT K H a xs → xs[i]? = some x, fun i H => ∃ xs, SqT K H a xs ∧ xs.length ≤ i⟩
/-- lo, lo + 1, .. (n of them) -/
def Itr (lo : Int) (n : Nat) : It := ⟨fun i _ => i < n, fun i H x H' => H' = H ∧ x = .int (lo + i), fun i _ => n ≤ i⟩
theorem turn_list {P : Program} {w : World} {K : PySem.W.Frag} {tg : Expr} (a it : Addr) : Turn P w K tg (Itl K a) [it] it (fun i h => h.IsListIter it a i) where
  mem := by simp
  obj := fun i h st b hb => by
    have e : b = it := by simpa using hb
    subst e
    obtain ⟨o, e, c, d⟩ := st
    exact ⟨o, e, fun v z => by rw [d] at z; cases z⟩
  keep := fun i h h' st k => st.at fun o e => k it (by simp) o e
  item := by
    intro X hP hw hK hc i pins s σ H E I hf st hg
    subst hP hw hK
    obtain ⟨xs, x, hq, hx⟩ := hg
    obtain ⟨its, rv, p, hz⟩ := I.list hq
    obtain ⟨u, hu, ru⟩ := rv.get hx
    obtain ⟨f0, f1, f2, f3, f4, f5⟩ := hf it (by simp)
    refine wpAny_pyNext_list_item st p.isList (x := u) (by simpa using hu) fun h' st' sb => ?_
    have I1 : Inv X pins σ H { s with heap := h' } := I.turned (t' := s.toks) (fun b o hb e => (sb.2 b hb).trans e) f0 f1 f3 f4 f5
    obtain ⟨o, e, c, d⟩ := id st'
    exact ⟨u, rfl, go_of (s := { s with heap := h' }) e c d (by decide) ⟨x, H, I1, ru, ⟨rfl, fun ys hy => by rw [I.list_inj hy hq]; exact hx⟩, st', fun b hb => (hf b hb).1⟩⟩
  done := by
    intro X hP hw hK hc i pins s σ H E I hf st hg
    subst hP hw hK
    obtain ⟨xs, hq, hx⟩ := hg
    obtain ⟨its, rv, p, hz⟩ := I.list hq
    obtain ⟨f0, f1, f2, f3, f4, f5⟩ := hf it (by simp)
    have hl := rv.length
    exact wpAny_pyNext_list_end (I.ok.hd hc) st p.isList (by simp; omega) fun h' eb => ⟨rfl, I.turned (t' := s.toks) (fun b o hb e => eb b o hb e) f0 f1 f3 f4 f5⟩
  self := fun _ _ _ _ _ st h => wpAny_pyIter_listiter st h
theorem turn_tuple {P : Program} {w : World} {K : PySem.W.Frag} {tg : Expr} (a it : Addr) : Turn P w K tg (Itt K a) [it] it (fun i h => h.IsTupleIter it a i) where
  mem := by simp
  obj := fun i h st b hb => by
    have e : b = it := by simpa using hb
    subst e
    obtain ⟨o, e, c, d⟩ := st
    exact ⟨o, e, fun v z => by rw [d] at z; cases z⟩
  keep := fun i h h' st k => st.at fun o e => k it (by simp) o e
  item := by
    intro X hP hw hK hc i pins s σ H E I hf st hg
    subst hP hw hK
    obtain ⟨xs, x, hq, hx⟩ := hg
    obtain ⟨its, rv, p, hz⟩ := I.tuple hq
    obtain ⟨u, hu, ru⟩ := rv.get hx
    obtain ⟨f0, f1, f2, f3, f4, f5⟩ := hf it (by simp)
    refine wpAny_pyNext_tuple_item st (show s.heap.IsTuple a its.toArray from p) (x := u) (by simpa using hu) fun h' st' sb => ?_
    have I1 : Inv X pins σ H { s with heap := h' } := I.turned (t' := s.toks) (fun b o hb e => (sb.2 b hb).trans e) f0 f1 f3 f4 f5
    obtain ⟨o, e, c, d⟩ := id st'
    exact ⟨u, rfl, go_of (s := { s with heap := h' }) e c d (by decide) ⟨x, H, I1, ru, ⟨rfl, fun ys hy => by rw [I.tuple_inj hy hq]; exact hx⟩, st', fun b hb => (hf b hb).1⟩⟩
  done := by
    intro X hP hw hK hc i pins s σ H E I hf st hg
    subst hP hw hK
    obtain ⟨xs, hq, hx⟩ := hg
    obtain ⟨its, rv, p, hz⟩ := I.tuple hq
    obtain ⟨f0, f1, f2, f3, f4, f5⟩ := hf it (by simp)
    have hl := rv.length
    exact wpAny_pyNext_tuple_end (I.ok.hd hc) st (show s.heap.IsTuple a its.toArray from p) (by simp; omega) fun h' eb => ⟨rfl, I.turned (t' := s.toks) (fun b o hb e => eb b o hb e) f0 f1 f3 f4 f5⟩
  self := fun _ _ _ _ _ st h => wpAny_pyIter_tupleiter st h
theorem turn_range {P : Program} {w : World} {K : PySem.W.Frag} {tg : Expr} (it : Addr) (lo : Int) (n : Nat) : Turn P w K tg (Itr lo n) [it] it (fun i h => IsRangeIter h it (lo + (i : Nat) * 1) ((n : Int) - (i : Nat)) 1) where
  mem := by simp
  obj := fun i h st b hb => by
    have e : b = it := by simpa using hb
    subst e
    exact ⟨_, st, fun v z => by
      have z' : Data.fields _ = Data.cell v := z
      cases z'⟩
  keep := fun i h h' st k => k it (by simp) _ st
  item := by
    intro X hP hw hK hc i pins s σ H E I hf st hg
    subst hP hw hK
    obtain ⟨f0, f1, f2, f3, f4, f5⟩ := hf it (by simp)
    have W := Walks.range (prog := X.prog) (w := X.w) (I.ok.hd hc) it lo 1 n
    refine W.item i s _ _ hg st fun v h' tk hv st' kk => ?_
    obtain ⟨t, rfl⟩ := hv
    have I1 : Inv X pins σ H { s with heap := h', toks := tk } := I.turned (fun b o hb e => kk b o (by simpa using hb) e) f0 f1 f3 f4 f5
    refine ⟨_, rfl, go_of (s := { s with heap := h', toks := tk }) (n := "range_iterator") st' rfl rfl (by decide) ⟨.int (lo + i), H, I1, ⟨t, ?_⟩, ⟨rfl, rfl⟩, st', fun b hb => (hf b hb).1⟩⟩
    rw [Int.mul_one]
  done := by
    intro X hP hw hK hc i pins s σ H E I hf st hg
    subst hP hw hK
    obtain ⟨f0, f1, f2, f3, f4, f5⟩ := hf it (by simp)
    exact wpAny_pyNext_range_end (I.ok.hd hc) st (by have : n ≤ i := hg; omega) fun h' eb => ⟨rfl, I.turned (t' := s.toks) (fun b o hb e => eb b o hb e) f0 f1 f3 f4 f5⟩
  self := fun _ _ _ _ _ st h => wpAny_pyIter_rangeiter st h
end L2

namespace L2
open PySem PySem.Spec PyProof.Rows
section
variable {X : Cx} {tg : Expr}
def iList (K : PySem.W.Frag) (tl : TE) : TI := fun σ H R => tl σ H fun x H1 => ∃ a, x = .ref a ∧ (∃ xs, SqL K H1 a xs) ∧ R (Itl K a) H1
def iTup (K : PySem.W.Frag) (tl : TE) : TI := fun σ H R => tl σ H fun x H1 => ∃ a, x = .ref a ∧ (∃ xs, SqT K H1 a xs) ∧ R (Itt K a) H1
theorem pi_list {l : Expr} {tl : TE} (hl : PE X l tl) : PI X tg l (iList X.K tl) := by
  intro pins s σ H R I h
  refine thn (hl pins s σ H _ I h) fun v s1 ⟨x, H1, I1, r1, q1⟩ => ?_
  obtain ⟨a, e, ⟨xs, hq⟩, q⟩ := q1
  subst e
  cases r1
  obtain ⟨its, rv, p, hz⟩ := I1.list hq
  refine wpAny_pyIter_list p.isList ?_
  refine ⟨s1.heap.objs.size, [s1.heap.objs.size], _, _, H1, rfl, I1.kept (t' := s1.toks) fun b o e => Heap.get?_push_of_some _ e, turn_list a _, ⟨_, Heap.get?_push_size _ rfl, rfl, rfl⟩, fun b hb => ?_, q⟩
  have e : b = s1.heap.objs.size := by simpa using hb
  subst e
  exact I1.fpOk (Nat.le_refl _) (I1.hok.fresh (Nat.le_refl _))
theorem pi_tup {l : Expr} {tl : TE} (hl : PE X l tl) : PI X tg l (iTup X.K tl) := by
  intro pins s σ H R I h
  refine thn (hl pins s σ H _ I h) fun v s1 ⟨x, H1, I1, r1, q1⟩ => ?_
  obtain ⟨a, e, ⟨xs, hq⟩, q⟩ := q1
  subst e
  cases r1
  obtain ⟨its, rv, p, hz⟩ := I1.tuple hq
  refine wpAny_pyIter_tuple (show s1.heap.IsTuple a its.toArray from p) ?_
  refine ⟨s1.heap.objs.size, [s1.heap.objs.size], _, _, H1, rfl, I1.kept (t' := s1.toks) fun b o e => Heap.get?_push_of_some _ e, turn_tuple a _, ⟨_, Heap.get?_push_size _ rfl, rfl, rfl⟩, fun b hb => ?_, q⟩
  have e : b = s1.heap.objs.size := by simpa using hb
  subst e
  exact I1.fpOk (Nat.le_refl _) (I1.hok.fresh (Nat.le_refl _))
/-- a range object just made, walked -/
theorem range_it {pins : List (Addr × Obj)} {σ : St} {H : Hp} {s : Shared} {R : It → Hp → Prop} {E : Value → Shared → Prop} {lo hi : Int} {t u v : Tok} {tk : Nat} (I : Inv X pins σ H s) (h1 : -(2 ^ 62) ≤ lo) (h2 : lo < 2 ^ 62) (h3 : -(2 ^ 62) ≤ hi) (h4 : hi < 2 ^ 62)
    (q : R (Itr lo (hi - lo).toNat) H) : wpAny (model X.prog X.w) X.A (pyIter (.ref s.heap.objs.size)) (PIE X pins σ tg R) E { s with heap := s.heap.push { cls := .type "range", data := .fields #[.int lo t, .int hi u, .int 1 v] }, toks := tk } := by
  refine wpAny_pyIter_range (IsRange.new ..) (small_one h1 h2 h3 h4) ?_
  have I1 : Inv X pins σ H { s with heap := s.heap.push { cls := .type "range", data := .fields #[.int lo t, .int hi u, .int 1 v] }, toks := tk } := I.kept fun b o e => Heap.get?_push_of_some _ e
  refine ⟨(s.heap.push { cls := .type "range", data := .fields #[.int lo t, .int hi u, .int 1 v] }).objs.size, [(s.heap.push { cls := .type "range", data := .fields #[.int lo t, .int hi u, .int 1 v] }).objs.size], _, _, H, rfl,
    I1.kept (t' := tk) fun b o e => Heap.get?_push_of_some _ e, turn_range _ lo (hi - lo).toNat, ?_, fun b hb => ?_, q⟩
  · have e1 : lo + ((0 : Nat) : Int) * 1 = lo := by simp
    have e2 : (((hi - lo).toNat : Nat) : Int) - ((0 : Nat) : Int) = Builtin.Range.rangeSize lo hi 1 := by rw [rangeSize_one]; split <;> omega
    show IsRangeIter _ _ (lo + ((0 : Nat) : Int) * 1) ((((hi - lo).toNat : Nat) : Int) - ((0 : Nat) : Int)) 1
    rw [e1, e2]
    exact Heap.get?_push_size _ rfl
  · have e : b = (s.heap.push { cls := .type "range", data := .fields #[.int lo t, .int hi u, .int 1 v] }).objs.size := by simpa using hb
    subst e
    exact I1.fpOk (Nat.le_refl _) (I1.hok.fresh (Nat.le_refl _))
def iRng1 (ta : TA) : TI := fun σ H R => ta σ H fun vs H1 => ∃ j : Int, vs = [.int j] ∧ -(2 ^ 62) ≤ j ∧ j < 2 ^ 62 ∧ R (Itr 0 j.toNat) H1
def iRng2 (ta : TA) : TI := fun σ H R => ta σ H fun vs H1 => ∃ i j : Int, vs = [.int i, .int j] ∧ (-(2 ^ 62) ≤ i ∧ i < 2 ^ 62 ∧ -(2 ^ 62) ≤ j ∧ j < 2 ^ 62) ∧ R (Itr i (j - i).toNat) H1
theorem pi_range1 {a : Expr} {ta : TA} {p pos : Pos} (hg : Gl X "range") (hm : X.mg "range" = none) (ha : PA X [a] ta) (hs : starEach [a] X.env = [(false, eval a X.env)] := by rfl) : PI X tg (.Call (.Name "range" p) [a] [] pos) (iRng1 ta) := by
  intro pins s σ H R I h
  refine Call_ (ld_blt I hg hm boot_range (PyProof.Rows.callWith_type1 (thn (ha pos pins s σ H _ I h) fun us s1 ⟨vs, H1, I1, r1, q1⟩ => ?_) hs rfl))
  obtain ⟨j, e, q1, q2, q⟩ := q1
  subst e
  cases r1 with
  | cons r rr =>
    cases rr
    obtain ⟨t, rfl⟩ := r
    exact call_range_1 (range_it I1 (by omega) (by omega) q1 q2 (by simpa using q))
/-! ### for -/
/-- W: the invariant by the turn and a measure; N: what the body is to reach -/
def tFor (wi : TI) (g : TG) (tb : TS) : TS := fun D σ H => wi σ H fun J H1 => ∃ W : Nat → Nat → St → Hp → Prop, (∃ m, W 0 m σ H1) ∧ ∀ i m σ H, W i m σ H →
  (J.stop i H ∧ D.nx σ H) ∨ (J.go i H ∧ ∃ N : St → Hp → Prop, (∀ σ' H', N σ' H' → ∃ m', m' < m ∧ W (i + 1) m' σ' H') ∧ ∀ x H', J.yld i H x H' → g x σ H' fun σ2 H2 => tb { D with nx := N, ct := N, bk := D.nx } σ2 H2)
/-- the records at fp as they stand -/
def pinsAt (fp : List Addr) (h : Heap) : List (Addr × Obj) := fp.filterMap fun b => (h.get? b).map fun o => (b, o)
theorem mem_pinsAt {fp : List Addr} {h : Heap} {b : Addr} {o : Obj} (hb : b ∈ fp) (e : h.get? b = some o) : (b, o) ∈ pinsAt fp h := List.mem_filterMap.mpr ⟨b, hb, by rw [e]; rfl⟩
theorem of_pinsAt {fp : List Addr} {h : Heap} {p : Addr × Obj} (hp : p ∈ pinsAt fp h) : p.1 ∈ fp ∧ h.get? p.1 = some p.2 := by
  obtain ⟨b, hb, e⟩ := List.mem_filterMap.mp hp
  cases q : h.get? b with
  | none => rw [q] at e; cases e
  | some o =>
    rw [q] at e
    have e' : (b, o) = p := Option.some.inj e
    subst e'
    exact ⟨hb, q⟩
theorem Inv.pinned {pins : List (Addr × Obj)} {σ : St} {H : Hp} {s : Shared} {fp : List Addr} (I : Inv X pins σ H s) (hf : ∀ b ∈ fp, FpOk X pins H b) (ho : ∀ b ∈ fp, ∃ o, s.heap.get? b = some o ∧ ∀ v, o.data ≠ .cell v) : Inv X (pins ++ pinsAt fp s.heap) σ H s :=
  I.pins_of fun p hp => (List.mem_append.mp hp).elim (fun z => I.pin p (List.mem_append_right _ z)) fun z => by
    obtain ⟨hb, e⟩ := of_pinsAt z
    obtain ⟨f0, f1, f2, _⟩ := hf p.1 hb
    obtain ⟨o, e', d⟩ := ho p.1 hb
    rw [e] at e'; cases e'
    exact ⟨e, f0, f1, f2, d⟩
theorem Inv.unpinned {pins pl : List (Addr × Obj)} {σ : St} {H : Hp} {s : Shared} (I : Inv X (pins ++ pl) σ H s) : Inv X pins σ H s := I.pins_of fun p hp => I.pin p (List.mem_append_right _ (List.mem_append_left _ hp))
theorem ps_for {iter : Expr} {body : List Stmt} {wi : TI} {g : TG} {tb : TS} {pos : Pos} (hp : PassesOwn (model X.prog X.w) X.A X.env X.xe) (hc : X.calm = true) (hi : PI X tg iter wi) (hg : PG X tg g) (hb : PSs X body tb)
    (hs : ∀ x, foldedSetIterable iter X.env x = pure x := by intro _; rfl) : PS X (.For tg iter body [] pos) (tFor wi g tb) := by
  intro pins s σ H D I h
  refine wpAny_For (thn (hi pins s σ H _ I h) fun v s1 h1 => thn h1 fun itv s2 h2 => ?_) hs
  obtain ⟨it, fp, tn, J, H2, e, I2, T, st2, f2, W, ⟨m0, w0⟩, turn⟩ := h2
  subst e
  -- what stays true of the iterator's objects through the loop
  have stat : ∀ {H' : Hp}, (∀ b ∈ fp, H' b = none) → ∀ b ∈ fp, FpOk X pins H' b := fun hn b hb => ⟨hn b hb, (f2 b hb).2⟩
  refine codeAny_forLoop_any (fun n s' => ∃ i σ' H', Inv X pins σ' H' s' ∧ tn i s'.heap ∧ (∀ b ∈ fp, H' b = none) ∧ W i n σ' H') ?_ m0 ⟨0, σ, H2, I2, st2, fun b hb => (f2 b hb).1, w0⟩
  rintro n s3 ⟨i, σ3, H3, I3, st3, fr3, w3⟩
  rcases turn i n σ3 H3 w3 with ⟨stop, qn⟩ | ⟨go, N, hN, step⟩
  · refine wpAny_passesOwn hp (thn (T.done X rfl rfl rfl hc i pins s3 σ3 H3 X.xe I3 (stat fr3) st3 stop) fun r s4 ⟨hr, I4⟩ => ?_)
    subst hr
    exact wpAny_execs_nil ⟨σ3, H3, I4, qn⟩
  · refine wpAny_passesOwn hp (thn (T.item X rfl rfl rfl hc i pins s3 σ3 H3 X.xe I3 (stat fr3) st3 go) fun r s4 ⟨u, hr, h4⟩ => ?_)
    subst hr
    refine wpAny_passesOwn hp (thn h4 fun _ s5 ⟨x, H5, I5, r5, y5, st5, fr5⟩ => ?_)
    have I5' := I5.pinned (stat fr5) (T.obj _ _ st5)
    refine wpAny_passesOwn hp (thn (hg _ s5 σ3 H5 x u _ I5' r5 (step x H5 y5)) fun _ s6 ⟨σ6, H6, I6, q6⟩ => ?_)
    refine wpAny_passesOwn hp (thn (hb _ s6 σ6 H6 _ I6 q6) fun f s7 q7 => ?_)
    have again : ∀ {σ7 : St} {H7 : Hp}, Inv X (pins ++ pinsAt fp s5.heap) σ7 H7 s7 → N σ7 H7 → ∃ m, m < n ∧ ∃ i σ' H', Inv X pins σ' H' s7 ∧ tn i s7.heap ∧ (∀ b ∈ fp, H' b = none) ∧ W i m σ' H' := fun {σ7 H7} I7 n7 => by
      obtain ⟨m', hm, w7⟩ := hN σ7 H7 n7
      refine ⟨m', hm, i + 1, σ7, H7, I7.unpinned, T.keep _ _ _ st5 fun b hb o e => (I7.pin (b, o) (List.mem_append_right _ (List.mem_append_right _ (mem_pinsAt hb e)))).1, fun b hb => ?_, w7⟩
      obtain ⟨o, e, d⟩ := T.obj _ _ st5 b hb
      exact (I7.pin (b, o) (List.mem_append_right _ (List.mem_append_right _ (mem_pinsAt hb e)))).2.1
    cases f with
    | next => obtain ⟨σ7, H7, I7, n7⟩ := q7; exact again I7 n7
    | cont => obtain ⟨σ7, H7, I7, n7⟩ := q7; exact again I7 n7
    | brk => obtain ⟨σ7, H7, I7, q7⟩ := q7; exact ⟨σ7, H7, I7.unpinned, q7⟩
    | ret v => obtain ⟨x7, σ7, H7, I7, r7, q7⟩ := q7; exact ⟨x7, σ7, H7, I7.unpinned, r7, q7⟩
end

/-! ### the forms one uses -/
end L2

namespace L2
open PySem PySem.Spec PyProof.Rows

abbrev R2 := V → V → Hp → VK → Prop
/-- a two-place operation on values: f is binaryOp op, inplaceOp op or compareOp op -/
def OpR (X : Cx) (f : Value → Value → Sem Value) (r : R2) : Prop :=
  ∀ (pins : List (Addr × Obj)) (s : Shared) (σ : St) (H : Hp) (x y : V) (v u : Value) (Q : VK), Inv X pins σ H s → RelV x v → RelV y u → r x y H Q →
    wpAny (model X.prog X.w) X.A (f v u) (EP X pins σ Q) X.xe s
/-- a one-place operation -/
def UnR (X : Cx) (f : Value → Sem Value) (r : V → Hp → VK → Prop) : Prop :=
  ∀ (pins : List (Addr × Obj)) (s : Shared) (σ : St) (H : Hp) (x : V) (v : Value) (Q : VK), Inv X pins σ H s → RelV x v → r x H Q →
    wpAny (model X.prog X.w) X.A (f v) (EP X pins σ Q) X.xe s
/-- a call of a value that is known (a builtin, a type) with values -/
def CallR (X : Cx) (f : Value) (r : List V → Hp → VK → Prop) : Prop :=
  ∀ (pins : List (Addr × Obj)) (s : Shared) (σ : St) (H : Hp) (xs : List V) (us : List Value) (Q : VK), Inv X pins σ H s → Vals xs us → r xs H Q →
    wpAny (model X.prog X.w) X.A (call f us) (EP X pins σ Q) X.xe s
/-- a value's truth -/
def TruR (X : Cx) (r : V → Hp → (Bool → Hp → Prop) → Prop) : Prop :=
  ∀ (pins : List (Addr × Obj)) (s : Shared) (σ : St) (H : Hp) (x : V) (v : Value) (Q : Bool → Hp → Prop), Inv X pins σ H s → RelV x v → r x H Q →
    wpAny (model X.prog X.w) X.A (truthy v) (TP X pins σ Q) X.xe s

def tOp (r : R2) (ta tb : TE) : TE := fun σ H Q => ta σ H fun x H1 => tb σ H1 fun y H2 => r x y H2 Q
def tUn (r : V → Hp → VK → Prop) (ta : TE) : TE := fun σ H Q => ta σ H fun x H1 => r x H1 Q
/-- ints in, under C, and a value out -/
def rI (C : Int → Int → Prop) (g : Int → Int → V) : R2 := fun x y H Q => ∃ i j, x = .int i ∧ y = .int j ∧ C i j ∧ Q (g i j) H
def rI0 (g : Int → Int → V) : R2 := fun x y H Q => ∃ i j, x = .int i ∧ y = .int j ∧ Q (g i j) H
def rU (g : Int → V) : V → Hp → VK → Prop := fun x H Q => ∃ i, x = .int i ∧ Q (g i) H

section
variable {X : Cx} {a b c : Expr} {ta tb tc : TE} {pos : Pos}

theorem binT (ha : PE X a ta) (hb : PE X b tb) {pins : List (Addr × Obj)} {s : Shared} {σ : St} {H : Hp} {R : V → V → Hp → Prop} (I : Inv X pins σ H s)
    (h : ta σ H fun x H1 => tb σ H1 fun y H2 => R x y H2) {Q : Value → Shared → Prop} {f : Value → Value → Sem Value}
    (hf : ∀ v u s2 x y H2, Inv X pins σ H2 s2 → RelV x v → RelV y u → R x y H2 → wpAny (model X.prog X.w) X.A (f v u) Q X.xe s2) :
    wpAny (model X.prog X.w) X.A (eval a X.env) (fun v s₁ => wpAny (model X.prog X.w) X.A (eval b X.env) (fun u s₂ => wpAny (model X.prog X.w) X.A (f v u) Q X.xe s₂) X.xe s₁) X.xe s := by
  refine thn (ha pins s σ H _ I h) fun v s1 ⟨x, H1, I1, r1, q1⟩ => ?_
  refine thn (hb pins s1 σ H1 _ I1 q1) fun u s2 ⟨y, H2, I2, r2, q2⟩ => ?_
  exact hf v u s2 x y H2 I2 r1 r2 q2

theorem pe_op {op : Operator} {r : R2} (ho : OpR X (binaryOp op) r) (ha : PE X a ta) (hb : PE X b tb) : PE X (.BinOp a op b pos) (tOp r ta tb) := by
  intro pins s σ H Q I h
  exact wpAny_BinOp (binT ha hb I h fun v u s2 x y H2 I2 rx ry q => ho pins s2 σ H2 x y v u Q I2 rx ry q)
theorem pe_un {op : UnaryOp} {r : V → Hp → VK → Prop} (ho : UnR X (unaryOp op) r) (ha : PE X a ta) : PE X (.UnaryOp op a pos) (tUn r ta) := by
  intro pins s σ H Q I h
  exact UnaryOp_ (thn (ha pins s σ H _ I h) fun v s1 ⟨x, H1, I1, r1, q1⟩ => ho pins s1 σ H1 x v Q I1 r1 q1)
/-! ### ints -/
theorem opI {f : Value → Value → Sem Value} {C : Int → Int → Prop} {g : Int → Int → Int}
    (rule : ∀ (i j : Int) (t u : Tok) (s : Shared) (Q : Value → Shared → Prop) (E : Value → Shared → Prop), C i j → Q (.int (g i j) s.toks) { s with toks := s.toks + 1 } → wpAny (model X.prog X.w) X.A (f (.int i t) (.int j u)) Q E s) :
    OpR X f (rI C fun i j => .int (g i j)) := by
  intro pins s σ H x y v u Q I rx ry h
  obtain ⟨i, j, rfl, rfl, hc, q⟩ := h
  obtain ⟨t, rfl⟩ := rx
  obtain ⟨t', rfl⟩ := ry
  exact rule i j t t' s _ _ hc ⟨.int (g i j), H, I.tok _, ⟨_, rfl⟩, q⟩
theorem opI0 {f : Value → Value → Sem Value} {g : Int → Int → Int}
    (rule : ∀ (i j : Int) (t u : Tok) (s : Shared) (Q : Value → Shared → Prop) (E : Value → Shared → Prop), Q (.int (g i j) s.toks) { s with toks := s.toks + 1 } → wpAny (model X.prog X.w) X.A (f (.int i t) (.int j u)) Q E s) :
    OpR X f (rI0 fun i j => .int (g i j)) := by
  intro pins s σ H x y v u Q I rx ry h
  obtain ⟨i, j, rfl, rfl, q⟩ := h
  obtain ⟨t, rfl⟩ := rx
  obtain ⟨t', rfl⟩ := ry
  exact rule i j t t' s _ _ ⟨.int (g i j), H, I.tok _, ⟨_, rfl⟩, q⟩
theorem opB0 {f : Value → Value → Sem Value} {g : Int → Int → Bool}
    (rule : ∀ (i j : Int) (t u : Tok) (s : Shared) (Q : Value → Shared → Prop) (E : Value → Shared → Prop), Q (.bool (g i j)) s → wpAny (model X.prog X.w) X.A (f (.int i t) (.int j u)) Q E s) :
    OpR X f (rI0 fun i j => .bl (g i j)) := by
  intro pins s σ H x y v u Q I rx ry h
  obtain ⟨i, j, rfl, rfl, q⟩ := h
  obtain ⟨t, rfl⟩ := rx
  obtain ⟨t', rfl⟩ := ry
  exact rule i j t t' s _ _ ⟨.bl (g i j), H, I, rfl, q⟩

def CDiv (i j : Int) : Prop := 0 < j ∧ j < 1073741824
def CDivN (i j : Int) : Prop := j ≠ 0 ∧ j.natAbs < 1073741824
def CPow (i j : Int) : Prop := 0 ≤ j ∧ j ≤ 1000000 ∧ i.natAbs < 2 ^ 64
def CMul (i j : Int) : Prop := (-(2 ^ 64) < i ∧ i < 2 ^ 64) ∨ (-(2 ^ 64) < j ∧ j < 2 ^ 64)
theorem CMul.ok {i j : Int} (h : CMul i j) : IntMulOk i j := by
  rcases h with ⟨h1, h2⟩ | ⟨h1, h2⟩
  · exact .of_left (intBits_le_64 h1 h2)
  · exact .of_right (intBits_le_64 h1 h2)
theorem op_add : OpR X (binaryOp .Add) (rI0 fun i j => .int (i + j)) := opI0 fun _ _ _ _ _ _ _ q => add_int q
theorem op_sub : OpR X (binaryOp .Sub) (rI0 fun i j => .int (i - j)) := opI0 fun _ _ _ _ _ _ _ q => sub_int q
theorem op_mul : OpR X (binaryOp .Mult) (rI CMul fun i j => .int (i * j)) := opI fun _ _ _ _ _ _ _ hc q => mul_int q hc.ok
/-- // by a positive divisor -/
theorem op_fdiv : OpR X (binaryOp .FloorDiv) (rI CDiv fun i j => .int (i / j)) := opI fun i j _ _ _ _ _ hc q => by
  have h1 : (0 : Int) < j := hc.1
  have h2 : j < 1073741824 := hc.2
  exact floordiv_int (by omega) (by rw [Int.fdiv_eq_ediv_of_nonneg i (by omega)]; exact q) (.inl (PyProof.noPylong_small (by omega)))
/-- % by a positive divisor of any size -/
theorem op_mod : OpR X (binaryOp .Mod) (rI (fun _ j => 0 < j) fun i j => .int (i % j)) := opI fun i j _ _ _ _ _ hc q => by
  have h1 : (0 : Int) < j := hc
  exact mod_int' (by omega) (by rw [Int.fmod_eq_emod_of_nonneg i (by omega)]; exact q)
theorem op_pow : OpR X (binaryOp .Pow) (rI CPow fun i j => .int (i ^ j.toNat)) := opI fun _ _ _ _ _ _ _ hc q => pow_int_small hc.1 hc.2.1 hc.2.2 q
theorem unI {f : Value → Sem Value} {g : Int → Int}
    (rule : ∀ (i : Int) (t : Tok) (s : Shared) (Q : Value → Shared → Prop) (E : Value → Shared → Prop), Q (.int (g i) s.toks) { s with toks := s.toks + 1 } → wpAny (model X.prog X.w) X.A (f (.int i t)) Q E s) :
    UnR X f (rU fun i => .int (g i)) := by
  intro pins s σ H x v Q I rx h
  obtain ⟨i, rfl, q⟩ := h
  obtain ⟨t, rfl⟩ := rx
  exact rule i t s _ _ ⟨.int (g i), H, I.tok _, ⟨_, rfl⟩, q⟩
theorem un_neg : UnR X (unaryOp .USub) (rU fun i => .int (-i)) := unI fun _ _ _ _ _ q => neg_int q
/-! ### bools among ints: n += (a < b) -/
end

/-! ### comparisons -/
/-- the scalars that == tells apart as data does -/
def scal : V → V → Bool
  | .non, .non => true | .non, .int _ => true | .int _, .non => true | .non, .bl _ => true | .bl _, .non => true | .non, .str _ => true | .str _, .non => true
  | .int _, .int _ => true | .bl _, .bl _ => true | .str _, .str _ => true | .byt _, .byt _ => true
  | .int _, .str _ => true | .str _, .int _ => true | .bl _, .str _ => true | .str _, .bl _ => true
  | _, _ => false
def rEq : R2 := fun x y H Q => scal x y = true ∧ Q (.bl (decide (x = y))) H
def rNe : R2 := fun x y H Q => scal x y = true ∧ Q (.bl (!decide (x = y))) H

theorem dec_int {i j : Int} : decide (V.int i = V.int j) = (i == j) := by
  rw [Bool.eq_iff_iff]
  simp
theorem dec_bl {i j : Bool} : decide (V.bl i = V.bl j) = (i == j) := by
  rw [Bool.eq_iff_iff]
  simp
theorem dec_str {i j : Str} : decide (V.str i = V.str j) = (i == j) := by
  rw [Bool.eq_iff_iff]
  simp
theorem dec_byt {i j : Array UInt8} : decide (V.byt i = V.byt j) = (i.toList == j.toList) := by
  rw [Bool.eq_iff_iff]
  cases i
  cases j
  simp

section
variable {X : Cx} {a b c : Expr} {ta tb tc : TE} {pos : Pos}
theorem fin_bl {pins : List (Addr × Obj)} {σ : St} {H : Hp} {s : Shared} {Q : VK} {k k' : Bool} (I : Inv X pins σ H s) (q : Q (.bl k) H) (e : k = k') : EP X pins σ Q (.bool k') s := by
  subst e
  exact ⟨.bl k, H, I, rfl, q⟩
theorem op_eq : OpR X (compareOp .Eq) rEq := by
  intro pins s σ H x y v u Q I rx ry h
  obtain ⟨hs, q⟩ := h
  cases x with
  | non =>
    cases rx
    cases y with
    | non => cases ry; exact PySem.EqNone.eq_none_none (fin_bl I q (by simp))
    | bl j => cases ry; exact PySem.EqNone.eq_none_bool (fin_bl I q (by simp))
    | int j => obtain ⟨t', rfl⟩ := ry; exact PySem.EqNone.eq_none_int (fin_bl I q (by simp))
    | str j => obtain ⟨t', rfl⟩ := ry; exact PySem.EqNone.eq_none_str (fin_bl I q (by simp))
    | _ => exact absurd (show false = true from hs) Bool.false_ne_true
  | bl i =>
    cases rx
    cases y with
    | non => cases ry; exact PySem.EqNone.eq_bool_none (fin_bl I q (by simp))
    | bl j => cases ry; exact eq_bool (fin_bl I q dec_bl)
    | str j => obtain ⟨t', rfl⟩ := ry; exact PySem.EqMixed.eq_bool_str (fin_bl I q (by simp))
    | _ => exact absurd (show false = true from hs) Bool.false_ne_true
  | int i =>
    obtain ⟨t, rfl⟩ := rx
    cases y with
    | non => cases ry; exact PySem.EqNone.eq_int_none (fin_bl I q (by simp))
    | int j => obtain ⟨t', rfl⟩ := ry; exact eq_int (fin_bl I q dec_int)
    | str j => obtain ⟨t', rfl⟩ := ry; exact PySem.EqMixed.eq_int_str (fin_bl I q (by simp))
    | _ => exact absurd (show false = true from hs) Bool.false_ne_true
  | str i =>
    obtain ⟨t, rfl⟩ := rx
    cases y with
    | non => cases ry; exact PySem.EqNone.eq_str_none (fin_bl I q (by simp))
    | bl j => cases ry; exact PySem.EqMixed.eq_str_bool (fin_bl I q (by simp))
    | int j => obtain ⟨t', rfl⟩ := ry; exact PySem.EqMixed.eq_str_int (fin_bl I q (by simp))
    | str j => obtain ⟨t', rfl⟩ := ry; exact eq_str (fin_bl I q dec_str)
    | _ => exact absurd (show false = true from hs) Bool.false_ne_true
  | byt i =>
    obtain ⟨t, rfl⟩ := rx
    cases y with
    | byt j => obtain ⟨t', rfl⟩ := ry; exact PySem.W.eq_bytes (fin_bl I q dec_byt)
    | _ => exact absurd (show false = true from hs) Bool.false_ne_true
  | _ => cases y <;> exact absurd (show false = true from hs) Bool.false_ne_true
theorem op_ne : OpR X (compareOp .NotEq) rNe := by
  intro pins s σ H x y v u Q I rx ry h
  obtain ⟨hs, q⟩ := h
  cases x with
  | non =>
    cases rx
    cases y with
    | non => cases ry; exact PySem.EqNone.ne_none_none (fin_bl I q (by simp))
    | bl j => cases ry; exact PySem.EqNone.ne_none_bool (fin_bl I q (by simp))
    | int j => obtain ⟨t', rfl⟩ := ry; exact PySem.EqNone.ne_none_int (fin_bl I q (by simp))
    | str j => obtain ⟨t', rfl⟩ := ry; exact PySem.EqNone.ne_none_str (fin_bl I q (by simp))
    | _ => exact absurd (show false = true from hs) Bool.false_ne_true
  | bl i =>
    cases rx
    cases y with
    | non => cases ry; exact PySem.EqNone.ne_bool_none (fin_bl I q (by simp))
    | bl j => cases ry; exact ne_bool (fin_bl I q (congrArg not dec_bl))
    | str j => obtain ⟨t', rfl⟩ := ry; exact PySem.EqMixed.ne_bool_str (fin_bl I q (by simp))
    | _ => exact absurd (show false = true from hs) Bool.false_ne_true
  | int i =>
    obtain ⟨t, rfl⟩ := rx
    cases y with
    | non => cases ry; exact PySem.EqNone.ne_int_none (fin_bl I q (by simp))
    | int j => obtain ⟨t', rfl⟩ := ry; exact ne_int (fin_bl I q (congrArg not dec_int))
    | str j => obtain ⟨t', rfl⟩ := ry; exact PySem.EqMixed.ne_int_str (fin_bl I q (by simp))
    | _ => exact absurd (show false = true from hs) Bool.false_ne_true
  | str i =>
    obtain ⟨t, rfl⟩ := rx
    cases y with
    | non => cases ry; exact PySem.EqNone.ne_str_none (fin_bl I q (by simp))
    | bl j => cases ry; exact PySem.EqMixed.ne_str_bool (fin_bl I q (by simp))
    | int j => obtain ⟨t', rfl⟩ := ry; exact PySem.EqMixed.ne_str_int (fin_bl I q (by simp))
    | str j => obtain ⟨t', rfl⟩ := ry; exact ne_str (fin_bl I q (congrArg not dec_str))
    | _ => exact absurd (show false = true from hs) Bool.false_ne_true
  | byt i =>
    obtain ⟨t, rfl⟩ := rx
    cases y with
    | byt j => obtain ⟨t', rfl⟩ := ry; exact PySem.W.ne_bytes (fin_bl I q (congrArg not dec_byt))
    | _ => exact absurd (show false = true from hs) Bool.false_ne_true
  | _ => cases y <;> exact absurd (show false = true from hs) Bool.false_ne_true

theorem op_lt : OpR X (compareOp .Lt) (rI0 fun i j => .bl (decide (i < j))) := opB0 fun _ _ _ _ _ _ _ q => lt_int q
theorem op_gt : OpR X (compareOp .Gt) (rI0 fun i j => .bl (decide (j < i))) := opB0 fun _ _ _ _ _ _ _ q => gt_int q
theorem op_ge : OpR X (compareOp .GtE) (rI0 fun i j => .bl (decide (j ≤ i))) := opB0 fun _ _ _ _ _ _ _ q => ge_int q
/-- the one string within the other -/
theorem op_in_str : OpR X (compareOp .In) (fun x y H Q => ∃ i j, x = .str i ∧ y = .str j ∧ Q (.bl (!(Builtin.Str.occurrences j i 0 j.length 1).isEmpty)) H) := by
  intro pins s σ H x y v u Q I rx ry h
  obtain ⟨i, j, rfl, rfl, q⟩ := h
  obtain ⟨t, rfl⟩ := rx
  obtain ⟨t', rfl⟩ := ry
  exact in_str (fin_bl I q rfl)

/-- is None, is not None: the right side a value none -/
theorem op_isN : OpR X (compareOp .Is) (fun x y H Q => y = .non ∧ Q (.bl (decide (x = .non))) H) := by
  intro pins s σ H x y v u Q I rx ry h
  obtain ⟨rfl, q⟩ := h
  cases ry
  refine is_none_gen (fin_bl I q ?_)
  cases x <;> first
    | (cases rx; rfl)
    | (obtain ⟨t, rfl⟩ := rx; rfl)
/-- is, is not of two objects that are tracked lists or instances -/
def isObj : HO → Bool
  | .lst _ => true
  | .ins _ _ _ => true
  | _ => false
/-- two rules for one operation: by cases -/
theorem OpR.or {f : Value → Value → Sem Value} {r r' : R2} (h : OpR X f r) (h' : OpR X f r') : OpR X f (fun x y H Q => r x y H Q ∨ r' x y H Q) := by
  intro pins s σ H x y v u Q I rx ry q
  rcases q with q | q
  · exact h pins s σ H x y v u Q I rx ry q
  · exact h' pins s σ H x y v u Q I rx ry q

theorem nomark (b : Expr) {op : CmpOp} (h : op ≠ .In := by decide) (h2 : op ≠ .NotIn := by decide) : behindInMarks op b = false := by
  have e1 : (op == CmpOp.In) = false := by cases op <;> first | rfl | exact absurd rfl h
  have e2 : (op == CmpOp.NotIn) = false := by cases op <;> first | rfl | exact absurd rfl h2
  cases b <;> simp [behindInMarks, e1, e2]
/-- a comparison as a value; hm: nomark b, or (for in, not in) by with_unfolding_all rfl -/
theorem pe_cmpR {op : CmpOp} {r : R2} (ho : OpR X (compareOp op) r) (ha : PE X a ta) (hb : PE X b tb) (hm : behindInMarks op b = false) : PE X (.Compare a [op] [b] pos) (tOp r ta tb) := by
  intro pins s σ H Q I h
  exact wpAny_Compare1 (binT ha hb I h fun v u s2 x y H2 I2 rx ry q => ho pins s2 σ H2 x y v u Q I2 rx ry q) hm
/-- a reading of a value as a test -/
def tTest (t : TE) : TT := fun σ H Q => t σ H fun x H' => ∃ k, x = .bl k ∧ Q k H'
theorem pt_cmpR {op : CmpOp} {r : R2} (ho : OpR X (compareOp op) r) (ha : PE X a ta) (hb : PE X b tb) (hm : behindInMarks op b = false) : PT X (.Compare a [op] [b] pos) (tTest (tOp r ta tb)) := by
  intro pins s σ H Q I h
  refine wpAny_isTrue_Compare1 (thn (ha pins s σ H _ I h) fun v s1 ⟨x, H1, I1, r1, q1⟩ => thn (hb pins s1 σ H1 _ I1 q1) fun u s2 ⟨y, H2, I2, r2, q2⟩ =>
    thn (ho pins s2 σ H2 x y v u _ I2 r1 r2 q2) fun c s3 ⟨z, H3, I3, r3, k, e, q3⟩ => ?_) hm
  subst e
  cases r3
  exact wpAny_truthy_bool ⟨H3, I3, q3⟩
/-- a op1 b op2 c -/
def tChain (r r' : R2) (ta tb tc : TE) : TE := fun σ H Q => ta σ H fun x H1 => tb σ H1 fun y H2 => r x y H2 fun z H3 => ∃ k, z = .bl k ∧
  (if k = true then tc σ H3 fun w' H4 => r' y w' H4 Q else Q (.bl false) H3)
theorem pe_chain {op op' : CmpOp} {r r' : R2} (ho : OpR X (compareOp op) r) (ho' : OpR X (compareOp op') r') (ha : PE X a ta) (hb : PE X b tb) (hc : PE X c tc)
    (hm : lastMarks [op, op'] [b, c] = false := by with_unfolding_all rfl) : PE X (.Compare a [op, op'] [b, c] pos) (tChain r r' ta tb tc) := by
  intro pins s σ H Q I h
  refine Compare_chain (thn (ha pins s σ H _ I h) fun v s1 ⟨x, H1, I1, r1, q1⟩ => chain_link (thn (hb pins s1 σ H1 _ I1 q1) fun u s2 ⟨y, H2, I2, r2, q2⟩ =>
    thn (ho pins s2 σ H2 x y v u _ I2 r1 r2 q2) fun d s3 ⟨z, H3, I3, r3, k, e, q3⟩ => ?_)) hm
  subst e
  cases r3
  refine wpAny_truthy_bool ?_
  cases k with
  | false => exact ite_ff ⟨.bl false, H3, I3, rfl, q3⟩
  | true => exact ite_tt (chain_last (thn (hc pins s3 σ H3 _ I3 q3) fun w' s4 ⟨z', H4, I4, r4, q4⟩ => ho' pins s4 σ H4 y z' u w' Q I4 r2 r4 q4))
/-! ### truth -/
/-- a value's truth by the abstract heap -/
def TruV (K : PySem.W.Frag) (x : V) (H : Hp) (k : Bool) : Prop :=
  match x with
  | .non => k = false
  | .bl b => k = b
  | .int i => k = (i != 0)
  | .str y => y.length ≤ sizeLine ∧ k = ((y.length : Int) != 0)
  | .byt y => y.size ≤ sizeLine ∧ k = ((y.size : Int) != 0)
  | .ref p => (∃ xs, SqL K H p xs ∧ k = !xs.isEmpty) ∨ (∃ xs, SqT K H p xs ∧ k = !xs.isEmpty) ∨ ∃ kvs, H p = some (.dK kvs) ∧ k = !kvs.isEmpty
  | _ => False
theorem line63 : (sizeLine : Nat) < 2 ^ 63 := by rw [sizeLine_eq]; decide
/-! ### strs and bytes -/
theorem op_add_str : OpR X (binaryOp .Add) (fun x y H Q => ∃ i j, x = .str i ∧ y = .str j ∧ i.length + j.length ≤ sizeLine ∧ Q (.str (i ++ j)) H) := by
  intro pins s σ H x y v u Q I rx ry h
  obtain ⟨i, j, rfl, rfl, hz, q⟩ := h
  obtain ⟨t, rfl⟩ := rx
  obtain ⟨t', rfl⟩ := ry
  exact add_str (fun t' tk => ⟨.str (i ++ j), H, I.tok _, ⟨_, rfl⟩, q⟩) hz
def PlainIxT (b : Expr) : Prop := ∀ o i, subscripted b false o i = operate [o, i] (getItem o i)
/-! ### scalar builtins, by CallR -/
theorem vals1 {x : V} {us : List Value} (r : Vals [x] us) : ∃ u, us = [u] ∧ RelV x u := by
  cases r with
  | cons r1 r2 => cases r2; exact ⟨_, rfl, r1⟩
theorem vals2 {x y : V} {us : List Value} (r : Vals [x, y] us) : ∃ u w', us = [u, w'] ∧ RelV x u ∧ RelV y w' := by
  cases r with
  | cons r1 r2 =>
    cases r2 with
    | cons r3 r4 => cases r4; exact ⟨_, _, rfl, r1, r3⟩
theorem call_int1 : CallR X (.type "int") (fun xs H Q => (∃ i, xs = [.int i] ∧ Q (.int i) H) ∨ ∃ k, xs = [.bl k] ∧ Q (.int (if k then 1 else 0)) H) := by
  intro pins s σ H xs us Q I r h
  rcases h with ⟨i, rfl, q⟩ | ⟨k, rfl, q⟩
  · obtain ⟨u, rfl, t, rfl⟩ := vals1 r
    exact call_int_int ⟨.int i, H, I, ⟨_, rfl⟩, q⟩
  · obtain ⟨u, rfl, r1⟩ := vals1 r
    cases r1
    exact call_int_bool ⟨.int (if k then 1 else 0), H, I.tok _, ⟨_, rfl⟩, q⟩
theorem call_str_int : CallR X (.type "str") (fun xs H Q => ∃ i, xs = [.int i] ∧ i.natAbs.log2 < 1920 ∧ Q (.str (toString i)) H) := by
  intro pins s σ H xs us Q I r h
  obtain ⟨i, rfl, hz, q⟩ := h
  obtain ⟨u, rfl, t, rfl⟩ := vals1 r
  exact PySem.P.str_of_int hz ⟨.str _, H, I.tok _, ⟨_, rfl⟩, q⟩
/-- len of a str, a bytes, a list, a tuple -/
def LenV (K : PySem.W.Frag) (x : V) (H : Hp) (n : Nat) : Prop :=
  match x with
  | .str y => y.length ≤ sizeLine ∧ n = y.length
  | .byt y => y.size ≤ sizeLine ∧ n = y.size
  | .ref p => (∃ xs, SqL K H p xs ∧ n = xs.length) ∨ ∃ xs, SqT K H p xs ∧ n = xs.length
  | _ => False
end
end L2

namespace L2
open PySem PySem.Spec PyProof.Rows

/-! ### an instance, its attributes a map -/
structure ObjM (h : Heap) (x dx C : Addr) (mA : Str → Option Value) : Prop where
  obj : h.get? x = some (PySem.W.instObj C dx)
  ns : h.Ns1 dx mA
  ne : dx ≠ x

theorem lookIn_ns {h : Heap} {dx : Addr} {mA : Str → Option Value} (n : h.Ns1 dx mA) : ∃ od, h.get? dx = some od ∧ ∀ name, PySem.W.lookIn name od = some (mA name) := by
  obtain ⟨o, es, ep, ho, hd, hk, _, hm⟩ := n
  refine ⟨o, ho, fun name => ?_⟩
  have e := hm name
  unfold nsFind findBy at e
  rw [← Array.find?_toList] at e
  unfold PySem.W.lookIn
  rw [hd]
  dsimp only
  split
  · rename_i y q
    rw [q] at e
    exact congrArg some e
  · rename_i q
    rw [q] at e
    have a : es.toList.any (·.refKey) = false := by
      rw [List.any_eq_false]
      intro y hy
      obtain ⟨z, t, hkey⟩ := hk y (Array.mem_toList_iff.mp hy)
      simp [DictEntry.refKey, hkey]
    have a' : ¬ es.toList.any (·.refKey) = true := by rw [a]; exact Bool.false_ne_true
    rw [if_neg a']
    exact congrArg some e

theorem ObjM.look {h : Heap} {x dx C : Addr} {mA : Str → Option Value} (I : ObjM h x dx C mA) : ∃ od, PySem.W.InstAt h x (PySem.W.instObj C dx) C (some od) ∧ ∀ name, PySem.W.lookIn name od = some (mA name) :=
  let ⟨od, ho, hl⟩ := lookIn_ns I.ns
  ⟨od, ⟨I.obj, rfl, rfl, ho⟩, hl⟩

section
variable {prog : Program} {w : World} {A : Around} {E : Value → Shared → Prop} {s : Shared} {K : PySem.W.Frag} {x dx C f : Addr} {mA : Str → Option Value} {name : Str} {v : Value}

end

/-! ### the attributes as a list of pairs -/
def putF (f : Str) (v : V) : List (Str × V) → List (Str × V)
  | [] => [(f, v)]
  | (g, x) :: r => if g = f then (g, v) :: r else (g, x) :: putF f v r
theorem RelO.none_of {o : Option Value} (r : RelO none o) : o = none := by
  cases o with
  | none => rfl
  | some u => exact (show False from r).elim
section
variable {P : Program} {w : World} {H H' : Hp} {h h' : Heap} {a C dx : Addr} {fs fs' : List (Str × V)}
theorem ins_get (hok : HOk P w H h) (e : H a = some (.ins C dx fs)) : ∃ mA, ObjM h a dx C mA ∧ (∀ f, RelO (fs.lookup f) (mA f)) ∧ PySem.Within mA (fs.map (·.1)) ∧ fs.length ≤ 1000 ∧ H dx = some (.own a) := by
  obtain ⟨d, z, ne, ob, mA, n, r, q⟩ := (show ObjOk P w H h a (.ins C dx fs) from hok a _ e)
  exact ⟨mA, ⟨ob, n, ne⟩, r, q, z, d⟩
end

/-! ### what of the text a class must have -/
structure Cls (K : PySem.W.Frag) (C : Addr) : Prop where
  pg : PySem.W.plainGet K C Str.empty = true
  hd : PySem.W.hasDictIn K C = true
  po : PySem.W.plainOver K C = true
  sa : PySem.W.findIn K (.ref C) "__setattr__" = some (some (.builtin "object.__setattr__"))
theorem Cls.get {K : PySem.W.Frag} {C : Addr} (c : Cls K C) (f : Str) : PySem.W.plainGet K C f = true := c.pg
/-- no class of it has the name -/
def NoAttr (K : PySem.W.Frag) (C : Addr) (f : Str) : Prop := PySem.W.findIn K (.ref C) f = some none
/-- a constant of the class -/
structure Con (K : PySem.W.Frag) (C : Addr) (f : Str) (v : V) (u : Value) : Prop where
  at_ : PySem.W.findIn K (.ref C) f = some (some u)
  rel : RelV v u
  get : PySem.W.specialIn K u "__get__" = some none
  cp : PySem.W.copiedNames.contains f = false
/-- a method: a plain def of the class or of one above it -/
structure Meth (K : PySem.W.Frag) (C : Addr) (m : Str) (f : Addr) : Prop where
  at_ : PySem.W.findIn K (.ref C) m = some (some (.ref f))
  fn : PySem.W.isFn K (.ref f) = true
  kp : PySem.W.keepIn K (.ref f) = true

section
variable {X : Cx} {pins : List (Addr × Obj)} {σ : St} {H : Hp} {s : Shared} {a C dx : Addr} {fs : List (Str × V)} {f : Str} {v : V} {A : Around} {E : Value → Shared → Prop}

/-- a new instance, tracked, without attributes -/
theorem Inv.made (I : Inv X pins σ H s) : Inv X pins σ (upd (upd H s.heap.objs.size (.own (s.heap.objs.size + 1))) (s.heap.objs.size + 1) (.ins C s.heap.objs.size []))
    { s with heap := (s.heap.push PySem.W.emptyDict).push (PySem.W.instObj C s.heap.objs.size) } := by
  have e1 : (s.heap.push PySem.W.emptyDict).get? s.heap.objs.size = some PySem.W.emptyDict := Heap.get?_push_size s.heap rfl
  have e2 : ((s.heap.push PySem.W.emptyDict).push (PySem.W.instObj C s.heap.objs.size)).get? (s.heap.objs.size + 1) = some (PySem.W.instObj C s.heap.objs.size) := by
    have := Heap.get?_push_size (s.heap.push PySem.W.emptyDict) (o := PySem.W.instObj C s.heap.objs.size) rfl
    rwa [Heap.size_push] at this
  have e3 : (s.heap.push PySem.W.emptyDict).Ns s.heap.objs.size (fun _ => none) := ⟨PySem.W.emptyDict, #[], _, e1, rfl, (fun e he => absurd he (by simp)), fun _ => rfl⟩
  have I1 := I.laid (a := s.heap.objs.size) (o := .own (s.heap.objs.size + 1)) (h' := s.heap.push PySem.W.emptyDict) (t' := s.toks) (fun b u q => Heap.get?_push_of_some _ q) (Nat.le_refl _) ⟨_, e1⟩
  refine I1.laid (a := s.heap.objs.size + 1) (o := .ins C s.heap.objs.size []) (t' := s.toks) (fun b u q => Heap.get?_push_of_some _ q) (Nat.le_of_eq (Heap.size_push _ _)) ?_
  have ne : s.heap.objs.size ≠ s.heap.objs.size + 1 := Nat.ne_of_lt (Nat.lt_succ_self _)
  refine ⟨by rw [upd_ne ne, upd_same], Nat.zero_le _, ne, e2, fun _ => none, (Heap.Ns1.of_empty e3).at fun o q => Heap.get?_push_of_some _ q, fun _ => True.intro, fun y hy => absurd rfl hy⟩

end

/-! ### readings and rules -/
/-- e.f, an attribute of the instance -/
def tFld (K : PySem.W.Frag) (ta : TE) (f : Str) : TE := fun σ H Q => ta σ H fun x H1 => ∃ a C dx fs v, x = .ref a ∧ H1 a = some (.ins C dx fs) ∧ Cls K C ∧ NoAttr K C f ∧ fs.lookup f = some v ∧ Q v H1
/-- e.f, a constant of the class -/
def tCon (K : PySem.W.Frag) (ta : TE) (f : Str) : TE := fun σ H Q => ta σ H fun x H1 => ∃ a C dx fs v u, x = .ref a ∧ H1 a = some (.ins C dx fs) ∧ Cls K C ∧ Con K C f v u ∧ fs.lookup f = none ∧ Q v H1
/-- e.f = value -/
def sFld (K : PySem.W.Frag) (ta tv : TE) (f : Str) : TS := fun D σ H => tv σ H fun y H1 => ta σ H1 fun x H2 => ∃ a C dx fs, x = .ref a ∧ H2 a = some (.ins C dx fs) ∧ Cls K C ∧ NoAttr K C f ∧ fs.length < 1000 ∧
  D.nx σ (upd H2 a (.ins C dx (putF f y fs)))
/-- an augmented operator on two values -/
def InOp (X : Cx) (op : Operator) (rd : V → V → Hp → VK → Prop) : Prop :=
  ∀ (pins : List (Addr × Obj)) (s : Shared) (σ : St) (H : Hp) (x y : V) (u v : Value) (Q : VK), Inv X pins σ H s → RelV x u → RelV y v → rd x y H Q → wpAny (model X.prog X.w) X.A (inplaceOp op u v) (EP X pins σ Q) X.xe s
/-- e.f op= value -/
def sFldAug (K : PySem.W.Frag) (ta tv : TE) (rd : V → V → Hp → VK → Prop) (f : Str) : TS := fun D σ H => ta σ H fun x H1 => ∃ a C dx fs v, x = .ref a ∧ H1 a = some (.ins C dx fs) ∧ Cls K C ∧ NoAttr K C f ∧ fs.lookup f = some v ∧
  tv σ H1 fun y H2 => rd v y H2 fun z H3 => ∃ dx' fs', H3 a = some (.ins C dx' fs') ∧ fs'.length < 1000 ∧ D.nx σ (upd H3 a (.ins C dx' (putF f z fs')))

section
variable {X : Cx} {o e value : Expr} {f : Str} {pos pos' tpos : Pos} {ta tv : TE}
def rAdd : V → V → Hp → VK → Prop := fun x y H Q => ∃ i j, x = .int i ∧ y = .int j ∧ Q (.int (i + j)) H
def rSub : V → V → Hp → VK → Prop := fun x y H Q => ∃ i j, x = .int i ∧ y = .int j ∧ Q (.int (i - j)) H
end

/-! ### isinstance -/
section
variable {X : Cx} {pins : List (Addr × Obj)} {σ : St} {H : Hp} {s : Shared} {A : Around} {E : Value → Shared → Prop} {Q : Value → Shared → Prop} {c : Value} {b : Bool}
/-- the type of a value, as the fragment's deciders take it; for an instance its class -/
inductive TyOf (K : PySem.W.Frag) (H : Hp) : V → Value → Prop where
  | non : TyOf K H .non (.type "NoneType")
  | bl (x : Bool) : TyOf K H (.bl x) (.type "bool")
  | int (i : Int) : TyOf K H (.int i) (.type "int")
  | str (x : Str) : TyOf K H (.str x) (.type "str")
  | flt (x : UInt64) : TyOf K H (.flt x) (.type "float")
  | lst {a : Addr} {xs : List V} (e : H a = some (.lst xs)) : TyOf K H (.ref a) (.type "list")
  | frz {a : Addr} {o : Obj} {xs : List V} (e : H a = some (.frz o (.lst xs))) : TyOf K H (.ref a) (.type "list")
  | tup {a : Addr} {xs : List V} (e : H a = some (.tup xs)) : TyOf K H (.ref a) (.type "tuple")
  | dK {a : Addr} {kvs : List (Key × V)} (e : H a = some (.dK kvs)) : TyOf K H (.ref a) (.type "dict")
  | dT {a : Addr} {kvs : List (List Key × V)} (e : H a = some (.dT kvs)) : TyOf K H (.ref a) (.type "dict")
  | ins {a C dx : Addr} {fs : List (Str × V)} (e : H a = some (.ins C dx fs)) (cl : Cls K C) (ha : PySem.W.findIn K (.ref C) "__class__" = some (some (.builtin "object.__class__")))
      (hn : PySem.W.specialIn K (.builtin "object.__class__") "__get__" = some (some (.builtin "getset_descriptor.__get__"))) (htk : PySem.W.takesIn K (.builtin "object.__class__") = some true)
      (hm : PySem.W.mroIn K C (.type "object") = some true) : TyOf K H (.ref a) (.ref C)
/-- isinstance(x, c) for one class c, a built-in or an own one: kitOne's answer -/
theorem isinst_ok {x : V} {u t : Value} (I : Inv X pins σ H s) (rx : RelV x u) (ty : TyOf X.K H x t) (e : PySem.W.kitOne X.K t c = some b) (h : ∀ tk, Q (.bool b) { s with toks := tk }) :
    wpAny (model X.prog X.w) A (call (.builtin "isinstance") [u, c]) Q E s := by
  cases ty with
  | non => cases (show u = Value.none from rx); exact PySem.W.kia_one PySem.W.kitx_none I.kIn True.intro e (fun z => nomatch z) h
  | bl y => cases (show u = Value.bool y from rx); exact PySem.W.kia_one PySem.W.kitx_bool I.kIn True.intro e (fun z => nomatch z) h
  | int i => obtain ⟨t, q⟩ := (show ∃ t, u = Value.int i t from rx); cases q; exact PySem.W.kia_one PySem.W.kitx_int I.kIn True.intro e (fun z => nomatch z) h
  | str y => obtain ⟨t, q⟩ := (show ∃ t, u = Value.str y t from rx); cases q; exact PySem.W.kia_one PySem.W.kitx_str I.kIn True.intro e (fun z => nomatch z) h
  | flt y => obtain ⟨t, q⟩ := (show ∃ t, u = Value.float y t from rx); cases q; exact PySem.W.kia_one PySem.W.kitx_float I.kIn True.intro e (fun z => nomatch z) h
  | @lst a xs ea =>
    cases (show u = Value.ref a from rx)
    obtain ⟨_, _, n, _, h1⟩ := (show ObjOk X.prog X.w H s.heap a (.lst xs) from I.hok a _ ea)
    exact PySem.W.kia_one PySem.W.kitx_list I.kIn ⟨_, h1, rfl⟩ e (fun z => nomatch z) h
  | @frz a ob xs ea =>
    cases (show u = Value.ref a from rx)
    obtain ⟨_, _, _, n, _, h1⟩ := (show ObjOk X.prog X.w H s.heap a (.frz ob (.lst xs)) from I.hok a _ ea)
    exact PySem.W.kia_one PySem.W.kitx_list I.kIn ⟨_, h1, rfl⟩ e (fun z => nomatch z) h
  | @tup a xs ea =>
    cases (show u = Value.ref a from rx)
    obtain ⟨_, _, _, p⟩ := (show ObjOk X.prog X.w H s.heap a (.tup xs) from I.hok a _ ea)
    obtain ⟨o, h1, h2, _⟩ := p
    exact PySem.W.kia_one PySem.W.kitx_tuple I.kIn ⟨o, h1, h2⟩ e (fun z => nomatch z) h
  | @dK a kvs ea =>
    cases (show u = Value.ref a from rx)
    obtain ⟨_, _, vs, _, p⟩ := (show ObjOk X.prog X.w H s.heap a (.dK kvs) from I.hok a _ ea)
    obtain ⟨o, es, ep, h1, h2, _⟩ := p
    exact PySem.W.kia_one PySem.W.kitx_dict I.kIn ⟨o, h1, h2.1⟩ e (fun z => nomatch z) h
  | @dT a kvs ea =>
    cases (show u = Value.ref a from rx)
    obtain ⟨_, _, xs, _, o, es, ep, h1, h2, _⟩ := (show ObjOk X.prog X.w H s.heap a (.dT kvs) from I.hok a _ ea)
    exact PySem.W.kia_one PySem.W.kitx_dict I.kIn ⟨o, h1, h2.1⟩ e (fun z => nomatch z) h
  | @ins a C dx fs ea cl ha hn htk hm =>
    cases (show u = Value.ref a from rx)
    obtain ⟨mA, O, _⟩ := ins_get I.hok ea
    obtain ⟨od, J, _⟩ := O.look
    exact PySem.W.kia_one (PySem.W.kitx_own (cl.get _) cl.hd ha hn htk hm) I.kIn J e (fun z => nomatch z) h
end
end L2

namespace L2
open PySem PySem.Spec PyProof.Rows

/-! ### room -/
structure Room (k : Nat) (A : Around) : Prop where
  hd : A.handled = none
  dp : A.depth + 3 * k + 5 < recursionLimit
  un : A.units + 16 * k + 200 < cLine
  gd : A.guards = some []
theorem Room.mono {j k : Nat} {A : Around} (r : Room k A) (h : j ≤ k) : Room j A := ⟨r.hd, by have := r.dp; omega, by have := r.un; omega, r.gd⟩
theorem Room.deeper {k : Nat} {A : Around} (r : Room (k + 1) A) (env : Env) : Room k (A.deeper env) :=
  ⟨r.hd, by have := r.dp; show A.depth + 1 + 3 * k + 5 < _; omega, by have := r.un; show A.units + 3 + 16 * k + 200 < _; omega, r.gd⟩
theorem Room.in1 {k : Nat} {A : Around} (r : Room (k + 1) A) : Room k A.in1 :=
  ⟨r.hd, by have := r.dp; show A.depth + 3 * k + 5 < _; omega, by have := r.un; show A.units + 1 + 16 * k + 200 < _; omega, r.gd⟩
theorem make_depth {A : Around} {C : Addr} {us : List Value} {kw : List (Str × Value)} : (A.under (.builtin "type.__call__" ⟨.ref C :: us, kw⟩)).depth = A.depth + 1 := by
  first | rfl | simp [Around.under, Code.weight, Code.isCreation, Code.isGuard, Code.isCaller, Code.frames, Code.isFrame, guardIds]
theorem make_units {A : Around} {C : Addr} {us : List Value} {kw : List (Str × Value)} : (A.under (.builtin "type.__call__" ⟨.ref C :: us, kw⟩)).units = A.units + 1 := by
  first | rfl | simp [Around.under, Code.cUnits, Code.frames, Code.isFrame]
theorem make_guards {A : Around} {C : Addr} {us : List Value} {kw : List (Str × Value)} (h : A.guards = some []) : (A.under (.builtin "type.__call__" ⟨.ref C :: us, kw⟩)).guards = some [] := by
  first | exact h | simp [Around.under, Code.guards, Code.isGuard, guardIds, pushGuards, h]
theorem Room.make {k : Nat} {A : Around} (r : Room (k + 1) A) (C : Addr) (us : List Value) (kw : List (Str × Value)) : Room k (A.under (.builtin "type.__call__" ⟨.ref C :: us, kw⟩)) :=
  ⟨r.hd, by have := r.dp; rw [make_depth]; omega, by have := r.un; rw [make_units]; omega, make_guards r.gd⟩
theorem Room.depth {k : Nat} {A : Around} (r : Room k A) : A.depth < recursionLimit := by have := r.dp; omega
theorem Room.units {k : Nat} {A : Around} (r : Room k A) : A.units + 64 < cLine := by have := r.un; omega
/-! ### argument lists and displays -/
def tNil : TA := fun _ H Q => Q [] H
def tCons (ta : TE) (tr : TA) : TA := fun σ H Q => ta σ H fun x H1 => tr σ H1 fun xs H2 => Q (x :: xs) H2
section
variable {X : Cx} {e : Expr} {es : List Expr} {te : TE} {t : TA} {pos : Pos}
theorem pa_nil : PA X [] tNil := fun _ _ _ _ H Q I h => Calls.spliced_nil ⟨[], H, I, .nil, h⟩
theorem pa_cons (ha : PE X e te) (hr : PA X es t) (hs : starEach (e :: es) X.env = (false, eval e X.env) :: starEach es X.env := by rfl) : PA X (e :: es) (tCons te t) := by
  intro pos pins s σ H Q I h
  rw [hs]
  show wpAny _ _ (spliced ((false, eval e X.env) :: backTo pos (starEach es X.env))) _ _ s
  refine Calls.spliced_cons (thn (ha pins s σ H _ I h) fun u s1 ⟨x, H1, I1, r1, q1⟩ => ?_)
  exact thn (hr pos pins s1 σ H1 _ I1 q1) fun us s2 ⟨xs, H2, I2, r2, q2⟩ => ⟨x :: xs, H2, I2, .cons r1 r2, q2⟩

/-- a tuple, a list of written items -/
def tTup (t : TA) : TE := fun σ H Q => t σ H fun xs H1 => xs.length ≤ sizeLine ∧ ∀ p, H1 p = none → Q (.ref p) (upd H1 p (.tup xs))
def tLst (t : TA) : TE := fun σ H Q => t σ H fun xs H1 => xs.length ≤ sizeLine ∧ ∀ p, H1 p = none → Q (.ref p) (upd H1 p (.lst xs))
theorem pe_tup {x1} (h : PA X es t) : PE X (.Tuple es x1 pos) (tTup t) := by
  intro pins s σ H Q I hq
  refine wpAny_Tuple_spliced (thn (h pos pins s σ H _ I hq) fun us s1 ⟨xs, H1, I1, r, z, q⟩ => ⟨by rw [← r.length]; exact z, ?_⟩)
  have hf : H1 s1.heap.objs.size = none := I1.hok.fresh (Nat.le_refl _)
  refine ⟨.ref s1.heap.objs.size, upd H1 s1.heap.objs.size (.tup xs), I1.laid (t' := s1.toks) (fun b u e => Heap.get?_push_of_some _ e) (Nat.le_refl _) ?_, rfl, q _ hf⟩
  exact ⟨z, us, r, ⟨_, Heap.get?_push_size _ rfl, rfl, _, rfl⟩⟩
theorem pe_lst (h : PA X es t) : PE X (.List es pos) (tLst t) := by
  intro pins s σ H Q I hq
  refine wpAny_List_spliced (thn (h pos pins s σ H _ I hq) fun us s1 ⟨xs, H1, I1, r, z, q⟩ => ⟨by rw [← r.length]; exact z, ?_⟩)
  have hf : H1 s1.heap.objs.size = none := I1.hok.fresh (Nat.le_refl _)
  refine ⟨.ref s1.heap.objs.size, upd H1 s1.heap.objs.size (.lst xs), I1.laid (t' := s1.toks) (fun b u e => Heap.get?_push_of_some _ e) (Nat.le_refl _) ?_, rfl, q _ hf⟩
  exact ⟨z, us, 0, r, Heap.get?_push_size _ rfl⟩
end

/-! ### what a def promises -/
/-- a def's promise: the bound arguments in the parameters' order, the heap, the wanted end, the wanted exception -/
abbrev Sp := List V → Hp → VK → XK → Prop
/-- how an exception lies behind a call (file 08 gives it): the callers' frames, abstract heap and state ahead of the call, the wish, the exception, the state -/
abbrev CXT := List Env → Hp → Shared → XK → Value → Shared → Prop

/-- the state at a call -/
structure Env0 (P : Program) (w : World) (K : PySem.W.Frag) (mg : Str → Option Value) (base : Heap) (A : Around) (outer : List Env) (s : Shared) (H : Hp) : Prop where
  frames : A.frames = some outer
  mod : Mod K mg base
  bs : ∀ b o, base.get? b = some o → s.heap.get? b = some o ∧ H b = none
  bsz : base.objs.size ≤ s.heap.objs.size
  funs : s.heap.FunFrames base outer
  frf : ∀ b ∈ frs outer, H b = none
  hok : HOk P w H s.heap
  bare : AllBare s.gens
/-- a call's end -/
def CE (outer : List Env) (P : Program) (w : World) (H : Hp) (s : Shared) (Q : VK) (u : Value) (s' : Shared) : Prop :=
  ∃ v H', s'.os = s.os ∧ AllBare s'.gens ∧ Un (frs outer) [] H H' s.heap s'.heap ∧ HOk P w H' s'.heap ∧ RelV v u ∧ Q v H'
def CR (CX : CXT) (outer : List Env) (P : Program) (w : World) (H : Hp) (s : Shared) (Q : VK) (E : XK) (r : Result) (s' : Shared) : Prop :=
  match r with
  | .ok (.ret u) => CE outer P w H s Q u s'
  | .ok _ => False
  | .error e => CX outer H s E e s'
structure FnOk (P : Program) (w : World) (K : PySem.W.Frag) (mg : Str → Option Value) (base : Heap) (CX : CXT) (k : Nat) (f : Addr) (fd : FuncData) (ps : List Str) (sp : Sp) : Prop where
  len : ∀ vs H Q E, sp vs H Q E → vs.length = ps.length
  run : ∀ (A : Around) (outer : List Env) (s : Shared) (H : Hp) (args : Args) (us : List Value) (vs : List V) (Q : VK) (E : XK), Room k A → Env0 P w K mg base A outer s H → BindsTo s fd args (ps.zip us) → Vals vs us → sp vs H Q E →
    codeAny (model P w) A (.call (.ref f) args) (CR CX outer P w H s Q E) s
theorem FnOk.mono {P : Program} {w : World} {K : PySem.W.Frag} {mg : Str → Option Value} {base : Heap} {CX : CXT} {j k : Nat} {f : Addr} {fd : FuncData} {ps : List Str} {sp : Sp} (F : FnOk P w K mg base CX j f fd ps sp) (h : j ≤ k) :
    FnOk P w K mg base CX k f fd ps sp := ⟨F.len, fun A outer s H args us vs Q E hr => F.run A outer s H args us vs Q E (hr.mono h)⟩
theorem Env0.make {P : Program} {w : World} {K : PySem.W.Frag} {mg : Str → Option Value} {base : Heap} {A : Around} {outer : List Env} {s : Shared} {H : Hp} (e : Env0 P w K mg base A outer s H) (C : Addr) (us : List Value) (kw : List (Str × Value)) :
    Env0 P w K mg base (A.under (.builtin "type.__call__" ⟨.ref C :: us, kw⟩)) outer s H := ⟨by first | exact e.frames | (simpa [Around.under, Code.envs, Code.isFrame, pushEnvs] using e.frames), e.mod, e.bs, e.bsz, e.funs, e.frf, e.hok, e.bare⟩
theorem Env0.in1 {P : Program} {w : World} {K : PySem.W.Frag} {mg : Str → Option Value} {base : Heap} {A : Around} {outer : List Env} {s : Shared} {H : Hp} (e : Env0 P w K mg base A outer s H) :
    Env0 P w K mg base A.in1 outer s H := ⟨e.frames, e.mod, e.bs, e.bsz, e.funs, e.frf, e.hok, e.bare⟩

section
variable {X : Cx} {pins : List (Addr × Obj)} {σ : St} {H : Hp} {s s' : Shared}
/-- from a body: what a callee wants -/
theorem Inv.env0 (I : Inv X pins σ H s) : Env0 X.prog X.w X.K X.mg X.base X.A X.stack s H :=
  ⟨I.ok.frames, I.ok.mod, I.bs, Nat.le_trans I.ok.bsz I.sz, I.stack, I.stkFree, I.hok, I.bare⟩
/-- behind a call -/
theorem Inv.after {Q : VK} {u : Value} (I : Inv X pins σ H s) (h : CE X.stack X.prog X.w H s Q u s') : EP X pins σ Q u s' := by
  obtain ⟨v, H', os, bare, un, hok, r, q⟩ := h
  obtain ⟨hh, g, d, t, os'⟩ := s'
  obtain rfl : os' = s.os := os
  exact ⟨v, H', I.call (h' := hh) (g' := g) (d' := d) (t' := t) (ch := []) un hok bare (fun b z => absurd z (by simp)), r, q⟩
end

/-! ### calls -/
/-- f(..): the written arguments, then the defaults dvs; E: what is wanted of an exception -/
def tCall (sp : Sp) (dvs : List V) (E : XK) (t : TA) : TE := fun σ H Q => t σ H fun vs H1 => sp (vs ++ dvs) H1 Q E
/-- o.m(..) of an instance of the class at C -/
def tMeth (C : Addr) (m : Str) (sp : Sp) (dvs : List V) (E : XK) (ta : TE) (t : TA) : TE := fun σ H Q => ta σ H fun x H1 => ∃ a dx fs, x = .ref a ∧ H1 a = some (.ins C dx fs) ∧ fs.lookup m = none ∧
  t σ H1 fun vs H2 => sp (x :: (vs ++ dvs)) H2 Q E
/-- C(..): a new instance and its dict, then __init__ -/
def tMake (C : Addr) (sp : Sp) (dvs : List V) (E : XK) (t : TA) : TE := fun σ H Q => t σ H fun vs H1 => ∀ x dx, H1 x = none → H1 dx = none → dx ≠ x →
  sp (.ref x :: (vs ++ dvs)) (upd (upd H1 dx (.own x)) x (.ins C dx [])) (fun v H2 => v = .non ∧ Q (.ref x) H2) E

/-- how the parameters are bound: us the positional arguments, kw the keywords' values by name, ds the defaults that fill up -/
def Binds (K : PySem.W.Frag) (fd : FuncData) (ps : List Str) (ds : List Value) : Prop :=
  ∀ (s : Shared) (us : List Value), K.In s.heap → (us ++ ds).length = ps.length → BindsTo s fd ⟨us, []⟩ (ps.zip (us ++ ds))
/-- every parameter is given -/
theorem Binds.all {K : PySem.W.Frag} {fd : FuncData} {ps : List Str} (h : ∀ us : List Value, us.length = ps.length → bindArgs fd ⟨us, []⟩ = pure (ps.zip us)) : Binds K fd ps [] := fun s us _ hl => by
  rw [List.append_nil] at hl ⊢
  exact .of_eq (h us hl)

/-- an exception of a callee reaches what this body wants of exceptions -/
def Passes (CX : CXT) (X : Cx) (E : XK) : Prop := ∀ (pins : List (Addr × Obj)) (σ : St) (H : Hp) (s : Shared) (e : Value) (s' : Shared), Inv X pins σ H s → CX X.stack H s E e s' → X.xe e s'

section
variable {X : Cx} {CX : CXT} {k : Nat} {f C : Addr} {fd : FuncData} {ps : List Str} {sp : Sp} {dvs : List V} {ds : List Value} {E : XK} {x m : Str} {p pos apos : Pos} {e o : Expr} {es : List Expr} {ta : TE} {t : TA}

/-- the callee runs -/
theorem run_fn {pins : List (Addr × Obj)} {σ : St} {H : Hp} {s : Shared} {Q : VK} {us : List Value} {vs : List V} (F : FnOk X.prog X.w X.K X.mg X.base CX k f fd ps sp) (hr : Room k X.A) (hb : Binds X.K fd ps ds) (hd : Vals dvs ds) (hx : Passes CX X E)
    (I : Inv X pins σ H s) (r : Vals vs us) (h : sp (vs ++ dvs) H Q E) : wpAny (model X.prog X.w) X.A (call (.ref f) us) (EP X pins σ Q) X.xe s := by
  have r2 : Vals (vs ++ dvs) (us ++ ds) := r.append hd
  have hl : (us ++ ds).length = ps.length := by rw [← r2.length]; exact F.len _ _ _ _ h
  refine wpAny_call (codeAny_mono (F.run X.A X.stack s H ⟨us, []⟩ (us ++ ds) (vs ++ dvs) Q E hr I.env0 (hb s us I.kIn hl) r2 h) fun r s' hq => ?_)
  cases r with
  | error e => exact hx pins σ H s e s' I hq
  | ok fl =>
    cases fl with
    | ret u => exact I.after hq
    | next => exact False.elim hq
    | brk => exact False.elim hq
    | cont => exact False.elim hq

theorem pe_call (F : FnOk X.prog X.w X.K X.mg X.base CX k f fd ps sp) (hr : Room k X.A) (hg : Gl X x) (hm : X.mg x = some (.ref f)) (hk : PySem.W.keepIn X.K (.ref f) = true) (hb : Binds X.K fd ps ds) (hd : Vals dvs ds) (hx : Passes CX X E)
    (ha : PA X (e :: es) t) (hdb : (x == ("__debug__" : Str)) = false := by decide) (he : starEach (e :: es) X.env = (false, eval e X.env) :: starEach es X.env := by rfl) (hpl : (backTo pos (starEach es X.env)).any (·.1) = false := by rfl) :
    PE X (.Call (.Name x p) (e :: es) [] pos) (tCall sp dvs E t) := by
  intro pins s σ H Q I h
  refine wpAny_Call_Name_kw (ld_glob I hg hm ?_ hdb)
  refine PySem.W.callWith_K (h₀ := X.base) I.ok.mod.kin hk (thn (ha pos pins s σ H _ I h) fun us s1 ⟨vs, H1, I1, r, q⟩ => ⟨I1.kIn, ?_⟩) he hpl
  exact run_fn F hr hb hd hx I1 r q
/-- what a class must have to be made -/
structure Mk (K : PySem.W.Frag) (C f : Addr) : Prop where
  makes : PySem.W.makesIn K C = true
  init : PySem.W.findIn K (.ref C) "__init__" = some (some (.ref f))
  fn : PySem.W.isFn K (.ref f) = true
  kp : PySem.W.keepIn K (.ref C) = true

end

/-! ### keywords -/
/-- the values of the keywords, from the left -/
def PK (X : Cx) (kws : List Keyword) (t : TA) : Prop :=
  ∀ (pos : Pos) (pins : List (Addr × Obj)) (s : Shared) (σ : St) (H : Hp) (Q : List V → Hp → Prop), Inv X pins σ H s → t σ H Q → wpAny (model X.prog X.w) X.A (evalAll ((backToKw pos (keywordEach kws X.env)).map (·.2))) (AP X pins σ Q) X.xe s
section
variable {X : Cx} {CX : CXT} {k : Nat} {f C : Addr} {fd : FuncData} {ps ks : List Str} {sp : Sp} {E : XK} {x m : Str} {p pos apos kpos : Pos} {e o : Expr} {es : List Expr} {kws : List Keyword} {te ta : TE} {t tk : TA} {nm : Option Str}
/-- how a call with keywords binds: g puts the positional values us and the keywords' values ws (names ks) in the parameters' order, defaults among them -/
structure KBinds (K : PySem.W.Frag) (fd : FuncData) (ps ks : List Str) (g : List Value → List Value → List Value) (gV : List V → List V → List V) : Prop where
  to : ∀ (s : Shared) (us ws : List Value), K.In s.heap → (g us ws).length = ps.length → BindsTo s fd ⟨us, ks.zip ws⟩ (ps.zip (g us ws))
  rel : ∀ {vs : List V} {us : List Value} {zs : List V} {ws : List Value}, Vals vs us → Vals zs ws → Vals (gV vs zs) (g us ws)
def tCallK (sp : Sp) (gV : List V → List V → List V) (E : XK) (t tk : TA) : TE := fun σ H Q => t σ H fun vs H1 => tk σ H1 fun zs H2 => sp (gV vs zs) H2 Q E
variable {g : List Value → List Value → List Value} {gV : List V → List V → List V}
end

/-! ### a def's body keeps its promise -/
/-- names: the parameters first -/
structure FnScope (N P : List Str) (sc : Scope) : Prop where
  kind : sc.kind = .function
  co : sc.isCoroutine = false
  gen : sc.isGenerator = false
  nd : N.Nodup
  pre : N.take P.length = P
  par : ∀ x ∈ P, sc.names.lookup x = some .local ∨ sc.names.lookup x = some .cell
  nofree : ∀ y ∈ sc.names, y.2 ≠ .free

theorem bindL_out {kindOf : Str → Option NameKind} {x : Str} : ∀ {binds : List (Str × Value)} {m : Str → Option Value}, (∀ v, (x, v) ∉ binds) → bindL kindOf binds m x = m x
  | [], _, _ => rfl
  | (n, v) :: r, m, h => by
    unfold bindL
    rw [bindL_out fun w hw => h w (List.mem_cons_of_mem _ hw)]
    split
    · have : x ≠ n := by rintro rfl; exact h v List.mem_cons_self
      simp [this]
    · rfl
theorem bindC_out {kindOf : Str → Option NameKind} {x : Str} : ∀ {binds : List (Str × Value)} {m : Str → Option Value}, (∀ v, (x, v) ∉ binds) → bindC kindOf binds m x = m x
  | [], _, _ => rfl
  | (n, v) :: r, m, h => by
    unfold bindC
    rw [bindC_out fun w hw => h w (List.mem_cons_of_mem _ hw)]
    split
    · rfl
    · have : x ≠ n := by rintro rfl; exact h v List.mem_cons_self
      simp [this]
theorem bindL_get {kindOf : Str → Option NameKind} {x : Str} {v : Value} : ∀ {P : List Str} {vs : List Value} {i : Nat} {m : Str → Option Value}, P.Nodup → P[i]? = some x → vs[i]? = some v → kindOf x = some .local →
    bindL kindOf (P.zip vs) m x = some v
  | [], _, _, _, _, h, _, _ => by simp at h
  | _ :: _, [], _, _, _, _, h, _ => by simp at h
  | p :: P, w :: vs, 0, m, nd, h1, h2, hk => by
    simp at h1 h2; subst h1; subst h2
    show bindL kindOf ((p, w) :: P.zip vs) m p = _
    unfold bindL
    rw [bindL_out fun v hv => (List.nodup_cons.mp nd).1 (List.of_mem_zip hv).1, if_pos hk]
    simp
  | p :: P, w :: vs, i + 1, m, nd, h1, h2, hk => by
    show bindL kindOf ((p, w) :: P.zip vs) m x = _
    unfold bindL
    exact bindL_get (i := i) (List.nodup_cons.mp nd).2 (by simpa using h1) (by simpa using h2) hk
theorem bindC_get {kindOf : Str → Option NameKind} {x : Str} {v : Value} : ∀ {P : List Str} {vs : List Value} {i : Nat} {m : Str → Option Value}, P.Nodup → P[i]? = some x → vs[i]? = some v → kindOf x ≠ some .local →
    bindC kindOf (P.zip vs) m x = some v
  | [], _, _, _, _, h, _, _ => by simp at h
  | _ :: _, [], _, _, _, _, h, _ => by simp at h
  | p :: P, w :: vs, 0, m, nd, h1, h2, hk => by
    simp at h1 h2; subst h1; subst h2
    show bindC kindOf ((p, w) :: P.zip vs) m p = _
    unfold bindC
    rw [bindC_out fun v hv => (List.nodup_cons.mp nd).1 (List.of_mem_zip hv).1, if_neg hk]
    simp
  | p :: P, w :: vs, i + 1, m, nd, h1, h2, hk => by
    show bindC kindOf ((p, w) :: P.zip vs) m x = _
    unfold bindC
    exact bindC_get (i := i) (List.nodup_cons.mp nd).2 (by simpa using h1) (by simpa using h2) hk

/-- the names' values at the entry -/
def start (N : List Str) (vs : List V) : St := vs.map some ++ List.replicate (N.length - vs.length) none

/-- the context of a def's body, at its entry; an exception leaves the frame, then lies as CX says -/
def cxOf (CX : CXT) (P : Program) (w : World) (K : PySem.W.Frag) (mg : Str → Option Value) (base : Heap) (N : List Str) (qual : Str) (scope : Scope) (f : Addr) (cd : Value) (A : Around) (outer : List Env) (s : Shared) (H : Hp) (E : XK) : Cx where
  prog := P
  w := w
  K := K
  mg := mg
  base := base
  A := A.deeper (envOfC qual scope s.heap.objs.size f cd)
  N := N
  s₀ := s
  H₀ := H
  env := envOfC qual scope s.heap.objs.size f cd
  outer := outer
  stack := envOfC qual scope s.heap.objs.size f cd :: outer
  ex := []
  calm := true
  fn := fun _ => true
  pn := []
  xe := fun e s' => wpAny (model P w) (A.deeper (envOfC qual scope s.heap.objs.size f cd)) (leaving (envOfC qual scope s.heap.objs.size f cd) e) (fun _ s'' => CX outer H s E e s'') (fun e' s'' => CX outer H s E e' s'') s'

theorem cell_has {sc : Scope} {n : Nat} {x : Str} (h : sc.names.lookup x = some .cell) : ∃ c, (cellsFrom n sc.names []).lookup x = some c := by
  have q := PySem.W.cellsFrom_some sc.names n [] (.inl h)
  exact Option.isSome_iff_exists.mp q

theorem inv_start {CX : CXT} {P : Program} {w : World} {K : PySem.W.Frag} {mg : Str → Option Value} {base : Heap} {N ps : List Str} {qual : Str} {scope : Scope} {f : Addr} {cd : Value} {A : Around} {outer : List Env} {s s1 : Shared} {H : Hp} {E : XK} {us : List Value} {vs : List V}
    (S : FnScope N ps scope) (hd : A.handled = none) (e0 : Env0 P w K mg base A outer s H) (hl : vs.length = ps.length) (r : Vals vs us)
    (x : InCallC s s.heap.objs.size (bindL (envOfC qual scope s.heap.objs.size f cd).kindOf (ps.zip us) fun _ => none) (cellsFrom (s.heap.objs.size + 1) scope.names []) (bindC (envOfC qual scope s.heap.objs.size f cd).kindOf (ps.zip us) fun _ => none) s1) :
    Inv (cxOf CX P w K mg base N qual scope f cd A outer s H E) [] (start N vs) H s1 := by
  have hpl : ps.length ≤ N.length := by have := congrArg List.length S.pre; rw [List.length_take] at this; omega
  obtain ⟨h1, tk, rfl, hk⟩ := x.done
  have noA : ∀ b : Addr, b ∉ (cxOf CX P w K mg base N qual scope f cd A outer s H E).ex := fun b z => absurd (show b ∈ ([] : List Addr) from z) (by simp)
  refine ⟨⟨e0.mod, S.kind, rfl, rfl, Nat.le_refl _, fun y z c h1 h2 => ?_, fun y hy => ?_, fun y c _ h => ?_, fun _ => hd, Around.frames_deeper e0.frames, .inr ⟨rfl, rfl⟩, fun b z => absurd z (noA b), e0.bs, e0.bsz, fun b _ _ => noA b, fun b z => absurd z (noA b), e0.funs, e0.frf⟩,
    rfl, e0.bare, Un.kept hk, ⟨_, x.toInCall.ns, fun i y v h1 h2 h3 => ?_⟩, fun y c h => ⟨_, x.cell y c h⟩, e0.hok.fresh (Nat.le_refl _), fun y c h => ?_, fun p hp => absurd (show p ∈ ([] : List (Addr × Obj)) from hp) (by simp), e0.hok.kept hk, ?_⟩
  · exact name_of_addr x.apart (PySem.mem_of_lookup h1) (PySem.mem_of_lookup h2)
  · have hy : scope.names.lookup y = some .cell ∨ scope.names.lookup y = some .free := hy
    rcases hy with hy | hy
    · exact cell_has hy
    · exact absurd rfl (S.nofree _ (PySem.mem_of_lookup hy))
  · exact Nat.le_of_lt (x.above y c (PySem.mem_of_lookup h))
  · have hi : i < vs.length := by
      unfold start at h2
      by_cases hi : i < vs.length
      · exact hi
      · rw [List.getElem?_append_right (by simpa using hi)] at h2
        rw [List.getElem?_replicate] at h2
        split at h2 <;> cases h2
    have ha : vs[i]? = some v := by
      unfold start at h2
      rw [List.getElem?_append_left (by simpa using hi), List.getElem?_map] at h2
      cases e : vs[i]? with
      | none => rw [e] at h2; cases h2
      | some a => rw [e] at h2; cases h2; rfl
    obtain ⟨u, hu, rv⟩ := r.get ha
    have hp : ps[i]? = some y := by
      rw [← S.pre, List.getElem?_take_of_lt (by omega)]; exact h1
    have ndP : ps.Nodup := by rw [← S.pre]; exact S.nd.sublist (List.take_sublist _ _)
    refine ⟨u, rv, ?_⟩
    rcases S.par y (List.mem_of_getElem? hp) with k | k
    · exact .inl ⟨k, bindL_get ndP hp hu k⟩
    · obtain ⟨c, e⟩ := cell_has (n := s.heap.objs.size + 1) k
      refine .inr ⟨.inl k, c, e, ?_⟩
      have q := x.cell y c e
      rw [bindC_get ndP hp hu (by show scope.names.lookup y ≠ _; rw [k]; decide)] at q
      exact q
  · exact e0.hok.fresh (Nat.le_of_lt (x.above y c (PySem.mem_of_lookup h)))
  · unfold start
    show _ = N.length
    rw [List.length_append, List.length_map, List.length_replicate]
    omega

/-- THE RULE: a def (or a method) of the text, by its body. The body's reading t is chosen for each entry; it is run at the parameters' values -/
theorem fn_of {CX : CXT} {P : Program} {w : World} {K : PySem.W.Frag} {mg : Str → Option Value} {base : Heap} {k : Nat} {f : Addr} {name qual : Str} {params : Arguments} {body : List Stmt} {scope : Scope} {dV kV doc pm cdv ct oc : Value} {an od : Option Addr}
    {osl : Array (Option Value)} {N ps : List Str} {sp : Sp} (lk : K.lookup f = some ⟨oc, od, .func (PySem.W.fnOf name qual params body scope dV kV doc pm an cdv ct), osl⟩) (hcd : PySem.W.codeIn K cdv qual = true) (S : FnScope N ps scope)
    (len : ∀ vs H Q E, sp vs H Q E → vs.length = ps.length)
    (hbody : ∀ (A : Around) (outer : List Env) (s : Shared) (H : Hp) (vs : List V) (Q : VK) (E : XK), Room k (A.deeper (envOfC qual scope s.heap.objs.size f cdv)) → sp vs H Q E →
      ∃ t, PSs (cxOf CX P w K mg base N qual scope f cdv A outer s H E) body t ∧ t { nx := fun _ H' => Q .non H', rt := Q } (start N vs) H) :
    FnOk P w K mg base CX (k + 1) f (PySem.W.fnOf name qual params body scope dV kV doc pm an cdv ct) ps sp := by
  refine ⟨len, fun A outer s H args us vs Q E hr e0 hb r hsp => ?_⟩
  have hl := len _ _ _ _ hsp
  have KX : K.In s.heap := e0.mod.kin.keeps fun b o e => (e0.bs b o e).1
  have lim : s.heap.NoLimit := e0.mod.nolimit.keeps fun b o e => (e0.bs b o e).1
  have hkind : ∀ y ∈ ps.zip us, scope.names.lookup y.1 = some .local ∨ (scope.names.lookup y.1 = some .cell ∧ ((cellsFrom (s.heap.objs.size + 1) scope.names []).lookup y.1).isSome = true) := fun ⟨n, v⟩ hy => by
    rcases S.par n (List.of_mem_zip hy).1 with q | q
    · exact .inl q
    · exact .inr ⟨q, PySem.W.cellsFrom_some _ _ _ (.inl q)⟩
  refine codeAny_call_function hr.depth (KX _ _ lk) rfl S.co S.gen rfl (PySem.W.codeRec_of KX hcd) (hb _ _ _ _ ?_)
  refine wpAny_newFunctionEnv_cells S.kind hkind fun env he s1 x => ?_
  subst he
  refine ⟨lim.keeps x.toInCall.keep, codeAny_func ?_⟩
  obtain ⟨t, ht, hq⟩ := hbody A outer s H vs Q E (hr.deeper _) hsp
  have I : Inv (cxOf CX P w K mg base N qual scope f cdv A outer s H E) [] (start N vs) H s1 := inv_start S hr.hd e0 hl r x
  refine wpAny_mono (ht [] s1 (start N vs) H _ I hq) (fun fl s' hs => ?_) fun e s' hs => hs
  have fin : ∀ {σ' : St} {H' : Hp} {v : V} {u : Value}, Inv (cxOf CX P w K mg base N qual scope f cdv A outer s H E) [] σ' H' s' → RelV v u → Q v H' → CE outer P w H s Q u s' :=
    fun {σ' H' v u} J rv q => ⟨v, H', J.os, J.bare, J.base, J.hok, rv, q⟩
  cases fl with
  | ret u =>
    obtain ⟨v, σ', H', J, rv, q⟩ := hs
    exact fin J rv q
  | next =>
    obtain ⟨σ', H', J, q⟩ := hs
    exact fin (v := V.non) (u := Value.none) J rfl q
  | brk =>
    obtain ⟨_, _, _, q⟩ := hs
    exact False.elim q
  | cont =>
    obtain ⟨_, _, _, q⟩ := hs
    exact False.elim q
end L2

namespace L2
open PySem PySem.Spec PyProof.Rows
section
variable {X : Cx} {x : Str} {p pos : Pos} {e : Expr} {es : List Expr} {t : TA} {id T : String} {r : List V → Hp → VK → Prop}

def tCB (r : List V → Hp → VK → Prop) (t : TA) : TE := fun σ H Q => t σ H fun vs H1 => r vs H1 Q
/-- f(e, ..), f a built-in function -/
theorem pe_callB (hc : CallR X (.builtin id) r) (hg : Gl X x) (hm : X.mg x = none) (hv : bootBuiltins x = some (.builtin id)) (ha : PA X (e :: es) t) (hn : x ≠ "__name__" := by decide) (hdb : (x == ("__debug__" : Str)) = false := by decide)
    (he : starEach (e :: es) X.env = (false, eval e X.env) :: starEach es X.env := by rfl) (hpl : (backTo pos (starEach es X.env)).any (·.1) = false := by rfl) : PE X (.Call (.Name x p) (e :: es) [] pos) (tCB r t) := by
  intro pins s σ H Q I h
  refine wpAny_Call_Name_kw (ld_blt I hg hm hv ?_ hn hdb)
  exact PyProof.Rows.callWith_builtin1 (thn (ha pos pins s σ H _ I h) fun us s1 ⟨vs, H1, I1, r1, q1⟩ => hc pins s1 σ H1 vs us Q I1 r1 q1) he hpl
/-- T(e, ..), T a built-in type -/
theorem pe_callTy (hc : CallR X (.type T) r) (hg : Gl X x) (hm : X.mg x = none) (hv : bootBuiltins x = some (.type T)) (ha : PA X (e :: es) t) (hn : x ≠ "__name__" := by decide) (hdb : (x == ("__debug__" : Str)) = false := by decide)
    (he : starEach (e :: es) X.env = (false, eval e X.env) :: starEach es X.env := by rfl) (hpl : (backTo pos (starEach es X.env)).any (·.1) = false := by rfl) : PE X (.Call (.Name x p) (e :: es) [] pos) (tCB r t) := by
  intro pins s σ H Q I h
  refine wpAny_Call_Name_kw (ld_blt I hg hm hv ?_ hn hdb)
  exact PyProof.Rows.callWith_type1 (thn (ha pos pins s σ H _ I h) fun us s1 ⟨vs, H1, I1, r1, q1⟩ => hc pins s1 σ H1 vs us Q I1 r1 q1) he hpl
end
end L2

namespace HT
open PySem PyProof.Rows

/-- t < u of tuples of ints -/
def lexLt : List Int → List Int → Bool
  | [], [] => false
  | [], _ :: _ => true
  | _ :: _, [] => false
  | x :: xs, y :: ys => if x = y then lexLt xs ys else decide (x < y)
section
open PySem.SeqAt
open PySem.AutoSeq1 (wpAny_loadPart')
open PySem.MeetsSeq PySem.MeetsSeq2 PySem.MeetsSeq3

end

section
variable {prog : Program} {w : World} {A : Around} {E : Value → Shared → Prop} {s : Shared}

/-! ### t[a:b], not the whole -/
/-- a slice's bound as a place among n (d where it is left out) -/
def sIx (n d : Nat) : Option Int → Nat
  | none => d
  | some v => if v < 0 then (v + (n : Int)).toNat else min v.toNat n
theorem sIx_none (n d : Nat) : sIx n d none = d := rfl
theorem sIx_nat (n d k : Nat) : sIx n d (some (k : Int)) = min k n := by
  show (if (k : Int) < 0 then ((k : Int) + (n : Int)).toNat else min (k : Int).toNat n) = min k n
  rw [if_neg (by omega), Int.toNat_natCast]
end
end HT

namespace L2
open PySem PySem.Spec PyProof.Rows

/-! ### the parts of a slice -/
abbrev TO := St → Hp → (Option Int → Hp → Prop) → Prop
/-- a slice's part (left out, or an int) -/
def PO (X : Cx) (e : Option Expr) (t : TO) : Prop :=
  ∀ (pins : List (Addr × Obj)) (s : Shared) (σ : St) (H : Hp) (Q : Option Int → Hp → Prop), Inv X pins σ H s → t σ H Q →
    wpAny (model X.prog X.w) X.A (evalPart e X.env) (fun u s' => ∃ o H', Inv X pins σ H' s' ∧ IsPart u o ∧ Q o H') X.xe s
def tNoPart : TO := fun _ H Q => Q none H
def tPart (t : TE) : TO := fun σ H Q => t σ H fun x H1 => ∃ i, x = .int i ∧ Q (some i) H1

section
variable {X : Cx} {e : Expr} {te : TE} {lo hi : Option Expr} {tl th : TO} {pos p2 : Pos}

theorem po_none : PO X none tNoPart := by
  intro pins s σ H Q I h
  rw [evalPart_none]
  exact wpAny_pure ⟨none, H, I, .none, h⟩
theorem po_some (h : PE X e te) : PO X (some e) (tPart te) := by
  intro pins s σ H Q I hw
  rw [evalPart_some]
  refine thn (h pins s σ H _ I hw) fun u s1 ⟨x, H1, I1, r1, q1⟩ => ?_
  obtain ⟨i, rfl, q⟩ := q1
  obtain ⟨t, rfl⟩ := r1
  exact ⟨some i, H1, I1, .int i t, q⟩

/-- what a slice of a value is, by values: the slice object stands at sl -/
def SlR (X : Cx) (r : V → Option Int → Option Int → Hp → VK → Prop) : Prop :=
  ∀ (pins : List (Addr × Obj)) (s : Shared) (σ : St) (H : Hp) (x : V) (v vl vu : Value) (lo hi : Option Int) (sl : Addr) (Q : VK), Inv X pins σ H s → RelV x v → s.heap.IsSliceOf sl vl vu .none → IsPart vl lo → IsPart vu hi → r x lo hi H Q →
    ∃ T id, typeLookup (.type T) "__getitem__" = pure (some (.builtin id)) ∧ s.TypeIs v T ∧ wpAny (model X.prog X.w) X.A (getItem v (.ref sl)) (EP X pins σ Q) X.xe s
theorem SlR.or {r r' : V → Option Int → Option Int → Hp → VK → Prop} (h : SlR X r) (h' : SlR X r') : SlR X (fun x lo hi H Q => r x lo hi H Q ∨ r' x lo hi H Q) := by
  intro pins s σ H x v vl vu lo hi sl Q I rx hs pl pu q
  rcases q with q | q
  · exact h pins s σ H x v vl vu lo hi sl Q I rx hs pl pu q
  · exact h' pins s σ H x v vl vu lo hi sl Q I rx hs pl pu q
def tSl (r : V → Option Int → Option Int → Hp → VK → Prop) (te : TE) (tl th : TO) : TE := fun σ H Q => te σ H fun x H1 => tl σ H1 fun l H2 => th σ H2 fun u H3 => r x l u H3 Q
/-- a[lo:hi], any a -/
theorem pe_slice {r : V → Option Int → Option Int → Hp → VK → Prop} (hr : SlR X r) (he : PE X e te) (hl : PO X lo tl) (hu : PO X hi th) : PE X (.Subscript e (.Slice lo hi none p2) pos) (tSl r te tl th) := by
  intro pins s σ H Q I h
  refine Subscript_ (thn (he pins s σ H _ I h) fun v s1 ⟨x, H1, I1, r1, q1⟩ => ?_)
  refine wpAny_Slice (thn (hl pins s1 σ H1 _ I1 q1) fun vl s2 ⟨l, H2, I2, pl, q2⟩ => thn (hu pins s2 σ H2 _ I2 q2) fun vu s3 ⟨u, H3, I3, pu, q3⟩ => ?_)
  rw [evalPart_none]
  refine wpAny_pure ?_
  have I4 : Inv X pins σ H3 { s3 with heap := s3.heap.push { cls := .type "slice", data := .fields #[vl, vu, .none] } } := I3.kept (t' := s3.toks) fun b ob q => Heap.get?_push_of_some _ q
  obtain ⟨T, id, hT, ht, hg⟩ := hr pins { s3 with heap := s3.heap.push { cls := .type "slice", data := .fields #[vl, vu, .none] } } σ H3 x v vl vu l u s3.heap.objs.size Q I4 r1 (Heap.IsSliceOf.new ..) pl pu q3
  show wpAny (model X.prog X.w) X.A (subscriptTail e (.Slice lo hi none p2) v (.ref s3.heap.objs.size)) (EP X pins σ Q) X.xe { s3 with heap := s3.heap.push { cls := .type "slice", data := .fields #[vl, vu, .none] } }
  exact tail_any (ops := [.ref s3.heap.objs.size, v]) ht hT hg (by with_unfolding_all rfl)

/-- the items of xs[lo:hi] -/
def cutV (xs : List V) (lo hi : Option Int) : List V := (xs.drop (HT.sIx xs.length 0 lo)).take (HT.sIx xs.length xs.length hi - HT.sIx xs.length 0 lo)
theorem cutV_length (xs : List V) (lo hi : Option Int) : (cutV xs lo hi).length ≤ xs.length := by
  unfold cutV
  rw [List.length_take, List.length_drop]
  omega
/-- t[lo:hi], not the whole of it (the whole would be t itself) -/
def rSlT (K : PySem.W.Frag) : V → Option Int → Option Int → Hp → VK → Prop := fun x lo hi H Q => ∃ a xs, x = .ref a ∧ SqT K H a xs ∧
  ¬ (HT.sIx xs.length 0 lo = 0 ∧ HT.sIx xs.length xs.length hi = xs.length) ∧ ∀ p, H p = none → Q (.ref p) (upd H p (.tup (cutV xs lo hi)))
/-! ### t < u, t + u -/
def rLtT (K : PySem.W.Frag) : R2 := fun x y H Q => ∃ a b ns ms, x = .ref a ∧ y = .ref b ∧ SqT K H a (ns.map V.int) ∧ SqT K H b (ms.map V.int) ∧ Q (.bl (HT.lexLt ns ms)) H
/-- t + u, t not empty: u empty gives t itself -/
def rCatT (K : PySem.W.Frag) : R2 := fun x y H Q => ∃ a b xs ys, x = .ref a ∧ y = .ref b ∧ SqT K H a xs ∧ SqT K H b ys ∧ xs ≠ [] ∧ xs.length + ys.length ≤ sizeLine ∧
  (ys = [] → Q (.ref a) H) ∧ (ys ≠ [] → ∀ p, H p = none → Q (.ref p) (upd H p (.tup (xs ++ ys))))
end
end L2

namespace L2
open PySem PySem.Spec PyProof.Rows

/-! ### places -/
/-- the place that an index of any sign means -/
def ixN (n : Nat) (i : Int) : Option Nat := if 0 ≤ i then (if i < n then some i.toNat else none) else if -(n : Int) ≤ i then some (i + n).toNat else none
def atI {α : Type} (xs : List α) (i : Int) : Option α := (ixN xs.length i).bind fun j => xs[j]?
theorem ixN_seq {n : Nat} {i : Int} {j : Nat} (h : ixN n i = some j) : seqIndex? i n = some j ∧ j < n ∧ -(n : Int) ≤ i ∧ i < n := by
  unfold ixN at h
  by_cases h0 : 0 ≤ i
  · rw [if_pos h0] at h
    by_cases h1 : i < n
    · rw [if_pos h1] at h
      have e : i.toNat = j := Option.some.inj h
      exact ⟨by rw [seqIndex_of h0 h1, e], by omega, by omega, h1⟩
    · rw [if_neg h1] at h; cases h
  · rw [if_neg h0] at h
    by_cases h1 : -(n : Int) ≤ i
    · rw [if_pos h1] at h
      have e : (i + n).toNat = j := Option.some.inj h
      exact ⟨by rw [seqIndex_neg (by omega) h1, e], by omega, h1, by omega⟩
    · rw [if_neg h1] at h; cases h
theorem atI_get {α : Type} {xs : List α} {i : Int} {v : α} (h : atI xs i = some v) : ∃ j, seqIndex? i xs.length = some j ∧ xs[j]? = some v ∧ j < xs.length ∧ -(xs.length : Int) ≤ i ∧ i < xs.length := by
  unfold atI at h
  cases e : ixN xs.length i with
  | none => rw [e] at h; cases h
  | some j =>
    rw [e] at h
    obtain ⟨h1, h2, h3, h4⟩ := ixN_seq e
    exact ⟨j, h1, h, h2, h3, h4⟩
theorem atI_nat {α : Type} {xs : List α} {j : Nat} {v : α} (h : xs[j]? = some v) : atI xs (j : Int) = some v := by
  have hj : j < xs.length := (List.getElem?_eq_some_iff.mp h).1
  have e : ixN xs.length (j : Int) = some j := by
    unfold ixN
    rw [if_pos (by omega), if_pos (by omega)]; simp
  unfold atI; rw [e]; exact h
/-! ### what may be subscripted -/
/-- what stands as an index of a plain subscript -/
def PlainIx (b : Expr) : Prop := ∀ o i, subscripted b false o i = operate [o, i] (getItem o i)
/-- a subscript by values -/
def IxR (X : Cx) (r : R2) : Prop :=
  ∀ (value slice : Expr) (pins : List (Addr × Obj)) (s : Shared) (σ : St) (H : Hp) (x y : V) (v u : Value) (Q : VK), Inv X pins σ H s → RelV x v → RelV y u → r x y H Q →
    subscripted slice false v u = operate [v, u] (getItem v u) → wpAny (model X.prog X.w) X.A (subscriptTail value slice v u) (EP X pins σ Q) X.xe s
/-- a call of a builtin's method by values: the receiver, the arguments -/
def MtR (X : Cx) (id : String) (r : V → List V → Hp → VK → Prop) : Prop :=
  ∀ (pins : List (Addr × Obj)) (s : Shared) (σ : St) (H : Hp) (x : V) (xs : List V) (v : Value) (us : List Value) (Q : VK), Inv X pins σ H s → RelV x v → Vals xs us → r x xs H Q →
    wpAny (model X.prog X.w) X.A (call (.builtin id) (v :: us)) (EP X pins σ Q) X.xe s
section
variable {X : Cx} {a b : Expr} {ta tb : TE} {pos : Pos}
theorem IxR.or {r r' : R2} (h : IxR X r) (h' : IxR X r') : IxR X (fun x y H Q => r x y H Q ∨ r' x y H Q) := by
  intro value slice pins s σ H x y v u Q I rx ry q hs
  rcases q with q | q
  · exact h value slice pins s σ H x y v u Q I rx ry q hs
  · exact h' value slice pins s σ H x y v u Q I rx ry q hs
theorem MtR.or {id : String} {r r' : V → List V → Hp → VK → Prop} (h : MtR X id r) (h' : MtR X id r') : MtR X id (fun x xs H Q => r x xs H Q ∨ r' x xs H Q) := by
  intro pins s σ H x xs v us Q I rx rs q
  rcases q with q | q
  · exact h pins s σ H x xs v us Q I rx rs q
  · exact h' pins s σ H x xs v us Q I rx rs q
/-- a[b] -/
theorem pe_ix {r : R2} (hr : IxR X r) (ha : PE X a ta) (hb : PE X b tb) (hs : PlainIx b) : PE X (.Subscript a b pos) (tOp r ta tb) := by
  intro pins s σ H Q I h
  exact Subscript_ (binT ha hb I h fun v u s2 x y H2 I2 rx ry q => hr a b pins s2 σ H2 x y v u Q I2 rx ry q (hs _ _))

def rIxL (K : PySem.W.Frag) : R2 := fun x y H Q => ∃ p xs i v, x = .ref p ∧ y = .int i ∧ SqL K H p xs ∧ atI xs i = some v ∧ Q v H
def rIxT (K : PySem.W.Frag) : R2 := fun x y H Q => ∃ p xs i v, x = .ref p ∧ y = .int i ∧ SqT K H p xs ∧ atI xs i = some v ∧ Q v H
def rIxS : R2 := fun x y H Q => ∃ z i c, x = .str z ∧ y = .int i ∧ z.length ≤ sizeLine ∧ atI z.cps.toList i = some c ∧ Q (.str ⟨#[c]⟩) H
theorem ix_list : IxR X (rIxL X.K) := by
  intro value slice pins s σ H x y v u Q I rx ry h hs
  obtain ⟨p, xs, i, z, rfl, rfl, hq, he, q⟩ := h
  cases rx
  obtain ⟨t, rfl⟩ := ry
  obtain ⟨its, r, pl, hz⟩ := I.list hq
  obtain ⟨j, h1, h2, h3, h4, h5⟩ := atI_get he
  obtain ⟨w, ew, rw'⟩ := r.get h2
  have hl := r.length
  have hn := line63
  have fin : EP X pins σ Q w s := ⟨z, H, I, rw', q⟩
  by_cases h0 : 0 ≤ i
  · have hj : i.toNat = j := by
      rw [seqIndex_of h0 h5] at h1
      exact Option.some.inj h1
    exact item_listR pl.isList h0 (by omega) (by rw [hj]; simpa using ew) fin hs
  · have hj : (i + (its.toArray.size : Int)).toNat = j := by
      rw [seqIndex_neg (by omega) h4] at h1
      rw [List.size_toArray, ← hl]
      exact Option.some.inj h1
    exact subscriptTail_builtinR (x := w) pl.isList.typeIs slot_list_getitem.lookup
      (wpAny_getItem_list_neg (Q := fun r s' => r = w ∧ EP X pins σ Q r s') pl.isList (by omega) (by rw [List.size_toArray] <;> omega) (by omega) (by rw [hj]; simpa using ew) ⟨rfl, fin⟩) hs
theorem ix_tup : IxR X (rIxT X.K) := by
  intro value slice pins s σ H x y v u Q I rx ry h hs
  obtain ⟨p, xs, i, z, rfl, rfl, hq, he, q⟩ := h
  cases rx
  obtain ⟨t, rfl⟩ := ry
  obtain ⟨its, r, pl, hz⟩ := I.tuple hq
  obtain ⟨j, h1, h2, h3, h4, h5⟩ := atI_get he
  obtain ⟨w, ew, rw'⟩ := r.get h2
  have hl := r.length
  have hn := line63
  have fin : EP X pins σ Q w s := ⟨z, H, I, rw', q⟩
  exact subscriptTail_builtinR (x := w) pl.typeIs slot_tuple_getitem.lookup
    (getItem_tuple (j := j) (Q := fun r s' => r = w ∧ EP X pins σ Q r s') pl (by omega) (by omega) (by rw [List.size_toArray, ← hl]; exact h1) (by simpa using ew) ⟨rfl, fin⟩) hs
theorem ix_str : IxR X rIxS := by
  intro value slice pins s σ H x y v u Q I rx ry h hs
  obtain ⟨z, i, c, rfl, rfl, hz, he, q⟩ := h
  obtain ⟨t, rfl⟩ := rx
  obtain ⟨t', rfl⟩ := ry
  obtain ⟨j, h1, h2, h3, h4, h5⟩ := atI_get he
  have hl : z.cps.toList.length = z.length := by simp [Str.length]
  rw [hl] at h1 h4 h5
  have hn := line63
  exact tail_any (typeIs_str s z t) slot_str_getitem.lookup (getItem_str (c := c) (by
    have e1 : decide (i < -(2 ^ 63 : Int)) = false := decide_eq_false (by omega)
    have e2 : decide (i ≥ 2 ^ 63) = false := decide_eq_false (by omega)
    rw [e1, e2, Bool.or_false]) (by rw [h1]; simpa using h2) ⟨.str ⟨#[c]⟩, H, I.tok _, ⟨_, rfl⟩, q⟩) hs
/-- list, tuple or str -/
def rIx (K : PySem.W.Frag) : R2 := fun x y H Q => rIxL K x y H Q ∨ rIxT K x y H Q ∨ rIxS x y H Q
/-! ### xs[i] = v, any sign -/
theorem Inv.lst {pins : List (Addr × Obj)} {σ : St} {H : Hp} {s : Shared} {p : Addr} {xs : List V} (I : Inv X pins σ H s) (h : H p = some (.lst xs)) :
    ∃ (its : List Value) (n : Nat), Vals xs its ∧ s.heap.get? p = some { cls := .type "list", data := .seq its.toArray n } ∧ xs.length ≤ sizeLine := by
  obtain ⟨z, its, n, r, e⟩ := I.hok p _ h
  exact ⟨its, n, r, e, z⟩
def rSetL : V → V → V → Hp → (Hp → Prop) → Prop := fun o i v H Q => ∃ p xs k j, o = .ref p ∧ i = .int k ∧ H p = some (.lst xs) ∧ ixN xs.length k = some j ∧ Q (upd H p (.lst (xs.set j v)))
/-! ### slices -/
theorem slice_bounds (lo hi : Option Int) (n : Nat) : (sliceBounds lo hi none n).1 = ((HT.sIx n 0 lo : Nat) : Int) ∧ (sliceBounds lo hi none n).2.1 = ((HT.sIx n n hi : Nat) : Int) ∧ (sliceBounds lo hi none n).2.2 = 1 := by
  refine ⟨?_, ?_, rfl⟩
  · cases lo with
    | none => simp [sliceBounds, HT.sIx]
    | some i =>
      simp only [sliceBounds, HT.sIx, Option.getD_none, show (1 : Int) > 0 by decide, if_true]
      by_cases h : i < 0
      · simp only [h, if_true] <;> omega
      · simp only [h, if_false] <;> omega
  · cases hi with
    | none => simp [sliceBounds, HT.sIx]
    | some i =>
      simp only [sliceBounds, HT.sIx, Option.getD_none, show (1 : Int) > 0 by decide, if_true]
      by_cases h : i < 0
      · simp only [h, if_true] <;> omega
      · simp only [h, if_false] <;> omega
theorem slicePick_cut (its : List Value) (lo hi : Option Int) : slicePick its.toArray lo hi none = ((its.drop (HT.sIx its.length 0 lo)).take (HT.sIx its.length its.length hi - HT.sIx its.length 0 lo)).toArray := by
  obtain ⟨h1, h2, h3⟩ := slice_bounds lo hi its.toArray.size
  unfold slicePick
  rw [h1, h2, h3]
  simp only [sliceRange_one, pick_run, List.size_toArray] <;> rfl
/-- xs[lo:hi] of a list: a new list -/
def rSlL (K : PySem.W.Frag) : V → Option Int → Option Int → Hp → VK → Prop := fun x lo hi H Q => ∃ a xs, x = .ref a ∧ SqL K H a xs ∧ ∀ p, H p = none → Q (.ref p) (upd H p (.lst (cutV xs lo hi)))
theorem sl_list : SlR X (rSlL X.K) := by
  intro pins s σ H x v vl vu lo hi sl Q I rx hs pl pu h
  obtain ⟨a, xs, rfl, hx, q⟩ := h
  cases rx
  obtain ⟨its, r, ht, hz⟩ := I.list hx
  have hlen := r.length
  refine ⟨"list", _, slot_list_getitem.lookup, ht.isList.typeIs, ?_⟩
  refine wpAny_getItem_list_slice ht.isList hs pl pu .none (by simp) ?_ (by rw [List.size_toArray] <;> omega)
  rw [slicePick_cut, ← hlen]
  refine ⟨.ref s.heap.objs.size, _, I.laid (t' := s.toks) (o := .lst (cutV xs lo hi)) (fun b ob q => Heap.get?_push_of_some _ q) (Nat.le_refl _) ?_, rfl, q _ (I.hok.fresh (Nat.le_refl _))⟩
  exact ⟨Nat.le_trans (cutV_length xs lo hi) hz, _, 0, (r.drop (HT.sIx xs.length 0 lo)).take (HT.sIx xs.length xs.length hi - HT.sIx xs.length 0 lo), Heap.get?_push_size _ rfl⟩

/-! ### in, not in: flat items -/
def flatV : V → Bool
  | .non => true
  | .bl _ => true
  | .int _ => true
  | .str _ => true
  | _ => false
/-- == of flat values -/
def eqV : V → V → Bool
  | .non, .non => true
  | .bl a, .bl b => a == b
  | .bl a, .int b => (if a then 1 else 0) == b
  | .int a, .bl b => a == (if b then 1 else 0)
  | .int a, .int b => a == b
  | .str a, .str b => a == b
  | _, _ => false
theorem eqAt_V {A : Around} {s : Shared} {y x : V} {u v : Value} (ry : RelV y u) (rx : RelV x v) (fy : flatV y = true) (fx : flatV x = true) : SeqAt.EqAt A s u v (eqV y x) := by
  cases y with
  | non =>
    cases ry
    cases x with
    | non => cases rx; exact SeqAt.EqAt.same _
    | bl b => cases rx; exact SeqAt.EqAt.none_bool b
    | int b => obtain ⟨t, rfl⟩ := rx; exact SeqAt.EqAt.none_int b t
    | str b => obtain ⟨t, rfl⟩ := rx; exact SeqAt.EqAt.none_str b t
    | _ => exact absurd (show false = true from fx) Bool.false_ne_true
  | bl a =>
    cases ry
    cases x with
    | non => cases rx; exact SeqAt.EqAt.bool_none a
    | bl b => cases rx; exact SeqAt.EqAt.bool_bool a b
    | int b => obtain ⟨t, rfl⟩ := rx; exact SeqAt.EqAt.bool_int a b t
    | str b => obtain ⟨t, rfl⟩ := rx; exact SeqAt.EqAt.bool_str a b t
    | _ => exact absurd (show false = true from fx) Bool.false_ne_true
  | int a =>
    obtain ⟨t', rfl⟩ := ry
    cases x with
    | non => cases rx; exact SeqAt.EqAt.int_none a t'
    | bl b => cases rx; exact SeqAt.EqAt.int_bool a t' b
    | int b => obtain ⟨t, rfl⟩ := rx; exact SeqAt.EqAt.int_int a t' b t
    | str b => obtain ⟨t, rfl⟩ := rx; exact SeqAt.EqAt.int_str a t' b t
    | _ => exact absurd (show false = true from fx) Bool.false_ne_true
  | str a =>
    obtain ⟨t', rfl⟩ := ry
    cases x with
    | non => cases rx; exact SeqAt.EqAt.str_none a t'
    | bl b => cases rx; exact SeqAt.EqAt.str_bool a t' b
    | int b => obtain ⟨t, rfl⟩ := rx; exact SeqAt.EqAt.str_int a t' b t
    | str b => obtain ⟨t, rfl⟩ := rx; exact SeqAt.EqAt.str_str a t' b t
    | _ => exact absurd (show false = true from fx) Bool.false_ne_true
  | _ => exact absurd (show false = true from fy) Bool.false_ne_true
/-- the items' answers, read off the values (a value's own answer does not lean on its token) -/
def eqU (x : V) (u : Value) : Bool := match u with
  | .none => eqV .non x
  | .bool b => eqV (.bl b) x
  | .int i _ => eqV (.int i) x
  | .str z _ => eqV (.str z) x
  | _ => false
def inV (x : V) (xs : List V) : Bool := xs.any fun y => eqV y x
/-- x in a list or tuple of flat items -/
def rIn (K : PySem.W.Frag) (neg : Bool) : R2 := fun x y H Q => ∃ p xs, y = .ref p ∧ (SqL K H p xs ∨ SqT K H p xs) ∧ flatV x = true ∧ xs.all flatV = true ∧ Q (.bl (if neg then !inV x xs else inV x xs)) H
/-! ### len, list(x), tuple(x) of any list or tuple that is read -/
theorem call_len_seq : CallR X (.builtin "len") (fun xs H Q => ∃ p ys, xs = [.ref p] ∧ (SqL X.K H p ys ∨ SqT X.K H p ys) ∧ Q (.int ys.length) H) := by
  intro pins s σ H xs us Q I r h
  obtain ⟨p, ys, rfl, hq, q⟩ := h
  obtain ⟨u, rfl, rx⟩ := vals1 r
  cases rx
  have hn := line63
  rcases hq with hq | hq
  · obtain ⟨its, r', pl, hz⟩ := I.list hq
    have hlen := r'.length
    exact Calls.call_len_list pl.isList (by simp only [List.size_toArray] <;> omega) ⟨.int ys.length, H, I.tok _, ⟨s.toks + 1, by rw [List.size_toArray, hlen]⟩, q⟩
  · obtain ⟨its, r', pl, hz⟩ := I.tuple hq
    have hlen := r'.length
    exact len_tuple pl (by simp only [List.size_toArray] <;> omega) ⟨.int ys.length, H, I.tok _, ⟨s.toks + 1, by rw [List.size_toArray, hlen]⟩, q⟩
theorem call_len_str : CallR X (.builtin "len") (fun xs H Q => ∃ z, xs = [.str z] ∧ z.length ≤ sizeLine ∧ Q (.int z.length) H) := by
  intro pins s σ H xs us Q I r h
  obtain ⟨z, rfl, hz, q⟩ := h
  obtain ⟨u, rfl, t, rfl⟩ := vals1 r
  have hn := line63
  exact len_str (by omega) ⟨.int z.length, H, I.tok _, ⟨_, rfl⟩, q⟩
theorem CallR.or {f : Value} {r r' : List V → Hp → VK → Prop} (h : CallR X f r) (h' : CallR X f r') : CallR X f (fun xs H Q => r xs H Q ∨ r' xs H Q) := by
  intro pins s σ H xs us Q I rs q
  rcases q with q | q
  · exact h pins s σ H xs us Q I rs q
  · exact h' pins s σ H xs us Q I rs q
theorem call_tuple_of : CallR X (.type "tuple") (fun xs H Q => ∃ p ys, xs = [.ref p] ∧ ((SqL X.K H p ys ∧ ∀ l, H l = none → Q (.ref l) (upd H l (.tup ys))) ∨ (SqT X.K H p ys ∧ Q (.ref p) H))) := by
  intro pins s σ H xs us Q I r h
  obtain ⟨p, ys, rfl, h⟩ := h
  obtain ⟨u, rfl, rx⟩ := vals1 r
  cases rx
  rcases h with ⟨hq, q⟩ | ⟨hq, q⟩
  · obtain ⟨its, r', pl, hz⟩ := I.list hq
    have hlen := r'.length
    refine call_tuple_list pl.isList (fun h' kp => ?_) (by simp only [List.size_toArray] <;> omega)
    have I1 : Inv X pins σ H { s with heap := h' } := I.kept (t' := s.toks) kp
    have I2 : Inv X pins σ (upd H h'.objs.size (.tup ys)) { s with heap := h'.push { cls := .type "tuple", data := .seq its.toArray } } :=
      I1.laid (t' := s.toks) (fun b o e => Heap.get?_push_of_some _ e) (Nat.le_refl _) (show ObjOk X.prog X.w _ _ _ (.tup ys) from ⟨hz, its, r', IsTup.new _ _⟩)
    exact ⟨.ref h'.objs.size, _, I2, rfl, q _ (I1.hok.fresh (Nat.le_refl _))⟩
  · obtain ⟨its, r', pl, hz⟩ := I.tuple hq
    exact call_tuple_same pl ⟨.ref p, H, I, rfl, q⟩

/-! ### the call of a builtin's method: o.m(..) -/
/-- the value is of that builtin type -/
def tyV (K : PySem.W.Frag) (T : String) (x : V) (H : Hp) : Prop := match x with
  | .str _ => T = "str"
  | .int _ => T = "int"
  | .ref p => (T = "list" ∧ ∃ xs, SqL K H p xs) ∨ (T = "tuple" ∧ ∃ o, K.lookup p = some o ∧ o.cls = .type "tuple" ∧ o.dict = none) ∨
      (T = "dict" ∧ ((∃ kvs, H p = some (.dK kvs)) ∨ ∃ kvs, H p = some (.dT kvs))) ∨ (T = "set" ∧ ∃ S n, H p = some (.set S n))
  | _ => False
theorem tyV_is {pins : List (Addr × Obj)} {σ : St} {H : Hp} {s : Shared} {T : String} {x : V} {v : Value} (I : Inv X pins σ H s) (r : RelV x v) (ty : tyV X.K T x H) :
    s.TypeIs v T ∧ ∀ a, v = .ref a → ∃ ob, s.heap.get? a = some ob ∧ ob.dict = none := by
  cases x with
  | str z =>
    obtain ⟨t, rfl⟩ := r
    cases (show T = "str" from ty)
    exact ⟨typeIs_str s z t, fun _ e => nomatch e⟩
  | int i =>
    obtain ⟨t, rfl⟩ := r
    cases (show T = "int" from ty)
    exact ⟨typeIs_int s i t, fun _ e => nomatch e⟩
  | ref p =>
    cases r
    rcases ty with ⟨rfl, xs, hq⟩ | ⟨rfl, o, hk, hc, hd⟩ | ⟨rfl, hk⟩ | ⟨rfl, S, n, hk⟩
    · obtain ⟨its, _, pl, _⟩ := I.list hq
      refine ⟨pl.isList.typeIs, fun a e => ?_⟩
      cases e
      obtain ⟨o, n, e, c, hd, _⟩ := pl
      exact ⟨o, e, hd⟩
    · refine ⟨⟨o, I.kIn p o hk, hc⟩, fun a e => ?_⟩
      cases e
      exact ⟨o, I.kIn _ o hk, hd⟩
    · have z : ∃ o, s.heap.get? p = some o ∧ o.ExactDict := by
        rcases hk with ⟨kvs, hk⟩ | ⟨kvs, hk⟩
        · obtain ⟨_, _, _, _, o, _, _, e, ex, _⟩ := I.hok p _ hk
          exact ⟨o, e, ex⟩
        · obtain ⟨_, _, _, _, o, _, _, e, ex, _⟩ := I.hok p _ hk
          exact ⟨o, e, ex⟩
      obtain ⟨o, e, ex⟩ := z
      refine ⟨⟨o, e, ex.1⟩, fun a e2 => ?_⟩
      cases e2
      exact ⟨o, e, ex.2.1⟩
    · obtain ⟨o, _, _, _, e, ex, _⟩ := I.hok p _ hk
      refine ⟨⟨o, e, ex.1⟩, fun a e2 => ?_⟩
      cases e2
      exact ⟨o, e, ex.2.1⟩
  | _ => exact False.elim ty
def tBM0 (K : PySem.W.Frag) (T : String) (r : V → List V → Hp → VK → Prop) (to : TE) : TE := fun σ H Q => to σ H fun x H1 => tyV K T x H1 ∧ r x [] H1 Q
def tBM (K : PySem.W.Frag) (T : String) (r : V → List V → Hp → VK → Prop) (to : TE) (t : TA) : TE := fun σ H Q => to σ H fun x H1 => tyV K T x H1 ∧ t σ H1 fun xs H2 => r x xs H2 Q
variable {o e : Expr} {es : List Expr} {to : TE} {t : TA} {name : Str} {apos cpos : Pos} {T id : String} {r : V → List V → Hp → VK → Prop}
theorem pe_bm0 (pa : PlainAttrs T) (slot : Slot T name id) (hty : typeOf (.builtin id) = pure (.type "method_descriptor")) (hm : MtR X id r) (ho : PE X o to)
    (hbase : attributeBase o name X.env (eval o X.env) = eval o X.env := by rfl) (hline : (apos.endLine == cpos.line) = true := by rfl) : PE X (.Call (.Attribute o name apos) [] [] cpos) (tBM0 X.K T r to) := by
  intro pins s σ H Q I h
  refine wpAny_Call_method0_late hbase hline (thn (ho pins s σ H _ I h) fun v s1 ⟨x, H1, I1, r1, ty, q1⟩ => ?_)
  obtain ⟨h1, h2⟩ := tyV_is I1 r1 ty
  exact ⟨T, id, pa, slot, hty, h1, h2, Calls.callWith_builtin rfl (PySem.evalArgs_none (hm pins s1 σ H1 x [] v [] Q I1 r1 .nil q1))⟩
theorem pe_bm (pa : PlainAttrs T) (slot : Slot T name id) (hty : typeOf (.builtin id) = pure (.type "method_descriptor")) (hm : MtR X id r) (ho : PE X o to) (ha : PA X (e :: es) t)
    (hbase : attributeBase o name X.env (eval o X.env) = eval o X.env := by rfl)
    (hfew : ((backTo cpos (starEach (e :: es) X.env)).all (fun x => !x.1) && (backToKw cpos (keywordEach [] X.env)).all (fun x => x.1.isSome)
      && decide ((e :: es).length + ([] : List Keyword).length + (if ([] : List Keyword).isEmpty then 0 else 1) < 30)) = true := by rfl)
    (hline : (apos.endLine == cpos.line) = true := by rfl) (hs : starEach (e :: es) X.env = (false, eval e X.env) :: starEach es X.env := by rfl) (hplain : (backTo cpos (starEach es X.env)).any (·.1) = false := by rfl) :
    PE X (.Call (.Attribute o name apos) (e :: es) [] cpos) (tBM X.K T r to t) := by
  intro pins s σ H Q I h
  refine wpAny_Call_method_late hbase hfew hline rfl (thn (ho pins s σ H _ I h) fun v s1 ⟨x, H1, I1, r1, ty, q1⟩ => ?_)
  obtain ⟨h1, h2⟩ := tyV_is I1 r1 ty
  refine ⟨T, id, pa, slot, hty, h1, h2, ?_⟩
  have hA := ha cpos pins s1 σ H1 _ I1 q1
  rw [hs] at hA ⊢
  refine Calls.callWith_builtin (by show (false || (backTo cpos (starEach es X.env)).any (·.1)) = false; rw [hplain] <;> rfl) (Calls.evalArgs_plain ?_)
  exact thn hA fun us s2 ⟨vs, H2, I2, r2, q2⟩ => hm pins s2 σ H2 x vs v us Q I2 r1 r2 q2
/- xs.append(e), list.index on a module's tuple .. are MtR facts of 06m -/
end
end L2

namespace L2
open PySem PySem.Spec PyProof.Rows

def MtM (X : Cx) (id : String) (r : V → List V → Hp → VK → Prop) : Prop :=
  ∀ (pins : List (Addr × Obj)) (s : Shared) (σ : St) (H : Hp) (x : V) (xs : List V) (v : Value) (us : List Value) (Q : VK), Inv X pins σ H s → RelV x v → Vals xs us → r x xs H Q →
    wpAny (model X.prog X.w) X.A (call (.builtin id) (v :: us)) (EP X pins σ Q) X.xe s

/-! ### lists of values -/
theorem Vals.one : ∀ {x : V} {us : List Value}, Vals [x] us → ∃ u, us = [u] ∧ RelV x u
  | _, _, .cons r .nil => ⟨_, rfl, r⟩
theorem Vals.two : ∀ {x y : V} {us : List Value}, Vals [x, y] us → ∃ u v, us = [u, v] ∧ RelV x u ∧ RelV y v
  | _, _, _, .cons r (.cons q .nil) => ⟨_, _, rfl, r, q⟩
theorem Vals.zero : ∀ {us : List Value}, Vals [] us → us = []
  | _, .nil => rfl
theorem Vals.dropLast {xs : List V} {us : List Value} (h : Vals xs us) : Vals xs.dropLast us.dropLast := by
  induction h with
  | nil => exact .nil
  | cons r t ih =>
    cases t with
    | nil => exact .nil
    | cons q t' => exact .cons r ih
theorem Vals.eraseIdx : ∀ {xs : List V} {us : List Value} (i : Nat), Vals xs us → Vals (xs.eraseIdx i) (us.eraseIdx i)
  | _, _, _, .nil => .nil
  | _, _, 0, .cons _ t => t
  | _, _, i + 1, .cons r t => .cons r (Vals.eraseIdx i t)
theorem Vals.reverse {xs : List V} {us : List Value} (h : Vals xs us) : Vals xs.reverse us.reverse := by
  induction h with
  | nil => exact .nil
  | cons r t ih => rw [List.reverse_cons, List.reverse_cons]; exact Vals.append ih (.cons r .nil)
section
variable {X : Cx} {pins : List (Addr × Obj)} {σ : St} {H : Hp} {s : Shared} {l b : Addr} {xs ys zs : List V}

/-! ### the two steps: a tracked list is rewritten, a new list is laid -/
theorem Inv.lset {its its' : List Value} {n : Nat} {f : Array Value → Array Value} {t' : Nat} (I : Inv X pins σ H s) (hH : H l = some (.lst xs))
    (e : s.heap.get? l = some { cls := .type "list", data := .seq its.toArray n }) (hf : f its.toArray = its'.toArray) (hv : Vals ys its') (hz : ys.length ≤ sizeLine) :
    Inv X pins σ (upd H l (.lst ys)) { s with heap := s.heap.update l (Obj.mapSeq f), toks := t' } := by
  have q := PySem.IsL.update e f
  rw [hf] at q
  refine I.write (x := l) (e := l) (by rw [hH]; exact trivial) (.inl rfl) (fun b' u hb hu => (Heap.get?_update_other s.heap (Obj.mapSeq f) (Ne.symm hb)).trans hu) ⟨_, q⟩ ?_
  exact ⟨hz, its', _, hv, q⟩
theorem Inv.lnew {its : List Value} {t' : Nat} (I : Inv X pins σ H s) (hv : Vals ys its) (hz : ys.length ≤ sizeLine) :
    Inv X pins σ (upd H s.heap.objs.size (.lst ys)) { s with heap := s.heap.push { cls := .type "list", data := .seq its.toArray }, toks := t' } :=
  I.laid (fun _ _ q => Heap.get?_push_of_some _ q) (Nat.le_refl _) ⟨hz, its, 0, hv, Heap.get?_push_size _ rfl⟩
theorem Inv.fresh (I : Inv X pins σ H s) : H s.heap.objs.size = none := I.hok.fresh (Nat.le_refl _)
theorem Inv.lstM (I : Inv X pins σ H s) (hH : H l = some (.lst xs)) : xs.length ≤ sizeLine ∧ ∃ (its : List Value) (n : Nat), Vals xs its ∧ xs.length = its.length ∧ s.heap.get? l = some { cls := .type "list", data := .seq its.toArray n } := by
  obtain ⟨z, its, n, r, e⟩ := I.hok l _ hH
  exact ⟨z, its, n, r, r.length, e⟩

end

section
variable {X : Cx}

/-! ### methods -/
def rAppend : V → List V → Hp → VK → Prop := fun x vs H Q => ∃ l xs y, x = .ref l ∧ vs = [y] ∧ H l = some (.lst xs) ∧ xs.length < sizeLine ∧ Q .non (upd H l (.lst (xs ++ [y])))
theorem mt_append : MtM X "list.append" rAppend := by
  intro pins s σ H x vs v us Q I rx rv h
  obtain ⟨l, xs, y, rfl, rfl, hH, hz, q⟩ := h
  cases rx
  obtain ⟨u, rfl, ru⟩ := rv.one
  obtain ⟨z, its, n, r, hl, e⟩ := I.lstM hH
  refine call_meets F.slot_list_append ⟨_, e, rfl⟩ F.entry_list_append (F.args_list_append_2 _ _) (PySem.list_append l its.toArray n u (by rw [List.size_toArray]; omega)) ⟨e, ?_⟩
  refine ⟨.non, _, I.lset (its' := its ++ [u]) hH e (by simp) (r.append (.cons ru .nil)) ?_, rfl, q⟩
  rw [List.length_append, List.length_singleton]
  omega

def rExtend : V → List V → Hp → VK → Prop := fun x vs H Q => ∃ l b xs zs, x = .ref l ∧ vs = [.ref b] ∧ H l = some (.lst xs) ∧ H b = some (.lst zs) ∧ xs.length + zs.length ≤ sizeLine ∧ Q .non (upd H l (.lst (xs ++ zs)))
def rPop : V → List V → Hp → VK → Prop := fun x vs H Q => ∃ l xs y, x = .ref l ∧ vs = [] ∧ H l = some (.lst xs) ∧ xs[xs.length - 1]? = some y ∧ Q y (upd H l (.lst xs.dropLast))
def rPopAt : V → List V → Hp → VK → Prop := fun x vs H Q => ∃ l xs i k y, x = .ref l ∧ vs = [.int i] ∧ H l = some (.lst xs) ∧ -(2 ^ 63) ≤ i ∧ i < 2 ^ 63 ∧ seqIndex? i xs.length = some k ∧ xs[k]? = some y ∧ Q y (upd H l (.lst (xs.eraseIdx k)))
def rReverse : V → List V → Hp → VK → Prop := fun x vs H Q => ∃ l xs, x = .ref l ∧ vs = [] ∧ H l = some (.lst xs) ∧ Q .non (upd H l (.lst xs.reverse))
def rClear : V → List V → Hp → VK → Prop := fun x vs H Q => ∃ l xs, x = .ref l ∧ vs = [] ∧ H l = some (.lst xs) ∧ Q .non (upd H l (.lst []))
theorem mt_clear : MtM X "list.clear" rClear := by
  intro pins s σ H x vs v us Q I rx rv h
  obtain ⟨l, xs, rfl, rfl, hH, q⟩ := h
  cases rx
  have hus := rv.zero
  subst hus
  obtain ⟨z, its, n, r, hl, e⟩ := I.lstM hH
  refine call_meets F.slot_list_clear ⟨_, e, rfl⟩ F.entry_list_clear (F.args_list_clear_1 _) (AutoSeq1.list_clear_list_0 l its.toArray n (by rw [List.size_toArray]; omega)) ⟨e, ?_⟩
  exact ⟨.non, _, I.lset (its' := []) (ys := []) hH e rfl .nil (Nat.zero_le _), rfl, q⟩

/-! ### list + list, list += list, list * int -/
def rCat : R2 := fun x y H Q => ∃ l b xs zs, x = .ref l ∧ y = .ref b ∧ H l = some (.lst xs) ∧ H b = some (.lst zs) ∧ xs.length + zs.length ≤ sizeLine ∧ ∀ p, H p = none → Q (.ref p) (upd H p (.lst (xs ++ zs)))
theorem op_cat : OpR X (binaryOp .Add) rCat := by
  intro pins s σ H x y v u Q I rx ry h
  obtain ⟨l, b, xs, zs, rfl, rfl, hH, hB, hz, q⟩ := h
  cases rx
  cases ry
  obtain ⟨z, its, n, r, hl, e⟩ := I.lstM hH
  obtain ⟨z2, its2, n2, r2, hl2, e2⟩ := I.lstM hB
  refine PySem.P.add_list e e2 ?_ (by rw [List.size_toArray, List.size_toArray]; omega)
  have ea : its.toArray ++ its2.toArray = (its ++ its2).toArray := by simp
  rw [ea]
  exact ⟨.ref _, _, I.lnew (t' := s.toks) (r.append r2) (by rw [List.length_append]; omega), rfl, q _ I.fresh⟩
/-- a list times an int (a negative one is nothing) -/
def rRep : R2 := fun x y H Q => ∃ l k xs, x = .ref l ∧ y = .int k ∧ H l = some (.lst xs) ∧ -(2 ^ 63) ≤ k ∧ k < 2 ^ 63 ∧ xs.length * k.toNat ≤ sizeLine ∧
  ∀ p, H p = none → Q (.ref p) (upd H p (.lst (List.replicate k.toNat xs).flatten))
/-! ### del xs[i] -/
end

/-! ### xs[a:b] = ys -/
section
variable {prog : Program} {w : World} {A : Around} {E : Value → Shared → Prop} {s : Shared}
end

section
variable {X : Cx}
end
end L2

namespace Att
open PySem PySem.W PySem.Calls PyProof.Rows

/-! ### the script -/
theorem ints_of_wellAll {P : Params} {h : Heap} : ∀ (ns : List Int) (vs : List Value), WellAll P h vs (ns.map WData.int) → IntsAre vs ns := by
  intro ns
  induction ns with
  | nil =>
    intro vs w
    rw [List.map_nil] at w
    cases w
    exact .nil
  | cons n ns ih =>
    intro vs w
    rw [List.map_cons] at w
    cases w with
    | cons a b =>
      cases a
      exact .cons _ _ (ih _ b)

theorem script_of {l : OpenLaw} {n : Nat} (hn : l.most = some n) {P : Params} {h : Heap} {args : List WData} {vals : List Value}
    (hpre : l.row.toRowW.claim.pre args = true) (hwl : WellAll P h vals args) :
    ∃ a vs ns, vals = [Value.ref a] ∧ args = [WData.list (ns.map WData.int)] ∧ h.get? a = some { cls := .type "list", data := .seq vs.toArray } ∧ IntsAre vs ns ∧ ns.length ≤ n := by
  have hsh : WShape.hasAll [] args [.list .int] = true := (pre_splitW hpre).1
  have hc : l.pre.holds [] { args := args } = true := (pre_splitW hpre).2
  obtain ⟨d, r, rfl, h1, h2⟩ := hasAllW_cons hsh
  obtain rfl := hasAllW_nil h2
  obtain ⟨xs, rfl, h3⟩ := hasW_list h1
  obtain ⟨ns, rfl⟩ := items_int h3
  have hlen : ns.length ≤ n := by
    unfold OpenLaw.pre at hc
    have h4 : (WTm.not (.lt (.lit (.int (n : Int))) (.len (.arg 0)))).holds [] { args := [.list (ns.map .int)] } = true := by
      have h4 := (holds_andW hc).1
      rw [hn] at h4
      exact h4
    have h5 := condW_of h4 (w_not (w_lt w_lit (w_len_list (w_arg rfl))))
    rw [List.length_map] at h5
    refine Nat.le_of_not_lt fun q => ?_
    have q' : (n : Int) < ((ns.length : Nat) : Int) := by omega
    first
      | (rw [decide_eq_true q'] at h5; exact absurd h5 (by decide))
      | (simp at h5; omega)
  cases hwl with
  | cons w1 w2 =>
    cases w2
    cases w1 with
    | list ho hall => exact ⟨_, _, ns, rfl, rfl, ho, ints_of_wellAll ns _ hall, hlen⟩

theorem post_true (l : OpenLaw) (args : List WData) : l.row.toRowW.claim.post args (.bool true) args = true :=
  postW_of (r := l.row.toRowW) (X := (true == true))
    (show WShape.has [] (.bool true) .bool = true by first | rfl | decide | simp [WShape.has, WShape.arms, WShape.armsAll])
    (show (WTm.eq .res (.lit (.bool true))).value [] { args := args, res := some (.bool true), after := args } = some (.bool (true == true)) from w_eq_bool (w_res rfl) w_lit) rfl

/-! ### the attachment: holds_open's last premise (the goal 'hc' behind k_head) from a wpAny of the law's body -/
/-- the same from a codeAny of the CALL (for a layer whose function contracts speak of calls) -/
theorem attach_call {l : OpenLaw} {n : Nat} {q : Program} {loose : List Str} {XP : (Str → Option Value) → Heap → Prop} {YP : World → Heap → Prop} {d : DefRec}
    (hn : l.most = some n) (hdf : d.params.defaults = [])
    (call : ∀ (w : World) (s₀ s₁ : Shared) (mg mb : Str → Option Value) (fa : Addr) (o : Obj) (pm cd doc : Value) (a : Addr) (vs : List Value) (ns : List Int),
      Ground q loose [] XP w s₀ mg mb s₁.heap → YP w s₁.heap →
      s₁.heap.get? fa = some o → o.data = .func (docDef d.name d.params d.body d.scope pm cd doc) → s₁.heap.CodeRec cd d.name → mg d.name = some (.ref fa) →
      s₁.heap.get? a = some { cls := .type "list", data := .seq vs.toArray } → IntsAre vs ns → ns.length ≤ n → s₁.gens = #[] →
      codeAny (model l.prog w) callerA (.call (.ref fa) ⟨[.ref a], []⟩) (fun r s' => r = .ok (.ret (.bool true)) ∧ OldK s₁.heap s'.heap ∧ s'.os = s₁.os ∧ AllBare s'.gens) s₁) :
    WalkO q loose XP YP l.row.toRowW d [] (fun f vs => PySem.call f vs) := by
  intro w s₀ s₁ mg mb G Y fa o pm cd doc dV kV ho hd hcd hD hmg hg args vals as hpre hlay hrd hwl hlo
  obtain rfl : dV = .none := Dflts.none hD hdf
  obtain rfl : kV = .none := Dflts.noKw hD
  obtain ⟨a, vs, ns, rfl, rfl, hobj, hints, hlen⟩ := script_of hn hpre hwl
  refine enter_call (codeAny_mono (call w s₀ s₁ mg mb fa o pm cd doc a vs ns G Y ho (fd_plain hd) hcd hmg hobj hints hlen hg) fun r s' hq => ?_)
  obtain ⟨rfl, h2, h3, h4⟩ := hq
  exact ⟨.inl ⟨.bool true, .bool true, [], rfl, fun _ => rfl, .bool true, post_true l _, fun _ => ⟨List.Pairwise.nil, fun _ hm => (nomatch hm)⟩⟩, h2, h3, h4⟩

/-! ### rules over ANY heap (no ledger) from facts about the written part K: the library's own take a ledger (News) for what they write -/
section
variable {prog : Program} {w : World} {A : Around} {E : Value → Shared → Prop} {s : Shared} {K : Frag}

/-! the whole heap as the ledger: makes every rule that writes through a ledger a rule over any heap -/
def noObjs (h : Heap) : Heap := { h with objs := #[] }
def ledger (h : Heap) (L d : Addr) : List (Addr × Obj) := (List.range h.objs.size).filterMap fun a => if a = L ∨ a = d then none else (h.get? a).map fun o => (a, o)
end
end Att

namespace L2
open PySem PySem.Spec PyProof.Rows

theorem vals_ints : ∀ {vs : List Value} {ns : List Int}, IntsAre vs ns → Vals (ns.map V.int) vs
  | _, _, .nil => .nil
  | _, _, .cons n t h => .cons ⟨t, rfl⟩ (vals_ints h)

/-- nothing is tracked but the script, known to the object (or it is an object of the module) -/
def Only (H : Hp) : Prop := ∀ b, H b = none ∨ ∃ o xs, H b = some (.frz o (.lst xs))

/-- THE HEAD: the law's promise, at the heap behind the top. F, the promise of the law's def, may use that base is part of the heap (so K.In base, base.Ns mainGlobals mg stand in Mod) -/
theorem law_call {P : Program} {w : World} {K : PySem.W.Frag} {mg mb : Str → Option Value} {CX : CXT} {k : Nat} {fa a : Addr} {fd : FuncData} {x : Str} {sp : Sp} {s₁ : Shared} {vs : List Value} {ns : List Int}
    (KX : K.In s₁.heap) (hns : s₁.heap.Ns mainGlobals mg) (hb : s₁.heap.Ns builtinsNs mb) (hbb : ∀ x : Str, x ≠ "__name__" → mb x = bootBuiltins x) (hlim : s₁.heap.NoLimit) (hg : s₁.gens = #[])
    (ha : s₁.heap.get? a = some { cls := .type "list", data := .seq vs.toArray }) (hi : IntsAre vs ns) (hl : ns.length ≤ sizeLine) (hr : Room k callerA)
    (F : ∀ base : Heap, K.In base → base.Ns mainGlobals mg → FnOk P w K mg base CX k fa fd [x] sp) (hbind : ∀ (s : Shared) (u : Value), BindsTo s fd ⟨[u], []⟩ [(x, u)])
    (hsp : ∀ H : Hp, Only H → SqL K H a (ns.map V.int) → sp [.ref a] H (fun v _ => v = .bl true) fun _ _ _ => False)
    (hCX : ∀ H e s', CX [] H s₁ (fun _ _ _ => False) e s' → False) :
    codeAny (model P w) callerA (.call (.ref fa) ⟨[.ref a], []⟩) (fun r s' => r = .ok (.ret (.bool true)) ∧ OldK s₁.heap s'.heap ∧ s'.os = s₁.os ∧ AllBare s'.gens) s₁ := by
  have rv := vals_ints hi
  have lenV := hi.length
  -- from an abstract heap in which nothing but the script may be tracked
  have core : ∀ H : Hp, Only H → SqL K H a (ns.map V.int) → HOk P w H s₁.heap → (∀ b, H b ≠ none → b = a) → (H a ≠ none → K.lookup a = none) →
      codeAny (model P w) callerA (.call (.ref fa) ⟨[.ref a], []⟩) (fun r s' => r = .ok (.ret (.bool true)) ∧ OldK s₁.heap s'.heap ∧ s'.os = s₁.os ∧ AllBare s'.gens) s₁ := by
    intro H hO hS hok hA hK
    have base_of : ∀ {b : Addr} {o : Obj}, s₁.heap.get? b = some o → H b = none → (hidT s₁.heap H).get? b = some o := fun e n => hidT_get e n
    have noA : ∀ {b : Addr} {o : Obj} {es : Array DictEntry} {ep : Nat}, s₁.heap.get? b = some o → o.data = .dict es ep → H b = none := fun {b o es ep} e d => by
      cases q : H b with
      | none => rfl
      | some u =>
        have e' : b = a := hA b (by rw [q]; simp)
        subst e'
        rw [ha] at e; cases e
        have d' : Data.seq vs.toArray _ = Data.dict es ep := d
        cases d'
    have nsK : ∀ {b : Addr} {m : Str → Option Value}, s₁.heap.Ns b m → (hidT s₁.heap H).Ns b m := fun {b m} ⟨o, es, ep, e, d, r⟩ => ⟨o, es, ep, base_of e (noA e d), d, r⟩
    have hKb : K.In (hidT s₁.heap H) := fun b o e => base_of (KX b o e) (by
      cases q : H b with
      | none => rfl
      | some u =>
        have e' : b = a := hA b (by rw [q]; simp)
        subst e'
        rw [hK (by rw [q]; simp)] at e; cases e)
    have hM : Mod K mg (hidT s₁.heap H) := ⟨hKb, nsK hns, ⟨mb, nsK hb, hbb⟩, let ⟨mc, h1, h2⟩ := hlim; ⟨mc, nsK h1, h2⟩⟩
    have e0 : Env0 P w K mg (hidT s₁.heap H) callerA [] s₁ H := ⟨rfl, hM, fun b o e => of_hidT e, Nat.le_of_eq (hidT_size _ _), trivial, fun b hb => absurd (show b ∈ ([] : List Addr) from hb) (by simp), hok, .of_eq hg⟩
    refine codeAny_mono ((F _ hKb (nsK hns)).run callerA [] s₁ H ⟨[.ref a], []⟩ [.ref a] [.ref a] _ _ hr e0 (hbind s₁ (.ref a)) (.cons rfl .nil) (hsp H hO hS)) fun r s' h => ?_
    cases r with
    | error e => exact (hCX H e s' h).elim
    | ok fl =>
      cases fl with
      | next => exact False.elim h
      | brk => exact False.elim h
      | cont => exact False.elim h
      | ret u =>
        obtain ⟨v, H', os, bare, un, hok', r', q⟩ := h
        have q' : v = .bl true := q
        subst q'
        obtain rfl : u = Value.bool true := r'
        refine ⟨rfl, OldK.of_keep fun b o e => ?_, os, bare⟩
        cases q : H b with
        | none => exact un.keep b o e q (by intro z; exact absurd (show b ∈ ([] : List Addr) from z) (by simp)) (by simp)
        | some u =>
          rcases hO b with z | ⟨ob, xs, z⟩
          · rw [q] at z; cases z
          · have z2 := un.frzs b ob _ z
            obtain ⟨e1, _⟩ := hok b _ z
            obtain ⟨e2, _⟩ := hok' b _ z2
            rw [e] at e1; cases e1
            exact e2
  cases hk : K.lookup a with
  | some o =>
    -- the script is one of the module's own objects
    have e := KX a o hk
    rw [ha] at e
    cases e
    refine core (fun _ => none) (fun _ => .inl rfl) (.inr ⟨_, vs.toArray, _, hk, rfl, rfl, rfl, by rw [List.size_toArray, lenV]; exact hl, by simpa using rv⟩) (fun b u z => by have z' : (none : Option HO) = some u := z; cases z') (fun b z => absurd rfl z) fun z => absurd rfl z
  | none =>
    refine core (fun b => if b = a then some (.frz { cls := .type "list", data := .seq vs.toArray } (.lst (ns.map V.int))) else none) (fun b => ?_) (.inl (.inr ⟨{ cls := .type "list", data := .seq vs.toArray }, if_pos rfl⟩)) (fun b u z => ?_) (fun b z => ?_) fun _ => hk
    · by_cases hb : b = a
      · exact .inr ⟨_, _, if_pos hb⟩
      · exact .inl (if_neg hb)
    · by_cases hb : b = a
      · have z' := (if_pos hb).symm.trans z
        cases z'
        subst hb
        exact ⟨ha, by rw [List.length_map]; exact hl, vs, _, rv, ha⟩
      · have z' := (if_neg hb).symm.trans z
        cases z'
    · by_cases hb : b = a
      · exact hb
      · exact absurd (if_neg hb) z
end L2

namespace L2
open PySem PySem.Spec PyProof.Rows

abbrev KOf {K : PySem.W.Frag} {h : Heap} (_ : K.In h) : PySem.W.Frag := K

/-- the goal that k_head leaves (case hc), from the law's promise. F gives the function object fd (K's own) once, then the promise over every base -/
theorem walk_of {l : PySem.W.OpenLaw} {n k : Nat} {q : Program} {loose : List Str} {XP : (Str → Option Value) → Heap → Prop} {YP : World → Heap → Prop} {d : DefRec} {K : Params → PySem.W.Frag} {CX : World → CXT} {sp : World → Sp} {x : Str}
    (hn : l.most = some n) (hn2 : n ≤ sizeLine) (hdf : d.params.defaults = []) (hr : Room k callerA)
    (hY : ∀ (w : World) (h : Heap), YP w h → (K w.params).In h)
    (F : ∀ (w : World) (mg : Str → Option Value) (fa : Addr) (h : Heap), (K w.params).In h → h.Ns mainGlobals mg → mg d.name = some (.ref fa) →
      ∃ fd : FuncData, (∀ (s : Shared) (u : Value), BindsTo s fd ⟨[u], []⟩ [(x, u)]) ∧
        ∀ base : Heap, (K w.params).In base → base.Ns mainGlobals mg → FnOk l.prog w (K w.params) mg base (CX w) k fa fd [x] (sp w))
    (hsp : ∀ (w : World) (H : Hp) (a : Addr) (ns : List Int), ns.length ≤ n → Only H → SqL (K w.params) H a (ns.map V.int) → sp w [.ref a] H (fun v _ => v = .bl true) fun _ _ _ => False)
    (hCX : ∀ (w : World) (H : Hp) (s : Shared) (e : Value) (s' : Shared), CX w [] H s (fun _ _ _ => False) e s' → False) :
    PySem.W.WalkO q loose XP YP l.row.toRowW d [] (fun f vs => PySem.call f vs) := by
  refine Att.attach_call hn hdf fun w s₀ s₁ mg mb fa o pm cd doc a vs ns G Y ho hd hcd hmg hobj hints hlen hg => ?_
  have KX := hY w _ Y
  obtain ⟨fd, hb, hF⟩ := F w mg fa _ KX G.T.g hmg
  exact law_call KX G.T.g G.T.b G.T.builtins G.T.nolimit hg hobj hints (Nat.le_trans hlen hn2) hr hF hb (fun H hO hS => hsp w H a ns hlen hO hS) fun H e s' => hCX w H s₁ e s'
end L2

/- THE LAST THEOREM (shape; LID, My.* are yours):
   My.Adr: a structure of the addresses that your layer names (classes, functions); My.Txt K t: a structure (Prop) of the equations over K;
   My.txt_mk : {K} {implicit addresses ..} (e1 : nsIn K mainGlobals "law" = some (some (.ref f))) (e2 : K.lookup f = some ⟨oc, od, .func (fnOf "law" "law" params body scope dV kV doc pm an cdv ct), sl⟩) (e3 : codeIn K cdv "law" = true) .. : ∃ t, My.Txt K t

set_option maxRecDepth 100000 in
set_option maxHeartbeats 0 in
theorem PySem.Challenge.cw_LID_holds : PySem.Challenge.rw_LID.Holds := by
  w_on; o_law; k_head; (case hw => w_witness2)
  k_fill
  refine L2.walk_of (l := PySem.Challenge.rw_LID) (n := 63) (k := 40) (x := "script") (CX := fun w => ..) (sp := fun _ => My.sp_law) rfl (by decide) rfl ⟨rfl, by decide, by decide⟩ (fun w h Y => PySem.W.kIn_of Y) ?F ?S ?C
  case F =>
    intro w mg fa h KX G hmg
    have T : ∃ t, My.Txt (L2.KOf KX) t := by
      dsimp only [L2.KOf]                          -- K must stand as «<heap const> w.params» for k_is
      refine' My.txt_mk ?e1 ?e2 ?e3 ..
      (case e1 => PySem.W.k_is)                    -- in the order: a name -> its address -> its object -> its parts
      (case e2 => PySem.W.k_is)
      ..
    obtain ⟨t, T⟩ := T
    have e0 := hmg.symm.trans (PySem.W.mg_of KX G T.law)
    cases e0                                       -- fa is the law's own address
    exact ⟨_, fun s u => .of_eq rfl, fun base kb nb => My.law_fn T kb nb⟩     -- if «.of_eq rfl» comes too early: refine' ⟨_, ?b, fun base kb nb => My.law_fn T kb nb⟩; exact fun s u => .of_eq rfl
  case S => exact fun w H a ns hl hO hS => ..
  case C => exact ..
(the tactic k_is has no namespace: write k_is) -/

/-! SHORT WORDS over the layer: a def of the text, its body, what a loop and a test want. -/
namespace L2
open PySem PySem.Spec PyProof.Rows

/-! ### the text by places -/
/-- the j-th statement of a class's body -/
def inClass (s : Stmt) (j : Nat) : Stmt := match s with
  | .ClassDef _ _ _ body _ _ _ _ _ _ _ => body.getD j (.Pass ⟨0, 0, 0, 0⟩)
  | _ => .Pass ⟨0, 0, 0, 0⟩
def defArgs (s : Stmt) : Arguments := match s with
  | .FunctionDef _ a _ _ _ _ _ _ _ _ => a
  | _ => { posonlyargs := [], args := [], vararg := none, kwonlyargs := [], kw_defaults := [], kwarg := none, defaults := [] }
def defBody (s : Stmt) : List Stmt := match s with
  | .FunctionDef _ _ b _ _ _ _ _ _ _ => b
  | _ => []
def defScope (s : Stmt) : Scope := match s with
  | .FunctionDef _ _ _ _ _ _ sc _ _ _ => sc
  | _ => { kind := .function, names := [], isGenerator := false, isCoroutine := false }

/-! ### no exception leaves a def -/
abbrev CX0 : CXT := fun _ _ _ _ _ _ => False
abbrev E0 : XK := fun _ _ _ => False
theorem pass0 {X : Cx} : Passes CX0 X E0 := fun _ _ _ _ _ _ _ h => h.elim

/-! ### a def (or method) of the text as it stands behind the top -/
structure Fun (K : PySem.W.Frag) (x qual : Str) (st : Stmt) (f : Addr) (fd : FuncData) : Prop where
  ex : ∃ (oc : Value) (od : Option Addr) (kV doc pm : Value) (an : Option Addr) (cdv ct : Value) (osl : Array (Option Value)),
    fd = PySem.W.fnOf x qual (defArgs st) (defBody st) (defScope st) .none kV doc pm an cdv ct ∧ K.lookup f = some ⟨oc, od, .func fd, osl⟩ ∧ PySem.W.codeIn K cdv qual = true
  kp : PySem.W.keepIn K (.ref f) = true
section
variable {P : Program} {w : World} {K : PySem.W.Frag} {mg : Str → Option Value} {base : Heap}
/-- THE RULE for a def: its body as a term of rules, and the reading of that term -/
theorem Fun.ok {x qual : Str} {st : Stmt} {f : Addr} {fd : FuncData} {N ps : List Str} {k : Nat} {sp : Sp} (F : Fun K x qual st f fd) (S : FnScope N ps (defScope st)) (len : ∀ vs H Q E, sp vs H Q E → vs.length = ps.length)
    (hbody : ∀ (cdv : Value) (A : Around) (outer : List Env) (s : Shared) (H : Hp) (vs : List V) (Q : VK) (E : XK), Room k (A.deeper (envOfC qual (defScope st) s.heap.objs.size f cdv)) → sp vs H Q E →
      ∃ t, PSs (cxOf CX0 P w K mg base N qual (defScope st) f cdv A outer s H E).nox (defBody st) t ∧ t { nx := fun _ H' => Q .non H', rt := Q } (start N vs) H) : FnOk P w K mg base CX0 (k + 1) f fd ps sp := by
  obtain ⟨oc, od, kV, doc, pm, an, cdv, ct, osl, rfl, lk, hcd⟩ := F.ex
  refine fn_of lk hcd S len fun A outer s H vs Q E hr hsp => ?_
  obtain ⟨t, h, q⟩ := hbody cdv A outer s H vs Q E hr hsp
  exact ⟨t, h.nox, q⟩
/-- how its arguments bind (no defaults): h is «fun _ _ _ _ _ _ us hl => match us, hl with | [_, _], _ => rfl», one _ a parameter -/
theorem Fun.binds {x qual : Str} {st : Stmt} {f : Addr} {fd : FuncData} {ps : List Str} (F : Fun K x qual st f fd)
    (h : ∀ (kV doc pm : Value) (an : Option Addr) (cdv ct : Value) (us : List Value), us.length = ps.length → bindArgs (PySem.W.fnOf x qual (defArgs st) (defBody st) (defScope st) .none kV doc pm an cdv ct) ⟨us, []⟩ = pure (ps.zip us)) : Binds K fd ps [] := by
  obtain ⟨oc, od, kV, doc, pm, an, cdv, ct, osl, rfl, lk, hcd⟩ := F.ex
  exact .all (h kV doc pm an cdv ct)
theorem fun_mk {x qual : Str} {st : Stmt} {f : Addr} {oc : Value} {od an : Option Addr} {osl : Array (Option Value)} {kV doc pm cdv ct : Value} (l : K.lookup f = some ⟨oc, od, .func (PySem.W.fnOf x qual (defArgs st) (defBody st) (defScope st) .none kV doc pm an cdv ct), osl⟩)
    (c : PySem.W.codeIn K cdv qual = true) (k : PySem.W.keepIn K (.ref f) = true) : Fun K x qual st f (PySem.W.fnOf x qual (defArgs st) (defBody st) (defScope st) .none kV doc pm an cdv ct) := ⟨⟨oc, od, kV, doc, pm, an, cdv, ct, osl, rfl, l, c⟩, k⟩
end
theorem small1000 {n : Nat} (h : n ≤ 1000) : n < sizeLine := Nat.lt_of_le_of_lt h (by decide)

/-! ### expressions in short: the name that stands in the i-th slot -/
section
variable {X : Cx}
theorem pv (i : Nat) {x : Str} {pos : Pos} (hN : X.N[i]? = some x := by rfl) (hv : Vis X.env.scope x := by first | exact Or.inl rfl | exact Or.inr (Or.inl rfl) | exact Or.inr (Or.inr rfl)) (hd : (x == ("__debug__" : Str)) = false := by decide)
    (hcd : (x == ("__classdict__" : Str)) = false := by decide) : PE X (.Name x pos) (tVar i) := pe_var hN hv hd hcd
end

/-! ### tests -/
theorem iteF {A B : Prop} (h : B) : if false = true then A else B := by
  rw [if_neg Bool.false_ne_true]
  exact h
theorem iteT {A B : Prop} (h : A) : if true = true then A else B := by
  rw [if_pos rfl]
  exact h
theorem ite2 {c A B : Prop} [Decidable c] (h1 : c → A) (h2 : ¬ c → B) : if c then A else B := by
  by_cases h : c
  · rw [if_pos h]
    exact h1 h
  · rw [if_neg h]
    exact h2 h
/-! ### heaps -/
/-- all that was tracked is as it was -/
def Same (H H' : Hp) : Prop := ∀ b o, H b = some o → H' b = some o
theorem Same.refl (H : Hp) : Same H H := fun _ _ h => h
theorem Same.trans {H H1 H2 : Hp} (a : Same H H1) (b : Same H1 H2) : Same H H2 := fun c o h => b c o (a c o h)
theorem Same.free {H H' : Hp} (e : Same H H') {l : Addr} (h : H' l = Option.none) : H l = Option.none := by
  cases q : H l with
  | none => rfl
  | some o =>
    rw [e l o q] at h
    cases h
theorem Same.seq {K : PySem.W.Frag} {H H' : Hp} {a : Addr} {xs : List V} (e : Same H H') (h : SqL K H a xs) : SqL K H' a xs := by
  rcases h with (h | ⟨o, h⟩) | h
  · exact .inl (.inl (e _ _ h))
  · exact .inl (.inr ⟨o, e _ _ h⟩)
  · exact .inr h

end L2

/-! OWN RULES over the hand layer: texts cut and walked, a comprehension, all, isinstance. -/
namespace L2
open PySem PySem.Spec PyProof.Rows
section
variable {X : Cx} {e l : Expr} {te tl : TE} {pos : Pos} {tg : Expr}

/-! ### a text cut -/
def rSlS : V → Option Int → Option Int → Hp → VK → Prop := fun x lo hi H Q => ∃ z, x = .str z ∧ z.length ≤ sizeLine ∧ Q (.str (Txt.slice z lo hi)) H
theorem part_of {v : Value} {o : Option Int} (p : IsPart v o) : ∃ q : Option (Int × Tok), v = partValue q ∧ q.map (·.1) = o := by
  cases p with
  | none => exact ⟨none, rfl, rfl⟩
  | int i t => exact ⟨some (i, t), rfl, rfl⟩
theorem sl_str : SlR X rSlS := by
  intro pins s σ H x v vl vu lo hi sl Q I rx hs pl pu h
  obtain ⟨z, rfl, hz, q⟩ := h
  obtain ⟨t, rfl⟩ := rx
  obtain ⟨ql, rfl, rfl⟩ := part_of pl
  obtain ⟨qu, rfl, rfl⟩ := part_of pu
  obtain ⟨o, ho, hc, hd⟩ := hs
  refine ⟨"str", _, F.slot_str_getitem.lookup, typeIs_str _ _ _, ?_⟩
  refine wpAny_getItem_str_slice (l := ql) (u := qu) (st := none) ⟨o, ho, hc, hd⟩ rfl ?_
  exact post_val_or_str ⟨Nat.le_trans (Txt.slice_le z _ _) hz, fun t' k => ⟨.str (Txt.slice z (ql.map (·.1)) (qu.map (·.1))), H, I.tok _, ⟨_, rfl⟩, q⟩⟩

/-! ### a text walked -/
def Its (z : Str) : It := ⟨fun i _ => i < z.length, fun i H x H' => H' = H ∧ ∃ c, z.cps[i]? = some c ∧ x = .str ⟨#[c]⟩, fun i _ => z.length ≤ i⟩
theorem turn_str {P : Program} {w : World} {K : PySem.W.Frag} {ty : String} (hty : ty = "str_ascii_iterator" ∨ ty = "str_iterator") (it : Addr) (z : Str) (t : Tok) : Turn P w K tg (Its z) [it] it (fun i h => h.IsStrIter it ty z t i) where
  mem := by simp
  obj := fun i h st b hb => by
    have e : b = it := by simpa using hb
    subst e
    obtain ⟨o, e, c, d⟩ := st
    exact ⟨o, e, fun v z => by rw [d] at z; cases z⟩
  keep := fun i h h' st k => by
    obtain ⟨o, e, r⟩ := st
    exact ⟨o, k it (by simp) o e, r⟩
  item := by
    intro X hP hw hK hc i pins s σ H E I hf st hg
    subst hP hw hK
    have hi : i < z.cps.size := hg
    have hx : z.cps[i]? = some z.cps[i] := by simp [hi]
    obtain ⟨f0, f1, f2, f3, f4, f5⟩ := hf it (by simp)
    rcases hty with rfl | rfl
    · refine wpAny_pyNext_ascii_item st hx fun h' st' sb => ?_
      have I1 : Inv X pins σ H { s with heap := h', toks := s.toks + 1 } := I.turned (t' := s.toks + 1) (fun b o hb e => (sb.2 b hb).trans e) f0 f1 f3 f4 f5
      obtain ⟨o, e, c, d⟩ := id st'
      exact ⟨_, rfl, go_of (s := { s with heap := h', toks := s.toks + 1 }) e c d (by decide) ⟨.str ⟨#[z.cps[i]]⟩, H, I1, ⟨_, rfl⟩, ⟨rfl, _, hx, rfl⟩, st', fun b hb => (hf b hb).1⟩⟩
    · refine wpAny_pyNext_wide_item st hx fun h' st' sb => ?_
      have I1 : Inv X pins σ H { s with heap := h', toks := s.toks + 1 } := I.turned (t' := s.toks + 1) (fun b o hb e => (sb.2 b hb).trans e) f0 f1 f3 f4 f5
      obtain ⟨o, e, c, d⟩ := id st'
      exact ⟨_, rfl, go_of (s := { s with heap := h', toks := s.toks + 1 }) e c d (by decide) ⟨.str ⟨#[z.cps[i]]⟩, H, I1, ⟨_, rfl⟩, ⟨rfl, _, hx, rfl⟩, st', fun b hb => (hf b hb).1⟩⟩
  done := by
    intro X hP hw hK hc i pins s σ H E I hf st hg
    subst hP hw hK
    have hi : z.cps.size ≤ i := hg
    have hx : z.cps[i]? = none := by simp [hi]
    obtain ⟨f0, f1, f2, f3, f4, f5⟩ := hf it (by simp)
    rcases hty with rfl | rfl
    · exact wpAny_pyNext_ascii_end (I.ok.hd hc) st hx fun h' eb => ⟨rfl, I.turned (t' := s.toks) (fun b o hb e => eb b o hb e) f0 f1 f3 f4 f5⟩
    · exact wpAny_pyNext_wide_end (I.ok.hd hc) st hx fun h' eb => ⟨rfl, I.turned (t' := s.toks) (fun b o hb e => eb b o hb e) f0 f1 f3 f4 f5⟩
  self := fun _ _ _ _ _ st h => by
    rcases hty with rfl | rfl
    · exact wpAny_pyIter_striter_ascii st h
    · exact wpAny_pyIter_striter_wide st h
def iStr (tl : TE) : TI := fun σ H R => tl σ H fun x H1 => ∃ z, x = .str z ∧ R (Its z) H1
theorem pi_str (hl : PE X l tl) : PI X tg l (iStr tl) := by
  intro pins s σ H R I h
  refine thn (hl pins s σ H _ I h) fun v s1 ⟨x, H1, I1, r1, q1⟩ => ?_
  obtain ⟨z, e, q⟩ := q1
  subst e
  obtain ⟨t, rfl⟩ := r1
  have fp : ∀ b ∈ [s1.heap.objs.size], FpOk X pins H1 b := fun b hb => by
    have e : b = s1.heap.objs.size := by simpa using hb
    subst e
    exact I1.fpOk (Nat.le_refl _) (I1.hok.fresh (Nat.le_refl _))
  cases ha : z.cps.all (· < 128) with
  | true =>
    refine wpAny_pyIter_ascii ha ?_
    exact ⟨s1.heap.objs.size, [s1.heap.objs.size], _, _, H1, rfl, I1.kept (t' := s1.toks) fun b o e => Heap.get?_push_of_some _ e, turn_str (.inl rfl) _ z t, ⟨_, Heap.get?_push_size _ rfl, rfl, rfl⟩, fp, q⟩
  | false =>
    refine wpAny_pyIter_wide ha ?_
    exact ⟨s1.heap.objs.size, [s1.heap.objs.size], _, _, H1, rfl, I1.kept (t' := s1.toks) fun b o e => Heap.get?_push_of_some _ e, turn_str (.inr rfl) _ z t, ⟨_, Heap.get?_push_size _ rfl, rfl, rfl⟩, fp, q⟩
/-! ### all of a list of bools -/
theorem call_all_bools (hc : X.calm = true) : CallR X (.builtin "all") (fun xs H Q => ∃ (p : Addr) (bs : List Bool), xs = [.ref p] ∧ SqL X.K H p (bs.map V.bl) ∧ Q (.bl (bs.all id)) H) := by
  intro pins s σ H xs us Q I r h
  obtain ⟨p, bs, rfl, hq, q⟩ := h
  obtain ⟨u, rfl, rx⟩ := vals1 r
  cases rx
  obtain ⟨its, rv, pl, hz⟩ := I.list hq
  have hl := rv.length
  rw [List.length_map] at hl
  have hp : p < s.heap.objs.size := by
    obtain ⟨o, ho, _⟩ := pl.isList
    exact Heap.lt_size ho
  have hne : p ≠ s.heap.objs.size := Nat.ne_of_lt hp
  refine call_all_walk (wpAny_pyIter_list pl.isList ?_)
  refine ⟨s.heap.objs.size, [s.heap.objs.size, p], [s.heap.objs.size], its.toArray.size, _, _, fun i => bs.getD i true, rfl, Walks.list (show X.A.in1.handled = none from I.ok.hd hc) _ p hne its.toArray, ⟨⟨_, Heap.get?_push_size _ rfl, rfl, rfl⟩, pl.isList.push _⟩, ?_, fun h' tk hk => ?_⟩
  · intro i v s' Q' E' hv hQ
    have hv' : its[i]? = some v := by simpa using hv
    have hi : i < its.length := (List.getElem?_eq_some_iff.mp hv').1
    have hb : bs[i]? = some (bs.getD i true) := by
      rw [List.getD_eq_getElem?_getD, List.getElem?_eq_getElem (by omega)]
      rfl
    obtain ⟨w', e1, e2⟩ := rv.get (i := i) (x := .bl (bs.getD i true)) (by rw [List.getElem?_map, hb]; rfl)
    rw [hv'] at e1
    cases e1
    cases (show v = Value.bool _ from e2)
    exact wpAny_truthy_bool hQ
  · have e : (List.range its.toArray.size).all (fun i => bs.getD i true) = bs.all id := by
      rw [Bool.eq_iff_iff, List.all_eq_true, List.all_eq_true]
      constructor
      · intro h x hx
        obtain ⟨i, hi, rfl⟩ := List.mem_iff_getElem.mp hx
        have := h i (List.mem_range.mpr (by simp only [List.size_toArray]; omega))
        rw [List.getD_eq_getElem?_getD, List.getElem?_eq_getElem hi] at this
        exact this
      · intro h i hi
        have hi' : i < bs.length := by have := List.mem_range.mp hi; simp only [List.size_toArray] at this; omega
        rw [List.getD_eq_getElem?_getD, List.getElem?_eq_getElem hi']
        exact h _ (List.getElem_mem hi')
    refine ⟨.bl (bs.all id), H, I.kept (t' := tk) fun b o eb => hk b o ?_ (Heap.get?_push_of_some _ eb), congrArg Value.bool e, q⟩
    intro hm
    have : b = s.heap.objs.size := by simpa using hm
    exact absurd (Heap.lt_size eb) (by rw [this]; exact Nat.lt_irrefl _)

/-! ### isinstance(x, T), T a built-in type -/
theorem call_isinst : CallR X (.builtin "isinstance") (fun xs H Q => ∃ x t n b, xs = [x, .ty n] ∧ TyOf X.K H x t ∧ PySem.W.kitOne X.K t (.type n) = some b ∧ Q (.bl b) H) := by
  intro pins s σ H xs us Q I r h
  obtain ⟨x, t, n, b, rfl, ty, hk, q⟩ := h
  obtain ⟨u, w', rfl, rx, ry⟩ := vals2 r
  cases (show w' = Value.type n from ry)
  exact isinst_ok I rx ty hk fun tk => ⟨.bl b, H, I.tok _, rfl, q⟩
end

/-! ### a comprehension: its block is a context of its own -/
structure Clo (X : Cx) (scope : Scope) (cl : List (Str × Addr)) : Prop where
  eq : closureFor scope X.env = pure cl
  sub : ∀ y c, cl.lookup y = some c → X.env.cells.lookup y = some c
  has : ∀ y, ((relabel scope X.env).names.lookup y = some .cell ∨ (relabel scope X.env).names.lookup y = some .free) → ∃ c, cl.lookup y = some c
theorem clo_none {X : Cx} {scope : Scope} (hfree : ∀ x ∈ scope.names, x.2 ≠ .free) (hcell : ∀ x ∈ scope.names, x.2 ≠ .cell) : Clo X scope [] := by
  refine ⟨closureFor_none hfree, fun y c h => by simp at h, fun y h => ?_⟩
  have e : (relabel scope X.env).names = scope.names := by
    unfold relabel
    refine map_eq_self (fun x hx => ?_)
    obtain ⟨n, k⟩ := x
    have : (k == NameKind.free) = false := by simpa using hfree _ hx
    simp [this]
  rw [e] at h
  rcases h with h | h
  · exact absurd rfl (hcell _ (PySem.mem_of_lookup h))
  · exact absurd rfl (hfree _ (PySem.mem_of_lookup h))

def cxComp (X : Cx) (N' : List Str) (scope : Scope) (cl : List (Str × Addr)) (fp : List Addr) (s₃ : Shared) (H₃ : Hp) : Cx where
  prog := X.prog
  w := X.w
  K := X.K
  mg := X.mg
  base := X.base
  A := X.A
  N := N'
  s₀ := s₃
  H₀ := H₃
  env := compEnvC scope cl s₃.heap.objs.size X.env
  outer := X.stack
  stack := X.stack
  ex := fp
  calm := X.calm
  fn := fun _ => false
  pn := []
  xe := fun _ _ => False

/-- the free names' values -/
def fvs (σ : St) (ix : List Nat) : St := ix.map fun i => (σ[i]?).join
def tLC (wi : TI) (ix : List Nat) (te : TE) : TE := fun σ H Q => wi σ H fun J H1 => ∀ D, H1 D = none →
  ∃ W : Nat → Nat → List V → Hp → Prop, (∃ m, W 0 m [] (upd H1 D (.lst []))) ∧
    ∀ i m ys H', W i m ys H' → H' D = some (.lst ys) ∧
      ((J.stop i H' ∧ Q (.ref D) H') ∨ (J.go i H' ∧ ∀ x H'', J.yld i H' x H'' → te (some x :: fvs σ ix) H'' fun y H3 =>
        H3 D = some (.lst ys) ∧ ys.length < sizeLine ∧ ∃ m', m' < m ∧ W (i + 1) m' (ys ++ [y]) (upd H3 D (.lst (ys ++ [y])))))

/-- the loop of a comprehension, with the step ahead of the store -/
theorem compLoop_go {prog : Program} {w : World} {A : Around} {R : Result → Shared → Prop} {s : Shared} {elt target iter : Expr} {scope : Scope} {pos : Pos} {it acc : Value} {env : Env} (I : Nat → Shared → Prop)
    (turn : ∀ n s, I n s → wpAny (model prog w) A (pyNext it) (fun r s₁ => match r with
      | none => R (.ok .next) s₁
      | some v => wpAny (model prog w) A (letOwnedTupleGo target it v) (fun _ s₁' => wpAny (model prog w) A (assign target env v) (fun _ s₂ => wpAny (model prog w) A (eval elt env) (fun x s₃ =>
          wpAny (model prog w) A (call (.builtin "list.append") [acc, x]) (fun _ s₄ => ∃ m, m < n ∧ I m s₄) (notedBy (model prog w) A env fun e s' => R (.error e) s') s₃)
          (notedBy (model prog w) A env fun e s' => R (.error e) s') s₂) (notedBy (model prog w) A env fun e s' => R (.error e) s') s₁') (notedBy (model prog w) A env fun e s' => R (.error e) s') s₁) (notedBy (model prog w) A env fun e s' => R (.error e) s') s)
    (n : Nat) (h : I n s) :
    codeAny (model prog w) A (.compLoop (.ListComp elt [⟨target, iter, [], 0⟩] scope pos) 0 it acc env) R s := by
  refine codeAny_loop rfl I (fun n s hI => ?_) n h
  show wpAny _ _ ((compTurn (.ListComp elt [⟨target, iter, [], 0⟩] scope pos) 0 it acc env).onRaise (fun x => do noteFrame x env; theTreesLotGoes x)) _ _ s
  refine wpAny_noted ?_
  rw [compTurn_list1]
  refine wpAny_bind (wpAny_standAt (wpAny_bind (wpAny_mono (turn n s hI) (fun r s₁ h₁ => ?_) fun _ _ h' => h')))
  cases r with
  | none => exact wpAny_pure h₁
  | some v =>
    refine wpAny_bind (wpAny_mono h₁ (fun _ s₁' h₁' => ?_) fun _ _ h' => h')
    exact wpAny_bind (wpAny_mono h₁' (fun _ s₂ h₂ => wpAny_bind (wpAny_bind (wpAny_mono h₂ (fun x s₃ h₃ => wpAny_bind (wpAny_mono h₃
      (fun _ s₄ h₄ => wpAny_pure (wpAny_pure ⟨rfl, h₄⟩)) fun _ _ h' => h')) fun _ _ h' => h'))) fun _ _ h' => h')

section
variable {X : Cx} {N' : List Str} {scope : Scope} {cl : List (Str × Addr)} {fp : List Addr} {pins : List (Addr × Obj)} {σ : St} {H : Hp} {s : Shared}
/-- the block's context stands -/
theorem comp_ok (I : Inv X pins σ H s) (C : Clo X scope cl) (hkind : scope.kind = .function) (hf : ∀ b ∈ fp, FpOk X pins H b) (hlt : ∀ b ∈ fp, b < s.heap.objs.size) : (cxComp X N' scope cl fp s H).Ok where
  mod := I.ok.mod
  kind := hkind
  glob := I.ok.glob
  blt := I.ok.blt
  above := Nat.le_refl _
  inj := fun x y c h1 h2 => I.ok.inj x y c (C.sub x c h1) (C.sub y c h2)
  has := fun x h => C.has x h
  cab := fun x c h => by cases (show false = true from h)
  hd := I.ok.hd
  frames := I.ok.frames
  stk := .inl rfl
  exf := fun b hb => ⟨Nat.ne_of_lt (hlt b hb), fun x c h => (hf b hb).2.2.2.2.1 x c (C.sub x c h)⟩
  bs := fun b o h => I.bs b o h
  bsz := Nat.le_trans I.ok.bsz I.sz
  noex := fun b o h hb => by
    rcases (hf b hb).2.2.2.1 with z | z
    · exact I.ok.noex b o h z
    · exact absurd (Nat.lt_of_lt_of_le (Heap.lt_size h) (Nat.le_trans I.ok.bsz z)) (Nat.lt_irrefl _)
  exfs := fun b hb hs => by
    rcases List.mem_cons.mp (I.stkSub b hs) with z | z
    · exact (hf b hb).2.1 z
    · exact (hf b hb).2.2.1 z
  funs := I.stack
  frf := I.stkFree
/-- the block's entry -/
theorem comp_start {ix : List Nat} {h₁ : Heap} {t' : Nat} {m : Str → Option Value} (I : Inv X pins σ H s) (C : Clo X scope cl) (hkind : scope.kind = .function) (hf : ∀ b ∈ fp, FpOk X pins H b) (hlt : ∀ b ∈ fp, b < s.heap.objs.size)
    (hlen : N'.length = ix.length + 1) (hix : ∀ (j i : Nat), ix[j]? = some i → ∃ y, X.N[i]? = some y ∧ N'[j + 1]? = some y ∧ (X.env.kindOf y = some .cell ∨ X.env.kindOf y = some .free) ∧ ((relabel scope X.env).names.lookup y = some .cell ∨ (relabel scope X.env).names.lookup y = some .free))
    (hn : h₁.Ns s.heap.objs.size m) (hk : ∀ b o, s.heap.get? b = some o → h₁.get? b = some o) : Inv (cxComp X N' scope cl fp s H) [] (none :: fvs σ ix) H { s with heap := h₁, toks := t' } := by
  have cellK : ∀ x c, cl.lookup x = some c → ∃ v, h₁.IsCell c v := fun x c h => by
    obtain ⟨v, o, ho, hd⟩ := I.cell x c (C.sub x c h)
    exact ⟨v, o, hk c o ho, hd⟩
  refine ⟨comp_ok I C hkind hf hlt, rfl, I.bare, Un.kept hk, ⟨m, hn, fun i y v h1 h2 h3 => ?_⟩, cellK, I.hok.fresh (Nat.le_refl _), fun x c h => I.freeC x c (C.sub x c h), fun p hp => absurd (show p ∈ ([] : List (Addr × Obj)) from hp) (by simp), I.hok.kept hk, ?_⟩
  · cases i with
    | zero => cases (show some (none : Option V) = some (some v) from h2)
    | succ j =>
      have h2' : (fvs σ ix)[j]? = some (some v) := h2
      unfold fvs at h2'
      rw [List.getElem?_map] at h2'
      cases e : ix[j]? with
      | none => rw [e] at h2'; cases h2'
      | some i =>
        rw [e] at h2'
        have h4 : (σ[i]?).join = some v := Option.some.inj h2'
        have h5 : σ[i]? = some (some v) := by
          cases e' : σ[i]? with
          | none => rw [e'] at h4; cases h4
          | some q =>
            rw [e'] at h4
            have h6 : q = some v := h4
            rw [h6]
        obtain ⟨y', n1, n2, k1, k2⟩ := hix j i e
        have ey : y' = y := Option.some.inj (n2.symm.trans h1)
        subst ey
        obtain ⟨m0, hn0, hl0⟩ := I.loc
        have hv0 : Vis X.env.scope y' := k1.elim (fun z => .inr (.inl z)) fun z => .inr (.inr z)
        obtain ⟨u, ru, l⟩ := hl0 i y' v n1 h5 hv0
        refine ⟨u, ru, .inr ⟨k2, ?_⟩⟩
        rcases l with ⟨k, _⟩ | ⟨_, c, ec, o, ho, hd⟩
        · rcases k1 with z | z
          · rw [z] at k; cases k
          · rw [z] at k; cases k
        · obtain ⟨c', ec'⟩ := C.has y' k2
          have : c' = c := Option.some.inj ((C.sub _ _ ec').symm.trans ec)
          subst this
          exact ⟨c', ec', o, hk c' o ho, hd⟩
  · show (none :: fvs σ ix : St).length = N'.length
    rw [hlen]
    simp [fvs]
/-- the block is left -/
theorem comp_end {σ' : St} {H' : Hp} {s' : Shared} {h' : Heap} (I : Inv X pins σ H s) (J : Inv (cxComp X N' scope cl fp s H) [] σ' H' s') (hf : ∀ b ∈ fp, FpOk X pins H b) (hs : Heap.SameBut s.heap.objs.size s'.heap h') : Inv X pins σ H' { s' with heap := h' } := by
  have ne : ∀ b o, s.heap.get? b = some o → b ≠ s.heap.objs.size := fun b o e => Nat.ne_of_lt (Heap.lt_size e)
  have eq : ∀ b, b ≠ s.heap.objs.size → h'.get? b = s'.heap.get? b := fun b hb => hs.2 b hb
  have B := J.base
  have u : Un (frs X.stack) fp H H' s.heap h' :=
    ⟨fun b o e n h1 h2 => (eq b (ne b o e)).trans (B.keep b o e n h1 h2), fun b o e n h1 h2 => by
      obtain ⟨sl, q⟩ := B.slot b o e n h1 h2
      exact ⟨sl, (eq b (ne b o e)).trans q⟩, fun b o e n h1 => B.free b o e n h1, fun b o e h1 => by
      obtain ⟨o', q⟩ := B.there b o e h1
      exact ⟨o', (eq b (ne b o e)).trans q⟩, B.tups, B.frzs, B.tbls⟩
  have hfree : H' s.heap.objs.size = none := J.free
  have hok : HOk X.prog X.w H' h' := fun b ob e => by
    refine (J.hok b ob e).stay (fun c w' hc q => (eq c ?_).trans q) (fun _ q => q) fun _ _ q => q
    rintro rfl
    rcases hc with z | z
    · rw [← z, hfree] at e; cases e
    · rw [hfree] at z; cases z
  exact I.call' (s' := { s' with heap := h' }) (ch := fp) J.os u hok J.bare fun b hb => ⟨(hf b hb).2.2.2.1, (hf b hb).2.1, (hf b hb).2.2.2.2.1, (hf b hb).2.2.2.2.2⟩
end

section
variable {X : Cx} {N' : List Str} {scope : Scope} {elt iter : Expr} {x : Str} {px pos : Pos} {wi : TI} {te : TE} {ix : List Nat}
theorem pe_lc (hc : X.calm = true) (hkind : scope.kind = .function) (hcell : ∀ y ∈ scope.names, y.2 ≠ .cell) (hnames : ∀ y ∈ scope.names, y.2 = .local → scope.names.lookup y.1 = some .local) (hx : scope.names.lookup x = some .local)
    (hclo : X.Ok → ∃ cl, Clo X scope cl) (hN : N'.Nodup) (hN0 : N'[0]? = some x) (hlen : N'.length = ix.length + 1)
    (hix : ∀ (j i : Nat), ix[j]? = some i → ∃ y, X.N[i]? = some y ∧ N'[j + 1]? = some y ∧ (X.env.kindOf y = some .cell ∨ X.env.kindOf y = some .free) ∧ ((relabel scope X.env).names.lookup y = some .cell ∨ (relabel scope X.env).names.lookup y = some .free))
    (hi : PI X (.Name x px) iter wi) (he : ∀ cl fp s₃ H₃, PE (cxComp X N' scope cl fp s₃ H₃) elt te) (hs : ∀ v, foldedSetIterable iter X.env v = pure v := by intro _; rfl) :
    PE X (.ListComp elt [⟨.Name x px, iter, [], 0⟩] scope pos) (tLC wi ix te) := by
  intro pins s σ H Q I h
  obtain ⟨cl, C⟩ := hclo I.ok
  rw [eval_ListComp]
  refine wpAny_comprehension_free (use := none) rfl hs C.eq hkind hnames (thn (hi pins s σ H _ I h) fun v s1 h1 => thn h1 fun itv s2 h2 => ?_)
  obtain ⟨it, fp, tn, J, H2, e, I2, T, st2, f2, q2⟩ := h2
  subst e
  have hD : H2 s2.heap.objs.size = none := I2.fresh
  obtain ⟨W, ⟨m0, w0⟩, turn⟩ := q2 s2.heap.objs.size hD
  refine wpAny_newObj_type (wpAny_newFunctionEnv hcell (by intro y hy; simp at hy) (fun h₁ hns₁ hsb₁ => ?_) hkind)
  dsimp only at hns₁ hsb₁ ⊢
  have I3 : Inv X pins σ (upd H2 s2.heap.objs.size (.lst [])) { s2 with heap := s2.heap.push { cls := .type "list", data := .seq ([] : List Value).toArray }, toks := s2.toks } := I2.lnew .nil (Nat.zero_le _)
  generalize hs3 : ({ s2 with heap := s2.heap.push { cls := .type "list", data := .seq ([] : List Value).toArray }, toks := s2.toks } : Shared) = s3 at I3
  have e3 : s3.heap = s2.heap.push { cls := .type "list", data := .seq ([] : List Value).toArray } := by rw [← hs3]
  generalize hDD : s2.heap.objs.size = D at *
  generalize hH3 : upd H2 D (.lst []) = H3 at *
  have lt2 : ∀ b ∈ fp, b < s2.heap.objs.size := fun b hb => by
    obtain ⟨o, ho, _⟩ := T.obj 0 _ st2 b hb
    exact Heap.lt_size ho
  have neD : ∀ b ∈ fp, b ≠ D := fun b hb => by rw [← hDD]; exact Nat.ne_of_lt (lt2 b hb)
  have f3 : ∀ b ∈ fp, FpOk X pins H3 b := fun b hb => ⟨by rw [← hH3, upd_ne (neD b hb)]; exact (f2 b hb).1, (f2 b hb).2⟩
  have sz3 : s3.heap.objs.size = D + 1 := by rw [e3, Heap.size_push, hDD]
  have lt3 : ∀ b ∈ fp, b < s3.heap.objs.size := fun b hb => by have q := lt2 b hb; rw [sz3]; rw [hDD] at q; exact Nat.lt_succ_of_lt q
  have old : ∀ b o, s3.heap.get? b = some o → h₁.get? b = some o := fun b o eb => by
    have hb : b < D + 1 := by rw [← sz3]; exact Heap.lt_size eb
    refine hsb₁.extBut b o ?_ (Heap.get?_push_of_some _ (by rw [← e3]; exact eb))
    rw [Heap.size_push, hDD]
    exact Nat.ne_of_lt hb
  have szC : (s2.heap.push { cls := .type "list", data := .seq ([] : List Value).toArray }).objs.size = s3.heap.objs.size := by rw [e3]
  have os3 : s3.os = s2.os := by rw [← hs3]
  rw [szC] at hns₁ hsb₁
  have I4 : Inv (cxComp X N' scope cl fp s3 H3) [] (none :: fvs σ ix) H3 { s3 with heap := h₁, toks := s2.toks + ([] : List (Str × Value)).length } := comp_start I3 C hkind f3 lt3 hlen hix hns₁ old
  have st4 : tn 0 h₁ := T.keep 0 _ _ st2 fun b hb o eb => old b o (by rw [e3]; exact Heap.get?_push_of_some _ eb)
  have stat : ∀ {H' : Hp}, (∀ b ∈ fp, H' b = none) → ∀ b ∈ fp, FpOk (cxComp X N' scope cl fp s3 H3) [] H' b := fun hn b hb =>
    ⟨hn b hb, Nat.ne_of_lt (lt3 b hb), fun hs' => (comp_ok (N' := N') I3 C hkind f3 lt3).exfs b hb hs', .inl hb, fun y c hy => ((comp_ok (N' := N') I3 C hkind f3 lt3).exf b hb).2 y c hy, fun p hp => absurd (show p ∈ ([] : List (Addr × Obj)) from hp) (by simp)⟩
  have loop : ∀ s4 : Shared, s4 = { s3 with heap := h₁, toks := s2.toks + ([] : List (Str × Value)).length } →
      codeAny (model X.prog X.w) X.A (.compLoop (.ListComp elt [⟨.Name x px, iter, [], 0⟩] scope pos) 0 (.ref it) (.ref D) (compEnvC scope cl s3.heap.objs.size X.env))
        (compPost (model X.prog X.w) X.A X.xe none (EP X pins σ Q) (.ref D) s3.heap.objs.size) s4 := by
    rintro s4 rfl
    refine compLoop_go (fun n s' => ∃ i σ0 H' ys, Inv (cxComp X N' scope cl fp s3 H3) [] (σ0 :: fvs σ ix) H' s' ∧ tn i s'.heap ∧ (∀ b ∈ fp, H' b = none) ∧ W i n ys H') ?_ m0 ⟨0, none, H3, [], I4, st4, fun b hb => (f3 b hb).1, w0⟩
    rintro n s5 ⟨i, σ0, H5, ys, I5, st5, fr5, w5⟩
    obtain ⟨hD5, alt⟩ := turn i n ys H5 w5
    rcases alt with ⟨stop, q⟩ | ⟨go, step⟩
    · refine thn (T.done (cxComp X N' scope cl fp s3 H3) rfl rfl rfl hc i [] s5 _ H5 _ I5 (stat fr5) st5 stop) fun r s6 ⟨hr, I6⟩ => ?_
      subst hr
      obtain ⟨m, hn, _⟩ := I6.loc
      exact ⟨m, hn, fun h' hsb => ⟨.ref D, H5, comp_end I3 I6 f3 hsb, rfl, q⟩⟩
    · refine thn (T.item (cxComp X N' scope cl fp s3 H3) rfl rfl rfl hc i [] s5 _ H5 _ I5 (stat fr5) st5 go) fun r s6 ⟨u, hr, h6⟩ => ?_
      subst hr
      refine thn h6 fun _ s7 ⟨y7, H7, I7, r7, yl7, st7, fr7⟩ => ?_
      have I7' := I7.pinned (stat fr7) (T.obj _ _ st7)
      have G : PG (cxComp X N' scope cl fp s3 H3) (.Name x px) (gName 0) := pg_name hN hN0 (.inl (lookup_relabel_local hx)) (.inr (lookup_relabel_local hx))
      refine wpAny_mono (G _ s7 _ H7 y7 u (fun σ' H' => σ' = some y7 :: fvs σ ix ∧ H' = H7) I7' r7 ⟨rfl, rfl⟩) (fun _ s8 h8 => ?_) fun _ _ f => False.elim f
      obtain ⟨σ8, H8, I8, rfl, rfl⟩ := h8
      refine wpAny_mono (he cl fp s3 H3 _ s8 _ H8 _ I8 (step y7 H8 yl7)) (fun yv s9 h9 => ?_) fun _ _ f => False.elim f
      obtain ⟨y9, H9, I9, r9, hD9, hl9, m', hm', w9⟩ := h9
      refine wpAny_mono (mt_append (X := cxComp X N' scope cl fp s3 H3) _ s9 _ H9 (.ref D) [y9] (.ref D) [yv] (fun _ H' => H' = upd H9 D (.lst (ys ++ [y9]))) I9 rfl (.cons r9 .nil) ⟨D, ys, y9, rfl, rfl, hD9, hl9, rfl⟩) (fun _ s10 h10 => ?_) fun _ _ f => False.elim f
      obtain ⟨_, H10, I10, _, rfl⟩ := h10
      refine ⟨m', hm', i + 1, some y7, _, ys ++ [y9], I10.unpinned, T.keep _ _ _ st7 fun b hb o eb => (I10.pin (b, o) (List.mem_append_right _ (List.mem_append_right _ (mem_pinsAt hb eb)))).1, fun b hb => ?_, w9⟩
      obtain ⟨o, eb, d⟩ := T.obj _ _ st7 b hb
      exact (I10.pin (b, o) (List.mem_append_right _ (List.mem_append_right _ (mem_pinsAt hb eb)))).2.1
  subst hs3
  have fin := codeAny_compStart_list (loop _ rfl) (T.self X.A 0 _ _ _ st4 (loop _ rfl))
  exact fin
end
end L2

/-! OWN RULES: texts with fields, lists or tuples walked, closures of comprehensions, comprehensions with a test. Behind Ext. -/
namespace L2
open PySem PySem.Spec PyProof.Rows
section
variable {X : Cx} {e l : Expr} {es : List Expr} {te tl : TE} {pos : Pos} {tg : Expr}
/-! ### f-strings -/
def tFmt (te : TE) : TE := fun σ H Q => te σ H fun x H1 => (∃ z, x = .str z ∧ z.length ≤ sizeLine ∧ Q (.str z) H1) ∨ ∃ i : Int, x = .int i ∧ i.natAbs.log2 < 1920 ∧ Q (.str (toString i)) H1
theorem pe_fv (he : PE X e te) : PE X (.FormattedValue e (-1) none pos) (tFmt te) := by
  intro pins s σ H Q I h
  refine FormattedValue_plain (thn (he pins s σ H _ I h) fun v s1 ⟨x, H1, I1, r1, q1⟩ => ?_)
  rcases q1 with ⟨z, rfl, hz, q⟩ | ⟨i, rfl, hi, q⟩
  · obtain ⟨t, rfl⟩ := r1
    exact formatField_str (fun t' tk => ⟨.str z, H1, I1.tok _, ⟨_, rfl⟩, q⟩) hz
  · obtain ⟨t, rfl⟩ := r1
    exact formatField_int_small hi ⟨.str _, H1, I1.tok _, ⟨_, rfl⟩, q⟩
def tRepr (te : TE) : TE := fun σ H Q => te σ H fun x H1 => ∃ z, x = .str z ∧ (reprText z).length ≤ sizeLine ∧ Q (.str (reprText z)) H1
theorem pe_fvr (he : PE X e te) : PE X (.FormattedValue e 114 none pos) (tRepr te) := by
  intro pins s σ H Q I h
  refine wpAny_FormattedValue_repr (thn (he pins s σ H _ I h) fun v s1 ⟨x, H1, I1, r1, q1⟩ => ?_)
  obtain ⟨z, rfl, hz, q⟩ := q1
  obtain ⟨t, rfl⟩ := r1
  refine wpAny_pyReprObj_str ?_ hz
  exact formatField_str (fun t' tk => ⟨.str (reprText z), H1, I1.tok _, ⟨_, rfl⟩, q⟩) hz
abbrev TJ := St → Hp → Str → (Str → Hp → Prop) → Prop
def PJ (X : Cx) (es : List Expr) (t : TJ) : Prop :=
  ∀ (pins : List (Addr × Obj)) (s : Shared) (σ : St) (H : Hp) (acc : Str) (Q : Str → Hp → Prop) (R : Str → Shared → Prop), Inv X pins σ H s → t σ H acc Q → (∀ out s1 H1, Inv X pins σ H1 s1 → Q out H1 → R out s1) → Joins (model X.prog X.w) X.A X.xe (evalEach es X.env) acc R s
def jNil : TJ := fun _ H acc Q => Q acc H
def jCons (te : TE) (t : TJ) : TJ := fun σ H acc Q => te σ H fun x H1 => ∃ y, x = .str y ∧ (acc ++ y).length ≤ sizeLine ∧ t σ H1 (acc ++ y) Q
theorem pj_nil : PJ X [] jNil := fun _ _ _ _ _ _ _ I h k => k _ _ _ I h
theorem pj_cons {t : TJ} (he : PE X e te) (hr : PJ X es t) : PJ X (e :: es) (jCons te t) := by
  intro pins s σ H acc Q R I h k
  refine thn (he pins s σ H _ I h) fun v s1 ⟨x, H1, I1, r1, q1⟩ => ?_
  obtain ⟨y, rfl, hz, q⟩ := q1
  obtain ⟨t, rfl⟩ := r1
  exact ⟨y, _, rfl, hz, hr pins s1 σ H1 _ Q R I1 q k⟩
def tJoined (t : TJ) : TE := fun σ H Q => t σ H Str.empty fun out H1 => out.length ≤ sizeLine ∧ Q (.str out) H1
theorem pe_joined {v1 v2 : Expr} {t : TJ} (h : PJ X (v1 :: v2 :: es) t) : PE X (.JoinedStr (v1 :: v2 :: es) pos) (tJoined t) := by
  intro pins s σ H Q I hw
  exact wpAny_JoinedStr (h pins s σ H _ _ _ I hw fun out s1 H1 I1 q => ⟨q.1, .str out, H1, I1.tok _, ⟨_, rfl⟩, q.2⟩)

/-! ### a list or a tuple walked -/
def iSeq (K : PySem.W.Frag) (tl : TE) : TI := fun σ H R => tl σ H fun x H1 => ∃ a, x = .ref a ∧ (((∃ xs, SqL K H1 a xs) ∧ R (Itl K a) H1) ∨ ((∃ xs, SqT K H1 a xs) ∧ R (Itt K a) H1))
theorem pi_seq (hl : PE X l tl) : PI X tg l (iSeq X.K tl) := by
  intro pins s σ H R I h
  refine thn (hl pins s σ H _ I h) fun v s1 ⟨x, H1, I1, r1, q1⟩ => ?_
  obtain ⟨a, rfl, q⟩ := q1
  cases r1
  have fp : ∀ b ∈ [s1.heap.objs.size], FpOk X pins H1 b := fun b hb => by
    have e : b = s1.heap.objs.size := by simpa using hb
    subst e
    exact I1.fpOk (Nat.le_refl _) (I1.hok.fresh (Nat.le_refl _))
  rcases q with ⟨⟨xs, hq⟩, q⟩ | ⟨⟨xs, hq⟩, q⟩
  · obtain ⟨its, rv, p, hz⟩ := I1.list hq
    refine wpAny_pyIter_list p.isList ?_
    exact ⟨s1.heap.objs.size, [s1.heap.objs.size], _, _, H1, rfl, I1.kept (t' := s1.toks) fun b o e => Heap.get?_push_of_some _ e, turn_list a _, ⟨_, Heap.get?_push_size _ rfl, rfl, rfl⟩, fp, q⟩
  · obtain ⟨its, rv, p, hz⟩ := I1.tuple hq
    refine wpAny_pyIter_tuple (show s1.heap.IsTuple a its.toArray from p) ?_
    exact ⟨s1.heap.objs.size, [s1.heap.objs.size], _, _, H1, rfl, I1.kept (t' := s1.toks) fun b o e => Heap.get?_push_of_some _ e, turn_tuple a _, ⟨_, Heap.get?_push_size _ rfl, rfl, rfl⟩, fp, q⟩
end

/-! ### a comprehension's closure -/
/-! ### [elt for x in iter if c] -/
def tLCI (wi : TI) (ix : List Nat) (tc : TT) (te : TE) : TE := fun σ H Q => wi σ H fun J H1 => ∀ D, H1 D = none →
  ∃ W : Nat → Nat → List V → Hp → Prop, (∃ m, W 0 m [] (upd H1 D (.lst []))) ∧
    ∀ i m ys H', W i m ys H' → H' D = some (.lst ys) ∧
      ((J.stop i H' ∧ Q (.ref D) H') ∨ (J.go i H' ∧ ∀ x H'', J.yld i H' x H'' → tc (some x :: fvs σ ix) H'' fun b H3 =>
        if b = true then te (some x :: fvs σ ix) H3 fun y H4 => H4 D = some (.lst ys) ∧ ys.length < sizeLine ∧ ∃ m', m' < m ∧ W (i + 1) m' (ys ++ [y]) (upd H4 D (.lst (ys ++ [y])))
        else ∃ m', m' < m ∧ W (i + 1) m' ys H3))
section
variable {X : Cx} {N' : List Str} {scope : Scope} {elt iter c : Expr} {x : Str} {px pos : Pos} {wi : TI} {tc : TT} {te : TE} {ix : List Nat}
end
end L2

/-! OWN: name = [comprehension], where the store comes ahead of the block's end. Behind Ext2. -/
namespace L2
open PySem PySem.Spec PyProof.Rows
theorem Inv.skip {X : Cx} {pins : List (Addr × Obj)} {σ : St} {H : Hp} {s : Shared} {h' : Heap} {C : Addr} (I : Inv X pins σ H s) (hs : Heap.SameBut C s.heap h') (hC : X.s₀.heap.objs.size ≤ C) (hl : C ≠ X.env.locals) (hcl : ∀ x c, X.env.cells.lookup x = some c → c ≠ C) (hp : ∀ p ∈ X.pn ++ pins, p.1 ≠ C) (hf : H C = none) :
    Inv X pins σ H { s with heap := h' } := by
  have eq : ∀ b, b ≠ C → h'.get? b = s.heap.get? b := fun b hb => hs.2 b hb
  have nm : ∀ {b : Addr}, b ∉ [C] → b ≠ C := fun h z => h (by rw [z]; exact List.mem_cons_self)
  have u : Un (frs X.stack) [C] H H s.heap h' := ⟨fun b o e _ _ h2 => (eq b (nm h2)).trans e, fun b o e _ _ h2 => ⟨o.slots, (eq b (nm h2)).trans e⟩, fun b o e n _ => n, fun b o e h1 => ⟨o, (eq b (nm h1)).trans e⟩, fun _ _ q => q, fun _ _ _ q => q, fun _ ps q => ⟨#[], by rw [q]; simp⟩⟩
  have hok : HOk X.prog X.w H h' := fun b ob e => by
    refine (I.hok b ob e).stay (fun c w' hq q => (eq c ?_).trans q) (fun _ q => q) fun _ _ q => q
    rintro rfl
    rcases hq with z | z
    · rw [← z, hf] at e; cases e
    · rw [hf] at z; cases z
  refine I.call' (s' := { s with heap := h' }) (ch := [C]) rfl u hok I.bare fun b hb => ?_
  have e : b = C := List.mem_singleton.mp hb
  subst e
  exact ⟨.inr hC, hl, hcl, hp⟩
section
variable {X : Cx} {N' : List Str} {scope : Scope} {elt iter : Expr} {x : Str} {px pos : Pos} {wi : TI} {te : TE} {ix : List Nat}
theorem ps_setLC {i : Nat} {y0 : Str} {py spos : Pos} (hNy : X.N.Nodup) (hiy : X.N[i]? = some y0) (hy : Loc X.env.scope y0) (hc : X.calm = true) (hkind : scope.kind = .function) (hcell : ∀ y ∈ scope.names, y.2 ≠ .cell) (hnames : ∀ y ∈ scope.names, y.2 = .local → scope.names.lookup y.1 = some .local) (hx : scope.names.lookup x = some .local)
    (hclo : X.Ok → ∃ cl, Clo X scope cl) (hN : N'.Nodup) (hN0 : N'[0]? = some x) (hlen : N'.length = ix.length + 1)
    (hix : ∀ (j i : Nat), ix[j]? = some i → ∃ y, X.N[i]? = some y ∧ N'[j + 1]? = some y ∧ (X.env.kindOf y = some .cell ∨ X.env.kindOf y = some .free) ∧ ((relabel scope X.env).names.lookup y = some .cell ∨ (relabel scope X.env).names.lookup y = some .free))
    (hi : PI X (.Name x px) iter wi) (he : ∀ cl fp s₃ H₃, PE (cxComp X N' scope cl fp s₃ H₃) elt te) (hsw : swapsWith (.ListComp elt [⟨.Name x px, iter, [], 0⟩] scope pos) (some (.Name y0 py)) spos.line X.env = pure true := by rfl)
    (hf : X.fn y0 = true ∨ X.env.scope.names.lookup y0 = some .local := by first | exact .inl rfl | exact .inr rfl | assumption) (hs : ∀ v, foldedSetIterable iter X.env v = pure v := by intro _; rfl) :
    PS X (.Assign [.Name y0 py] (.ListComp elt [⟨.Name x px, iter, [], 0⟩] scope pos) spos) (tAsg (tLC wi ix te) (gName i)) := by
  intro pins s σ H Dn I h
  obtain ⟨cl, C⟩ := hclo I.ok
  rw [exec_Assign_Name_used _ _ _ _ hsw]
  refine wpAny_bind (wpAny_standAt (wpAny_bind ?_))
  rw [arm_evalThenUse_ListComp]
  refine wpAny_bind (wpAny_mono (wpAny_comprehension_free (use := some (assign (.Name y0 py) X.env)) (Q := fun _ s' => ∃ σ' H', Inv X pins σ' H' s' ∧ Dn.nx σ' H') rfl hs C.eq hkind hnames (thn (hi pins s σ H _ I h) fun v s1 h1 => thn h1 fun itv s2 h2 => ?_)) (fun _ s' h' => wpAny_pure (wpAny_pure h')) fun _ _ z => z)
  obtain ⟨it, fp, tn, J, H2, e, I2, T, st2, f2, q2⟩ := h2
  subst e
  have hD : H2 s2.heap.objs.size = none := I2.fresh
  obtain ⟨W, ⟨m0, w0⟩, turn⟩ := q2 s2.heap.objs.size hD
  refine wpAny_newObj_type (wpAny_newFunctionEnv hcell (by intro y hy; simp at hy) (fun h₁ hns₁ hsb₁ => ?_) hkind)
  dsimp only at hns₁ hsb₁ ⊢
  have I3 : Inv X pins σ (upd H2 s2.heap.objs.size (.lst [])) { s2 with heap := s2.heap.push { cls := .type "list", data := .seq ([] : List Value).toArray }, toks := s2.toks } := I2.lnew .nil (Nat.zero_le _)
  generalize hs3 : ({ s2 with heap := s2.heap.push { cls := .type "list", data := .seq ([] : List Value).toArray }, toks := s2.toks } : Shared) = s3 at I3
  have e3 : s3.heap = s2.heap.push { cls := .type "list", data := .seq ([] : List Value).toArray } := by rw [← hs3]
  generalize hDD : s2.heap.objs.size = D at *
  generalize hH3 : upd H2 D (.lst []) = H3 at *
  have lt2 : ∀ b ∈ fp, b < s2.heap.objs.size := fun b hb => by
    obtain ⟨o, ho, _⟩ := T.obj 0 _ st2 b hb
    exact Heap.lt_size ho
  have neD : ∀ b ∈ fp, b ≠ D := fun b hb => by rw [← hDD]; exact Nat.ne_of_lt (lt2 b hb)
  have f3 : ∀ b ∈ fp, FpOk X pins H3 b := fun b hb => ⟨by rw [← hH3, upd_ne (neD b hb)]; exact (f2 b hb).1, (f2 b hb).2⟩
  have sz3 : s3.heap.objs.size = D + 1 := by rw [e3, Heap.size_push, hDD]
  have lt3 : ∀ b ∈ fp, b < s3.heap.objs.size := fun b hb => by have q := lt2 b hb; rw [sz3]; rw [hDD] at q; exact Nat.lt_succ_of_lt q
  have old : ∀ b o, s3.heap.get? b = some o → h₁.get? b = some o := fun b o eb => by
    have hb : b < D + 1 := by rw [← sz3]; exact Heap.lt_size eb
    refine hsb₁.extBut b o ?_ (Heap.get?_push_of_some _ (by rw [← e3]; exact eb))
    rw [Heap.size_push, hDD]
    exact Nat.ne_of_lt hb
  have szC : (s2.heap.push { cls := .type "list", data := .seq ([] : List Value).toArray }).objs.size = s3.heap.objs.size := by rw [e3]
  have os3 : s3.os = s2.os := by rw [← hs3]
  rw [szC] at hns₁ hsb₁
  have I4 : Inv (cxComp X N' scope cl fp s3 H3) [] (none :: fvs σ ix) H3 { s3 with heap := h₁, toks := s2.toks + ([] : List (Str × Value)).length } := comp_start I3 C hkind f3 lt3 hlen hix hns₁ old
  have st4 : tn 0 h₁ := T.keep 0 _ _ st2 fun b hb o eb => old b o (by rw [e3]; exact Heap.get?_push_of_some _ eb)
  have stat : ∀ {H' : Hp}, (∀ b ∈ fp, H' b = none) → ∀ b ∈ fp, FpOk (cxComp X N' scope cl fp s3 H3) [] H' b := fun hn b hb =>
    ⟨hn b hb, Nat.ne_of_lt (lt3 b hb), fun hs' => (comp_ok (N' := N') I3 C hkind f3 lt3).exfs b hb hs', .inl hb, fun y c hy => ((comp_ok (N' := N') I3 C hkind f3 lt3).exf b hb).2 y c hy, fun p hp => absurd (show p ∈ ([] : List (Addr × Obj)) from hp) (by simp)⟩
  have loop : ∀ s4 : Shared, s4 = { s3 with heap := h₁, toks := s2.toks + ([] : List (Str × Value)).length } →
      codeAny (model X.prog X.w) X.A (.compLoop (.ListComp elt [⟨.Name x px, iter, [], 0⟩] scope pos) 0 (.ref it) (.ref D) (compEnvC scope cl s3.heap.objs.size X.env))
        (compPost (model X.prog X.w) X.A X.xe (some (assign (.Name y0 py) X.env)) (fun _ s' => ∃ σ' H', Inv X pins σ' H' s' ∧ Dn.nx σ' H') (.ref D) s3.heap.objs.size) s4 := by
    rintro s4 rfl
    refine compLoop_go (fun n s' => ∃ i σ0 H' ys, Inv (cxComp X N' scope cl fp s3 H3) [] (σ0 :: fvs σ ix) H' s' ∧ tn i s'.heap ∧ (∀ b ∈ fp, H' b = none) ∧ W i n ys H') ?_ m0 ⟨0, none, H3, [], I4, st4, fun b hb => (f3 b hb).1, w0⟩
    rintro n s5 ⟨i, σ0, H5, ys, I5, st5, fr5, w5⟩
    obtain ⟨hD5, alt⟩ := turn i n ys H5 w5
    rcases alt with ⟨stop, q⟩ | ⟨go, step⟩
    · refine thn (T.done (cxComp X N' scope cl fp s3 H3) rfl rfl rfl hc i [] s5 _ H5 _ I5 (stat fr5) st5 stop) fun r s6 ⟨hr, I6⟩ => ?_
      subst hr
      obtain ⟨m, hn, _⟩ := I6.loc
      have Io : Inv X pins σ H5 s6 := comp_end (h' := s6.heap) I3 I6 f3 ⟨rfl, fun _ _ => rfl⟩
      refine wpAny_assign_Name (store_ok2 (v := .ref D) Io hNy hiy hy rfl (fun s7 I7 ⟨a, sb, ha⟩ => ?_) hf)
      have ltC : ∀ x c, X.env.cells.lookup x = some c → c < s3.heap.objs.size := fun x c e => by
        obtain ⟨v, hv⟩ := I3.cell x c e
        exact hv.lt
      have hCa : s3.heap.objs.size ≠ a := by
        rintro rfl
        rcases ha with z | z
        · exact absurd I3.lt (by rw [← z]; exact Nat.lt_irrefl _)
        · exact absurd (ltC _ _ z) (Nat.lt_irrefl _)
      refine ⟨m, hn.sameBut sb hCa, fun h' hsb => ⟨_, H5, ?_, q⟩⟩
      exact I7.skip hsb I3.sz (Nat.ne_of_gt I3.lt) (fun x c e => Nat.ne_of_lt (ltC x c e)) (fun p hp => Nat.ne_of_lt (Heap.lt_size (I3.pin p hp).1)) I6.free
    · refine thn (T.item (cxComp X N' scope cl fp s3 H3) rfl rfl rfl hc i [] s5 _ H5 _ I5 (stat fr5) st5 go) fun r s6 ⟨u, hr, h6⟩ => ?_
      subst hr
      refine thn h6 fun _ s7 ⟨y7, H7, I7, r7, yl7, st7, fr7⟩ => ?_
      have I7' := I7.pinned (stat fr7) (T.obj _ _ st7)
      have G : PG (cxComp X N' scope cl fp s3 H3) (.Name x px) (gName 0) := pg_name hN hN0 (.inl (lookup_relabel_local hx)) (.inr (lookup_relabel_local hx))
      refine wpAny_mono (G _ s7 _ H7 y7 u (fun σ' H' => σ' = some y7 :: fvs σ ix ∧ H' = H7) I7' r7 ⟨rfl, rfl⟩) (fun _ s8 h8 => ?_) fun _ _ f => False.elim f
      obtain ⟨σ8, H8, I8, rfl, rfl⟩ := h8
      refine wpAny_mono (he cl fp s3 H3 _ s8 _ H8 _ I8 (step y7 H8 yl7)) (fun yv s9 h9 => ?_) fun _ _ f => False.elim f
      obtain ⟨y9, H9, I9, r9, hD9, hl9, m', hm', w9⟩ := h9
      refine wpAny_mono (mt_append (X := cxComp X N' scope cl fp s3 H3) _ s9 _ H9 (.ref D) [y9] (.ref D) [yv] (fun _ H' => H' = upd H9 D (.lst (ys ++ [y9]))) I9 rfl (.cons r9 .nil) ⟨D, ys, y9, rfl, rfl, hD9, hl9, rfl⟩) (fun _ s10 h10 => ?_) fun _ _ f => False.elim f
      obtain ⟨_, H10, I10, _, rfl⟩ := h10
      refine ⟨m', hm', i + 1, some y7, _, ys ++ [y9], I10.unpinned, T.keep _ _ _ st7 fun b hb o eb => (I10.pin (b, o) (List.mem_append_right _ (List.mem_append_right _ (mem_pinsAt hb eb)))).1, fun b hb => ?_, w9⟩
      obtain ⟨o, eb, d⟩ := T.obj _ _ st7 b hb
      exact (I10.pin (b, o) (List.mem_append_right _ (List.mem_append_right _ (mem_pinsAt hb eb)))).2.1
  subst hs3
  have fin := codeAny_compStart_list (loop _ rfl) (T.self X.A 0 _ _ _ st4 (loop _ rfl))
  exact fin
end
section
variable {X : Cx} {N' : List Str} {scope : Scope} {elt iter c : Expr} {x : Str} {px pos : Pos} {wi : TI} {tc : TT} {te : TE} {ix : List Nat}
end
end L2

/-! OWN: values with all that they hold; == and in, deep. Behind the layer. -/
namespace L2
open PySem PySem.Spec PyProof.Rows
inductive Dt where
  | non | bl (b : Bool) | int (i : Int) | str (x : Str) | tup (xs : List Dt) | lst (xs : List Dt)
mutual
def peq : Dt → Dt → Bool
  | .non, .non => true
  | .bl a, .bl b => a == b
  | .bl a, .int b => (if a then 1 else 0) == b
  | .int a, .bl b => a == (if b then 1 else 0)
  | .int a, .int b => a == b
  | .str a, .str b => a == b
  | .tup xs, .tup ys => peqs xs ys
  | .lst xs, .lst ys => peqs xs ys
  | _, _ => false
def peqs : List Dt → List Dt → Bool
  | [], [] => true
  | x :: xs, y :: ys => peq x y && peqs xs ys
  | _, _ => false
end
mutual
def dep : Dt → Nat
  | .tup xs => deps xs + 1
  | .lst xs => deps xs + 1
  | _ => 0
def deps : List Dt → Nat
  | [] => 0
  | x :: xs => max (dep x) (deps xs)
end
mutual
def nob : Dt → Bool
  | .bl _ => false
  | .tup xs => nobs xs
  | .lst xs => nobs xs
  | _ => true
def nobs : List Dt → Bool
  | [] => true
  | x :: xs => nob x && nobs xs
end
mutual
theorem peq_refl : ∀ d : Dt, peq d d = true
  | .non => rfl
  | .bl _ => by simp [peq]
  | .int _ => by simp [peq]
  | .str _ => by simp [peq]
  | .tup xs => by simp only [peq]; exact peqs_refl xs
  | .lst xs => by simp only [peq]; exact peqs_refl xs
theorem peqs_refl : ∀ d : List Dt, peqs d d = true
  | [] => by simp [peqs]
  | x :: xs => by simp only [peqs, peq_refl x, peqs_refl xs, Bool.and_self]
end
mutual
theorem peq_eq : ∀ d e : Dt, nob d = true → nob e = true → peq d e = true → d = e
  | .non, e, _, _, h => by cases e <;> first | rfl | (simp [peq] at h)
  | .bl _, e, h, _, _ => by simp [nob] at h
  | .int _, e, _, h2, h => by cases e <;> first | (simp [nob] at h2; done) | (simp [peq] at h; done) | (simp [peq] at h; rw [h])
  | .str _, e, _, h2, h => by cases e <;> first | (simp [peq] at h; done) | (simp [peq] at h; rw [h])
  | .tup xs, e, h1, h2, h => by
    cases e with
    | tup ys => simp only [peq] at h; simp only [nob] at h1 h2; rw [peqs_eq xs ys h1 h2 h]
    | _ => simp [peq] at h
  | .lst xs, e, h1, h2, h => by
    cases e with
    | lst ys => simp only [peq] at h; simp only [nob] at h1 h2; rw [peqs_eq xs ys h1 h2 h]
    | _ => simp [peq] at h
theorem peqs_eq : ∀ d e : List Dt, nobs d = true → nobs e = true → peqs d e = true → d = e
  | [], e, _, _, h => by cases e <;> first | rfl | (simp [peqs] at h)
  | x :: xs, e, h1, h2, h => by
    cases e with
    | nil => simp [peqs] at h
    | cons y ys =>
      simp only [peqs, Bool.and_eq_true] at h
      simp only [nobs, Bool.and_eq_true] at h1 h2
      rw [peq_eq x y h1.1 h2.1 h.1, peqs_eq xs ys h1.2 h2.2 h.2]
end

/-! ### a value stands for a datum -/
mutual
def Has (K : PySem.W.Frag) (H : Hp) : Dt → V → Prop
  | .non, v => v = .non
  | .bl b, v => v = .bl b
  | .int i, v => v = .int i
  | .str x, v => v = .str x
  | .tup ds, v => ∃ a xs, v = .ref a ∧ SqT K H a xs ∧ HasL K H ds xs
  | .lst ds, v => ∃ a xs, v = .ref a ∧ SqL K H a xs ∧ HasL K H ds xs
def HasL (K : PySem.W.Frag) (H : Hp) : List Dt → List V → Prop
  | [], vs => vs = []
  | d :: ds, vs => ∃ v r, vs = v :: r ∧ Has K H d v ∧ HasL K H ds r
end
theorem HasL.length {K : PySem.W.Frag} {H : Hp} : ∀ {ds : List Dt} {vs : List V}, HasL K H ds vs → ds.length = vs.length
  | [], vs, h => by simp only [HasL] at h; rw [h]; rfl
  | d :: ds, vs, h => by
    simp only [HasL] at h
    obtain ⟨v, r, rfl, _, h2⟩ := h
    rw [List.length_cons, List.length_cons, HasL.length h2]
theorem HasL.get {K : PySem.W.Frag} {H : Hp} : ∀ {ds : List Dt} {vs : List V} {i : Nat} {v : V}, HasL K H ds vs → vs[i]? = some v → ∃ d, ds[i]? = some d ∧ Has K H d v
  | [], vs, i, v, h, e => by simp only [HasL] at h; rw [h] at e; simp at e
  | d :: ds, vs, i, v, h, e => by
    simp only [HasL] at h
    obtain ⟨v0, r, rfl, h1, h2⟩ := h
    cases i with
    | zero => simp at e; subst e; exact ⟨d, rfl, h1⟩
    | succ i =>
      obtain ⟨d', e1, e2⟩ := HasL.get (i := i) h2 (by simpa using e)
      exact ⟨d', by simpa using e1, e2⟩
theorem HasL.getD {K : PySem.W.Frag} {H : Hp} : ∀ {ds : List Dt} {vs : List V} {i : Nat} {d : Dt}, HasL K H ds vs → ds[i]? = some d → ∃ v, vs[i]? = some v ∧ Has K H d v
  | [], vs, i, d, h, e => by simp at e
  | d0 :: ds, vs, i, d, h, e => by
    simp only [HasL] at h
    obtain ⟨v0, r, rfl, h1, h2⟩ := h
    cases i with
    | zero => simp at e; subst e; exact ⟨v0, rfl, h1⟩
    | succ i =>
      obtain ⟨v, e1, e2⟩ := HasL.getD (i := i) h2 (by simpa using e)
      exact ⟨v, by simpa using e1, e2⟩
theorem HasL.append {K : PySem.W.Frag} {H : Hp} : ∀ {ds es : List Dt} {vs ws : List V}, HasL K H ds vs → HasL K H es ws → HasL K H (ds ++ es) (vs ++ ws)
  | [], es, vs, ws, h, h' => by simp only [HasL] at h; rw [h]; exact h'
  | d :: ds, es, vs, ws, h, h' => by
    simp only [HasL] at h
    obtain ⟨v, r, rfl, h1, h2⟩ := h
    show HasL K H (d :: (ds ++ es)) (v :: (r ++ ws))
    simp only [HasL]
    exact ⟨v, r ++ ws, rfl, h1, HasL.append h2 h'⟩
theorem HasL.one {K : PySem.W.Frag} {H : Hp} {d : Dt} {v : V} (h : Has K H d v) : HasL K H [d] [v] := by
  simp only [HasL]
  exact ⟨v, [], rfl, h, rfl⟩
theorem HasL.ints {K : PySem.W.Frag} {H : Hp} : ∀ ns : List Int, HasL K H (ns.map Dt.int) (ns.map V.int)
  | [] => by simp [HasL]
  | n :: ns => by
    simp only [List.map_cons, HasL]
    exact ⟨_, _, rfl, by simp only [Has], HasL.ints ns⟩

/-! ### what stays: data without lists, where tuples stay -/
mutual
def nol : Dt → Bool
  | .lst _ => false
  | .tup xs => nols xs
  | _ => true
def nols : List Dt → Bool
  | [] => true
  | x :: xs => nol x && nols xs
end
def KeepT (H H' : Hp) : Prop := ∀ b xs, Rd H b (.tup xs) → Rd H' b (.tup xs)
theorem KeepT.sq {K : PySem.W.Frag} {H H' : Hp} {a : Addr} {xs : List V} (k : KeepT H H') (h : SqT K H a xs) : SqT K H' a xs := h.elim (fun z => .inl (k a xs z)) .inr
theorem KeepT.refl (H : Hp) : KeepT H H := fun _ _ h => h
theorem KeepT.trans {H H1 H2 : Hp} (a : KeepT H H1) (b : KeepT H1 H2) : KeepT H H2 := fun c xs h => b c xs (a c xs h)
theorem KeepT.of_same {H H' : Hp} (e : Same H H') : KeepT H H' := fun b xs h => by
  rcases h with h | ⟨o, h⟩
  · exact .inl (e _ _ h)
  · exact .inr ⟨o, e _ _ h⟩
theorem KeepT.lst {H : Hp} {l : Addr} {xs ys : List V} (h : H l = some (.lst xs)) : KeepT H (upd H l (.lst ys)) := fun b zs q => by
  rcases q with q | ⟨o, q⟩
  · exact .inl (by rw [upd_ne (ne_of q h (fun z => by cases z))]; exact q)
  · exact .inr ⟨o, by rw [upd_ne (ne_of q h (fun z => by cases z))]; exact q⟩
theorem KeepT.new {H : Hp} {l : Addr} {o : HO} (h : H l = none) : KeepT H (upd H l o) := KeepT.of_same fun b u q => by rw [upd_ne (ne_of_none q h)]; exact q
mutual
theorem Has.keep {K : PySem.W.Frag} {H H' : Hp} (k : KeepT H H') : ∀ {d : Dt} {v : V}, nol d = true → Has K H d v → Has K H' d v
  | .non, v, _, h => by simp only [Has] at h ⊢; exact h
  | .bl _, v, _, h => by simp only [Has] at h ⊢; exact h
  | .int _, v, _, h => by simp only [Has] at h ⊢; exact h
  | .str _, v, _, h => by simp only [Has] at h ⊢; exact h
  | .tup ds, v, n, h => by
    simp only [Has] at h ⊢
    simp only [nol] at n
    obtain ⟨a, xs, e, h1, h2⟩ := h
    exact ⟨a, xs, e, k.sq h1, HasL.keep k n h2⟩
  | .lst _, v, n, h => by simp [nol] at n
theorem HasL.keep {K : PySem.W.Frag} {H H' : Hp} (k : KeepT H H') : ∀ {ds : List Dt} {vs : List V}, nols ds = true → HasL K H ds vs → HasL K H' ds vs
  | [], vs, _, h => by simp only [HasL] at h ⊢; exact h
  | d :: ds, vs, n, h => by
    simp only [HasL] at h ⊢
    simp only [nols, Bool.and_eq_true] at n
    obtain ⟨v, r, e, h1, h2⟩ := h
    exact ⟨v, r, e, Has.keep k n.1 h1, HasL.keep k n.2 h2⟩
end

/-! ### one value stands for one datum -/
section
variable {X : Cx} {pins : List (Addr × Obj)} {σ : St} {H : Hp} {s : Shared}
theorem sq_apart (I : Inv X pins σ H s) {a : Addr} {xs ys : List V} (h : SqL X.K H a xs) (h' : SqT X.K H a ys) : False := by
  obtain ⟨its, _, p, _⟩ := I.list h
  obtain ⟨jts, _, q, _⟩ := I.tuple h'
  obtain ⟨o, e, c, _⟩ := p.isList
  obtain ⟨o', e', c', _⟩ := q
  rw [e] at e'
  cases e'
  rw [c] at c'
  exact absurd (Value.type.inj c') (by decide)
mutual
theorem Has.inj (I : Inv X pins σ H s) : ∀ (d e : Dt) (v : V), Has X.K H d v → Has X.K H e v → d = e
  | .non, e, v, h, h' => by
    simp only [Has] at h
    subst h
    cases e <;> simp only [Has] at h' <;> first | rfl | (cases h'; done) | (obtain ⟨_, _, z, _⟩ := h'; cases z)
  | .bl b, e, v, h, h' => by
    simp only [Has] at h
    subst h
    cases e <;> simp only [Has] at h' <;> first | (cases h'; done) | (cases h'; rfl) | (obtain ⟨_, _, z, _⟩ := h'; cases z)
  | .int b, e, v, h, h' => by
    simp only [Has] at h
    subst h
    cases e <;> simp only [Has] at h' <;> first | (cases h'; done) | (cases h'; rfl) | (obtain ⟨_, _, z, _⟩ := h'; cases z)
  | .str b, e, v, h, h' => by
    simp only [Has] at h
    subst h
    cases e <;> simp only [Has] at h' <;> first | (cases h'; done) | (cases h'; rfl) | (obtain ⟨_, _, z, _⟩ := h'; cases z)
  | .tup ds, e, v, h, h' => by
    simp only [Has] at h
    obtain ⟨a, xs, rfl, h1, h2⟩ := h
    cases e with
    | tup es =>
      simp only [Has] at h'
      obtain ⟨a', ys, z, h3, h4⟩ := h'
      cases z
      rw [I.tuple_inj h3 h1] at h4
      rw [HasL.inj I ds es xs h2 h4]
    | lst es =>
      simp only [Has] at h'
      obtain ⟨a', ys, z, h3, h4⟩ := h'
      cases z
      exact (sq_apart I h3 h1).elim
    | _ => simp only [Has] at h'; cases h'
  | .lst ds, e, v, h, h' => by
    simp only [Has] at h
    obtain ⟨a, xs, rfl, h1, h2⟩ := h
    cases e with
    | lst es =>
      simp only [Has] at h'
      obtain ⟨a', ys, z, h3, h4⟩ := h'
      cases z
      rw [I.list_inj h3 h1] at h4
      rw [HasL.inj I ds es xs h2 h4]
    | tup es =>
      simp only [Has] at h'
      obtain ⟨a', ys, z, h3, h4⟩ := h'
      cases z
      exact (sq_apart I h1 h3).elim
    | _ => simp only [Has] at h'; cases h'
theorem HasL.inj (I : Inv X pins σ H s) : ∀ (ds es : List Dt) (vs : List V), HasL X.K H ds vs → HasL X.K H es vs → ds = es
  | [], es, vs, h, h' => by
    simp only [HasL] at h
    subst h
    cases es with
    | nil => rfl
    | cons e es => simp only [HasL] at h'; obtain ⟨_, _, z, _⟩ := h'; cases z
  | d :: ds, es, vs, h, h' => by
    simp only [HasL] at h
    obtain ⟨v, r, rfl, h1, h2⟩ := h
    cases es with
    | nil => simp only [HasL] at h'; cases h'
    | cons e es =>
      simp only [HasL] at h'
      obtain ⟨v', r', z, h3, h4⟩ := h'
      cases z
      rw [Has.inj I d e v h1 h3, HasL.inj I ds es r h2 h4]
end

/-! ### == -/
def eqAtN (ds es : List Dt) (j : Nat) : Bool := match ds[j]?, es[j]? with
  | some d, some e => peq d e
  | _, _ => true
theorem eqAtN_zero (d e : Dt) (ds es : List Dt) : eqAtN (d :: ds) (e :: es) 0 = peq d e := rfl
theorem all_eqs : ∀ (ds es : List Dt), ((List.range (min ds.length es.length)).all (eqAtN ds es) && ds.length == es.length) = peqs ds es
  | [], [] => by simp [peqs]
  | [], e :: es => by simp [peqs]
  | d :: ds, [] => by simp [peqs]
  | d :: ds, e :: es => by
    have ih := all_eqs ds es
    have e1 : min (d :: ds).length (e :: es).length = min ds.length es.length + 1 := by simp only [List.length_cons]; omega
    rw [e1, List.range_succ_eq_map, List.all_cons, eqAtN_zero, List.all_map]
    have e2 : (eqAtN (d :: ds) (e :: es) ∘ Nat.succ) = eqAtN ds es := by funext j; rfl
    rw [e2, List.length_cons, List.length_cons]
    simp only [peqs]
    rw [← ih, Bool.and_assoc]
    congr 2
    simp
theorem all_eqs' {ds es : List Dt} (h : ds.length = es.length) : (List.range ds.length).all (eqAtN ds es) = peqs ds es := by
  rw [← all_eqs, ← h, Nat.min_self]
  simp
theorem peqs_len {ds es : List Dt} (h : ds.length ≠ es.length) : peqs ds es = false := by
  rw [← all_eqs]
  have : (ds.length == es.length) = false := by simpa using h
  rw [this, Bool.and_false]
theorem tupOf (I : Inv X pins σ H s) {a : Addr} {xs : List V} {ds : List Dt} (h : SqT X.K H a xs) (g : HasL X.K H ds xs) : ∃ its : List Value, Vals xs its ∧ s.heap.IsTuple a its.toArray ∧ its.toArray.size = ds.length := by
  obtain ⟨its, r, p, _⟩ := I.tuple h
  exact ⟨its, r, p, by rw [List.size_toArray, ← r.length, ← g.length]⟩
theorem lstOf (I : Inv X pins σ H s) {a : Addr} {xs : List V} {ds : List Dt} (h : SqL X.K H a xs) (g : HasL X.K H ds xs) : ∃ its : List Value, Vals xs its ∧ s.heap.IsList a its.toArray ∧ its.toArray.size = ds.length := by
  obtain ⟨its, r, p, _⟩ := I.list h
  exact ⟨its, r, p.isList, by rw [List.size_toArray, ← r.length, ← g.length]⟩
/-- what is asked of the items -/
def EqItems (s : Shared) (A : Around) (ds es : List Dt) (xs ys : List V) : Prop :=
  ∀ (us zs : List Value), Vals xs us → Vals ys zs → ∀ (j : Nat) (u z : Value), us[j]? = some u → zs[j]? = some z → SeqAt.EqAt A.in1 s u z (eqAtN ds es j)
theorem rcTT (I : Inv X pins σ H s) {A : Around} {a b : Addr} {xs ys : List V} {ds es : List Dt} (h1 : SqT X.K H a xs) (g1 : HasL X.K H ds xs) (h2 : SqT X.K H b ys) (g2 : HasL X.K H es ys) (hu : A.units < cLine)
    (he : EqItems s A ds es xs ys) : SeqAt.RcAt A s (.ref a) (.ref b) (peqs ds es) ∧ SeqAt.RcNeAt A s (.ref a) (.ref b) (!peqs ds es) := by
  obtain ⟨its, r1, p1, z1⟩ := tupOf I h1 g1
  obtain ⟨jts, r2, p2, z2⟩ := tupOf I h2 g2
  have q : ∀ j (k1 : j < its.toArray.size) (k2 : j < jts.toArray.size), SeqAt.EqAt A.in1 s its.toArray[j] jts.toArray[j] (eqAtN ds es j) := fun j k1 k2 => he its jts r1 r2 j _ _ (by simp at k1 ⊢) (by simp at k2 ⊢)
  have t1 := SeqAt.RcAt.tuples (e := eqAtN ds es) p1 p2 hu q
  have t2 := SeqAt.RcNeAt.tuples (e := eqAtN ds es) p1 p2 hu q
  rw [z1, z2, all_eqs] at t1 t2
  exact ⟨t1, t2⟩
theorem rcLL (I : Inv X pins σ H s) {A : Around} {a b : Addr} {xs ys : List V} {ds es : List Dt} (h1 : SqL X.K H a xs) (g1 : HasL X.K H ds xs) (h2 : SqL X.K H b ys) (g2 : HasL X.K H es ys) (hu : A.units < cLine)
    (he : EqItems s A ds es xs ys) : SeqAt.RcAt A s (.ref a) (.ref b) (peqs ds es) ∧ SeqAt.RcNeAt A s (.ref a) (.ref b) (!peqs ds es) := by
  obtain ⟨its, r1, p1, z1⟩ := lstOf I h1 g1
  obtain ⟨jts, r2, p2, z2⟩ := lstOf I h2 g2
  by_cases hl : ds.length = es.length
  · have q : ∀ j (k1 : j < its.toArray.size) (k2 : j < jts.toArray.size), SeqAt.EqAt A.in1 s its.toArray[j] jts.toArray[j] (eqAtN ds es j) := fun j k1 k2 => he its jts r1 r2 j _ _ (by simp at k1 ⊢) (by simp at k2 ⊢)
    have t1 := SeqAt.RcAt.lists (e := eqAtN ds es) p1 p2 (by rw [z1, z2, hl]) hu q
    have t2 := SeqAt.RcNeAt.lists (e := eqAtN ds es) p1 p2 (by rw [z1, z2, hl]) hu q
    rw [z1, all_eqs' hl] at t1 t2
    exact ⟨t1, t2⟩
  · have hne : (its.toArray.size != jts.toArray.size) = true := by rw [z1, z2]; simpa using hl
    rw [peqs_len hl]
    exact ⟨SeqAt.RcAt.lists_lengths p1 p2 hne hu, SeqAt.RcNeAt.lists_lengths p1 p2 hne hu⟩
theorem unitsOf {A : Around} {d : Dt} (h : A.units + dep d < cLine) : A.units < cLine := Nat.lt_of_le_of_lt (Nat.le_add_right _ _) h
mutual
theorem eqAt_D (I : Inv X pins σ H s) : ∀ (d e : Dt) (v w : V) (u z : Value) (A : Around), Has X.K H d v → Has X.K H e w → RelV v u → RelV w z → A.units + dep d < cLine → SeqAt.EqAt A s u z (peq d e)
  | .non, e, v, w, u, z, A, h, h', r, r', hu => by
    have hu' := unitsOf hu
    simp only [Has] at h
    subst h
    cases e with
    | tup es =>
      simp only [Has] at h'
      obtain ⟨b, ys, rfl, h3, h4⟩ := h'
      obtain ⟨_, _, p, _⟩ := tupOf I h3 h4
      cases (show z = Value.ref b from r')
      cases (show u = Value.none from r)
      exact SeqAt.EqAt.none_tuple p hu'
    | lst es =>
      simp only [Has] at h'
      obtain ⟨b, ys, rfl, h3, h4⟩ := h'
      obtain ⟨_, _, p, _⟩ := lstOf I h3 h4
      cases (show z = Value.ref b from r')
      cases (show u = Value.none from r)
      exact SeqAt.EqAt.none_list p hu'
    | _ => simp only [Has] at h'; subst h'; exact eqAt_V r r' rfl rfl
  | .bl k, e, v, w, u, z, A, h, h', r, r', hu => by
    have hu' := unitsOf hu
    simp only [Has] at h
    subst h
    cases e with
    | tup es =>
      simp only [Has] at h'
      obtain ⟨b, ys, rfl, h3, h4⟩ := h'
      obtain ⟨_, _, p, _⟩ := tupOf I h3 h4
      cases (show z = Value.ref b from r')
      cases (show u = Value.bool k from r)
      exact SeqAt.EqAt.bool_tuple k p hu'
    | lst es =>
      simp only [Has] at h'
      obtain ⟨b, ys, rfl, h3, h4⟩ := h'
      obtain ⟨_, _, p, _⟩ := lstOf I h3 h4
      cases (show z = Value.ref b from r')
      cases (show u = Value.bool k from r)
      exact SeqAt.EqAt.bool_list k p hu'
    | _ => simp only [Has] at h'; subst h'; exact eqAt_V r r' rfl rfl
  | .int k, e, v, w, u, z, A, h, h', r, r', hu => by
    have hu' := unitsOf hu
    simp only [Has] at h
    subst h
    cases e with
    | tup es =>
      simp only [Has] at h'
      obtain ⟨b, ys, rfl, h3, h4⟩ := h'
      obtain ⟨_, _, p, _⟩ := tupOf I h3 h4
      cases (show z = Value.ref b from r')
      obtain ⟨t, rfl⟩ := r
      exact SeqAt.EqAt.int_tuple k t p hu'
    | lst es =>
      simp only [Has] at h'
      obtain ⟨b, ys, rfl, h3, h4⟩ := h'
      obtain ⟨_, _, p, _⟩ := lstOf I h3 h4
      cases (show z = Value.ref b from r')
      obtain ⟨t, rfl⟩ := r
      exact SeqAt.EqAt.int_list k t p hu'
    | _ => simp only [Has] at h'; subst h'; exact eqAt_V r r' rfl rfl
  | .str k, e, v, w, u, z, A, h, h', r, r', hu => by
    have hu' := unitsOf hu
    simp only [Has] at h
    subst h
    cases e with
    | tup es =>
      simp only [Has] at h'
      obtain ⟨b, ys, rfl, h3, h4⟩ := h'
      obtain ⟨_, _, p, _⟩ := tupOf I h3 h4
      cases (show z = Value.ref b from r')
      obtain ⟨t, rfl⟩ := r
      exact SeqAt.EqAt.str_tuple k t p hu'
    | lst es =>
      simp only [Has] at h'
      obtain ⟨b, ys, rfl, h3, h4⟩ := h'
      obtain ⟨_, _, p, _⟩ := lstOf I h3 h4
      cases (show z = Value.ref b from r')
      obtain ⟨t, rfl⟩ := r
      exact SeqAt.EqAt.str_list k t p hu'
    | _ => simp only [Has] at h'; subst h'; exact eqAt_V r r' rfl rfl
  | .tup ds, e, v, w, u, z, A, h, h', r, r', hu => by
    have hu' := unitsOf hu
    have hd := h
    simp only [Has] at h
    obtain ⟨a, xs, rfl, h1, h2⟩ := h
    cases (show u = Value.ref a from r)
    obtain ⟨_, _, p, _⟩ := tupOf I h1 h2
    have hi : A.in1.units + deps ds < cLine := by simp only [dep] at hu; rw [Around.in1_units]; omega
    cases e with
    | tup es =>
      have he := h'
      simp only [Has] at h'
      obtain ⟨b, ys, rfl, h3, h4⟩ := h'
      cases (show z = Value.ref b from r')
      by_cases hab : a = b
      · subst hab
        rw [Has.inj I _ _ _ hd he, peq_refl]
        exact SeqAt.EqAt.same _
      · have q := (rcTT I h1 h2 h3 h4 hu' fun us zs ru rz j u z e1 e2 => eqAt_L I ds es xs ys us zs A.in1 h2 h4 ru rz hi j u z e1 e2).1
        simp only [peq]
        exact SeqAt.EqAt.of_refs hab q
    | lst es =>
      simp only [Has] at h'
      obtain ⟨b, ys, rfl, h3, h4⟩ := h'
      cases (show z = Value.ref b from r')
      obtain ⟨_, _, p', _⟩ := lstOf I h3 h4
      exact SeqAt.EqAt.tuple_list p p' hu'
    | non => simp only [Has] at h'; subst h'; cases (show z = Value.none from r'); exact SeqAt.EqAt.tuple_none p hu'
    | bl k => simp only [Has] at h'; subst h'; cases (show z = Value.bool k from r'); exact SeqAt.EqAt.tuple_bool k p hu'
    | int k => simp only [Has] at h'; subst h'; obtain ⟨t, rfl⟩ := r'; exact SeqAt.EqAt.tuple_int k t p hu'
    | str k => simp only [Has] at h'; subst h'; obtain ⟨t, rfl⟩ := r'; exact SeqAt.EqAt.tuple_str k t p hu'
  | .lst ds, e, v, w, u, z, A, h, h', r, r', hu => by
    have hu' := unitsOf hu
    have hd := h
    simp only [Has] at h
    obtain ⟨a, xs, rfl, h1, h2⟩ := h
    cases (show u = Value.ref a from r)
    obtain ⟨_, _, p, _⟩ := lstOf I h1 h2
    have hi : A.in1.units + deps ds < cLine := by simp only [dep] at hu; rw [Around.in1_units]; omega
    cases e with
    | lst es =>
      have he := h'
      simp only [Has] at h'
      obtain ⟨b, ys, rfl, h3, h4⟩ := h'
      cases (show z = Value.ref b from r')
      by_cases hab : a = b
      · subst hab
        rw [Has.inj I _ _ _ hd he, peq_refl]
        exact SeqAt.EqAt.same _
      · have q := (rcLL I h1 h2 h3 h4 hu' fun us zs ru rz j u z e1 e2 => eqAt_L I ds es xs ys us zs A.in1 h2 h4 ru rz hi j u z e1 e2).1
        simp only [peq]
        exact SeqAt.EqAt.of_refs hab q
    | tup es =>
      simp only [Has] at h'
      obtain ⟨b, ys, rfl, h3, h4⟩ := h'
      cases (show z = Value.ref b from r')
      obtain ⟨_, _, p', _⟩ := tupOf I h3 h4
      exact SeqAt.EqAt.list_tuple p p' hu'
    | non => simp only [Has] at h'; subst h'; cases (show z = Value.none from r'); exact SeqAt.EqAt.list_none p hu'
    | bl k => simp only [Has] at h'; subst h'; cases (show z = Value.bool k from r'); exact SeqAt.EqAt.list_bool k p hu'
    | int k => simp only [Has] at h'; subst h'; obtain ⟨t, rfl⟩ := r'; exact SeqAt.EqAt.list_int k t p hu'
    | str k => simp only [Has] at h'; subst h'; obtain ⟨t, rfl⟩ := r'; exact SeqAt.EqAt.list_str k t p hu'
theorem eqAt_L (I : Inv X pins σ H s) : ∀ (ds es : List Dt) (vs ws : List V) (us zs : List Value) (A : Around), HasL X.K H ds vs → HasL X.K H es ws → Vals vs us → Vals ws zs → A.units + deps ds < cLine →
    ∀ (j : Nat) (u z : Value), us[j]? = some u → zs[j]? = some z → SeqAt.EqAt A s u z (eqAtN ds es j)
  | [], es, vs, ws, us, zs, A, h, h', r, r', hu, j, u, z, e1, e2 => by
    simp only [HasL] at h
    subst h
    cases r
    simp at e1
  | d :: ds, es, vs, ws, us, zs, A, h, h', r, r', hu, j, u, z, e1, e2 => by
    simp only [HasL] at h
    obtain ⟨v, rs, rfl, h1, h2⟩ := h
    cases r with
    | cons r1 r2 =>
      cases es with
      | nil =>
        simp only [HasL] at h'
        subst h'
        cases r'
        simp at e2
      | cons e es =>
        simp only [HasL] at h'
        obtain ⟨w, rt, rfl, h3, h4⟩ := h'
        simp only [deps] at hu
        cases r' with
        | cons r3 r4 =>
          cases j with
          | zero =>
            simp at e1 e2
            subst e1 e2
            exact eqAt_D I d e v w _ _ A h1 h3 r1 r3 (by omega)
          | succ j => exact eqAt_L I ds es rs rt _ _ A h2 h4 r2 r4 (by omega) j u z (by simpa using e1) (by simpa using e2)
end
end
end L2

namespace L2
open PySem PySem.Spec PyProof.Rows
section
variable {X : Cx} {pins : List (Addr × Obj)} {σ : St} {H : Hp} {s : Shared}
/-- == and != of any two data -/
theorem rc_D (I : Inv X pins σ H s) (A : Around) (d e : Dt) (v w : V) (u z : Value) (h : Has X.K H d v) (h' : Has X.K H e w) (r : RelV v u) (r' : RelV w z) (hu : A.units + dep d < cLine) :
    SeqAt.RcAt A s u z (peq d e) ∧ SeqAt.RcNeAt A s u z (!peq d e) := by
  have hu' := unitsOf hu
  cases d with
  | non =>
    simp only [Has] at h
    subst h
    cases (show u = Value.none from r)
    cases e with
    | non =>
      simp only [Has] at h'
      subst h'
      cases (show z = Value.none from r')
      exact ⟨SeqAt.RcAt.none_none, SeqAt.RcNeAt.none_none⟩
    | bl k2 =>
      simp only [Has] at h'
      subst h'
      cases (show z = Value.bool k2 from r')
      exact ⟨SeqAt.RcAt.none_bool k2, SeqAt.RcNeAt.none_bool k2⟩
    | int k2 =>
      simp only [Has] at h'
      subst h'
      obtain ⟨t2, rfl⟩ := r'
      exact ⟨SeqAt.RcAt.none_int k2 t2, SeqAt.RcNeAt.none_int k2 t2⟩
    | str k2 =>
      simp only [Has] at h'
      subst h'
      obtain ⟨t2, rfl⟩ := r'
      exact ⟨SeqAt.RcAt.none_str k2 t2, SeqAt.RcNeAt.none_str k2 t2⟩
    | tup es =>
      simp only [Has] at h'
      obtain ⟨b, ys, rfl, h3, h4⟩ := h'
      obtain ⟨_, _, p, _⟩ := tupOf I h3 h4
      cases (show z = Value.ref b from r')
      exact ⟨SeqAt.RcAt.none_tuple p hu', SeqAt.RcNeAt.none_tuple p hu'⟩
    | lst es =>
      simp only [Has] at h'
      obtain ⟨b, ys, rfl, h3, h4⟩ := h'
      obtain ⟨_, _, p, _⟩ := lstOf I h3 h4
      cases (show z = Value.ref b from r')
      exact ⟨SeqAt.RcAt.none_list p hu', SeqAt.RcNeAt.none_list p hu'⟩
  | bl k1 =>
    simp only [Has] at h
    subst h
    cases (show u = Value.bool k1 from r)
    cases e with
    | non =>
      simp only [Has] at h'
      subst h'
      cases (show z = Value.none from r')
      exact ⟨SeqAt.RcAt.bool_none k1, SeqAt.RcNeAt.bool_none k1⟩
    | bl k2 =>
      simp only [Has] at h'
      subst h'
      cases (show z = Value.bool k2 from r')
      exact ⟨SeqAt.RcAt.bool_bool k1 k2, SeqAt.RcNeAt.bool_bool k1 k2⟩
    | int k2 =>
      simp only [Has] at h'
      subst h'
      obtain ⟨t2, rfl⟩ := r'
      exact ⟨SeqAt.RcAt.bool_int k1 k2 t2, SeqAt.RcNeAt.bool_int k1 k2 t2⟩
    | str k2 =>
      simp only [Has] at h'
      subst h'
      obtain ⟨t2, rfl⟩ := r'
      exact ⟨SeqAt.RcAt.bool_str k1 k2 t2, SeqAt.RcNeAt.bool_str k1 k2 t2⟩
    | tup es =>
      simp only [Has] at h'
      obtain ⟨b, ys, rfl, h3, h4⟩ := h'
      obtain ⟨_, _, p, _⟩ := tupOf I h3 h4
      cases (show z = Value.ref b from r')
      exact ⟨SeqAt.RcAt.bool_tuple k1 p hu', SeqAt.RcNeAt.bool_tuple k1 p hu'⟩
    | lst es =>
      simp only [Has] at h'
      obtain ⟨b, ys, rfl, h3, h4⟩ := h'
      obtain ⟨_, _, p, _⟩ := lstOf I h3 h4
      cases (show z = Value.ref b from r')
      exact ⟨SeqAt.RcAt.bool_list k1 p hu', SeqAt.RcNeAt.bool_list k1 p hu'⟩
  | int k1 =>
    simp only [Has] at h
    subst h
    obtain ⟨t1, rfl⟩ := r
    cases e with
    | non =>
      simp only [Has] at h'
      subst h'
      cases (show z = Value.none from r')
      exact ⟨SeqAt.RcAt.int_none k1 t1, SeqAt.RcNeAt.int_none k1 t1⟩
    | bl k2 =>
      simp only [Has] at h'
      subst h'
      cases (show z = Value.bool k2 from r')
      exact ⟨SeqAt.RcAt.int_bool k1 t1 k2, SeqAt.RcNeAt.int_bool k1 t1 k2⟩
    | int k2 =>
      simp only [Has] at h'
      subst h'
      obtain ⟨t2, rfl⟩ := r'
      exact ⟨SeqAt.RcAt.int_int k1 t1 k2 t2, SeqAt.RcNeAt.int_int k1 t1 k2 t2⟩
    | str k2 =>
      simp only [Has] at h'
      subst h'
      obtain ⟨t2, rfl⟩ := r'
      exact ⟨SeqAt.RcAt.int_str k1 t1 k2 t2, SeqAt.RcNeAt.int_str k1 t1 k2 t2⟩
    | tup es =>
      simp only [Has] at h'
      obtain ⟨b, ys, rfl, h3, h4⟩ := h'
      obtain ⟨_, _, p, _⟩ := tupOf I h3 h4
      cases (show z = Value.ref b from r')
      exact ⟨SeqAt.RcAt.int_tuple k1 t1 p hu', SeqAt.RcNeAt.int_tuple k1 t1 p hu'⟩
    | lst es =>
      simp only [Has] at h'
      obtain ⟨b, ys, rfl, h3, h4⟩ := h'
      obtain ⟨_, _, p, _⟩ := lstOf I h3 h4
      cases (show z = Value.ref b from r')
      exact ⟨SeqAt.RcAt.int_list k1 t1 p hu', SeqAt.RcNeAt.int_list k1 t1 p hu'⟩
  | str k1 =>
    simp only [Has] at h
    subst h
    obtain ⟨t1, rfl⟩ := r
    cases e with
    | non =>
      simp only [Has] at h'
      subst h'
      cases (show z = Value.none from r')
      exact ⟨SeqAt.RcAt.str_none k1 t1, SeqAt.RcNeAt.str_none k1 t1⟩
    | bl k2 =>
      simp only [Has] at h'
      subst h'
      cases (show z = Value.bool k2 from r')
      exact ⟨SeqAt.RcAt.str_bool k1 t1 k2, SeqAt.RcNeAt.str_bool k1 t1 k2⟩
    | int k2 =>
      simp only [Has] at h'
      subst h'
      obtain ⟨t2, rfl⟩ := r'
      exact ⟨SeqAt.RcAt.str_int k1 t1 k2 t2, SeqAt.RcNeAt.str_int k1 t1 k2 t2⟩
    | str k2 =>
      simp only [Has] at h'
      subst h'
      obtain ⟨t2, rfl⟩ := r'
      exact ⟨SeqAt.RcAt.str_str k1 t1 k2 t2, SeqAt.RcNeAt.str_str k1 t1 k2 t2⟩
    | tup es =>
      simp only [Has] at h'
      obtain ⟨b, ys, rfl, h3, h4⟩ := h'
      obtain ⟨_, _, p, _⟩ := tupOf I h3 h4
      cases (show z = Value.ref b from r')
      exact ⟨SeqAt.RcAt.str_tuple k1 t1 p hu', SeqAt.RcNeAt.str_tuple k1 t1 p hu'⟩
    | lst es =>
      simp only [Has] at h'
      obtain ⟨b, ys, rfl, h3, h4⟩ := h'
      obtain ⟨_, _, p, _⟩ := lstOf I h3 h4
      cases (show z = Value.ref b from r')
      exact ⟨SeqAt.RcAt.str_list k1 t1 p hu', SeqAt.RcNeAt.str_list k1 t1 p hu'⟩
  | tup ds =>
    simp only [Has] at h
    obtain ⟨a, xs, rfl, h1, h2⟩ := h
    cases (show u = Value.ref a from r)
    obtain ⟨_, _, p, _⟩ := tupOf I h1 h2
    have hi : A.in1.units + deps ds < cLine := by simp only [dep] at hu; rw [Around.in1_units]; omega
    cases e with
    | non =>
      simp only [Has] at h'
      subst h'
      cases (show z = Value.none from r')
      exact ⟨SeqAt.RcAt.tuple_none p hu', SeqAt.RcNeAt.tuple_none p hu'⟩
    | bl k2 =>
      simp only [Has] at h'
      subst h'
      cases (show z = Value.bool k2 from r')
      exact ⟨SeqAt.RcAt.tuple_bool k2 p hu', SeqAt.RcNeAt.tuple_bool k2 p hu'⟩
    | int k2 =>
      simp only [Has] at h'
      subst h'
      obtain ⟨t2, rfl⟩ := r'
      exact ⟨SeqAt.RcAt.tuple_int k2 t2 p hu', SeqAt.RcNeAt.tuple_int k2 t2 p hu'⟩
    | str k2 =>
      simp only [Has] at h'
      subst h'
      obtain ⟨t2, rfl⟩ := r'
      exact ⟨SeqAt.RcAt.tuple_str k2 t2 p hu', SeqAt.RcNeAt.tuple_str k2 t2 p hu'⟩
    | tup es =>
      simp only [Has] at h'
      obtain ⟨b, ys, rfl, h3, h4⟩ := h'
      cases (show z = Value.ref b from r')
      simp only [peq]
      exact rcTT I h1 h2 h3 h4 hu' fun us zs ru rz j u z e1 e2 => eqAt_L I ds es xs ys us zs A.in1 h2 h4 ru rz hi j u z e1 e2
    | lst es =>
      simp only [Has] at h'
      obtain ⟨b, ys, rfl, h3, h4⟩ := h'
      cases (show z = Value.ref b from r')
      obtain ⟨_, _, p', _⟩ := lstOf I h3 h4
      exact ⟨SeqAt.RcAt.tuple_list p p' hu', SeqAt.RcNeAt.tuple_list p p' hu'⟩
  | lst ds =>
    simp only [Has] at h
    obtain ⟨a, xs, rfl, h1, h2⟩ := h
    cases (show u = Value.ref a from r)
    obtain ⟨_, _, p, _⟩ := lstOf I h1 h2
    have hi : A.in1.units + deps ds < cLine := by simp only [dep] at hu; rw [Around.in1_units]; omega
    cases e with
    | non =>
      simp only [Has] at h'
      subst h'
      cases (show z = Value.none from r')
      exact ⟨SeqAt.RcAt.list_none p hu', SeqAt.RcNeAt.list_none p hu'⟩
    | bl k2 =>
      simp only [Has] at h'
      subst h'
      cases (show z = Value.bool k2 from r')
      exact ⟨SeqAt.RcAt.list_bool k2 p hu', SeqAt.RcNeAt.list_bool k2 p hu'⟩
    | int k2 =>
      simp only [Has] at h'
      subst h'
      obtain ⟨t2, rfl⟩ := r'
      exact ⟨SeqAt.RcAt.list_int k2 t2 p hu', SeqAt.RcNeAt.list_int k2 t2 p hu'⟩
    | str k2 =>
      simp only [Has] at h'
      subst h'
      obtain ⟨t2, rfl⟩ := r'
      exact ⟨SeqAt.RcAt.list_str k2 t2 p hu', SeqAt.RcNeAt.list_str k2 t2 p hu'⟩
    | tup es =>
      simp only [Has] at h'
      obtain ⟨b, ys, rfl, h3, h4⟩ := h'
      cases (show z = Value.ref b from r')
      obtain ⟨_, _, p', _⟩ := tupOf I h3 h4
      exact ⟨SeqAt.RcAt.list_tuple p p' hu', SeqAt.RcNeAt.list_tuple p p' hu'⟩
    | lst es =>
      simp only [Has] at h'
      obtain ⟨b, ys, rfl, h3, h4⟩ := h'
      cases (show z = Value.ref b from r')
      simp only [peq]
      exact rcLL I h1 h2 h3 h4 hu' fun us zs ru rz j u z e1 e2 => eqAt_L I ds es xs ys us zs A.in1 h2 h4 ru rz hi j u z e1 e2
def rEqD (K : PySem.W.Frag) : R2 := fun x y H Q => ∃ d e, Has K H d x ∧ Has K H e y ∧ dep d ≤ 60 ∧ Q (.bl (peq d e)) H
def rNeD (K : PySem.W.Frag) : R2 := fun x y H Q => ∃ d e, Has K H d x ∧ Has K H e y ∧ dep d ≤ 60 ∧ Q (.bl (!peq d e)) H
theorem op_eqD (hu : X.A.units + 64 < cLine) : OpR X (compareOp .Eq) (rEqD X.K) := by
  intro pins s σ H x y v u Q I rx ry h
  obtain ⟨d, e, h1, h2, hd, q⟩ := h
  exact (rc_D I X.A d e x y v u h1 h2 rx ry (by omega)).1 _ _ _ _ ⟨.bl _, H, I, rfl, q⟩
theorem op_neD (hu : X.A.units + 64 < cLine) : OpR X (compareOp .NotEq) (rNeD X.K) := by
  intro pins s σ H x y v u Q I rx ry h
  obtain ⟨d, e, h1, h2, hd, q⟩ := h
  exact (rc_D I X.A d e x y v u h1 h2 rx ry (by omega)).2 _ _ _ _ ⟨.bl _, H, I, rfl, q⟩
/-! ### in, not in, index -/
open Classical in
/-- does this value stand for a datum that is like d -/
noncomputable def hitD (K : PySem.W.Frag) (H : Hp) (d : Dt) (u : Value) : Bool := decide (∃ (v : V) (d' : Dt), RelV v u ∧ Has K H d' v ∧ peq d' d = true)
open Classical in
theorem hitD_of (I : Inv X pins σ H s) {d d' : Dt} {v : V} {u : Value} (r : RelV v u) (h : Has X.K H d' v) : hitD X.K H d u = peq d' d := by
  unfold hitD
  cases e : peq d' d with
  | true => exact decide_eq_true ⟨v, d', r, h, e⟩
  | false =>
    refine decide_eq_false fun ⟨v', d2, r', h', e'⟩ => ?_
    rw [r'.inj r] at h'
    rw [Has.inj I _ _ _ h' h, e] at e'
    cases e'
theorem any_hitD (I : Inv X pins σ H s) {d : Dt} : ∀ {ds : List Dt} {vs : List V} {us : List Value}, HasL X.K H ds vs → Vals vs us → us.any (hitD X.K H d) = ds.any fun d' => peq d' d
  | [], vs, us, h, r => by
    simp only [HasL] at h
    subst h
    cases r
    rfl
  | d' :: ds, vs, us, h, r => by
    simp only [HasL] at h
    obtain ⟨v, rs, rfl, h1, h2⟩ := h
    cases r with
    | cons r1 r2 => rw [List.any_cons, List.any_cons, hitD_of I r1 h1, any_hitD I h2 r2]
theorem mem_hitD (I : Inv X pins σ H s) {A : Around} {d : Dt} {x : V} {ux : Value} (hx : Has X.K H d x) (rx : RelV x ux) : ∀ {ds : List Dt} {vs : List V} {us : List Value}, HasL X.K H ds vs → Vals vs us → A.units + deps ds < cLine → ∀ u ∈ us, SeqAt.EqAt A s u ux (hitD X.K H d u)
  | [], vs, us, h, r, hu, u, hm => by
    simp only [HasL] at h
    subst h
    cases r
    cases hm
  | d' :: ds, vs, us, h, r, hu, u, hm => by
    simp only [HasL] at h
    obtain ⟨v, rs, rfl, h1, h2⟩ := h
    simp only [deps] at hu
    cases r with
    | cons r1 r2 =>
      rcases List.mem_cons.mp hm with rfl | hm
      · rw [hitD_of I r1 h1]
        exact eqAt_D I d' d v x _ _ A h1 hx r1 rx (by omega)
      · exact mem_hitD I hx rx h2 r2 (by omega) u hm
def rInD (K : PySem.W.Frag) (neg : Bool) : R2 := fun x y H Q => ∃ p xs ds d, y = .ref p ∧ (SqL K H p xs ∨ SqT K H p xs) ∧ HasL K H ds xs ∧ Has K H d x ∧ deps ds ≤ 60 ∧ Q (.bl (if neg then !(ds.any fun d' => peq d' d) else ds.any fun d' => peq d' d)) H
theorem op_inD (hu : X.A.units + 64 < cLine) : OpR X (compareOp .In) (rInD X.K false) := by
  intro pins s σ H x y v u Q I rx ry h
  obtain ⟨p, xs, ds, d, rfl, hq, hs, hx, hd, q⟩ := h
  cases ry
  have hin : X.A.in1.units + deps ds < cLine := by rw [Around.in1_units]; omega
  rcases hq with hq | hq
  · obtain ⟨its, r, pl, hz⟩ := I.list hq
    refine SeqAt.in_listAt (hitD X.K H d) pl.isList (fun w hw => mem_hitD I hx rx hs r hin w (by simpa using hw)) ⟨.bl _, H, I, rfl, ?_⟩
    rw [show its.toArray.any (hitD X.K H d) = its.any (hitD X.K H d) by simp, any_hitD I hs r]
    exact q
  · obtain ⟨its, r, pl, hz⟩ := I.tuple hq
    refine SeqAt.in_tupleAt (hitD X.K H d) pl (fun w hw => mem_hitD I hx rx hs r hin w (by simpa using hw)) ⟨.bl _, H, I, rfl, ?_⟩
    rw [show its.toArray.any (hitD X.K H d) = its.any (hitD X.K H d) by simp, any_hitD I hs r]
    exact q
theorem op_notInD (hu : X.A.units + 64 < cLine) : OpR X (compareOp .NotIn) (rInD X.K true) := by
  intro pins s σ H x y v u Q I rx ry h
  obtain ⟨p, xs, ds, d, rfl, hq, hs, hx, hd, q⟩ := h
  cases ry
  have hin : X.A.in1.units + deps ds < cLine := by rw [Around.in1_units]; omega
  rcases hq with hq | hq
  · obtain ⟨its, r, pl, hz⟩ := I.list hq
    refine SeqAt.notIn_listAt (hitD X.K H d) pl.isList (fun w hw => mem_hitD I hx rx hs r hin w (by simpa using hw)) ⟨.bl _, H, I, rfl, ?_⟩
    rw [show its.toArray.any (hitD X.K H d) = its.any (hitD X.K H d) by simp, any_hitD I hs r]
    exact q
  · obtain ⟨its, r, pl, hz⟩ := I.tuple hq
    refine SeqAt.notIn_tupleAt (hitD X.K H d) pl (fun w hw => mem_hitD I hx rx hs r hin w (by simpa using hw)) ⟨.bl _, H, I, rfl, ?_⟩
    rw [show its.toArray.any (hitD X.K H d) = its.any (hitD X.K H d) by simp, any_hitD I hs r]
    exact q
/-- the place of the first that is like d -/
def rIndexD (K : PySem.W.Frag) : V → List V → Hp → VK → Prop := fun x vs H Q => ∃ l xs ds y d j, x = .ref l ∧ vs = [y] ∧ H l = some (.lst xs) ∧ HasL K H ds xs ∧ Has K H d y ∧ deps ds ≤ 60 ∧
  (∃ dj, ds[j]? = some dj ∧ peq dj d = true) ∧ (∀ m dm, m < j → ds[m]? = some dm → peq dm d = false) ∧ Q (.int (j : Nat)) H
theorem mt_indexD (hu : X.A.units + 64 < cLine) : MtM X "list.index" (rIndexD X.K) := by
  intro pins s σ H x vs v us Q I rx rv h
  obtain ⟨l, xs, ds, y, d, j, rfl, rfl, hH, hs, hy, hd, ⟨dj, ej, hj⟩, hno, q⟩ := h
  cases rx
  obtain ⟨u, rfl, ru⟩ := rv.one
  obtain ⟨z, its, n, r, hl, e⟩ := I.lstM hH
  have hlen := hs.length
  have hjl : j < ds.length := (List.getElem?_eq_some_iff.mp ej).1
  have hin : X.A.in1.units + deps ds < cLine := by rw [Around.in1_units]; omega
  have at_ : ∀ m (hm : m < its.toArray.size), ∃ dm, ds[m]? = some dm ∧ hitD X.K H d its.toArray[m] = peq dm d := fun m hm => by
    have hm' : m < ds.length := by rw [List.size_toArray] at hm; omega
    obtain ⟨w, e1, e2⟩ := hs.getD (List.getElem?_eq_getElem hm')
    obtain ⟨wv, e3, e4⟩ := r.get e1
    have e5 : its.toArray[m] = wv := by
      have : its[m]? = some wv := e3
      simp only [List.getElem_toArray]
      rw [List.getElem?_eq_getElem (by rw [List.size_toArray] at hm; exact hm)] at this
      exact Option.some.inj this
    exact ⟨_, List.getElem?_eq_getElem hm', by rw [e5]; exact hitD_of I e4 e2⟩
  have hjs : j < its.toArray.size := by rw [List.size_toArray]; omega
  have hsm : (j : Int) < 2 ^ 63 - 1 := by
    have := sizeLine_eq
    omega
  refine call_meets F.slot_list_index ⟨_, e, rfl⟩ F.entry_list_index (F.args_list_index_2 _ _) (SeqAt.list_indexAt l its.toArray n none #[] u (hitD X.K H d) j hjs hsm ?_ ?_) ⟨e, ?_, ?_⟩
  · obtain ⟨dm, e1, e2⟩ := at_ j hjs
    rw [ej] at e1
    cases e1
    rw [e2, hj]
  · intro m hm hlt
    obtain ⟨dm, e1, e2⟩ := at_ m hm
    rw [e2, hno m dm hlt e1]
  · intro w hw
    exact mem_hitD I hy ru hs r hin w (by simpa using hw)
  · exact ⟨.int (j : Nat), H, I.tok _, ⟨_, rfl⟩, q⟩
end
end L2

/-! OWN: forms that the laws share: a def with all that a caller asks, comprehensions by an invariant, walks by any iterator. Behind Ext2, Deep2. -/
namespace L2
open PySem PySem.Spec PyProof.Rows
/-- a def with its promise, as a caller asks it -/
structure FB (P : Program) (w : World) (K : PySem.W.Frag) (mg : Str → Option Value) (base : Heap) (CX : CXT) (k : Nat) (x : Str) (f : Addr) (fd : FuncData) (ps : List Str) (sp : Sp) : Prop where
  ok : FnOk P w K mg base CX k f fd ps sp
  b : Binds K fd ps []
  kp : PySem.W.keepIn K (.ref f) = true
  m : mg x = some (.ref f)
theorem bsz (n : Nat) (h : n ≤ 1000) : n ≤ sizeLine := Nat.le_of_lt (small1000 h)
theorem kitSelf (K : PySem.W.Frag) (n : String) : PySem.W.kitOne K (.type n) (.type n) = some true := by
  unfold PySem.W.kitOne
  rw [if_pos (by simp)]
theorem atI_ints {ns : List Int} {i : Nat} {n : Int} (h : ns[i]? = some n) : atI (ns.map V.int) (i : Int) = some (.int n) := atI_nat (by rw [List.getElem?_map, h]; rfl)
theorem take_snoc {α : Type} {xs : List α} {i : Nat} {x : α} (h : xs[i]? = some x) : xs.take (i + 1) = xs.take i ++ [x] := by
  rw [List.take_add_one, h]
  rfl
theorem sameNew {H : Hp} {p : Addr} (h : H p = none) (o : HO) : Same H (upd H p o) := fun b u q => by rw [upd_ne (ne_of_none q h)]; exact q
theorem Same.upd {H0 H : Hp} {l : Addr} {o : HO} (s : Same H0 H) (h : H0 l = none) : Same H0 (upd H l o) := fun b u q => by rw [upd_ne (ne_of_none q h)]; exact s b u q
theorem Same.kt {H H' : Hp} (s : Same H H') : KeepT H H' := KeepT.of_same s
theorem Same.tup {K : PySem.W.Frag} {H H' : Hp} {a : Addr} {xs : List V} (s : Same H H') (h : SqT K H a xs) : SqT K H' a xs := s.kt.sq h

/-! ### an iterator of n turns -/
structure Wk (J : It) (n : Nat) (Ok : Hp → Prop) : Prop where
  stop : ∀ i H, Ok H → n ≤ i → J.stop i H
  go : ∀ i H, Ok H → i < n → J.go i H
theorem wk_range {lo : Int} {n : Nat} : Wk (Itr lo n) n (fun _ => True) := ⟨fun _ _ _ h => h, fun _ _ _ h => h⟩
theorem wk_list {K : PySem.W.Frag} {a : Addr} {xs : List V} : Wk (Itl K a) xs.length (fun H => SqL K H a xs) := ⟨fun _ _ h hi => ⟨xs, h, hi⟩, fun i _ h hi => ⟨xs, xs[i], h, by simp [hi]⟩⟩
theorem wk_tup {K : PySem.W.Frag} {a : Addr} {xs : List V} : Wk (Itt K a) xs.length (fun H => SqT K H a xs) := ⟨fun _ _ h hi => ⟨xs, h, hi⟩, fun i _ h hi => ⟨xs, xs[i], h, by simp [hi]⟩⟩
/-- what a turn of a comprehension is to reach -/
def LcW (n : Nat) (D : Addr) (Pv : Nat → List V → Hp → Prop) (i m : Nat) (ys : List V) (H : Hp) : Prop := m = n - i ∧ i ≤ n ∧ ys.length ≤ i ∧ H D = some (.lst ys) ∧ Pv i ys H
def LcPost (n : Nat) (D : Addr) (Pv : Nat → List V → Hp → Prop) (i : Nat) (ys : List V) : VK := fun y H3 => H3 D = some (.lst ys) ∧ ys.length < sizeLine ∧ ∃ m', m' < n - i ∧ LcW n D Pv (i + 1) m' (ys ++ [y]) (upd H3 D (.lst (ys ++ [y])))
def LcSkip (n : Nat) (D : Addr) (Pv : Nat → List V → Hp → Prop) (i : Nat) (ys : List V) (H3 : Hp) : Prop := ∃ m', m' < n - i ∧ LcW n D Pv (i + 1) m' ys H3
theorem lc_post {n : Nat} {D : Addr} {Pv : Nat → List V → Hp → Prop} {i : Nat} {ys : List V} {y : V} {H3 : Hp} (hn : n ≤ sizeLine) (hi : i < n) (hl : ys.length ≤ i) (hD : H3 D = some (.lst ys)) (p : Pv (i + 1) (ys ++ [y]) (upd H3 D (.lst (ys ++ [y])))) : LcPost n D Pv i ys y H3 :=
  ⟨hD, by omega, n - (i + 1), by omega, rfl, hi, by rw [List.length_append, List.length_singleton]; omega, upd_same, p⟩
theorem lc_by {J : It} {n : Nat} {Ok : Hp → Prop} {te : TE} {fv : St} {H1 : Hp} {D : Addr} {R : Hp → Prop} (W : Wk J n Ok) (Pv : Nat → List V → Hp → Prop) (hok : ∀ i ys H, Pv i ys H → Ok H) (h0 : Pv 0 [] (upd H1 D (.lst [])))
    (hs : ∀ i ys H' x H'', i < n → ys.length ≤ i → H' D = some (.lst ys) → Pv i ys H' → J.yld i H' x H'' → te (some x :: fv) H'' (LcPost n D Pv i ys)) (hd : ∀ ys H', H' D = some (.lst ys) → Pv n ys H' → R H') :
    ∃ W : Nat → Nat → List V → Hp → Prop, (∃ m, W 0 m [] (upd H1 D (.lst []))) ∧ ∀ i m ys H', W i m ys H' → H' D = some (.lst ys) ∧
      ((J.stop i H' ∧ R H') ∨ (J.go i H' ∧ ∀ x H'', J.yld i H' x H'' → te (some x :: fv) H'' fun y H3 => H3 D = some (.lst ys) ∧ ys.length < sizeLine ∧ ∃ m', m' < m ∧ W (i + 1) m' (ys ++ [y]) (upd H3 D (.lst (ys ++ [y]))))) := by
  refine ⟨LcW n D Pv, ⟨n, rfl, Nat.zero_le _, Nat.zero_le _, upd_same, h0⟩, ?_⟩
  rintro i m ys H' ⟨rfl, hi, hl, hD, p⟩
  refine ⟨hD, ?_⟩
  by_cases hlt : i < n
  · exact .inr ⟨W.go i H' (hok _ _ _ p) hlt, fun x H'' y => hs i ys H' x H'' hlt hl hD p y⟩
  · have e : i = n := by omega
    subst e
    exact .inl ⟨W.stop i H' (hok _ _ _ p) (Nat.le_refl _), hd ys H' hD p⟩
theorem for_by {J : It} {n : Nat} {Ok : Hp → Prop} {g : TG} {tb : TS} {D : Ends} {σ : St} {H : Hp} (W : Wk J n Ok) (Pv : Nat → St → Hp → Prop) (hok : ∀ i σ H, Pv i σ H → Ok H) (h0 : Pv 0 σ H)
    (hs : ∀ i σ H x H', i < n → Pv i σ H → J.yld i H x H' → g x σ H' fun σ2 H2 => tb { D with nx := Pv (i + 1), ct := Pv (i + 1), bk := D.nx } σ2 H2) (hd : ∀ σ H, Pv n σ H → D.nx σ H) :
    ∃ W : Nat → Nat → St → Hp → Prop, (∃ m, W 0 m σ H) ∧ ∀ i m σ H, W i m σ H →
      (J.stop i H ∧ D.nx σ H) ∨ (J.go i H ∧ ∃ N : St → Hp → Prop, (∀ σ' H', N σ' H' → ∃ m', m' < m ∧ W (i + 1) m' σ' H') ∧ ∀ x H', J.yld i H x H' → g x σ H' fun σ2 H2 => tb { D with nx := N, ct := N, bk := D.nx } σ2 H2) := by
  refine ⟨fun i m σ H => m = n - i ∧ i ≤ n ∧ Pv i σ H, ⟨n, by simp, Nat.zero_le _, h0⟩, ?_⟩
  rintro i m σ H ⟨rfl, hi, p⟩
  by_cases hlt : i < n
  · exact .inr ⟨W.go i H (hok _ _ _ p) hlt, Pv (i + 1), fun σ' H' p' => ⟨n - (i + 1), by omega, rfl, hlt, p'⟩, fun x H' y => hs i σ H x H' hlt p y⟩
  · have e : i = n := by omega
    subst e
    exact .inl ⟨W.stop i H (hok _ _ _ p) (Nat.le_refl _), hd σ H p⟩

/-! ### data that stand -/
theorem Has.int {K : PySem.W.Frag} {H : Hp} {i : Int} : Has K H (.int i) (.int i) := by simp only [Has]
theorem Has.str' {K : PySem.W.Frag} {H : Hp} {x : Str} : Has K H (.str x) (.str x) := by simp only [Has]
theorem HasL.nil {K : PySem.W.Frag} {H : Hp} : HasL K H [] [] := by simp only [HasL]
theorem HasL.cons {K : PySem.W.Frag} {H : Hp} {d : Dt} {ds : List Dt} {v : V} {vs : List V} (h : Has K H d v) (r : HasL K H ds vs) : HasL K H (d :: ds) (v :: vs) := by
  simp only [HasL]
  exact ⟨v, vs, rfl, h, r⟩
theorem Has.tup' {K : PySem.W.Frag} {H : Hp} {ds : List Dt} {a : Addr} {xs : List V} (h : SqT K H a xs) (r : HasL K H ds xs) : Has K H (.tup ds) (.ref a) := by
  simp only [Has]
  exact ⟨a, xs, rfl, h, r⟩
theorem Has.lst' {K : PySem.W.Frag} {H : Hp} {ds : List Dt} {a : Addr} {xs : List V} (h : SqL K H a xs) (r : HasL K H ds xs) : Has K H (.lst ds) (.ref a) := by
  simp only [Has]
  exact ⟨a, xs, rfl, h, r⟩
theorem hasl_ints {K : PySem.W.Frag} {H : Hp} : ∀ {ns : List Int} {vs : List V}, HasL K H (ns.map Dt.int) vs → vs = ns.map V.int
  | [], vs, h => by simp only [List.map_nil, HasL] at h; rw [h]; rfl
  | n :: ns, vs, h => by
    simp only [List.map_cons, HasL] at h
    obtain ⟨v, r, rfl, h1, h2⟩ := h
    simp only [Has] at h1
    rw [h1, hasl_ints h2]
    rfl
/-- a tuple of two numbers -/
def dP (t : Int × Int) : Dt := .tup [.int t.1, .int t.2]
/-- len of a list or a tuple, where the context is a comprehension's -/
abbrev rLenS (K : PySem.W.Frag) : List V → Hp → VK → Prop := fun xs H Q => ∃ p ys, xs = [.ref p] ∧ (SqL K H p ys ∨ SqT K H p ys) ∧ Q (.int ys.length) H
end L2

/-! OWN: dict(list of pairs), below the layer. -/
namespace PySem
open Sem (wp)
namespace F
end F
section
variable {prog : Program} {w : World} {K : Type} [DecidableEq K] {knd : KeyKind prog w K} {A : Around}
def pairsTo (ks : Nat → K) (vals : Nat → Value) (n : Nat) : List (K × Value) := (List.range n).foldl (fun acc j => stored acc (ks j) (vals j)) []
end
end PySem

namespace L2
open PySem PySem.Spec PyProof.Rows

/-! ### lists of pairs as tables -/
section
variable {κ : Type} [DecidableEq κ]
def valV (kvs : List (κ × V)) (k : κ) : Option V := (kvs.find? fun kv => decide (kv.1 = k)).map (·.2)
/-- in its place, or at the end -/
def putK (kvs : List (κ × V)) (k : κ) (v : V) : List (κ × V) :=
  if (kvs.any fun kv => decide (kv.1 = k)) = true then kvs.map (fun kv => if kv.1 = k then (kv.1, v) else kv) else kvs ++ [(k, v)]
def dropK (kvs : List (κ × V)) (k : κ) : List (κ × V) := kvs.filter fun kv => decide (kv.1 ≠ k)

theorem valV_nil {k : κ} : valV ([] : List (κ × V)) k = none := rfl
theorem valV_pos {p : κ × V} {r : List (κ × V)} {k : κ} (e : p.1 = k) : valV (p :: r) k = some p.2 := by simp [valV, List.find?_cons, e]
theorem valV_neg {p : κ × V} {r : List (κ × V)} {k : κ} (e : ¬ p.1 = k) : valV (p :: r) k = valV r k := by simp [valV, List.find?_cons, e]
theorem valV_any (k : κ) : ∀ kvs : List (κ × V), (kvs.any fun kv => decide (kv.1 = k)) = (valV kvs k).isSome
  | [] => rfl
  | p :: r => by
    rw [List.any_cons]
    by_cases e : p.1 = k
    · simp only [valV_pos e, decide_eq_true e, Bool.true_or, Option.isSome_some]
    · rw [valV_neg e, decide_eq_false e, Bool.false_or]; exact valV_any k r
theorem valV_map (k j : κ) (y : V) : ∀ kvs : List (κ × V), valV (kvs.map fun kv => if kv.1 = k then (kv.1, y) else kv) j = (valV kvs j).map fun x => if j = k then y else x
  | [] => rfl
  | p :: r => by
    have ih := valV_map k j y r
    rw [List.map_cons]
    by_cases h : p.1 = k
    · rw [if_pos h]
      by_cases e : p.1 = j
      · rw [valV_pos (p := (p.1, y)) e, valV_pos e, Option.map_some, if_pos (e.symm.trans h)]
      · rw [valV_neg (p := (p.1, y)) e, valV_neg e, ih]
    · rw [if_neg h]
      by_cases e : p.1 = j
      · rw [valV_pos (p := p) e, valV_pos e, Option.map_some, if_neg (fun z => h (e.trans z))]
      · rw [valV_neg (p := p) e, valV_neg e, ih]
theorem valV_snoc (k j : κ) (y : V) : ∀ kvs : List (κ × V), valV kvs k = none → valV (kvs ++ [(k, y)]) j = if j = k then some y else valV kvs j
  | [], _ => by
    by_cases e : k = j
    · rw [if_pos e.symm]; exact valV_pos (p := (k, y)) e
    · rw [if_neg (fun z => e z.symm)]; exact valV_neg (p := (k, y)) e
  | p :: r, hn => by
    rw [List.cons_append]
    have hk : ¬ p.1 = k := fun z => by rw [valV_pos z] at hn; cases hn
    rw [valV_neg hk] at hn
    have ih := valV_snoc k j y r hn
    by_cases e : p.1 = j
    · rw [valV_pos e, valV_pos e, if_neg (fun z => hk (e.trans z))]
    · rw [valV_neg e, valV_neg e, ih]
theorem valV_put (kvs : List (κ × V)) (k j : κ) (y : V) : valV (putK kvs k y) j = if j = k then some y else valV kvs j := by
  unfold putK
  by_cases a : (kvs.any fun kv => decide (kv.1 = k)) = true
  · rw [if_pos a, valV_map]
    rw [valV_any] at a
    by_cases e : j = k
    · obtain ⟨x, hx⟩ := Option.isSome_iff_exists.mp a
      rw [if_pos e, e, hx, Option.map_some, if_pos rfl]
    · rw [if_neg e]
      cases valV kvs j with
      | none => rfl
      | some x => rw [Option.map_some, if_neg e]
  · rw [if_neg a]
    refine valV_snoc k j y kvs ?_
    rw [valV_any] at a
    cases q : valV kvs k with
    | none => rfl
    | some x => rw [q] at a; exact (a rfl).elim
theorem RelO.isSome_eq {o : Option V} {u : Option Value} (r : RelO o u) : o.isSome = u.isSome := by
  cases o with
  | none => cases u with
    | none => rfl
    | some _ => exact (show False from r).elim
  | some _ => cases u with
    | none => exact (show False from r).elim
    | some _ => rfl
theorem RelO.getD {o : Option V} {u : Option Value} {d : V} {d' : Value} (r : RelO o u) (rd : RelV d d') : RelV (o.getD d) (u.getD d') := by
  cases o with
  | none => cases u with
    | none => exact rd
    | some _ => exact (show False from r).elim
  | some _ => cases u with
    | none => exact (show False from r).elim
    | some _ => exact r

/-- raw tables of the same keys -/
theorem KV.val {kvs : List (κ × V)} {vs : List (κ × Value)} (r : KV kvs vs) (k : κ) : RelO (valV kvs k) (valueAt vs k) := by
  unfold KV at r
  induction r with
  | nil => exact True.intro
  | @cons p q ps qs h t ih =>
    obtain ⟨h1, h2⟩ := h
    by_cases e : p.1 = k
    · have e' : q.1 = k := h1.symm.trans e
      have b : valueAt (q :: qs) k = some q.2 := by simp [valueAt, List.find?_cons, e']
      rw [valV_pos e, b]; exact h2
    · have e' : ¬ q.1 = k := fun z => e (h1.trans z)
      have b : valueAt (q :: qs) k = valueAt qs k := by simp [valueAt, List.find?_cons, e']
      rw [valV_neg e, b]; exact ih
theorem KV.any {kvs : List (κ × V)} {vs : List (κ × Value)} (r : KV kvs vs) (k : κ) : (kvs.any fun kv => decide (kv.1 = k)) = vs.any fun kv => decide (kv.1 = k) := by
  unfold KV at r
  induction r with
  | nil => rfl
  | cons h t ih => rw [List.any_cons, List.any_cons, ih, h.1]
theorem KV.repl {kvs : List (κ × V)} {vs : List (κ × Value)} (r : KV kvs vs) (k : κ) {y : V} {u : Value} (ry : RelV y u) :
    KV (kvs.map fun kv => if kv.1 = k then (kv.1, y) else kv) (vs.map fun kv => if kv.1 = k then (kv.1, u) else kv) := by
  unfold KV at r ⊢
  induction r with
  | nil => exact .nil
  | @cons p q ps qs h t ih =>
    rw [List.map_cons, List.map_cons]
    refine .cons ?_ ih
    obtain ⟨h1, h2⟩ := h
    by_cases e : p.1 = k
    · rw [if_pos e, if_pos (h1.symm.trans e)]; exact ⟨h1, ry⟩
    · rw [if_neg e, if_neg (fun z => e (h1.trans z))]; exact ⟨h1, h2⟩
theorem KV.put {kvs : List (κ × V)} {vs : List (κ × Value)} (r : KV kvs vs) (k : κ) {y : V} {u : Value} (ry : RelV y u) : KV (putK kvs k y) (stored vs k u) := by
  unfold putK stored
  rw [r.any k]
  by_cases e : (vs.any fun kv => decide (kv.1 = k)) = true
  · rw [if_pos e, if_pos e]; exact r.repl k ry
  · rw [if_neg e, if_neg e]; exact Paired.snoc r ⟨rfl, ry⟩
theorem KV.drop {kvs : List (κ × V)} {vs : List (κ × Value)} (r : KV kvs vs) (k : κ) : KV (dropK kvs k) (without vs k) := by
  unfold KV at r ⊢
  unfold dropK without
  induction r with
  | nil => exact .nil
  | @cons p q ps qs h t ih =>
    obtain ⟨h1, h2⟩ := h
    rw [List.filter_cons, List.filter_cons]
    by_cases e : p.1 = k
    · have a : ¬ decide (p.1 ≠ k) = true := by simp [e]
      have b : ¬ decide (q.1 ≠ k) = true := by simp [h1.symm.trans e]
      rw [if_neg a, if_neg b]; exact ih
    · have e' : ¬ q.1 = k := fun z => e (h1.trans z)
      have a : decide (p.1 ≠ k) = true := by simp [e]
      have b : decide (q.1 ≠ k) = true := by simp [e']
      rw [if_pos a, if_pos b]; exact .cons ⟨h1, h2⟩ ih
theorem KV.keys {kvs : List (κ × V)} {vs : List (κ × Value)} (r : KV kvs vs) : kvs.map (·.1) = vs.map (·.1) := by
  unfold KV at r
  induction r with
  | nil => rfl
  | cons h t ih => rw [List.map_cons, List.map_cons, ih, h.1]
theorem KV.length {kvs : List (κ × V)} {vs : List (κ × Value)} (r : KV kvs vs) : kvs.length = vs.length := Paired.length r
end


/-! ### a tracked dict, its keys ints and texts or tuples of these -/
/-- raw entries of a dict with tuple keys -/
abbrev KT (H : Hp) : List (List Key × V) → List (List Key × Addr × Value) → Prop := Paired fun p q => p.1 = q.1 ∧ H q.2.1 = some (.tup (p.1.map kV)) ∧ RelV p.2 q.2.2
theorem KT.val {H : Hp} {kvs : List (List Key × V)} {xs : List (List Key × Addr × Value)} (r : KT H kvs xs) (k : List Key) : RelO (valV kvs k) ((atKey xs k).map (·.2)) := by
  induction r with
  | nil => exact True.intro
  | @cons p q ps qs h t ih =>
    obtain ⟨h1, _, h2⟩ := h
    by_cases e : p.1 = k
    · have e' : q.1 = k := h1.symm.trans e
      have b : atKey (q :: qs) k = some q.2 := by simp [atKey, List.find?_cons, e']
      rw [valV_pos e, b]; exact h2
    · have e' : ¬ q.1 = k := fun z => e (h1.trans z)
      have b : atKey (q :: qs) k = atKey qs k := by simp [atKey, List.find?_cons, e']
      rw [valV_neg e, b]; exact ih
theorem KT.repl {H : Hp} {kvs : List (List Key × V)} {xs : List (List Key × Addr × Value)} (r : KT H kvs xs) (k : List Key) {y : V} {u : Value} (ry : RelV y u) :
    KT H (kvs.map fun kv => if kv.1 = k then (kv.1, y) else kv) (xs.map (putAt k u)) := by
  induction r with
  | nil => exact .nil
  | @cons p q ps qs h t ih =>
    rw [List.map_cons, List.map_cons]
    refine .cons ?_ ih
    obtain ⟨h1, h2, h3⟩ := h
    unfold putAt
    by_cases e : p.1 = k
    · rw [if_pos e, if_pos (h1.symm.trans e)]; exact ⟨h1, h2, ry⟩
    · rw [if_neg e, if_neg (fun z => e (h1.trans z))]; exact ⟨h1, h2, h3⟩
theorem KT.put {H : Hp} {kvs : List (List Key × V)} {xs : List (List Key × Addr × Value)} (r : KT H kvs xs) (k : List Key) {b : Addr} {y : V} {u : Value} (hb : H b = some (.tup (k.map kV))) (ry : RelV y u) :
    KT H (putK kvs k y) (storedH xs k b u) := by
  have e : (kvs.any fun kv => decide (kv.1 = k)) = (atKey xs k).isSome := by
    rw [valV_any, (r.val k).isSome_eq, Option.isSome_map]
  unfold putK storedH
  rw [e]
  by_cases q : (atKey xs k).isSome = true
  · rw [if_pos q, if_pos q]; exact r.repl k ry
  · rw [if_neg q, if_neg q]; exact Paired.snoc r ⟨rfl, hb, ry⟩
theorem KT.keeps {H H' : Hp} {kvs : List (List Key × V)} {xs : List (List Key × Addr × Value)} (r : KT H kvs xs) (ht : ∀ b ys, H b = some (.tup ys) → H' b = some (.tup ys)) : KT H' kvs xs :=
  Paired.mapP r fun _ _ z => ⟨z.1, ht _ _ z.2.1, z.2.2⟩

section
variable {P : Program} {w : World} {H : Hp} {h : Heap} {a : Addr}
end

/-- what the dict at a holds at the key y -/
def DGet (H : Hp) (a : Addr) (y : V) (r : Option V) : Prop :=
  (∃ kvs k, Rd H a (.dK kvs) ∧ y = kV k ∧ r = valV kvs k) ∨ ∃ kvs k b, Rd H a (.dT kvs) ∧ y = .ref b ∧ H b = some (.tup (k.map kV)) ∧ r = valV kvs k
/-- the heap behind a[y] = v -/
def DPut (H : Hp) (a : Addr) (y v : V) (H' : Hp) : Prop :=
  (∃ kvs k, H a = some (.dK kvs) ∧ y = kV k ∧ kvs.length < sizeLine ∧ H' = upd H a (.dK (putK kvs k v))) ∨
  ∃ kvs k b, H a = some (.dT kvs) ∧ y = .ref b ∧ H b = some (.tup (k.map kV)) ∧ kvs.length < sizeLine ∧ H' = upd H a (.dT (putK kvs k v))
theorem DGet.k {H : Hp} {a : Addr} {kvs : List (Key × V)} {k : Key} (e : H a = some (.dK kvs)) : DGet H a (kV k) (valV kvs k) := .inl ⟨kvs, k, .inl e, rfl, rfl⟩
theorem DGet.t {H : Hp} {a b : Addr} {kvs : List (List Key × V)} {k : List Key} (e : H a = some (.dT kvs)) (eb : H b = some (.tup (k.map kV))) : DGet H a (.ref b) (valV kvs k) := .inr ⟨kvs, k, b, .inl e, rfl, eb, rfl⟩
theorem DPut.k {H : Hp} {a : Addr} {kvs : List (Key × V)} {k : Key} {v : V} (e : H a = some (.dK kvs)) (hl : kvs.length < sizeLine) : DPut H a (kV k) v (upd H a (.dK (putK kvs k v))) := .inl ⟨kvs, k, e, rfl, hl, rfl⟩
theorem DPut.t {H : Hp} {a b : Addr} {kvs : List (List Key × V)} {k : List Key} {v : V} (e : H a = some (.dT kvs)) (eb : H b = some (.tup (k.map kV))) (hl : kvs.length < sizeLine) :
    DPut H a (.ref b) v (upd H a (.dT (putK kvs k v))) := .inr ⟨kvs, k, b, e, rfl, eb, hl, rfl⟩


section
variable {X : Cx} {pins : List (Addr × Obj)} {σ : St} {H : Hp} {s : Shared} {a : Addr} {y v : V} {u r : Value} {o : Option V} {A : Around} {E : Value → Shared → Prop}

end

section
variable {X : Cx} {pins : List (Addr × Obj)} {σ : St} {H : Hp} {s : Shared} {a : Addr} {kvs : List (Key × V)} {k : Key} {u : Value} {A : Around} {E : Value → Shared → Prop}
end


/-! ### readings and rules -/
/-- the element of a subscription, not a slice -/
def NoSl (i : Expr) : Prop := ∀ ov iv, subscripted i false ov iv = operate [ov, iv] (getItem ov iv)
/-- d[y] -/
def tDGet (td ty : TE) : TE := fun σ H Q => td σ H fun x H1 => ty σ H1 fun y H2 => ∃ a v, x = .ref a ∧ DGet H2 a y (some v) ∧ Q v H2
/-- y in d, y not in d -/
def tDIn (ty td : TE) : TE := fun σ H Q => ty σ H fun y H1 => td σ H1 fun x H2 => ∃ a o, x = .ref a ∧ DGet H2 a y o ∧ Q (.bl o.isSome) H2
def tDNotIn (ty td : TE) : TE := fun σ H Q => ty σ H fun y H1 => td σ H1 fun x H2 => ∃ a o, x = .ref a ∧ DGet H2 a y o ∧ Q (.bl (!o.isSome)) H2
/-- d[y] = v -/
def sDPut (td ty tv : TE) : TS := fun D σ H => tv σ H fun v H1 => td σ H1 fun x H2 => ty σ H2 fun y H3 => ∃ a H4, x = .ref a ∧ DPut H3 a y v H4 ∧ D.nx σ H4
/-- d[y] op= v -/
def sDAug (td ty tv : TE) (rd : V → V → Hp → VK → Prop) : TS := fun D σ H => td σ H fun x H1 => ty σ H1 fun y H2 => ∃ a v, x = .ref a ∧ DGet H2 a y (some v) ∧
  tv σ H2 fun y2 H3 => rd v y2 H3 fun z H4 => ∃ H5, DPut H4 a y z H5 ∧ D.nx σ H5
/-- del d[y] -/
def sDDel (td ty : TE) : TS := fun D σ H => td σ H fun x H1 => ty σ H1 fun y H2 => ∃ a kvs k, x = .ref a ∧ H2 a = some (.dK kvs) ∧ y = kV k ∧ (valV kvs k).isSome = true ∧ D.nx σ (upd H2 a (.dK (dropK kvs k)))

section
variable {X : Cx} {o i e value : Expr} {pos pos' tpos : Pos} {td ty tv : TE}
end


/-! ### displays -/
/-- {}, to be a dict of the kind that is wanted -/
def tDNewK : TE := fun _ H Q => ∀ p, H p = none → Q (.ref p) (upd H p (.dK []))
def tDNewT : TE := fun _ H Q => ∀ p, H p = none → Q (.ref p) (upd H p (.dT []))
section
variable {X : Cx} {pos : Pos}
end

/-- the pairs of a display, from the left -/
def tPairs : List (TE × TE) → St → Hp → (List (V × V) → Hp → Prop) → Prop
  | [], _, H, Q => Q [] H
  | (tk, tv) :: r, σ, H, Q => tk σ H fun x H1 => tv σ H1 fun y H2 => tPairs r σ H2 fun ps H3 => Q ((x, y) :: ps) H3
abbrev VV : List (V × V) → List (Value × Value) → Prop := Paired fun p q => RelV p.1 q.1 ∧ RelV p.2 q.2
def PPs (X : Cx) (pos : Pos) (keys : List (Option Expr)) (values : List Expr) (trs : List (TE × TE)) : Prop :=
  ∀ (pins : List (Addr × Obj)) (s : Shared) (σ : St) (H : Hp) (Q : List (V × V) → Hp → Prop), Inv X pins σ H s → tPairs trs σ H Q →
    wpAny (model X.prog X.w) X.A (evalPairs (pairTrees keys values X.env pos)) (fun vs s' => ∃ ps H', Inv X pins σ H' s' ∧ VV ps vs ∧ Q ps H') X.xe s
def mergeK (kvs more : List (Key × V)) : List (Key × V) := more.foldl (fun acc kv => putK acc kv.1 kv.2) kvs
/-- {k: v, ..} with keys ints and texts; the new dict stands empty while the pairs are made -/
def tDisp (trs : List (TE × TE)) : TE := fun σ H Q => ∀ p, H p = none → tPairs trs σ (upd H p (.dK [])) fun ps H2 => H2 p = some (.dK []) ∧ ∃ kvs : List (Key × V), ps = kvs.map (fun kv => (kV kv.1, kv.2)) ∧ kvs.length ≤ 15 ∧ Q (.ref p) (upd H2 p (.dK (mergeK [] kvs)))
/-! ### methods -/
/-- a method call o.m(e) of a built-in, with one argument: what must be seen of the text -/
structure M1 (X : Cx) (o : Expr) (m : Str) (apos : Pos) (e : Expr) (cpos : Pos) : Prop where
  base : attributeBase o m X.env (eval o X.env) = eval o X.env
  few : ((backTo cpos (starEach [e] X.env)).all (fun x => !x.1) && (backToKw cpos (keywordEach [] X.env)).all (fun x => x.1.isSome)
    && decide (([e] : List Expr).length + ([] : List Keyword).length + (if ([] : List Keyword).isEmpty then 0 else 1) < 30)) = true
  line : (apos.endLine == cpos.line) = true
  trees : backTo cpos (starEach [e] X.env) = [(false, eval e X.env)]
structure M2 (X : Cx) (o : Expr) (m : Str) (apos : Pos) (e f : Expr) (cpos : Pos) : Prop where
  base : attributeBase o m X.env (eval o X.env) = eval o X.env
  few : ((backTo cpos (starEach [e, f] X.env)).all (fun x => !x.1) && (backToKw cpos (keywordEach [] X.env)).all (fun x => x.1.isSome)
    && decide (([e, f] : List Expr).length + ([] : List Keyword).length + (if ([] : List Keyword).isEmpty then 0 else 1) < 30)) = true
  line : (apos.endLine == cpos.line) = true
  trees : backTo cpos (starEach [e, f] X.env) = [(false, eval e X.env), (false, eval f X.env)]

/-- a is a dict, whatever its keys -/
def IsD (H : Hp) (a : Addr) : Prop := (∃ kvs, Rd H a (.dK kvs)) ∨ ∃ kvs, Rd H a (.dT kvs)
section
variable {X : Cx} {pins : List (Addr × Obj)} {σ : St} {H : Hp} {s : Shared} {a : Addr} {y d : V} {u r : Value} {o : Option V} {A : Around} {E : Value → Shared → Prop}
end

def tDGet1 (td ty : TE) : TE := fun σ H Q => td σ H fun x H1 => ∃ a, x = .ref a ∧ IsD H1 a ∧ ty σ H1 fun y H2 => ∃ o, DGet H2 a y o ∧ Q (o.getD .non) H2
def tDGet2 (td ty tx : TE) : TE := fun σ H Q => td σ H fun x H1 => ∃ a, x = .ref a ∧ IsD H1 a ∧ ty σ H1 fun y H2 => tx σ H2 fun z H3 => ∃ o, DGet H3 a y o ∧ Q (o.getD z) H3
/-- d.pop(k): there; d.pop(k, x): there or not -/
def tDPop1 (td ty : TE) : TE := fun σ H Q => td σ H fun x H1 => ∃ a, x = .ref a ∧ IsD H1 a ∧ ty σ H1 fun y H2 => ∃ kvs k v, H2 a = some (.dK kvs) ∧ y = kV k ∧ valV kvs k = some v ∧ Q v (upd H2 a (.dK (dropK kvs k)))
def tDPop2 (td ty tx : TE) : TE := fun σ H Q => td σ H fun x H1 => ∃ a, x = .ref a ∧ IsD H1 a ∧ ty σ H1 fun y H2 => tx σ H2 fun z H3 => ∃ kvs k, H3 a = some (.dK kvs) ∧ y = kV k ∧
  (∀ v, valV kvs k = some v → Q v (upd H3 a (.dK (dropK kvs k)))) ∧ (valV kvs k = none → Q z H3)
section
variable {X : Cx} {o e f : Expr} {apos cpos : Pos} {td ty tx : TE}
end

/-! ### dict(d): a copy -/
section
variable {X : Cx} {pins : List (Addr × Obj)} {σ : St} {H : Hp} {s : Shared} {a : Addr} {kvs : List (Key × V)} {A : Around} {E : Value → Shared → Prop}
end


section
variable {X : Cx} {pins : List (Addr × Obj)} {σ : St} {H : Hp} {s : Shared} {a : Addr} {y : V} {u : Value} {A : Around} {E : Value → Shared → Prop}
end
end L2

namespace L2
open PySem PySem.Spec PyProof.Rows
section
variable {X : Cx}
end
/-! ### a dict's pairs: keys that differ -/
section
variable {κ : Type} [DecidableEq κ]
end
end L2

/-! OWN: dicts of pairs, any, and what else the later laws ask of built-in functions. Behind Dp, Dct, Bs. -/
namespace L2
open PySem PySem.Spec PyProof.Rows
section
variable {X : Cx}
end
end L2

/-! OWN: rows of parts, sets of held parts, and when a learnt line is right (the mathematics). Behind Ext3. -/
namespace L2
open PySem PySem.Spec PyProof.Rows
/-! ### rows in the heap -/
def dRow (r : List Int) : Dt := .tup (r.map Dt.int)
theorem nolsInts : ∀ ns : List Int, nols (ns.map Dt.int) = true
  | [] => by simp [nols]
  | n :: ns => by simp only [List.map_cons, nols, nol, Bool.true_and]; exact nolsInts ns
theorem depsInts : ∀ ns : List Int, deps (ns.map Dt.int) = 0
  | [] => by simp [deps]
  | n :: ns => by simp only [List.map_cons, deps, dep, depsInts ns]; rfl
theorem nol_dRow (r : List Int) : nol (dRow r) = true := by simp only [dRow, nol, nolsInts]
theorem dep_dRow (r : List Int) : dep (dRow r) = 1 := by simp only [dRow, dep, depsInts]
theorem nols_rows : ∀ Rs : List (List Int), nols (Rs.map dRow) = true
  | [] => by simp [nols]
  | t :: T => by simp only [List.map_cons, nols, nol_dRow, Bool.true_and]; exact nols_rows T
theorem deps_rows : ∀ Rs : List (List Int), deps (Rs.map dRow) ≤ 1
  | [] => by simp [deps]
  | t :: T => by
    have h := deps_rows T
    simp only [List.map_cons, deps, dep_dRow]
    omega
theorem has_dRow {K : PySem.W.Frag} {H : Hp} {r : List Int} {x : V} (h : Has K H (dRow r) x) : ∃ q, x = .ref q ∧ SqT K H q (r.map V.int) := by
  unfold dRow at h
  simp only [Has] at h
  obtain ⟨a, xs, rfl, hs, hl⟩ := h
  rw [hasl_ints hl] at hs
  exact ⟨a, rfl, hs⟩
theorem of_dRow {K : PySem.W.Frag} {H : Hp} {r : List Int} {q : Addr} (h : SqT K H q (r.map V.int)) : Has K H (dRow r) (.ref q) := Has.tup' h (HasL.ints r)
theorem rows_at {K : PySem.W.Frag} {H : Hp} {Rs : List (List Int)} {xs : List V} {i : Nat} {x : V} (h : HasL K H (Rs.map dRow) xs) (e : xs[i]? = some x) : ∃ r q, Rs[i]? = some r ∧ x = .ref q ∧ SqT K H q (r.map V.int) := by
  obtain ⟨d, e1, e2⟩ := h.get e
  rw [List.getElem?_map] at e1
  cases q : Rs[i]? with
  | none => rw [q] at e1; cases e1
  | some t =>
    rw [q] at e1
    cases e1
    obtain ⟨p, rfl, hp⟩ := has_dRow e2
    exact ⟨t, p, rfl, rfl, hp⟩
def SqInt (K : PySem.W.Frag) (H : Hp) (q : Addr) (ps : List Int) : Prop := SqL K H q (ps.map V.int) ∨ SqT K H q (ps.map V.int)
theorem SqInt.same {K : PySem.W.Frag} {H H' : Hp} {q : Addr} {ps : List Int} (h : SqInt K H q ps) (s : Same H H') : SqInt K H' q ps := h.elim (fun z => .inl (s.seq z)) fun z => .inr (s.tup z)
theorem ints_at {ps : List Int} {i : Nat} {x : V} (h : (ps.map V.int)[i]? = some x) : ∃ k, ps[i]? = some k ∧ x = .int k := by
  rw [List.getElem?_map] at h
  cases e : ps[i]? with
  | none => rw [e] at h; cases h
  | some k =>
    rw [e] at h
    exact ⟨k, rfl, (Option.some.inj h).symm⟩
/-! ### each once -/
def once : List Int → List Int → List Int
  | acc, [] => acc
  | acc, p :: ps => once (if p ∈ acc then acc else acc ++ [p]) ps
/-! ### a dict as a set of parts -/
structure Dset (H : Hp) (d : Addr) (hs : List Int) : Prop where
  ex : ∃ kvs : List (Key × V), H d = some (.dK kvs) ∧ (∀ n : Int, (valV kvs (Sum.inl n)).isSome = decide (n ∈ hs)) ∧ kvs.length ≤ hs.length
theorem putK_len (kvs : List (Key × V)) (k : Key) (v : V) : (putK kvs k v).length ≤ kvs.length + 1 := by
  unfold putK
  split
  · rw [List.length_map]; omega
  · rw [List.length_append]; simp
theorem valV_putI (kvs : List (Key × V)) (n m : Int) (v : V) : (valV (putK kvs (Sum.inl n) v) (Sum.inl m)).isSome = (decide (m = n) || (valV kvs (Sum.inl m)).isSome) := by
  rw [valV_put]
  by_cases e : m = n
  · rw [if_pos (by rw [e]), decide_eq_true e]
    rfl
  · rw [if_neg (fun z => e (by injection z)), decide_eq_false e, Bool.false_or]
theorem Dset.put {H : Hp} {d : Addr} {hs : List Int} {kvs : List (Key × V)} {n : Int} {v : V} (h2 : ∀ n : Int, (valV kvs (Sum.inl n)).isSome = decide (n ∈ hs)) (h3 : kvs.length ≤ hs.length) : Dset (upd H d (.dK (putK kvs (Sum.inl n) v))) d (hs ++ [n]) := by
  refine ⟨_, upd_same, fun m => ?_, ?_⟩
  · rw [valV_putI, h2]
    by_cases e : m = n
    · subst e
      simp
    · simp [e]
  · have := putK_len kvs (Sum.inl n) v
    rw [List.length_append]
    simp only [List.length_singleton]
    omega
/-- the pairs (p, True) -/
def tkv (ps : List Int) : List (Key × V) := ps.map fun p => (Sum.inl p, V.bl true)
theorem tkv_ok : ∀ ps : List Int, (∀ n : Int, (valV (mergeK [] (tkv ps)) (Sum.inl n)).isSome = decide (n ∈ ps)) ∧ (mergeK [] (tkv ps)).length ≤ ps.length := by
  intro ps
  suffices h : ∀ (kvs : List (Key × V)) (hs : List Int), (∀ n : Int, (valV kvs (Sum.inl n)).isSome = decide (n ∈ hs)) → kvs.length ≤ hs.length → (∀ n : Int, (valV (mergeK kvs (tkv ps)) (Sum.inl n)).isSome = decide (n ∈ hs ++ ps)) ∧ (mergeK kvs (tkv ps)).length ≤ (hs ++ ps).length by
    have := h [] [] (fun n => by simp [valV_nil]) (Nat.le_refl _)
    simpa using this
  induction ps with
  | nil => intro kvs hs h1 h2; simpa [tkv, mergeK] using ⟨h1, h2⟩
  | cons p ps ih =>
    intro kvs hs h1 h2
    have e : mergeK kvs (tkv (p :: ps)) = mergeK (putK kvs (Sum.inl p) (.bl true)) (tkv ps) := rfl
    rw [e, show hs ++ p :: ps = (hs ++ [p]) ++ ps by simp]
    refine ih _ _ (fun n => ?_) ?_
    · rw [valV_putI, h1]
      by_cases e : n = p
      · subst e
        simp
      · simp [e]
    · have := putK_len kvs (Sum.inl p) (.bl true)
      rw [List.length_append]
      simp only [List.length_singleton]
      omega
theorem Dset.of {H : Hp} {d : Addr} {ps : List Int} : Dset (upd H d (.dK (mergeK [] (tkv ps)))) d ps := ⟨_, upd_same, (tkv_ok ps).1, (tkv_ok ps).2⟩
theorem Dset.same {H H' : Hp} {d : Addr} {hs : List Int} (h : Dset H d hs) (s : Same H H') : Dset H' d hs := by
  obtain ⟨kvs, h1, h2, h3⟩ := h.ex
  exact ⟨kvs, s _ _ h1, h2, h3⟩
/-! ### when a learnt line is right -/
def nf (row held : List Int) : List Int := once [] (row.filter fun p => decide (-p ∉ held))
def rowAt (Rs : List (List Int)) (h : Int) : List Int := Rs.getD h.toNat []
def goL (Rs : List (List Int)) : List Int → List Int → Bool
  | _, [] => false
  | held, [h] => (nf (rowAt Rs h) held).isEmpty
  | held, h :: h' :: r => match nf (rowAt Rs h) held with
    | [x] => if x ∈ held then false else goL Rs (held ++ [x]) (h' :: r)
    | _ => false
def badHints (n : Nat) (hs : List Int) : Bool := hs.isEmpty || hs.any (fun h => decide (h < 0)) || hs.any (fun h => decide ((n : Int) ≤ h))
def isLearnt (Rs : List (List Int)) (ps hs : List Int) : Bool := if badHints Rs.length hs = true then false else goL Rs (ps.map fun p => -p) hs
/-- the law's own way -/
def leftL (row held : List Int) : Option (List Int) := if row.any (fun p => decide (p ∈ held)) = true then none else some (row.filter fun p => decide (-p ∉ held))
def rightL (Rs : List (List Int)) : List Int → List Int → Bool
  | _, [] => false
  | held, [h] => match leftL (rowAt Rs h) held with
    | some l => l.isEmpty
    | none => false
  | held, h :: h' :: r => match leftL (rowAt Rs h) held with
    | some [x] => rightL Rs (held ++ [x]) (h' :: r)
    | _ => false
def Cons (held : List Int) : Prop := ∀ x ∈ held, -x ∉ held
end L2

/-! OWN: is of bools; min and max of a list or a tuple of numbers. Behind Rw. -/
namespace L2
open PySem PySem.Spec PyProof.Rows
theorem best_lt (val : Nat → Int) : ∀ k, argBest (fun i j => decide (val i < val j)) k ≤ k ∧ ∀ i, i ≤ k → val (argBest (fun i j => decide (val i < val j)) k) ≤ val i
  | 0 => ⟨Nat.le_refl _, fun i hi => by
      have e : i = 0 := by omega
      subst e
      exact Int.le_refl _⟩
  | k + 1 => by
    obtain ⟨h1, h2⟩ := best_lt val k
    unfold argBest
    by_cases e : val (k + 1) < val (argBest (fun i j => decide (val i < val j)) k)
    · rw [if_pos (decide_eq_true e)]
      refine ⟨Nat.le_refl _, fun i hi => ?_⟩
      by_cases hk : i = k + 1
      · rw [hk]
        exact Int.le_refl _
      · have := h2 i (by omega)
        omega
    · rw [if_neg (fun z => e (of_decide_eq_true z))]
      refine ⟨by omega, fun i hi => ?_⟩
      by_cases hk : i = k + 1
      · rw [hk]
        omega
      · exact h2 i (by omega)
theorem getD_mem {ns : List Int} {i : Nat} (h : i < ns.length) : ns.getD i 0 ∈ ns := by
  rw [List.getD_eq_getElem?_getD, List.getElem?_eq_getElem h]
  exact List.getElem_mem h
theorem mem_getD {ns : List Int} {n : Int} (h : n ∈ ns) : ∃ i, i < ns.length ∧ ns.getD i 0 = n := by
  obtain ⟨i, hi, e⟩ := List.mem_iff_getElem.mp h
  exact ⟨i, hi, by rw [List.getD_eq_getElem?_getD, List.getElem?_eq_getElem hi]; exact e⟩
section
variable {X : Cx}
theorem valsInt {ns : List Int} {its : List Value} (rv : Vals (ns.map V.int) its) : ∀ (i : Nat) (v : Value), its.toArray[i]? = some v → ∃ t, v = .int (ns.getD i 0) t := fun i v hv => by
  have hv' : its[i]? = some v := by simpa using hv
  have hi : i < its.length := (List.getElem?_eq_some_iff.mp hv').1
  have hl := rv.length
  rw [List.length_map] at hl
  have hb : ns[i]? = some (ns.getD i 0) := by
    rw [List.getD_eq_getElem?_getD, List.getElem?_eq_getElem (by omega)]
    rfl
  obtain ⟨w', e1, e2⟩ := rv.get (i := i) (x := .int (ns.getD i 0)) (by rw [List.getElem?_map, hb]; rfl)
  rw [hv'] at e1
  cases e1
  exact e2
/-- min of numbers -/
theorem call_minL (hc : X.calm = true) : CallR X (.builtin "min") (fun xs H Q => ∃ (p : Addr) (ns : List Int), xs = [.ref p] ∧ SqInt X.K H p ns ∧ ns ≠ [] ∧ ∀ m, m ∈ ns → (∀ n ∈ ns, m ≤ n) → Q (.int m) H) := by
  intro pins s σ H xs us Q I r h
  obtain ⟨p, ns, rfl, hq, hne, q⟩ := h
  obtain ⟨u, rfl, ru⟩ := vals1 r
  cases (show u = Value.ref p from ru)
  have fin : ∀ {its : List Value} {v : Value} {h' : Heap} {tk : Nat}, Vals (ns.map V.int) its → its.toArray[argBest (fun i j => decide (ns.getD i 0 < ns.getD j 0)) (its.toArray.size - 1)]? = some v → (∀ b o, s.heap.get? b = some o → h'.get? b = some o) → EP X pins σ Q v { s with heap := h', toks := tk } := fun {its v h' tk} rv hP hk => by
    obtain ⟨t, rfl⟩ := valsInt rv _ _ hP
    have hl := rv.length
    rw [List.length_map] at hl
    have n0 : 0 < ns.length := List.length_pos_iff.mpr hne
    have es : its.toArray.size - 1 = ns.length - 1 := by simp only [List.size_toArray]; omega
    rw [es]
    obtain ⟨b1, b2⟩ := best_lt (fun i => ns.getD i 0) (ns.length - 1)
    exact ⟨.int _, H, I.kept (t' := tk) hk, ⟨t, rfl⟩, q _ (getD_mem (by omega)) fun n hn => by
      obtain ⟨i, hi, e⟩ := mem_getD hn
      rw [← e]
      exact b2 i (by omega)⟩
  have n0 : 0 < ns.length := List.length_pos_iff.mpr hne
  rcases hq with hq | hq
  · obtain ⟨its, rv, pl, hz⟩ := I.list hq
    have hl := rv.length
    rw [List.length_map] at hl
    have hp : p < s.heap.objs.size := by
      obtain ⟨o, ho, _⟩ := pl.isList
      exact Heap.lt_size ho
    refine call_min_walk (wpAny_pyIter_list pl.isList ?_)
    refine ⟨s.heap.objs.size, [s.heap.objs.size, p], [s.heap.objs.size], its.toArray.size, _, _, fun i j => decide (ns.getD i 0 < ns.getD j 0), rfl, Walks.list (show X.A.in1.handled = none from I.ok.hd hc) _ p (Nat.ne_of_lt hp) its.toArray, ⟨⟨_, Heap.get?_push_size _ rfl, rfl, rfl⟩, pl.isList.push _⟩, fun b hb => ?_, by simp only [List.size_toArray]; omega, CmpOf.ints_lt (fun i => ns.getD i 0) (valsInt rv), fun v h' tk hP hk => fin rv hP fun b o e => hk b o (fun hm => ?_) (Heap.get?_push_of_some _ e)⟩
    · show b < (s.heap.push _).objs.size
      rw [Heap.size_push]
      simp only [List.mem_cons, List.not_mem_nil, or_false] at hb
      rcases hb with rfl | rfl
      · exact Nat.lt_succ_self _
      · exact Nat.lt_succ_of_lt hp
    · have : b = s.heap.objs.size := by simpa using hm
      exact absurd (Heap.lt_size e) (by rw [this]; exact Nat.lt_irrefl _)
  · obtain ⟨its, rv, pl, hz⟩ := I.tuple hq
    have hl := rv.length
    rw [List.length_map] at hl
    have pt : s.heap.IsTuple p its.toArray := pl
    have hp : p < s.heap.objs.size := by
      obtain ⟨o, ho, _⟩ := id pt
      exact Heap.lt_size ho
    refine call_min_walk (wpAny_pyIter_tuple pt ?_)
    refine ⟨s.heap.objs.size, [s.heap.objs.size, p], [s.heap.objs.size], its.toArray.size, _, _, fun i j => decide (ns.getD i 0 < ns.getD j 0), rfl, Walks.tuple (show X.A.in1.handled = none from I.ok.hd hc) _ p (Nat.ne_of_lt hp) its.toArray, ⟨⟨_, Heap.get?_push_size _ rfl, rfl, rfl⟩, pt.push _⟩, fun b hb => ?_, by simp only [List.size_toArray]; omega, CmpOf.ints_lt (fun i => ns.getD i 0) (valsInt rv), fun v h' tk hP hk => fin rv hP fun b o e => hk b o (fun hm => ?_) (Heap.get?_push_of_some _ e)⟩
    · show b < (s.heap.push _).objs.size
      rw [Heap.size_push]
      simp only [List.mem_cons, List.not_mem_nil, or_false] at hb
      rcases hb with rfl | rfl
      · exact Nat.lt_succ_self _
      · exact Nat.lt_succ_of_lt hp
    · have : b = s.heap.objs.size := by simpa using hm
      exact absurd (Heap.lt_size e) (by rw [this]; exact Nat.lt_irrefl _)
end
end L2

/-! OWN: comprehensions whose target is any (pairs, triples); list ways that the layer lacks. Behind Ext5. -/
namespace L2
open PySem PySem.Spec PyProof.Rows
def tLCG (wi : TI) (L : Nat) (ix : List Nat) (g : TG) (te : TE) : TE := fun σ H Q => wi σ H fun J H1 => ∀ D, H1 D = none →
  ∃ W : Nat → Nat → List V → Hp → Prop, (∃ m, W 0 m [] (upd H1 D (.lst []))) ∧
    ∀ i m ys H', W i m ys H' → H' D = some (.lst ys) ∧
      ((J.stop i H' ∧ Q (.ref D) H') ∨ (J.go i H' ∧ ∀ x H'', J.yld i H' x H'' → ∀ σ0 : St, σ0.length = L → g x (σ0 ++ fvs σ ix) H'' fun σ' H2 => ∃ σ1 : St, σ1.length = L ∧ σ' = σ1 ++ fvs σ ix ∧ te σ' H2 fun y H3 =>
        H3 D = some (.lst ys) ∧ ys.length < sizeLine ∧ ∃ m', m' < m ∧ W (i + 1) m' (ys ++ [y]) (upd H3 D (.lst (ys ++ [y])))))
def tLCIG (wi : TI) (L : Nat) (ix : List Nat) (g : TG) (tc : TT) (te : TE) : TE := fun σ H Q => wi σ H fun J H1 => ∀ D, H1 D = none →
  ∃ W : Nat → Nat → List V → Hp → Prop, (∃ m, W 0 m [] (upd H1 D (.lst []))) ∧
    ∀ i m ys H', W i m ys H' → H' D = some (.lst ys) ∧
      ((J.stop i H' ∧ Q (.ref D) H') ∨ (J.go i H' ∧ ∀ x H'', J.yld i H' x H'' → ∀ σ0 : St, σ0.length = L → g x (σ0 ++ fvs σ ix) H'' fun σ' H2 => ∃ σ1 : St, σ1.length = L ∧ σ' = σ1 ++ fvs σ ix ∧ tc σ' H2 fun b H3 =>
        if b = true then te σ' H3 fun y H4 => H4 D = some (.lst ys) ∧ ys.length < sizeLine ∧ ∃ m', m' < m ∧ W (i + 1) m' (ys ++ [y]) (upd H4 D (.lst (ys ++ [y])))
        else ∃ m', m' < m ∧ W (i + 1) m' ys H3))
section
variable {X : Cx} {N' : List Str} {scope : Scope} {cl : List (Str × Addr)} {fp : List Addr} {pins : List (Addr × Obj)} {σ : St} {H : Hp} {s : Shared}
end
section
variable {X : Cx} {N' : List Str} {scope : Scope} {elt iter tg : Expr} {L : Nat} {pos : Pos} {wi : TI} {g : TG} {te : TE} {ix : List Nat}
end
section
variable {X : Cx} {N' : List Str} {scope : Scope} {elt iter c tg : Expr} {L : Nat} {pos : Pos} {wi : TI} {g : TG} {tc : TT} {te : TE} {ix : List Nat}
end
end L2

/-! OWN: enumerate of a list in a for with a pair ahead; list.insert. Behind Ext6. -/
namespace L2
open PySem PySem.Spec PyProof.Rows
def Ite (K : PySem.W.Frag) (a : Addr) : It :=
  ⟨fun i H => ∃ xs x, SqL K H a xs ∧ xs[i]? = some x, fun i H x H' => ∃ p y, x = .ref p ∧ H p = none ∧ H' = upd H p (.tup [.int i, y]) ∧ ∀ xs, SqL K H a xs → xs[i]? = some y, fun i H => ∃ xs, SqL K H a xs ∧ xs.length ≤ i⟩
section
variable {X : Cx}
def iEnum (K : PySem.W.Frag) (ta : TA) : TI := fun σ H R => ta σ H fun vs H1 => ∃ a, vs = [.ref a] ∧ (∃ xs, SqL K H1 a xs) ∧ R (Ite K a) H1
def rInsert : V → List V → Hp → VK → Prop := fun x vs H Q => ∃ l xs i y, x = .ref l ∧ vs = [.int (i : Nat), y] ∧ H l = some (.lst xs) ∧ i ≤ xs.length ∧ xs.length < sizeLine ∧ Q .non (upd H l (.lst (xs.take i ++ y :: xs.drop i)))
theorem mt_insert : MtM X "list.insert" rInsert := by
  intro pins s σ H x vs v us Q I rx rv h
  obtain ⟨l, xs, i, y, rfl, rfl, hH, hi, hz, q⟩ := h
  cases rx
  obtain ⟨u, u2, rfl, ru, ru2⟩ := rv.two
  obtain ⟨t, rfl⟩ := ru
  obtain ⟨z, its, n, r, hl, e⟩ := I.lstM hH
  have hfit : Builtin.List.listFitsIndex ((i : Nat) : Int) = true := by
    have h63 : sizeLine < 2 ^ 63 := line63
    unfold Builtin.List.listFitsIndex
    simp
    omega
  have hfit' : ¬(!Builtin.List.listFitsIndex ((i : Nat) : Int)) = true := by rw [hfit]; exact Bool.false_ne_true
  have hkk : ∃ k : Int, k = ((i : Nat) : Int) := ⟨_, rfl⟩
  obtain ⟨k, hk⟩ := hkk
  rw [← hk] at hfit' ⊢
  have M := AutoSeq1.list_insert_list_int_val_1 l its.toArray n k t u2 hfit' (by rw [List.size_toArray]; omega)
  refine call_meets F.slot_list_insert ⟨_, e, rfl⟩ F.entry_list_insert (F.args_list_insert_3 _ _ _) M ⟨e, ?_⟩
  refine ⟨.non, _, I.lset (its' := its.take i ++ u2 :: its.drop i) hH e ?_ ((r.take i).append (.cons ru2 (r.drop i))) ?_, rfl, q⟩
  · subst hk
    have h0 : ¬ (((i : Nat) : Int) < 0) := by omega
    have hm : min i its.toArray.size = i := by simp; omega
    show (its.toArray.extract 0 (if ((i : Nat) : Int) < 0 then _ else min (((i : Nat) : Int)).toNat its.toArray.size)).push u2 ++ its.toArray.extract (if ((i : Nat) : Int) < 0 then _ else min (((i : Nat) : Int)).toNat its.toArray.size) = _
    rw [if_neg h0, Int.toNat_natCast, hm]
    apply Array.ext'
    simp [List.extract_eq_drop_take]
    exact List.take_of_length_le (by simp)
  · simp
    omega
theorem call_isinstT : CallR X (.builtin "isinstance") (fun xs H Q => ∃ p ys n b, xs = [.ref p, .ty n] ∧ SqT X.K H p ys ∧ PySem.W.kitOne X.K (.type "tuple") (.type n) = some b ∧ Q (.bl b) H) := by
  intro pins s σ H xs us Q I r h
  obtain ⟨p, ys, n, b, rfl, hq, hk, q⟩ := h
  obtain ⟨u, w', rfl, rx, ry⟩ := vals2 r
  cases (show w' = Value.type n from ry)
  cases rx
  obtain ⟨its, rv, ⟨o, h1, h2, _⟩, hz⟩ := I.tuple hq
  exact PySem.W.kia_one PySem.W.kitx_tuple I.kIn ⟨o, h1, h2⟩ hk (fun z => nomatch z) fun tk => ⟨.bl b, H, I.tok _, rfl, q⟩
theorem call_isinstL : CallR X (.builtin "isinstance") (fun xs H Q => ∃ p ys n b, xs = [.ref p, .ty n] ∧ SqL X.K H p ys ∧ PySem.W.kitOne X.K (.type "list") (.type n) = some b ∧ Q (.bl b) H) := by
  intro pins s σ H xs us Q I r h
  obtain ⟨p, ys, n, b, rfl, hq, hk, q⟩ := h
  obtain ⟨u, w', rfl, rx, ry⟩ := vals2 r
  cases (show w' = Value.type n from ry)
  cases rx
  obtain ⟨its, rv, pp, hz⟩ := I.list hq
  obtain ⟨o, h1, h2, _⟩ := pp.isList
  exact PySem.W.kia_one PySem.W.kitx_list I.kIn ⟨o, h1, h2⟩ hk (fun z => nomatch z) fun tk => ⟨.bl b, H, I.tok _, rfl, q⟩
end
end L2

/-! OWN: sep.join(list of texts); texts of numbers; reversed(list) in a for. Behind Ext7. -/
namespace L2
open PySem PySem.Spec PyProof.Rows
def lenS (xs : List Str) : Nat := (xs.map Str.length).sum
theorem len_app (x y : Str) : (x ++ y).length = x.length + y.length := Array.size_append
theorem fold_len (sep : Str) : ∀ (xs : List Str) (a : Array Nat), (xs.foldl (fun acc p => acc ++ sep.cps ++ p.cps) a).size ≤ a.size + lenS xs + xs.length * sep.length
  | [], a => by simp [lenS]
  | x :: xs, a => by
    rw [List.foldl_cons]
    refine Nat.le_trans (fold_len sep xs _) ?_
    rw [Array.size_append, Array.size_append]
    simp only [lenS, List.map_cons, List.sum_cons, List.length_cons, Nat.add_mul, Nat.one_mul]
    show a.size + sep.length + x.length + _ + _ ≤ _
    omega
theorem glued_len (sep : Str) : ∀ xs : List Str, (Builtin.Str.glued sep xs).length ≤ lenS xs + xs.length * sep.length
  | [] => Nat.zero_le _
  | x :: xs => by
    refine Nat.le_trans (fold_len sep xs x.cps) ?_
    simp only [lenS, List.map_cons, List.sum_cons, List.length_cons, Nat.add_mul, Nat.one_mul]
    show x.length + _ + _ ≤ _
    omega
section
variable {X : Cx}
theorem strs_of : ∀ {xs : List Str} {us : List Value}, Vals (xs.map V.str) us → ∃ l : List (Str × Tok), us = strValues l ∧ l.map (·.1) = xs
  | [], us, r => by
    have e : us = [] := Vals.zero r
    exact ⟨[], by rw [e]; rfl, rfl⟩
  | x :: xs, us, r => by
    cases r with
    | cons r1 rr =>
      obtain ⟨l, e1, e2⟩ := strs_of rr
      obtain ⟨t, e3⟩ := r1
      refine ⟨(x, t) :: l, ?_, by rw [List.map_cons, e2]⟩
      rw [e3, e1]
      rfl
theorem foldl_len (k : Nat) : ∀ (xs : List Str) (a : Nat), xs.foldl (fun n x => n + x.length + k) a = a + lenS xs + xs.length * k
  | [], a => by simp [lenS]
  | x :: xs, a => by
    rw [List.foldl_cons, foldl_len k xs]
    simp only [lenS, List.map_cons, List.sum_cons, List.length_cons, Nat.add_mul, Nat.one_mul]
    omega
def rJoin (K : PySem.W.Frag) : V → List V → Hp → VK → Prop := fun x vs H Q => ∃ sep p xs, x = .str sep ∧ vs = [.ref p] ∧ SqL K H p (xs.map V.str) ∧ lenS xs + xs.length * sep.length ≤ sizeLine ∧ Q (.str (Builtin.Str.glued sep xs)) H
theorem mt_join : MtR X "str.join" (rJoin X.K) := by
  intro pins s σ H x vs v us Q I rx rv h
  obtain ⟨sep, p, xs, rfl, rfl, hq, hz, q⟩ := h
  obtain ⟨t, rfl⟩ := rx
  obtain ⟨u, rfl, ru⟩ := rv.one
  cases ru
  obtain ⟨its, r, pl, hz2⟩ := I.list hq
  obtain ⟨l, rfl, e2⟩ := strs_of r
  have hl : Builtin.Str.tooLong ((l.map (·.1)).toArray.foldl (· + ·.length + sep.length) 0) = false := by
    rw [e2]
    unfold Builtin.Str.tooLong
    rw [List.foldl_toArray, foldl_len]
    exact decide_eq_false (by omega)
  refine call_meets F.slot_str_join (typeIs_str s sep t) F.entry_str_join (F.args_str_join_2 _ _) (meets_str_join_list sep t p l hl) ⟨pl.isList, ?_⟩
  match l, e2 with
  | [], e2 =>
    subst e2
    exact ⟨Nat.le_trans (glued_len _ _) hz, .str (Builtin.Str.glued sep []), H, I.tok _, ⟨_, rfl⟩, q⟩
  | [a], e2 =>
    subst e2
    exact ⟨.str a.1, H, I, ⟨_, rfl⟩, q⟩
  | a :: b :: c, e2 =>
    subst e2
    exact ⟨Nat.le_trans (glued_len _ _) hz, .str _, H, I.tok _, ⟨_, rfl⟩, q⟩
end
end L2

/-! OWN: reversed(list) and zip(list, list) in a for; a walk of a dict's keys (the dict is frozen while it is walked); dict.update(dict). Behind Ext8. -/
namespace L2
open PySem PySem.Spec PyProof.Rows
/-! ### reversed(list) -/
def Itv (K : PySem.W.Frag) (a : Addr) (n : Nat) : It :=
  ⟨fun i H => i < n ∧ ∃ xs, SqL K H a xs ∧ xs.length = n, fun i H x H' => H' = H ∧ ∀ xs, SqL K H a xs → xs[n - 1 - i]? = some x, fun i H => n ≤ i⟩
/-! ### zip(list, list) -/
def Itz (K : PySem.W.Frag) (a b : Addr) : It :=
  ⟨fun i H => ∃ xs ys x y, SqL K H a xs ∧ SqL K H b ys ∧ xs[i]? = some x ∧ ys[i]? = some y, fun i H x H' => ∃ p y z, x = .ref p ∧ H p = none ∧ H' = upd H p (.tup [y, z]) ∧ (∀ xs, SqL K H a xs → xs[i]? = some y) ∧ ∀ ys, SqL K H b ys → ys[i]? = some z,
    fun i H => ∃ xs ys, SqL K H a xs ∧ SqL K H b ys ∧ (xs.length ≤ i ∨ ys.length ≤ i)⟩
/-! ### a dict, frozen while it is walked -/
def Itd (d : Addr) (o : Obj) (kvs : List (Key × V)) : It :=
  ⟨fun i H => i < kvs.length ∧ H d = some (.frz o (.dK kvs)), fun i H x H' => H' = H ∧ ∃ k v, kvs[i]? = some (k, v) ∧ x = kV k, fun i H => kvs.length ≤ i ∧ H d = some (.frz o (.dK kvs))⟩
section
variable {X : Cx} {tg : Expr}
def iRev (K : PySem.W.Frag) (ta : TA) : TI := fun σ H R => ta σ H fun vs H1 => ∃ a xs, vs = [.ref a] ∧ SqL K H1 a xs ∧ R (Itv K a xs.length) H1
def iZip (K : PySem.W.Frag) (ta : TA) : TI := fun σ H R => ta σ H fun vs H1 => ∃ a b, vs = [.ref a, .ref b] ∧ (∃ xs, SqL K H1 a xs) ∧ (∃ ys, SqL K H1 b ys) ∧ R (Itz K a b) H1
def iDict (tl : TE) : TI := fun σ H R => tl σ H fun x H1 => ∃ d kvs, x = .ref d ∧ H1 d = some (.dK kvs) ∧ ∀ o, R (Itd d o kvs) (upd H1 d (.frz o (.dK kvs)))
def rUpdate : V → List V → Hp → VK → Prop := fun x vs H Q => ∃ d b kvs more, x = .ref d ∧ vs = [.ref b] ∧ d ≠ b ∧ H d = some (.dK kvs) ∧ H b = some (.dK more) ∧ kvs.length + more.length ≤ sizeLine ∧ Q .non (upd H d (.dK (mergeK kvs more)))
end
end L2

/-! OWN: tuple(reversed(list)); max of a list with default. Behind Ext9. -/
namespace L2
open PySem PySem.Spec PyProof.Rows
set_option maxRecDepth 100000
section
variable {prog : Program} {w : World} {A : Around} {E : Value → Shared → Prop} {s : Shared} {J : Addr} {fp wr : List Addr} {G : Array GenState → Array GenState → Prop} {n : Nat} {P : Nat → Value → Prop} {St : Nat → Shared → Prop}
end
end L2

/-! OWN: tuple(reversed(list)) as an expression; max(list, default=d). Behind Ext10. -/
namespace L2
open PySem PySem.Spec PyProof.Rows
set_option maxRecDepth 100000
section
variable {prog : Program} {w : World} {A : Around} {R : Result → Shared → Prop} {J : Addr} {fp wr : List Addr} {n : Nat} {P : Nat → Value → Prop} {St : Nat → Heap → Prop} {kw : List (Str × Value)}
end
section
variable {prog : Program} {w : World} {A : Around} {E : Value → Shared → Prop} {s : Shared}
end
section
variable {X : Cx}
def tMaxd (K : PySem.W.Frag) (ta tk : TA) : TE := fun σ H Q => ta σ H fun vs H1 => tk σ H1 fun zs H2 => ∃ (p : Addr) (ns : List Int) (dv : Int), vs = [.ref p] ∧ zs = [.int dv] ∧ SqInt K H2 p ns ∧ (ns = [] → Q (.int dv) H2) ∧ ∀ m ∈ ns, (∀ n ∈ ns, n ≤ m) → Q (.int m) H2
/-- tuple(reversed(xs)) -/
def tTupRev (K : PySem.W.Frag) (ta : TA) : TE := fun σ H Q => ta σ H fun vs H1 => ∃ (a : Addr) (xs : List V), vs = [.ref a] ∧ SqL K H1 a xs ∧ ∀ l, H1 l = none → Q (.ref l) (upd H1 l (.tup xs.reverse))
end
end L2

/-! OWN: t[lo:hi] where it is the whole of t. Behind Ext11. -/
namespace HT
open PySem PyProof.Rows
section
variable {prog : Program} {w : World} {A : Around} {E : Value → Shared → Prop} {s : Shared}
end
end HT
namespace L2
open PySem PySem.Spec PyProof.Rows
section
variable {X : Cx}
def rSlTW (K : PySem.W.Frag) : V → Option Int → Option Int → Hp → VK → Prop := fun x lo hi H Q => ∃ a xs, x = .ref a ∧ SqT K H a xs ∧ (HT.sIx xs.length 0 lo = 0 ∧ HT.sIx xs.length xs.length hi = xs.length) ∧ Q (.ref a) H
/-- either way: a tuple of the items that were cut -/
def rSlTA (K : PySem.W.Frag) : V → Option Int → Option Int → Hp → VK → Prop := fun x lo hi H Q => rSlT K x lo hi H Q ∨ rSlTW K x lo hi H Q
end
end L2

/-! OWN: range with the step -1. Behind Ext12. -/
namespace L2
open PySem PySem.Spec PyProof.Rows
/-- hi, hi - 1, ..: n numbers -/
def Itdn (hi : Int) (n : Nat) : It := ⟨fun i _ => i < n, fun i H x H' => H' = H ∧ x = .int (hi - i), fun i _ => n ≤ i⟩
section
variable {X : Cx} {tg : Expr}
def iDown (ta : TA) : TI := fun σ H R => ta σ H fun vs H1 => ∃ i j : Int, vs = [.int i, .int j, .int (-1)] ∧ (-(2 ^ 62) ≤ i ∧ i < 2 ^ 62 ∧ -(2 ^ 62) ≤ j ∧ j < 2 ^ 62) ∧ R (Itdn i (i - j).toNat) H1
end
end L2

/-! OWN: d.values(), list(d.values()), list(d). Behind Ext13. -/
namespace L2
open PySem PySem.Spec PyProof.Rows
set_option maxRecDepth 100000
/-- the view of a dict's values -/
def VView (d v : Addr) : HO := .ext fun h => h.IsValuesView v d
section
variable {X : Cx}
def rValues : V → List V → Hp → VK → Prop := fun x vs H Q => ∃ d kvs, x = .ref d ∧ vs = [] ∧ H d = some (.dK kvs) ∧ ∀ v, H v = none → Q (.ref v) (upd H v (VView d v))
end
end L2

/-! OWN: range(n) as a value, list(range(n)). Behind Ext14. -/
namespace L2
open PySem PySem.Spec PyProof.Rows
set_option maxRecDepth 100000
section
variable {X : Cx}
def tRange1 (ta : TA) : TE := fun σ H Q => ta σ H fun vs H1 => ∃ j : Int, vs = [.int j] ∧ ∀ r, H1 r = none → Q (.ref r) (upd H1 r (.rng 0 j))
end
end L2

/-! a dict whose keys are a text and a tuple of ints and texts, by setdefault. Behind Ext15. -/
namespace L2
open PySem PySem.Spec PyProof.Rows
section
variable {P : Program} {w : World}
abbrev Sgn := Str × List Key
def IsSign (P : Program) (w : World) (h : Heap) (k : Sgn) (a : Addr) : Prop :=
  ∃ (o : Obj) (t : Tok) (q : Addr) (n : Nat), h.get? a = some o ∧ o.cls = .type "tuple" ∧ o.data = .seq #[.str k.1 t, .ref q] n ∧ IsTupleKey (mixKind P w) h k.2 q
theorem IsSign.typeIs {s : Shared} {k : Sgn} {a : Addr} (x : IsSign P w s.heap k a) : s.TypeIs (.ref a) "tuple" := let ⟨o, _, _, _, ho, hc, _⟩ := x; ⟨o, ho, hc⟩
theorem IsSign.inj {h : Heap} {a : Addr} {x y : Sgn} (hx : IsSign P w h x a) (hy : IsSign P w h y a) : x = y := by
  obtain ⟨o, t, q, n, ho, _, hd, hi⟩ := hx
  obtain ⟨o', t', q', n', ho', _, hd', hi'⟩ := hy
  cases ho.symm.trans ho'
  have e := hd.symm.trans hd'
  injection e with e _
  have e2 : [Value.str x.1 t, .ref q] = [Value.str y.1 t', .ref q'] := congrArg Array.toList e
  injection e2 with e3 e4
  injection e3 with e5 _
  injection e4 with e6 _
  injection e6 with e7
  subst e7
  exact Prod.ext e5 (hi.inj hi')
theorem IsSign.keeps {h h' : Heap} {k : Sgn} {a d : Addr} {o : Obj} {es ep} (x : IsSign P w h k a) (ho : h.get? d = some o) (hd : o.data = .dict es ep) (hs : Heap.SameBut d h h') : IsSign P w h' k a := by
  obtain ⟨o', t, q, n, ho', hc, hd', hi⟩ := x
  have hne : a ≠ d := by
    rintro rfl
    cases ho'.symm.trans ho
    rw [hd] at hd'
    exact nomatch hd'
  exact ⟨o', t, q, n, (hs.2 a hne).trans ho', hc, hd', hi.keeps ho hd hs⟩
def signHash (P : Program) (w : World) (k : Sgn) : Int := reduceHash (Builtin.Tuple.tupleHashOf [(mixKind P w).hash (.inr k.1), tupleKeyHash (mixKind P w) k.2])
variable {A : Around} {E : Value → Shared → Prop} {s : Shared}
theorem sign_hash {k : Sgn} {a : Addr} {Q : Int → Shared → Prop} (hu : A.units + 10 < cLine) (hk : IsSign P w s.heap k a) (h : Q (signHash P w k) { s with toks := s.toks + (k.2.length + 3) }) :
    wpAny (model P w) A (pyHash (.ref a)) Q E s := by
  have hT := hk.typeIs
  obtain ⟨o, t, q, n, ho, _, hd, hi⟩ := hk
  unfold pyHash
  first | unfold pyHashByItsType | skip
  first | refine wpAny_bind (wpAny_cRoomFor_or (.inr (by omega)) ?_) | skip
  refine wpAny_bind (wpAny_specialOf hT F.slot_tuple_hash.lookup ?_)
  show wpAny _ _ (if (some (Value.builtin "tuple.__hash__") == some Value.none) = true then _ else _) Q E s
  rw [if_neg (by rw [beq_builtin_none]; exact Bool.false_ne_true)]
  refine wpAny_bind (wpAny_specialOf hT F.slot_tuple_hash.lookup ?_)
  show wpAny _ _ (callSpecialIfBoundUnlessNone? (.ref a) "__hash__" _ >>= _) Q E s
  refine wpAny_bind (wpAny_callSpecialIfBoundUnlessNone?_slot hT F.slot_tuple_hash (wpAny_call_entry F.slot_tuple_hash hT F.entry_tuple_hash ?_ (F.args_tuple_hash_1 _)))
  show wpAny _ _ (Builtin.Tuple.tupleItemsOf (.ref a) >>= _) _ _ s
  refine wpAny_bind (wpAny_tupleItemsOf ho hd ?_)
  refine wpAny_bind ?_
  rw [← Array.forIn_toList]
  refine wpAny_forIn_list _
    (fun rest (b : Array Int) s' => (rest = [.str k.1 t, .ref q] ∧ b = #[] ∧ s' = s) ∨ (rest = [.ref q] ∧ b = #[(mixKind P w).hash (.inr k.1)] ∧ s' = { s with toks := s.toks + 1 }) ∨
      (rest = [] ∧ b = #[(mixKind P w).hash (.inr k.1), tupleKeyHash (mixKind P w) k.2] ∧ s' = { s with toks := s.toks + 1 + (k.2.length + 1) }))
    _ ?_ ?_ _ _ (.inl ⟨rfl, rfl, rfl⟩)
  · rintro x rest b s' (⟨e, rfl, rfl⟩ | ⟨e, rfl, rfl⟩ | ⟨e, rfl, rfl⟩)
    · injection e with e1 e2
      subst e1 e2
      refine wpAny_bind ((mixKind P w).pyHash (k := .inr k.1) (mixKind_str P w k.1 t) ?_)
      first
        | exact wpAny_pure (.inr (.inl ⟨rfl, rfl, rfl⟩))
        | exact wpAny_bind (wpAny_pure (wpAny_pure (.inr (.inl ⟨rfl, rfl, rfl⟩))))
    · injection e with e1 e2
      subst e1 e2
      refine wpAny_bind (wpAny_pyHash_tuple (knd := mixKind P w) (ks := k.2) (by show A.units + 1 < cLine; omega) hi ?_)
      first
        | exact wpAny_pure (.inr (.inr ⟨rfl, rfl, rfl⟩))
        | exact wpAny_bind (wpAny_pure (wpAny_pure (.inr (.inr ⟨rfl, rfl, rfl⟩))))
    · exact nomatch e
  · rintro b s' (⟨e, rfl, rfl⟩ | ⟨e, rfl, rfl⟩ | ⟨e, rfl, rfl⟩)
    · exact nomatch e
    · exact nomatch e
    show wpAny _ _ (retInt (Builtin.Tuple.tupleHashOf [(mixKind P w).hash (.inr k.1), tupleKeyHash (mixKind P w) k.2])) _ _ _
    refine wpAny_ret_mkInt ?_
    have ht : s.toks + (k.2.length + 3) = s.toks + 1 + (k.2.length + 1) + 1 := by omega
    rw [ht] at h
    unfold signHash reduceHash at h
    generalize Builtin.Tuple.tupleHashOf [(mixKind P w).hash (.inr k.1), tupleKeyHash (mixKind P w) k.2] = z at h ⊢
    show wpAny _ _ (if (decide (-(2 : Int) ^ 63 ≤ z) && decide (z < 2 ^ 63)) = true then _ else _) Q E _
    by_cases hr : (decide (-(2 : Int) ^ 63 ≤ z) && decide (z < 2 ^ 63)) = true
    · rw [if_pos hr]
      rw [if_pos hr] at h
      exact wpAny_pure h
    · rw [if_neg hr]
      rw [if_neg hr] at h
      exact wpAny_bind (wpAny_rule (wpAny_pure h))
theorem sign_eq_tree {x y : Sgn} {a b : Addr} {R : Fin → Shared → Prop} (hu : A.units + 5 < cLine) (hx : IsSign P w s.heap x a) (hy : IsSign P w s.heap y b) (h : R (.done (.ret (.bool (decide (x = y))))) s) :
    wpAny (model P w) A (Builtin.«tuple.__eq__» ⟨[.ref a, .ref b], []⟩) R E s := by
  have hTb := hy.typeIs
  obtain ⟨oa, ta, qa, na, hoa, _, hda, hia⟩ := hx
  obtain ⟨ob, tb, qb, nb, hob, _, hdb, hib⟩ := hy
  show wpAny _ _ (isInstance (.ref b) (.type "tuple") >>= _) _ _ s
  refine wpAny_bind (wpAny_isInstance hTb isSubtype_tuple_tuple ?_)
  simp only [Bool.not_true, Bool.false_eq_true, if_false]
  refine wpAny_bind (wpAny_tupleItemsOf hoa hda ?_)
  refine wpAny_bind (wpAny_tupleItemsOf hob hdb ?_)
  refine wpAny_bind ?_
  refine wpAny_forIn_list _
    (fun rest r s' => r.1 = none ∧ s' = s ∧ ((rest = [(.str x.1 ta, .str y.1 tb), (.ref qa, .ref qb)]) ∨ (rest = [(.ref qa, .ref qb)] ∧ x.1 = y.1) ∨ (rest = [] ∧ x = y)))
    _ ?_ ?_ _ _ ⟨rfl, rfl, .inl rfl⟩
  · rintro ⟨u, v⟩ rest r s' ⟨hr, rfl, e | ⟨e, e1⟩ | ⟨e, e1⟩⟩
    · injection e with e2 e3
      injection e2 with e4 e5
      subst e3 e4 e5
      refine wpAny_bind ((mixKind P w).eqBool (a := .inr x.1) (b := .inr y.1) (mixKind_str P w x.1 ta) (mixKind_str P w y.1 tb) ?_)
      by_cases hk : x.1 = y.1
      · rw [decide_eq_true (show (Sum.inr x.1 : Key) = .inr y.1 by rw [hk])]
        simp only [Bool.not_true, Bool.false_eq_true, if_false]
        exact wpAny_pure ⟨by trivial, by trivial, .inr (.inl ⟨by trivial, hk⟩)⟩
      · rw [decide_eq_false (show ¬ (Sum.inr x.1 : Key) = .inr y.1 from fun z => hk (Sum.inr.inj z))]
        simp only [Bool.not_false, if_true]
        rw [decide_eq_false (show ¬ x = y from fun z => hk (by rw [z]))] at h
        exact wpAny_bind (wpAny_pure (wpAny_pure (wpAny_pure h)))
    · injection e with e2 e3
      injection e2 with e4 e5
      subst e3 e4 e5
      refine wpAny_bind (wpAny_eqBool_tuple (knd := mixKind P w) (x := x.2) (y := y.2) (by omega) hia hib ?_)
      by_cases hk : x.2 = y.2
      · rw [decide_eq_true hk]
        simp only [Bool.not_true, Bool.false_eq_true, if_false]
        exact wpAny_pure ⟨by trivial, by trivial, .inr (.inr ⟨by trivial, Prod.ext e1 hk⟩)⟩
      · rw [decide_eq_false hk]
        simp only [Bool.not_false, if_true]
        rw [decide_eq_false (show ¬ x = y from fun z => hk (by rw [z]))] at h
        exact wpAny_bind (wpAny_pure (wpAny_pure (wpAny_pure h)))
    · exact nomatch e
  · rintro ⟨r1, r2⟩ s' ⟨hr, rfl, e | ⟨e, e1⟩ | ⟨e, e1⟩⟩
    · exact nomatch e
    · exact nomatch e
    simp only at hr
    subst hr
    refine wpAny_pure ?_
    rw [decide_eq_true e1] at h
    exact h
theorem sign_eq {x y : Sgn} {a b : Addr} {Q : Bool → Shared → Prop} (hu : A.units + 10 < cLine) (hx : IsSign P w s.heap x a) (hy : IsSign P w s.heap y b) (h : Q (decide (x = y)) s) :
    wpAny (model P w) A (eqBool (.ref a) (.ref b)) Q E s := by
  unfold eqBool
  try with_reducible refine wpAny_holding ?_
  show wpAny _ _ (if (Value.ref a == Value.ref b) = true then _ else _) Q E s
  by_cases hab : (Value.ref a == Value.ref b) = true
  · rw [if_pos hab]
    have e : a = b := by have := eq_of_beq hab; injection this
    subst e
    cases hx.inj hy
    exact wpAny_bind (wpAny_rule (wpAny_pure (by simpa using h)))
  · rw [if_neg hab]
    exact wpAny_bind (wpAny_richCompare_same_room (op := .Eq) hx.typeIs hy.typeIs F.slot_tuple_eq
      (wpAny_call_entry F.slot_tuple_eq hx.typeIs F.entry_tuple_eq (sign_eq_tree (by show A.units + 1 + 5 < cLine; omega) hx hy ⟨_, rfl, (fun e => nomatch e), wpAny_truthy_bool h⟩) (F.args_tuple_eq_2 _ _)) (by omega))
theorem quiet7 {ks : List Key} {a : Addr} {Q : Bool → Shared → Prop} (hk : IsTupleKey (mixKind P w) s.heap ks a) (h : Q true s) : wpAny (model P w) A (eqIsQuiet 7 (.ref a)) Q E s := by
  have hT := hk.typeIs
  obtain ⟨o, items, n, ho, _, hd, hi⟩ := hk
  unfold eqIsQuiet
  refine wpAny_bind (wpAny_specialOf hT F.slot_tuple_eq.lookup ?_)
  show wpAny _ _ (isInstance (.ref a) (.type "tuple") >>= _) _ _ s
  refine wpAny_bind (wpAny_isInstance hT isSubtype_tuple_tuple ?_)
  simp only [Bool.not_true, Bool.false_eq_true, if_false]
  refine wpAny_bind (wpAny_seqItems ho hd ?_)
  refine wpAny_bind ?_
  show wpAny _ _ (forIn items _ _) _ _ s
  rw [← Array.forIn_toList]
  refine wpAny_forIn_list _ (fun rest r s' => r.1 = none ∧ s' = s ∧ ∀ v ∈ rest, carriedByValue v = true) _ ?_ ?_ _ _ ⟨rfl, rfl, hi.byValue⟩
  · rintro v rest r s' ⟨hr, rfl, hall⟩
    rw [eqIsQuiet_byValue _ (hall v List.mem_cons_self)]
    refine wpAny_bind (wpAny_pure ?_)
    simp only [Bool.not_true, Bool.false_eq_true, if_false]
    exact wpAny_pure ⟨rfl, rfl, fun u hu' => hall u (List.mem_cons_of_mem _ hu')⟩
  · rintro ⟨r1, r2⟩ s' ⟨hr, rfl, _⟩
    simp only at hr
    subst hr
    exact wpAny_pure h
theorem sign_quiet {k : Sgn} {a : Addr} {Q : Bool → Shared → Prop} (hk : IsSign P w s.heap k a) (h : Q true s) : wpAny (model P w) A (eqIsQuiet 8 (.ref a)) Q E s := by
  have hT := hk.typeIs
  obtain ⟨o, t, q, n, ho, _, hd, hi⟩ := hk
  unfold eqIsQuiet
  refine wpAny_bind (wpAny_specialOf hT F.slot_tuple_eq.lookup ?_)
  show wpAny _ _ (isInstance (.ref a) (.type "tuple") >>= _) _ _ s
  refine wpAny_bind (wpAny_isInstance hT isSubtype_tuple_tuple ?_)
  simp only [Bool.not_true, Bool.false_eq_true, if_false]
  refine wpAny_bind (wpAny_seqItems ho hd ?_)
  refine wpAny_bind ?_
  show wpAny _ _ (forIn #[Value.str k.1 t, .ref q] _ _) _ _ s
  rw [← Array.forIn_toList]
  refine wpAny_forIn_list _ (fun rest r s' => r.1 = none ∧ s' = s ∧ ∀ v ∈ rest, carriedByValue v = true ∨ v = .ref q) _ ?_ ?_ _ _ ⟨rfl, rfl, fun v hv => ?_⟩
  · rintro v rest r s' ⟨hr, rfl, hall⟩
    rcases hall v List.mem_cons_self with hv | rfl
    · rw [eqIsQuiet_byValue _ hv]
      refine wpAny_bind (wpAny_pure ?_)
      simp only [Bool.not_true, Bool.false_eq_true, if_false]
      exact wpAny_pure ⟨rfl, rfl, fun u hu' => hall u (List.mem_cons_of_mem _ hu')⟩
    · refine wpAny_bind (quiet7 hi ?_)
      simp only [Bool.not_true, Bool.false_eq_true, if_false]
      exact wpAny_pure ⟨rfl, rfl, fun u hu' => hall u (List.mem_cons_of_mem _ hu')⟩
  · rintro ⟨r1, r2⟩ s' ⟨hr, rfl, _⟩
    simp only at hr
    subst hr
    exact wpAny_pure h
  · rcases List.mem_cons.mp hv with rfl | hv
    · exact .inl rfl
    · exact .inr (List.mem_singleton.mp hv)
end
def signKind (P : Program) (w : World) : HeapKind P w Sgn where
  is := IsSign P w
  hash := signHash P w
  draws := fun k => k.2.length + 3
  room := fun A => A.units + 10 < cLine
  inj := fun hx hy => hx.inj hy
  keeps := fun x ho hd hs => x.keeps ho hd hs
  pyHash := fun hu hk h => sign_hash hu hk h
  eqBool := fun hu hx hy h => sign_eq hu hx hy h
  quiet := fun hk h => sign_quiet hk h
section
variable {prog : Program} {w : World} {K : Type} [DecidableEq K] {knd : HeapKind prog w K} {A : Around} {E : Value → Shared → Prop} {s : Shared}
end
end L2

/-! setdefault of a dict by signs: the rule. Behind Ext16. -/
namespace L2
open PySem PySem.Spec PyProof.Rows
abbrev SE := Sgn × Addr × V
def relS (p : SE) (q : Sgn × Addr × Value) : Prop := p.1 = q.1 ∧ p.2.1 = q.2.1 ∧ RelV p.2.2 q.2.2
def SDict (P : Program) (w : World) (a : Addr) (kvs : List SE) : HO := .ext fun h => (a == sysModules) = false ∧ ∃ xs : List (Sgn × Addr × Value), Paired relS kvs xs ∧
  ∃ o es ep, h.get? a = some o ∧ o.ExactDict ∧ o.data = .dict es ep ∧ es.toList = xs.map (entryOfKey (signKind P w)) ∧ (xs.map (·.1)).Nodup
def SD (P : Program) (w : World) (H : Hp) (a : Addr) (kvs : List SE) : Prop := (H a = some (.dK []) ∧ kvs = []) ∨ H a = some (SDict P w a kvs)
def SgnAt (K : PySem.W.Frag) (H : Hp) (k : Sgn) (p : Addr) : Prop := ∃ q, SqT K H p [.str k.1, .ref q] ∧ SqT K H q (k.2.map kV)
def atS (kvs : List SE) (k : Sgn) : Option SE := kvs.find? fun e => decide (e.1 = k)
section
variable {X : Cx}
def rSetd (P : Program) (w : World) (K : PySem.W.Frag) : V → List V → Hp → VK → Prop := fun x vs H Q => ∃ d p k v kvs, x = .ref d ∧ vs = [.ref p, v] ∧ SD P w H d kvs ∧ kvs.length < sizeLine ∧ (∀ e ∈ kvs, SgnAt K H e.1 e.2.1) ∧ SgnAt K H k p ∧
  ((∃ e, atS kvs k = some e ∧ Q e.2.2 H) ∨ (atS kvs k = none ∧ Q v (upd H d (SDict P w d (kvs ++ [(k, p, v)])))))
def tSetd (P : Program) (w : World) (K : PySem.W.Frag) (to : TE) (t : TA) : TE := fun σ H Q => to σ H fun x H1 => (∃ d kvs, x = .ref d ∧ SD P w H1 d kvs) ∧ t σ H1 fun xs H2 => rSetd P w K x xs H2 Q
end
end L2

/-! t[::-1] of a tuple. Behind Ext17. -/
namespace HT
open PySem PySem.Spec PyProof.Rows
section
variable {prog : Program} {w : World} {A : Around} {E : Value → Shared → Prop} {s : Shared}
end
end HT
namespace L2
open PySem PySem.Spec PyProof.Rows
section
variable {X : Cx} {e st : Expr} {te ts : TE} {pos p2 : Pos}
def tRevT (K : PySem.W.Frag) (te ts : TE) : TE := fun σ H Q => te σ H fun x H1 => ts σ H1 fun y H2 => y = .int (-1) ∧ ∃ a xs, x = .ref a ∧ SqT K H2 a xs ∧ ∀ p, H2 p = none → Q (.ref p) (upd H2 p (.tup xs.reverse))
end
end L2

/-! zip of two tuples in a for or a comprehension. Behind Ext18. -/
namespace L2
open PySem PySem.Spec PyProof.Rows
section
variable {prog : Program} {w : World} {A : Around} {E : Value → Shared → Prop} {s : Shared}
/-- a tuple and its iterator -/
def TuI (h : Heap) (it t : Addr) (i : Nat) (xs : Array Value) : Prop := h.IsTupleIter it t i ∧ h.IsTuple t xs
theorem TuI.ext {h h' : Heap} {it t b : Addr} {i : Nat} {xs : Array Value} (x : TuI h it t i xs) (hs : Heap.ExtBut b h h') (h1 : it ≠ b) (h2 : t ≠ b) : TuI h' it t i xs := ⟨x.1.extBut hs h1, x.2.extBut hs h2⟩
end
abbrev zpT1 (h : Heap) (l1 : Addr) : Heap := h.push { cls := .type "tuple_iterator", data := .fields #[.ref l1, .int 0 0] }
abbrev zpT2 (h : Heap) (l1 l2 : Addr) : Heap := (zpT1 h l1).push { cls := .type "tuple_iterator", data := .fields #[.ref l2, .int 0 0] }
abbrev zpT3 (h : Heap) (l1 l2 : Addr) : Heap := (zpT2 h l1 l2).push { cls := .type "tuple", data := .seq #[.ref h.objs.size, .ref (zpT1 h l1).objs.size] }
abbrev zpT4 (h : Heap) (l1 l2 : Addr) : Heap := (zpT3 h l1 l2).push { cls := .type "tuple", data := .seq #[.none, .none] }
abbrev zpT5 (h : Heap) (l1 l2 : Addr) : Heap := (zpT4 h l1 l2).push { cls := .type "zip", data := .fields #[.none, .bool false, .bool false, .ref (zpT2 h l1 l2).objs.size, .ref (zpT3 h l1 l2).objs.size] }
section
variable {prog : Program} {w : World} {A : Around} {E : Value → Shared → Prop} {s : Shared}
end
/-! ### the walk -/
def ItzT (K : PySem.W.Frag) (a b : Addr) : It :=
  ⟨fun i H => ∃ xs ys x y, SqT K H a xs ∧ SqT K H b ys ∧ xs[i]? = some x ∧ ys[i]? = some y, fun i H x H' => ∃ p y z, x = .ref p ∧ H p = none ∧ H' = upd H p (.tup [y, z]) ∧ (∀ xs, SqT K H a xs → xs[i]? = some y) ∧ ∀ ys, SqT K H b ys → ys[i]? = some z,
    fun i H => ∃ xs ys, SqT K H a xs ∧ SqT K H b ys ∧ (xs.length ≤ i ∨ ys.length ≤ i)⟩
def iZipT (K : PySem.W.Frag) (ta : TA) : L2.TI := fun σ H R => ta σ H fun vs H1 => ∃ a b, vs = [.ref a, .ref b] ∧ (∃ xs, SqT K H1 a xs) ∧ (∃ ys, SqT K H1 b ys) ∧ R (ItzT K a b) H1
end L2

/-! a text times an int; isinstance against an own class. Behind Ext19. -/
namespace L2
open PySem PySem.Spec PyProof.Rows
section
variable {X : Cx}
end
end L2

/-! sorted of a list of ints. Behind Ext20. -/
namespace L2
open PySem PySem.Spec PyProof.Rows
section
variable {X : Cx}
end
end L2

/-! zip of two tuples with a name as the target: the tuple that was handed out may be alive or gone. Behind Ext21. -/
namespace L2
open PySem PySem.Spec PyProof.Rows
abbrev IsZN (h : Heap) (z TI TO : Addr) (m : Value) (f : Bool) : Prop :=
  h.get? z = some { cls := .type "zip", dict := none, data := .fields #[m, .bool f, .bool false, .ref TI, .ref TO], slots := #[] }
def MkZ (m : Value) : Prop := m = .none ∨ ∃ n : Nat, m = rawInt n
section
variable {prog : Program} {w : World} {A : Around} {E : Value → Shared → Prop} {s : Shared}
end
end L2

/-! a statement behind which a walked dict may be written again. Behind Ext22. -/
namespace L2
open PySem PySem.Spec PyProof.Rows
def tThaw (X : Cx) (ts : TS) : TS := fun D σ H => ts { D with nx := fun σ' H1 => ∃ d o kvs, H1 d = some (.frz o (.dK kvs)) ∧ (∀ o u, X.H₀ d ≠ some (.frz o u)) ∧ D.nx σ' (upd H1 d (.dK kvs)) } σ H
end L2

/-! t + u of any two tuples. Behind Ext23. -/
namespace L2
open PySem PySem.Spec PyProof.Rows
section
variable {prog : Program} {w : World} {A : Around} {E : Value → Shared → Prop} {s : Shared}
end
def rCatA (K : PySem.W.Frag) : R2 := fun x y H Q => ∃ a b xs ys, x = .ref a ∧ y = .ref b ∧ SqT K H a xs ∧ SqT K H b ys ∧ xs.length + ys.length ≤ sizeLine ∧ ∀ (H' : Hp) (p : Addr), Same H H' → SqT K H' p (xs ++ ys) → Q (.ref p) H'
end L2

/-! OWN RULES: str(x) of a number or of a tuple of numbers (no repr under way: Room's gd). Behind Ext24. -/
namespace L2
open PySem PySem.Spec PyProof.Rows
section
variable {X : Cx}
theorem int_len9 {n : Int} (h : n.natAbs < 1000000000) : ((toString n : String) : Str).length ≤ 10 := by
  have e := int_text_length_le10 (a := n) (k := 9) (by decide) h
  show (Str.ofString (toString n)).length ≤ 10
  rw [PySem.ofString_length]
  exact e
theorem int_log9 {n : Int} (h : n.natAbs < 1000000000) : n.natAbs.log2 < 1920 := by
  by_cases h0 : n.natAbs = 0
  · rw [h0]; decide
  · exact Nat.lt_of_lt_of_le ((Nat.log2_lt h0 (k := 30)).mpr (Nat.lt_of_lt_of_le h (by decide))) (by decide)
def rStrA (K : PySem.W.Frag) : List V → Hp → VK → Prop := fun xs H Q => (∃ i : Int, xs = [.int i] ∧ i.natAbs.log2 < 1920 ∧ Q (.str (toString i)) H) ∨ ∃ (p : Addr) (ns : List Int), xs = [.ref p] ∧ SqT K H p (ns.map V.int) ∧ ns.length = 3 ∧ (∀ n ∈ ns, n.natAbs < 1000000000) ∧ ∀ z, Q (.str z) H
end
end L2

/-! OWN: lengths of texts. Behind Ext18. -/
namespace L2
open PySem
abbrev abcS : Str := "abcdefghijklmnopqrstuvwxyz"
theorem at_inM {α : Type} {xs : List α} {i : Int} (h0 : 0 ≤ i) (h1 : i < (xs.length : Int)) : ∃ c, atI xs i = some c ∧ c ∈ xs := by
  have hk : i.toNat < xs.length := by omega
  have e : i = ((i.toNat : Nat) : Int) := by omega
  have q : atI xs ((i.toNat : Nat) : Int) = some xs[i.toNat] := atI_nat (List.getElem?_eq_getElem hk)
  rw [← e] at q
  exact ⟨_, q, List.getElem_mem hk⟩
theorem szS {n : Nat} (h : n ≤ 1000) : n ≤ sizeLine := Nat.le_of_lt (small1000 h)
end L2

/-! OWN RULES: an own exception raised, passed through defs, taken by a try. Behind the layer. -/
namespace L2
open PySem PySem.Spec PyProof.Rows
section
variable {P : Program} {w : World} {H H' : Hp} {h h' B : Heap} {a : Addr} {o : HO}
theorem ObjOk.there (x : ObjOk P w H h a o) : ∃ ob, h.get? a = some ob := by
  cases o with
  | lst xs => obtain ⟨_, _, _, _, q⟩ := x; exact ⟨_, q⟩
  | tup xs => obtain ⟨_, _, _, ob, q, _⟩ := x; exact ⟨_, q⟩
  | dK kvs => obtain ⟨_, _, _, _, o, _, _, q, _⟩ := x; exact ⟨_, q⟩
  | dT kvs => obtain ⟨_, _, _, _, o, _, _, q, _⟩ := x; exact ⟨_, q⟩
  | set S n => obtain ⟨o, _, _, _, q, _⟩ := x; exact ⟨_, q⟩
  | ins C dx fs => obtain ⟨_, _, _, q, _⟩ := x; exact ⟨_, q⟩
  | own y => exact x
  | xd fs => obtain ⟨_, ⟨_, _, _, q, _⟩, _⟩ := x; exact ⟨_, q⟩
  | rng lo hi => obtain ⟨_, _, _, q⟩ := x; exact ⟨_, q⟩
  | frz ob u => exact ⟨_, x.1⟩
  | tbl ps => exact ⟨_, (show h.get? a = some _ from x)⟩
  | met f y => exact ⟨_, (show h.get? a = some _ from x)⟩
  | ext φ => exact x.2.1
/-- all that is tracked stands in B as it is -/
def Trk (H : Hp) (h B : Heap) : Prop := ∀ b ob, H b ≠ none → h.get? b = some ob → B.get? b = some ob
/-- what was there stands in B, what is not tracked as it was; but for the frames -/
def Old (fs : List Addr) (H : Hp) (h B : Heap) : Prop := ∀ b ob, h.get? b = some ob → b ∉ fs → ∃ ob', B.get? b = some ob' ∧ (H b = none → ob' = ob)
theorem HOk.stays (ok : HOk P w H h) (t : Trk H h B) (k : B.StaysIn h') : HOk P w H h' := fun a o e =>
  (ok a o e).stay (fun b u hb q => k b u (t b u (hb.elim (fun z => by rw [z, e]; exact nofun) fun z => by rw [z]; exact nofun) q)) (fun _ q => q) fun _ _ q => q
theorem Trk.stays (ok : HOk P w H h) (t : Trk H h B) (k : B.StaysIn h') : Trk H h' B := fun b ob hb e => by
  cases q : H b with
  | none => exact absurd q hb
  | some u =>
    obtain ⟨ob1, e1⟩ := (ok b u q).there
    have z := t b ob1 hb e1
    have z2 := k b ob1 z
    rw [e] at z2
    cases z2
    exact z
end

/-- an exception of an own class has left a def: where its record is, its class, the heap behind it, what stays -/
def CX1 (P : Program) (w : World) : CXT := fun outer H s E e s' => ∃ (ea C : Addr) (H' : Hp) (B : Heap) (a0 : Value), e = .ref ea ∧ s'.os = s.os ∧ AllBare s'.gens ∧ Un (frs outer) [] H H' s.heap s'.heap ∧ HOk P w H' s'.heap ∧
  Heap.FlyingW B outer ea (.ref C) a0 s'.heap ∧ Trk H' s'.heap B ∧ Old (frs outer) H s.heap B ∧ E (.ref C) none H'
/-- the context of a def out of which exceptions may go -/
structure Xe1 (X : Cx) (E : XK) : Prop where
  xe : X.xe = fun e s' => wpAny (model X.prog X.w) X.A (leaving X.env e) (fun _ s'' => CX1 X.prog X.w X.outer X.H₀ X.s₀ E e s'') (fun e' s'' => CX1 X.prog X.w X.outer X.H₀ X.s₀ E e' s'') s'
  stk : X.stack = X.env :: X.outer
  fr : X.env.frame = some X.env.locals
  ex : X.ex = []
section
variable {X : Cx} {E : XK} {pins : List (Addr × Obj)} {σ : St} {H H' : Hp} {s s' : Shared} {B : Heap} {ea C : Addr} {a0 : Value}
theorem cx1_out (hx : Xe1 X E) (I : Inv X pins σ H s) {s'' : Shared} (os : s''.os = s.os) (bare : AllBare s''.gens) (u : Un (frs X.stack) [] H H' s.heap s'.heap) (ok : HOk X.prog X.w H' s'.heap)
    (fl : Heap.FlyingW B X.outer ea (.ref C) a0 s''.heap) (sm : s'.heap.UpToSlots s''.heap) (trk : Trk H' s'.heap B) (old : Old (frs X.stack) H s.heap B) (hE : E (.ref C) none H') :
    CX1 X.prog X.w X.outer X.H₀ X.s₀ E (.ref ea) s'' := by
  have hfs : frs X.stack = X.env.locals :: X.fs := by
    rw [hx.stk]
    unfold frs
    rw [List.filterMap_cons, hx.fr]
    rfl
  have nx : ∀ b, b ∉ X.ex := fun b hb => by rw [hx.ex] at hb; cases hb
  have nf : ∀ b ob, X.s₀.heap.get? b = some ob → b ∉ X.fs → b ∉ frs X.stack := fun b ob e hb z => by
    rw [hfs] at z
    rcases List.mem_cons.mp z with z | z
    · exact absurd (Nat.lt_of_lt_of_le (Heap.lt_size e) I.ok.above) (by rw [z]; exact Nat.lt_irrefl _)
    · exact hb z
  have st : B.StaysIn s''.heap := fl.1
  have U := I.base
  have old' : Old X.fs X.H₀ X.s₀.heap B := fun b ob e hb => by
    obtain ⟨o1, e1⟩ := U.there b ob e (nx b)
    obtain ⟨o', eB, hB⟩ := old b o1 e1 (nf b ob e hb)
    refine ⟨o', eB, fun n => ?_⟩
    have k := U.keep b ob e n hb (nx b)
    rw [e1] at k
    cases k
    exact hB (U.free b ob e n (nx b))
  have slot : ∀ b ob, X.s₀.heap.get? b = some ob → X.H₀ b = none → b ∈ X.fs → ∃ sl, s''.heap.get? b = some { ob with slots := sl } := fun b ob e n hb => by
    obtain ⟨sl, k⟩ := U.slot b ob e n hb (nx b)
    obtain ⟨sl2, k2⟩ := u.any k (U.free b ob e n (nx b)) (by simp)
    obtain ⟨_, o3, e3, hd⟩ := I.ok.funs.mem hb
    rw [e] at e3
    cases e3
    obtain ⟨sl3, k3⟩ := sm b _ k2 fun vs q => hd vs q
    exact ⟨sl3, k3⟩
  refine ⟨ea, C, H', B, a0, rfl, os.trans I.os, bare, ⟨fun b ob e n hb _ => ?_, fun b ob e n hb _ => slot b ob e n hb, fun b ob e n _ => ?_, fun b ob e _ => ?_, fun b xs q => u.tups b xs (U.tups b xs q), fun b ob xs q => u.frzs b ob xs (U.frzs b ob xs q), fun b ps q => ?_⟩,
    ok.stays trk st, fl, Trk.stays ok trk st, old', hE⟩
  · obtain ⟨o', eB, hB⟩ := old' b ob e hb
    rw [hB n] at eB
    exact st b ob eB
  · obtain ⟨o1, e1⟩ := U.there b ob e (nx b)
    exact u.free b o1 e1 (U.free b ob e n (nx b)) (by simp)
  · by_cases hb : b ∈ X.fs
    · obtain ⟨sl, k⟩ := slot b ob e (I.ok.frf b hb) hb
      exact ⟨_, k⟩
    · obtain ⟨o', eB, _⟩ := old' b ob e hb
      exact ⟨o', st b o' eB⟩
  · obtain ⟨m1, e1⟩ := U.tbls b ps q
    obtain ⟨m2, e2⟩ := u.tbls b _ e1
    exact ⟨m1 ++ m2, by rw [e2, Array.append_assoc]⟩
/-- an exception out of a def that was called goes on out of this one -/
theorem passes1 (hx : Xe1 X E) : Passes (CX1 X.prog X.w) X E := by
  intro pins σ H s e s' I h
  obtain ⟨ea, C, H', B, a0, rfl, os, bare, u, ok, fl, trk, old, hE⟩ := h
  rw [hx.xe]
  have fl2 := fl
  rw [hx.stk] at fl2
  have hfr : X.A.frames = some (X.env :: X.outer) := by rw [I.ok.frames, hx.stk]
  exact wpAny_leaves_onW hfr hx.fr fl2 fun h' fl' sm => cx1_out hx I os bare u ok fl' sm trk old hE
/-- a new exception goes out of this def -/
theorem xe_made {h' : Heap} {vs : List Value} (hx : Xe1 X E) (I : Inv X pins σ H s) (m : Heap.MadeExcOf s.heap h' ea (.ref C) vs) (hE : E (.ref C) none H) : X.xe (.ref ea) { s with heap := h' } := by
  rw [hx.xe]
  have hl : s.heap.FunFrames (PySem.W.hideAll s.heap (frs X.stack)) X.stack := PySem.W.funFrames_hide I.stack fun env he a ha => List.mem_filterMap.mpr ⟨env, he, ha⟩
  have hl2 : s.heap.FunFrames (PySem.W.hideAll s.heap (frs X.stack)) (X.env :: X.outer) := by
    have z := hl
    rw [show X.stack = X.env :: X.outer from hx.stk] at z ⊢
    exact z
  have hfr : X.A.frames = some (X.env :: X.outer) := by rw [I.ok.frames, hx.stk]
  refine wpAny_leaves_madeW (base := PySem.W.hideAll s.heap (frs X.stack)) (h := s.heap) hfr hx.fr (fun b ob q => PySem.W.of_hideAll _ q) hl2 m fun h'' t fl _ _ sm => ?_
  refine cx1_out (s' := { s with heap := h' }) hx I rfl I.bare (Un.kept m.keeps) (I.hok.kept m.keeps) fl sm (fun b ob hb q => ?_) (fun b ob q hb => ⟨ob, PySem.W.hideAll_get _ q hb, fun _ => rfl⟩) hE
  cases z : H b with
  | none => exact absurd z hb
  | some v =>
    obtain ⟨o1, e1⟩ := (I.hok b v z).there
    have e2 := m.keeps b o1 e1
    have q' : h'.get? b = some ob := q
    rw [q'] at e2
    cases e2
    exact PySem.W.hideAll_get _ e1 fun y => hb (I.stkFree b y)

/-! ### raise C(..) -/
/-- what the class of an own exception is, as the fragment has it -/
theorem own_at {K : PySem.W.Frag} {hp : Heap} {bmB : List Value} {newId : String} (XI : K.In hp) (q : PySem.W.excIn K C bmB newId = true) :
    ∃ bm N nm qn bs hdct sn sub ab col dd k0 k1 k2 k3 k5 mN, hp.get? C = some (excClassObj nm qn C N bs bm hdct sn sub ab col dd k0 k1 k2 k3 k5 newId) ∧ hp.Ns N mN ∧ mN "__init__" = none ∧ OwnTail hp bmB bm := by
  unfold PySem.W.excIn at q
  split at q
  · rename_i d1 c1 l1 hC1
    split at q
    · rename_i C2 bm2 y0 y1 y2 y3 n2 y5 hm2 hs2
      simp only [Bool.and_eq_true, beq_iff_eq, Bool.not_eq_true'] at q
      obtain ⟨⟨⟨⟨⟨rfl, rfl⟩, hdl⟩, htl⟩, hno⟩, hin⟩ := q
      obtain ⟨nm, bs, mro, ns, qn, hd, sn, sub, ab, col, del⟩ := c1
      dsimp only at hm2 hdl hno hin
      subst hm2 hdl
      have hsl : l1 = #[y0, y1, y2, y3, some (.builtin n2), y5] := by
        obtain ⟨l⟩ := l1
        simp only at hs2
        rw [hs2]
      subst hsl
      exact ⟨bm2, ns, nm, qn, bs, hd, sn, sub, ab, col, d1, y0, y1, y2, y3, y5, _, XI _ _ hC1, .of_isNs (PySem.W.isNs_of_in XI hno), PySem.W.nsMap_none_of_in XI hno hin, PySem.W.tail_of_in XI htl⟩
    · cases q
  · cases q
variable {e0 : Expr} {rest : List Expr} {t : TA} {x : Str} {np cpos pos : Pos} {Bn newId initId : String} {bm : List Value}
def tRaise (E : XK) (C : Addr) (t : TA) : TS := fun _ σ H => t σ H fun vs H1 => vs.length ≤ sizeLine ∧ E (.ref C) none H1
theorem ps_raise (hx : Xe1 X E) (hc : X.calm = true) (hg : Gl X x) (hm : X.mg x = some (.ref C)) (F : ExcBaseFacts Bn newId initId bm) (q : PySem.W.excIn X.K C bm newId = true) (ha : PA X (e0 :: rest) t)
    (hdb : (x == ("__debug__" : Str)) = false := by decide) (hse : starEach (e0 :: rest) X.env = (false, eval e0 X.env) :: starEach rest X.env := by rfl) (hpl : (backTo cpos (starEach rest X.env)).any (·.1) = false := by rfl) :
    PS X (.Raise (some (.Call (.Name x np) (e0 :: rest) [] cpos)) none pos) (tRaise E C t) := by
  intro pins s σ H D I h
  obtain ⟨tl, N, nm, qn, bs, hdct, sn, sub, ab, col, dd, k0, k1, k2, k3, k5, mN, hC, hN, hni, T⟩ := own_at (C := C) I.mod.kin q
  refine wpAny_Raise_call_subT (C := C) (nm := nm) (q := qn) (N := N) (bs := bs) (bm := tl) (hdct := hdct) (sn := sn) (sub := sub) (ab := ab) (col := col) (dd := dd) (k0 := k0) (k1 := k1) (k2 := k2) (k3 := k3) (k5 := k5) F (mN := mN)
    (T.hasType F.hasBase) (I.ok.hd hc) (by rw [hse]; show (false || (backTo cpos (starEach rest X.env)).any (·.1)) = false; rw [hpl]; rfl) hni (ld_glob I hg hm ⟨rfl, ?_⟩ hdb)
  have g := ha cpos pins s σ H _ I h
  rw [hse] at g ⊢
  refine Calls.evalArgs_plain (wpAny_mono g (fun vs s2 ⟨ws, H2, I2, r2, hz, hE⟩ => ?_) fun _ _ y => y)
  exact ⟨rfl, by rw [← r2.length]; exact hz, I2.bk _ _ hC, hN.keeps I2.bk, T.keeps I2.bk, fun h' ea m => xe_made hx I2 m hE⟩
end
end L2

/-! OWN RULES: try with except. Behind Exc. -/
namespace L2
open PySem PySem.Spec PyProof.Rows
/-- within the except suite for the exception at ea -/
abbrev Cx.susp (X : Cx) (ea : Addr) : Cx := { X with A := X.A.mark (some (.ref ea)), calm := false, xe := fun _ _ => False }
/-- within a try: the pins go along, an exception is wanted so -/
abbrev Cx.tryc (X : Cx) (pins : List (Addr × Obj)) (E1 : Value → Shared → Prop) : Cx := { X with pn := X.pn ++ pins, xe := E1 }
section
variable {X : Cx} {pins : List (Addr × Obj)} {σ : St} {H H' : Hp} {s s' : Shared} {B : Heap} {ea C : Addr} {a0 : Value} {D : Ends} {f : Flow} {E1 : Value → Shared → Prop}
theorem Inv.susp (I : Inv X pins σ H s) (ea : Addr) : Inv (X.susp ea) pins σ H s :=
  ⟨⟨I.ok.mod, I.ok.kind, I.ok.glob, I.ok.blt, I.ok.above, I.ok.inj, I.ok.has, I.ok.cab, fun z => (by cases z), I.ok.frames, I.ok.stk, I.ok.exf, I.ok.bs, I.ok.bsz, I.ok.noex, I.ok.exfs, I.ok.funs, I.ok.frf⟩, I.os, I.bare, I.base, I.loc, I.cell, I.free, I.freeC, I.pin, I.hok, I.len⟩
theorem Inv.unsusp (ok : X.Ok) (I : Inv (X.susp ea) pins σ H s) : Inv X pins σ H s := ⟨ok, I.os, I.bare, I.base, I.loc, I.cell, I.free, I.freeC, I.pin, I.hok, I.len⟩
theorem SP.unsusp (ok : X.Ok) (h : SP (X.susp ea) pins D f s) : SP X pins D f s := by
  cases f with
  | next => obtain ⟨a, b, I, q⟩ := h; exact ⟨a, b, I.unsusp ok, q⟩
  | brk => obtain ⟨a, b, I, q⟩ := h; exact ⟨a, b, I.unsusp ok, q⟩
  | cont => obtain ⟨a, b, I, q⟩ := h; exact ⟨a, b, I.unsusp ok, q⟩
  | ret u => obtain ⟨v, a, b, I, r, q⟩ := h; exact ⟨v, a, b, I.unsusp ok, r, q⟩
theorem Inv.tryc (I : Inv X pins σ H s) (E1 : Value → Shared → Prop) : Inv (X.tryc pins E1) [] σ H s :=
  ⟨⟨I.ok.mod, I.ok.kind, I.ok.glob, I.ok.blt, I.ok.above, I.ok.inj, I.ok.has, I.ok.cab, I.ok.hd, I.ok.frames, I.ok.stk, I.ok.exf, I.ok.bs, I.ok.bsz, I.ok.noex, I.ok.exfs, I.ok.funs, I.ok.frf⟩, I.os, I.bare, I.base, I.loc, I.cell, I.free, I.freeC,
    fun p hp => I.pin p (by simpa using hp), I.hok, I.len⟩
theorem Inv.untryc {pins1 : List (Addr × Obj)} (ok : X.Ok) (I : Inv (X.tryc pins E1) pins1 σ H s) : Inv X pins σ H s :=
  ⟨ok, I.os, I.bare, I.base, I.loc, I.cell, I.free, I.freeC, fun p hp => I.pin p (List.mem_append_left _ hp), I.hok, I.len⟩
theorem SP.untryc {pins1 : List (Addr × Obj)} (ok : X.Ok) (h : SP (X.tryc pins E1) pins1 D f s) : SP X pins D f s := by
  cases f with
  | next => obtain ⟨a, b, I, q⟩ := h; exact ⟨a, b, I.untryc ok, q⟩
  | brk => obtain ⟨a, b, I, q⟩ := h; exact ⟨a, b, I.untryc ok, q⟩
  | cont => obtain ⟨a, b, I, q⟩ := h; exact ⟨a, b, I.untryc ok, q⟩
  | ret u => obtain ⟨v, a, b, I, r, q⟩ := h; exact ⟨v, a, b, I.untryc ok, r, q⟩

/-- an exception came out of a call that was made at s: it is here, at s' -/
structure Came (X : Cx) (pins : List (Addr × Obj)) (σ : St) (H : Hp) (s : Shared) (H' : Hp) (B : Heap) (s' : Shared) : Prop where
  I : Inv X pins σ H s
  os : s'.os = s.os
  bare : AllBare s'.gens
  u : Un (frs X.stack) [] H H' s.heap s'.heap
  ok : HOk X.prog X.w H' s'.heap
  trk : Trk H' s'.heap B
  old : Old (frs X.stack) H s.heap B
theorem Came.inv (c : Came X pins σ H s H' B s') {h' : Heap} (st : B.StaysIn h') (sm : s'.heap.UpToSlots h') : Inv X pins σ H' { s' with heap := h' } := by
  have slot : ∀ b ob, s.heap.get? b = some ob → H b = none → b ∈ frs X.stack → ∃ sl, h'.get? b = some { ob with slots := sl } := fun b ob e n hb => by
    obtain ⟨sl, k⟩ := c.u.slot b ob e n hb (by simp)
    obtain ⟨_, o3, e3, hd⟩ := c.I.stack.mem hb
    rw [e] at e3
    cases e3
    obtain ⟨sl3, k3⟩ := sm b _ k fun vs q => hd vs q
    exact ⟨sl3, k3⟩
  refine c.I.call' (s' := { s' with heap := h' }) (ch := []) c.os ⟨fun b ob e n hb _ => ?_, fun b ob e n hb _ => slot b ob e n hb, fun b ob e n _ => c.u.free b ob e n (by simp), fun b ob e _ => ?_, c.u.tups, c.u.frzs, c.u.tbls⟩ (c.ok.stays c.trk st) c.bare (fun b hb => by cases hb)
  · obtain ⟨o', eB, hB⟩ := c.old b ob e hb
    rw [hB n] at eB
    exact st b ob eB
  · by_cases hb : b ∈ frs X.stack
    · obtain ⟨sl, k⟩ := slot b ob e (c.I.stkFree b hb) hb
      exact ⟨_, k⟩
    · obtain ⟨o', eB, _⟩ := c.old b ob e hb
      exact ⟨o', st b o' eB⟩

/-- the handlers, from here on -/
def PH (X : Cx) (hs : List ExceptHandler) (th : Addr → TS) : Prop :=
  ∀ (pins : List (Addr × Obj)) (σ : St) (H : Hp) (s : Shared) (H' : Hp) (B : Heap) (s' : Shared) (D : Ends) (ea C : Addr) (a0 : Value) (h' : Heap), Came X pins σ H s H' B s' → Heap.FlyingW B X.stack ea (.ref C) a0 h' → s'.heap.UpToSlots h' → th C D σ H' →
    wpAny (model X.prog X.w) X.A (handleBy (.ref ea) X.env hs) (SP X pins D) X.xe { s' with heap := h' }
theorem ph_never {hs : List ExceptHandler} : PH X hs (fun _ => tNever) := fun _ _ _ _ _ _ _ _ _ _ _ _ _ _ _ z => z.elim
/-- except x: suite -/
def tExc (K : PySem.W.Frag) (C1 : Addr) (ts : TS) (th : Addr → TS) : Addr → TS := fun C D σ H => ∃ b, PySem.W.exmOne K (.ref C) (.ref C1) = some b ∧ if b = true then ts D σ H else th C D σ H
/-- try: body, except .. -/
def tTry (n : Nat) (tb : XK → TS) (th : Addr → TS) : TS := fun D σ H => tb (fun c _ H' => ∃ C, c = .ref C ∧ ∀ σ1 : St, σ1.length = n → th C D σ1 H') D σ H
theorem ps_try {body : List Stmt} {h0 : ExceptHandler} {hs : List ExceptHandler} {pos : Pos} {tb : XK → TS} {th : Addr → TS} (hst : X.stack = X.env :: X.outer) (hfr : X.env.frame = some X.env.locals)
    (hb : ∀ (pins : List (Addr × Obj)) (E1 : Value → Shared → Prop) (Eb : XK), Passes (CX1 X.prog X.w) (X.tryc pins E1) Eb → PSs (X.tryc pins E1) body (tb Eb)) (hh : PH X (h0 :: hs) th) :
    PS X (.Try body (h0 :: hs) [] [] pos) (tTry X.N.length tb th) := by
  intro pins s σ H D I h
  refine wpAny_Try_except ?_
  have hp : Passes (CX1 X.prog X.w) (X.tryc pins (fun e s1 => wpAny (model X.prog X.w) X.A (noteFrame e X.env) (fun _ s2 => wpAny (model X.prog X.w) X.A (setFlight e none) (fun _ s3 => wpAny (model X.prog X.w) X.A (handleBy e X.env (h0 :: hs)) (SP X pins D) X.xe s3) X.xe s2) X.xe s1))
      (fun c _ H' => ∃ C, c = .ref C ∧ ∀ σ1 : St, σ1.length = X.N.length → th C D σ1 H') := by
    intro pins1 σ1 H1 s1 e s' I1 hcx
    obtain ⟨ea, C, H', B, a0, rfl, os, bare, u, ok, fl, trk, old, C', ec, hE⟩ := hcx
    cases ec
    have c : Came X pins σ1 H1 s1 H' B s' := ⟨I1.untryc I.ok, os, bare, u, ok, trk, old⟩
    have fl' : Heap.FlyingW B (X.env :: X.outer) ea (.ref C) a0 s'.heap := by
      have z := fl
      rw [show (X.tryc pins _).stack = X.env :: X.outer from hst] at z
      exact z
    have hfs : X.A.frames = some (X.env :: X.outer) := by rw [I.ok.frames, hst]
    refine wpAny_looks_onW hfs hfr fl' fun h2 fl2 sm2 => ?_
    refine wpAny_landsW fl2 fun h3 fl3 sm3 => ?_
    rw [← hst] at fl3
    exact hh pins σ1 H1 s1 H' B s' D ea C a0 h3 c fl3 (sm2.trans sm3) (hE σ1 I1.len)
  refine wpAny_mono (hb pins _ _ hp [] s σ H D (I.tryc _) h) (fun f s1 q => ?_) fun e s1 q => q
  have q' : SP X pins D f s1 := q.untryc I.ok
  cases f with
  | next => exact wpAny_execs_nil q'
  | brk => exact q'
  | cont => exact q'
  | ret u => exact q'
end
end L2

/-! OWN RULES: except .. as name; isinstance of an exception. Behind Try. -/
namespace L2
open PySem PySem.Spec PyProof.Rows
/-- an exception's record: its class -/
def ExcOf (ea C : Addr) (h : Heap) : Prop := ∃ oe, h.get? ea = some oe ∧ oe.cls = .ref C
section
variable {X : Cx} {pins : List (Addr × Obj)} {σ : St} {H H' : Hp} {s s' : Shared} {B : Heap} {ea C : Addr} {a0 : Value} {D : Ends} {f : Flow}
theorem Inv.adopt (I : Inv X pins σ H s) (hx : ExcOf ea C s.heap) (n0 : X.s₀.heap.get? ea = none) (nL : ea ≠ X.env.locals) (nC : ∀ x c, X.env.cells.lookup x = some c → c ≠ ea) (nP : ∀ p ∈ X.pn ++ pins, p.1 ≠ ea) (hH : H ea = none) :
    Inv X pins σ (upd H ea (.ext (ExcOf ea C))) s := by
  have up : ∀ b u, H b = some u → upd H ea (.ext (ExcOf ea C)) b = some u := fun b u e => by rw [upd_ne (ne_of_none e hH)]; exact e
  have un : ∀ b, b ≠ ea → H b = none → upd H ea (.ext (ExcOf ea C)) b = none := fun b hb e => by rw [upd_ne hb]; exact e
  have U := I.base
  refine ⟨I.ok, I.os, I.bare, ⟨U.keep, U.slot, fun b ob e n hb => un b (fun z => by rw [z, n0] at e; cases e) (U.free b ob e n hb), U.there, fun b xs q => up _ _ (U.tups b xs q), fun b ob xs q => up _ _ (U.frzs b ob xs q), fun b ps q => ?_⟩, I.loc, I.cell, un _ (Ne.symm nL) I.free,
    fun x c e => un _ (nC x c e) (I.freeC x c e), fun p hp => ?_, fun b u e => ?_, I.len⟩
  · obtain ⟨m, e⟩ := U.tbls b ps q
    exact ⟨m, up _ _ e⟩
  · obtain ⟨e, n, a, b, c⟩ := I.pin p hp
    exact ⟨e, un _ (nP p hp) n, a, b, c⟩
  · by_cases hb : b = ea
    · subst hb
      rw [upd_same] at e
      cases e
      obtain ⟨oe, e1, e2⟩ := hx
      refine ⟨⟨oe, e1, e2⟩, ⟨oe, e1⟩, fun h1 h2 p k => ?_⟩
      obtain ⟨o2, q1, q2⟩ := p
      exact ⟨o2, k o2 q1, q2⟩
    · rw [upd_ne hb] at e
      exact (I.hok b u e).stay (fun _ _ _ q => q) (fun c q => up c _ q) fun c xs q => up c _ q
/-- all names are forgotten -/
theorem Inv.forget {h' : Heap} {m' : Str → Option Value} {t' : Nat} (I : Inv X pins σ H s) (hn : h'.Ns X.env.locals m') (hs : Heap.SameBut X.env.locals s.heap h') : Inv X pins (List.replicate X.N.length none) H { s with heap := h', toks := t' } := by
  have neL : ∀ b o, X.s₀.heap.get? b = some o → b ≠ X.env.locals := fun b o e => Nat.ne_of_lt (Nat.lt_of_lt_of_le (Heap.lt_size e) I.ok.above)
  have U := I.base
  refine ⟨I.ok, I.os, I.bare, ⟨fun b ob e n hb hx => (hs.2 b (neL b ob e)).trans (U.keep b ob e n hb hx), fun b ob e n hb hx => ?_, U.free, fun b ob e hx => ?_, U.tups, U.frzs, U.tbls⟩, ⟨m', hn, fun i x v _ e2 _ => ?_⟩, fun x c e => ?_, I.free, I.freeC, fun p hp => ?_, fun b u e => ?_, by simp⟩
  · obtain ⟨sl, q⟩ := U.slot b ob e n hb hx
    exact ⟨sl, (hs.2 b (neL b ob e)).trans q⟩
  · obtain ⟨o', q⟩ := U.there b ob e hx
    exact ⟨o', (hs.2 b (neL b ob e)).trans q⟩
  · rw [List.getElem?_replicate] at e2
    split at e2 <;> cases e2
  · obtain ⟨v, o, ho, hd⟩ := I.cell x c e
    exact ⟨v, o, (hs.2 c (I.cne x c e)).trans ho, hd⟩
  · obtain ⟨e, n, a, b, c⟩ := I.pin p hp
    exact ⟨(hs.2 p.1 a).trans e, n, a, b, c⟩
  · refine (I.hok b u e).stay (fun c w' hc q => (hs.2 c ?_).trans q) (fun _ q => q) fun _ _ q => q
    rintro rfl
    rcases hc with z | z
    · rw [← z, I.free] at e; cases e
    · rw [I.free] at z; cases z
/-- an exception that came is none of what was there -/
theorem Came.apart (c : Came X pins σ H s H' B s') {h' : Heap} (fl : Heap.FlyingW B X.stack ea (.ref C) a0 h') : s.heap.get? ea = none := by
  cases q : s.heap.get? ea with
  | none => rfl
  | some ob =>
    by_cases hb : ea ∈ frs X.stack
    · obtain ⟨_, _, ff, oe, vs, _, _, _, he, _, hd, _⟩ := fl
      obtain ⟨_, o, ho, hnf⟩ := ff.mem hb
      rw [he] at ho
      cases ho
      exact absurd hd (hnf vs)
    · obtain ⟨o', eB, _⟩ := c.old ea ob q hb
      rw [fl.2.1] at eB
      cases eB
/-- except x as n: suite -/
def tExcAs (K : PySem.W.Frag) (C1 : Addr) (i nN : Nat) (ts : TS) (th : Addr → TS) : Addr → TS := fun C D σ H => ∃ b, PySem.W.exmOne K (.ref C) (.ref C1) = some b ∧
  if b = true then ∀ ea, H ea = none → ts { nx := fun _ H1 => D.nx (List.replicate nN none) H1, rt := D.rt, bk := fun _ H1 => D.bk (List.replicate nN none) H1, ct := fun _ H1 => D.ct (List.replicate nN none) H1 } (σ.set i (some (.ref ea))) (upd H ea (.ext (ExcOf ea C))) else th C D σ H
theorem ph_as {x n : Str} {np pos : Pos} {b0 : Stmt} {suite : List Stmt} {rest : List ExceptHandler} {C1 : Addr} {i : Nat} {ts : TS} {th : Addr → TS} (hg : Gl X x) (hm : X.mg x = some (.ref C1)) (hN : X.N.Nodup) (hi : X.N[i]? = some n)
    (hl : X.env.scope.names.lookup n = some .local) (hex : X.ex = []) (hs : ∀ ea, PSs (X.susp ea) (b0 :: suite) ts) (hr : PH X rest th) (hdb : (x == ("__debug__" : Str)) = false := by decide) :
    PH X (.ExceptHandler (some (.Name x np)) (some n) (b0 :: suite) pos :: rest) (tExcAs X.K C1 i X.N.length ts th) := by
  intro pins σ H s H' B s' D ea C a0 h' c fl sm h
  obtain ⟨b, hb, h⟩ := h
  have I := c.inv fl.1 sm
  have I' := I.susp ea
  obtain ⟨oe, he, hcl⟩ := fl.there
  have LT : PySem.W.Looks (model X.prog X.w) h' (typeOf (.ref ea)) (.ref C) := hcl ▸ (PySem.W.Looks.ld he).andThen .now
  refine wpAny_handleBy_cons (codeAny_handlers_test (ld_glob (X := X.susp ea) I' hg hm ?_ hdb)) (by intro q; cases q)
  refine PySem.W.exm_one (M := model X.prog X.w) (K := X.K) (h := h') I.kIn LT hb _ _ _ _ (fun _ _ q => q) ?_
  cases b with
  | false => exact hr pins σ H s H' B s' D ea C a0 h' c fl sm h
  | true =>
    have hp : (X.env.scope.kind == .class || (X.env.scope.kind == .module && X.env.locals != X.env.globals)) = false := by rw [I.ok.kind]; rfl
    refine codeAny_handlers_suite_as (lands_againW fl fun h2 fl2 sm2 => ?_)
    have I2 := c.inv fl2.1 (sm.trans sm2)
    have q0 := c.apart fl2
    obtain ⟨oe2, he2, hcl2⟩ := fl2.there
    have nB : B.get? ea = none := fl2.2.1
    have hH : H' ea = none := by
      cases q : H' ea with
      | none => rfl
      | some u =>
        have z := Trk.stays c.ok c.trk fl2.1 ea oe2 (by rw [q]; exact nofun) he2
        rw [nB] at z
        cases z
    have J := I2.adopt (ea := ea) (C := C) ⟨oe2, he2, hcl2⟩ (by
      cases q : X.s₀.heap.get? ea with
      | none => rfl
      | some o =>
        by_cases hx : ea ∈ X.ex
        · rw [hex] at hx
          cases hx
        · obtain ⟨o', e'⟩ := c.I.base.there ea o q hx
          rw [q0] at e'
          cases e') (by
      rintro rfl
      obtain ⟨m, ⟨o, _, _, ho, _⟩, _⟩ := c.I.loc
      rw [q0] at ho
      cases ho) (fun y d e z => by
      obtain ⟨v, o, ho, _⟩ := c.I.cell y d e
      rw [z, q0] at ho
      cases ho) (fun p hp z => by
      have e := (c.I.pin p hp).1
      rw [z, q0] at e
      cases e) hH
    refine wpAny_mono (store_ok (X := X.susp ea) (i := i) (v := .ref ea) (J.susp ea) hN hi (.inl hl) rfl (Q := fun _ s3 => Inv (X.susp ea) pins (σ.set i (some (.ref ea))) (upd H' ea (.ext (ExcOf ea C))) s3) (fun s3 I3 => I3) (.inr hl)) (fun _ s3 I3 => ?_) fun _ _ q => False.elim q
    refine wpAny_mono (hs ea pins s3 _ _ _ I3 (h ea hH)) (fun fl4 s4 q4 => ?_) fun _ _ q => False.elim q
    have go : ∀ {σ4 : St} {H4 : Hp}, Inv (X.susp ea) pins σ4 H4 s4 → ∀ {R : Unit → Shared → Prop}, (∀ s5, Inv X pins (List.replicate X.N.length none) H4 s5 → R () s5) → wpAny (model X.prog X.w) X.A (do bindName X.env n .none; unbindBehindTheSuite X.env n pos) R X.xe s4 := fun {σ4 H4} I4 {R} k => by
      obtain ⟨m, hn, _⟩ := I4.loc
      exact wpAny_nameGoes hl hn hp fun h5 m5 hn5 hs5 => k _ ((I4.unsusp I.ok).forget hn5 hs5)
    cases fl4 with
    | next => obtain ⟨σ4, H4, I4, q⟩ := q4; exact go I4 fun s5 I5 => ⟨_, H4, I5, q⟩
    | brk => obtain ⟨σ4, H4, I4, q⟩ := q4; exact go I4 fun s5 I5 => ⟨_, H4, I5, q⟩
    | cont => obtain ⟨σ4, H4, I4, q⟩ := q4; exact go I4 fun s5 I5 => ⟨_, H4, I5, q⟩
    | ret u => obtain ⟨v, σ4, H4, I4, r, q⟩ := q4; exact go I4 fun s5 I5 => ⟨v, _, H4, I5, r, q⟩

/-! ### isinstance(e, c) of an exception e, where it is so -/
theorem isi_yes {prog : Program} {w : World} {A : Around} {E : Value → Shared → Prop} {K : PySem.W.Frag} {x : Addr} {t c : Value} {Q : Value → Shared → Prop} (LT : PySem.W.Looks (model prog w) s.heap (typeOf (.ref x)) t) (XI : K.In s.heap) (ne : (t == c) = false)
    (e : PySem.W.kitCls K t c = some true) (h : Q (.bool true) s) : wpAny (model prog w) A (call (.builtin "isinstance") [.ref x, c]) Q E s := by
  obtain ⟨hp, g, d, tt, os⟩ := s
  refine call_isinstance_of ?_ (fun z => nomatch z)
  unfold Builtin.«isinstance.nested»
  refine wpAny_bind (LT.at ?_)
  rw [if_neg (fun q => by rw [ne] at q; exact Bool.noConfusion q)]
  obtain ⟨hty, his, hsub⟩ := PySem.W.kit_cls (M := model prog w) XI e
  have LI : PySem.W.Looks (model prog w) hp (isInstance (.ref x) c) true := LT.andThen hsub
  refine wpAny_bind (hty.at ?_)
  rw [if_pos (by decide)]
  k_delta "plainIsInstance"
  refine wpAny_bind (wpAny_bind (his.at ?_))
  simp only [Bool.not_true, Bool.false_eq_true, if_false]
  refine wpAny_bind (LI.at ?_)
  first
    | exact wpAny_pure (wpAny_pure h)
    | (simp only [if_true]; first | exact wpAny_pure (wpAny_pure h) | exact wpAny_pure h | exact wpAny_bind (wpAny_pure (wpAny_pure h)))
def rIsiE (K : PySem.W.Frag) : List V → Hp → VK → Prop := fun xs H Q => ∃ ea C n, xs = [.ref ea, .ty n] ∧ H ea = some (.ext (ExcOf ea C)) ∧ PySem.W.kitCls K (.ref C) (.type n) = some true ∧ Q (.bl true) H
theorem call_isiE : CallR X (.builtin "isinstance") (rIsiE X.K) := by
  intro pins s σ H xs us Q I r h
  obtain ⟨ea, C, n, rfl, hH, hk, q⟩ := h
  obtain ⟨u, w', rfl, rx, ry⟩ := vals2 r
  cases (show w' = Value.type n from ry)
  cases (show u = Value.ref ea from rx)
  obtain ⟨⟨oe, he, hcl⟩, _⟩ := I.hok ea _ hH
  have LT : PySem.W.Looks (model X.prog X.w) s.heap (typeOf (.ref ea)) (.ref C) := hcl ▸ (PySem.W.Looks.ld he).andThen .now
  exact isi_yes LT I.kIn rfl hk ⟨.bl true, H, I, rfl, q⟩
end
end L2

/-! OWN RULES: comprehensions whose element may raise. Behind Ext25, Try2. -/
namespace L2
open PySem PySem.Spec PyProof.Rows
section
variable {M : Model} {A : Around} {E : Value → Shared → Prop} {s : Shared}
theorem flight_any {base : Heap} {l : List Env} {e : Addr} {cls a0 fl : Value} {fo : Option Addr} {Q : Unit → Shared → Prop} (st : base.StaysIn s.heap) (fr : s.heap.FunFrames base l) (tr : s.heap.TracedAtW base e cls a0 fl)
    (k : ∀ h', base.StaysIn h' → h'.FunFrames base l → h'.TracedAtW base e cls a0 (fo.elim .none fun f => rawInt f) → (∀ b o, s.heap.get? b = some o → (∀ vs, o.data ≠ .fields vs) → h'.get? b = some o) → Q () { s with heap := h' }) :
    wpAny M A (setFlight (.ref e) fo) Q E s := by
  obtain ⟨oe, vs, T, oT, ts, ge, gcls, gd, g1, gnT, gTe, gT, gdT, g3⟩ := tr
  have lt3 := (Array.getElem?_eq_some_iff.mp g3).1
  have oth : ∀ b, b ≠ T → (s.heap.update T (Obj.mapFields (·.setIfInBounds 3 (fo.elim Value.none fun f => rawInt f)))).get? b = s.heap.get? b := fun b nb => Heap.get?_update_other _ _ (Ne.symm nb)
  have nr : ∀ b o, s.heap.get? b = some o → (∀ vs, o.data ≠ .fields vs) → b ≠ T := by
    intro b o hb hnf q
    rw [q, gT] at hb
    cases hb
    exact hnf ts gdT
  unfold setFlight
  refine wpAny_bind (wpAny_field ge gd g1 ?_)
  rw [if_pos (by simp)]
  refine wpAny_setField gT gdT lt3 (k _ ?_ ?_ ?_ ?_)
  · intro b o q
    rw [oth b fun z => by rw [z, gnT] at q; cases q]
    exact st b o q
  · exact fr.of_keeps fun b o hb hnf => ⟨o, (oth b (nr b o hb hnf)).trans hb, rfl⟩
  · exact ⟨oe, vs, T, _, _, (oth e (Ne.symm gTe)).trans ge, gcls, gd, g1, gnT, gTe, Heap.get?_update_self _ gT (Obj.isFreed_of_fields (Obj.data_mapFields gdT _)), Obj.data_mapFields gdT _, by simp [lt3]⟩
  · exact fun b o hb hnf => (oth b (nr b o hb hnf)).trans hb
theorem leaves_any {base : Heap} {env : Env} {outer : List Env} {L e : Addr} {cls a0 fl : Value} {Q : Unit → Shared → Prop} (af : A.frames = some (env :: outer)) (ef : env.frame = some L) (st : base.StaysIn s.heap) (hen : base.get? e = none)
    (fr : s.heap.FunFrames base (env :: outer)) (tr : s.heap.TracedAtW base e cls a0 fl) (k : ∀ h', Heap.FlyingW base outer e cls a0 h' → s.heap.UpToSlots h' → Q () { s with heap := h' }) : wpAny M A (leaving env (.ref e)) Q E s := by
  by_cases hz : fl = rawInt L
  · subst hz
    unfold leaving
    refine wpAny_bind (wpAny_noteFrame_againW ef tr ?_)
    refine wpAny_landsW ⟨st, hen, fr, tr⟩ fun h' hfl sm => ?_
    obtain ⟨k1, k2, ⟨_, _, k3⟩, k4⟩ := hfl
    exact k h' ⟨k1, k2, k3, k4⟩ sm
  · obtain ⟨oe, vs, T, oT, ts, ge, ⟨gc, g0⟩, gd, g1, gnT, gTe, gT, gdT, g3⟩ := tr
    subst gc
    have oth : ∀ b, b ≠ T → (s.heap.update T (Obj.mapFields (·.setIfInBounds 3 Value.none))).get? b = s.heap.get? b := fun b nb => Heap.get?_update_other _ _ (Ne.symm nb)
    have nr : ∀ b o, s.heap.get? b = some o → (∀ vs, o.data ≠ .fields vs) → b ≠ T := by
      intro b o hb hnf q
      rw [q, gT] at hb
      cases hb
      exact hnf ts gdT
    unfold leaving noteFrame
    simp only [ef]
    refine wpAny_bind (wpAny_bind (wpAny_field ge gd g1 ?_))
    rw [if_pos (by simp)]
    refine wpAny_bind (wpAny_field gT gdT g3 ?_)
    rw [if_neg (by simpa using hz)]
    refine wpAny_bind (wpAny_setField gT gdT (Array.getElem?_eq_some_iff.mp g3).1 ?_)
    refine wpAny_newEntryW af (fr.of_keeps fun b o hb hnf => ⟨o, (oth b (nr b o hb hnf)).trans hb, rfl⟩) ef ((oth e (Ne.symm gTe)).trans ge) (fun b o q => (oth b fun z => by rw [z, gnT] at q; cases q).trans (st b o q)) hen gd (Array.getElem?_eq_some_iff.mp g1).1 g0 fun h' hL => ?_
    obtain ⟨k1, ⟨_, _, k2⟩, k3, k4⟩ := hL
    exact k h' ⟨k1, hen, k2, k3⟩ fun b o hb hnf => k4 b o ((oth b (nr b o hb hnf)).trans hb) hnf
theorem frames_but {h h' base base' : Heap} {c : Addr} (sb : Heap.SameBut c h h') (hb : ∀ b, base.get? b = none → base'.get? b = none) : ∀ {l : List Env}, h.FunFrames base l → (∀ env ∈ l, env.frame ≠ some c) → h'.FunFrames base' l
  | [], _, _ => trivial
  | env :: l, ⟨hk, ⟨L, o, e1, e2, e3, e4⟩, r⟩, hc => by
    have nL : L ≠ c := fun z => hc env (List.mem_cons_self ..) (by rw [e1, z])
    exact ⟨hk, ⟨L, o, e1, hb L e2, (sb.2 L nL).trans e3, e4⟩, frames_but sb hb r fun env' he => hc env' (List.mem_cons_of_mem _ he)⟩
end
section
variable {X : Cx} {E : XK} {pins : List (Addr × Obj)} {σ : St} {H H' : Hp} {s s' : Shared} {B : Heap} {ea C : Addr} {a0 : Value}
theorem Xe1.frs (hx : Xe1 X E) : L2.frs X.stack = X.env.locals :: X.fs := by
  rw [hx.stk]
  unfold L2.frs
  rw [List.filterMap_cons, hx.fr]
  rfl
theorem cx1_outC (hx : Xe1 X E) (I : Inv X pins σ H s) {s'' : Shared} {c : Addr} (hc : X.s₀.heap.objs.size ≤ c) (hcf : c ∉ X.fs) (os : s''.os = s.os) (bare : AllBare s''.gens) (u : Un (frs X.stack) [] H H' s.heap s'.heap) (ok : HOk X.prog X.w H' s'.heap)
    (fl : Heap.FlyingW B X.outer ea (.ref C) a0 s''.heap) (sm : ∀ b o, b ≠ c → s'.heap.get? b = some o → (∀ vs, o.data ≠ .fields vs) → ∃ sl, s''.heap.get? b = some { o with slots := sl }) (trk : Trk H' s'.heap B)
    (old : ∀ b ob, b ≠ c → s.heap.get? b = some ob → b ∉ frs X.stack → ∃ ob', B.get? b = some ob' ∧ (H b = none → ob' = ob)) (hE : E (.ref C) none H') :
    CX1 X.prog X.w X.outer X.H₀ X.s₀ E (.ref ea) s'' := by
  have hfs := hx.frs
  have nx : ∀ b, b ∉ X.ex := fun b hb => by rw [hx.ex] at hb; cases hb
  have nc : ∀ b ob, X.s₀.heap.get? b = some ob → b ≠ c := fun b ob e z => absurd (z ▸ Heap.lt_size e) (Nat.not_lt.mpr hc)
  have nf : ∀ b ob, X.s₀.heap.get? b = some ob → b ∉ X.fs → b ∉ frs X.stack := fun b ob e hb z => by
    rw [hfs] at z
    rcases List.mem_cons.mp z with z | z
    · exact absurd (Nat.lt_of_lt_of_le (Heap.lt_size e) I.ok.above) (by rw [z]; exact Nat.lt_irrefl _)
    · exact hb z
  have st : B.StaysIn s''.heap := fl.1
  have U := I.base
  have old' : Old X.fs X.H₀ X.s₀.heap B := fun b ob e hb => by
    obtain ⟨o1, e1⟩ := U.there b ob e (nx b)
    obtain ⟨o', eB, hB⟩ := old b o1 (nc b ob e) e1 (nf b ob e hb)
    refine ⟨o', eB, fun n => ?_⟩
    have k := U.keep b ob e n hb (nx b)
    rw [e1] at k
    cases k
    exact hB (U.free b ob e n (nx b))
  have slot : ∀ b ob, X.s₀.heap.get? b = some ob → X.H₀ b = none → b ∈ X.fs → ∃ sl, s''.heap.get? b = some { ob with slots := sl } := fun b ob e n hb => by
    obtain ⟨sl, k⟩ := U.slot b ob e n hb (nx b)
    obtain ⟨sl2, k2⟩ := u.any k (U.free b ob e n (nx b)) (by simp)
    obtain ⟨_, o3, e3, hd⟩ := I.ok.funs.mem hb
    rw [e] at e3
    cases e3
    obtain ⟨sl3, k3⟩ := sm b _ (fun z => hcf (z ▸ hb)) k2 fun vs q => hd vs q
    exact ⟨sl3, k3⟩
  refine ⟨ea, C, H', B, a0, rfl, os.trans I.os, bare, ⟨fun b ob e n hb _ => ?_, fun b ob e n hb _ => slot b ob e n hb, fun b ob e n _ => ?_, fun b ob e _ => ?_, fun b xs q => u.tups b xs (U.tups b xs q), fun b ob xs q => u.frzs b ob xs (U.frzs b ob xs q), fun b ps q => ?_⟩,
    ok.stays trk st, fl, Trk.stays ok trk st, old', hE⟩
  · obtain ⟨o', eB, hB⟩ := old' b ob e hb
    rw [hB n] at eB
    exact st b ob eB
  · obtain ⟨o1, e1⟩ := U.there b ob e (nx b)
    exact u.free b o1 e1 (U.free b ob e n (nx b)) (by simp)
  · by_cases hb : b ∈ X.fs
    · obtain ⟨sl, k⟩ := slot b ob e (I.ok.frf b hb) hb
      exact ⟨_, k⟩
    · obtain ⟨o', eB, _⟩ := old' b ob e hb
      exact ⟨o', st b o' eB⟩
  · obtain ⟨m1, e1⟩ := U.tbls b ps q
    obtain ⟨m2, e2⟩ := u.tbls b _ e1
    exact ⟨m1 ++ m2, by rw [e2, Array.append_assoc]⟩
theorem comp_passes {N' : List Str} {scope : Scope} {cl : List (Str × Addr)} {fp : List Addr} {Qc : Value → Shared → Prop} {acc : Value} (hx : Xe1 X E) (I : Inv X pins σ H s) (f3 : ∀ b ∈ fp, FpOk X pins H b) :
    Passes (CX1 X.prog X.w) ((cxComp X N' scope cl fp s H).wish (notedBy (model X.prog X.w) X.A (compEnvC scope cl s.heap.objs.size X.env) fun e s' => compPost (model X.prog X.w) X.A X.xe none Qc acc s.heap.objs.size (.error e) s')) E := by
  intro pins' σ' H5 s5 e s' J5 h
  obtain ⟨ea, Cc, H', B, a0, rfl, os, bare, u, ok, fl, trk, old, hE⟩ := h
  have J5' : Inv (cxComp X N' scope cl fp s H) pins' σ' H5 s5 := J5.unwish
  have fl2 : Heap.FlyingW B (X.env :: X.outer) ea (.ref Cc) a0 s'.heap := hx.stk ▸ (show Heap.FlyingW B X.stack ea (.ref Cc) a0 s'.heap from fl)
  have af : X.A.frames = some (X.env :: X.outer) := by rw [I.ok.frames, hx.stk]
  show wpAny (model X.prog X.w) X.A (noteFrame (.ref ea) X.env) (fun _ s'' => compPost (model X.prog X.w) X.A X.xe none Qc acc s.heap.objs.size (.error (.ref ea)) s'') (fun e s'' => compPost (model X.prog X.w) X.A X.xe none Qc acc s.heap.objs.size (.error e) s'') s'
  refine wpAny_looks_onW af hx.fr fl2 fun h1 held sm1 => ?_
  have cm : Came (cxComp X N' scope cl fp s H) pins' σ' H5 s5 H' B s' := ⟨J5', os, bare, u, ok, trk, old⟩
  have J6 := cm.inv held.1 sm1
  obtain ⟨m, hn, _⟩ := J6.loc
  have hn' : h1.Ns s.heap.objs.size m := hn
  have Hc : H' s.heap.objs.size = none := J6.free
  refine ⟨m, hn', fun h2 hsb cenv' _ => ?_⟩
  have I5 : Inv X pins σ H5 s5 := comp_end I (J5'.pins_of (pins' := []) (fun p hp => by cases hp)) f3 (Heap.SameBut.refl _ _)
  generalize hcc : s.heap.objs.size = c at *
  have hcs : X.s₀.heap.objs.size ≤ c := hcc ▸ I.sz
  have hcf : c ∉ X.fs := I.nofs (Nat.le_of_eq hcc)
  have hcl : X.env.locals ≠ c := hcc ▸ Nat.ne_of_lt I.lt
  have hcn : c ∉ frs X.stack := by
    rw [hx.frs]
    intro z
    rcases List.mem_cons.mp z with z | z
    · exact hcl z.symm
    · exact hcf z
  obtain ⟨oe, vs, T, oT, ts, ge, gc, gd, g1, gnT, gTe, gT, gdT, g3⟩ := held.2.2.2
  have nd : ∀ b o ws, h1.get? b = some o → o.data = .fields ws → b ≠ c := by
    intro b o ws e1 e2 z
    obtain ⟨o', es, ep, e3, e4, _⟩ := hn'
    rw [z, e3] at e1
    cases e1
    rw [e4] at e2
    cases e2
  have hen' : (PySem.W.hideAll B [c]).get? ea = none := by
    cases z : (PySem.W.hideAll B [c]).get? ea with
    | none => rfl
    | some o =>
      have := PySem.W.of_hideAll _ z
      rw [held.2.1] at this
      cases this
  have hnn : ∀ b, B.get? b = none → (PySem.W.hideAll B [c]).get? b = none := by
    intro b q
    cases z : (PySem.W.hideAll B [c]).get? b with
    | none => rfl
    | some o =>
      have := PySem.W.of_hideAll _ z
      rw [q] at this
      cases this
  have st' : (PySem.W.hideAll B [c]).StaysIn h2 := by
    intro b o q
    have nb : b ≠ c := by
      intro z
      rw [z, PySem.W.hideAll_none [c] (by simp)] at q
      cases q
    exact (hsb.2 b nb).trans (held.1 b o (PySem.W.of_hideAll _ q))
  have fr' : h2.FunFrames (PySem.W.hideAll B [c]) (X.env :: X.outer) := by
    refine frames_but hsb hnn held.2.2.1 fun env he z => hcn ?_
    rw [hx.stk]
    exact List.mem_filterMap.mpr ⟨env, he, z⟩
  have tr' : h2.TracedAtW (PySem.W.hideAll B [c]) ea (.ref Cc) a0 (rawInt X.env.locals) :=
    ⟨oe, vs, T, oT, ts, (hsb.2 _ (nd _ _ _ ge gd)).trans ge, gc, gd, g1, hnn T gnT, gTe, (hsb.2 _ (nd _ _ _ gT gdT)).trans gT, gdT, g3⟩
  unfold PySem.passOn
  refine wpAny_bind (wpAny_field ((hsb.2 _ (nd _ _ _ ge gd)).trans ge) gd g1 ?_)
  rw [if_neg (by simp)]
  refine wpAny_bind (flight_any st' fr' tr' fun h3 k1 k2 k3 k4 => ?_)
  refine wpAny_throw ?_
  rw [hx.xe]
  refine leaves_any af hx.fr k1 hen' k2 k3 fun h4 hfl sm4 => ?_
  refine cx1_outC (s' := s') hx I5 hcs hcf os bare u ok hfl (fun b o nb e hnf => ?_) (fun b ob hb e => PySem.W.hideAll_get _ (trk b ob hb e) fun z => hb ?_) (fun b ob nb e hb => ?_) hE
  · obtain ⟨sl1, e1⟩ := sm1 b o e hnf
    obtain ⟨sl2, e2⟩ := sm4 b _ (k4 b _ ((hsb.2 b nb).trans e1) hnf) hnf
    exact ⟨sl2, e2⟩
  · rw [List.mem_singleton.mp z]
    exact Hc
  · obtain ⟨ob', eB, hB⟩ := old b ob e hb
    exact ⟨ob', PySem.W.hideAll_get _ eB (by simpa using nb), hB⟩
end
section
variable {X : Cx} {N' : List Str} {scope : Scope} {elt iter : Expr} {x : Str} {px pos : Pos} {wi : TI} {te : TE} {ix : List Nat} {E : XK}
theorem pe_lcX (hx1 : Xe1 X E) (hc : X.calm = true) (hkind : scope.kind = .function) (hcell : ∀ y ∈ scope.names, y.2 ≠ .cell) (hnames : ∀ y ∈ scope.names, y.2 = .local → scope.names.lookup y.1 = some .local) (hx : scope.names.lookup x = some .local)
    (hclo : X.Ok → ∃ cl, Clo X scope cl) (hN : N'.Nodup) (hN0 : N'[0]? = some x) (hlen : N'.length = ix.length + 1)
    (hix : ∀ (j i : Nat), ix[j]? = some i → ∃ y, X.N[i]? = some y ∧ N'[j + 1]? = some y ∧ (X.env.kindOf y = some .cell ∨ X.env.kindOf y = some .free) ∧ ((relabel scope X.env).names.lookup y = some .cell ∨ (relabel scope X.env).names.lookup y = some .free))
    (hi : PI X (.Name x px) iter wi) (he : ∀ cl fp s₃ H₃ xe0, Passes (CX1 X.prog X.w) ((cxComp X N' scope cl fp s₃ H₃).wish xe0) E → PE ((cxComp X N' scope cl fp s₃ H₃).wish xe0) elt te) (hs : ∀ v, foldedSetIterable iter X.env v = pure v := by intro _; rfl) :
    PE X (.ListComp elt [⟨.Name x px, iter, [], 0⟩] scope pos) (tLC wi ix te) := by
  intro pins s σ H Q I h
  obtain ⟨cl, C⟩ := hclo I.ok
  rw [eval_ListComp]
  refine wpAny_comprehension_free (use := none) rfl hs C.eq hkind hnames (thn (hi pins s σ H _ I h) fun v s1 h1 => thn h1 fun itv s2 h2 => ?_)
  obtain ⟨it, fp, tn, J, H2, e, I2, T, st2, f2, q2⟩ := h2
  subst e
  have hD : H2 s2.heap.objs.size = none := I2.fresh
  obtain ⟨W, ⟨m0, w0⟩, turn⟩ := q2 s2.heap.objs.size hD
  refine wpAny_newObj_type (wpAny_newFunctionEnv hcell (by intro y hy; simp at hy) (fun h₁ hns₁ hsb₁ => ?_) hkind)
  dsimp only at hns₁ hsb₁ ⊢
  have I3 : Inv X pins σ (upd H2 s2.heap.objs.size (.lst [])) { s2 with heap := s2.heap.push { cls := .type "list", data := .seq ([] : List Value).toArray }, toks := s2.toks } := I2.lnew .nil (Nat.zero_le _)
  generalize hs3 : ({ s2 with heap := s2.heap.push { cls := .type "list", data := .seq ([] : List Value).toArray }, toks := s2.toks } : Shared) = s3 at I3
  have e3 : s3.heap = s2.heap.push { cls := .type "list", data := .seq ([] : List Value).toArray } := by rw [← hs3]
  generalize hDD : s2.heap.objs.size = D at *
  generalize hH3 : upd H2 D (.lst []) = H3 at *
  have lt2 : ∀ b ∈ fp, b < s2.heap.objs.size := fun b hb => by
    obtain ⟨o, ho, _⟩ := T.obj 0 _ st2 b hb
    exact Heap.lt_size ho
  have neD : ∀ b ∈ fp, b ≠ D := fun b hb => by rw [← hDD]; exact Nat.ne_of_lt (lt2 b hb)
  have f3 : ∀ b ∈ fp, FpOk X pins H3 b := fun b hb => ⟨by rw [← hH3, upd_ne (neD b hb)]; exact (f2 b hb).1, (f2 b hb).2⟩
  have sz3 : s3.heap.objs.size = D + 1 := by rw [e3, Heap.size_push, hDD]
  have lt3 : ∀ b ∈ fp, b < s3.heap.objs.size := fun b hb => by have q := lt2 b hb; rw [sz3]; rw [hDD] at q; exact Nat.lt_succ_of_lt q
  have old : ∀ b o, s3.heap.get? b = some o → h₁.get? b = some o := fun b o eb => by
    have hb : b < D + 1 := by rw [← sz3]; exact Heap.lt_size eb
    refine hsb₁.extBut b o ?_ (Heap.get?_push_of_some _ (by rw [← e3]; exact eb))
    rw [Heap.size_push, hDD]
    exact Nat.ne_of_lt hb
  have szC : (s2.heap.push { cls := .type "list", data := .seq ([] : List Value).toArray }).objs.size = s3.heap.objs.size := by rw [e3]
  have os3 : s3.os = s2.os := by rw [← hs3]
  rw [szC] at hns₁ hsb₁
  have I4 : Inv (cxComp X N' scope cl fp s3 H3) [] (none :: fvs σ ix) H3 { s3 with heap := h₁, toks := s2.toks + ([] : List (Str × Value)).length } := comp_start I3 C hkind f3 lt3 hlen hix hns₁ old
  have st4 : tn 0 h₁ := T.keep 0 _ _ st2 fun b hb o eb => old b o (by rw [e3]; exact Heap.get?_push_of_some _ eb)
  have stat : ∀ {H' : Hp}, (∀ b ∈ fp, H' b = none) → ∀ b ∈ fp, FpOk (cxComp X N' scope cl fp s3 H3) [] H' b := fun hn b hb =>
    ⟨hn b hb, Nat.ne_of_lt (lt3 b hb), fun hs' => (comp_ok (N' := N') I3 C hkind f3 lt3).exfs b hb hs', .inl hb, fun y c hy => ((comp_ok (N' := N') I3 C hkind f3 lt3).exf b hb).2 y c hy, fun p hp => absurd (show p ∈ ([] : List (Addr × Obj)) from hp) (by simp)⟩
  have loop : ∀ s4 : Shared, s4 = { s3 with heap := h₁, toks := s2.toks + ([] : List (Str × Value)).length } →
      codeAny (model X.prog X.w) X.A (.compLoop (.ListComp elt [⟨.Name x px, iter, [], 0⟩] scope pos) 0 (.ref it) (.ref D) (compEnvC scope cl s3.heap.objs.size X.env))
        (compPost (model X.prog X.w) X.A X.xe none (EP X pins σ Q) (.ref D) s3.heap.objs.size) s4 := by
    rintro s4 rfl
    refine compLoop_go (fun n s' => ∃ i σ0 H' ys, Inv (cxComp X N' scope cl fp s3 H3) [] (σ0 :: fvs σ ix) H' s' ∧ tn i s'.heap ∧ (∀ b ∈ fp, H' b = none) ∧ W i n ys H') ?_ m0 ⟨0, none, H3, [], I4, st4, fun b hb => (f3 b hb).1, w0⟩
    rintro n s5 ⟨i, σ0, H5, ys, I5, st5, fr5, w5⟩
    obtain ⟨hD5, alt⟩ := turn i n ys H5 w5
    rcases alt with ⟨stop, q⟩ | ⟨go, step⟩
    · refine thn (T.done (cxComp X N' scope cl fp s3 H3) rfl rfl rfl hc i [] s5 _ H5 _ I5 (stat fr5) st5 stop) fun r s6 ⟨hr, I6⟩ => ?_
      subst hr
      obtain ⟨m, hn, _⟩ := I6.loc
      exact ⟨m, hn, fun h' hsb => ⟨.ref D, H5, comp_end I3 I6 f3 hsb, rfl, q⟩⟩
    · refine thn (T.item (cxComp X N' scope cl fp s3 H3) rfl rfl rfl hc i [] s5 _ H5 _ I5 (stat fr5) st5 go) fun r s6 ⟨u, hr, h6⟩ => ?_
      subst hr
      refine thn h6 fun _ s7 ⟨y7, H7, I7, r7, yl7, st7, fr7⟩ => ?_
      have I7' := I7.pinned (stat fr7) (T.obj _ _ st7)
      have G : PG (cxComp X N' scope cl fp s3 H3) (.Name x px) (gName 0) := pg_name hN hN0 (.inl (lookup_relabel_local hx)) (.inr (lookup_relabel_local hx))
      refine wpAny_mono (G _ s7 _ H7 y7 u (fun σ' H' => σ' = some y7 :: fvs σ ix ∧ H' = H7) I7' r7 ⟨rfl, rfl⟩) (fun _ s8 h8 => ?_) fun _ _ f => False.elim f
      obtain ⟨σ8, H8, I8, rfl, rfl⟩ := h8
      refine wpAny_mono (he cl fp s3 H3 _ (comp_passes (Qc := EP X pins σ Q) (acc := .ref D) hx1 I3 f3) _ s8 _ H8 _ (I8.wish _) (step y7 H8 yl7)) (fun yv s9 h9 => ?_) fun _ _ f => f
      obtain ⟨y9, H9, I9w, r9, hD9, hl9, m', hm', w9⟩ := h9
      have I9 := I9w.unwish
      refine wpAny_mono (mt_append (X := cxComp X N' scope cl fp s3 H3) _ s9 _ H9 (.ref D) [y9] (.ref D) [yv] (fun _ H' => H' = upd H9 D (.lst (ys ++ [y9]))) I9 rfl (.cons r9 .nil) ⟨D, ys, y9, rfl, rfl, hD9, hl9, rfl⟩) (fun _ s10 h10 => ?_) fun _ _ f => False.elim f
      obtain ⟨_, H10, I10, _, rfl⟩ := h10
      refine ⟨m', hm', i + 1, some y7, _, ys ++ [y9], I10.unpinned, T.keep _ _ _ st7 fun b hb o eb => (I10.pin (b, o) (List.mem_append_right _ (List.mem_append_right _ (mem_pinsAt hb eb)))).1, fun b hb => ?_, w9⟩
      obtain ⟨o, eb, d⟩ := T.obj _ _ st7 b hb
      exact (I10.pin (b, o) (List.mem_append_right _ (List.mem_append_right _ (mem_pinsAt hb eb)))).2.1
  subst hs3
  have fin := codeAny_compStart_list (loop _ rfl) (T.self X.A 0 _ _ _ st4 (loop _ rfl))
  exact fin
end
end L2

/-! OWN RULES: split, partition, startswith, endswith of texts; int(text). Behind Ext26. -/
namespace L2
open PySem PySem.Spec PyProof.Rows
section
variable {X : Cx}
theorem vals_strs : ∀ l : List (Str × Tok), Vals (l.map fun a => V.str a.1) (strValues l)
  | [] => .nil
  | a :: l => .cons ⟨_, rfl⟩ (vals_strs l)
theorem split_len (x y : Str) : (Builtin.Str.partsBetween x (Builtin.Str.occurrences x y 0 x.length (x.length + 1)) y.length).length ≤ x.length + 2 := by
  have := StrLaws.occ_length_le x y 0 x.length (x.length + 1)
  simp only [Builtin.Str.partsBetween, List.length_map, List.length_zip, List.length_cons, List.length_append, List.length_nil]
  omega
theorem split_len' (x y : Str) : (Txt.split x y).length ≤ x.length + 2 := by
  unfold Txt.split
  split
  · simp
  · split
    · simp
    · exact split_len x y
def rSplit : V → List V → Hp → VK → Prop := fun x vs H Q => ∃ z y, x = .str z ∧ vs = [.str y] ∧ (y.length == 0) = false ∧ z.length ≤ 1000000 ∧ ∀ p, H p = none → Q (.ref p) (upd H p (.lst ((Txt.split z y).map V.str)))
theorem mt_split : MtR X "str.split" rSplit := by
  intro pins s σ H x vs v us Q I rx rv h
  obtain ⟨z, y, rfl, rfl, hy, hz, q⟩ := h
  obtain ⟨t, rfl⟩ := rx
  obtain ⟨u, rfl, ru⟩ := rv.one
  obtain ⟨tu, rfl⟩ := ru
  have hsz : z.length ≤ sizeLine := Nat.le_trans hz (by rw [sizeLine_eq]; decide)
  have hn : (Builtin.Str.partsBetween z (Builtin.Str.occurrences z y 0 z.length (z.length + 1)) y.length).length ≤ sizeLine := Nat.le_trans (split_len z y) (by rw [sizeLine_eq]; omega)
  have one : ∀ e : Txt.split z y = [z], wants (EP X pins σ Q) X.xe (.ok (.ret (.ref s.heap.objs.size))) { s with heap := s.heap.push { cls := .type "list", data := .seq [Value.str z t].toArray } } := fun e => by
    have I1 := I.lnew (ys := [.str z]) (its := [Value.str z t]) (t' := s.toks) (.cons ⟨_, rfl⟩ .nil) (by show 1 ≤ sizeLine; decide)
    refine ⟨.ref s.heap.objs.size, _, I1, rfl, ?_⟩
    have := q _ I.fresh
    rw [e] at this
    exact this
  cases h1 : (decide (z.length < y.length) || decide (Builtin.Str.strKind z < Builtin.Str.strKind y))
  · cases hf : (Builtin.Str.occurrences z y 0 z.length (z.length + 1)).isEmpty
    · refine call_meets F.slot_str_split (typeIs_str s z t) F.entry_str_split (F.args_str_split_2 _ _) (meets_str_split_sep z y t tu h1 hy hf hsz hn) ?_
      have e : Txt.split z y = Builtin.Str.partsBetween z (Builtin.Str.occurrences z y 0 z.length (z.length + 1)) y.length := (if_neg (ne_true_of_eq_false h1)).trans (if_neg (ne_true_of_eq_false hf))
      rw [strsFrom_eq]
      have ev : ((numbered s.toks (Builtin.Str.partsBetween z (Builtin.Str.occurrences z y 0 z.length (z.length + 1)) y.length)).map fun a => V.str a.1) = (Txt.split z y).map V.str := by
        rw [e]
        conv => rhs; rw [← numbered_texts s.toks (Builtin.Str.partsBetween z (Builtin.Str.occurrences z y 0 z.length (z.length + 1)) y.length)]
        rw [List.map_map]
        rfl
      have I1 := I.lnew (ys := (Txt.split z y).map V.str) (its := strValues (numbered s.toks (Builtin.Str.partsBetween z (Builtin.Str.occurrences z y 0 z.length (z.length + 1)) y.length))) (t' := s.toks + (Builtin.Str.partsBetween z (Builtin.Str.occurrences z y 0 z.length (z.length + 1)) y.length).length) (by rw [← ev]; exact vals_strs _) (by rw [List.length_map, e]; exact hn)
      exact ⟨.ref s.heap.objs.size, _, I1, rfl, q _ I.fresh⟩
    · exact call_meets F.slot_str_split (typeIs_str s z t) F.entry_str_split (F.args_str_split_2 _ _) (meets_str_split_not_found z y t tu h1 hy hf) (one ((if_neg (ne_true_of_eq_false h1)).trans (if_pos hf)))
  · exact call_meets F.slot_str_split (typeIs_str s z t) F.entry_str_split (F.args_str_split_2 _ _) (meets_str_split_cannot_occur z y t tu h1) (one (if_pos h1))
def rPart : V → List V → Hp → VK → Prop := fun x vs H Q => ∃ z y, x = .str z ∧ vs = [.str y] ∧ (y.length == 0) = false ∧ z.length ≤ 1000000 ∧ ∀ p, H p = none → Q (.ref p) (upd H p (.tup [.str (Txt.partition z y).1, .str (Txt.partition z y).2.1, .str (Txt.partition z y).2.2]))
theorem mt_partition : MtR X "str.partition" rPart := by
  intro pins s σ H x vs v us Q I rx rv h
  obtain ⟨z, y, rfl, rfl, hy, hz, q⟩ := h
  obtain ⟨t, rfl⟩ := rx
  obtain ⟨u, rfl, ru⟩ := rv.one
  obtain ⟨tu, rfl⟩ := ru
  have hsz : z.length ≤ sizeLine := Nat.le_trans hz (by rw [sizeLine_eq]; decide)
  refine call_meets F.slot_str_partition (typeIs_str s z t) F.entry_str_partition (F.args_str_partition_2 _ _) (meets_str_partition z y t tu hy hsz) ?_
  have q0 := q _ I.fresh
  unfold Txt.partition at q0
  cases ho : Builtin.Str.occurrences z y 0 z.length 1 with
  | nil =>
    rw [ho] at q0
    exact ⟨.ref s.heap.objs.size, _, I.laid (o := .tup [.str z, .str Str.empty, .str Str.empty]) (t' := s.toks + 1) (fun b u e => Heap.get?_push_of_some _ e) (Nat.le_refl _) ⟨(by show 3 ≤ sizeLine; decide), _, .cons ⟨_, rfl⟩ (.cons ⟨_, rfl⟩ (.cons ⟨_, rfl⟩ .nil)), ⟨_, Heap.get?_push_size _ rfl, rfl, _, rfl⟩⟩, rfl, q0⟩
  | cons i r =>
    rw [ho] at q0
    exact ⟨.ref s.heap.objs.size, _, I.laid (o := .tup [.str (Builtin.Str.strSub z 0 i), .str y, .str (Builtin.Str.strSub z (i + y.length) z.length)]) (t' := s.toks + 1 + 1) (fun b u e => Heap.get?_push_of_some _ e) (Nat.le_refl _) ⟨(by show 3 ≤ sizeLine; decide), _, .cons ⟨_, rfl⟩ (.cons ⟨_, rfl⟩ (.cons ⟨_, rfl⟩ .nil)), ⟨_, Heap.get?_push_size _ rfl, rfl, _, rfl⟩⟩, rfl, q0⟩
def rStarts : V → List V → Hp → VK → Prop := fun x vs H Q => ∃ z y, x = .str z ∧ vs = [.str y] ∧ Q (.bl (Txt.startswith z y)) H
theorem mt_starts : MtR X "str.startswith" rStarts := by
  intro pins s σ H x vs v us Q I rx rv h
  obtain ⟨z, y, rfl, rfl, q⟩ := h
  obtain ⟨t, rfl⟩ := rx
  obtain ⟨u, rfl, ru⟩ := rv.one
  obtain ⟨tu, rfl⟩ := ru
  exact call_gives F.slot_str_startswith (typeIs_str _ _ _) F.entry_str_startswith (F.args_str_startswith_2 _ _) (gives_str_startswith z y t tu) ⟨.bl _, H, I, rfl, q⟩
def rEnds : V → List V → Hp → VK → Prop := fun x vs H Q => ∃ z y, x = .str z ∧ vs = [.str y] ∧ Q (.bl (Txt.endswith z y)) H
theorem mt_ends : MtR X "str.endswith" rEnds := by
  intro pins s σ H x vs v us Q I rx rv h
  obtain ⟨z, y, rfl, rfl, q⟩ := h
  obtain ⟨t, rfl⟩ := rx
  obtain ⟨u, rfl, ru⟩ := rv.one
  obtain ⟨tu, rfl⟩ := ru
  exact call_gives F.slot_str_endswith (typeIs_str _ _ _) F.entry_str_endswith (F.args_str_endswith_2 _ _) (gives_str_endswith z y t tu) ⟨.bl _, H, I, rfl, q⟩
theorem call_int_text : CallR X (.type "int") (fun xs H Q => ∃ z n, xs = [.str z] ∧ PySem.intText? z = some n ∧ z.length ≤ 640 ∧ Q (.int n) H) := by
  intro pins s σ H xs us Q I r h
  obtain ⟨z, n, rfl, hn, hl, q⟩ := h
  obtain ⟨u, rfl, t, rfl⟩ := vals1 r
  exact PySem.W.KIN.call_text hn hl ⟨.int n, H, I.tok _, ⟨_, rfl⟩, q⟩
end
end L2

/-! law k85, first part: texts that are split; what a line's text tells. Behind Ext27. -/
namespace K85
open PySem L2
abbrev cl (x : Str) : List Nat := x.cps.toList
theorem cl_ext {a b : Str} (h : cl a = cl b) : a = b := Str.ext' (Array.toList_inj.mp h)
theorem cl_app (a b : Str) : cl (a ++ b) = cl a ++ cl b := Array.toList_append
theorem cl_len (a : Str) : (cl a).length = a.length := by simp [cl, Str.length]
theorem slice_to {x : Str} {j : Int} (h0 : 0 ≤ j) : cl (Txt.slice x none (some j)) = (cl x).take j.toNat := by
  by_cases h : j ≤ (cl x).length
  · have e := eq_of_beq (PyProof.Rows.slice_closes_to (x := x) ⟨h0, h⟩)
    rw [e]
    simp [cl]
  · have e : Txt.slice x none (some j) = x := by
      have hn : (x.length : Int) ≤ j := by rw [cl_len] at h; omega
      have hz : (Builtin.Str.strSliceIndices none (some j) 1 x.length).length = x.length := by
        unfold Builtin.Str.strSliceIndices
        simp only [show (1 : Int) > 0 by decide, if_true]
        have e1 : ¬ j < 0 := by omega
        simp only [e1, if_false]
        have e2 : max 0 (min j (x.length : Int)) = ((x.length : Nat) : Int) := by omega
        rw [e2]
        have e3 : sliceRange 0 ((x.length : Nat) : Int) 1 = (List.range (x.length - 0)).map (0 + ·) := sliceRange_one 0 x.length
        rw [e3]
        simp
      unfold Txt.slice
      rw [if_pos (by rw [hz]; simp)]
    rw [e, List.take_of_length_le (by omega)]
theorem slice_from {x : Str} {j : Int} (h0 : 0 ≤ j) : cl (Txt.slice x (some j) none) = (cl x).drop j.toNat := by
  by_cases h : j ≤ x.length
  · rw [PyProof.Rows.slice_from_eq h0 h rfl]
    show ((cl x).drop j.toNat).take ((x.length : Int) - j).toNat = _
    rw [List.take_of_length_le]
    rw [List.length_drop, cl_len]
    omega
  · rw [PyProof.Rows.slice_beyond (by omega), List.drop_eq_nil_of_le (by rw [cl_len]; omega)]
    rfl
theorem slice_last {x : Str} (h : 1 ≤ x.length) : cl (Txt.slice x none (some (-1))) = (cl x).take (x.length - 1) := by
  have e := eq_of_beq (PyProof.Rows.slice_closes_to_neg (x := x) (j := -1) (k := -1 + x.length) (by decide) (by omega) rfl)
  rw [e]
  have e2 : (-1 + (x.length : Int) - 0).toNat = x.length - 1 := by omega
  rw [e2]
  simp [cl]
/-! ### one mark -/
theorem mark_inj {m : Nat} : ∀ {a a' r r' : List Nat}, a ++ m :: r = a' ++ m :: r' → m ∉ a → m ∉ a' → a = a' ∧ r = r'
  | [], [], r, r', h, _, _ => ⟨rfl, (List.cons.inj h).2⟩
  | [], y :: a', r, r', h, _, h2 => absurd (by rw [(List.cons.inj h).1]; exact List.mem_cons_self ..) h2
  | x :: a, [], r, r', h, h1, _ => absurd (by rw [← (List.cons.inj h).1]; exact List.mem_cons_self ..) h1
  | x :: a, y :: a', r, r', h, h1, h2 => by
    obtain ⟨e1, e2⟩ := List.cons.inj h
    obtain ⟨e3, e4⟩ := mark_inj e2 (fun z => h1 (List.mem_cons_of_mem _ z)) (fun z => h2 (List.mem_cons_of_mem _ z))
    exact ⟨by rw [e1, e3], e4⟩
theorem cl_join (c : Nat) (p q : Str) (r : List Str) : cl (Str.join ⟨#[c]⟩ (p :: q :: r)) = cl p ++ c :: cl (Str.join ⟨#[c]⟩ (q :: r)) := by
  show cl (p ++ ⟨#[c]⟩ ++ Str.join ⟨#[c]⟩ (q :: r)) = _
  rw [cl_app, cl_app, List.append_assoc]
  rfl
theorem join_inj {c : Nat} : ∀ {ps qs : List Str}, ps ≠ [] → qs ≠ [] → (∀ p ∈ ps, c ∉ cl p) → (∀ q ∈ qs, c ∉ cl q) → Str.join ⟨#[c]⟩ ps = Str.join ⟨#[c]⟩ qs → ps = qs
  | [], _, h, _, _, _, _ => absurd rfl h
  | _, [], _, h, _, _, _ => absurd rfl h
  | [p], [q], _, _, _, _, e => by rw [show p = q from e]
  | [p], q :: q' :: r, _, _, hp, _, e => by
    have e' : cl p = cl (Str.join ⟨#[c]⟩ (q :: q' :: r)) := congrArg cl e
    rw [cl_join] at e'
    exact absurd (by rw [e']; simp) (hp p (List.mem_cons_self ..))
  | p :: p' :: r, [q], _, _, _, hq, e => by
    have e' : cl (Str.join ⟨#[c]⟩ (p :: p' :: r)) = cl q := congrArg cl e
    rw [cl_join] at e'
    exact absurd (by rw [← e']; simp) (hq q (List.mem_cons_self ..))
  | p :: p' :: r, q :: q' :: r', _, _, hp, hq, e => by
    have e' := congrArg cl e
    rw [cl_join, cl_join] at e'
    obtain ⟨e1, e2⟩ := mark_inj e' (hp p (List.mem_cons_self ..)) (hq q (List.mem_cons_self ..))
    rw [cl_ext e1, join_inj (c := c) (by simp) (by simp) (fun x hx => hp x (List.mem_cons_of_mem _ hx)) (fun x hx => hq x (List.mem_cons_of_mem _ hx)) (cl_ext e2)]
theorem split_ne (x y : Str) : Txt.split x y ≠ [] := by
  unfold Txt.split
  split
  · simp
  · split
    · simp
    · rw [StrLaws.partsBetween_eq]
      obtain ⟨p, r, e⟩ := StrLaws.partsFrom_ne x y.length 0 (Builtin.Str.occurrences x y 0 x.length (x.length + 1))
      rw [e]
      simp
theorem split_uniq {c : Nat} {ps : List Str} (h : ps ≠ []) (hf : ∀ p ∈ ps, c ∉ cl p) : Txt.split (Str.join ⟨#[c]⟩ ps) ⟨#[c]⟩ = ps :=
  join_inj (c := c) (split_ne _ _) h (StrLaws.split_free _ c) hf (StrLaws.join_split _ _)
theorem join_snoc (c : Nat) : ∀ {ps : List Str}, ps ≠ [] → Str.join ⟨#[c]⟩ (ps ++ [Str.empty]) = Str.join ⟨#[c]⟩ ps ++ ⟨#[c]⟩
  | [], h => absurd rfl h
  | [p], _ => Str.append_empty _
  | p :: q :: r, _ => by
    show p ++ ⟨#[c]⟩ ++ Str.join ⟨#[c]⟩ ((q :: r) ++ [Str.empty]) = p ++ ⟨#[c]⟩ ++ Str.join ⟨#[c]⟩ (q :: r) ++ ⟨#[c]⟩
    rw [join_snoc c (ps := q :: r) (by simp), ← Str.append_assoc]
/-- the rows of a text that ends with a line's end -/
theorem split_rows {x : Str} {c : Nat} (h : 1 ≤ x.length) (he : (cl x)[x.length - 1]? = some c) : Txt.split x ⟨#[c]⟩ = Txt.split (Txt.slice x none (some (-1))) ⟨#[c]⟩ ++ [Str.empty] := by
  have e1 := slice_last h
  have e2 : Txt.slice x none (some (-1)) ++ ⟨#[c]⟩ = x := by
    apply cl_ext
    rw [cl_app, e1]
    have hl : x.length - 1 < (cl x).length := by rw [cl_len]; omega
    have e3 : (cl x).take (x.length - 1) ++ [(cl x)[x.length - 1]] = (cl x).take (x.length - 1 + 1) := by rw [List.take_succ_eq_append_getElem hl]
    rw [List.getElem?_eq_getElem hl] at he
    cases he
    show _ ++ [(cl x)[x.length - 1]] = _
    rw [e3, List.take_of_length_le (by rw [cl_len]; omega)]
  have hn := split_ne (Txt.slice x none (some (-1))) ⟨#[c]⟩
  have := split_uniq (c := c) (ps := Txt.split (Txt.slice x none (some (-1))) ⟨#[c]⟩ ++ [Str.empty]) (by simp) (fun p hp => by
    rcases List.mem_append.mp hp with h' | h'
    · exact StrLaws.split_free _ c p h'
    · rw [List.mem_singleton.mp h']
      exact fun z => by cases z)
  rw [join_snoc c hn, StrLaws.join_split, e2] at this
  exact this
/-- a text that ends otherwise: its last row has signs -/
theorem last_row {x : Str} {c : Nat} (h0 : x ≠ Str.empty) (he : (cl x)[x.length - 1]? ≠ some c) : (Txt.split x ⟨#[c]⟩).getLast? ≠ some Str.empty := by
  intro hl
  have e := StrLaws.join_split x ⟨#[c]⟩
  obtain ⟨ps, hp⟩ : ∃ ps, Txt.split x ⟨#[c]⟩ = ps ++ [Str.empty] := by
    have := List.getLast?_eq_some_iff.mp hl
    exact this
  rw [hp] at e
  cases ps with
  | nil => exact h0 e.symm
  | cons q r =>
    rw [join_snoc c (by simp)] at e
    apply he
    rw [← e, cl_app]
    have e1 : (Str.join ⟨#[c]⟩ (q :: r) ++ ⟨#[c]⟩).length - 1 = (cl (Str.join ⟨#[c]⟩ (q :: r))).length := by
      rw [Str.length_append, cl_len]
      rfl
    rw [e1, List.getElem?_append_right (Nat.le_refl _), Nat.sub_self]
    rfl
/-! ### ' by ' -/
abbrev sBy : Str := ⟨#[32, 98, 121, 32]⟩
theorem cl_by (p q : Str) : cl (p ++ sBy ++ q) = (cl p ++ [32]) ++ 98 :: (121 :: 32 :: cl q) := by
  rw [cl_app, cl_app]
  show cl p ++ [32, 98, 121, 32] ++ cl q = _
  simp
theorem at_by (s0 s1 : Str) : StrLaws.At (s0 ++ sBy ++ s1) sBy (s0 ++ sBy ++ s1).length s0.length := by
  refine ⟨?_, ?_⟩
  · simp only [Str.length_append]
    omega
  · rw [StrLaws.subAt_eq]
    have : ((cl (s0 ++ sBy ++ s1)).drop s0.length).take sBy.length = [32, 98, 121, 32] := by
      rw [cl_by, ← cl_len]
      simp [Str.length]
    rw [show (s0 ++ sBy ++ s1).cps.toList = cl (s0 ++ sBy ++ s1) from rfl, this]
    rfl
theorem split_by2 {s0 s1 : Str} (h0 : 98 ∉ cl s0) (h1 : 98 ∉ cl s1) : Txt.split (s0 ++ sBy ++ s1) sBy = [s0, s1] := by
  generalize hx : s0 ++ sBy ++ s1 = x
  have hA : StrLaws.At x sBy x.length s0.length := hx ▸ at_by s0 s1
  have hj := StrLaws.join_split x sBy
  match hs : Txt.split x sBy with
  | [] => exact absurd hs (split_ne _ _)
  | [p] =>
    exfalso
    have e : p = x := by rw [hs] at hj; exact hj
    unfold Txt.split at hs
    obtain ⟨f, hG, hn⟩ := StrLaws.occ_tight x sBy (by decide)
    split at hs
    · rename_i hc
      have hlen := hA.1
      have hk : Builtin.Str.strKind sBy = 1 := by decide +kernel
      rw [Bool.or_eq_true, decide_eq_true_eq, decide_eq_true_eq, hk] at hc
      have hk2 : 1 ≤ Builtin.Str.strKind x := by
        unfold Builtin.Str.strKind
        split
        · decide
        · split <;> decide
      omega
    · split at hs
      · rename_i he
        have e0 := List.isEmpty_iff.mp he
        rw [e0] at hG
        have ef : f = 0 := hG
        exact hn s0.length (by omega) hA
      · rename_i he
        rw [StrLaws.partsBetween_eq] at hs
        cases ho : Builtin.Str.occurrences x sBy 0 x.length (x.length + 1) with
        | nil => rw [ho] at he; exact he rfl
        | cons c r =>
          rw [ho] at hs
          obtain ⟨p', r', e'⟩ := StrLaws.partsFrom_ne x sBy.length (c + sBy.length) r
          have : StrLaws.partsFrom x sBy.length 0 (c :: r) = Builtin.Str.strSub x 0 c :: StrLaws.partsFrom x sBy.length (c + sBy.length) r := rfl
          rw [this, e'] at hs
          cases hs
  | p :: q :: r =>
    rw [hs] at hj
    have e : cl (p ++ sBy ++ Str.join sBy (q :: r)) = cl (s0 ++ sBy ++ s1) := by rw [hx]; exact congrArg cl hj
    rw [cl_by, cl_by] at e
    have nb : 98 ∉ cl s0 ++ [32] := by simp [h0]
    have hp : 98 ∉ cl p ++ [32] := by
      intro hm
      have c1 : ((cl p ++ [32]) ++ 98 :: (121 :: 32 :: cl (Str.join sBy (q :: r)))).count 98 = ((cl s0 ++ [32]) ++ 98 :: (121 :: 32 :: cl s1)).count 98 := by rw [e]
      rw [List.count_append (l₁ := cl p ++ [32]), List.count_append (l₁ := cl s0 ++ [32]), List.count_eq_zero_of_not_mem nb] at c1
      have c2 := List.count_pos_iff.mpr hm
      have c3 : (98 :: (121 :: 32 :: cl s1)).count 98 = 1 := by
        simp [List.count_cons, List.count_eq_zero_of_not_mem h1]
      have c4 : 1 ≤ (98 :: (121 :: 32 :: cl (Str.join sBy (q :: r)))).count 98 := by simp [List.count_cons]
      omega
    obtain ⟨e1, e2⟩ := mark_inj e hp nb
    have e3 : p = s0 := cl_ext (List.append_cancel_right e1)
    have e4 : cl (Str.join sBy (q :: r)) = cl s1 := by
      have := (List.cons.inj (List.cons.inj e2).2).2
      exact this
    cases r with
    | nil => rw [e3, show q = s1 from cl_ext e4]
    | cons q' r =>
      exfalso
      apply h1
      rw [← e4]
      show 98 ∈ cl (q ++ sBy ++ Str.join sBy (q' :: r))
      rw [cl_by]
      simp
end K85

/-! law k85: what a line's text tells, read both ways. Behind K85a. -/
namespace K85
open PySem L2
theorem app_assoc (a b c : Str) : a ++ b ++ c = a ++ (b ++ c) := Str.append_assoc a b c
abbrev wBy : Str := "by"
abbrev wNone : Str := "none"
def fb : List Str → Nat
  | [] => 0
  | w :: ws => if w = wBy then 0 else fb ws + 1
theorem fb_at : ∀ {r : List Str}, wBy ∈ r → r[fb r]? = some wBy ∧ ∀ m, m < fb r → r[m]? ≠ some wBy
  | [], h => by cases h
  | w :: ws, h => by
    unfold fb
    by_cases e : w = wBy
    · rw [if_pos e, e]
      exact ⟨rfl, fun m hm => by omega⟩
    · rw [if_neg e]
      have h' : wBy ∈ ws := by
        rcases List.mem_cons.mp h with z | z
        · exact absurd z.symm e
        · exact z
      obtain ⟨h1, h2⟩ := fb_at h'
      refine ⟨h1, fun m hm => ?_⟩
      cases m with
      | zero => exact fun z => e (Option.some.inj z)
      | succ m => exact h2 m (by omega)
theorem fb_split {r : List Str} (h : wBy ∈ r) : r = r.take (fb r) ++ wBy :: r.drop (fb r + 1) := by
  obtain ⟨h1, _⟩ := fb_at h
  obtain ⟨hlt, hg⟩ := List.getElem?_eq_some_iff.mp h1
  conv => lhs; rw [← List.take_append_drop (fb r) r, List.drop_eq_getElem_cons hlt, hg]
theorem fb_app : ∀ {P M : List Str}, wBy ∉ P → fb (P ++ wBy :: M) = P.length
  | [], M, _ => by
    show (if wBy = wBy then 0 else fb M + 1) = 0
    rw [if_pos rfl]
  | w :: P, M, h => by
    show (if w = wBy then 0 else fb (P ++ wBy :: M) + 1) = P.length + 1
    rw [if_neg fun z => h (by rw [z]; exact List.mem_cons_self ..), fb_app fun z => h (List.mem_cons_of_mem _ z)]
theorem mem_first {m : Nat} : ∀ {l : List Nat}, m ∈ l → ∃ a b, l = a ++ m :: b ∧ m ∉ a
  | [], h => by cases h
  | c :: l, h => by
    by_cases e : c = m
    · exact ⟨[], l, by rw [e]; rfl, by simp⟩
    · have h' : m ∈ l := by
        rcases List.mem_cons.mp h with z | z
        · exact absurd z.symm e
        · exact z
      obtain ⟨a, b, e1, e2⟩ := mem_first h'
      exact ⟨c :: a, b, by rw [e1]; rfl, fun z => by
        rcases List.mem_cons.mp z with z | z
        · exact e z.symm
        · exact e2 z⟩
def dgs (l : List Nat) : Bool := l.all fun c => decide (48 ≤ c ∧ c ≤ 57)
def okN (t : Str) : Bool := decide (t.length ≠ 0 ∧ t.length ≤ 9) && (dgs (cl t) && (decide ((cl t)[0]? ≠ some 48) || decide (t = "0")))
def val (t : Str) : Int := ((NumText.digitsVal (cl t) : Nat) : Int)
def rn (t : Str) : Option Int := if okN t = true then some (val t) else none
def tail1 (t : Str) : Str := Txt.slice t (some 1) none
def ng (t : Str) : Bool := decide ((cl t)[0]? = some 45)
def rp (t : Str) : Option Int := match rn (if ng t = true then tail1 t else t) with
  | some n => if n = 0 then none else some (if ng t = true then -n else n)
  | none => none
def rl (t : Str) : Option (List Int) := if (Txt.split t ⟨#[45]⟩).length = 3 ∧ (Txt.split t ⟨#[45]⟩).all okN = true then some ((Txt.split t ⟨#[45]⟩).map val) else none
def rnD (t : Str) : Option Dt := (rn t).map Dt.int
def rpD (t : Str) : Option Dt := (rp t).map Dt.int
def rlD (t : Str) : Option Dt := (rl t).map dRow
def mp (f : Str → Option Dt) : List Str → Option (List Dt)
  | [] => some []
  | w :: ws => match f w, mp f ws with
    | some a, some r => some (a :: r)
    | _, _ => none
def many (f : Str → Option Dt) (ws : List Str) : Option (List Dt) := if ws = [wNone] then some [] else if ws = [] then none else mp f ws
def pcs (t : Str) : List Str := if t = wNone then [] else Txt.split t ⟨#[32]⟩
theorem mp_pcs (f : Str → Option Dt) (t : Str) : mp f (pcs t) = many f (Txt.split t ⟨#[32]⟩) := by
  unfold pcs many
  by_cases h : t = wNone
  · rw [if_pos h, if_pos]
    · rfl
    · have e := split_uniq (c := 32) (ps := [wNone]) (by simp) (by decide +kernel)
      rw [show Str.join ⟨#[32]⟩ [wNone] = wNone from rfl] at e
      rw [h, e]
  · rw [if_neg h, if_neg, if_neg (split_ne _ _)]
    intro e
    have := StrLaws.join_split t ⟨#[32]⟩
    rw [e] at this
    exact h this.symm
theorem okN_dgs {t : Str} (h : okN t = true) : dgs (cl t) = true ∧ t.length ≠ 0 ∧ t.length ≤ 9 := by
  unfold okN at h
  rw [Bool.and_eq_true, Bool.and_eq_true, decide_eq_true_eq] at h
  exact ⟨h.2.1, h.1.1, h.1.2⟩
theorem dgs_mem {l : List Nat} (h : dgs l = true) {c : Nat} (hc : c ∈ l) : 48 ≤ c ∧ c ≤ 57 := of_decide_eq_true (List.all_eq_true.mp h c hc)
theorem nb_dgs {l : List Nat} (h : dgs l = true) : 98 ∉ l := fun hm => by
  have := dgs_mem h hm
  omega
theorem nb_rn {t : Str} {d : Dt} (h : rnD t = some d) : 98 ∉ cl t := by
  unfold rnD rn at h
  split at h
  · rename_i ho
    exact nb_dgs (okN_dgs ho).1
  · cases h
theorem nb_rp {t : Str} {d : Dt} (h : rpD t = some d) : 98 ∉ cl t := by
  unfold rpD rp at h
  cases e : rn (if ng t = true then tail1 t else t) with
  | none => rw [e] at h; cases h
  | some n =>
    have h1 : 98 ∉ cl (if ng t = true then tail1 t else t) := nb_rn (d := .int n) (by unfold rnD; rw [e]; rfl)
    by_cases hg : ng t = true
    · rw [if_pos hg] at h1
      have hs : cl (tail1 t) = (cl t).drop 1 := slice_from (j := 1) (by decide)
      rw [hs] at h1
      have h0 := of_decide_eq_true hg
      intro hm
      cases hl : cl t with
      | nil => rw [hl] at hm; cases hm
      | cons a l =>
        rw [hl] at hm h1 h0
        rcases List.mem_cons.mp hm with z | z
        · rw [← z] at h0
          have h0' : some 98 = some 45 := h0
          cases h0'
        · exact h1 z
    · rw [if_neg hg] at h1
      exact h1
theorem mem_join {c m : Nat} : ∀ {ps : List Str}, m ∈ cl (Str.join ⟨#[c]⟩ ps) → m = c ∨ ∃ p ∈ ps, m ∈ cl p
  | [], h => by cases h
  | [p], h => .inr ⟨p, List.mem_cons_self .., h⟩
  | p :: q :: r, h => by
    rw [cl_join] at h
    rcases List.mem_append.mp h with z | z
    · exact .inr ⟨p, List.mem_cons_self .., z⟩
    · rcases List.mem_cons.mp z with z | z
      · exact .inl z
      · rcases mem_join z with z | ⟨p', h', z⟩
        · exact .inl z
        · exact .inr ⟨p', List.mem_cons_of_mem _ h', z⟩
theorem nb_rl {t : Str} {d : Dt} (h : rlD t = some d) : 98 ∉ cl t := by
  unfold rlD rl at h
  split at h
  · rename_i ho
    intro hm
    rw [← StrLaws.join_split t ⟨#[45]⟩] at hm
    rcases mem_join hm with z | ⟨p, hp, z⟩
    · exact absurd z (by decide)
    · exact nb_dgs (okN_dgs (List.all_eq_true.mp ho.2 p hp)).1 z
  · cases h
theorem nb_mp {f : Str → Option Dt} (hf : ∀ t d, f t = some d → 98 ∉ cl t) : ∀ {ws : List Str} {a : List Dt}, mp f ws = some a → ∀ w ∈ ws, 98 ∉ cl w
  | [], _, _, w, hw => by cases hw
  | w :: ws, a, h, v, hv => by
    unfold mp at h
    cases e1 : f w with
    | none => rw [e1] at h; cases h
    | some d =>
      cases e2 : mp f ws with
      | none => rw [e1, e2] at h; cases h
      | some r =>
        rcases List.mem_cons.mp hv with z | z
        · rw [z]; exact hf w d e1
        · exact nb_mp hf e2 v z
theorem nb_many {f : Str → Option Dt} (hf : ∀ t d, f t = some d → 98 ∉ cl t) {ws : List Str} {a : List Dt} (h : many f ws = some a) : ws ≠ [] ∧ ∀ w ∈ ws, 98 ∉ cl w := by
  unfold many at h
  split at h
  · rename_i e
    subst e
    exact ⟨by simp, by decide +kernel⟩
  · split at h
    · cases h
    · rename_i e
      exact ⟨e, nb_mp hf h⟩
def fk (k : Str) : Str → Option Dt := if k = "learnt" then rnD else rlD
theorem nb_fk (k : Str) : ∀ t d, fk k t = some d → 98 ∉ cl t := by
  intro t d h
  unfold fk at h
  split at h
  · exact nb_rn h
  · exact nb_rl h
def mk (k : Str) (a b : List Dt) : Dt := .tup [.str k, .tup a, .tup b]
def isK (k : Str) : Bool := decide (k = "learnt") || decide (k = "equal")
/-- the words' way: the first by parts them -/
def lawL (x : Str) : Option Dt := match Txt.split x ⟨#[32]⟩ with
  | [] => none
  | k :: r => if isK k = true ∧ wBy ∈ r then
      match many rpD (r.take (fb r)), many (fk k) (r.drop (fb r + 1)) with
      | some a, some b => some (mk k a b)
      | _, _ => none
    else none
/-- the program's way -/
def progL (x : Str) : Option Dt := match Txt.split x sBy with
  | [s0, s1] => match mp rpD (pcs (Txt.partition s0 ⟨#[32]⟩).2.2) with
    | none => none
    | some a => if isK (Txt.partition s0 ⟨#[32]⟩).1 = true then (mp (fk (Txt.partition s0 ⟨#[32]⟩).1) (pcs s1)).map (mk (Txt.partition s0 ⟨#[32]⟩).1 a) else none
  | _ => none
theorem part_no {s : Str} (h : 32 ∉ cl s) : Txt.partition s ⟨#[32]⟩ = (s, Str.empty, Str.empty) := by
  have e := StrLaws.found_one s 32
  rw [decide_eq_false h] at e
  unfold Txt.partition
  cases ho : Builtin.Str.occurrences s ⟨#[32]⟩ 0 s.length 1 with
  | nil => rfl
  | cons i r => rw [ho] at e; cases e
theorem part_yes {h r : Str} (hh : 32 ∉ cl h) : Txt.partition (h ++ ⟨#[32]⟩ ++ r) ⟨#[32]⟩ = (h, ⟨#[32]⟩, r) := by
  generalize hx : h ++ ⟨#[32]⟩ ++ r = x
  have hcl : cl x = cl h ++ 32 :: cl r := by
    rw [← hx, cl_app, cl_app, List.append_assoc]
    rfl
  have e := StrLaws.found_one x 32
  rw [decide_eq_true (by rw [show x.cps.toList = cl x from rfl, hcl]; simp)] at e
  have hsum := StrLaws.partition_sum x ⟨#[32]⟩
  have hd0 := StrLaws.occ_head x ⟨#[32]⟩ 1 (Nat.le_refl 1)
  unfold Txt.partition at hsum ⊢
  cases ho : Builtin.Str.occurrences x ⟨#[32]⟩ 0 x.length 1 with
  | nil => rw [ho] at e; cases e
  | cons i l =>
    rw [ho] at hsum hd0
    have hd : StrLaws.At x ⟨#[32]⟩ x.length i ∧ ∀ k, k < i → ¬ StrLaws.At x ⟨#[32]⟩ x.length k := by
      rcases hd0 with ⟨z, _⟩ | ⟨i', r', e', h1, h2⟩
      · cases z
      · cases e'
        exact ⟨h1, h2⟩
    have hnb : 32 ∉ cl (Builtin.Str.strSub x 0 i) := by
      refine StrLaws.part_free x 32 0 i ?_ fun k _ hk => ?_
      · have := hd.1.1
        omega
      · exact hd.2 k hk
    have hs : cl (Builtin.Str.strSub x 0 i) ++ 32 :: cl (Builtin.Str.strSub x (i + (⟨#[32]⟩ : Str).length) x.length) = cl h ++ 32 :: cl r := by
      rw [← hcl]
      have := congrArg cl hsum
      simp only [cl_app] at this
      rw [← this, List.append_assoc]
      rfl
    obtain ⟨e1, e2⟩ := mark_inj hs hnb hh
    show (Builtin.Str.strSub x 0 i, (⟨#[32]⟩ : Str), Builtin.Str.strSub x (i + (⟨#[32]⟩ : Str).length) x.length) = _
    rw [cl_ext e1, cl_ext e2]
theorem part_cases (s : Str) : (32 ∉ cl s ∧ Txt.partition s ⟨#[32]⟩ = (s, Str.empty, Str.empty)) ∨ ∃ h r, s = h ++ ⟨#[32]⟩ ++ r ∧ 32 ∉ cl h ∧ Txt.partition s ⟨#[32]⟩ = (h, ⟨#[32]⟩, r) := by
  by_cases hs : 32 ∈ cl s
  · obtain ⟨a, b, e, hn⟩ : ∃ a b, cl s = a ++ 32 :: b ∧ 32 ∉ a := by
      obtain ⟨a, b, e, hn⟩ := mem_first hs
      exact ⟨a, b, e, hn⟩
    have e2 : s = ⟨a.toArray⟩ ++ ⟨#[32]⟩ ++ ⟨b.toArray⟩ := by
      apply cl_ext
      rw [cl_app, cl_app, e]
      simp [cl]
    refine .inr ⟨⟨a.toArray⟩, ⟨b.toArray⟩, e2, by simpa [cl] using hn, ?_⟩
    rw [e2]
    exact part_yes (by simpa [cl] using hn)
  · exact .inl ⟨hs, part_no hs⟩
theorem join_app {c : Nat} : ∀ {ps qs : List Str}, ps ≠ [] → qs ≠ [] → Str.join ⟨#[c]⟩ (ps ++ qs) = Str.join ⟨#[c]⟩ ps ++ ⟨#[c]⟩ ++ Str.join ⟨#[c]⟩ qs
  | [], _, h, _ => absurd rfl h
  | [p], q :: qs, _, _ => rfl
  | [p], [], _, h => absurd rfl h
  | p :: p' :: r, qs, _, h => by
    show p ++ ⟨#[c]⟩ ++ Str.join ⟨#[c]⟩ ((p' :: r) ++ qs) = p ++ ⟨#[c]⟩ ++ Str.join ⟨#[c]⟩ (p' :: r) ++ ⟨#[c]⟩ ++ Str.join ⟨#[c]⟩ qs
    rw [join_app (ps := p' :: r) (by simp) h]
    simp only [app_assoc]
theorem by_eq : (⟨#[32]⟩ : Str) ++ (wBy ++ ⟨#[32]⟩) = sBy := by decide +kernel
theorem join_line {k : Str} {Ps Ms : List Str} (hP : Ps ≠ []) (hM : Ms ≠ []) : Str.join ⟨#[32]⟩ (k :: (Ps ++ wBy :: Ms)) = (k ++ ⟨#[32]⟩ ++ Str.join ⟨#[32]⟩ Ps) ++ sBy ++ Str.join ⟨#[32]⟩ Ms := by
  have e1 : Str.join ⟨#[32]⟩ (k :: (Ps ++ wBy :: Ms)) = Str.join ⟨#[32]⟩ [k] ++ ⟨#[32]⟩ ++ Str.join ⟨#[32]⟩ (Ps ++ wBy :: Ms) := join_app (ps := [k]) (qs := Ps ++ wBy :: Ms) (by simp) (by simp)
  have e2 : Str.join ⟨#[32]⟩ (wBy :: Ms) = Str.join ⟨#[32]⟩ [wBy] ++ ⟨#[32]⟩ ++ Str.join ⟨#[32]⟩ Ms := join_app (ps := [wBy]) (qs := Ms) (by simp) hM
  rw [e1, join_app hP (by simp), e2, ← by_eq]
  show k ++ _ ++ (_ ++ _ ++ (wBy ++ _ ++ _)) = _
  simp only [app_assoc]
theorem isK_nb {k : Str} (h : isK k = true) : 98 ∉ cl k ∧ 32 ∉ cl k ∧ k ≠ wBy := by
  unfold isK at h
  rw [Bool.or_eq_true, decide_eq_true_eq, decide_eq_true_eq] at h
  rcases h with rfl | rfl
  · decide +kernel
  · decide +kernel
theorem by_98 : 98 ∈ cl wBy := by decide +kernel
theorem by_32 : 32 ∉ cl wBy := by decide +kernel
theorem rp_empty : rpD Str.empty = none := by decide +kernel
theorem law_prog {x : Str} {d : Dt} (h : lawL x = some d) : progL x = some d := by
  unfold lawL at h
  cases hw : Txt.split x ⟨#[32]⟩ with
  | nil => rw [hw] at h; cases h
  | cons k r =>
    rw [hw] at h
    dsimp only at h
    split at h
    · rename_i hc
      obtain ⟨hk, hb⟩ := hc
      generalize hPs : r.take (fb r) = Ps at h
      generalize hMs : r.drop (fb r + 1) = Ms at h
      cases ha : many rpD Ps with
      | none => rw [ha] at h; cases h
      | some a =>
        cases hm : many (fk k) Ms with
        | none => rw [ha, hm] at h; cases h
        | some b =>
          rw [ha, hm] at h
          cases h
          obtain ⟨p1, p2⟩ := nb_many (fun t d => nb_rp) ha
          obtain ⟨m1, m2⟩ := nb_many (nb_fk k) hm
          obtain ⟨k1, k2, k3⟩ := isK_nb hk
          have er : r = Ps ++ wBy :: Ms := by
            rw [← hPs, ← hMs]
            exact fb_split hb
          have free := StrLaws.split_free x 32
          rw [hw, er] at free
          have hx : x = (k ++ ⟨#[32]⟩ ++ Str.join ⟨#[32]⟩ Ps) ++ sBy ++ Str.join ⟨#[32]⟩ Ms := by
            have := StrLaws.join_split x ⟨#[32]⟩
            rw [hw, er, join_line p1 m1] at this
            exact this.symm
          have nP : 98 ∉ cl (Str.join ⟨#[32]⟩ Ps) := fun hm => by
            rcases mem_join hm with z | ⟨p, hp, z⟩
            · exact absurd z (by decide)
            · exact p2 p hp z
          have nM : 98 ∉ cl (Str.join ⟨#[32]⟩ Ms) := fun hm => by
            rcases mem_join hm with z | ⟨p, hp, z⟩
            · exact absurd z (by decide)
            · exact m2 p hp z
          have n0 : 98 ∉ cl (k ++ ⟨#[32]⟩ ++ Str.join ⟨#[32]⟩ Ps) := by
            rw [cl_app, cl_app]
            intro hm
            rcases List.mem_append.mp hm with z | z
            · rcases List.mem_append.mp z with z | z
              · exact k1 z
              · exact absurd z (by decide)
            · exact nP z
          unfold progL
          rw [hx, split_by2 n0 nM]
          dsimp only
          rw [part_yes k2]
          dsimp only
          rw [mp_pcs, mp_pcs, split_uniq p1 (fun p hp => free p (by simp [hp])), split_uniq m1 (fun p hp => free p (by simp [hp])), ha, hm]
          dsimp only
          rw [if_pos hk]
          rfl
    · cases h
theorem prog_law {x : Str} {d : Dt} (h : progL x = some d) : lawL x = some d := by
  unfold progL at h
  have hj := StrLaws.join_split x sBy
  match hs : Txt.split x sBy with
  | [] => rw [hs] at h; cases h
  | [_] => rw [hs] at h; cases h
  | _ :: _ :: _ :: _ => rw [hs] at h; cases h
  | [s0, s1] =>
    rw [hs] at h hj
    dsimp only at h
    rw [mp_pcs] at h
    rcases part_cases s0 with ⟨_, hp⟩ | ⟨k, r, e0, k2, hp⟩
    · rw [hp] at h
      dsimp only at h
      have es : Txt.split Str.empty ⟨#[32]⟩ = [Str.empty] := split_uniq (c := 32) (ps := [Str.empty]) (by simp) (by decide +kernel)
      have em : many rpD [Str.empty] = none := by
        unfold many
        rw [if_neg (show ¬ [Str.empty] = [wNone] by decide +kernel), if_neg (by simp)]
        unfold mp
        rw [rp_empty]
      rw [es, em] at h
      cases h
    · rw [hp] at h
      dsimp only at h
      rw [mp_pcs] at h
      have fP := StrLaws.split_free r 32
      have fM := StrLaws.split_free s1 32
      have jP := StrLaws.join_split r ⟨#[32]⟩
      have jM := StrLaws.join_split s1 ⟨#[32]⟩
      generalize Txt.split r ⟨#[32]⟩ = Ps at h fP jP
      generalize Txt.split s1 ⟨#[32]⟩ = Ms at h fM jM
      cases ha : many rpD Ps with
      | none => rw [ha] at h; cases h
      | some a =>
        rw [ha] at h
        dsimp only at h
        split at h
        · rename_i hk
          cases hm : many (fk k) Ms with
          | none => rw [hm] at h; cases h
          | some b =>
            rw [hm] at h
            have ed : mk k a b = d := Option.some.inj h
            obtain ⟨p1, p2⟩ := nb_many (fun t d => nb_rp) ha
            obtain ⟨m1, m2⟩ := nb_many (nb_fk k) hm
            have hx : x = Str.join ⟨#[32]⟩ (k :: (Ps ++ wBy :: Ms)) := by
              rw [join_line p1 m1, jP, jM, ← e0]
              exact hj.symm
            have hw : Txt.split x ⟨#[32]⟩ = k :: (Ps ++ wBy :: Ms) := by
              rw [hx]
              refine split_uniq (by simp) fun p hp => ?_
              rcases List.mem_cons.mp hp with z | z
              · rw [z]; exact k2
              · rcases List.mem_append.mp z with z | z
                · exact fP p z
                · rcases List.mem_cons.mp z with z | z
                  · rw [z]; exact by_32
                  · exact fM p z
            have hnb : wBy ∉ Ps := fun hm' => p2 _ hm' by_98
            have hi : fb (Ps ++ wBy :: Ms) = Ps.length := fb_app hnb
            unfold lawL
            rw [hw]
            dsimp only
            rw [if_pos ⟨hk, by simp⟩, hi, List.take_left, List.drop_append]
            rw [show Ps.drop (Ps.length + 1) = [] from List.drop_eq_nil_of_le (by omega), show Ps.length + 1 - Ps.length = 1 by omega]
            show (match many rpD Ps, many (fk k) Ms with | some a, some b => some (mk k a b) | _, _ => none) = some d
            rw [ha, hm, ← ed]
        · cases h
theorem line_eq (x : Str) : progL x = lawL x := by
  cases h : lawL x with
  | some d => exact law_prog h
  | none =>
    cases h' : progL x with
    | none => rfl
    | some d => rw [prog_law h'] at h; cases h
end K85

/-! law k85: what the program reads. Behind K85b. -/
namespace K85
open PySem L2
def top (i : Nat) : Stmt := PySem.Challenge.pw_yesorno_k85_papers_read.main.body.getD i (.Pass ⟨0, 0, 0, 0⟩)
abbrev s_read_number : Stmt := top 6
abbrev s_read_part : Stmt := top 7
abbrev s_read_link : Stmt := top 8
abbrev s_pieces_of : Stmt := top 9
abbrev s_read_line : Stmt := top 10
abbrev s_read_paper : Stmt := top 11
abbrev s__law_mix : Stmt := top 13
abbrev s__law_whole : Stmt := top 14
abbrev s__law_cell_at : Stmt := top 15
abbrev s__law_sign_by : Stmt := top 16
abbrev s__law_odd : Stmt := top 17
abbrev s__law_figure : Stmt := top 18
abbrev s__law_row : Stmt := top 19
abbrev s__law_number : Stmt := top 20
abbrev s__law_many : Stmt := top 21
abbrev s__law_due : Stmt := top 22
abbrev s__law_kinds : Stmt := top 23
abbrev s__law_refused : Stmt := top 24
abbrev s_law : Stmt := top 25
abbrev bmV : List Value := [.type "ValueError", .type "Exception", .type "BaseException", .type "object"]
abbrev figs : Str := "0123456789"
structure Txt (K : PySem.W.Frag) (mg : Str → Option Value) (CB CE : Addr) : Prop where
  figures : ∃ t, mg "FIGURES" = some (.str figs t)
  most : ∃ t, mg "MOST_FIGURES" = some (.int 9 t)
  bp : mg "BadPaper" = some (.ref CB)
  ce : mg "ChoiceError" = some (.ref CE)
  xp : PySem.W.excIn K CB bmV "ValueError.__new__" = true
  len : mg "len" = none
  all : mg "all" = none
  int : mg "int" = none
  tuple : mg "tuple" = none
  isi : mg "isinstance" = none
  bool : mg "bool" = none
  list : mg "list" = none
  str : mg "str" = none
  range : mg "range" = none
  min : mg "min" = none
theorem szM {n : Nat} (h : n ≤ 16000000) : n ≤ sizeLine := Nat.le_trans h (by rw [sizeLine_eq]; decide)
structure Lw (z : Str) : Prop where
  ln : z.length ≤ 20000
  lo : ∀ c ∈ cl z, c < 1000
theorem Lw.repr {z : Str} (h : Lw z) : (reprText z).length ≤ 200002 := by
  have := StrLaws.reprText_len z fun c hc => Nat.lt_of_lt_of_le (h.lo c hc) (by decide)
  have := h.ln
  omega
theorem sub_mem {x : Str} {i j c : Nat} (h : c ∈ cl (Builtin.Str.strSub x i j)) : c ∈ cl x := by
  rw [show cl (Builtin.Str.strSub x i j) = _ from StrLaws.strSub_toList x i j] at h
  exact List.mem_of_mem_drop (List.mem_of_mem_take h)
theorem Lw.sub {x : Str} (h : Lw x) (i j : Nat) : Lw (Builtin.Str.strSub x i j) := ⟨Nat.le_trans (strSub_length_le x i j) h.ln, fun c hc => h.lo c (sub_mem hc)⟩
theorem Lw.split {x y p : Str} (h : Lw x) (hp : p ∈ PySem.Txt.split x y) : Lw p := by
  unfold PySem.Txt.split at hp
  split at hp
  · rw [List.mem_singleton.mp hp]; exact h
  · split at hp
    · rw [List.mem_singleton.mp hp]; exact h
    · unfold Builtin.Str.partsBetween at hp
      obtain ⟨q, _, rfl⟩ := List.mem_map.mp hp
      exact h.sub _ _
theorem Lw.slice_from {x : Str} (h : Lw x) : Lw (tail1 x) := ⟨Nat.le_trans (PySem.Txt.slice_le x _ _) h.ln, fun c hc => h.lo c (by
  rw [show cl (tail1 x) = (cl x).drop 1 from K85.slice_from (j := 1) (by decide)] at hc
  exact List.mem_of_mem_drop hc)⟩
theorem Lw.slice_last {x : Str} (h : Lw x) (h1 : 1 ≤ x.length) : Lw (PySem.Txt.slice x none (some (-1))) := ⟨Nat.le_trans (PySem.Txt.slice_le x _ _) h.ln, fun c hc => h.lo c (by
  rw [K85.slice_last h1] at hc
  exact List.mem_of_mem_take hc)⟩
theorem Lw.empty : Lw Str.empty := ⟨by decide, fun c hc => by cases hc⟩
theorem Lw.part {x : Str} (h : Lw x) (y : Str) : Lw (PySem.Txt.partition x y).1 ∧ Lw (PySem.Txt.partition x y).2.2 := by
  unfold PySem.Txt.partition
  cases Builtin.Str.occurrences x y 0 x.length 1 with
  | nil => exact ⟨h, Lw.empty⟩
  | cons i r => exact ⟨h.sub _ _, h.sub _ _⟩
theorem e45 : ("-" : Str) = ⟨#[45]⟩ := by decide +kernel
theorem e32 : (" " : Str) = ⟨#[32]⟩ := by decide +kernel
theorem e10 : ("\n" : Str) = ⟨#[10]⟩ := by decide +kernel
theorem eBy : (" by " : Str) = sBy := by decide +kernel
theorem cl_figs : cl figs = [48, 49, 50, 51, 52, 53, 54, 55, 56, 57] := by decide +kernel
theorem in_figs (c : Nat) : (!(Builtin.Str.occurrences figs ⟨#[c]⟩ 0 figs.length 1).isEmpty) = decide (48 ≤ c ∧ c ≤ 57) := by
  rw [StrLaws.found_one, show figs.cps.toList = cl figs from rfl, cl_figs]
  refine decide_eq_decide.mpr ⟨fun h => ?_, fun h => ?_⟩
  · simp only [List.mem_cons, List.not_mem_nil, or_false] at h
    omega
  · simp only [List.mem_cons, List.not_mem_nil, or_false]
    omega
theorem wk_str {z : Str} : Wk (Its z) z.length (fun _ => True) := ⟨fun _ _ _ h => h, fun _ _ _ h => h⟩
/-- what is told of a text: a datum, or the refusal -/
def ans (K : PySem.W.Frag) (CB : Addr) (o : Option Dt) (H : Hp) (Q : VK) (E : XK) : Prop := match o with
  | some d => ∀ v H', Same H H' → Has K H' d v → Q v H'
  | none => ∀ H', Same H H' → E (.ref CB) none H'
theorem ans.same {K : PySem.W.Frag} {CB : Addr} {o : Option Dt} {H H1 : Hp} {Q : VK} {E : XK} (h : ans K CB o H Q E) (s : Same H H1) : ans K CB o H1 Q E := by
  cases o with
  | none => exact fun H' s' => h H' (s.trans s')
  | some d => exact fun v H' s' hv => h v H' (s.trans s') hv
def sp1 (K : PySem.W.Frag) (CB : Addr) (f : Str → Option Dt) : Sp := fun vs H Q E => ∃ t : Str, vs = [.str t] ∧ Lw t ∧ ans K CB (f t) H Q E
theorem raise2 {E : XK} {CB : Addr} {i : Nat} {s z : Str} {D : Ends} {σ : St} {H : Hp} (hs : s.length ≤ 1000) (hi : σ[i]? = some (some (.str z))) (lw : Lw z) (he : E (.ref CB) none H) : tRaise E CB (tCons (tJoined (jCons (tRepr (tVar i)) (jCons (tC (.str s)) jNil))) tNil) D σ H := by
  have hr := lw.repr
  have c0 : Str.empty.length = 0 := rfl
  refine ⟨_, hi, z, rfl, szM (by omega), _, rfl, szM (by rw [len_app, c0]; omega), _, rfl, szM (by simp only [len_app, c0]; omega), szM (by simp only [len_app, c0]; omega), (by show 1 ≤ sizeLine; decide), he⟩
section
variable {P : Program} {w : World} {K : PySem.W.Frag} {mg : Str → Option Value} {base : Heap} {CB CE : Addr} {f fA fB fC fD : Addr} {fd dA dB dC dD : FuncData}
theorem Fun.okX {x qual : Str} {st : Stmt} {f : Addr} {fd : FuncData} {N ps : List Str} {k : Nat} {sp : Sp} (F : Fun K x qual st f fd) (S : FnScope N ps (defScope st)) (len : ∀ vs H Q E, sp vs H Q E → vs.length = ps.length)
    (hbody : ∀ (cdv : Value) (A : Around) (outer : List Env) (s : Shared) (H : Hp) (vs : List V) (Q : VK) (E : XK), Room k (A.deeper (PyProof.Rows.envOfC qual (defScope st) s.heap.objs.size f cdv)) → sp vs H Q E →
      ∃ t, PSs (cxOf (CX1 P w) P w K mg base N qual (defScope st) f cdv A outer s H E) (defBody st) t ∧ t { nx := fun _ H' => Q .non H', rt := Q } (start N vs) H) : FnOk P w K mg base (CX1 P w) (k + 1) f fd ps sp := by
  obtain ⟨oc, od, kV, doc, pm, an, cdv, ct, osl, rfl, lk, hcd⟩ := F.ex
  exact fn_of lk hcd S len fun A outer s H vs Q E hr hsp => hbody cdv A outer s H vs Q E hr hsp
theorem xe1 {N : List Str} {qual : Str} {scope : Scope} {f : Addr} {cd : Value} {A : Around} {outer : List Env} {s : Shared} {H : Hp} {E : XK} : Xe1 (cxOf (CX1 P w) P w K mg base N qual scope f cd A outer s H E) E := ⟨rfl, rfl, rfl, rfl⟩
/-! ### read_number -/
theorem sc_read_number : FnScope ["text"] ["text"] (defScope s_read_number) := ⟨rfl, rfl, rfl, by decide +kernel, rfl, by decide +kernel, by decide +kernel⟩
theorem okN_no {t : Str} (h : okN t = false) : rnD t = none := by
  unfold rnD rn
  rw [h]
  rfl
theorem okN_yes {t : Str} (h : okN t = true) : rnD t = some (.int (val t)) := by
  unfold rnD rn
  rw [h]
  rfl
theorem int_ok {t : Str} (h : okN t = true) : PySem.intText? t = some (val t) ∧ t.length ≤ 640 := by
  obtain ⟨h1, h2, h3⟩ := okN_dgs h
  refine ⟨PySem.intText_digits (x := t) (fun c hc => dgs_mem h1 hc) (fun e => h2 ?_) (by omega), by omega⟩
  rw [← cl_len, show cl t = [] from e]
  rfl
theorem ok_number (F : Fun K "read_number" "read_number" s_read_number f fd) (T : Txt K mg CB CE) : FnOk P w K mg base (CX1 P w) 1 f fd ["text"] (sp1 K CB rnD) := by
  obtain ⟨t1, e1⟩ := T.figures
  obtain ⟨t2, e2⟩ := T.most
  refine Fun.okX F sc_read_number (fun vs H Q E h => ?_) (fun cdv A outer s H vs Q E hr h => ?_)
  · obtain ⟨t, rfl, _⟩ := h
    rfl
  obtain ⟨t, rfl, lw, q⟩ := h
  have ln := lw.ln
  refine ⟨_, (pss_cons (ps_if (PW.pt (pw_or (pt_cmpR op_eq (pe_callB call_len_str rfl T.len PySem.boot_len (pa_cons (pv 0) pa_nil)) pe_int (nomark _)) (pw_or (pt_cmpR op_gt (pe_callB call_len_str rfl T.len PySem.boot_len (pa_cons (pv 0) pa_nil)) (pe_glob (v := .int 9) rfl e2 ⟨_, rfl⟩) (nomark _)) (pw_or1 (pt_not (pt_val (pe_callB (call_all_bools rfl) rfl T.all PyProof.Rows.Boot.all (pa_cons (pe_lc (N' := ["sign"]) (ix := []) rfl rfl (by decide +kernel) (by decide +kernel) rfl (fun _ => ⟨[], clo_none (by decide +kernel) (by decide +kernel)⟩) (by decide +kernel) rfl rfl (fun j i h => by simp at h) (pi_str (pv 0)) (fun _ _ _ _ => (pe_cmpR op_in_str (pv 0) (pe_glob (v := .str figs) rfl e1 ⟨_, rfl⟩) rfl))) pa_nil))))))))
      (pss_one (ps_raise (C := CB) xe1 rfl rfl T.bp PySem.F.excBase_ValueError T.xp (pa_cons (pe_joined (pj_cons (pe_fvr (pv 0)) (pj_cons pe_str (pj_cons (pe_fv (pe_glob (v := .int 9) rfl e2 ⟨_, rfl⟩)) (pj_cons pe_str pj_nil))))) pa_nil)))
      pss_nil)
    (pss_cons (ps_if (PW.pt (pw_and (pt_cmpR op_eq (pe_ix ix_str (pv 0) pe_int (fun _ _ => rfl)) pe_str (nomark _)) (pw_and1 (pt_cmpR op_ne (pv 0) pe_str (nomark _)))))
      (pss_one (ps_raise (C := CB) xe1 rfl rfl T.bp PySem.F.excBase_ValueError T.xp (pa_cons (pe_joined (pj_cons (pe_fvr (pv 0)) (pj_cons pe_str pj_nil))) pa_nil)))
      pss_nil)
    (pss_one (ps_ret (pe_callTy call_int_text rfl T.int PyProof.Rows.Boot.int (pa_cons (pv 0) pa_nil)))))), ?_⟩
  have hr' := lw.repr
  have r1 : ∀ (H1 : Hp) (D : Ends), Same H H1 → okN t = false → tRaise E CB (tCons (tJoined (jCons (tRepr (tVar 0)) (jCons (tC (.str " is no number from 0 on of at most ")) (jCons (tFmt (tC (.int 9))) (jCons (tC (.str " figures")) jNil))))) tNil) D [some (.str t)] H1 := by
    intro H1 D s1 ho
    rw [okN_no ho] at q
    have c0 : Str.empty.length = 0 := rfl
    have d1 : ((" is no number from 0 on of at most " : Str)).length ≤ 100 := by decide +kernel
    have d2 : ((" figures" : Str)).length ≤ 100 := by decide +kernel
    have d3 : ((toString (9 : Int) : String) : Str).length ≤ 10 := int_len9 (by decide)
    exact ⟨_, rfl, t, rfl, szM (by omega), _, rfl, szM (by rw [len_app, c0]; omega), _, rfl, szM (by simp only [len_app, c0]; omega), .inr ⟨9, rfl, by decide, _, rfl, szM (by simp only [len_app, c0]; omega), _, rfl, szM (by simp only [len_app, c0]; omega), szM (by simp only [len_app, c0]; omega), (by show 1 ≤ sizeLine; decide), q H1 s1⟩⟩
  refine ⟨_, rfl, t, rfl, szM (by omega), rfl, _, rfl, ite2 (fun c => iteT ?_) (fun c => ?_)⟩
  · refine r1 H _ (Same.refl H) ?_
    have c' := of_decide_eq_true c
    injection c' with c'
    unfold okN
    rw [decide_eq_false (by omega), Bool.false_and]
  refine ⟨_, rfl, t, rfl, szM (by omega), _, _, rfl, rfl, _, rfl, ite2 (fun c2 => iteT ?_) (fun c2 => ?_)⟩
  · refine r1 H _ (Same.refl H) ?_
    have c' := of_decide_eq_true c2
    unfold okN
    rw [decide_eq_false (by omega), Bool.false_and]
  have h0 : t.length ≠ 0 := fun e => c (by rw [e]; decide)
  have h9 : t.length ≤ 9 := by
    have : ¬ ((9 : Int) < (t.length : Int)) := fun z => c2 (decide_eq_true z)
    omega
  refine ⟨_, rfl, t, rfl, fun D hD => lc_by wk_str (fun i us H' => Same H H' ∧ us = ((((cl t).take i).map fun c => decide (48 ≤ c ∧ c ≤ 57))).map V.bl) (fun _ _ _ _ => trivial) ⟨sameNew hD _, rfl⟩ ?_ ?_⟩
  · rintro i us H8 x H4 hi hly hDs ⟨s4, rfl⟩ ⟨rfl, ch, hch, rfl⟩
    have hch' : (cl t)[i]? = some ch := by
      rw [← hch]
      simp [cl]
    refine ⟨_, rfl, _, _, rfl, rfl, lc_post (szM (by omega)) hi hly hDs ⟨s4.upd hD, ?_⟩⟩
    rw [in_figs, take_snoc hch', List.map_append, List.map_append]
    rfl
  rintro us H1 hDs ⟨s1, rfl⟩
  rw [List.take_of_length_le (by rw [cl_len]; omega)] at hDs
  refine ⟨D, _, rfl, SqL.of hDs, _, rfl, ?_⟩
  have ed : ((cl t).map fun c => decide (48 ≤ c ∧ c ≤ 57)).all id = dgs (cl t) := by
    unfold dgs
    rw [List.all_map]
    rfl
  rw [ed]
  refine ite2 (fun c3 => ?_) (fun c3 => ?_)
  · refine r1 H1 _ s1 ?_
    unfold okN
    have : dgs (cl t) = false := by
      cases h : dgs (cl t) with
      | false => rfl
      | true => rw [h] at c3; cases c3
    rw [this, Bool.false_and, Bool.and_false]
  have hdg : dgs (cl t) = true := by
    cases h : dgs (cl t) with
    | true => rfl
    | false => rw [h] at c3; exact absurd rfl c3
  obtain ⟨ch, hch⟩ : ∃ ch, (cl t)[0]? = some ch := ⟨(cl t)[0]'(by rw [cl_len]; omega), List.getElem?_eq_getElem _⟩
  have hat : atI (cl t) 0 = some ch := atI_nat (j := 0) hch
  have okE : okN t = (decide (ch ≠ 48) || decide (t = "0")) := by
    unfold okN
    rw [decide_eq_true ⟨h0, h9⟩, hdg, hch, Bool.true_and, Bool.true_and]
    congr 1
    refine decide_eq_decide.mpr ⟨fun h e => h (by rw [e]), fun h e => h (Option.some.inj e)⟩
  have e48 : ("0" : Str) = ⟨#[48]⟩ := by decide +kernel
  have last : okN t = true → tRet (tCB (fun xs H Q => ∃ z n, xs = [V.str z] ∧ PySem.intText? z = some n ∧ z.length ≤ 640 ∧ Q (.int n) H) (tCons (tVar 0) tNil)) { nx := fun _ H' => Q .non H', rt := Q } [some (.str t)] H1 := fun ho => by
    rw [okN_yes ho] at q
    obtain ⟨i1, i2⟩ := int_ok ho
    exact ⟨_, rfl, t, _, rfl, i1, i2, q _ H1 s1 .int⟩
  refine ⟨_, rfl, t, _, ch, rfl, rfl, szM (by omega), hat, rfl, _, rfl, ite2 (fun c4 => ?_) (fun c4 => iteF ?_)⟩
  · have hc : ch = 48 := by
      have := of_decide_eq_true c4
      rw [e48] at this
      injection this with this
      injection this with this
      simpa using this
    refine ⟨_, rfl, rfl, _, rfl, ite2 (fun c5 => ?_) (fun c5 => ?_)⟩
    · have ht : t ≠ "0" := fun e => by
        subst e
        exact absurd c5 (by decide +kernel)
      have ho : okN t = false := by
        rw [okE, hc, decide_eq_false ht]
        rfl
      rw [okN_no ho] at q
      exact raise2 (by decide +kernel) rfl lw (q H1 s1)
    · have ht : t = "0" := by
        by_cases e : t = "0"
        · exact e
        · refine absurd ?_ c5
          rw [decide_eq_false fun z => e (V.str.inj z)]
          rfl
      refine last ?_
      rw [okE, decide_eq_true ht, Bool.or_true]
  · have hc : ch ≠ 48 := fun e => c4 (by rw [e, e48]; decide)
    refine last ?_
    rw [okE, decide_eq_true hc, Bool.true_or]
end
end K85

/-! law k85: what the program reads, on. Behind K85c. -/
namespace K85
open PySem L2
theorem sw (t : Str) : PySem.Txt.startswith t "-" = ng t := by
  rw [e45]
  unfold PySem.Txt.startswith ng
  have h := StrLaws.subAt_one t 45 0
  rw [Bool.eq_iff_iff, Bool.and_eq_true, decide_eq_true_eq, decide_eq_true_eq]
  exact h
theorem ew {t : Str} (h1 : 1 ≤ t.length) : PySem.Txt.endswith t "\n" = decide ((cl t)[t.length - 1]? = some 10) := by
  rw [e10]
  unfold PySem.Txt.endswith
  have h := StrLaws.subAt_one t 10 (t.length - 1)
  rw [Bool.eq_iff_iff, Bool.and_eq_true, decide_eq_true_eq, decide_eq_true_eq, ← h]
  refine ⟨fun z => ⟨?_, z.2⟩, fun z => ⟨?_, z.2⟩⟩
  · show t.length - 1 + 1 ≤ t.length
    omega
  · show 0 + 1 ≤ t.length
    omega
theorem rp_eq (t : Str) : rpD t = match rn (if ng t = true then tail1 t else t) with
    | none => none
    | some n => if n = 0 then none else some (.int (if ng t = true then -n else n)) := by
  unfold rpD rp
  cases rn (if ng t = true then tail1 t else t) with
  | none => rfl
  | some n =>
    dsimp only
    split <;> rfl
theorem mp_none {f : Str → Option Dt} {w : Str} (hf : f w = none) : ∀ {ws : List Str}, w ∈ ws → mp f ws = none
  | [], h => by cases h
  | v :: ws, h => by
    unfold mp
    rcases List.mem_cons.mp h with z | z
    · rw [← z, hf]
    · rw [mp_none hf z]
      cases f v <;> rfl
theorem mp_snoc {f : Str → Option Dt} {w : Str} {d : Dt} (hf : f w = some d) : ∀ {ws : List Str} {ds : List Dt}, mp f ws = some ds → mp f (ws ++ [w]) = some (ds ++ [d])
  | [], ds, h => by
    cases h
    show (match f w, mp f [] with | some a, some r => some (a :: r) | _, _ => none) = _
    rw [hf]
    rfl
  | v :: ws, ds, h => by
    unfold mp at h
    show (match f v, mp f (ws ++ [w]) with | some a, some r => some (a :: r) | _, _ => none) = _
    cases e1 : f v with
    | none => rw [e1] at h; cases h
    | some a =>
      cases e2 : mp f ws with
      | none => rw [e1, e2] at h; cases h
      | some r =>
        rw [e1, e2] at h
        cases h
        rw [mp_snoc hf e2]
        rfl
theorem mp_nols {f : Str → Option Dt} (hf : ∀ t d, f t = some d → nol d = true) : ∀ {ws : List Str} {ds : List Dt}, mp f ws = some ds → nols ds = true
  | [], ds, h => by cases h; rfl
  | v :: ws, ds, h => by
    unfold mp at h
    cases e1 : f v with
    | none => rw [e1] at h; cases h
    | some a =>
      cases e2 : mp f ws with
      | none => rw [e1, e2] at h; cases h
      | some r =>
        rw [e1, e2] at h
        cases h
        simp only [nols, hf v a e1, mp_nols hf e2, Bool.and_self]
theorem nol_rn : ∀ t d, rnD t = some d → nol d = true := by
  intro t d h
  unfold rnD at h
  cases e : rn t with
  | none => rw [e] at h; cases h
  | some n => rw [e] at h; cases h; simp only [nol]
theorem nol_rp : ∀ t d, rpD t = some d → nol d = true := by
  intro t d h
  unfold rpD at h
  cases e : rp t with
  | none => rw [e] at h; cases h
  | some n => rw [e] at h; cases h; simp only [nol]
theorem nol_rl : ∀ t d, rlD t = some d → nol d = true := by
  intro t d h
  unfold rlD at h
  cases e : rl t with
  | none => rw [e] at h; cases h
  | some n => rw [e] at h; cases h; exact nol_dRow n
theorem nol_fk (k : Str) : ∀ t d, fk k t = some d → nol d = true := by
  intro t d h
  unfold fk at h
  split at h
  · exact nol_rn t d h
  · exact nol_rl t d h
theorem nol_progL : ∀ t d, progL t = some d → nol d = true := by
  intro t d h
  unfold progL at h
  split at h
  · split at h
    · cases h
    · rename_i a ha
      split at h
      · cases hb : mp (fk (PySem.Txt.partition _ ⟨#[32]⟩).1) (pcs _) with
        | none => rw [hb] at h; cases h
        | some b =>
          rw [hb] at h
          cases h
          simp only [mk, nol, nols, mp_nols nol_rp ha, mp_nols (nol_fk _) hb, Bool.and_self]
      · cases h
  · cases h
theorem mp_rn : ∀ ws : List Str, mp rnD ws = if ws.all okN = true then some (ws.map fun w => .int (val w)) else none
  | [] => rfl
  | w :: ws => by
    unfold mp
    rw [mp_rn ws, List.all_cons]
    cases ho : okN w with
    | false =>
      rw [okN_no ho]
      rfl
    | true =>
      rw [okN_yes ho, Bool.true_and]
      cases ws.all okN <;> rfl
theorem lcX_by {K : PySem.W.Frag} {te : TE} {fv : St} {H : Hp} {D a : Addr} {R : Hp → Prop} {E : XK} {CB : Addr} (ws : List Str) (f : Str → Option Dt) (hf : ∀ t d, f t = some d → nol d = true) (ha : SqL K H a (ws.map V.str)) (hD : H D = none) (hw : ws.length ≤ 100000)
    (step : ∀ (w : Str) (H' : Hp) (k : VK), w ∈ ws → Same H H' → ans K CB (f w) H' k E → te (some (.str w) :: fv) H' k)
    (fin : match mp f ws with | some ds => ∀ H' us, H' D = some (.lst us) → HasL K H' ds us → Same H H' → R H' | none => ∀ H3, Same H H3 → E (.ref CB) none H3) :
    ∃ W : Nat → Nat → List V → Hp → Prop, (∃ m, W 0 m [] (upd H D (.lst []))) ∧ ∀ i n ys H', W i n ys H' → H' D = some (.lst ys) ∧
      (((Itl K a).stop i H' ∧ R H') ∨ ((Itl K a).go i H' ∧ ∀ x H'', (Itl K a).yld i H' x H'' → te (some x :: fv) H'' fun y H3 => H3 D = some (.lst ys) ∧ ys.length < sizeLine ∧ ∃ m', m' < n ∧ W (i + 1) m' (ys ++ [y]) (upd H3 D (.lst (ys ++ [y]))))) := by
  refine lc_by wk_list (fun i us H' => Same H H' ∧ ∃ ds, mp f (ws.take i) = some ds ∧ HasL K H' ds us) (fun i us H' s4 => s4.1.seq ha) ⟨sameNew hD _, [], rfl, .nil⟩ ?_ ?_
  · rintro i us H8 x H4 hi hly hDs ⟨s4, ds, e1, hL⟩ ⟨rfl, hx4⟩
    have hxi := hx4 _ (s4.seq ha)
    rw [List.getElem?_map] at hxi
    cases hwi : ws[i]? with
    | none => rw [hwi] at hxi; cases hxi
    | some wd =>
      rw [hwi] at hxi
      cases hxi
      have hmem := List.mem_of_getElem? hwi
      refine step wd _ _ hmem s4 ?_
      cases hd : f wd with
      | none =>
        rw [mp_none hd hmem] at fin
        exact fun H3 s3 => fin H3 (s4.trans s3)
      | some d =>
        intro v H5 s5 hv
        rw [List.length_map] at hi
        refine lc_post (szM (by rw [List.length_map]; omega)) (by rw [List.length_map]; exact hi) hly (s5 _ _ hDs) ⟨(s4.trans s5).upd hD, ds ++ [d], ?_, ?_⟩
        · rw [take_snoc hwi]
          exact mp_snoc hd e1
        · have k5 : KeepT H5 (upd H5 D (.lst (us ++ [v]))) := KeepT.lst (s5 _ _ hDs)
          exact HasL.append (HasL.keep (s5.kt.trans k5) (mp_nols hf e1) hL) (HasL.one (Has.keep k5 (hf wd d hd) hv))
  · rintro us H4 hDs ⟨s4, ds, e1, hL⟩
    rw [List.length_map, List.take_of_length_le (Nat.le_refl _)] at e1
    rw [e1] at fin
    exact fin H4 us hDs hL s4
section
variable {P : Program} {w : World} {K : PySem.W.Frag} {mg : Str → Option Value} {base : Heap} {CB CE : Addr} {f fA fB fC fD : Addr} {fd dA dB dC dD : FuncData}
theorem sc_read_part : FnScope ["text", "below", "number"] ["text"] (defScope s_read_part) := ⟨rfl, rfl, rfl, by decide +kernel, rfl, by decide +kernel, by decide +kernel⟩
theorem ok_part (F : Fun K "read_part" "read_part" s_read_part f fd) (T : Txt K mg CB CE) (BN : FB P w K mg base (CX1 P w) 1 "read_number" fA dA ["text"] (sp1 K CB rnD)) : FnOk P w K mg base (CX1 P w) 2 f fd ["text"] (sp1 K CB rpD) := by
  refine Fun.okX F sc_read_part (fun vs H Q E h => ?_) (fun cdv A outer s H vs Q E hr h => ?_)
  · obtain ⟨t, rfl, _⟩ := h
    rfl
  obtain ⟨t, rfl, lw, q⟩ := h
  have ln := lw.ln
  refine ⟨_, (pss_cons (ps_set (i := 1) sc_read_part.nd rfl (Or.inl rfl) (pe_bm PySem.F.plainAttrs_str PySem.F.slot_str_startswith PySem.F.type_str_startswith mt_starts (pv 0) (pa_cons pe_str pa_nil)))
    (pss_cons (ps_set (i := 2) sc_read_part.nd rfl (Or.inl rfl) (pe_call BN.ok hr rfl BN.m BN.kp BN.b .nil (passes1 xe1) (pa_cons (pe_ifExp (pt_val (pv 1)) (pe_slice sl_str (pv 0) (po_some pe_int) po_none) (pv 0)) pa_nil)))
    (pss_cons (ps_if (pt_cmpR op_eq (pv 2) pe_int (nomark _))
      (pss_one (ps_raise (C := CB) xe1 rfl rfl T.bp PySem.F.excBase_ValueError T.xp (pa_cons pe_str pa_nil)))
      pss_nil)
    (pss_one (ps_ret (pe_ifExp (pt_val (pv 1)) (pe_un un_neg (pv 2)) (pv 2))))))), ?_⟩
  refine ⟨_, rfl, rfl, t, _, rfl, rfl, ?_⟩
  rw [sw]
  rw [rp_eq] at q
  cases hg : ng t with
  | true =>
    rw [hg, if_pos rfl] at q
    refine ⟨_, rfl, _, rfl, iteT ⟨_, rfl, _, rfl, t, rfl, szM (by omega), tail1 t, rfl, lw.slice_from, ?_⟩⟩
    unfold rnD
    cases hn : rn (tail1 t) with
    | none =>
      rw [hn] at q
      exact q
    | some n =>
      rw [hn] at q
      intro v H' s' hv
      simp only [Has] at hv
      subst hv
      refine ⟨_, rfl, rfl, _, rfl, ite2 (fun c => ?_) (fun c => ?_)⟩
      · have hc : n = 0 := V.int.inj (of_decide_eq_true c)
        dsimp only at q
        rw [if_pos hc] at q
        exact ⟨(by show 1 ≤ sizeLine; decide), q H' s'⟩
      · have hc : n ≠ 0 := fun e => c (by rw [e]; decide)
        dsimp only at q
        rw [if_neg hc] at q
        exact ⟨_, rfl, _, rfl, iteT ⟨_, rfl, _, rfl, q _ H' s' .int⟩⟩
  | false =>
    rw [hg, if_neg (by decide)] at q
    refine ⟨_, rfl, _, rfl, iteF ⟨_, rfl, t, rfl, lw, ?_⟩⟩
    unfold rnD
    cases hn : rn t with
    | none =>
      rw [hn] at q
      exact q
    | some n =>
      rw [hn] at q
      intro v H' s' hv
      simp only [Has] at hv
      subst hv
      refine ⟨_, rfl, rfl, _, rfl, ite2 (fun c => ?_) (fun c => ?_)⟩
      · have hc : n = 0 := V.int.inj (of_decide_eq_true c)
        dsimp only at q
        rw [if_pos hc] at q
        exact ⟨(by show 1 ≤ sizeLine; decide), q H' s'⟩
      · have hc : n ≠ 0 := fun e => c (by rw [e]; decide)
        dsimp only at q
        rw [if_neg hc, if_neg (by decide)] at q
        exact ⟨_, rfl, _, rfl, iteF ⟨_, rfl, q _ H' s' .int⟩⟩
theorem sc_read_link : FnScope ["text", "numbers"] ["text"] (defScope s_read_link) := ⟨rfl, rfl, rfl, by decide +kernel, rfl, by decide +kernel, by decide +kernel⟩
theorem ok_link (F : Fun K "read_link" "read_link" s_read_link f fd) (T : Txt K mg CB CE) (BN : FB P w K mg base (CX1 P w) 1 "read_number" fA dA ["text"] (sp1 K CB rnD)) : FnOk P w K mg base (CX1 P w) 2 f fd ["text"] (sp1 K CB rlD) := by
  refine Fun.okX F sc_read_link (fun vs H Q E h => ?_) (fun cdv A outer s H vs Q E hr h => ?_)
  · obtain ⟨t, rfl, _⟩ := h
    rfl
  obtain ⟨t, rfl, lw, q⟩ := h
  have ln := lw.ln
  refine ⟨_, (pss_cons (ps_set (i := 1) sc_read_link.nd rfl (Or.inl rfl) (pe_callTy call_tuple_of rfl T.tuple PyProof.Rows.Boot.tuple (pa_cons (pe_lcX (N' := ["piece"]) (ix := []) xe1 rfl rfl (by decide +kernel) (by decide +kernel) rfl (fun _ => ⟨[], clo_none (by decide +kernel) (by decide +kernel)⟩) (by decide +kernel) rfl rfl (fun j i h => by simp at h) (pi_list (pe_bm PySem.F.plainAttrs_str PySem.F.slot_str_split PySem.F.type_str_split mt_split (pv 0) (pa_cons pe_str pa_nil))) (fun _ _ _ _ _ hp => (pe_call BN.ok hr rfl BN.m BN.kp BN.b .nil hp (pa_cons (pv 0) pa_nil)))) pa_nil)))
    (pss_cons (ps_if (pt_cmpR op_ne (pe_callB call_len_seq rfl T.len PySem.boot_len (pa_cons (pv 1) pa_nil)) pe_int (nomark _))
      (pss_one (ps_raise (C := CB) xe1 rfl rfl T.bp PySem.F.excBase_ValueError T.xp (pa_cons (pe_joined (pj_cons (pe_fvr (pv 0)) (pj_cons pe_str pj_nil))) pa_nil)))
      pss_nil)
    (pss_one (ps_ret (pv 1))))), ?_⟩
  refine ⟨_, rfl, rfl, t, _, rfl, rfl, (by decide +kernel), (by omega), fun p hp => ?_⟩
  rw [e45]
  have sl := split_len' t ⟨#[45]⟩
  have lws : ∀ w ∈ PySem.Txt.split t ⟨#[45]⟩, Lw w := fun w hw => lw.split hw
  have qe : rlD t = (rl t).map dRow := rfl
  unfold rl at qe
  generalize PySem.Txt.split t ⟨#[45]⟩ = ws at sl lws qe
  have s1 : Same H (upd H p (.lst (ws.map V.str))) := sameNew hp _
  have h1 := upd_same (H := H) (a := p) (o := .lst (ws.map V.str))
  generalize upd H p (.lst (ws.map V.str)) = H1 at s1 h1
  refine ⟨p, rfl, ⟨_, SqL.of h1⟩, fun D hD => lcX_by (E := E) (CB := CB) ws rnD nol_rn (SqL.of h1) hD (by omega) (fun wd H' k hw s' ha => ⟨_, rfl, wd, rfl, lws wd hw, ha⟩) ?_⟩
  rw [mp_rn]
  cases hall : ws.all okN with
  | false =>
    rw [if_neg (by decide)]
    rw [hall] at qe
    rw [qe, if_neg (fun z => by cases z.2)] at q
    exact fun H3 s3 => q H3 (s1.trans s3)
  | true =>
    rw [if_pos rfl]
    intro H2 us hDs hL s2
    have eus : us = (ws.map val).map V.int := by
      have e' : (ws.map fun w => Dt.int (val w)) = (ws.map val).map Dt.int := by rw [List.map_map]; rfl
      rw [e'] at hL
      exact hasl_ints hL
    subst eus
    refine ⟨D, _, rfl, .inl ⟨SqL.of hDs, fun l hl => ?_⟩⟩
    have s3 : Same H2 (upd H2 l (.tup ((ws.map val).map V.int))) := sameNew hl _
    have h3 : SqT K (upd H2 l (.tup ((ws.map val).map V.int))) l ((ws.map val).map V.int) := SqT.of upd_same
    generalize upd H2 l (.tup ((ws.map val).map V.int)) = H3 at s3 h3
    have s03 := s1.trans (s2.trans s3)
    refine ⟨_, rfl, l, _, rfl, .inr h3, rfl, _, rfl, ite2 (fun c => ?_) (fun c => ?_)⟩
    · have hc : ws.length ≠ 3 := fun e => by
        rw [List.length_map, List.length_map, e] at c
        exact absurd c (by decide)
      rw [qe, if_neg (fun z => hc z.1)] at q
      exact raise2 (by decide +kernel) rfl lw (q H3 s03)
    · have hc : ws.length = 3 := by
        by_cases e : ws.length = 3
        · exact e
        · refine absurd ?_ c
          rw [List.length_map, List.length_map, decide_eq_false (fun z => e (by have := V.int.inj z; omega))]
          rfl
      rw [qe, if_pos ⟨hc, hall⟩] at q
      exact ⟨_, rfl, q _ H3 s03 (of_dRow h3)⟩
def sp_pcs : Sp := fun vs H Q _ => ∃ t : Str, vs = [.str t] ∧ Lw t ∧ ∀ (p : Addr) (H' : Hp), Same H H' → H' p = some (.lst ((pcs t).map V.str)) → Q (.ref p) H'
theorem sc_pieces_of : FnScope ["text"] ["text"] (defScope s_pieces_of) := ⟨rfl, rfl, rfl, by decide +kernel, rfl, by decide +kernel, by decide +kernel⟩
theorem ok_pieces (F : Fun K "pieces_of" "pieces_of" s_pieces_of f fd) : FnOk P w K mg base CX0 1 f fd ["text"] sp_pcs := by
  refine F.ok sc_pieces_of (fun vs H Q E h => ?_) (fun cdv A outer s H vs Q E hr h => ?_)
  · obtain ⟨t, rfl, _⟩ := h
    rfl
  obtain ⟨t, rfl, lw, q⟩ := h
  have ln := lw.ln
  refine ⟨_, (pss_one (ps_ret (pe_ifExp (pt_cmpR op_eq (pv 0) pe_str (nomark _)) (pe_lst pa_nil) (pe_bm PySem.F.plainAttrs_str PySem.F.slot_str_split PySem.F.type_str_split mt_split (pv 0) (pa_cons pe_str pa_nil))))), ?_⟩
  refine ⟨_, rfl, rfl, _, rfl, ite2 (fun c => ?_) (fun c => ?_)⟩
  · have hc : t = wNone := V.str.inj (of_decide_eq_true c)
    refine ⟨(by show 0 ≤ sizeLine; decide), fun l hl => q l _ (sameNew hl _) ?_⟩
    unfold pcs
    rw [if_pos hc]
    exact upd_same
  · have hc : t ≠ wNone := fun e => c (by rw [e]; decide)
    refine ⟨_, rfl, rfl, t, _, rfl, rfl, (by decide +kernel), (by omega), fun l hl => q l _ (sameNew hl _) ?_⟩
    unfold pcs
    rw [if_neg hc, e32]
    exact upd_same
end
end K85

/-! law k85: read_line, read_paper. Behind K85d. -/
namespace K85
open PySem L2
def progP (t : Str) : Option (List Dt) := if t = Str.empty then some [] else if (cl t)[t.length - 1]? = some 10 then mp progL (PySem.Txt.split (PySem.Txt.slice t none (some (-1))) ⟨#[10]⟩) else none
def lawP (t : Str) : Option (List Dt) := if (PySem.Txt.split t ⟨#[10]⟩).getLast? = some Str.empty then mp lawL (PySem.Txt.split t ⟨#[10]⟩).dropLast else none
theorem len_pos {t : Str} (h : t ≠ Str.empty) : 1 ≤ t.length := by
  by_cases e : t.length = 0
  · refine absurd (cl_ext ?_) h
    have := cl_len t
    rw [e] at this
    rw [List.length_eq_zero_iff.mp this]
    rfl
  · omega
theorem paper_eq (t : Str) : progP t = lawP t := by
  have hf : progL = lawL := funext line_eq
  unfold progP lawP
  by_cases h : t = Str.empty
  · rw [if_pos h, h]
    have e : PySem.Txt.split Str.empty ⟨#[10]⟩ = [Str.empty] := split_uniq (c := 10) (ps := [Str.empty]) (by simp) (by decide +kernel)
    rw [e]
    rfl
  · rw [if_neg h]
    by_cases h10 : (cl t)[t.length - 1]? = some 10
    · rw [if_pos h10, split_rows (len_pos h) h10, if_pos (by simp), List.dropLast_concat, hf]
    · rw [if_neg h10, if_neg (last_row h h10)]
theorem progL_no {x : Str} (h : (PySem.Txt.split x sBy).length ≠ 2) : progL x = none := by
  unfold progL
  match hs : PySem.Txt.split x sBy with
  | [] => rfl
  | [_] => rfl
  | [_, _] => rw [hs] at h; exact absurd rfl h
  | _ :: _ :: _ :: _ => rfl
section
variable {P : Program} {w : World} {K : PySem.W.Frag} {mg : Str → Option Value} {base : Heap} {CB CE : Addr} {f fA fB fC fD : Addr} {fd dA dB dC dD : FuncData}
theorem sc_read_line : FnScope ["row", "sides", "head", "parts"] ["row"] (defScope s_read_line) := ⟨rfl, rfl, rfl, by decide +kernel, rfl, by decide +kernel, by decide +kernel⟩
theorem ok_line (F : Fun K "read_line" "read_line" s_read_line f fd) (T : Txt K mg CB CE) (BN : FB P w K mg base (CX1 P w) 1 "read_number" fA dA ["text"] (sp1 K CB rnD)) (BP : FB P w K mg base (CX1 P w) 2 "read_part" fB dB ["text"] (sp1 K CB rpD)) (BK : FB P w K mg base (CX1 P w) 2 "read_link" fC dC ["text"] (sp1 K CB rlD)) (BO : FB P w K mg base CX0 1 "pieces_of" fD dD ["text"] sp_pcs) : FnOk P w K mg base (CX1 P w) 3 f fd ["row"] (sp1 K CB progL) := by
  refine Fun.okX F sc_read_line (fun vs H Q E h => ?_) (fun cdv A outer s H vs Q E hr h => ?_)
  · obtain ⟨t, rfl, _⟩ := h
    rfl
  obtain ⟨t, rfl, lw, q⟩ := h
  have ln := lw.ln
  have hr1 := hr.mono (show 1 ≤ 2 by decide)
  refine ⟨_, (pss_cons (ps_set (i := 1) sc_read_line.nd rfl (Or.inl rfl) (pe_bm PySem.F.plainAttrs_str PySem.F.slot_str_split PySem.F.type_str_split mt_split (pv 0) (pa_cons pe_str pa_nil)))
    (pss_cons (ps_if (pt_cmpR op_ne (pe_callB call_len_seq rfl T.len PySem.boot_len (pa_cons (pv 1) pa_nil)) pe_int (nomark _))
      (pss_one (ps_raise (C := CB) xe1 rfl rfl T.bp PySem.F.excBase_ValueError T.xp (pa_cons (pe_joined (pj_cons (pe_fvr (pv 0)) (pj_cons pe_str pj_nil))) pa_nil)))
      pss_nil)
    (pss_cons (ps_set (i := 2) sc_read_line.nd rfl (Or.inl rfl) (pe_bm PySem.F.plainAttrs_str PySem.F.slot_str_partition PySem.F.type_str_partition mt_partition (pe_ix ix_list (pv 1) pe_int (fun _ _ => rfl)) (pa_cons pe_str pa_nil)))
    (pss_cons (ps_set (i := 3) sc_read_line.nd rfl (Or.inl rfl) (pe_callTy call_tuple_of rfl T.tuple PyProof.Rows.Boot.tuple (pa_cons (pe_lcX (N' := ["piece"]) (ix := []) xe1 rfl rfl (by decide +kernel) (by decide +kernel) rfl (fun _ => ⟨[], clo_none (by decide +kernel) (by decide +kernel)⟩) (by decide +kernel) rfl rfl (fun j i h => by simp at h) (pi_list (pe_call BO.ok hr1 rfl BO.m BO.kp BO.b .nil pass0 (pa_cons (pe_ix ix_tup (pv 2) pe_int (fun _ _ => rfl)) pa_nil))) (fun _ _ _ _ _ hp => (pe_call BP.ok hr rfl BP.m BP.kp BP.b .nil hp (pa_cons (pv 0) pa_nil)))) pa_nil)))
    (pss_cons (ps_if (pt_cmpR op_eq (pe_ix ix_tup (pv 2) pe_int (fun _ _ => rfl)) pe_str (nomark _))
      (pss_one (ps_ret (pe_tup (pa_cons pe_str (pa_cons (pv 3) (pa_cons (pe_callTy call_tuple_of rfl T.tuple PyProof.Rows.Boot.tuple (pa_cons (pe_lcX (N' := ["piece"]) (ix := []) xe1 rfl rfl (by decide +kernel) (by decide +kernel) rfl (fun _ => ⟨[], clo_none (by decide +kernel) (by decide +kernel)⟩) (by decide +kernel) rfl rfl (fun j i h => by simp at h) (pi_list (pe_call BO.ok hr1 rfl BO.m BO.kp BO.b .nil pass0 (pa_cons (pe_ix ix_list (pv 1) pe_int (fun _ _ => rfl)) pa_nil))) (fun _ _ _ _ _ hp => (pe_call BN.ok hr1 rfl BN.m BN.kp BN.b .nil hp (pa_cons (pv 0) pa_nil)))) pa_nil)) pa_nil))))))
      pss_nil)
    (pss_cons (ps_if (pt_cmpR op_eq (pe_ix ix_tup (pv 2) pe_int (fun _ _ => rfl)) pe_str (nomark _))
      (pss_one (ps_ret (pe_tup (pa_cons pe_str (pa_cons (pv 3) (pa_cons (pe_callTy call_tuple_of rfl T.tuple PyProof.Rows.Boot.tuple (pa_cons (pe_lcX (N' := ["piece"]) (ix := []) xe1 rfl rfl (by decide +kernel) (by decide +kernel) rfl (fun _ => ⟨[], clo_none (by decide +kernel) (by decide +kernel)⟩) (by decide +kernel) rfl rfl (fun j i h => by simp at h) (pi_list (pe_call BO.ok hr1 rfl BO.m BO.kp BO.b .nil pass0 (pa_cons (pe_ix ix_list (pv 1) pe_int (fun _ _ => rfl)) pa_nil))) (fun _ _ _ _ _ hp => (pe_call BK.ok hr rfl BK.m BK.kp BK.b .nil hp (pa_cons (pv 0) pa_nil)))) pa_nil)) pa_nil))))))
      pss_nil)
    (pss_one (ps_raise (C := CB) xe1 rfl rfl T.bp PySem.F.excBase_ValueError T.xp (pa_cons (pe_joined (pj_cons (pe_fvr (pv 0)) (pj_cons pe_str pj_nil))) pa_nil))))))))), ?_⟩
  refine ⟨_, rfl, rfl, t, _, rfl, rfl, (by decide +kernel), (by omega), fun p hp => ?_⟩
  rw [eBy]
  have sl := split_len' t sBy
  have lws : ∀ w ∈ PySem.Txt.split t sBy, Lw w := fun w hw => lw.split hw
  have s1 : Same H (upd H p (.lst ((PySem.Txt.split t sBy).map V.str))) := sameNew hp _
  have h1 := upd_same (H := H) (a := p) (o := .lst ((PySem.Txt.split t sBy).map V.str))
  generalize upd H p (.lst ((PySem.Txt.split t sBy).map V.str)) = H1 at s1 h1
  refine ⟨_, rfl, p, _, rfl, .inl (SqL.of h1), rfl, _, rfl, ite2 (fun c => ?_) (fun c => ?_)⟩
  · have hc : (PySem.Txt.split t sBy).length ≠ 2 := fun e => by
      rw [List.length_map, e] at c
      exact absurd c (by decide)
    rw [progL_no hc] at q
    exact raise2 (by decide +kernel) rfl lw (q H1 s1)
  have hc : (PySem.Txt.split t sBy).length = 2 := by
    by_cases e : (PySem.Txt.split t sBy).length = 2
    · exact e
    · refine absurd ?_ c
      rw [List.length_map, decide_eq_false (fun z => e (by have := V.int.inj z; omega))]
      rfl
  unfold progL at q
  match hs : PySem.Txt.split t sBy, hc with
  | [s0, s1'], _ =>
    rw [hs] at q h1 lws
    dsimp only at q
    have lw0 := lws s0 (by simp)
    have lw1 := lws s1' (by simp)
    have ln0 := lw0.ln
    obtain ⟨lwh, lwr⟩ := lw0.part ⟨#[32]⟩
    refine ⟨_, rfl, p, _, _, _, rfl, rfl, SqL.of h1, rfl, rfl, s0, _, rfl, rfl, (by decide +kernel), (by omega), fun hp2 hhp2 => ?_⟩
    rw [e32]
    generalize (PySem.Txt.partition s0 ⟨#[32]⟩).1 = kw at q lwh ⊢
    generalize (PySem.Txt.partition s0 ⟨#[32]⟩).2.1 = sp0
    generalize (PySem.Txt.partition s0 ⟨#[32]⟩).2.2 = rest at q lwr ⊢
    have s2 : Same H1 (upd H1 hp2 (.tup [.str kw, .str sp0, .str rest])) := sameNew hhp2 _
    have h2 : SqT K (upd H1 hp2 (.tup [.str kw, .str sp0, .str rest])) hp2 [.str kw, .str sp0, .str rest] := SqT.of upd_same
    generalize upd H1 hp2 (.tup [.str kw, .str sp0, .str rest]) = H2 at s2 h2
    refine ⟨_, rfl, hp2, _, _, _, rfl, rfl, h2, rfl, rest, rfl, lwr, fun pp H3 s3 hpp => ?_⟩
    have pl : ∀ u : Str, Lw u → (pcs u).length ≤ 100000 ∧ ∀ w ∈ pcs u, Lw w := fun u hu => by
      unfold pcs
      split
      · exact ⟨by simp, fun w hw => by cases hw⟩
      · have := split_len' u ⟨#[32]⟩
        have := hu.ln
        exact ⟨by omega, fun w hw => hu.split hw⟩
    obtain ⟨pl1, pl2⟩ := pl rest lwr
    obtain ⟨ml1, ml2⟩ := pl s1' lw1
    refine ⟨pp, rfl, ⟨_, SqL.of hpp⟩, fun D hD => lcX_by (E := E) (CB := CB) (pcs rest) rpD nol_rp (SqL.of hpp) hD pl1 (fun wd H' k hw s' ha => ⟨_, rfl, wd, rfl, pl2 wd hw, ha⟩) ?_⟩
    cases ha : mp rpD (pcs rest) with
    | none =>
      rw [ha] at q
      exact fun H4 s4 => q H4 (s1.trans (s2.trans (s3.trans s4)))
    | some as =>
      rw [ha] at q
      dsimp only at q
      intro H4 us hDs hL s4
      refine ⟨D, _, rfl, .inl ⟨SqL.of hDs, fun qa hqa => ?_⟩⟩
      have s5 : Same H4 (upd H4 qa (.tup us)) := sameNew hqa _
      have h5 : SqT K (upd H4 qa (.tup us)) qa us := SqT.of upd_same
      have hL5 := hL.keep s5.kt (mp_nols nol_rp ha)
      generalize upd H4 qa (.tup us) = H5 at s5 h5 hL5
      have s25 := s3.trans (s4.trans s5)
      have s05 := s1.trans (s2.trans s25)
      have h1' := s25 _ _ (s2 _ _ h1)
      refine ⟨_, rfl, hp2, _, _, _, rfl, rfl, s25.tup h2, rfl, rfl, _, rfl, ite2 (fun c1 => ?_) (fun c1 => ?_)⟩
      · have hk : kw = "learnt" := V.str.inj (of_decide_eq_true c1)
        have hk1 : isK kw = true := by rw [hk]; decide +kernel
        have hfk : fk kw = rnD := by
          unfold fk
          rw [if_pos hk]
        rw [if_pos hk1, hfk] at q
        refine ⟨_, rfl, _, rfl, p, _, _, _, rfl, rfl, SqL.of h1', rfl, s1', rfl, lw1, fun p6 H6 s6 hp6 => ?_⟩
        refine ⟨p6, rfl, ⟨_, SqL.of hp6⟩, fun D2 hD2 => lcX_by (E := E) (CB := CB) (pcs s1') rnD nol_rn (SqL.of hp6) hD2 ml1 (fun wd H' k hw s' ha => ⟨_, rfl, wd, rfl, ml2 wd hw, ha⟩) ?_⟩
        cases hb : mp rnD (pcs s1') with
        | none =>
          rw [hb] at q
          exact fun H7 s7 => q H7 (s05.trans (s6.trans s7))
        | some bs =>
          rw [hb] at q
          intro H7 vs hD7 hL7 s7
          refine ⟨D2, _, rfl, .inl ⟨SqL.of hD7, fun ma hma => ⟨(by show 3 ≤ sizeLine; decide), fun lp hlp => ?_⟩⟩⟩
          have s8 : Same H7 (upd H7 ma (.tup vs)) := sameNew hma _
          have s9 := s8.trans (sameNew hlp (.tup [.str "learnt", .ref qa, .ref ma]))
          refine q _ _ (s05.trans (s6.trans (s7.trans s9))) ?_
          rw [hk]
          exact Has.tup' (SqT.of upd_same) (.cons .str' (.cons (Has.tup' ((s6.trans (s7.trans s9)).tup h5) (hL5.keep (s6.trans (s7.trans s9)).kt (mp_nols nol_rp ha))) (.cons (Has.tup' ((sameNew hlp _).tup (SqT.of upd_same)) (hL7.keep s9.kt (mp_nols nol_rn hb))) .nil)))
      · have hk0 : kw ≠ "learnt" := fun e => c1 (by rw [e]; decide)
        refine ⟨_, rfl, hp2, _, _, _, rfl, rfl, s25.tup h2, rfl, rfl, _, rfl, ite2 (fun c2 => ?_) (fun c2 => ?_)⟩
        · have hk : kw = "equal" := V.str.inj (of_decide_eq_true c2)
          have hk1 : isK kw = true := by rw [hk]; decide +kernel
          have hfk : fk kw = rlD := by
            unfold fk
            rw [if_neg hk0]
          rw [if_pos hk1, hfk] at q
          refine ⟨_, rfl, _, rfl, p, _, _, _, rfl, rfl, SqL.of h1', rfl, s1', rfl, lw1, fun p6 H6 s6 hp6 => ?_⟩
          refine ⟨p6, rfl, ⟨_, SqL.of hp6⟩, fun D2 hD2 => lcX_by (E := E) (CB := CB) (pcs s1') rlD nol_rl (SqL.of hp6) hD2 ml1 (fun wd H' k hw s' ha => ⟨_, rfl, wd, rfl, ml2 wd hw, ha⟩) ?_⟩
          cases hb : mp rlD (pcs s1') with
          | none =>
            rw [hb] at q
            exact fun H7 s7 => q H7 (s05.trans (s6.trans s7))
          | some bs =>
            rw [hb] at q
            intro H7 vs hD7 hL7 s7
            refine ⟨D2, _, rfl, .inl ⟨SqL.of hD7, fun ma hma => ⟨(by show 3 ≤ sizeLine; decide), fun lp hlp => ?_⟩⟩⟩
            have s8 : Same H7 (upd H7 ma (.tup vs)) := sameNew hma _
            have s9 := s8.trans (sameNew hlp (.tup [.str "equal", .ref qa, .ref ma]))
            refine q _ _ (s05.trans (s6.trans (s7.trans s9))) ?_
            rw [hk]
            exact Has.tup' (SqT.of upd_same) (.cons .str' (.cons (Has.tup' ((s6.trans (s7.trans s9)).tup h5) (hL5.keep (s6.trans (s7.trans s9)).kt (mp_nols nol_rp ha))) (.cons (Has.tup' ((sameNew hlp _).tup (SqT.of upd_same)) (hL7.keep s9.kt (mp_nols nol_rl hb))) .nil)))
        · have hk1 : isK kw = false := by
            unfold isK
            rw [decide_eq_false hk0, decide_eq_false (fun e => c2 (by rw [e]; decide))]
            rfl
          rw [hk1, if_neg (by decide)] at q
          exact raise2 (D := { nx := fun _ H' => Q .non H', rt := Q }) (by decide +kernel) rfl lw (q H5 s05)
def sp_paper (K : PySem.W.Frag) (CB : Addr) : Sp := fun vs H Q E => ∃ t : Str, vs = [.str t] ∧ Lw t ∧ match progP t with
  | some ds => ∀ (p : Addr) (us : List V) (H' : Hp), Same H H' → H p = none → H' p = some (.lst us) → HasL K H' ds us → Q (.ref p) H'
  | none => ∀ H', Same H H' → E (.ref CB) none H'
theorem sc_read_paper : FnScope ["text"] ["text"] (defScope s_read_paper) := ⟨rfl, rfl, rfl, by decide +kernel, rfl, by decide +kernel, by decide +kernel⟩
theorem ok_paper (F : Fun K "read_paper" "read_paper" s_read_paper f fd) (T : Txt K mg CB CE) (BL : FB P w K mg base (CX1 P w) 3 "read_line" fA dA ["row"] (sp1 K CB progL)) : FnOk P w K mg base (CX1 P w) 4 f fd ["text"] (sp_paper K CB) := by
  refine Fun.okX F sc_read_paper (fun vs H Q E h => ?_) (fun cdv A outer s H vs Q E hr h => ?_)
  · obtain ⟨t, rfl, _⟩ := h
    rfl
  obtain ⟨t, rfl, lw, q⟩ := h
  have ln := lw.ln
  refine ⟨_, (pss_cons (ps_if (pt_cmpR op_eq (pv 0) pe_str (nomark _))
      (pss_one (ps_ret (pe_lst pa_nil)))
      pss_nil)
    (pss_cons (ps_if (pt_not (pt_val (pe_bm PySem.F.plainAttrs_str PySem.F.slot_str_endswith PySem.F.type_str_endswith mt_ends (pv 0) (pa_cons pe_str pa_nil))))
      (pss_one (ps_raise (C := CB) xe1 rfl rfl T.bp PySem.F.excBase_ValueError T.xp (pa_cons pe_str pa_nil)))
      pss_nil)
    (pss_one (ps_ret (pe_lcX (N' := ["row"]) (ix := []) xe1 rfl rfl (by decide +kernel) (by decide +kernel) rfl (fun _ => ⟨[], clo_none (by decide +kernel) (by decide +kernel)⟩) (by decide +kernel) rfl rfl (fun j i h => by simp at h) (pi_list (pe_bm PySem.F.plainAttrs_str PySem.F.slot_str_split PySem.F.type_str_split mt_split (pe_slice sl_str (pv 0) po_none (po_some (pe_un un_neg pe_int))) (pa_cons pe_str pa_nil))) (fun _ _ _ _ _ hp => (pe_call BL.ok hr rfl BL.m BL.kp BL.b .nil hp (pa_cons (pv 0) pa_nil)))))))), ?_⟩
  unfold progP at q
  refine ⟨_, rfl, rfl, _, rfl, ite2 (fun c => ?_) (fun c => ?_)⟩
  · have hc : t = Str.empty := V.str.inj (of_decide_eq_true c)
    rw [if_pos hc] at q
    exact ⟨(by show 0 ≤ sizeLine; decide), fun l hl => q l [] _ (sameNew hl _) hl upd_same .nil⟩
  have hc : t ≠ Str.empty := fun e => c (by rw [e]; decide)
  have h1 := len_pos hc
  rw [if_neg hc] at q
  refine ⟨_, rfl, rfl, t, _, rfl, rfl, _, rfl, ?_⟩
  rw [ew h1]
  by_cases h10 : (cl t)[t.length - 1]? = some 10
  · rw [if_pos h10] at q
    rw [decide_eq_true h10]
    refine iteF ?_
    refine ⟨_, rfl, _, rfl, _, rfl, t, rfl, szM (by omega), rfl, _, _, rfl, rfl, (by decide +kernel), Nat.le_trans (PySem.Txt.slice_le t _ _) (by omega), fun p hp => ?_⟩
    rw [e10]
    have lw2 := lw.slice_last h1
    have e1 : (PySem.Txt.slice t none (some (-1 : Int))) = PySem.Txt.slice t none (some (-1)) := rfl
    generalize PySem.Txt.slice t none (some (-1)) = u at q lw2 ⊢
    have sl := split_len' u ⟨#[10]⟩
    have ln2 := lw2.ln
    have s1 : Same H (upd H p (.lst ((PySem.Txt.split u ⟨#[10]⟩).map V.str))) := sameNew hp _
    have h1' := upd_same (H := H) (a := p) (o := .lst ((PySem.Txt.split u ⟨#[10]⟩).map V.str))
    generalize upd H p (.lst ((PySem.Txt.split u ⟨#[10]⟩).map V.str)) = H1 at s1 h1'
    refine ⟨p, rfl, ⟨_, SqL.of h1'⟩, fun D hD => lcX_by (E := E) (CB := CB) (PySem.Txt.split u ⟨#[10]⟩) progL nol_progL (SqL.of h1') hD (by omega) (fun wd H' k hw s' ha => ⟨_, rfl, wd, rfl, lw2.split hw, ha⟩) ?_⟩
    cases hm : mp progL (PySem.Txt.split u ⟨#[10]⟩) with
    | none =>
      rw [hm] at q
      exact fun H3 s3 => q H3 (s1.trans s3)
    | some ds =>
      rw [hm] at q
      exact fun H2 us hDs hL s2 => q D us H2 (s1.trans s2) (s1.free hD) hDs hL
  · rw [if_neg h10] at q
    rw [decide_eq_false h10]
    exact iteT ⟨(by show 1 ≤ sizeLine; decide), q H (Same.refl H)⟩
end
end K85

/-! law k85: the texts that the law draws. Behind K85e. -/
namespace K85
open PySem L2
structure Sm (n : Nat) (z : Str) : Prop where
  ln : z.length ≤ n
  lo : ∀ c ∈ cl z, c < 1000
theorem Sm.lw {n : Nat} {z : Str} (h : Sm n z) (hn : n ≤ 20000) : Lw z := ⟨Nat.le_trans h.ln hn, h.lo⟩
theorem Sm.mono {n m : Nat} {z : Str} (h : Sm n z) (hn : n ≤ m) : Sm m z := ⟨Nat.le_trans h.ln hn, h.lo⟩
theorem Sm.app {n m : Nat} {x y : Str} (h : Sm n x) (h' : Sm m y) : Sm (n + m) (x ++ y) := by
  refine ⟨?_, fun c hc => ?_⟩
  · have := h.ln
    have := h'.ln
    rw [len_app]
    omega
  · rw [cl_app] at hc
    rcases List.mem_append.mp hc with z | z
    · exact h.lo c z
    · exact h'.lo c z
theorem Sm.int {n : Int} (h : n.natAbs < 1000000000) : Sm 10 ((toString n : String) : Str) := by
  refine ⟨int_len9 h, fun c hc => ?_⟩
  by_cases hz : c < 1000
  · exact hz
  · exact absurd hc (PyProof.Rows.int_text_free' c ⟨by omega, by omega⟩ n)
theorem at_two {a b : V} {e : Int} (h0 : 0 ≤ e) (h1 : e < 2) : ∃ u : V, atI [a, b] e = some u ∧ (u = a ∨ u = b) := by
  have h : e = 0 ∨ e = 1 := by omega
  rcases h with rfl | rfl
  · exact ⟨_, rfl, .inl rfl⟩
  · exact ⟨_, rfl, .inr rfl⟩
theorem at_two_S {n : Nat} {a b : Str} {e : Int} (h0 : 0 ≤ e) (h1 : e < 2) (ha : Sm n a) (hb : Sm n b) : ∃ u : Str, atI [V.str a, V.str b] e = some (.str u) ∧ Sm n u := by
  obtain ⟨u, hu, h⟩ := at_two (a := .str a) (b := .str b) h0 h1
  rcases h with rfl | rfl
  · exact ⟨a, hu, ha⟩
  · exact ⟨b, hu, hb⟩
theorem four_at {a b c d e : Int} (h0 : 0 ≤ e) (h1 : e < 4) : ∃ u : Int, atI [V.int a, V.int b, V.int c, V.int d] e = some (.int u) ∧ (u = a ∨ u = b ∨ u = c ∨ u = d) := by
  have h : e = 0 ∨ e = 1 ∨ e = 2 ∨ e = 3 := by omega
  rcases h with rfl | rfl | rfl | rfl
  · exact ⟨_, rfl, .inl rfl⟩
  · exact ⟨_, rfl, .inr (.inl rfl)⟩
  · exact ⟨_, rfl, .inr (.inr (.inl rfl))⟩
  · exact ⟨_, rfl, .inr (.inr (.inr rfl))⟩
section
variable {P : Program} {w : World} {K : PySem.W.Frag} {mg : Str → Option Value} {base : Heap} {CB CE : Addr} {f fA fB fC fD : Addr} {fd dA dB dC dD : FuncData}
def sp_mix : Sp := fun vs H Q _ => ∃ c k : Int, vs = [.int c, .int k] ∧ ∀ i : Int, 0 ≤ i → i < 999983 → Q (.int i) H
theorem sc__law_mix : FnScope ["_law_cell", "_law_k", "_law_number_here"] ["_law_cell", "_law_k"] (defScope s__law_mix) := ⟨rfl, rfl, rfl, by decide +kernel, rfl, by decide +kernel, by decide +kernel⟩
theorem ok_mix (F : Fun K "_law_mix" "_law_mix" s__law_mix f fd) : FnOk P w K mg base CX0 1 f fd ["_law_cell", "_law_k"] sp_mix := by
  refine F.ok sc__law_mix (fun vs H Q E h => ?_) (fun cdv A outer s H vs Q E hr h => ?_)
  · obtain ⟨c, k, rfl, _⟩ := h
    rfl
  obtain ⟨c, k, rfl, q⟩ := h
  refine ⟨_, (pss_cons (ps_set (i := 2) sc__law_mix.nd rfl (Or.inl rfl) (pe_op op_mod (pe_op op_mul (pe_op op_add (pe_op op_add (pv 0) (pe_op op_mul pe_int (pv 1))) pe_int) pe_int) pe_int))
    (pss_one (ps_ret (pe_op op_mod (pe_op op_mul (pv 2) (pv 2)) pe_int)))), ?_⟩
  have b0 := Int.emod_nonneg ((c + 7919 * k + 1) * 48271) (show (1000003 : Int) ≠ 0 by decide)
  have b1 := Int.emod_lt_of_pos ((c + 7919 * k + 1) * 48271) (show (0 : Int) < 1000003 by decide)
  exact ⟨_, rfl, _, rfl, _, _, rfl, rfl, .inl ⟨by decide, by decide⟩, _, _, rfl, rfl, _, _, rfl, rfl, _, _, rfl, rfl, .inr ⟨by decide, by decide⟩, _, _, rfl, rfl, (by show (0 : Int) < 1000003; decide), _, rfl, _, rfl, _, _, rfl, rfl, .inl ⟨by omega, by omega⟩, _, _, rfl, rfl, (by show (0 : Int) < 999983; decide), q _ (Int.emod_nonneg _ (by decide)) (Int.emod_lt_of_pos _ (by decide))⟩
def sp_fig : Sp := fun vs H Q _ => ∃ c k : Int, vs = [.int c, .int k] ∧ ∀ (i : Int) (H' : Hp), 0 ≤ i → i < 1000000000 → Same H H' → Q (.int i) H'
theorem sc__law_figure : FnScope ["_law_cell", "_law_k", "_law_number_here"] ["_law_cell", "_law_k"] (defScope s__law_figure) := ⟨rfl, rfl, rfl, by decide +kernel, rfl, by decide +kernel, by decide +kernel⟩
theorem ok_fig (F : Fun K "_law_figure" "_law_figure" s__law_figure f fd) (BM : FB P w K mg base CX0 1 "_law_mix" fA dA ["_law_cell", "_law_k"] sp_mix) : FnOk P w K mg base CX0 2 f fd ["_law_cell", "_law_k"] sp_fig := by
  refine F.ok sc__law_figure (fun vs H Q E h => ?_) (fun cdv A outer s H vs Q E hr h => ?_)
  · obtain ⟨c, k, rfl, _⟩ := h
    rfl
  obtain ⟨c, k, rfl, q⟩ := h
  refine ⟨_, (pss_cons (ps_set (i := 2) sc__law_figure.nd rfl (Or.inl rfl) (pe_call BM.ok hr rfl BM.m BM.kp BM.b .nil pass0 (pa_cons (pv 0) (pa_cons (pv 1) pa_nil))))
    (pss_one (ps_ret (pe_ix ix_list (pe_lst (pa_cons (pe_op op_mod (pv 2) pe_int) (pa_cons (pe_op op_mod (pv 2) pe_int) (pa_cons (pe_op op_mod (pe_op op_mul (pv 2) pe_int) (pe_op op_pow pe_int pe_int)) (pa_cons (pe_op op_sub (pe_op op_pow pe_int pe_int) pe_int) pa_nil))))) (pe_op op_mod (pe_op op_fdiv (pv 2) pe_int) pe_int) (fun _ _ => rfl))))), ?_⟩
  refine ⟨_, rfl, _, rfl, c, k, rfl, fun n h0 h1 => ?_⟩
  obtain ⟨u, hu, hv⟩ := four_at (a := n % 10) (b := n % 1000) (c := n * 16807 % 10 ^ (9 : Int).toNat) (d := 10 ^ (9 : Int).toNat - 1) (e := n / 10 % 4) (Int.emod_nonneg _ (by decide)) (Int.emod_lt_of_pos _ (by decide))
  have p9 : (10 : Int) ^ (9 : Int).toNat = 1000000000 := by decide
  have m1 := Int.emod_nonneg n (show (10 : Int) ≠ 0 by decide)
  have m2 := Int.emod_lt_of_pos n (show (0 : Int) < 10 by decide)
  have m3 := Int.emod_nonneg n (show (1000 : Int) ≠ 0 by decide)
  have m4 := Int.emod_lt_of_pos n (show (0 : Int) < 1000 by decide)
  have m5 := Int.emod_nonneg (n * 16807) (show (1000000000 : Int) ≠ 0 by decide)
  have m6 := Int.emod_lt_of_pos (n * 16807) (show (0 : Int) < 1000000000 by decide)
  have hb : 0 ≤ u ∧ u < 1000000000 := by
    rw [p9] at hv
    omega
  refine ⟨_, rfl, _, _, rfl, rfl, (by show (0 : Int) < 10; decide), _, rfl, _, _, rfl, rfl, (by show (0 : Int) < 1000; decide), _, rfl, _, _, rfl, rfl, .inr ⟨by decide, by decide⟩, _, _, rfl, rfl, ⟨by decide, by decide, by decide⟩, _, _, rfl, rfl, (by show (0 : Int) < 10 ^ (9 : Int).toNat; decide), _, _, rfl, rfl, ⟨by decide, by decide, by decide⟩, _, _, rfl, rfl, (by show 4 ≤ sizeLine; decide), fun l hl => ?_⟩
  exact ⟨_, rfl, _, _, rfl, rfl, ⟨by decide, by decide⟩, _, _, rfl, rfl, (by show (0 : Int) < 4; decide), l, _, _, _, rfl, rfl, SqL.of upd_same, hu, q u _ hb.1 hb.2 (sameNew hl _)⟩
def sp_text (n : Nat) : Sp := fun vs H Q _ => ∃ c : Int, vs = [.int c] ∧ ∀ (z : Str) (H' : Hp), Sm n z → Same H H' → Q (.str z) H'
abbrev sgn1 : Str := " !\"#$&'()*+,-./0123456789:;<=>?@ABCDEFGHIJKLMNOPQRSTUVWXYZ[\\]^_`"
abbrev sgn2 : Str := "abcdefghijklmnopqrstuvwxyz{|}~\t\n"
theorem sgn_ok : (sgn1 ++ sgn2).length = 96 ∧ ∀ c ∈ cl (sgn1 ++ sgn2), c < 1000 := by decide +kernel
theorem sc__law_sign_by : FnScope ["_law_cell", "_law_some"] ["_law_cell"] (defScope s__law_sign_by) := ⟨rfl, rfl, rfl, by decide +kernel, rfl, by decide +kernel, by decide +kernel⟩
theorem ok_sign (F : Fun K "_law_sign_by" "_law_sign_by" s__law_sign_by f fd) : FnOk P w K mg base CX0 1 f fd ["_law_cell"] (sp_text 1) := by
  refine F.ok sc__law_sign_by (fun vs H Q E h => ?_) (fun cdv A outer s H vs Q E hr h => ?_)
  · obtain ⟨c, rfl, _⟩ := h
    rfl
  obtain ⟨c, rfl, q⟩ := h
  refine ⟨_, (pss_cons (ps_set (i := 1) sc__law_sign_by.nd rfl (Or.inl rfl) pe_str)
    (pss_cons (ps_set (i := 1) sc__law_sign_by.nd rfl (Or.inl rfl) (pe_op op_add_str (pv 1) pe_str))
    (pss_one (ps_ret (pe_ix ix_str (pv 1) (pe_op op_mod (pv 0) pe_int) (fun _ _ => rfl)))))), ?_⟩
  obtain ⟨g1, g2⟩ := sgn_ok
  obtain ⟨ch, h1, h2⟩ := at_inM (xs := cl (sgn1 ++ sgn2)) (i := c % 96) (Int.emod_nonneg _ (by decide)) (by rw [cl_len, g1]; exact Int.emod_lt_of_pos _ (by decide))
  refine ⟨_, rfl, _, _, rfl, rfl, szM (by show (sgn1 ++ sgn2).length ≤ _; rw [g1]; decide), ?_⟩
  refine ⟨_, rfl, _, rfl, _, _, rfl, rfl, (by show (0 : Int) < 96; decide), sgn1 ++ sgn2, _, ch, rfl, rfl, szM (by rw [g1]; decide), h1, q _ H ⟨by show 1 ≤ 1; decide, fun d hd => ?_⟩ (Same.refl H)⟩
  have : d = ch := by simpa [cl] using hd
  rw [this]
  exact g2 ch h2
abbrev o1 : List Str := ["", "learnt", "learnt by", "learnt none", "learnt none by", "learnt by none", "equal 1 by 0-0", "none"]
abbrev o2 : List Str := ["equal 1 by 0-0-0-0", "equal 1 by 0-0-", "learnt 0 by 1", "learnt -0 by 1", "learnt 1 by -1"]
abbrev o3 : List Str := ["learnt 01 by 1", "learnt 1 by 00", "learnt 1 1 by 2 2", "learnt 1 -1 by none", "Learnt 1 by 2"]
abbrev o4 : List Str := ["learnt none none by 1", "learnt 1 by 1 by 2", "learnt 1234567890 by 1", "equal none by none"]
abbrev o5 : List Str := ["equal 1 by 0--1-2", "learnt 1 by 1 "]
theorem odds_ok : (o1 ++ o2 ++ o3 ++ o4 ++ o5).length = 24 ∧ ∀ z ∈ o1 ++ o2 ++ o3 ++ o4 ++ o5, z.length ≤ 30 ∧ ∀ c ∈ cl z, c < 1000 := by decide +kernel
theorem cat_step {a b : Addr} {xs ys : List Str} {G : Hp} {R : V → Hp → Prop} (ha : G a = some (.lst (xs.map V.str))) (hb : G b = none) (hl : xs.length + ys.length ≤ 1000) (k : ∀ p H', H' p = some (.lst ((xs ++ ys).map V.str)) → Same G H' → R (.ref p) H') :
    rCat (.ref a) (.ref b) (upd G b (.lst (ys.map V.str))) R := by
  refine ⟨a, b, _, _, rfl, rfl, sameNew hb _ _ _ ha, upd_same, szM (by rw [List.length_map, List.length_map]; omega), fun p hp => k p _ ?_ ((sameNew hb _).trans (sameNew hp _))⟩
  rw [List.map_append]
  exact upd_same
theorem sc__law_odd : FnScope ["_law_cell", "_law_some"] ["_law_cell"] (defScope s__law_odd) := ⟨rfl, rfl, rfl, by decide +kernel, rfl, by decide +kernel, by decide +kernel⟩
set_option maxHeartbeats 2000000 in
theorem ok_odd (F : Fun K "_law_odd" "_law_odd" s__law_odd f fd) : FnOk P w K mg base CX0 1 f fd ["_law_cell"] (sp_text 30) := by
  refine F.ok sc__law_odd (fun vs H Q E h => ?_) (fun cdv A outer s H vs Q E hr h => ?_)
  · obtain ⟨c, rfl, _⟩ := h
    rfl
  obtain ⟨c, rfl, q⟩ := h
  refine ⟨_, (pss_cons (ps_set (i := 1) sc__law_odd.nd rfl (Or.inl rfl) (pe_lst (pa_cons pe_str (pa_cons pe_str (pa_cons pe_str (pa_cons pe_str (pa_cons pe_str (pa_cons pe_str (pa_cons pe_str (pa_cons pe_str pa_nil))))))))))
    (pss_cons (ps_set (i := 1) sc__law_odd.nd rfl (Or.inl rfl) (pe_op op_cat (pv 1) (pe_lst (pa_cons pe_str (pa_cons pe_str (pa_cons pe_str (pa_cons pe_str (pa_cons pe_str pa_nil))))))))
    (pss_cons (ps_set (i := 1) sc__law_odd.nd rfl (Or.inl rfl) (pe_op op_cat (pv 1) (pe_lst (pa_cons pe_str (pa_cons pe_str (pa_cons pe_str (pa_cons pe_str (pa_cons pe_str pa_nil))))))))
    (pss_cons (ps_set (i := 1) sc__law_odd.nd rfl (Or.inl rfl) (pe_op op_cat (pv 1) (pe_lst (pa_cons pe_str (pa_cons pe_str (pa_cons pe_str (pa_cons pe_str pa_nil)))))))
    (pss_cons (ps_set (i := 1) sc__law_odd.nd rfl (Or.inl rfl) (pe_op op_cat (pv 1) (pe_lst (pa_cons pe_str (pa_cons pe_str pa_nil)))))
    (pss_one (ps_ret (pe_ix ix_list (pv 1) (pe_op op_mod (pv 0) pe_int) (fun _ _ => rfl))))))))), ?_⟩
  refine ⟨(by show 8 ≤ sizeLine; decide), fun a1 ha1 => ?_⟩
  have s1 : Same H (upd H a1 (.lst (o1.map V.str))) := sameNew ha1 _
  have h1 : (upd H a1 (.lst (o1.map V.str))) a1 = some (.lst (o1.map V.str)) := upd_same
  generalize hG : upd H a1 (.lst (o1.map V.str)) = G1 at s1 h1
  have hG' : upd H a1 (.lst [V.str "", V.str "learnt", V.str "learnt by", V.str "learnt none", V.str "learnt none by", V.str "learnt by none", V.str "equal 1 by 0-0", V.str "none"]) = G1 := hG
  rw [hG']
  refine ⟨_, rfl, (by show 5 ≤ sizeLine; decide), fun b1 hb1 => cat_step (xs := o1) (ys := o2) h1 hb1 (by decide) fun a2 G2 h2 s2 => ?_⟩
  refine ⟨_, rfl, (by show 5 ≤ sizeLine; decide), fun b2 hb2 => cat_step (xs := o1 ++ o2) (ys := o3) h2 hb2 (by decide) fun a3 G3 h3 s3 => ?_⟩
  refine ⟨_, rfl, (by show 4 ≤ sizeLine; decide), fun b3 hb3 => cat_step (xs := o1 ++ o2 ++ o3) (ys := o4) h3 hb3 (by decide) fun a4 G4 h4 s4 => ?_⟩
  refine ⟨_, rfl, (by show 2 ≤ sizeLine; decide), fun b4 hb4 => cat_step (xs := o1 ++ o2 ++ o3 ++ o4) (ys := o5) h4 hb4 (by decide) fun a5 G5 h5 s5 => ?_⟩
  obtain ⟨g1, g2⟩ := odds_ok
  generalize o1 ++ o2 ++ o3 ++ o4 ++ o5 = od at h5 g1 g2
  obtain ⟨v, hv, hm⟩ := at_inM (xs := od.map V.str) (i := c % 24) (Int.emod_nonneg _ (by decide)) (by rw [List.length_map, g1]; exact Int.emod_lt_of_pos _ (by decide))
  obtain ⟨z, hz, rfl⟩ := List.mem_map.mp hm
  exact ⟨_, rfl, _, rfl, _, _, rfl, rfl, (by show (0 : Int) < 24; decide), a5, _, _, _, rfl, rfl, SqL.of h5, hv, q z G5 ⟨(g2 z hz).1, (g2 z hz).2⟩ (s1.trans (s2.trans (s3.trans (s4.trans s5))))⟩
end
end K85

/-! law k85: _law_row, _law_number. Behind K85f. -/
namespace K85
open PySem L2
section
variable {P : Program} {w : World} {K : PySem.W.Frag} {mg : Str → Option Value} {base : Heap} {CB CE : Addr} {f fA fB fC fD : Addr} {fd dA dB dC dD : FuncData}
theorem sm1 : Sm 2 " " ∧ Sm 2 " -" ∧ Sm 6 "learnt" ∧ Sm 6 "equal" ∧ Sm 8 " by" ∧ Sm 8 " none by" ∧ Sm 5 "" ∧ Sm 5 " none" ∧ Sm 1 " " ∧ Sm 1 "-" := by
  refine ⟨⟨?_, ?_⟩, ⟨?_, ?_⟩, ⟨?_, ?_⟩, ⟨?_, ?_⟩, ⟨?_, ?_⟩, ⟨?_, ?_⟩, ⟨?_, ?_⟩, ⟨?_, ?_⟩, ⟨?_, ?_⟩, ⟨?_, ?_⟩⟩ <;> decide +kernel
theorem if01 {b : Bool} : 0 ≤ (if b = true then (1 : Int) else 0) ∧ (if b = true then (1 : Int) else 0) < 2 := by cases b <;> decide
theorem sc__law_row : FnScope ["_law_cell", "_law_row_here", "_law_k"] ["_law_cell"] (defScope s__law_row) := ⟨rfl, rfl, rfl, by decide +kernel, rfl, by decide +kernel, by decide +kernel⟩
theorem szS {n m : Nat} {z : Str} (h : Sm n z) (hn : n ≤ 20000) (hm : z.length = m) : m ≤ sizeLine := szM (by have := h.ln; omega)
set_option maxHeartbeats 1000000 in
theorem ok_row (F : Fun K "_law_row" "_law_row" s__law_row f fd) (T : Txt K mg CB CE) (BG : FB P w K mg base CX0 2 "_law_figure" fA dA ["_law_cell", "_law_k"] sp_fig) : FnOk P w K mg base CX0 3 f fd ["_law_cell"] (sp_text 200) := by
  refine F.ok sc__law_row (fun vs H Q E h => ?_) (fun cdv A outer s H vs Q E hr h => ?_)
  · obtain ⟨c, rfl, _⟩ := h
    rfl
  obtain ⟨c, rfl, q⟩ := h
  obtain ⟨m1, m2, m3, m4, m5, m6, m7, m8, m9, m10⟩ := sm1
  refine ⟨_, (pss_cons (ps_set (i := 1) sc__law_row.nd rfl (Or.inl rfl) (pe_ix ix_list (pe_lst (pa_cons pe_str (pa_cons pe_str pa_nil))) (pe_op op_mod (pv 0) pe_int) (fun _ _ => rfl)))
    (pss_cons (ps_for PassesOwn.never rfl (pi_range1 rfl T.range (pa_cons (pe_op op_mod (pe_op op_fdiv (pv 0) pe_int) pe_int) pa_nil)) (pg_name (i := 2) sc__law_row.nd rfl (Or.inl rfl))
      (pss_one (ps_set (i := 1) sc__law_row.nd rfl (Or.inl rfl) (pe_op op_add_str (pe_op op_add_str (pv 1) (pe_ix ix_list (pe_lst (pa_cons pe_str (pa_cons pe_str pa_nil))) (pe_op op_mod (pe_op op_add (pv 0) (pe_op op_mul (pv 2) (pv 2))) pe_int) (fun _ _ => rfl))) (pe_callTy call_str_int rfl T.str PyProof.Rows.Boot.str (pa_cons (pe_op op_add pe_int (pe_op op_mod (pe_call BG.ok hr rfl BG.m BG.kp BG.b .nil pass0 (pa_cons (pv 0) (pa_cons (pv 2) pa_nil))) (pe_op op_sub (pe_op op_pow pe_int pe_int) pe_int))) pa_nil))))))
    (pss_cons (ps_set (i := 1) sc__law_row.nd rfl (Or.inl rfl) (pe_op op_add_str (pv 1) (pe_ix ix_list (pe_lst (pa_cons pe_str (pa_cons pe_str pa_nil))) (pe_callTy call_int1 rfl T.int PyProof.Rows.Boot.int (pa_cons (pe_cmpR op_eq (pe_op op_mod (pe_op op_fdiv (pv 0) pe_int) pe_int) pe_int (nomark _)) pa_nil)) (fun _ _ => rfl))))
    (pss_cons (ps_for PassesOwn.never rfl (pi_range1 rfl T.range (pa_cons (pe_op op_mod (pe_op op_fdiv (pv 0) pe_int) pe_int) pa_nil)) (pg_name (i := 2) sc__law_row.nd rfl (Or.inl rfl))
      (pss_cons (ps_set (i := 1) sc__law_row.nd rfl (Or.inl rfl) (pe_op op_add_str (pe_op op_add_str (pv 1) pe_str) (pe_callTy call_str_int rfl T.str PyProof.Rows.Boot.str (pa_cons (pe_call BG.ok hr rfl BG.m BG.kp BG.b .nil pass0 (pa_cons (pv 0) (pa_cons (pe_op op_add pe_int (pv 2)) pa_nil))) pa_nil))))
        (pss_one (ps_if (pt_cmpR op_eq (pe_op op_mod (pv 0) pe_int) pe_int (nomark _))
          (pss_one (ps_set (i := 1) sc__law_row.nd rfl (Or.inl rfl) (pe_op op_add_str (pe_op op_add_str (pe_op op_add_str (pe_op op_add_str (pv 1) pe_str) (pe_callTy call_str_int rfl T.str PyProof.Rows.Boot.str (pa_cons (pe_call BG.ok hr rfl BG.m BG.kp BG.b .nil pass0 (pa_cons (pv 0) (pa_cons (pe_op op_add pe_int (pv 2)) pa_nil))) pa_nil))) pe_str) (pe_callTy call_str_int rfl T.str PyProof.Rows.Boot.str (pa_cons (pe_call BG.ok hr rfl BG.m BG.kp BG.b .nil pass0 (pa_cons (pv 0) (pa_cons (pe_op op_add pe_int (pv 2)) pa_nil))) pa_nil)))))
          pss_nil))))
    (pss_one (ps_ret (pe_op op_add_str (pv 1) (pe_ix ix_list (pe_lst (pa_cons pe_str (pa_cons pe_str pa_nil))) (pe_callTy call_int1 rfl T.int PyProof.Rows.Boot.int (pa_cons (pe_cmpR op_eq (pe_op op_mod (pe_op op_fdiv (pv 0) pe_int) pe_int) pe_int (nomark _)) pa_nil)) (fun _ _ => rfl))))))))), ?_⟩
  refine ⟨(by show 2 ≤ sizeLine; decide), fun l0 hl0 => ?_⟩
  obtain ⟨u0, hu0, su0⟩ := at_two_S (e := c % 2) (Int.emod_nonneg _ (by decide)) (Int.emod_lt_of_pos _ (by decide)) m3 m4
  refine ⟨_, rfl, _, _, rfl, rfl, (by show (0 : Int) < 2; decide), l0, _, _, _, rfl, rfl, SqL.of upd_same, hu0, ?_⟩
  have s0 : Same H (upd H l0 (.lst [V.str "learnt", V.str "equal"])) := sameNew hl0 _
  generalize upd H l0 (.lst [V.str "learnt", V.str "equal"]) = H0 at s0
  have a1 := Int.emod_nonneg (c / 2) (show (4 : Int) ≠ 0 by decide)
  have a2 := Int.emod_lt_of_pos (c / 2) (show (0 : Int) < 4 by decide)
  refine ⟨_, rfl, _, _, rfl, rfl, ⟨by decide, by decide⟩, _, _, rfl, rfl, (by show (0 : Int) < 4; decide), _, rfl, (by omega), (by omega), for_by wk_range (fun i σ H' => ∃ (vk : Option V) (z : Str), σ = [some (.int c), some (.str z), vk] ∧ Sm (6 + 12 * i) z ∧ Same H H') (fun _ _ _ _ => trivial) ⟨none, u0, rfl, su0, s0⟩ ?_ ?_⟩
  · rintro i σ Hz x H1 hi ⟨vk, z, rfl, hz, s1⟩ ⟨rfl, rfl⟩
    have hi4 : i < 4 := by omega
    obtain ⟨u, hu, su⟩ := at_two_S (e := (c + (0 + (i : Int)) * (0 + (i : Int))) % 2) (Int.emod_nonneg _ (by decide)) (Int.emod_lt_of_pos _ (by decide)) m1 m2
    refine ⟨_, rfl, (by show 2 ≤ sizeLine; decide), fun l hl => ⟨_, rfl, _, rfl, _, rfl, _, _, rfl, rfl, .inl ⟨by omega, by omega⟩, _, _, rfl, rfl, _, _, rfl, rfl, (by show (0 : Int) < 2; decide), l, _, _, _, rfl, rfl, SqL.of upd_same, hu, _, _, rfl, rfl, szS (hz.app su) (by omega) (len_app _ _), _, rfl, _, rfl, c, _, rfl, fun g H3 g0 g1 s3 => ?_⟩⟩
    have p8 : (10 : Int) ^ (9 : Int).toNat - 1 = 999999999 := by decide
    have b1 := Int.emod_nonneg g (show (999999999 : Int) ≠ 0 by decide)
    have b2 := Int.emod_lt_of_pos g (show (0 : Int) < 999999999 by decide)
    have hn : (1 + g % (10 ^ (9 : Int).toNat - 1)).natAbs < 1000000000 := by
      rw [p8]
      omega
    have hs := (hz.app su).app (Sm.int hn)
    exact ⟨_, _, rfl, rfl, ⟨by decide, by decide, by decide⟩, _, _, rfl, rfl, _, _, rfl, rfl, (by show (0 : Int) < 10 ^ (9 : Int).toNat - 1; decide), _, _, rfl, rfl, _, rfl, int_log9 hn, _, _, rfl, rfl, szS hs (by omega) (len_app _ _), _, _, rfl, hs.mono (by omega), s1.trans ((sameNew hl _).trans s3)⟩
  rintro σ H1 ⟨vk, z, rfl, hz, s1⟩
  have hz2 : Sm 42 z := hz.mono (by omega)
  obtain ⟨u1, hu1, su1⟩ := at_two_S (e := if decide (V.int (c / 2 % 4) = V.int 0) = true then (1 : Int) else 0) if01.1 if01.2 m5 m6
  refine ⟨_, rfl, (by show 2 ≤ sizeLine; decide), fun l1 hl1 => ⟨_, rfl, _, _, rfl, rfl, ⟨by decide, by decide⟩, _, _, rfl, rfl, (by show (0 : Int) < 4; decide), rfl, .inr ⟨_, rfl, l1, _, _, _, rfl, rfl, SqL.of upd_same, hu1, _, _, rfl, rfl, szS (hz2.app su1) (by decide) (len_app _ _), ?_⟩⟩⟩
  have s2 : Same H (upd H1 l1 (.lst [V.str " by", V.str " none by"])) := s1.trans (sameNew hl1 _)
  generalize upd H1 l1 (.lst [V.str " by", V.str " none by"]) = H2 at s2
  have a3 := Int.emod_nonneg (c / 8) (show (5 : Int) ≠ 0 by decide)
  have a4 := Int.emod_lt_of_pos (c / 8) (show (0 : Int) < 5 by decide)
  refine ⟨_, rfl, _, _, rfl, rfl, ⟨by decide, by decide⟩, _, _, rfl, rfl, (by show (0 : Int) < 5; decide), _, rfl, (by omega), (by omega), for_by wk_range (fun i σ H' => ∃ (vk : Option V) (z : Str), σ = [some (.int c), some (.str z), vk] ∧ Sm (50 + 33 * i) z ∧ Same H H') (fun _ _ _ _ => trivial) ⟨vk, _, rfl, hz2.app su1, s2⟩ ?_ ?_⟩
  · rintro i σ Hz x H3 hi ⟨vk, z, rfl, hz, s3⟩ ⟨rfl, rfl⟩
    have hi5 : i < 5 := by omega
    refine ⟨_, rfl, _, _, rfl, rfl, szS (hz.app m9) (by omega) (len_app _ _), _, rfl, _, rfl, _, _, rfl, rfl, c, _, rfl, fun g H4 g0 g1 s4 => ?_⟩
    have hn : g.natAbs < 1000000000 := by omega
    have hs := (hz.app m9).app (Sm.int hn)
    refine ⟨_, rfl, int_log9 hn, _, _, rfl, rfl, szS hs (by omega) (len_app _ _), ?_⟩
    refine ⟨_, rfl, _, _, rfl, rfl, (by show (0 : Int) < 2; decide), rfl, _, rfl, ite2 (fun c2 => ?_) (fun c2 => ?_)⟩
    · refine ⟨_, rfl, _, _, rfl, rfl, szS (hs.app m10) (by omega) (len_app _ _), _, rfl, _, rfl, _, _, rfl, rfl, c, _, rfl, fun g' H5 g0' g1' s5 => ?_⟩
      have hn' : g'.natAbs < 1000000000 := by omega
      have hs' := (hs.app m10).app (Sm.int hn')
      refine ⟨_, rfl, int_log9 hn', _, _, rfl, rfl, szS hs' (by omega) (len_app _ _), _, _, rfl, rfl, szS (hs'.app m10) (by omega) (len_app _ _), _, rfl, _, rfl, _, _, rfl, rfl, c, _, rfl, fun g'' H6 g0'' g1'' s6 => ?_⟩
      have hn'' : g''.natAbs < 1000000000 := by omega
      have hs'' := (hs'.app m10).app (Sm.int hn'')
      exact ⟨_, rfl, int_log9 hn'', _, _, rfl, rfl, szS hs'' (by omega) (len_app _ _), _, _, rfl, hs''.mono (by omega), s3.trans (s4.trans (s5.trans s6))⟩
    · exact ⟨_, _, rfl, hs.mono (by omega), s3.trans s4⟩
  rintro σ H3 ⟨vk, z, rfl, hz, s3⟩
  have hz3 : Sm 190 z := hz.mono (by omega)
  obtain ⟨u2, hu2, su2⟩ := at_two_S (e := if decide (V.int (c / 8 % 5) = V.int 0) = true then (1 : Int) else 0) if01.1 if01.2 m7 m8
  exact ⟨_, rfl, (by show 2 ≤ sizeLine; decide), fun l2 hl2 => ⟨_, rfl, _, _, rfl, rfl, ⟨by decide, by decide⟩, _, _, rfl, rfl, (by show (0 : Int) < 5; decide), rfl, .inr ⟨_, rfl, l2, _, _, _, rfl, rfl, SqL.of upd_same, hu2, _, _, rfl, rfl, szS (hz3.app su2) (by decide) (len_app _ _), q _ _ ((hz3.app su2).mono (by decide)) (s3.trans (sameNew hl2 _))⟩⟩⟩
/-! ### _law_number -/
def lnum (t : Str) : Int := if okN t = true then val t else -1
def sp_lnum : Sp := fun vs H Q _ => ∃ t : Str, vs = [.str t] ∧ Lw t ∧ Q (.int (lnum t)) H
abbrev NN : List Str := ["_law_word", "_law_good", "_law_sign"]
theorem sc__law_number : FnScope NN ["_law_word"] (defScope s__law_number) := ⟨rfl, rfl, rfl, by decide +kernel, rfl, by decide +kernel, by decide +kernel⟩
theorem lnum_tail (T : Txt K mg CB CE) {cdv : Value} {A : Around} {outer : List Env} {s : Shared} {H0 : Hp} {E : XK} :
    ∃ t', PSs (cxOf CX0 P w K mg base NN "_law_number" (defScope s__law_number) f cdv A outer s H0 E).nox ((defBody s__law_number).drop 1) t' ∧
      ∀ (D : Ends) (H : Hp) (t : Str) (b : Bool), Lw t → okN t = (b && dgs (cl t)) → D.rt (.int (lnum t)) H → t' D [some (.str t), some (.bl b), none] H := by
  refine ⟨_, (pss_cons (ps_for PassesOwn.never rfl (pi_str (pv 0)) (pg_name (i := 2) sc__law_number.nd rfl (Or.inl rfl))
      (pss_one (ps_set (i := 1) sc__law_number.nd rfl (Or.inl rfl) (pe_and (pv 1) (pe_one (pe_cmpR op_in_str (pv 2) pe_str rfl))))))
    (pss_one (ps_ret (pe_ifExp (pt_val (pv 1)) (pe_callTy call_int_text rfl T.int PyProof.Rows.Boot.int (pa_cons (pv 0) pa_nil)) (pe_un un_neg pe_int))))), ?_⟩
  intro D H t b lw hb q
  refine ⟨_, rfl, t, rfl, for_by wk_str (fun i σ H' => ∃ vk : Option V, σ = [some (.str t), some (.bl (b && dgs ((cl t).take i))), vk] ∧ H' = H) (fun _ _ _ _ => trivial) ⟨none, by rw [List.take_zero]; simp [dgs], rfl⟩ ?_ ?_⟩
  · rintro i σ Hz x H1 hi ⟨vk, rfl, rfl⟩ ⟨rfl, ch, hch, rfl⟩
    have hch' : (cl t)[i]? = some ch := by
      rw [← hch]
      simp [cl]
    have e : dgs ((cl t).take (i + 1)) = (dgs ((cl t).take i) && decide (48 ≤ ch ∧ ch ≤ 57)) := by
      rw [take_snoc hch']
      simp [dgs]
    refine ⟨_, rfl, _, rfl, ite2 (fun c => ?_) (fun c => ?_)⟩
    · refine ⟨_, rfl, _, _, rfl, rfl, some (.str ⟨#[ch]⟩), ?_, rfl⟩
      rw [in_figs, e, ← Bool.and_assoc, c, Bool.true_and]
      rfl
    · refine ⟨some (.str ⟨#[ch]⟩), ?_, rfl⟩
      rw [e, ← Bool.and_assoc, Bool.eq_false_iff.mpr c, Bool.false_and]
      rfl
  rintro σ H1 ⟨vk, rfl, rfl⟩
  rw [List.take_of_length_le (by rw [cl_len]; omega), ← hb]
  unfold lnum at q
  refine ⟨_, rfl, _, rfl, ite2 (fun c => ?_) (fun c => ?_)⟩
  · rw [if_pos c] at q
    obtain ⟨i1, i2⟩ := int_ok c
    exact ⟨_, rfl, t, _, rfl, i1, i2, q⟩
  · rw [if_neg c] at q
    exact ⟨_, rfl, q⟩
theorem ok_lnum (F : Fun K "_law_number" "_law_number" s__law_number f fd) (T : Txt K mg CB CE) : FnOk P w K mg base CX0 1 f fd ["_law_word"] sp_lnum := by
  refine F.ok sc__law_number (fun vs H Q E h => ?_) (fun cdv A outer s H vs Q E hr h => ?_)
  · obtain ⟨t, rfl, _⟩ := h
    rfl
  obtain ⟨t, rfl, lw, q⟩ := h
  have ln := lw.ln
  obtain ⟨tt, ht, qt⟩ := lnum_tail (P := P) (w := w) (K := K) (base := base) (f := f) (cdv := cdv) (A := A) (outer := outer) (s := s) (H0 := H) (E := E) T
  refine ⟨_, (pss_cons (ps_set (i := 1) sc__law_number.nd rfl (Or.inl rfl) (pe_or (pe_cmpR op_eq (pv 0) pe_str (nomark _)) (pe_one (pe_and (pe_chain op_lt op_lt pe_int (pe_callB call_len_str rfl T.len PySem.boot_len (pa_cons (pv 0) pa_nil)) pe_int) (pe_one (pe_cmpR op_ne (pe_ix ix_str (pv 0) pe_int (fun _ _ => rfl)) pe_str (nomark _))))))) ht), ?_⟩
  have e48 : ("0" : Str) = ⟨#[48]⟩ := by decide +kernel
  refine ⟨_, rfl, rfl, _, rfl, ite2 (fun c => ?_) (fun c => ?_)⟩
  · have hc : t = "0" := V.str.inj (of_decide_eq_true c)
    refine qt _ H t true lw ?_ q
    rw [hc]
    decide +kernel
  have hc : t ≠ "0" := fun e => c (by rw [e]; decide)
  refine ⟨_, rfl, t, rfl, szM (by omega), _, _, rfl, rfl, _, rfl, ite2 (fun c1 => ?_) (fun c1 => ?_)⟩
  · have h0 : 0 < t.length := by
      have := of_decide_eq_true c1
      omega
    refine ⟨_, _, rfl, rfl, _, rfl, ite2 (fun c2 => ?_) (fun c2 => ?_)⟩
    · have h9 : t.length ≤ 9 := by
        have := of_decide_eq_true c2
        omega
      obtain ⟨ch, hch⟩ : ∃ ch, (cl t)[0]? = some ch := ⟨(cl t)[0]'(by rw [cl_len]; omega), List.getElem?_eq_getElem _⟩
      refine ⟨_, rfl, t, _, ch, rfl, rfl, szM (by omega), atI_nat (j := 0) hch, rfl, ?_⟩
      refine qt _ H t _ lw ?_ q
      unfold okN
      rw [decide_eq_true ⟨by omega, h9⟩, hch, decide_eq_false hc, Bool.true_and, Bool.or_false, Bool.and_comm]
      congr 1
      rw [e48]
      rw [Bool.eq_iff_iff, Bool.not_eq_true', decide_eq_true_eq, decide_eq_false_iff_not]
      refine ⟨fun h z => h ?_, fun h z => h ?_⟩
      · have z' := V.str.inj z
        injection z' with z'
        have : ch = 48 := by simpa using z'
        rw [this]
      · rw [Option.some.inj z]
    · refine qt _ H t false lw ?_ q
      have h9 : ¬ (t.length ≤ 9) := fun z => c2 (decide_eq_true (by omega))
      unfold okN
      rw [decide_eq_false (fun z => h9 z.2), Bool.false_and, Bool.false_and]
  · refine ⟨_, rfl, iteF ?_⟩
    refine qt _ H t false lw ?_ q
    have h0 : t.length = 0 := by
      by_cases e : t.length = 0
      · exact e
      · exact absurd (decide_eq_true (by omega)) c1
    unfold okN
    rw [decide_eq_false (fun z => z.1 h0), Bool.false_and, Bool.false_and]
end
end K85

/-! law k85: _law_many. Behind K85g. -/
namespace K85
open PySem L2
def gd (f : Str → Option Dt) (w : Str) : Dt := (f w).getD .non
theorem any_non {f : Str → Option Dt} (hf : ∀ t d, f t = some d → peq d .non = false) : ∀ ws : List Str, ((ws.map (gd f)).any fun d => peq d .non) = (mp f ws).isNone
  | [] => rfl
  | w :: ws => by
    rw [List.map_cons, List.any_cons, any_non hf ws]
    show (peq (gd f w) .non || (mp f ws).isNone) = (match f w, mp f ws with | some a, some r => some (a :: r) | _, _ => none).isNone
    unfold gd
    cases e : f w with
    | none => rfl
    | some d =>
      rw [show (some d).getD Dt.non = d from rfl, hf w d e, Bool.false_or]
      cases mp f ws <;> rfl
theorem map_gd {f : Str → Option Dt} : ∀ {ws : List Str} {ds : List Dt}, mp f ws = some ds → ws.map (gd f) = ds
  | [], ds, h => by cases h; rfl
  | w :: ws, ds, h => by
    unfold mp at h
    cases e1 : f w with
    | none => rw [e1] at h; cases h
    | some a =>
      cases e2 : mp f ws with
      | none => rw [e1, e2] at h; cases h
      | some r =>
        rw [e1, e2] at h
        cases h
        rw [List.map_cons, map_gd e2]
        unfold gd
        rw [e1]
        rfl
theorem nols_gd {f : Str → Option Dt} (hf : ∀ t d, f t = some d → nol d = true) : ∀ ws : List Str, nols (ws.map (gd f)) = true
  | [] => rfl
  | w :: ws => by
    have : nol (gd f w) = true := by
      unfold gd
      cases e : f w with
      | none => simp [nol]
      | some d => exact hf w d e
    rw [List.map_cons]
    simp only [nols, this, nols_gd hf ws, Bool.and_self]
theorem deps_gd {f : Str → Option Dt} (hf : ∀ t d, f t = some d → dep d ≤ 1) : ∀ ws : List Str, deps (ws.map (gd f)) ≤ 1
  | [] => by simp [deps]
  | w :: ws => by
    have h1 : dep (gd f w) ≤ 1 := by
      unfold gd
      cases e : f w with
      | none => simp [dep]
      | some d => exact hf w d e
    have h2 := deps_gd hf ws
    rw [List.map_cons]
    simp only [deps]
    omega
structure Gf (f : Str → Option Dt) : Prop where
  pn : ∀ t d, f t = some d → peq d .non = false
  nl : ∀ t d, f t = some d → nol d = true
  dp : ∀ t d, f t = some d → dep d ≤ 1
theorem gf_rn : Gf rnD := by
  have key : ∀ t d, rnD t = some d → ∃ n, d = .int n := fun t d h => by
    unfold rnD at h
    cases e : rn t with
    | none => rw [e] at h; cases h
    | some n => rw [e] at h; cases h; exact ⟨n, rfl⟩
  exact ⟨fun t d h => by obtain ⟨n, rfl⟩ := key t d h; simp [peq], nol_rn, fun t d h => by obtain ⟨n, rfl⟩ := key t d h; simp [dep]⟩
theorem gf_rp : Gf rpD := by
  have key : ∀ t d, rpD t = some d → ∃ n, d = .int n := fun t d h => by
    unfold rpD at h
    cases e : rp t with
    | none => rw [e] at h; cases h
    | some n => rw [e] at h; cases h; exact ⟨n, rfl⟩
  exact ⟨fun t d h => by obtain ⟨n, rfl⟩ := key t d h; simp [peq], nol_rp, fun t d h => by obtain ⟨n, rfl⟩ := key t d h; simp [dep]⟩
theorem gf_rl : Gf rlD := by
  have key : ∀ t d, rlD t = some d → ∃ n, d = dRow n := fun t d h => by
    unfold rlD at h
    cases e : rl t with
    | none => rw [e] at h; cases h
    | some n => rw [e] at h; cases h; exact ⟨n, rfl⟩
  exact ⟨fun t d h => by obtain ⟨n, rfl⟩ := key t d h; simp [peq, dRow], nol_rl, fun t d h => by obtain ⟨n, rfl⟩ := key t d h; rw [dep_dRow]; decide⟩
def fK (k : Str) : Str → Option Dt := if k = "part" then rpD else fk k
theorem fK_part : fK "part" = rpD := if_pos rfl
theorem fK_isK {k : Str} (h : isK k = true) : fK k = fk k := by
  unfold fK
  rw [if_neg]
  intro e
  rw [e] at h
  exact absurd h (by decide +kernel)
theorem HasL.strs {K : PySem.W.Frag} {H : Hp} : ∀ ws : List Str, HasL K H (ws.map Dt.str) (ws.map V.str)
  | [] => .nil
  | w :: ws => .cons .str' (HasL.strs ws)
theorem nobs_strs : ∀ ws : List Str, nobs (ws.map Dt.str) = true
  | [] => rfl
  | w :: ws => by
    rw [List.map_cons]
    simp only [nobs, nob, nobs_strs ws, Bool.and_self]
theorem deps_strs : ∀ ws : List Str, deps (ws.map Dt.str) = 0
  | [] => by simp [deps]
  | w :: ws => by
    rw [List.map_cons]
    simp only [deps, dep, deps_strs ws]
    rfl
theorem map_str_inj : ∀ {xs ys : List Str}, xs.map Dt.str = ys.map Dt.str → xs = ys
  | [], [], _ => rfl
  | [], _ :: _, h => by cases h
  | _ :: _, [], h => by cases h
  | x :: xs, y :: ys, h => by
    obtain ⟨h1, h2⟩ := List.cons.inj h
    rw [Dt.str.inj h1, map_str_inj h2]
theorem peqs_strs (xs ys : List Str) : peqs (xs.map Dt.str) (ys.map Dt.str) = decide (xs = ys) := by
  rw [Bool.eq_iff_iff, decide_eq_true_eq]
  refine ⟨fun h => ?_, fun h => by rw [h]; exact peqs_refl _⟩
  have e := peqs_eq _ _ (nobs_strs xs) (nobs_strs ys) h
  exact map_str_inj e
theorem val_nn (t : Str) : 0 ≤ val t := Int.natCast_nonneg _
theorem part_val {t : Str} (u : Str) (hu : u = if ng t = true then tail1 t else t) : (0 < lnum u → rpD t = some (.int (if ng t = true then -(lnum u) else lnum u))) ∧ (¬ 0 < lnum u → rpD t = none) := by
  rw [rp_eq, ← hu]
  unfold rn lnum
  have := val_nn u
  cases okN u with
  | false => exact ⟨fun h => by rw [if_neg (by decide)] at h; omega, fun _ => rfl⟩
  | true =>
    rw [if_pos rfl]
    refine ⟨fun h => ?_, fun h => ?_⟩
    · show (if val u = 0 then none else _) = _
      rw [if_neg (by omega)]
    · show (if val u = 0 then none else _) = _
      rw [if_pos (by omega)]
theorem num_val (t : Str) : (0 ≤ lnum t → rnD t = some (.int (lnum t))) ∧ (¬ 0 ≤ lnum t → rnD t = none) := by
  unfold lnum
  have := val_nn t
  cases ho : okN t with
  | false => exact ⟨fun h => by rw [if_neg (by decide)] at h; omega, fun _ => okN_no ho⟩
  | true => exact ⟨fun _ => okN_yes ho, fun h => absurd (by rw [if_pos rfl]; exact this) h⟩
theorem sl1 (t : Str) : decide (V.str (PySem.Txt.slice t none (some 1)) = V.str "-") = ng t := by
  unfold ng
  rw [e45]
  refine decide_eq_decide.mpr ⟨fun h => ?_, fun h => ?_⟩
  · have h' := congrArg cl (V.str.inj h)
    rw [slice_to (by decide)] at h'
    have h2 : (cl t).take 1 = [45] := h'
    cases hl : cl t with
    | nil => rw [hl] at h2; cases h2
    | cons a l => rw [hl] at h2; cases h2; rfl
  · refine congrArg V.str (cl_ext ?_)
    rw [slice_to (by decide)]
    show (cl t).take 1 = [45]
    cases hl : cl t with
    | nil => rw [hl] at h; cases h
    | cons a l => rw [hl] at h; cases h; rfl
section
variable {P : Program} {w : World} {K : PySem.W.Frag} {mg : Str → Option Value} {base : Heap} {CB CE : Addr} {f fA fB fC fD : Addr} {fd dA dB dC dD : FuncData}
def mAns (K : PySem.W.Frag) (o : Option (List Dt)) (H : Hp) (Q : VK) : Prop := match o with
  | some ds => ∀ (v : V) (H' : Hp), v ≠ .non → Same H H' → Has K H' (.tup ds) v → Q v H'
  | none => ∀ H', Same H H' → Q .non H'
def mIs (K : PySem.W.Frag) (o : Option (List Dt)) (H : Hp) (v : V) : Prop := match o with
  | some a => v ≠ .non ∧ Has K H (.tup a) v
  | none => v = .non
def sp_many (K : PySem.W.Frag) : Sp := fun vs H Q _ => ∃ (a : Addr) (ws : List Str) (k : Str), vs = [.ref a, .str k] ∧ SqL K H a (ws.map V.str) ∧ (∀ w ∈ ws, Lw w) ∧ ws.length ≤ 30000 ∧ Gf (fK k) ∧ (k = "part" ∨ isK k = true) ∧ mAns K (many (fK k) ws) H Q
abbrev NM : List Str := ["_law_words", "_law_kind", "_law_found", "_law_word", "_law_number_here", "_law_link"]
theorem sc__law_many : FnScope NM ["_law_words", "_law_kind"] (defScope s__law_many) := ⟨rfl, rfl, rfl, by decide +kernel, rfl, by decide +kernel, by decide +kernel⟩
theorem push {H H2 : Hp} {fl : Addr} {us : List V} {ws : List Str} {i : Nat} {wd : Str} {g : Str → Option Dt} {v : V} (G : Gf g) (hfl0 : H fl = none) (hw : ws[i]? = some wd) (h1 : H2 fl = some (.lst us)) (h2 : HasL K H2 ((ws.take i).map (gd g)) us) (h3 : Same H H2) (hv : Has K H2 (gd g wd) v) :
    HasL K (upd H2 fl (.lst (us ++ [v]))) ((ws.take (i + 1)).map (gd g)) (us ++ [v]) ∧ Same H (upd H2 fl (.lst (us ++ [v]))) := by
  have k := KeepT.lst (ys := us ++ [v]) h1
  refine ⟨?_, h3.upd hfl0⟩
  rw [take_snoc hw, List.map_append]
  refine HasL.append (h2.keep k (nols_gd G.nl _)) (HasL.one (hv.keep k ?_))
  unfold gd
  cases e : g wd with
  | none => simp [nol]
  | some d => exact G.nl wd d e
set_option maxHeartbeats 1000000 in
theorem ok_many (F : Fun K "_law_many" "_law_many" s__law_many f fd) (T : Txt K mg CB CE) (BN : FB P w K mg base CX0 1 "_law_number" fA dA ["_law_word"] sp_lnum) : FnOk P w K mg base CX0 2 f fd ["_law_words", "_law_kind"] (sp_many K) := by
  refine F.ok sc__law_many (fun vs H Q E h => ?_) (fun cdv A outer s H vs Q E hr h => ?_)
  · obtain ⟨a, ws, k, rfl, _⟩ := h
    rfl
  obtain ⟨a, ws, k, rfl, ha, lws, l3, G, hk, q⟩ := h
  have hu : A.units + 3 + 64 < cLine := hr.units
  refine ⟨_, (pss_cons (ps_if (pt_cmpR (op_eqD hr.units) (pv 0) (pe_lst (pa_cons pe_str pa_nil)) rfl)
      (pss_one (ps_ret (pe_tup pa_nil)))
      pss_nil)
    (pss_cons (ps_set (i := 2) sc__law_many.nd rfl (Or.inl rfl) (pe_lst pa_nil))
    (pss_cons (ps_for PassesOwn.never rfl (pi_list (pv 0)) (pg_name (i := 3) sc__law_many.nd rfl (Or.inl rfl))
      (pss_one (ps_if (pt_cmpR op_eq (pv 1) pe_str (nomark _))
          (pss_cons (ps_set (i := 4) sc__law_many.nd rfl (Or.inl rfl) (pe_call BN.ok hr rfl BN.m BN.kp BN.b .nil pass0 (pa_cons (pe_ifExp (pt_cmpR op_eq (pe_slice sl_str (pv 3) po_none (po_some pe_int)) pe_str (nomark _)) (pe_slice sl_str (pv 3) (po_some pe_int) po_none) (pv 3)) pa_nil)))
            (pss_one (ps_expr (pe_bm PySem.F.plainAttrs_list PySem.F.slot_list_append PySem.F.type_list_append mt_append (pv 2) (pa_cons (pe_ifExp (pt_cmpR op_gt (pv 4) pe_int (nomark _)) (pe_ix ix_list (pe_lst (pa_cons (pv 4) (pa_cons (pe_un un_neg (pv 4)) pa_nil))) (pe_callTy call_int1 rfl T.int PyProof.Rows.Boot.int (pa_cons (pe_cmpR op_eq (pe_slice sl_str (pv 3) po_none (po_some pe_int)) pe_str (nomark _)) pa_nil)) (fun _ _ => rfl)) pe_non) pa_nil)))))
          (pss_one (ps_if (pt_cmpR op_eq (pv 1) pe_str (nomark _))
              (pss_cons (ps_set (i := 4) sc__law_many.nd rfl (Or.inl rfl) (pe_call BN.ok hr rfl BN.m BN.kp BN.b .nil pass0 (pa_cons (pv 3) pa_nil)))
                (pss_one (ps_expr (pe_bm PySem.F.plainAttrs_list PySem.F.slot_list_append PySem.F.type_list_append mt_append (pv 2) (pa_cons (pe_ifExp (pt_cmpR op_ge (pv 4) pe_int (nomark _)) (pv 4) pe_non) pa_nil)))))
              (pss_cons (ps_set (i := 5) sc__law_many.nd rfl (Or.inl rfl) (pe_callTy call_tuple_of rfl T.tuple PyProof.Rows.Boot.tuple (pa_cons (pe_lc (N' := ["_law_one"]) (ix := []) rfl rfl (by decide +kernel) (by decide +kernel) rfl (fun _ => ⟨[], clo_none (by decide +kernel) (by decide +kernel)⟩) (by decide +kernel) rfl rfl (fun j i h => by simp at h) (pi_list (pe_bm PySem.F.plainAttrs_str PySem.F.slot_str_split PySem.F.type_str_split mt_split (pv 3) (pa_cons pe_str pa_nil))) (fun _ _ _ _ => (pe_call BN.ok hr rfl BN.m BN.kp BN.b .nil pass0 (pa_cons (pv 0) pa_nil)))) pa_nil)))
                (pss_one (ps_expr (pe_bm PySem.F.plainAttrs_list PySem.F.slot_list_append PySem.F.type_list_append mt_append (pv 2) (pa_cons (pe_ifExp (PW.pt (pw_and (pt_cmpR op_eq (pe_callB call_len_seq rfl T.len PySem.boot_len (pa_cons (pv 5) pa_nil)) pe_int (nomark _)) (pw_and1 (pt_cmpR op_ge (pe_callB (call_minL rfl) rfl T.min PyProof.Rows.Boot.min (pa_cons (pv 5) pa_nil)) pe_int (nomark _))))) (pv 5) pe_non) pa_nil))))))))))
    (pss_one (ps_ret (pe_ifExp (PW.pt (pw_or (pt_cmpR (op_inD hr.units) pe_non (pv 2) rfl) (pw_or1 (pt_cmpR (op_eqD hr.units) (pv 2) (pe_lst pa_nil) rfl)))) pe_non (pe_callTy call_tuple_of rfl T.tuple PyProof.Rows.Boot.tuple (pa_cons (pv 2) pa_nil)))))))), ?_⟩
  refine ⟨_, rfl, (by show 1 ≤ sizeLine; decide), fun l0 hl0 => ?_⟩
  have s0 : Same H (upd H l0 (.lst [V.str "none"])) := sameNew hl0 _
  have h0 : (upd H l0 (.lst [V.str "none"])) l0 = some (.lst ([wNone].map V.str)) := upd_same
  generalize upd H l0 (.lst [V.str "none"]) = H0 at s0 h0
  have d0 : dep (.lst (ws.map Dt.str)) ≤ 60 := by
    have := deps_strs ws
    simp only [dep]
    omega
  refine ⟨.lst (ws.map Dt.str), .lst ([wNone].map Dt.str), Has.lst' (s0.seq ha) (HasL.strs ws), Has.lst' (SqL.of h0) (HasL.strs _), d0, _, rfl, ?_⟩
  have e0 : peq (.lst (ws.map Dt.str)) (.lst ([wNone].map Dt.str)) = decide (ws = [wNone]) := by
    rw [← peqs_strs]
    simp only [peq]
  rw [e0]
  unfold many at q
  refine ite2 (fun c => ?_) (fun c => ?_)
  · rw [if_pos (of_decide_eq_true c)] at q
    exact ⟨(by show 0 ≤ sizeLine; decide), fun l hl => q _ _ (by simp) (s0.trans (sameNew hl _)) (Has.tup' (SqT.of upd_same) .nil)⟩
  rw [if_neg (fun z => c (decide_eq_true z))] at q
  refine ⟨(by show 0 ≤ sizeLine; decide), fun fl hfl => ?_⟩
  have hfl0 : H fl = none := s0.free hfl
  generalize hg : fK k = g at q G
  refine ⟨_, rfl, a, rfl, ⟨_, (sameNew hfl _).seq (s0.seq ha)⟩, for_by wk_list (fun i σ H' => ∃ (v3 v4 v5 : Option V) (us : List V), σ = [some (.ref a), some (.str k), some (.ref fl), v3, v4, v5] ∧ H' fl = some (.lst us) ∧ HasL K H' ((ws.take i).map (gd g)) us ∧ Same H H') (fun i σ H' ⟨_, _, _, _, _, _, _, s4⟩ => s4.seq ha) ⟨none, none, none, [], rfl, upd_same, .nil, s0.trans (sameNew hfl _)⟩ ?_ ?_⟩
  · rintro i σ Hz x H1 hi ⟨v3, v4, v5, us, rfl, h1, h2, s1⟩ ⟨rfl, hx⟩
    have hxi := hx _ (s1.seq ha)
    rw [List.getElem?_map] at hxi
    cases hwi : ws[i]? with
    | none => rw [hwi] at hxi; cases hxi
    | some wd =>
      rw [hwi] at hxi
      cases hxi
      have lw := lws wd (List.mem_of_getElem? hwi)
      have ln := lw.ln
      have ul : us.length ≤ 30000 := by
        have := h2.length
        rw [List.length_map] at this
        have := List.length_take_le i ws
        have := List.length_take_le' i ws
        omega
      refine ⟨_, rfl, rfl, _, rfl, ite2 (fun c1 => ?_) (fun c1 => ?_)⟩
      · have hkp : k = "part" := V.str.inj (of_decide_eq_true c1)
        have hgp : g = rpD := by rw [← hg, hkp, fK_part]
        have fin : ∀ (u : Str), u = (if ng wd = true then tail1 wd else wd) → (0 < lnum u → Has K H1 (gd g wd) (.int (if ng wd = true then -(lnum u) else lnum u))) ∧ (¬ 0 < lnum u → Has K H1 (gd g wd) .non) := fun u hu => by
          obtain ⟨p1, p2⟩ := part_val u hu
          unfold gd
          rw [hgp]
          refine ⟨fun h => ?_, fun h => ?_⟩
          · rw [p1 h]; exact .int
          · rw [p2 h]; simp [Has]
        refine ⟨_, rfl, _, rfl, wd, rfl, szM (by omega), rfl, _, rfl, ?_⟩
        rw [sl1]
        cases hng : ng wd with
        | true =>
          rw [hng] at fin
          obtain ⟨f1, f2⟩ := fin (tail1 wd) rfl
          refine iteT ⟨_, rfl, _, rfl, wd, rfl, szM (by omega), tail1 wd, rfl, lw.slice_from, ?_⟩
          refine ⟨_, rfl, .inl ⟨rfl, _, SqL.of h1⟩, _, rfl, _, _, rfl, rfl, _, rfl, ite2 (fun c2 => ?_) (fun c2 => ?_)⟩
          · refine ⟨_, rfl, _, rfl, _, rfl, (by show 2 ≤ sizeLine; decide), fun l hl => ⟨_, rfl, _, rfl, wd, rfl, szM (by omega), rfl, .inr ⟨_, rfl, ?_⟩⟩⟩
            rw [sl1, hng]
            have sn : Same H1 (upd H1 l (.lst [V.int (lnum (tail1 wd)), V.int (-(lnum (tail1 wd)))])) := sameNew hl _
            have hv := Has.keep sn.kt (by unfold gd; rw [hgp]; cases e : rpD wd with | none => simp [nol] | some d => exact nol_rp wd d e) (f1 (of_decide_eq_true c2))
            obtain ⟨r1, r2⟩ := push (v := .int (-(lnum (tail1 wd)))) G hfl0 hwi (sn _ _ h1) (h2.keep sn.kt (nols_gd G.nl _)) (s1.trans sn) hv
            exact ⟨l, _, _, _, rfl, rfl, SqL.of upd_same, rfl, fl, _, _, rfl, rfl, sn _ _ h1, szM (by omega), _, _, _, _, rfl, upd_same, r1, r2⟩
          · obtain ⟨r1, r2⟩ := push (v := .non) G hfl0 hwi h1 h2 s1 (f2 (fun z => c2 (decide_eq_true z)))
            exact ⟨fl, _, _, rfl, rfl, h1, szM (by omega), _, _, _, _, rfl, upd_same, r1, r2⟩
        | false =>
          rw [hng] at fin
          obtain ⟨f1, f2⟩ := fin wd rfl
          refine iteF ⟨_, rfl, wd, rfl, lw, ?_⟩
          refine ⟨_, rfl, .inl ⟨rfl, _, SqL.of h1⟩, _, rfl, _, _, rfl, rfl, _, rfl, ite2 (fun c2 => ?_) (fun c2 => ?_)⟩
          · refine ⟨_, rfl, _, rfl, _, rfl, (by show 2 ≤ sizeLine; decide), fun l hl => ⟨_, rfl, _, rfl, wd, rfl, szM (by omega), rfl, .inr ⟨_, rfl, ?_⟩⟩⟩
            rw [sl1, hng]
            have sn : Same H1 (upd H1 l (.lst [V.int (lnum wd), V.int (-(lnum wd))])) := sameNew hl _
            have hv := Has.keep sn.kt (by unfold gd; rw [hgp]; cases e : rpD wd with | none => simp [nol] | some d => exact nol_rp wd d e) (f1 (of_decide_eq_true c2))
            obtain ⟨r1, r2⟩ := push (v := .int (lnum wd)) G hfl0 hwi (sn _ _ h1) (h2.keep sn.kt (nols_gd G.nl _)) (s1.trans sn) hv
            exact ⟨l, _, _, _, rfl, rfl, SqL.of upd_same, rfl, fl, _, _, rfl, rfl, sn _ _ h1, szM (by omega), _, _, _, _, rfl, upd_same, r1, r2⟩
          · obtain ⟨r1, r2⟩ := push (v := .non) G hfl0 hwi h1 h2 s1 (f2 (fun z => c2 (decide_eq_true z)))
            exact ⟨fl, _, _, rfl, rfl, h1, szM (by omega), _, _, _, _, rfl, upd_same, r1, r2⟩
      · have hkn : k ≠ "part" := fun e => c1 (by rw [e]; decide)
        have hgk : g = fk k := by
          rw [← hg]
          unfold fK
          rw [if_neg hkn]
        refine ⟨_, rfl, rfl, _, rfl, ite2 (fun c2 => ?_) (fun c2 => ?_)⟩
        · have hgl : g = rnD := by
            rw [hgk]
            unfold fk
            rw [if_pos (V.str.inj (of_decide_eq_true c2))]
          obtain ⟨p1, p2⟩ := num_val wd
          refine ⟨_, rfl, wd, rfl, lw, ?_⟩
          refine ⟨_, rfl, .inl ⟨rfl, _, SqL.of h1⟩, _, rfl, _, _, rfl, rfl, _, rfl, ite2 (fun c3 => ?_) (fun c3 => ?_)⟩
          · obtain ⟨r1, r2⟩ := push (v := .int (lnum wd)) G hfl0 hwi h1 h2 s1 (by
              unfold gd
              rw [hgl, p1 (of_decide_eq_true c3)]
              exact .int)
            exact ⟨_, rfl, fl, _, _, rfl, rfl, h1, szM (by omega), _, _, _, _, rfl, upd_same, r1, r2⟩
          · obtain ⟨r1, r2⟩ := push (v := .non) G hfl0 hwi h1 h2 s1 (by
              unfold gd
              rw [hgl, p2 (fun z => c3 (decide_eq_true z))]
              simp [Has])
            exact ⟨fl, _, _, rfl, rfl, h1, szM (by omega), _, _, _, _, rfl, upd_same, r1, r2⟩
        · have hgl : g = rlD := by
            rw [hgk]
            unfold fk
            rw [if_neg (fun e => c2 (by rw [e]; decide))]
          refine ⟨_, rfl, rfl, wd, _, rfl, rfl, (by decide +kernel), (by omega), fun p hp => ?_⟩
          rw [e45]
          have sl := split_len' wd ⟨#[45]⟩
          have lps : ∀ w ∈ PySem.Txt.split wd ⟨#[45]⟩, Lw w := fun w hw => lw.split hw
          have qe : gd g wd = ((rl wd).map dRow).getD .non := by
            unfold gd
            rw [hgl]
            rfl
          unfold rl at qe
          generalize PySem.Txt.split wd ⟨#[45]⟩ = ps at sl lps qe
          have s2 : Same H1 (upd H1 p (.lst (ps.map V.str))) := sameNew hp _
          have hp2 := upd_same (H := H1) (a := p) (o := .lst (ps.map V.str))
          generalize upd H1 p (.lst (ps.map V.str)) = H2 at s2 hp2
          refine ⟨p, rfl, ⟨_, SqL.of hp2⟩, fun D hD => lc_by wk_list (fun i us H' => Same H2 H' ∧ us = ((ps.take i).map lnum).map V.int) (fun i us H' s4 => s4.1.seq (SqL.of hp2)) ⟨sameNew hD _, rfl⟩ ?_ ?_⟩
          · rintro j us' H8 x H4 hj hly hDs ⟨s4, rfl⟩ ⟨rfl, hx4⟩
            have hxj := hx4 _ (s4.seq (SqL.of hp2))
            rw [List.getElem?_map] at hxj
            cases hpj : ps[j]? with
            | none => rw [hpj] at hxj; cases hxj
            | some pj =>
              rw [hpj] at hxj
              cases hxj
              refine ⟨_, rfl, pj, rfl, lps pj (List.mem_of_getElem? hpj), lc_post (szM (by rw [List.length_map]; omega)) hj hly hDs ⟨s4.upd hD, ?_⟩⟩
              rw [take_snoc hpj, List.map_append, List.map_append]
              rfl
          rintro us' H4 hDs ⟨s4, rfl⟩
          rw [List.length_map, List.take_of_length_le (Nat.le_refl _)] at hDs
          refine ⟨D, _, rfl, .inl ⟨SqL.of hDs, fun l hl => ?_⟩⟩
          have s5 : Same H4 (upd H4 l (.tup ((ps.map lnum).map V.int))) := sameNew hl _
          have h5 : SqT K (upd H4 l (.tup ((ps.map lnum).map V.int))) l ((ps.map lnum).map V.int) := SqT.of upd_same
          generalize upd H4 l (.tup ((ps.map lnum).map V.int)) = H5 at s5 h5
          have s15 := s2.trans (s4.trans s5)
          have h15 := s15 _ _ h1
          have hL5 := h2.keep s15.kt (nols_gd G.nl (ws.take i))
          have none_push : Has K H5 (gd g wd) .non → _ := fun hv => push (v := .non) G hfl0 hwi h15 hL5 (s1.trans s15) hv
          refine ⟨_, rfl, .inl ⟨rfl, _, SqL.of h15⟩, _, rfl, l, _, rfl, .inr h5, rfl, _, rfl, ite2 (fun c3 => ?_) (fun c3 => iteF ?_)⟩
          · have hc3 : ps.length = 3 := by
              have := V.int.inj (of_decide_eq_true c3)
              rw [List.length_map, List.length_map] at this
              omega
            refine ⟨_, rfl, l, ps.map lnum, rfl, .inr h5, (fun e => by rw [List.map_eq_nil_iff] at e; rw [e] at hc3; cases hc3), fun m hm hmin => ⟨_, _, rfl, rfl, _, rfl, ite2 (fun c4 => ?_) (fun c4 => ?_)⟩⟩
            · have h0m : 0 ≤ m := of_decide_eq_true c4
              have hall : ps.all okN = true := List.all_eq_true.mpr fun pj hpj => by
                have := hmin (lnum pj) (List.mem_map.mpr ⟨pj, hpj, rfl⟩)
                unfold lnum at this
                cases ho : okN pj with
                | true => rfl
                | false =>
                  rw [ho, if_neg (by decide)] at this
                  omega
              have emap : ps.map lnum = ps.map val := List.map_congr_left fun pj hpj => by
                unfold lnum
                rw [if_pos (List.all_eq_true.mp hall pj hpj)]
              rw [if_pos ⟨hc3, hall⟩] at qe
              have hv : Has K H5 (gd g wd) (.ref l) := by
                rw [qe]
                show Has K H5 (dRow (ps.map val)) (.ref l)
                rw [← emap]
                exact of_dRow h5
              obtain ⟨r1, r2⟩ := push (v := .ref l) G hfl0 hwi h15 hL5 (s1.trans s15) hv
              exact ⟨_, rfl, fl, _, _, rfl, rfl, h15, szM (by omega), _, _, _, _, rfl, upd_same, r1, r2⟩
            · have hm0 : m < 0 := by
                have : ¬ (0 ≤ m) := fun z => c4 (decide_eq_true z)
                omega
              have hall : ps.all okN ≠ true := fun hall => by
                obtain ⟨pj, hpj, e⟩ := List.mem_map.mp hm
                unfold lnum at e
                rw [if_pos (List.all_eq_true.mp hall pj hpj)] at e
                have := val_nn pj
                omega
              rw [if_neg (fun z => hall z.2)] at qe
              obtain ⟨r1, r2⟩ := none_push (by rw [qe]; simp [Has])
              exact ⟨fl, _, _, rfl, rfl, h15, szM (by omega), _, _, _, _, rfl, upd_same, r1, r2⟩
          · have hc3 : ps.length ≠ 3 := fun e => c3 (by rw [List.length_map, List.length_map, e]; decide)
            rw [if_neg (fun z => hc3 z.1)] at qe
            obtain ⟨r1, r2⟩ := none_push (by rw [qe]; simp [Has])
            exact ⟨fl, _, _, rfl, rfl, h15, szM (by omega), _, _, _, _, rfl, upd_same, r1, r2⟩
  rintro σ H1 ⟨v3, v4, v5, us, rfl, h1, h2, s1⟩
  rw [List.length_map, List.take_of_length_le (Nat.le_refl _)] at h2
  have dd := deps_gd G.dp ws
  refine ⟨_, rfl, fl, us, ws.map (gd g), .non, rfl, .inl (SqL.of h1), h2, (by simp [Has]), (by omega), _, rfl, ?_⟩
  rw [if_neg (by decide), any_non G.pn]
  have dl : dep (.lst (ws.map (gd g))) ≤ 60 := by
    simp only [dep]
    omega
  cases hm : mp g ws with
  | none =>
    rw [hm] at q
    refine iteT (iteT ?_)
    by_cases hw : ws = []
    · rw [hw] at hm; cases hm
    · rw [if_neg hw] at q
      exact q H1 s1
  | some ds =>
    rw [hm] at q
    rw [map_gd hm] at h2 dl
    refine iteF ⟨_, rfl, (by show 0 ≤ sizeLine; decide), fun l hl => ?_⟩
    have s2 : Same H1 (upd H1 l (.lst [])) := sameNew hl _
    have hL2 := h2.keep s2.kt (mp_nols G.nl hm)
    refine ⟨.lst ds, .lst [], Has.lst' (SqL.of (s2 _ _ h1)) hL2, Has.lst' (SqL.of upd_same) .nil, dl, _, rfl, ite2 (fun c2 => ?_) (fun c2 => ?_)⟩
    · have hds : ds = [] := by
        cases ds with
        | nil => rfl
        | cons d r => simp only [peq, peqs] at c2; cases c2
      have hw : ws = [] := by
        have := map_gd hm
        rw [hds, List.map_eq_nil_iff] at this
        exact this
      rw [if_pos hw] at q
      exact q _ (s1.trans s2)
    · have hw : ws ≠ [] := fun e => by
        rw [e] at hm
        cases hm
        exact c2 (by simp only [peq, peqs])
      rw [if_neg hw] at q
      exact ⟨_, rfl, fl, _, rfl, .inl ⟨SqL.of (s2 _ _ h1), fun p hp => q _ _ (by simp) (s1.trans (s2.trans (sameNew hp _))) (Has.tup' (SqT.of upd_same) (hL2.keep (sameNew hp _).kt (mp_nols G.nl hm)))⟩⟩
end
end K85

/-! law k85: _law_due. Behind K85h. -/
namespace K85
open PySem L2
theorem at_last {xs : List V} {z : V} : atI (xs ++ [z]) (-1) = some z := by
  unfold atI ixN
  rw [if_neg (by decide), List.length_append, List.length_singleton]
  rw [if_pos (by omega)]
  have e : (-1 + ((xs.length + 1 : Nat) : Int)).toNat = xs.length := by omega
  show (xs ++ [z])[(-1 + ((xs.length + 1 : Nat) : Int)).toNat]? = some z
  rw [e]
  simp
theorem cut_ini (ini : List V) (z : V) : cutV (ini ++ [z]) none (some (-1)) = ini := by
  unfold cutV
  have e : HT.sIx (ini ++ [z]).length (ini ++ [z]).length (some (-1)) = ini.length := by
    show (if (-1 : Int) < 0 then ((-1 : Int) + ((ini ++ [z]).length : Int)).toNat else min (-1 : Int).toNat (ini ++ [z]).length) = ini.length
    rw [if_pos (by decide), List.length_append]
    simp only [List.length_singleton]
    omega
  rw [e, HT.sIx_none, List.drop_zero, Nat.sub_zero, List.take_left]
theorem cut_mid {x : V} {r : List V} {j : Nat} (hj : j ≤ r.length) : cutV (x :: r) (some 1) (some ((j + 1 : Nat) : Int)) = r.take j := by
  unfold cutV
  rw [show (some (1 : Int) : Option Int) = some ((1 : Nat) : Int) from rfl, HT.sIx_nat, HT.sIx_nat, List.length_cons, Nat.min_eq_left (by omega), Nat.min_eq_left (by omega)]
  show r.take (j + 1 - 1) = _
  rw [Nat.add_sub_cancel]
theorem cut_end {x : V} {r : List V} {j : Nat} (hj : j ≤ r.length) : cutV (x :: r) (some ((j + 1 : Nat) : Int)) none = r.drop j := by
  unfold cutV
  rw [HT.sIx_nat, HT.sIx_none, List.length_cons, Nat.min_eq_left (by omega)]
  show (r.drop j).take _ = _
  rw [List.take_of_length_le]
  rw [List.length_drop]
  omega
theorem any_isK (k : Str) : (([.str "learnt", .str "equal"] : List Dt).any fun d => peq d (.str k)) = isK k := by
  unfold isK
  simp only [List.any_cons, List.any_nil, peq, Bool.or_false]
  congr 1
  · rw [Bool.eq_iff_iff, beq_iff_eq, decide_eq_true_eq]
    exact eq_comm
  · rw [Bool.eq_iff_iff, beq_iff_eq, decide_eq_true_eq]
    exact eq_comm
theorem any_by (ws : List Str) : ((ws.map Dt.str).any fun d => peq d (.str wBy)) = decide (wBy ∈ ws) := by
  rw [Bool.eq_iff_iff, List.any_eq_true, decide_eq_true_eq]
  refine ⟨fun h => ?_, fun h => ⟨.str wBy, List.mem_map.mpr ⟨_, h, rfl⟩, peq_refl _⟩⟩
  obtain ⟨d, hd, e⟩ := h
  obtain ⟨w, hw, rfl⟩ := List.mem_map.mp hd
  simp only [peq, beq_iff_eq] at e
  rw [← e]
  exact hw
theorem lawL_eq {x k : Str} {r : List Str} (hw : PySem.Txt.split x ⟨#[32]⟩ = k :: r) : lawL x = if isK k = true ∧ wBy ∈ r then
      match many rpD (r.take (fb r)), many (fk k) (r.drop (fb r + 1)) with
      | some a, some b => some (mk k a b)
      | _, _ => none
    else none := by
  unfold lawL
  rw [hw] <;> rfl
theorem nol_lawL : ∀ t d, lawL t = some d → nol d = true := fun t d h => nol_progL t d (by rw [line_eq]; exact h)
section
variable {P : Program} {w : World} {K : PySem.W.Frag} {mg : Str → Option Value} {base : Heap} {CB CE : Addr} {f fA fB fC fD : Addr} {fd dA dB dC dD : FuncData}
def sp_due (K : PySem.W.Frag) : Sp := fun vs H Q _ => ∃ t : Str, vs = [.str t] ∧ Lw t ∧ match lawP t with
  | some ds => ∀ (p : Addr) (us : List V) (H' : Hp), Same H H' → H p = none → H' p = some (.lst us) → HasL K H' ds us → Q (.ref p) H'
  | none => ∀ H', Same H H' → Q .non H'
theorem sc__law_due : FnScope ["_law_text", "_law_rows", "_law_found", "_law_row_here", "_law_words", "_law_cut", "_law_parts", "_law_more"] ["_law_text"] (defScope s__law_due) := ⟨rfl, rfl, rfl, by decide +kernel, rfl, by decide +kernel, by decide +kernel⟩
theorem gf_fk (k : Str) : Gf (fk k) := by
  unfold fk
  split
  · exact gf_rn
  · exact gf_rl
theorem many_cases {K : PySem.W.Frag} {o : Option (List Dt)} {H : Hp} {k : VK} (h : ∀ (v : V) (H' : Hp), Same H H' → mIs K o H' v → k v H') : mAns K o H k := by
  cases o with
  | none => exact fun H' s' => h _ H' s' rfl
  | some a => exact fun v H' hn s' hv => h v H' s' ⟨hn, hv⟩
theorem nols_of_many {g : Str → Option Dt} (G : Gf g) {ws : List Str} {a : List Dt} (h : many g ws = some a) : nols a = true := by
  unfold many at h
  split at h
  · cases h; rfl
  · split at h
    · cases h
    · exact mp_nols G.nl h
set_option maxHeartbeats 1000000 in
theorem ok_due (F : Fun K "_law_due" "_law_due" s__law_due f fd) (BM : FB P w K mg base CX0 2 "_law_many" fA dA ["_law_words", "_law_kind"] (sp_many K)) : FnOk P w K mg base CX0 3 f fd ["_law_text"] (sp_due K) := by
  refine F.ok sc__law_due (fun vs H Q E h => ?_) (fun cdv A outer s H vs Q E hr h => ?_)
  · obtain ⟨t, rfl, _⟩ := h
    rfl
  obtain ⟨t, rfl, lw, q⟩ := h
  have ln := lw.ln
  refine ⟨_, (pss_cons (ps_set (i := 1) sc__law_due.nd rfl (Or.inl rfl) (pe_bm PySem.F.plainAttrs_str PySem.F.slot_str_split PySem.F.type_str_split mt_split (pv 0) (pa_cons pe_str pa_nil)))
    (pss_cons (ps_if (pt_cmpR op_ne (pe_ix ix_list (pv 1) (pe_un un_neg pe_int) (fun _ _ => rfl)) pe_str (nomark _))
      (pss_one (ps_ret pe_non))
      pss_nil)
    (pss_cons (ps_set (i := 2) sc__law_due.nd rfl (Or.inl rfl) (pe_lst pa_nil))
    (pss_cons (ps_for PassesOwn.never rfl (pi_list (pe_slice sl_list (pv 1) po_none (po_some (pe_un un_neg pe_int)))) (pg_name (i := 3) sc__law_due.nd rfl (Or.inl rfl))
      (pss_cons (ps_set (i := 4) sc__law_due.nd rfl (Or.inl rfl) (pe_bm PySem.F.plainAttrs_str PySem.F.slot_str_split PySem.F.type_str_split mt_split (pv 3) (pa_cons pe_str pa_nil)))
        (pss_cons (ps_if (PW.pt (pw_or (pt_cmpR (op_notInD hr.units) (pe_ix ix_list (pv 4) pe_int (fun _ _ => rfl)) (pe_tup (pa_cons pe_str (pa_cons pe_str pa_nil))) rfl) (pw_or1 (pt_cmpR (op_notInD hr.units) pe_str (pv 4) rfl))))
          (pss_one (ps_ret pe_non))
          pss_nil)
        (pss_cons (ps_set (i := 5) sc__law_due.nd rfl (Or.inl rfl) (pe_bm PySem.F.plainAttrs_list PySem.F.slot_list_index PySem.F.type_list_index (mt_indexD hr.units) (pv 4) (pa_cons pe_str pa_nil)))
        (pss_cons (ps_set (i := 6) sc__law_due.nd rfl (Or.inl rfl) (pe_call BM.ok hr rfl BM.m BM.kp BM.b .nil pass0 (pa_cons (pe_slice sl_list (pv 4) (po_some pe_int) (po_some (pv 5))) (pa_cons pe_str pa_nil))))
        (pss_cons (ps_set (i := 7) sc__law_due.nd rfl (Or.inl rfl) (pe_call BM.ok hr rfl BM.m BM.kp BM.b .nil pass0 (pa_cons (pe_slice sl_list (pv 4) (po_some (pe_op op_add (pv 5) pe_int)) po_none) (pa_cons (pe_ix ix_list (pv 4) pe_int (fun _ _ => rfl)) pa_nil))))
        (pss_cons (ps_if (PW.pt (pw_or (pt_cmpR op_isN (pv 6) pe_non (nomark _)) (pw_or1 (pt_cmpR op_isN (pv 7) pe_non (nomark _)))))
          (pss_one (ps_ret pe_non))
          pss_nil)
        (pss_one (ps_expr (pe_bm PySem.F.plainAttrs_list PySem.F.slot_list_append PySem.F.type_list_append mt_append (pv 2) (pa_cons (pe_tup (pa_cons (pe_ix ix_list (pv 4) pe_int (fun _ _ => rfl)) (pa_cons (pv 6) (pa_cons (pv 7) pa_nil)))) pa_nil)))))))))))
    (pss_one (ps_ret (pv 2))))))), ?_⟩
  refine ⟨_, rfl, rfl, t, _, rfl, rfl, (by decide +kernel), (by omega), fun p hp => ?_⟩
  rw [e10]
  have sl := split_len' t ⟨#[10]⟩
  have lrs : ∀ x ∈ PySem.Txt.split t ⟨#[10]⟩, Lw x := fun x hx => lw.split hx
  obtain ⟨ini, last, he⟩ : ∃ ini last, PySem.Txt.split t ⟨#[10]⟩ = ini ++ [last] := by
    obtain ⟨l', b, e⟩ := (List.eq_nil_or_concat _).resolve_left (split_ne t ⟨#[10]⟩)
    exact ⟨l', b, by rw [e, List.concat_eq_append]⟩
  unfold lawP at q
  rw [he] at q sl lrs
  rw [he, List.getLast?_concat, List.dropLast_concat] at *
  rw [List.map_append]
  have s1 : Same H (upd H p (.lst (ini.map V.str ++ [last].map V.str))) := sameNew hp _
  have h1 := upd_same (H := H) (a := p) (o := .lst (ini.map V.str ++ [last].map V.str))
  generalize upd H p (.lst (ini.map V.str ++ [last].map V.str)) = H1 at s1 h1
  refine ⟨_, rfl, _, rfl, p, _, _, _, rfl, rfl, SqL.of h1, at_last, rfl, _, rfl, ite2 (fun c => ?_) (fun c => ?_)⟩
  · have hc : last ≠ Str.empty := fun e => by
      subst e
      exact absurd c (by decide)
    rw [if_neg (fun z => hc (Option.some.inj z))] at q
    exact q H1 s1
  have hc : last = Str.empty := by
    by_cases e : last = Str.empty
    · exact e
    · refine absurd ?_ c
      rw [decide_eq_false (p := V.str last = V.str "") fun z => e (V.str.inj z)]
      rfl
  rw [if_pos (by rw [hc])] at q
  refine ⟨(by show 0 ≤ sizeLine; decide), fun fl hfl => ?_⟩
  have s2 : Same H1 (upd H1 fl (.lst [])) := sameNew hfl _
  have h2 := upd_same (H := H1) (a := fl) (o := .lst [])
  have hfl0 : H fl = none := s1.free hfl
  generalize upd H1 fl (.lst []) = H2 at s2 h2
  refine ⟨_, rfl, _, rfl, _, rfl, p, _, rfl, SqL.of (s2 _ _ h1), fun p2 hp2 => ?_⟩
  rw [show [last].map V.str = [V.str last] from rfl, cut_ini]
  have s3 : Same H2 (upd H2 p2 (.lst (ini.map V.str))) := sameNew hp2 _
  have h3 := upd_same (H := H2) (a := p2) (o := .lst (ini.map V.str))
  generalize upd H2 p2 (.lst (ini.map V.str)) = H3 at s3 h3
  have il : ini.length ≤ 30000 := by
    rw [List.length_append] at sl
    omega
  have s03 := s1.trans (s2.trans s3)
  have hne : p2 ≠ fl := fun e => by
    have z := h2
    rw [← e, hp2] at z
    cases z
  refine ⟨p2, rfl, ⟨_, SqL.of h3⟩, for_by wk_list (fun i σ H' => ∃ (v3 v4 v5 v6 v7 : Option V) (us : List V) (ds : List Dt), σ = [some (.str t), some (.ref p), some (.ref fl), v3, v4, v5, v6, v7] ∧ H' fl = some (.lst us) ∧ H' p2 = some (.lst (ini.map V.str)) ∧ mp lawL (ini.take i) = some ds ∧ HasL K H' ds us ∧ Same H H') (fun i σ H' ⟨_, _, _, _, _, _, _, _, _, h, _⟩ => SqL.of h) ⟨none, none, none, none, none, [], [], rfl, s3 _ _ h2, h3, rfl, .nil, s03⟩ ?_ ?_⟩
  · rintro i σ Hz x H4 hi ⟨v3, v4, v5, v6, v7, us, ds, rfl, h4, h4p, em, hL, s4⟩ ⟨rfl, hx⟩
    have hxi := hx _ (SqL.of h4p)
    rw [List.getElem?_map] at hxi
    cases hwi : ini[i]? with
    | none => rw [hwi] at hxi; cases hxi
    | some row =>
      rw [hwi] at hxi
      cases hxi
      have hmem := List.mem_of_getElem? hwi
      have lr := lrs row (List.mem_append_left _ hmem)
      have lnr := lr.ln
      have ul : us.length ≤ 30000 := by
        have e1 := hL.length
        have e2 := map_gd em
        have e3 := congrArg List.length e2
        rw [List.length_map, List.length_take] at e3
        omega
      have bad : lawL row = none → ∀ H', Same H4 H' → Q .non H' := fun e H' s' => by
        rw [mp_none e hmem] at q
        exact q H' (s4.trans s')
      refine ⟨_, rfl, rfl, row, _, rfl, rfl, (by decide +kernel), (by omega), fun wl hwl => ?_⟩
      rw [e32]
      have slr := split_len' row ⟨#[32]⟩
      have lwr : ∀ x ∈ PySem.Txt.split row ⟨#[32]⟩, Lw x := fun x hx => lr.split hx
      obtain ⟨k, r, hws⟩ : ∃ k r, PySem.Txt.split row ⟨#[32]⟩ = k :: r := by
        cases e : PySem.Txt.split row ⟨#[32]⟩ with
        | nil => exact absurd e (split_ne _ _)
        | cons k r => exact ⟨k, r, rfl⟩
      have eL := lawL_eq hws
      rw [hws] at slr lwr ⊢
      have rl : r.length ≤ 30000 := by
        rw [List.length_cons] at slr
        omega
      have s5 : Same H4 (upd H4 wl (.lst ((k :: r).map V.str))) := sameNew hwl _
      have h5 := upd_same (H := H4) (a := wl) (o := .lst ((k :: r).map V.str))
      generalize upd H4 wl (.lst ((k :: r).map V.str)) = H5 at s5 h5
      refine ⟨_, rfl, wl, _, _, _, rfl, rfl, SqL.of h5, (atI_nat (j := 0) rfl), (by show 2 ≤ sizeLine; decide), fun lt hlt => ?_⟩
      have s6 : Same H5 (upd H5 lt (.tup [V.str "learnt", V.str "equal"])) := sameNew hlt _
      have h6 : SqT K (upd H5 lt (.tup [V.str "learnt", V.str "equal"])) lt [V.str "learnt", V.str "equal"] := SqT.of upd_same
      generalize upd H5 lt (.tup [V.str "learnt", V.str "equal"]) = H6 at s6 h6
      have s46 := s5.trans s6
      refine ⟨lt, _, [.str "learnt", .str "equal"], .str k, rfl, .inr h6, .cons .str' (.cons .str' .nil), .str', (by simp [deps, dep]), _, rfl, ?_⟩
      rw [if_pos rfl, any_isK]
      cases hk : isK k with
      | false =>
        refine iteT (iteT (bad ?_ H6 s46))
        rw [eL, if_neg (fun z => by rw [hk] at z; cases z.1)]
      | true =>
        obtain ⟨_, _, kby⟩ := isK_nb hk
        have h6w := s6 _ _ h5
        refine iteF ⟨_, rfl, wl, _, (k :: r).map Dt.str, .str wBy, rfl, .inl (SqL.of h6w), HasL.strs _, .str', (by rw [deps_strs]; decide), _, rfl, ?_⟩
        rw [if_pos rfl, any_by]
        by_cases hb : wBy ∈ r
        · rw [decide_eq_true (List.mem_cons_of_mem _ hb)]
          refine iteF ?_
          rw [if_pos ⟨hk, hb⟩] at eL
          obtain ⟨fa1, fa2⟩ := fb_at hb
          have flt : fb r < r.length := (List.getElem?_eq_some_iff.mp fa1).1
          refine ⟨_, rfl, .inl ⟨rfl, _, SqL.of h6w⟩, wl, _, (k :: r).map Dt.str, _, .str wBy, fb r + 1, rfl, rfl, h6w, HasL.strs _, .str', (by rw [deps_strs]; decide), ⟨.str wBy, ?_, peq_refl _⟩, fun m dm hm hdm => ?_, ?_⟩
          · rw [List.map_cons, List.getElem?_cons_succ, List.getElem?_map, fa1]
            rfl
          · cases m with
            | zero =>
              rw [List.map_cons, List.getElem?_cons_zero] at hdm
              cases hdm
              simp only [peq]
              exact beq_eq_false_iff_ne.mpr kby
            | succ m =>
              rw [List.map_cons, List.getElem?_cons_succ, List.getElem?_map] at hdm
              cases hrm : r[m]? with
              | none => rw [hrm] at hdm; cases hdm
              | some x =>
                rw [hrm] at hdm
                cases hdm
                simp only [peq]
                refine beq_eq_false_iff_ne.mpr fun e => fa2 m (by omega) ?_
                rw [hrm, e]
          refine ⟨_, rfl, _, rfl, _, rfl, _, rfl, wl, _, rfl, SqL.of h6w, fun pa hpa => ?_⟩
          rw [List.map_cons, cut_mid (by rw [List.length_map]; omega), ← List.map_take]
          have s7 : Same H6 (upd H6 pa (.lst ((r.take (fb r)).map V.str))) := sameNew hpa _
          have h7 := upd_same (H := H6) (a := pa) (o := .lst ((r.take (fb r)).map V.str))
          generalize upd H6 pa (.lst ((r.take (fb r)).map V.str)) = H7 at s7 h7
          have tl : (r.take (fb r)).length ≤ 30000 := Nat.le_trans (List.length_take_le' _ _) rl
          refine ⟨pa, r.take (fb r), "part", rfl, SqL.of h7, fun x hx => lwr x (List.mem_cons_of_mem _ (List.mem_of_mem_take hx)), tl, fK_part ▸ gf_rp, .inl rfl, ?_⟩
          rw [fK_part]
          refine many_cases fun v6' H8 s8 hv6 => ?_
          have h8w := s8 _ _ (s7 _ _ h6w)
          refine ⟨_, rfl, _, rfl, _, _, rfl, rfl, _, rfl, wl, _, rfl, SqL.of h8w, fun pb hpb => ?_⟩
          rw [List.map_cons, show (((fb r + 1 : Nat) : Int) + 1) = ((fb r + 1 + 1 : Nat) : Int) from rfl, cut_end (by rw [List.length_map]; omega), ← List.map_drop]
          have s9 : Same H8 (upd H8 pb (.lst ((r.drop (fb r + 1)).map V.str))) := sameNew hpb _
          have h9 := upd_same (H := H8) (a := pb) (o := .lst ((r.drop (fb r + 1)).map V.str))
          generalize upd H8 pb (.lst ((r.drop (fb r + 1)).map V.str)) = H9 at s9 h9
          have dl : (r.drop (fb r + 1)).length ≤ 30000 := by rw [List.length_drop]; omega
          refine ⟨_, rfl, wl, _, _, _, rfl, rfl, SqL.of (s9 _ _ h8w), (atI_nat (j := 0) rfl), pb, r.drop (fb r + 1), k, rfl, SqL.of h9, fun x hx => lwr x (List.mem_cons_of_mem _ (List.mem_of_mem_drop hx)), dl, fK_isK hk ▸ gf_fk k, .inr hk, ?_⟩
          rw [fK_isK hk]
          refine many_cases fun v7' H10 s10 hv7 => ?_
          have s4x := s46.trans (s7.trans (s8.trans (s9.trans s10)))
          refine ⟨_, rfl, rfl, _, rfl, ?_⟩
          cases ha : many rpD (r.take (fb r)) with
          | none =>
            rw [ha] at hv6 eL
            have hv6' : v6' = .non := hv6
            subst hv6'
            rw [decide_eq_true rfl]
            exact iteT (iteT (bad eL H10 s4x))
          | some a =>
            rw [ha] at hv6 eL
            replace hv6 : v6' ≠ .non ∧ Has K H8 (.tup a) v6' := hv6
            rw [decide_eq_false hv6.1]
            refine iteF ⟨_, rfl, rfl, _, rfl, ?_⟩
            cases hb' : many (fk k) (r.drop (fb r + 1)) with
            | none =>
              rw [hb'] at hv7 eL
              have hv7' : v7' = .non := hv7
              subst hv7'
              rw [decide_eq_true rfl]
              exact iteT (bad eL H10 s4x)
            | some b =>
              rw [hb'] at hv7 eL
              replace hv7 : v7' ≠ .non ∧ Has K H10 (.tup b) v7' := hv7
              dsimp only at eL
              rw [decide_eq_false hv7.1]
              refine iteF ?_
              have h10w := s10 _ _ (s9 _ _ h8w)
              have h10f := s4x _ _ h4
              refine ⟨_, rfl, .inl ⟨rfl, _, SqL.of h10f⟩, _, rfl, wl, _, _, _, rfl, rfl, SqL.of h10w, (atI_nat (j := 0) rfl), _, rfl, _, rfl, (by show 3 ≤ sizeLine; decide), fun lp hlp => ?_⟩
              have s11 : Same H10 (upd H10 lp (.tup [.str k, v6', v7'])) := sameNew hlp _
              have na := nols_of_many gf_rp ha
              have nb := nols_of_many (gf_fk k) hb'
              have hd : Has K (upd H10 lp (.tup [.str k, v6', v7'])) (mk k a b) (.ref lp) := Has.tup' (SqT.of upd_same) (.cons .str' (.cons (Has.keep (s9.trans (s10.trans s11)).kt (by simp only [nol]; exact na) hv6.2) (.cons (Has.keep s11.kt (by simp only [nol]; exact nb) hv7.2) .nil)))
              have hLx := hL.keep (s4x.trans s11).kt (mp_nols nol_lawL em)
              have h11f := s11 _ _ h10f
              have kk : KeepT (upd H10 lp (.tup [.str k, v6', v7'])) (upd (upd H10 lp (.tup [.str k, v6', v7'])) fl (.lst (us ++ [.ref lp]))) := KeepT.lst h11f
              refine ⟨fl, _, _, rfl, rfl, h11f, szM (by omega), _, _, _, _, _, us ++ [.ref lp], ds ++ [mk k a b], rfl, upd_same, ?_, ?_, ?_, (s4.trans (s4x.trans s11)).upd hfl0⟩
              · rw [upd_ne hne]
                exact s11 _ _ (s4x _ _ h4p)
              · rw [take_snoc hwi]
                exact mp_snoc eL em
              · exact HasL.append (hLx.keep kk (mp_nols nol_lawL em)) (HasL.one (hd.keep kk (nol_lawL row _ eL)))
        · rw [decide_eq_false (fun z => by
            rcases List.mem_cons.mp z with e | e
            · exact kby e.symm
            · exact hb e)]
          refine iteT (bad ?_ H6 s46)
          rw [eL, if_neg (fun z => hb z.2)]
  rintro σ H4 ⟨v3, v4, v5, v6, v7, us, ds, rfl, h4, h4p, em, hL, s4⟩
  rw [List.length_map, List.take_of_length_le (Nat.le_refl _)] at em
  rw [em] at q
  exact ⟨_, rfl, q fl us H4 s4 hfl0 h4 hL⟩
end
end K85

/-! law k85: _law_whole, _law_cell_at, _law_kinds, _law_refused. Behind K85i. -/
namespace K85
open PySem L2
structure Exm (K : PySem.W.Frag) (mg : Str → Option Value) (CB CE : Addr) : Prop where
  pp : PySem.W.exmOne K (.ref CB) (.ref CB) = some true
  pe : PySem.W.exmOne K (.ref CB) (.ref CE) = some true
  kv : PySem.W.kitOne K (.ref CB) (.type "ValueError") = some true
  v : mg "ValueError" = none
  ne : CB ≠ CE
  ib : PySem.W.kitOne K (.type "int") (.type "bool") = some false
theorem kit_cls_of {K : PySem.W.Frag} {D : Addr} (h : PySem.W.kitOne K (.ref D) (.type "ValueError") = some true) : PySem.W.kitCls K (.ref D) (.type "ValueError") = some true := by
  unfold PySem.W.kitOne at h
  rw [if_neg (show ¬ (Value.ref D == Value.type "ValueError") = true from by intro z; cases z)] at h
  exact h
theorem cls_of_exm {K : PySem.W.Frag} {D C : Addr} (h : PySem.W.exmOne K (.ref D) (.ref C) = some true) : PySem.W.kitCls K (.ref D) (.ref C) = some true := by
  unfold PySem.W.exmOne at h
  split at h
  · exact h
  · cases h
def rIsiC (K : PySem.W.Frag) : List V → Hp → VK → Prop := fun xs H Q => ∃ ea C C1, xs = [.ref ea, .ref C1] ∧ H ea = some (.ext (ExcOf ea C)) ∧ C ≠ C1 ∧ PySem.W.kitCls K (.ref C) (.ref C1) = some true ∧ Q (.bl true) H
theorem call_isiC {X : Cx} : CallR X (.builtin "isinstance") (rIsiC X.K) := by
  intro pins s σ H xs us Q I r h
  obtain ⟨ea, C, C1, rfl, hH, hn, hk, q⟩ := h
  obtain ⟨u, w', rfl, rx, ry⟩ := vals2 r
  cases (show w' = Value.ref C1 from ry)
  cases (show u = Value.ref ea from rx)
  obtain ⟨⟨oe, he, hcl⟩, _⟩ := I.hok ea _ hH
  have LT : PySem.W.Looks (model X.prog X.w) s.heap (typeOf (.ref ea)) (.ref C) := hcl ▸ (PySem.W.Looks.ld he).andThen .now
  exact isi_yes LT I.kIn (by simpa using hn) hk ⟨.bl true, H, I, rfl, q⟩
/-- a line's datum -/
structure LnD (d : Dt) : Prop where
  ex : ∃ (k : Str) (as : List Int) (bs : List Dt), d = mk k (as.map Dt.int) bs ∧ isK k = true ∧ (k = "learnt" → ∃ ns : List Int, bs = ns.map Dt.int) ∧ (k ≠ "learnt" → ∃ ls : List (List Int), bs = ls.map dRow)
theorem mp_shape {α : Type} {c : α → Dt} {f : Str → Option Dt} (hf : ∀ t d, f t = some d → ∃ n, d = c n) : ∀ {ws : List Str} {ds : List Dt}, mp f ws = some ds → ∃ ns : List α, ds = ns.map c
  | [], ds, h => by cases h; exact ⟨[], rfl⟩
  | w :: ws, ds, h => by
    unfold mp at h
    cases e1 : f w with
    | none => rw [e1] at h; cases h
    | some a =>
      cases e2 : mp f ws with
      | none => rw [e1, e2] at h; cases h
      | some r =>
        rw [e1, e2] at h
        cases h
        obtain ⟨n, rfl⟩ := hf w a e1
        obtain ⟨ns, rfl⟩ := mp_shape hf e2
        exact ⟨n :: ns, rfl⟩
theorem sh_rn : ∀ t d, rnD t = some d → ∃ n, d = Dt.int n := fun t d h => by
  unfold rnD at h
  cases e : rn t with
  | none => rw [e] at h; cases h
  | some n => rw [e] at h; cases h; exact ⟨n, rfl⟩
theorem sh_rp : ∀ t d, rpD t = some d → ∃ n, d = Dt.int n := fun t d h => by
  unfold rpD at h
  cases e : rp t with
  | none => rw [e] at h; cases h
  | some n => rw [e] at h; cases h; exact ⟨n, rfl⟩
theorem sh_rl : ∀ t d, rlD t = some d → ∃ n, d = dRow n := fun t d h => by
  unfold rlD at h
  cases e : rl t with
  | none => rw [e] at h; cases h
  | some n => rw [e] at h; cases h; exact ⟨n, rfl⟩
theorem progL_sh {t : Str} {d : Dt} (h : progL t = some d) : LnD d := by
  unfold progL at h
  split at h
  · split at h
    · cases h
    · rename_i a ha
      split at h
      · rename_i hk
        cases hb : mp (fk (PySem.Txt.partition _ ⟨#[32]⟩).1) (pcs _) with
        | none => rw [hb] at h; cases h
        | some b =>
          rw [hb] at h
          cases h
          obtain ⟨as, rfl⟩ := mp_shape sh_rp ha
          refine ⟨_, as, b, rfl, hk, fun e => ?_, fun e => ?_⟩
          · unfold fk at hb
            rw [if_pos e] at hb
            exact mp_shape sh_rn hb
          · unfold fk at hb
            rw [if_neg e] at hb
            exact mp_shape sh_rl hb
      · cases h
  · cases h
theorem mp_all {f : Str → Option Dt} {R : Dt → Prop} (hf : ∀ t d, f t = some d → R d) : ∀ {ws : List Str} {ds : List Dt}, mp f ws = some ds → ∀ d ∈ ds, R d
  | [], ds, h, d, hd => by cases h; cases hd
  | w :: ws, ds, h, d, hd => by
    unfold mp at h
    cases e1 : f w with
    | none => rw [e1] at h; cases h
    | some a =>
      cases e2 : mp f ws with
      | none => rw [e1, e2] at h; cases h
      | some r =>
        rw [e1, e2] at h
        cases h
        rcases List.mem_cons.mp hd with z | z
        · rw [z]; exact hf w a e1
        · exact mp_all hf e2 d z
theorem progP_sh {t : Str} {ds : List Dt} (h : progP t = some ds) : (∀ d ∈ ds, LnD d) ∧ nols ds = true := by
  unfold progP at h
  split at h
  · cases h
    refine ⟨fun d hd => ?_, rfl⟩
    cases hd
  · split at h
    · exact ⟨mp_all (fun t d => progL_sh) h, mp_nols nol_progL h⟩
    · cases h
section
variable {P : Program} {w : World} {K : PySem.W.Frag} {mg : Str → Option Value} {base : Heap} {CB CE : Addr} {f fA fB fC fD : Addr} {fd dA dB dC dD : FuncData}
def sp_whole : Sp := fun vs H Q _ => ∃ n : Int, vs = [.int n] ∧ Q (.bl true) H
theorem sc__law_whole : FnScope ["_law_found"] ["_law_found"] (defScope s__law_whole) := ⟨rfl, rfl, rfl, by decide +kernel, rfl, by decide +kernel, by decide +kernel⟩
theorem ok_whole (F : Fun K "_law_whole" "_law_whole" s__law_whole f fd) (T : Txt K mg CB CE) (M : Exm K mg CB CE) : FnOk P w K mg base CX0 1 f fd ["_law_found"] sp_whole := by
  refine F.ok sc__law_whole (fun vs H Q E h => ?_) (fun cdv A outer s H vs Q E hr h => ?_)
  · obtain ⟨n, rfl, _⟩ := h
    rfl
  obtain ⟨n, rfl, q⟩ := h
  refine ⟨_, (pss_one (ps_ret (pe_and (pe_callB call_isinst rfl T.isi PyProof.Rows.Boot.isinstance (pa_cons (pv 0) (pa_cons (pe_bltn (v := .ty "int") rfl T.int PyProof.Rows.Boot.int rfl) pa_nil))) (pe_one (pe_not (pe_callB call_isinst rfl T.isi PyProof.Rows.Boot.isinstance (pa_cons (pv 0) (pa_cons (pe_bltn (v := .ty "bool") rfl T.bool PyProof.Rows.Boot.bool rfl) pa_nil)))))))), ?_⟩
  exact ⟨_, rfl, _, _, _, _, rfl, .int n, kitSelf K "int", _, rfl, iteT ⟨_, rfl, _, _, _, _, rfl, .int n, M.ib, _, rfl, q⟩⟩
def sp_cell (K : PySem.W.Frag) : Sp := fun vs H Q _ => ∃ (a : Addr) (ns : List Int) (k : Nat), vs = [.ref a, .int k] ∧ SqL K H a (ns.map V.int) ∧ ∀ c : Int, Q (.int c) H
theorem sc__law_cell_at : FnScope ["_law_script", "_law_k"] ["_law_script", "_law_k"] (defScope s__law_cell_at) := ⟨rfl, rfl, rfl, by decide +kernel, rfl, by decide +kernel, by decide +kernel⟩
theorem ok_cell (F : Fun K "_law_cell_at" "_law_cell_at" s__law_cell_at f fd) (T : Txt K mg CB CE) : FnOk P w K mg base CX0 1 f fd ["_law_script", "_law_k"] (sp_cell K) := by
  refine F.ok sc__law_cell_at (fun vs H Q E h => ?_) (fun cdv A outer s H vs Q E hr h => ?_)
  · obtain ⟨a, ns, k, rfl, _⟩ := h
    rfl
  obtain ⟨a, ns, k, rfl, ha, q⟩ := h
  refine ⟨_, (pss_cons (ps_if (pt_cmpR op_lt (pv 1) (pe_callB call_len_seq rfl T.len PySem.boot_len (pa_cons (pv 0) pa_nil)) (nomark _))
      (pss_one (ps_ret (pe_ix ix_list (pv 0) (pv 1) (fun _ _ => rfl))))
      pss_nil)
    (pss_one (ps_ret pe_int))), ?_⟩
  refine ⟨_, rfl, _, rfl, a, _, rfl, .inl ha, _, _, rfl, rfl, _, rfl, ite2 (fun c => ?_) (fun c => q 0)⟩
  have c' := of_decide_eq_true c
  rw [List.length_map] at c'
  have hk : k < ns.length := by omega
  exact ⟨_, rfl, _, rfl, a, _, _, _, rfl, rfl, ha, atI_ints (List.getElem?_eq_getElem hk), q _⟩
theorem has_mk {H : Hp} {k : Str} {a b : List Dt} {v : V} (h : Has K H (mk k a b) v) : ∃ p q m xs ys, v = .ref p ∧ SqT K H p [.str k, .ref q, .ref m] ∧ SqT K H q xs ∧ HasL K H a xs ∧ SqT K H m ys ∧ HasL K H b ys := by
  unfold mk at h
  simp only [Has, HasL] at h
  obtain ⟨p, xs, rfl, hx, a', r1, rfl, rfl, b', r2, rfl, ⟨q, xs', rfl, hq, hqL⟩, c, r3, rfl, ⟨m, ys, rfl, hm, hmL⟩, rfl⟩ := h
  exact ⟨p, q, m, xs', ys, rfl, hx, hq, hqL, hm, hmL⟩
def sp_kinds (K : PySem.W.Frag) : Sp := fun vs H Q _ => ∃ (p : Addr) (us : List V) (ds : List Dt), vs = [.ref p] ∧ SqL K H p us ∧ HasL K H ds us ∧ nols ds = true ∧ (∀ d ∈ ds, LnD d) ∧ ∀ H', Same H H' → Q (.bl true) H'
theorem sc__law_kinds : FnScope ["_law_found", "_law_line", "_law_number_here", "_law_more", "_law_numbers"] ["_law_found"] (defScope s__law_kinds) := ⟨rfl, rfl, rfl, by decide +kernel, rfl, by decide +kernel, by decide +kernel⟩
set_option maxHeartbeats 1000000 in
theorem ok_kinds (F : Fun K "_law_kinds" "_law_kinds" s__law_kinds f fd) (T : Txt K mg CB CE) (BW : FB P w K mg base CX0 1 "_law_whole" fA dA ["_law_found"] sp_whole) : FnOk P w K mg base CX0 2 f fd ["_law_found"] (sp_kinds K) := by
  refine F.ok sc__law_kinds (fun vs H Q E h => ?_) (fun cdv A outer s H vs Q E hr h => ?_)
  · obtain ⟨p, us, ds, rfl, _⟩ := h
    rfl
  obtain ⟨p, us, ds, rfl, hp, hL, hn, hl, q⟩ := h
  refine ⟨_, (pss_cons (ps_for PassesOwn.never rfl (pi_list (pv 0)) (pg_name (i := 1) sc__law_kinds.nd rfl (Or.inl rfl))
      (pss_cons (ps_if (PW.pt (pw_or (pt_not (pt_val (pe_callB call_isinstT rfl T.isi PyProof.Rows.Boot.isinstance (pa_cons (pv 1) (pa_cons (pe_bltn (v := .ty "tuple") rfl T.tuple PyProof.Rows.Boot.tuple rfl) pa_nil))))) (pw_or (pt_not (pt_val (pe_callB call_isinstT rfl T.isi PyProof.Rows.Boot.isinstance (pa_cons (pe_ix ix_tup (pv 1) pe_int (fun _ _ => rfl)) (pa_cons (pe_bltn (v := .ty "tuple") rfl T.tuple PyProof.Rows.Boot.tuple rfl) pa_nil))))) (pw_or1 (pt_not (pt_val (pe_callB call_isinstT rfl T.isi PyProof.Rows.Boot.isinstance (pa_cons (pe_ix ix_tup (pv 1) pe_int (fun _ _ => rfl)) (pa_cons (pe_bltn (v := .ty "tuple") rfl T.tuple PyProof.Rows.Boot.tuple rfl) pa_nil)))))))))
          (pss_one (ps_ret pe_bl))
          pss_nil)
        (pss_cons (ps_for PassesOwn.never rfl (pi_tup (pe_ix ix_tup (pv 1) pe_int (fun _ _ => rfl))) (pg_name (i := 2) sc__law_kinds.nd rfl (Or.inl rfl))
          (pss_one (ps_if (pt_not (pt_val (pe_call BW.ok hr rfl BW.m BW.kp BW.b .nil pass0 (pa_cons (pv 2) pa_nil))))
              (pss_one (ps_ret pe_bl))
              pss_nil)))
        (pss_one (ps_for PassesOwn.never rfl (pi_tup (pe_ix ix_tup (pv 1) pe_int (fun _ _ => rfl))) (pg_name (i := 3) sc__law_kinds.nd rfl (Or.inl rfl))
          (pss_cons (ps_set (i := 4) sc__law_kinds.nd rfl (Or.inl rfl) (pe_ifExp (pt_cmpR op_eq (pe_ix ix_tup (pv 1) pe_int (fun _ _ => rfl)) pe_str (nomark _)) (pe_lst (pa_cons (pv 3) pa_nil)) (pv 3)))
            (pss_cons (ps_if (PW.pt (pw_and (pt_cmpR op_eq (pe_ix ix_tup (pv 1) pe_int (fun _ _ => rfl)) pe_str (nomark _)) (pw_and1 (pt_not (pt_val (pe_callB call_isinstT rfl T.isi PyProof.Rows.Boot.isinstance (pa_cons (pv 3) (pa_cons (pe_bltn (v := .ty "tuple") rfl T.tuple PyProof.Rows.Boot.tuple rfl) pa_nil))))))))
              (pss_one (ps_ret pe_bl))
              pss_nil)
            (pss_one (ps_for PassesOwn.never rfl (pi_seq (pv 4)) (pg_name (i := 2) sc__law_kinds.nd rfl (Or.inl rfl))
              (pss_one (ps_if (pt_not (pt_val (pe_call BW.ok hr rfl BW.m BW.kp BW.b .nil pass0 (pa_cons (pv 2) pa_nil))))
                  (pss_one (ps_ret pe_bl))
                  pss_nil)))))))))))
    (pss_one (ps_ret pe_bl))), ?_⟩
  refine ⟨_, rfl, p, rfl, ⟨_, hp⟩, for_by wk_list (fun i σ H' => ∃ v1 v2 v3 v4 : Option V, σ = [some (.ref p), v1, v2, v3, v4] ∧ Same H H') (fun i σ H' ⟨_, _, _, _, _, s'⟩ => s'.seq hp) ⟨none, none, none, none, rfl, Same.refl H⟩ ?_ ?_⟩
  · rintro i σ Hz x H1 hi ⟨v1, v2, v3, v4, rfl, s1⟩ ⟨rfl, hx⟩
    obtain ⟨d, hd, hv⟩ := (hL.keep s1.kt hn).get (hx _ (s1.seq hp))
    obtain ⟨k, as, bs, rfl, hk, b1, b2⟩ := (hl d (List.mem_of_getElem? hd)).ex
    obtain ⟨pl, pq, pm, xs, ys, rfl, hpl, hpq, hxs, hpm, hys⟩ := has_mk hv
    have exs := hasl_ints hxs
    subst exs
    have fF : ∀ {A B : Prop}, B → (if (!true) = true then A else B) := fun h => iteF h
    refine ⟨_, rfl, pl, _, _, _, rfl, hpl, kitSelf K "tuple", _, rfl, fF ⟨_, rfl, pl, _, _, _, rfl, rfl, hpl, rfl, pq, _, _, _, rfl, hpq, kitSelf K "tuple", _, rfl, fF ⟨_, rfl, pl, _, _, _, rfl, rfl, hpl, rfl, pm, _, _, _, rfl, hpm, kitSelf K "tuple", _, rfl, fF ?_⟩⟩⟩
    refine ⟨_, rfl, pl, _, _, _, rfl, rfl, hpl, rfl, pq, rfl, ⟨_, hpq⟩, for_by wk_tup (fun i σ H' => ∃ v2 : Option V, σ = [some (.ref p), some (.ref pl), v2, v3, v4] ∧ H' = H1) (fun i σ H' ⟨_, _, e⟩ => e ▸ hpq) ⟨v2, rfl, rfl⟩ ?_ ?_⟩
    · rintro j σ Hz' x' H2 hj ⟨v2', rfl, rfl⟩ ⟨rfl, hx'⟩
      obtain ⟨n, hn', rfl⟩ := ints_at (hx' _ hpq)
      exact ⟨_, rfl, n, rfl, _, rfl, fF ⟨_, rfl, rfl⟩⟩
    rintro σ H2 ⟨v2', rfl, rfl⟩
    refine ⟨_, rfl, pl, _, _, _, rfl, rfl, hpl, rfl, pm, rfl, ⟨_, hpm⟩, for_by wk_tup (fun i σ H' => ∃ v2 v3 v4 : Option V, σ = [some (.ref p), some (.ref pl), v2, v3, v4] ∧ Same H2 H') (fun i σ H' ⟨_, _, _, _, s'⟩ => s'.tup hpm) ⟨v2', v3, v4, rfl, Same.refl _⟩ ?_ ?_⟩
    · rintro j σ Hz' x' H3 hj ⟨v2'', v3', v4', rfl, s3⟩ ⟨rfl, hx'⟩
      have hxj := hx' _ (s3.tup hpm)
      have hpl3 := s3.tup hpl
      by_cases hkl : k = "learnt"
      · obtain ⟨ns, rfl⟩ := b1 hkl
        have eys := hasl_ints hys
        subst eys
        obtain ⟨n, hn', rfl⟩ := ints_at hxj
        subst hkl
        refine ⟨_, rfl, pl, _, _, _, rfl, rfl, hpl3, rfl, rfl, _, rfl, ite2 (fun _ => ⟨_, rfl, (by show 1 ≤ sizeLine; decide), fun l hl' => ?_⟩) (fun c => absurd (by decide) c)⟩
        have s4 : Same H3 (upd H3 l (.lst [V.int n])) := sameNew hl' _
        have h4 := upd_same (H := H3) (a := l) (o := .lst [V.int n])
        generalize upd H3 l (.lst [V.int n]) = H4 at s4 h4
        refine ⟨_, rfl, pl, _, _, _, rfl, rfl, s4.tup hpl3, rfl, rfl, _, rfl, ite2 (fun c => absurd c (by decide)) (fun _ => iteF ?_)⟩
        refine ⟨_, rfl, l, rfl, .inl ⟨⟨_, SqL.of h4⟩, for_by wk_list (fun i σ H' => ∃ v2 : Option V, σ = [some (.ref p), some (.ref pl), v2, some (.int n), some (.ref l)] ∧ H' = H4) (fun i σ H' ⟨_, _, e⟩ => e ▸ SqL.of h4) ⟨v2'', rfl, rfl⟩ ?_ ?_⟩⟩
        · rintro m σ Hy y H5 hm ⟨v2x, rfl, rfl⟩ ⟨rfl, hy⟩
          obtain ⟨n', hn'', rfl⟩ := ints_at (ps := [n]) (hy _ (SqL.of h4))
          exact ⟨_, rfl, n', rfl, _, rfl, fF ⟨_, rfl, rfl⟩⟩
        · rintro σ H5 ⟨v2x, rfl, rfl⟩
          exact ⟨_, _, _, rfl, s3.trans s4⟩
      · obtain ⟨ls, rfl⟩ := b2 hkl
        have hke : k = "equal" := by
          unfold isK at hk
          rw [decide_eq_false hkl, Bool.false_or] at hk
          exact of_decide_eq_true hk
        obtain ⟨ns, q', hls, rfl, hq'⟩ := rows_at (hys.keep s3.kt (nols_rows _)) hxj
        subst hke
        refine ⟨_, rfl, pl, _, _, _, rfl, rfl, hpl3, rfl, rfl, _, rfl, ite2 (fun c => absurd c (by decide)) (fun _ => ⟨_, rfl, ?_⟩)⟩
        refine ⟨_, rfl, pl, _, _, _, rfl, rfl, hpl3, rfl, rfl, _, rfl, ite2 (fun _ => ⟨_, rfl, q', _, _, _, rfl, hq', kitSelf K "tuple", _, rfl, fF ?_⟩) (fun c => absurd (by decide) c)⟩
        refine ⟨_, rfl, q', rfl, .inr ⟨⟨_, hq'⟩, for_by wk_tup (fun i σ H' => ∃ v2 : Option V, σ = [some (.ref p), some (.ref pl), v2, some (.ref q'), some (.ref q')] ∧ H' = H3) (fun i σ H' ⟨_, _, e⟩ => e ▸ hq') ⟨v2'', rfl, rfl⟩ ?_ ?_⟩⟩
        · rintro m σ Hy y H5 hm ⟨v2x, rfl, rfl⟩ ⟨rfl, hy⟩
          obtain ⟨n', hn'', rfl⟩ := ints_at (hy _ hq')
          exact ⟨_, rfl, n', rfl, _, rfl, fF ⟨_, rfl, rfl⟩⟩
        · rintro σ H5 ⟨v2x, rfl, rfl⟩
          exact ⟨_, _, _, rfl, s3⟩
    rintro σ H3 ⟨v2'', v3', v4', rfl, s3⟩
    exact ⟨_, _, _, _, rfl, s1.trans s3⟩
  rintro σ H1 ⟨v1, v2, v3, v4, rfl, s1⟩
  exact q H1 s1
def sp_refused : Sp := fun vs H Q _ => ∃ t : Str, vs = [.str t] ∧ Lw t ∧ progP t = none ∧ ∀ H', Same H H' → Q (.bl true) H'
theorem sc__law_refused : FnScope ["_law_text", "e"] ["_law_text"] (defScope s__law_refused) := ⟨rfl, rfl, rfl, by decide +kernel, rfl, by decide +kernel, by decide +kernel⟩
theorem ok_refused (F : Fun K "_law_refused" "_law_refused" s__law_refused f fd) (T : Txt K mg CB CE) (M : Exm K mg CB CE) (BP : FB P w K mg base (CX1 P w) 4 "read_paper" fA dA ["text"] (sp_paper K CB)) : FnOk P w K mg base CX0 5 f fd ["_law_text"] sp_refused := by
  refine F.ok sc__law_refused (fun vs H Q E h => ?_) (fun cdv A outer s H vs Q E hr h => ?_)
  · obtain ⟨t, rfl, _⟩ := h
    rfl
  obtain ⟨t, rfl, lw, hn, q⟩ := h
  refine ⟨_, pss_cons (ps_try rfl rfl (fun pins E1 Eb hp => pss_one (ps_expr (pe_call BP.ok hr rfl BP.m BP.kp BP.b .nil hp (pa_cons (pv 0) pa_nil))))
    (ph_as (i := 1) rfl T.bp sc__law_refused.nd rfl rfl rfl (fun ea => pss_one (ps_ret (pe_and (pe_callB (r := rIsiE K) call_isiE rfl T.isi PyProof.Rows.Boot.isinstance (pa_cons (pv 1) (pa_cons (pe_bltn (v := .ty "ValueError") rfl M.v PyProof.Rows.Boot.ValueError rfl) pa_nil))) (pe_one (pe_callB (r := rIsiC K) call_isiC rfl T.isi PyProof.Rows.Boot.isinstance (pa_cons (pv 1) (pa_cons (pe_glob (v := .ref CE) rfl T.ce rfl) pa_nil))))))) ph_never)) (pss_one (ps_ret pe_bl)), ?_⟩
  refine ⟨_, rfl, t, rfl, lw, ?_⟩
  rw [hn]
  intro H' s'
  refine ⟨CB, rfl, fun σ1 h4 => ⟨true, M.pp, iteT fun ea hea => ?_⟩⟩
  have hg : (σ1.set 1 (some (V.ref ea)))[1]? = some (some (V.ref ea)) := List.getElem?_set_self (by rw [h4]; show 1 < 2; decide)
  exact ⟨_, hg, ea, CB, "ValueError", rfl, upd_same, kit_cls_of M.kv, _, rfl, iteT ⟨_, hg, ea, CB, CE, rfl, upd_same, M.ne, cls_of_exm M.pe, q _ (s'.trans (sameNew hea _))⟩⟩
end
end K85

/-! law k85: the law. Behind K85j. -/
namespace K85
open PySem L2
theorem cut_ints (ns : List Int) (lo hi : Option Int) : ∃ ms : List Int, cutV (ns.map V.int) lo hi = ms.map V.int ∧ ms.length ≤ ns.length := by
  refine ⟨(ns.drop (HT.sIx (ns.map V.int).length 0 lo)).take (HT.sIx (ns.map V.int).length (ns.map V.int).length hi - HT.sIx (ns.map V.int).length 0 lo), ?_, ?_⟩
  · unfold cutV
    rw [List.map_take, List.map_drop]
  · exact Nat.le_trans (List.length_take_le' _ _) (by rw [List.length_drop]; omega)
theorem dep_ln {d : Dt} (h : LnD d) : dep d ≤ 4 := by
  obtain ⟨k, as, bs, rfl, hk, b1, b2⟩ := h.ex
  have hb : deps bs ≤ 1 := by
    by_cases e : k = "learnt"
    · obtain ⟨ns, rfl⟩ := b1 e
      rw [depsInts]
      decide
    · obtain ⟨ls, rfl⟩ := b2 e
      exact deps_rows ls
  have ha := depsInts as
  simp only [mk, dep, deps]
  omega
theorem deps_lns : ∀ {ds : List Dt}, (∀ d ∈ ds, LnD d) → deps ds ≤ 4
  | [], _ => by simp [deps]
  | d :: ds, h => by
    have h1 := dep_ln (h d (List.mem_cons_self ..))
    have h2 := deps_lns fun x hx => h x (List.mem_cons_of_mem _ hx)
    simp only [deps]
    omega
abbrev NL : List Str := ["_law_script", "_law_rows", "_law_spoil", "_law_text", "_law_cut", "_law_sign", "_law_due_here", "_law_found", "_law_again"]
theorem sc_law : FnScope NL ["_law_script"] (defScope s_law) := ⟨rfl, rfl, rfl, by decide +kernel, rfl, by decide +kernel, by decide +kernel⟩
theorem passF {P : Program} {w : World} {X : Cx} : Passes (CX1 P w) X E0 := fun _ _ _ _ _ _ _ h => by
  obtain ⟨_, _, _, _, _, _, _, _, _, _, _, _, _, hE⟩ := h
  exact hE.elim
section
variable {P : Program} {w : World} {K : PySem.W.Frag} {mg : Str → Option Value} {base : Heap} {CB CE : Addr} {f fA fB fC fD fE fG fI : Addr} {fd dA dB dC dD dE dG dI : FuncData}
set_option maxHeartbeats 1000000 in
theorem law5 (T : Txt K mg CB CE) (BD : FB P w K mg base CX0 3 "_law_due" fA dA ["_law_text"] (sp_due K)) (BR : FB P w K mg base CX0 5 "_law_refused" fB dB ["_law_text"] sp_refused) (BP : FB P w K mg base (CX1 P w) 4 "read_paper" fC dC ["text"] (sp_paper K CB)) (BK : FB P w K mg base CX0 2 "_law_kinds" fD dD ["_law_found"] (sp_kinds K))
    {cdv : Value} {A : Around} {outer : List Env} {s : Shared} {H0 : Hp} {E : XK} (hr : Room 5 (A.deeper (PyProof.Rows.envOfC "law" (defScope s_law) s.heap.objs.size f cdv))) :
    ∃ t', PSs (cxOf CX0 P w K mg base NL "law" (defScope s_law) f cdv A outer s H0 E).nox ((defBody s_law).drop 5) t' ∧
      ∀ (D : Ends) (H : Hp) (z : Str) (v0 v1 v2 v4 v5 : Option V), Lw z → (∀ H', D.rt (.bl true) H') → t' D [v0, v1, v2, some (.str z), v4, v5, none, none, none] H := by
  have hr4 := hr.mono (show 4 ≤ 5 by decide)
  have hr3 := hr.mono (show 3 ≤ 5 by decide)
  have hr2 := hr.mono (show 2 ≤ 5 by decide)
  refine ⟨_, (pss_cons (ps_set (i := 6) sc_law.nd rfl (Or.inl rfl) (pe_call BD.ok hr3 rfl BD.m BD.kp BD.b .nil pass0 (pa_cons (pv 3) pa_nil)))
    (pss_cons (ps_if (pt_cmpR op_isN (pv 6) pe_non (nomark _))
      (pss_one (ps_ret (pe_call BR.ok hr rfl BR.m BR.kp BR.b .nil pass0 (pa_cons (pv 3) pa_nil))))
      pss_nil)
    (pss_cons (ps_set (i := 7) sc_law.nd rfl (Or.inl rfl) (pe_call BP.ok hr4 rfl BP.m BP.kp BP.b .nil passF (pa_cons (pv 3) pa_nil)))
    (pss_cons (ps_if (PW.pt (pw_or (pt_not (pt_val (pe_callB call_isinstL rfl T.isi PyProof.Rows.Boot.isinstance (pa_cons (pv 7) (pa_cons (pe_bltn (v := .ty "list") rfl T.list PyProof.Rows.Boot.list rfl) pa_nil))))) (pw_or (pt_cmpR (op_neD hr.units) (pv 7) (pv 6) rfl) (pw_or1 (pt_not (pt_val (pe_call BK.ok hr2 rfl BK.m BK.kp BK.b .nil pass0 (pa_cons (pv 7) pa_nil))))))))
      (pss_one (ps_ret pe_bl))
      pss_nil)
    (pss_cons (ps_set (i := 8) sc_law.nd rfl (Or.inl rfl) (pe_call BP.ok hr4 rfl BP.m BP.kp BP.b .nil passF (pa_cons (pv 3) pa_nil)))
    (pss_cons (ps_if (pt_cmpR (op_neD hr.units) (pv 7) (pv 6) rfl)
      (pss_one (ps_ret pe_bl))
      pss_nil)
    (pss_cons (ps_expr (pe_bm0 PySem.F.plainAttrs_list PySem.F.slot_list_clear PySem.F.type_list_clear mt_clear (pv 7)))
    (pss_one (ps_ret (pe_and (pe_cmpR (op_eqD hr.units) (pv 8) (pv 6) rfl) (pe_one (pe_cmpR (op_eqD hr.units) (pe_call BP.ok hr4 rfl BP.m BP.kp BP.b .nil passF (pa_cons (pv 3) pa_nil)) (pv 6) rfl)))))))))))), ?_⟩
  intro D H z v0 v1 v2 v4 v5 lw q
  refine ⟨_, rfl, z, rfl, lw, ?_⟩
  have he := paper_eq z
  cases hz : lawP z with
  | none =>
    rw [hz] at he
    intro H1 s1
    exact ⟨_, rfl, rfl, _, rfl, ite2 (fun _ => ⟨_, rfl, z, rfl, lw, he, fun H2 _ => q H2⟩) (fun c => absurd (decide_eq_true rfl) c)⟩
  | some ds =>
    rw [hz] at he
    obtain ⟨hln, hno⟩ := progP_sh he
    have dl : dep (.lst ds) ≤ 60 := by
      have := deps_lns hln
      simp only [dep]
      omega
    intro p6 us6 H1 s1 hp60 hp6 hL6
    refine ⟨_, rfl, rfl, _, rfl, ite2 (fun c => absurd c (by simp)) (fun _ => ?_)⟩
    refine ⟨_, rfl, z, rfl, lw, ?_⟩
    rw [he]
    intro p7 us7 H2 s2 hp70 hp7 hL7
    have hp62 := s2 _ _ hp6
    have hL62 := hL6.keep s2.kt hno
    have ne76 : p7 ≠ p6 := fun e => by
      rw [e, hp6] at hp70
      cases hp70
    have fF : ∀ {A B : Prop}, B → (if (!true) = true then A else B) := fun h => iteF h
    refine ⟨_, rfl, p7, _, _, _, rfl, SqL.of hp7, kitSelf K "list", _, rfl, fF ⟨_, rfl, _, rfl, .lst ds, .lst ds, Has.lst' (SqL.of hp7) hL7, Has.lst' (SqL.of hp62) hL62, dl, _, rfl, ?_⟩⟩
    rw [peq_refl]
    refine fF ⟨_, rfl, p7, us7, ds, rfl, SqL.of hp7, hL7, hno, hln, fun H3 s3 => ⟨_, rfl, fF ?_⟩⟩
    refine ⟨_, rfl, z, rfl, lw, ?_⟩
    rw [he]
    intro p8 us8 H4 s4 hp80 hp8 hL8
    have s24 := s3.trans s4
    have hp74 := s24 _ _ hp7
    have hp64 := s24 _ _ hp62
    have hL64 := hL62.keep s24.kt hno
    have ne78 : p7 ≠ p8 := fun e => by
      have z1 := s3 _ _ hp7
      rw [e, hp80] at z1
      cases z1
    refine ⟨_, rfl, _, rfl, .lst ds, .lst ds, Has.lst' (SqL.of hp74) (hL7.keep s24.kt hno), Has.lst' (SqL.of hp64) hL64, dl, _, rfl, ?_⟩
    rw [peq_refl]
    refine fF ?_
    refine ⟨_, rfl, .inl ⟨rfl, _, SqL.of hp74⟩, p7, _, rfl, rfl, hp74, ?_⟩
    have k5 : KeepT H4 (upd H4 p7 (.lst [])) := KeepT.lst hp74
    have hp85 : (upd H4 p7 (.lst [])) p8 = some (.lst us8) := by
      rw [upd_ne (Ne.symm ne78)]
      exact hp8
    have hp65 : (upd H4 p7 (.lst [])) p6 = some (.lst us6) := by
      rw [upd_ne (Ne.symm ne76)]
      exact hp64
    have hL85 := hL8.keep k5 hno
    have hL65 := hL64.keep k5 hno
    generalize upd H4 p7 (.lst []) = H5 at hp85 hp65 hL85 hL65
    refine ⟨_, rfl, _, rfl, .lst ds, .lst ds, Has.lst' (SqL.of hp85) hL85, Has.lst' (SqL.of hp65) hL65, dl, _, rfl, ?_⟩
    rw [peq_refl]
    refine iteT ⟨_, rfl, z, rfl, lw, ?_⟩
    rw [he]
    intro p9 us9 H6 s6 hp90 hp9 hL9
    refine ⟨_, rfl, .lst ds, .lst ds, Has.lst' (SqL.of hp9) hL9, Has.lst' (SqL.of (s6 _ _ hp65)) (hL65.keep s6.kt hno), dl, ?_⟩
    rw [peq_refl]
    exact q H6
theorem at_four {n : Nat} {a b c d : Str} {e : Int} (h0 : 0 ≤ e) (h1 : e < 4) (ha : Sm n a) (hb : Sm n b) (hc : Sm n c) (hd : Sm n d) : ∃ u : Str, atI [V.str a, V.str b, V.str c, V.str d] e = some (.str u) ∧ Sm n u := by
  have h : e = 0 ∨ e = 1 ∨ e = 2 ∨ e = 3 := by omega
  rcases h with rfl | rfl | rfl | rfl
  · exact ⟨_, rfl, ha⟩
  · exact ⟨_, rfl, hb⟩
  · exact ⟨_, rfl, hc⟩
  · exact ⟨_, rfl, hd⟩
theorem spoilt {z u : Str} {c : Int} (h0 : 0 ≤ c) (h1 : c < (z.length : Int)) (hz : Sm 13000 z) (hu : Sm 2 u) :
    (PySem.Txt.slice z none (some c)).length + u.length ≤ 16000000 ∧ (PySem.Txt.slice z none (some c) ++ u).length + (PySem.Txt.slice z (some (c + 1)) none).length ≤ 16000000 ∧ Lw (PySem.Txt.slice z none (some c) ++ u ++ PySem.Txt.slice z (some (c + 1)) none) := by
  have l1 := PySem.Txt.slice_le z none (some c)
  have l2 := PySem.Txt.slice_le z (some (c + 1)) none
  have l3 := hz.ln
  have l4 := hu.ln
  have e1 := slice_to (x := z) h0
  have e2 := slice_from (x := z) (j := c + 1) (by omega)
  have t1 : (PySem.Txt.slice z none (some c)).length ≤ c.toNat := by
    rw [← cl_len, e1]
    exact List.length_take_le _ _
  have t2 : (PySem.Txt.slice z (some (c + 1)) none).length = z.length - (c + 1).toNat := by
    rw [← cl_len, e2, List.length_drop, cl_len]
  refine ⟨by omega, by rw [len_app]; omega, ?_, fun ch hch => ?_⟩
  · rw [len_app, len_app]
    omega
  · rw [cl_app, cl_app] at hch
    rcases List.mem_append.mp hch with h | h
    · rcases List.mem_append.mp h with h | h
      · rw [e1] at h
        exact hz.lo ch (List.mem_of_mem_take h)
      · exact hu.lo ch h
    · rw [e2] at h
      exact hz.lo ch (List.mem_of_mem_drop h)
theorem rows_sm : ∀ {zs : List Str}, (∀ z ∈ zs, Sm 200 z) → lenS (zs.map fun z => z ++ "\n") ≤ 201 * zs.length ∧ ∀ c ∈ cl (Builtin.Str.glued "" (zs.map fun z => z ++ "\n")), c < 1000 := by
  intro zs h
  have e10' : (("\n" : Str)).length = 1 := by decide +kernel
  constructor
  · induction zs with
    | nil => simp [lenS]
    | cons z zs ih =>
      have h1 := (h z (List.mem_cons_self ..)).ln
      have h2 := ih fun x hx => h x (List.mem_cons_of_mem _ hx)
      have : lenS ((z :: zs).map fun z => z ++ "\n") = (z ++ "\n").length + lenS (zs.map fun z => z ++ "\n") := by simp [lenS]
      rw [this, len_app, e10', List.length_cons]
      omega
  · intro c hc
    rw [StrLaws.glued_eq_join] at hc
    have key : ∀ (ps : List Str), (∀ p ∈ ps, ∀ c ∈ cl p, c < 1000) → ∀ c ∈ cl (Str.join "" ps), c < 1000 := by
      intro ps
      induction ps with
      | nil => intro _ c hc; cases hc
      | cons p ps ih =>
        intro hp c hc
        cases ps with
        | nil => exact hp p (List.mem_cons_self ..) c hc
        | cons q r =>
          have e : cl (Str.join "" (p :: q :: r)) = cl p ++ cl "" ++ cl (Str.join "" (q :: r)) := by
            show cl (p ++ "" ++ Str.join "" (q :: r)) = _
            rw [cl_app, cl_app]
          rw [e] at hc
          rcases List.mem_append.mp hc with h' | h'
          · rcases List.mem_append.mp h' with h' | h'
            · exact hp p (List.mem_cons_self ..) c h'
            · have e0 : cl "" = [] := by decide +kernel
              rw [e0] at h'
              cases h'
          · exact ih (fun x hx => hp x (List.mem_cons_of_mem _ hx)) c h'
    refine key _ (fun p hp => ?_) c hc
    obtain ⟨z, hz, rfl⟩ := List.mem_map.mp hp
    intro c hc
    rw [cl_app] at hc
    rcases List.mem_append.mp hc with h' | h'
    · exact (h z hz).lo c h'
    · have e : cl "\n" = [10] := by decide +kernel
      rw [e] at h'
      rw [List.mem_singleton.mp h']
      decide
set_option maxHeartbeats 1000000 in
theorem law3 (T : Txt K mg CB CE) (BD : FB P w K mg base CX0 3 "_law_due" fA dA ["_law_text"] (sp_due K)) (BR : FB P w K mg base CX0 5 "_law_refused" fB dB ["_law_text"] sp_refused) (BP : FB P w K mg base (CX1 P w) 4 "read_paper" fC dC ["text"] (sp_paper K CB)) (BK : FB P w K mg base CX0 2 "_law_kinds" fD dD ["_law_found"] (sp_kinds K)) (BS : FB P w K mg base CX0 1 "_law_sign_by" fE dE ["_law_cell"] (sp_text 1))
    {cdv : Value} {A : Around} {outer : List Env} {s : Shared} {H0 : Hp} {E : XK} (hr : Room 5 (A.deeper (PyProof.Rows.envOfC "law" (defScope s_law) s.heap.objs.size f cdv))) :
    ∃ t', PSs (cxOf CX0 P w K mg base NL "law" (defScope s_law) f cdv A outer s H0 E).nox ((defBody s_law).drop 3) t' ∧
      ∀ (D : Ends) (H : Hp) (v0 : Option V) (rl : Addr) (zs : List Str) (c : Int), H rl = some (.lst (zs.map V.str)) → (∀ z ∈ zs, Sm 200 z) → zs.length ≤ 64 → (∀ H', D.rt (.bl true) H') → t' D [v0, some (.ref rl), some (.int c), none, none, none, none, none, none] H := by
  obtain ⟨t5, h5, q5⟩ := law5 (f := f) (outer := outer) (H0 := H0) (E := E) T BD BR BP BK hr
  have hr1 := hr.mono (show 1 ≤ 5 by decide)
  refine ⟨_, (pss_cons (ps_set (i := 3) sc_law.nd rfl (Or.inl rfl) (pe_bm PySem.F.plainAttrs_str PySem.F.slot_str_join PySem.F.type_str_join mt_join pe_str (pa_cons (pe_lc (N' := ["_law_row_here"]) (ix := []) rfl rfl (by decide +kernel) (by decide +kernel) rfl (fun _ => ⟨[], clo_none (by decide +kernel) (by decide +kernel)⟩) (by decide +kernel) rfl rfl (fun j i h => by simp at h) (pi_list (pv 1)) (fun _ _ _ _ => (pe_op op_add_str (pv 0) pe_str))) pa_nil)))
    (pss_cons (ps_if (PW.pt (pw_and (pt_cmpR op_gt (pe_op op_mod (pv 2) pe_int) pe_int (nomark _)) (pw_and1 (pt_cmpR op_ne (pv 3) pe_str (nomark _)))))
      (pss_cons (ps_set (i := 4) sc_law.nd rfl (Or.inl rfl) (pe_op op_mod (pe_op op_mod (pe_op op_mul (pv 2) pe_int) pe_int) (pe_callB call_len_str rfl T.len PySem.boot_len (pa_cons (pv 3) pa_nil))))
        (pss_cons (ps_set (i := 5) sc_law.nd rfl (Or.inl rfl) (pe_ix ix_list (pe_lst (pa_cons pe_str (pa_cons (pe_op op_add_str (pe_ix ix_str (pv 3) (pv 4) (fun _ _ => rfl)) (pe_ix ix_str (pv 3) (pv 4) (fun _ _ => rfl))) (pa_cons (pe_call BS.ok hr1 rfl BS.m BS.kp BS.b .nil pass0 (pa_cons (pe_op op_fdiv (pv 2) pe_int) pa_nil)) (pa_cons (pe_call BS.ok hr1 rfl BS.m BS.kp BS.b .nil pass0 (pa_cons (pe_op op_fdiv (pv 2) pe_int) pa_nil)) pa_nil))))) (pe_op op_mod (pe_op op_fdiv (pv 2) pe_int) pe_int) (fun _ _ => rfl)))
        (pss_one (ps_set (i := 3) sc_law.nd rfl (Or.inl rfl) (pe_op op_add_str (pe_op op_add_str (pe_slice sl_str (pv 3) po_none (po_some (pv 4))) (pv 5)) (pe_slice sl_str (pv 3) (po_some (pe_op op_add (pv 4) pe_int)) po_none))))))
      pss_nil) h5)), ?_⟩
  intro D H v0 rl zs c hrl hzs hl q
  have e10' : (("\n" : Str)).length = 1 := by decide +kernel
  have e0' : (("" : Str)).length = 0 := by decide +kernel
  refine ⟨rfl, _, rfl, rl, rfl, ⟨_, SqL.of hrl⟩, fun Dl hDl => lc_by wk_list (fun i us H' => Same H H' ∧ us = ((zs.take i).map fun z : Str => z ++ "\n").map V.str) (fun i us H' s4 => s4.1.seq (SqL.of hrl)) ⟨sameNew hDl _, rfl⟩ ?_ ?_⟩
  · rintro i us H8 x H4 hi hly hDs ⟨s4, rfl⟩ ⟨rfl, hx4⟩
    have hxi := hx4 _ (s4.seq (SqL.of hrl))
    rw [List.getElem?_map] at hxi
    cases hwi : zs[i]? with
    | none => rw [hwi] at hxi; cases hxi
    | some z =>
      rw [hwi] at hxi
      cases hxi
      have lz := (hzs z (List.mem_of_getElem? hwi)).ln
      refine ⟨_, rfl, _, _, rfl, rfl, szM (by rw [e10']; omega), lc_post (szM (by rw [List.length_map]; omega)) hi hly hDs ⟨s4.upd hDl, ?_⟩⟩
      rw [take_snoc hwi, List.map_append, List.map_append]
      rfl
  rintro us H1 hDs ⟨s1, rfl⟩
  rw [List.length_map, List.take_of_length_le (Nat.le_refl _)] at hDs
  obtain ⟨r1, r2⟩ := rows_sm hzs
  refine ⟨"", Dl, _, rfl, rfl, SqL.of hDs, szM (by rw [e0', List.length_map]; omega), ?_⟩
  have hz : Sm 13000 (Builtin.Str.glued "" (zs.map fun z => z ++ "\n")) := by
    refine ⟨?_, r2⟩
    have := glued_len "" (zs.map fun z => z ++ "\n")
    rw [e0', List.length_map] at this
    omega
  generalize Builtin.Str.glued "" (zs.map fun z => z ++ "\n") = z at hz
  have ln := hz.ln
  refine ⟨_, rfl, _, _, rfl, rfl, (by show (0 : Int) < 4; decide), _, _, rfl, rfl, _, rfl, ite2 (fun c1 => ?_) (fun c1 => iteF ?_)⟩
  · refine ⟨_, rfl, rfl, _, rfl, ite2 (fun c2 => ?_) (fun c2 => ?_)⟩
    · have hne : z ≠ Str.empty := fun e => by
        subst e
        exact absurd c2 (by decide)
      have h1 := len_pos hne
      have b1 := Int.emod_nonneg (c * 48271 % 1000003) (show ((z.length : Nat) : Int) ≠ 0 by omega)
      have b2 := Int.emod_lt_of_pos (c * 48271 % 1000003) (show (0 : Int) < ((z.length : Nat) : Int) by omega)
      refine ⟨_, rfl, _, _, rfl, rfl, .inr ⟨by decide, by decide⟩, _, _, rfl, rfl, (by show (0 : Int) < 1000003; decide), _, rfl, z, rfl, szM (by omega), _, _, rfl, rfl, (by show (0 : Int) < (z.length : Int); omega), ?_⟩
      obtain ⟨ch, hat, hm⟩ := at_inM (xs := cl z) (i := c * 48271 % 1000003 % ((z.length : Nat) : Int)) b1 (by rw [cl_len]; exact b2)
      have sch : Sm 1 (⟨#[ch]⟩ : Str) := ⟨by show 1 ≤ 1; decide, fun d hd => by
        have : d = ch := by simpa [cl] using hd
        rw [this]
        exact hz.lo ch hm⟩
      refine ⟨_, rfl, _, rfl, z, _, ch, rfl, rfl, szM (by omega), hat, _, rfl, _, rfl, z, _, ch, rfl, rfl, szM (by omega), hat, _, _, rfl, rfl, (by show 1 + 1 ≤ sizeLine; decide), _, rfl, _, _, rfl, rfl, ⟨by decide, by decide⟩, _, rfl, fun z1 H2 sz1 s2 => ⟨_, rfl, _, _, rfl, rfl, ⟨by decide, by decide⟩, _, rfl, fun z2 H3 sz2 s3 => ⟨(by show 4 ≤ sizeLine; decide), fun l hl' => ?_⟩⟩⟩
      have se : Sm 2 ("" : Str) := ⟨by decide +kernel, by decide +kernel⟩
      obtain ⟨u, hu, su⟩ := at_four (e := c / 4 % 4) (Int.emod_nonneg _ (by decide)) (Int.emod_lt_of_pos _ (by decide)) se (sch.app sch) (sz1.mono (by decide)) (sz2.mono (by decide))
      refine ⟨_, rfl, _, _, rfl, rfl, ⟨by decide, by decide⟩, _, _, rfl, rfl, (by show (0 : Int) < 4; decide), l, _, _, _, rfl, rfl, SqL.of upd_same, hu, ?_⟩
      obtain ⟨x1, x2, x3⟩ := spoilt b1 b2 hz su
      exact ⟨_, rfl, _, rfl, _, rfl, z, rfl, szM (by omega), _, rfl, _, _, rfl, rfl, szM x1, _, rfl, _, rfl, _, _, rfl, rfl, _, rfl, z, rfl, szM (by omega), _, _, rfl, rfl, szM x2, q5 D _ _ _ _ _ _ _ x3 q⟩
    · exact q5 D H1 z _ _ _ _ _ (hz.lw (by decide)) q
  · exact q5 D H1 z _ _ _ _ _ (hz.lw (by decide)) q
def sp_law (K : PySem.W.Frag) : Sp := fun vs H Q _ => ∃ (a : Addr) (ns : List Int), vs = [.ref a] ∧ SqL K H a (ns.map V.int) ∧ ns.length ≤ 63 ∧ ∀ H', Q (.bl true) H'
set_option maxHeartbeats 1000000 in
theorem ok_law (F : Fun K "law" "law" s_law f fd) (T : Txt K mg CB CE) (BD : FB P w K mg base CX0 3 "_law_due" fA dA ["_law_text"] (sp_due K)) (BR : FB P w K mg base CX0 5 "_law_refused" fB dB ["_law_text"] sp_refused) (BP : FB P w K mg base (CX1 P w) 4 "read_paper" fC dC ["text"] (sp_paper K CB)) (BK : FB P w K mg base CX0 2 "_law_kinds" fD dD ["_law_found"] (sp_kinds K)) (BS : FB P w K mg base CX0 1 "_law_sign_by" fE dE ["_law_cell"] (sp_text 1))
    (BW : FB P w K mg base CX0 3 "_law_row" fG dG ["_law_cell"] (sp_text 200)) (BO : FB P w K mg base CX0 1 "_law_odd" fI dI ["_law_cell"] (sp_text 30)) {fC' : Addr} {dC' : FuncData} (BC : FB P w K mg base CX0 1 "_law_cell_at" fC' dC' ["_law_script", "_law_k"] (sp_cell K)) : FnOk P w K mg base CX0 6 f fd ["_law_script"] (sp_law K) := by
  refine F.ok sc_law (fun vs H Q E h => ?_) (fun cdv A outer s H vs Q E hr h => ?_)
  · obtain ⟨a, ns, rfl, _⟩ := h
    rfl
  obtain ⟨a, ns, rfl, ha, h63, q⟩ := h
  have hr3 := hr.mono (show 3 ≤ 5 by decide)
  have hr1 := hr.mono (show 1 ≤ 5 by decide)
  obtain ⟨t3, h3, q3⟩ := law3 (f := f) (outer := outer) (H0 := H) (E := E) T BD BR BP BK BS hr
  refine ⟨_, (pss_cons (ps_setLC (i := 1) (N' := ["_law_cell"]) (ix := []) sc_law.nd rfl (Or.inl rfl) rfl rfl (by decide +kernel) (by decide +kernel) rfl (fun _ => ⟨[], clo_none (by decide +kernel) (by decide +kernel)⟩) (by decide +kernel) rfl rfl (fun j i h => by simp at h) (pi_list (pe_slice sl_list (pv 0) (po_some pe_int) (po_some pe_int))) (fun _ _ _ _ => (pe_call BW.ok hr3 rfl BW.m BW.kp BW.b .nil pass0 (pa_cons (pv 0) pa_nil))))
    (pss_cons (ps_set (i := 2) sc_law.nd rfl (Or.inl rfl) (pe_call BC.ok hr1 rfl BC.m BC.kp BC.b .nil pass0 (pa_cons (pv 0) (pa_cons pe_int pa_nil))))
    (pss_cons (ps_if (pt_cmpR op_eq (pe_op op_mod (pv 2) pe_int) pe_int (nomark _))
      (pss_one (ps_expr (pe_bm PySem.F.plainAttrs_list PySem.F.slot_list_insert PySem.F.type_list_insert mt_insert (pv 1) (pa_cons (pe_op op_mod (pe_op op_mod (pe_op op_mul (pe_op op_fdiv (pv 2) pe_int) pe_int) pe_int) (pe_op op_add (pe_callB call_len_seq rfl T.len PySem.boot_len (pa_cons (pv 1) pa_nil)) pe_int)) (pa_cons (pe_call BO.ok hr1 rfl BO.m BO.kp BO.b .nil pass0 (pa_cons (pe_op op_fdiv (pv 2) pe_int) pa_nil)) pa_nil)))))
      pss_nil) h3))), ?_⟩
  refine ⟨_, rfl, _, rfl, _, rfl, a, _, rfl, ha, fun p0 hp0 => ?_⟩
  obtain ⟨ms, em, lm⟩ := cut_ints ns (some 2) (some 14)
  rw [em]
  have s0 : Same H (upd H p0 (.lst (ms.map V.int))) := sameNew hp0 _
  have h0 := upd_same (H := H) (a := p0) (o := .lst (ms.map V.int))
  generalize upd H p0 (.lst (ms.map V.int)) = H1 at s0 h0
  refine ⟨p0, rfl, ⟨_, SqL.of h0⟩, fun rl hrl => lc_by wk_list (fun i us H' => Same H1 H' ∧ ∃ zs : List Str, us = zs.map V.str ∧ (∀ z ∈ zs, Sm 200 z) ∧ zs.length = i) (fun i us H' s4 => s4.1.seq (SqL.of h0)) ⟨sameNew hrl _, [], rfl, (fun _ h => nomatch h), rfl⟩ ?_ ?_⟩
  · rintro i us H8 x H4 hi hly hDs ⟨s4, zs, rfl, hz, hl⟩ ⟨rfl, hx4⟩
    obtain ⟨k, hk, rfl⟩ := ints_at (hx4 _ (s4.seq (SqL.of h0)))
    refine ⟨_, rfl, k, rfl, fun z H5 sz s5 => lc_post (szM (by rw [List.length_map]; omega)) hi hly (s5 _ _ hDs) ⟨(s4.trans s5).upd hrl, zs ++ [z], by rw [List.map_append]; rfl, fun y hy => ?_, by rw [List.length_append, hl]; rfl⟩⟩
    rcases List.mem_append.mp hy with h' | h'
    · exact hz y h'
    · rw [List.mem_singleton.mp h']; exact sz
  rintro us H2 hDs ⟨s2, zs, rfl, hz, hl⟩
  rw [List.length_map] at hl
  have ha2 := s2.seq (s0.seq ha)
  refine ⟨_, rfl, a, ns, 0, rfl, ha2, fun c => ?_⟩
  refine ⟨_, rfl, _, _, rfl, rfl, (by show (0 : Int) < 4; decide), rfl, _, rfl, ite2 (fun c1 => ?_) (fun c1 => ?_)⟩
  · have b1 := Int.emod_nonneg (c / 4 * 48271 % 1000003) (show (((zs.map V.str).length : Nat) : Int) + 1 ≠ 0 by omega)
    have b2 := Int.emod_lt_of_pos (c / 4 * 48271 % 1000003) (show (0 : Int) < (((zs.map V.str).length : Nat) : Int) + 1 by omega)
    refine ⟨_, rfl, .inl ⟨rfl, _, SqL.of hDs⟩, _, rfl, _, _, rfl, rfl, ⟨by decide, by decide⟩, _, _, rfl, rfl, .inr ⟨by decide, by decide⟩, _, _, rfl, rfl, (by show (0 : Int) < 1000003; decide), _, rfl, rl, _, rfl, .inl (SqL.of hDs), _, _, rfl, rfl, _, _, rfl, rfl, (by show (0 : Int) < (((zs.map V.str).length : Nat) : Int) + 1; omega), _, rfl, _, _, rfl, rfl, ⟨by decide, by decide⟩, _, rfl, fun z H3 sz s3 => ?_⟩
    obtain ⟨k, hk⟩ : ∃ k : Nat, c / 4 * 48271 % 1000003 % ((((zs.map V.str).length : Nat) : Int) + 1) = (k : Int) := ⟨_, (Int.toNat_of_nonneg b1).symm⟩
    rw [hk] at b2
    rw [List.length_map] at b2
    refine ⟨rl, _, k, .str z, rfl, congrArg (fun i => [V.int i, V.str z]) hk, s3 _ _ hDs, (by rw [List.length_map]; omega), szM (by rw [List.length_map]; omega), ?_⟩
    have e : (zs.map V.str).take k ++ [V.str z] ++ (zs.map V.str).drop k = (zs.take k ++ [z] ++ zs.drop k).map V.str := by
      simp [List.map_append, List.map_take, List.map_drop]
    have hfin : (upd H3 rl (.lst ((zs.take k ++ [z] ++ zs.drop k).map V.str))) rl = some (.lst ((zs.take k ++ [z] ++ zs.drop k).map V.str)) := upd_same
    first
      | (rw [e]
         refine q3 _ _ _ rl _ c hfin (fun y hy => ?_) ?_ q)
      | (simp only [List.append_assoc, List.cons_append, List.nil_append] at e hfin ⊢
         rw [e]
         refine q3 _ _ _ rl _ c hfin (fun y hy => ?_) ?_ q)
    · simp only [List.append_assoc, List.cons_append, List.nil_append, List.mem_append, List.mem_cons, List.not_mem_nil, or_false] at hy
      rcases hy with h' | h' | h'
      · exact hz y (List.mem_of_mem_take h')
      · rw [h']; exact sz.mono (by decide)
      · exact hz y (List.mem_of_mem_drop h')
    · simp only [List.length_append, List.length_take, List.length_drop, List.length_cons, List.length_nil]
      omega
  · exact q3 _ _ _ rl zs c hDs hz (by omega) q
end
end K85

/-! law k85, last part: what the top has written, and the law. Behind K85k. -/
namespace K85
open PySem L2
set_option maxHeartbeats 4000000 in
theorem all_mk {l : PySem.W.OpenLaw} {w : World} {K : PySem.W.Frag} {h : Heap} {mg : Str → Option Value} {fa CB CE f1 f2 f3 f4 f5 f6 f7 f8 f9 f10 f11 f12 f13 f14 f15 f16 f17 f18 f19 : Addr} (X : K.In h) (G : h.Ns mainGlobals mg) (hfa : mg "law" = some (.ref fa))
    {od1 an1 od2 an2 od3 an3 od4 an4 od5 an5 od6 an6 od7 an7 od8 an8 od9 an9 od10 an10 od11 an11 od12 an12 od13 an13 od14 an14 od15 an15 od16 an16 od17 an17 od18 an18 od19 an19 : Option Addr} {sl1 sl2 sl3 sl4 sl5 sl6 sl7 sl8 sl9 sl10 sl11 sl12 sl13 sl14 sl15 sl16 sl17 sl18 sl19 : Array (Option Value)} {oc1 kV1 dc1 pm1 cd1 ct1 oc2 kV2 dc2 pm2 cd2 ct2 oc3 kV3 dc3 pm3 cd3 ct3 oc4 kV4 dc4 pm4 cd4 ct4 oc5 kV5 dc5 pm5 cd5 ct5 oc6 kV6 dc6 pm6 cd6 ct6 oc7 kV7 dc7 pm7 cd7 ct7 oc8 kV8 dc8 pm8 cd8 ct8 oc9 kV9 dc9 pm9 cd9 ct9 oc10 kV10 dc10 pm10 cd10 ct10 oc11 kV11 dc11 pm11 cd11 ct11 oc12 kV12 dc12 pm12 cd12 ct12 oc13 kV13 dc13 pm13 cd13 ct13 oc14 kV14 dc14 pm14 cd14 ct14 oc15 kV15 dc15 pm15 cd15 ct15 oc16 kV16 dc16 pm16 cd16 ct16 oc17 kV17 dc17 pm17 cd17 ct17 oc18 kV18 dc18 pm18 cd18 ct18 oc19 kV19 dc19 pm19 cd19 ct19 : Value} {t1 t2 : Tok}
    (aB : PySem.W.nsIn K mainGlobals "BadPaper" = some (some (.ref CB)))
    (aE : PySem.W.nsIn K mainGlobals "ChoiceError" = some (some (.ref CE)))
    (a1 : PySem.W.nsIn K mainGlobals "read_number" = some (some (.ref f1)))
    (l1 : K.lookup f1 = some ⟨oc1, od1, .func (PySem.W.fnOf "read_number" "read_number" (defArgs s_read_number) (defBody s_read_number) (defScope s_read_number) .none kV1 dc1 pm1 an1 cd1 ct1), sl1⟩)
    (c1 : PySem.W.codeIn K cd1 "read_number" = true)
    (k1 : PySem.W.keepIn K (.ref f1) = true)
    (a2 : PySem.W.nsIn K mainGlobals "read_part" = some (some (.ref f2)))
    (l2 : K.lookup f2 = some ⟨oc2, od2, .func (PySem.W.fnOf "read_part" "read_part" (defArgs s_read_part) (defBody s_read_part) (defScope s_read_part) .none kV2 dc2 pm2 an2 cd2 ct2), sl2⟩)
    (c2 : PySem.W.codeIn K cd2 "read_part" = true)
    (k2 : PySem.W.keepIn K (.ref f2) = true)
    (a3 : PySem.W.nsIn K mainGlobals "read_link" = some (some (.ref f3)))
    (l3 : K.lookup f3 = some ⟨oc3, od3, .func (PySem.W.fnOf "read_link" "read_link" (defArgs s_read_link) (defBody s_read_link) (defScope s_read_link) .none kV3 dc3 pm3 an3 cd3 ct3), sl3⟩)
    (c3 : PySem.W.codeIn K cd3 "read_link" = true)
    (k3 : PySem.W.keepIn K (.ref f3) = true)
    (a4 : PySem.W.nsIn K mainGlobals "pieces_of" = some (some (.ref f4)))
    (l4 : K.lookup f4 = some ⟨oc4, od4, .func (PySem.W.fnOf "pieces_of" "pieces_of" (defArgs s_pieces_of) (defBody s_pieces_of) (defScope s_pieces_of) .none kV4 dc4 pm4 an4 cd4 ct4), sl4⟩)
    (c4 : PySem.W.codeIn K cd4 "pieces_of" = true)
    (k4 : PySem.W.keepIn K (.ref f4) = true)
    (a5 : PySem.W.nsIn K mainGlobals "read_line" = some (some (.ref f5)))
    (l5 : K.lookup f5 = some ⟨oc5, od5, .func (PySem.W.fnOf "read_line" "read_line" (defArgs s_read_line) (defBody s_read_line) (defScope s_read_line) .none kV5 dc5 pm5 an5 cd5 ct5), sl5⟩)
    (c5 : PySem.W.codeIn K cd5 "read_line" = true)
    (k5 : PySem.W.keepIn K (.ref f5) = true)
    (a6 : PySem.W.nsIn K mainGlobals "read_paper" = some (some (.ref f6)))
    (l6 : K.lookup f6 = some ⟨oc6, od6, .func (PySem.W.fnOf "read_paper" "read_paper" (defArgs s_read_paper) (defBody s_read_paper) (defScope s_read_paper) .none kV6 dc6 pm6 an6 cd6 ct6), sl6⟩)
    (c6 : PySem.W.codeIn K cd6 "read_paper" = true)
    (k6 : PySem.W.keepIn K (.ref f6) = true)
    (a7 : PySem.W.nsIn K mainGlobals "_law_mix" = some (some (.ref f7)))
    (l7 : K.lookup f7 = some ⟨oc7, od7, .func (PySem.W.fnOf "_law_mix" "_law_mix" (defArgs s__law_mix) (defBody s__law_mix) (defScope s__law_mix) .none kV7 dc7 pm7 an7 cd7 ct7), sl7⟩)
    (c7 : PySem.W.codeIn K cd7 "_law_mix" = true)
    (k7 : PySem.W.keepIn K (.ref f7) = true)
    (a8 : PySem.W.nsIn K mainGlobals "_law_whole" = some (some (.ref f8)))
    (l8 : K.lookup f8 = some ⟨oc8, od8, .func (PySem.W.fnOf "_law_whole" "_law_whole" (defArgs s__law_whole) (defBody s__law_whole) (defScope s__law_whole) .none kV8 dc8 pm8 an8 cd8 ct8), sl8⟩)
    (c8 : PySem.W.codeIn K cd8 "_law_whole" = true)
    (k8 : PySem.W.keepIn K (.ref f8) = true)
    (a9 : PySem.W.nsIn K mainGlobals "_law_cell_at" = some (some (.ref f9)))
    (l9 : K.lookup f9 = some ⟨oc9, od9, .func (PySem.W.fnOf "_law_cell_at" "_law_cell_at" (defArgs s__law_cell_at) (defBody s__law_cell_at) (defScope s__law_cell_at) .none kV9 dc9 pm9 an9 cd9 ct9), sl9⟩)
    (c9 : PySem.W.codeIn K cd9 "_law_cell_at" = true)
    (k9 : PySem.W.keepIn K (.ref f9) = true)
    (a10 : PySem.W.nsIn K mainGlobals "_law_sign_by" = some (some (.ref f10)))
    (l10 : K.lookup f10 = some ⟨oc10, od10, .func (PySem.W.fnOf "_law_sign_by" "_law_sign_by" (defArgs s__law_sign_by) (defBody s__law_sign_by) (defScope s__law_sign_by) .none kV10 dc10 pm10 an10 cd10 ct10), sl10⟩)
    (c10 : PySem.W.codeIn K cd10 "_law_sign_by" = true)
    (k10 : PySem.W.keepIn K (.ref f10) = true)
    (a11 : PySem.W.nsIn K mainGlobals "_law_odd" = some (some (.ref f11)))
    (l11 : K.lookup f11 = some ⟨oc11, od11, .func (PySem.W.fnOf "_law_odd" "_law_odd" (defArgs s__law_odd) (defBody s__law_odd) (defScope s__law_odd) .none kV11 dc11 pm11 an11 cd11 ct11), sl11⟩)
    (c11 : PySem.W.codeIn K cd11 "_law_odd" = true)
    (k11 : PySem.W.keepIn K (.ref f11) = true)
    (a12 : PySem.W.nsIn K mainGlobals "_law_figure" = some (some (.ref f12)))
    (l12 : K.lookup f12 = some ⟨oc12, od12, .func (PySem.W.fnOf "_law_figure" "_law_figure" (defArgs s__law_figure) (defBody s__law_figure) (defScope s__law_figure) .none kV12 dc12 pm12 an12 cd12 ct12), sl12⟩)
    (c12 : PySem.W.codeIn K cd12 "_law_figure" = true)
    (k12 : PySem.W.keepIn K (.ref f12) = true)
    (a13 : PySem.W.nsIn K mainGlobals "_law_row" = some (some (.ref f13)))
    (l13 : K.lookup f13 = some ⟨oc13, od13, .func (PySem.W.fnOf "_law_row" "_law_row" (defArgs s__law_row) (defBody s__law_row) (defScope s__law_row) .none kV13 dc13 pm13 an13 cd13 ct13), sl13⟩)
    (c13 : PySem.W.codeIn K cd13 "_law_row" = true)
    (k13 : PySem.W.keepIn K (.ref f13) = true)
    (a14 : PySem.W.nsIn K mainGlobals "_law_number" = some (some (.ref f14)))
    (l14 : K.lookup f14 = some ⟨oc14, od14, .func (PySem.W.fnOf "_law_number" "_law_number" (defArgs s__law_number) (defBody s__law_number) (defScope s__law_number) .none kV14 dc14 pm14 an14 cd14 ct14), sl14⟩)
    (c14 : PySem.W.codeIn K cd14 "_law_number" = true)
    (k14 : PySem.W.keepIn K (.ref f14) = true)
    (a15 : PySem.W.nsIn K mainGlobals "_law_many" = some (some (.ref f15)))
    (l15 : K.lookup f15 = some ⟨oc15, od15, .func (PySem.W.fnOf "_law_many" "_law_many" (defArgs s__law_many) (defBody s__law_many) (defScope s__law_many) .none kV15 dc15 pm15 an15 cd15 ct15), sl15⟩)
    (c15 : PySem.W.codeIn K cd15 "_law_many" = true)
    (k15 : PySem.W.keepIn K (.ref f15) = true)
    (a16 : PySem.W.nsIn K mainGlobals "_law_due" = some (some (.ref f16)))
    (l16 : K.lookup f16 = some ⟨oc16, od16, .func (PySem.W.fnOf "_law_due" "_law_due" (defArgs s__law_due) (defBody s__law_due) (defScope s__law_due) .none kV16 dc16 pm16 an16 cd16 ct16), sl16⟩)
    (c16 : PySem.W.codeIn K cd16 "_law_due" = true)
    (k16 : PySem.W.keepIn K (.ref f16) = true)
    (a17 : PySem.W.nsIn K mainGlobals "_law_kinds" = some (some (.ref f17)))
    (l17 : K.lookup f17 = some ⟨oc17, od17, .func (PySem.W.fnOf "_law_kinds" "_law_kinds" (defArgs s__law_kinds) (defBody s__law_kinds) (defScope s__law_kinds) .none kV17 dc17 pm17 an17 cd17 ct17), sl17⟩)
    (c17 : PySem.W.codeIn K cd17 "_law_kinds" = true)
    (k17 : PySem.W.keepIn K (.ref f17) = true)
    (a18 : PySem.W.nsIn K mainGlobals "_law_refused" = some (some (.ref f18)))
    (l18 : K.lookup f18 = some ⟨oc18, od18, .func (PySem.W.fnOf "_law_refused" "_law_refused" (defArgs s__law_refused) (defBody s__law_refused) (defScope s__law_refused) .none kV18 dc18 pm18 an18 cd18 ct18), sl18⟩)
    (c18 : PySem.W.codeIn K cd18 "_law_refused" = true)
    (k18 : PySem.W.keepIn K (.ref f18) = true)
    (a19 : PySem.W.nsIn K mainGlobals "law" = some (some (.ref f19)))
    (l19 : K.lookup f19 = some ⟨oc19, od19, .func (PySem.W.fnOf "law" "law" (defArgs s_law) (defBody s_law) (defScope s_law) .none kV19 dc19 pm19 an19 cd19 ct19), sl19⟩)
    (c19 : PySem.W.codeIn K cd19 "law" = true)
    (k19 : PySem.W.keepIn K (.ref f19) = true)
    (s1 : PySem.W.nsIn K mainGlobals "FIGURES" = some (some (.str figs t1)))
    (s2 : PySem.W.nsIn K mainGlobals "MOST_FIGURES" = some (some (.int 9 t2)))
    (xP : PySem.W.excIn K CB bmV "ValueError.__new__" = true)
    (z_len : PySem.W.nsIn K mainGlobals "len" = some none)
    (z_all : PySem.W.nsIn K mainGlobals "all" = some none)
    (z_int : PySem.W.nsIn K mainGlobals "int" = some none)
    (z_tuple : PySem.W.nsIn K mainGlobals "tuple" = some none)
    (z_isinstance : PySem.W.nsIn K mainGlobals "isinstance" = some none)
    (z_bool : PySem.W.nsIn K mainGlobals "bool" = some none)
    (z_list : PySem.W.nsIn K mainGlobals "list" = some none)
    (z_str : PySem.W.nsIn K mainGlobals "str" = some none)
    (z_range : PySem.W.nsIn K mainGlobals "range" = some none)
    (z_min : PySem.W.nsIn K mainGlobals "min" = some none)
    (z_ValueError : PySem.W.nsIn K mainGlobals "ValueError" = some none)
    (e_pp : PySem.W.exmOne K (.ref CB) (.ref CB) = some true)
    (e_pe : PySem.W.exmOne K (.ref CB) (.ref CE) = some true)
    (e_kv : PySem.W.kitOne K (.ref CB) (.type "ValueError") = some true)
    (e_ne : CB ≠ CE)
    (e_ib : PySem.W.kitOne K (.type "int") (.type "bool") = some false)
    : ∃ fd : FuncData, (∀ (s : Shared) (v : Value), BindsTo s fd ⟨[v], []⟩ [("_law_script", v)]) ∧ ∀ base : Heap, K.In base → base.Ns mainGlobals mg → FnOk l.prog w K mg base CX0 6 fa fd ["_law_script"] (sp_law K) := by
  have e := hfa.symm.trans (PySem.W.mg_of X G a19)
  cases e
  have T : Txt K mg CB CE := ⟨⟨_, PySem.W.mg_of X G s1⟩, ⟨_, PySem.W.mg_of X G s2⟩, PySem.W.mg_of X G aB, PySem.W.mg_of X G aE, xP, PySem.W.mg_none_of X G z_len, PySem.W.mg_none_of X G z_all, PySem.W.mg_none_of X G z_int, PySem.W.mg_none_of X G z_tuple, PySem.W.mg_none_of X G z_isinstance, PySem.W.mg_none_of X G z_bool, PySem.W.mg_none_of X G z_list, PySem.W.mg_none_of X G z_str, PySem.W.mg_none_of X G z_range, PySem.W.mg_none_of X G z_min⟩
  have M : Exm K mg CB CE := ⟨e_pp, e_pe, e_kv, PySem.W.mg_none_of X G z_ValueError, e_ne, e_ib⟩
  have F1 := fun_mk (st := s_read_number) l1 c1 k1
  have b1 := F1.binds (ps := ["text"]) fun _ _ _ _ _ _ us hl => match us, hl with | [_], _ => rfl
  have m1 := PySem.W.mg_of X G a1
  have F2 := fun_mk (st := s_read_part) l2 c2 k2
  have b2 := F2.binds (ps := ["text"]) fun _ _ _ _ _ _ us hl => match us, hl with | [_], _ => rfl
  have m2 := PySem.W.mg_of X G a2
  have F3 := fun_mk (st := s_read_link) l3 c3 k3
  have b3 := F3.binds (ps := ["text"]) fun _ _ _ _ _ _ us hl => match us, hl with | [_], _ => rfl
  have m3 := PySem.W.mg_of X G a3
  have F4 := fun_mk (st := s_pieces_of) l4 c4 k4
  have b4 := F4.binds (ps := ["text"]) fun _ _ _ _ _ _ us hl => match us, hl with | [_], _ => rfl
  have m4 := PySem.W.mg_of X G a4
  have F5 := fun_mk (st := s_read_line) l5 c5 k5
  have b5 := F5.binds (ps := ["row"]) fun _ _ _ _ _ _ us hl => match us, hl with | [_], _ => rfl
  have m5 := PySem.W.mg_of X G a5
  have F6 := fun_mk (st := s_read_paper) l6 c6 k6
  have b6 := F6.binds (ps := ["text"]) fun _ _ _ _ _ _ us hl => match us, hl with | [_], _ => rfl
  have m6 := PySem.W.mg_of X G a6
  have F7 := fun_mk (st := s__law_mix) l7 c7 k7
  have b7 := F7.binds (ps := ["_law_cell", "_law_k"]) fun _ _ _ _ _ _ us hl => match us, hl with | [_, _], _ => rfl
  have m7 := PySem.W.mg_of X G a7
  have F8 := fun_mk (st := s__law_whole) l8 c8 k8
  have b8 := F8.binds (ps := ["_law_found"]) fun _ _ _ _ _ _ us hl => match us, hl with | [_], _ => rfl
  have m8 := PySem.W.mg_of X G a8
  have F9 := fun_mk (st := s__law_cell_at) l9 c9 k9
  have b9 := F9.binds (ps := ["_law_script", "_law_k"]) fun _ _ _ _ _ _ us hl => match us, hl with | [_, _], _ => rfl
  have m9 := PySem.W.mg_of X G a9
  have F10 := fun_mk (st := s__law_sign_by) l10 c10 k10
  have b10 := F10.binds (ps := ["_law_cell"]) fun _ _ _ _ _ _ us hl => match us, hl with | [_], _ => rfl
  have m10 := PySem.W.mg_of X G a10
  have F11 := fun_mk (st := s__law_odd) l11 c11 k11
  have b11 := F11.binds (ps := ["_law_cell"]) fun _ _ _ _ _ _ us hl => match us, hl with | [_], _ => rfl
  have m11 := PySem.W.mg_of X G a11
  have F12 := fun_mk (st := s__law_figure) l12 c12 k12
  have b12 := F12.binds (ps := ["_law_cell", "_law_k"]) fun _ _ _ _ _ _ us hl => match us, hl with | [_, _], _ => rfl
  have m12 := PySem.W.mg_of X G a12
  have F13 := fun_mk (st := s__law_row) l13 c13 k13
  have b13 := F13.binds (ps := ["_law_cell"]) fun _ _ _ _ _ _ us hl => match us, hl with | [_], _ => rfl
  have m13 := PySem.W.mg_of X G a13
  have F14 := fun_mk (st := s__law_number) l14 c14 k14
  have b14 := F14.binds (ps := ["_law_word"]) fun _ _ _ _ _ _ us hl => match us, hl with | [_], _ => rfl
  have m14 := PySem.W.mg_of X G a14
  have F15 := fun_mk (st := s__law_many) l15 c15 k15
  have b15 := F15.binds (ps := ["_law_words", "_law_kind"]) fun _ _ _ _ _ _ us hl => match us, hl with | [_, _], _ => rfl
  have m15 := PySem.W.mg_of X G a15
  have F16 := fun_mk (st := s__law_due) l16 c16 k16
  have b16 := F16.binds (ps := ["_law_text"]) fun _ _ _ _ _ _ us hl => match us, hl with | [_], _ => rfl
  have m16 := PySem.W.mg_of X G a16
  have F17 := fun_mk (st := s__law_kinds) l17 c17 k17
  have b17 := F17.binds (ps := ["_law_found"]) fun _ _ _ _ _ _ us hl => match us, hl with | [_], _ => rfl
  have m17 := PySem.W.mg_of X G a17
  have F18 := fun_mk (st := s__law_refused) l18 c18 k18
  have b18 := F18.binds (ps := ["_law_text"]) fun _ _ _ _ _ _ us hl => match us, hl with | [_], _ => rfl
  have m18 := PySem.W.mg_of X G a18
  have F19 := fun_mk (st := s_law) l19 c19 k19
  refine ⟨PySem.W.fnOf "law" "law" (defArgs s_law) (defBody s_law) (defScope s_law) .none kV19 dc19 pm19 an19 cd19 ct19, fun s v => .of_eq rfl, fun base _ _ => ?_⟩
  have Bread_number : FB l.prog w K mg base (CX1 l.prog w) 1 "read_number" f1 _ ["text"] (sp1 K CB rnD) := ⟨ok_number F1 T, b1, k1, m1⟩
  have Bread_part : FB l.prog w K mg base (CX1 l.prog w) 2 "read_part" f2 _ ["text"] (sp1 K CB rpD) := ⟨ok_part F2 T Bread_number, b2, k2, m2⟩
  have Bread_link : FB l.prog w K mg base (CX1 l.prog w) 2 "read_link" f3 _ ["text"] (sp1 K CB rlD) := ⟨ok_link F3 T Bread_number, b3, k3, m3⟩
  have Bpieces_of : FB l.prog w K mg base (CX0) 1 "pieces_of" f4 _ ["text"] (sp_pcs) := ⟨ok_pieces F4, b4, k4, m4⟩
  have Bread_line : FB l.prog w K mg base (CX1 l.prog w) 3 "read_line" f5 _ ["row"] (sp1 K CB progL) := ⟨ok_line F5 T Bread_number Bread_part Bread_link Bpieces_of, b5, k5, m5⟩
  have Bread_paper : FB l.prog w K mg base (CX1 l.prog w) 4 "read_paper" f6 _ ["text"] (sp_paper K CB) := ⟨ok_paper F6 T Bread_line, b6, k6, m6⟩
  have B_law_mix : FB l.prog w K mg base (CX0) 1 "_law_mix" f7 _ ["_law_cell", "_law_k"] (sp_mix) := ⟨ok_mix F7, b7, k7, m7⟩
  have B_law_whole : FB l.prog w K mg base (CX0) 1 "_law_whole" f8 _ ["_law_found"] (sp_whole) := ⟨ok_whole F8 T M, b8, k8, m8⟩
  have B_law_cell_at : FB l.prog w K mg base (CX0) 1 "_law_cell_at" f9 _ ["_law_script", "_law_k"] (sp_cell K) := ⟨ok_cell F9 T, b9, k9, m9⟩
  have B_law_sign_by : FB l.prog w K mg base (CX0) 1 "_law_sign_by" f10 _ ["_law_cell"] (sp_text 1) := ⟨ok_sign F10, b10, k10, m10⟩
  have B_law_odd : FB l.prog w K mg base (CX0) 1 "_law_odd" f11 _ ["_law_cell"] (sp_text 30) := ⟨ok_odd F11, b11, k11, m11⟩
  have B_law_figure : FB l.prog w K mg base (CX0) 2 "_law_figure" f12 _ ["_law_cell", "_law_k"] (sp_fig) := ⟨ok_fig F12 B_law_mix, b12, k12, m12⟩
  have B_law_row : FB l.prog w K mg base (CX0) 3 "_law_row" f13 _ ["_law_cell"] (sp_text 200) := ⟨ok_row F13 T B_law_figure, b13, k13, m13⟩
  have B_law_number : FB l.prog w K mg base (CX0) 1 "_law_number" f14 _ ["_law_word"] (sp_lnum) := ⟨ok_lnum F14 T, b14, k14, m14⟩
  have B_law_many : FB l.prog w K mg base (CX0) 2 "_law_many" f15 _ ["_law_words", "_law_kind"] (sp_many K) := ⟨ok_many F15 T B_law_number, b15, k15, m15⟩
  have B_law_due : FB l.prog w K mg base (CX0) 3 "_law_due" f16 _ ["_law_text"] (sp_due K) := ⟨ok_due F16 B_law_many, b16, k16, m16⟩
  have B_law_kinds : FB l.prog w K mg base (CX0) 2 "_law_kinds" f17 _ ["_law_found"] (sp_kinds K) := ⟨ok_kinds F17 T B_law_whole, b17, k17, m17⟩
  have B_law_refused : FB l.prog w K mg base (CX0) 5 "_law_refused" f18 _ ["_law_text"] (sp_refused) := ⟨ok_refused F18 T M Bread_paper, b18, k18, m18⟩
  exact ok_law F19 T B_law_due B_law_refused Bread_paper B_law_kinds B_law_sign_by B_law_row B_law_odd B_law_cell_at
theorem walk {l : PySem.W.OpenLaw} {q : Program} {loose : List Str} {XP : (Str → Option Value) → Heap → Prop} {YP : World → Heap → Prop} {d : DefRec} {K : Params → PySem.W.Frag} (hn : l.most = some 63) (hdf : d.params.defaults = [])
    (hY : ∀ (w : World) (h : Heap), YP w h → (K w.params).In h)
    (F : ∀ (w : World) (mg : Str → Option Value) (fa : Addr) (h : Heap), (K w.params).In h → h.Ns mainGlobals mg → mg d.name = some (.ref fa) →
      ∃ fd : FuncData, (∀ (s : Shared) (u : Value), BindsTo s fd ⟨[u], []⟩ [("_law_script", u)]) ∧ ∀ base : Heap, (K w.params).In base → base.Ns mainGlobals mg → FnOk l.prog w (K w.params) mg base CX0 6 fa fd ["_law_script"] (sp_law (K w.params))) :
    PySem.W.WalkO q loose XP YP l.row.toRowW d [] (fun f vs => PySem.call f vs) :=
  L2.walk_of (n := 63) (k := 6) (x := "_law_script") (CX := fun _ => CX0) (sp := fun w => sp_law (K w.params)) hn (by decide) hdf ⟨rfl, by decide, by decide, rfl⟩ hY F (fun _ _ a ns hl _ hS => ⟨a, ns, rfl, hS, hl, fun _ => rfl⟩) fun _ _ _ _ _ z => z
end K85
open PySem PySem.W PyProof.Rows
set_option maxRecDepth 100000 in
set_option maxHeartbeats 0 in
theorem PySem.Challenge.cw_yesorno_k85_papers_read_holds : PySem.Challenge.rw_yesorno_k85_papers_read.Holds := by
  w_on; o_law; k_head; (case hw => w_witness2)
  k_fill
  refine K85.walk (l := PySem.Challenge.rw_yesorno_k85_papers_read) rfl rfl (fun w h Y => PySem.W.kIn_of Y) ?F
  case F =>
    intro w mg fa h KX G hmg
    refine' K85.all_mk KX G hmg ?aB ?aE ?a1 ?l1 ?c1 ?k1 ?a2 ?l2 ?c2 ?k2 ?a3 ?l3 ?c3 ?k3 ?a4 ?l4 ?c4 ?k4 ?a5 ?l5 ?c5 ?k5 ?a6 ?l6 ?c6 ?k6 ?a7 ?l7 ?c7 ?k7 ?a8 ?l8 ?c8 ?k8 ?a9 ?l9 ?c9 ?k9 ?a10 ?l10 ?c10 ?k10 ?a11 ?l11 ?c11 ?k11 ?a12 ?l12 ?c12 ?k12 ?a13 ?l13 ?c13 ?k13 ?a14 ?l14 ?c14 ?k14 ?a15 ?l15 ?c15 ?k15 ?a16 ?l16 ?c16 ?k16 ?a17 ?l17 ?c17 ?k17 ?a18 ?l18 ?c18 ?k18 ?a19 ?l19 ?c19 ?k19 ?s1 ?s2 ?xP ?z_len ?z_all ?z_int ?z_tuple ?z_isinstance ?z_bool ?z_list ?z_str ?z_range ?z_min ?z_ValueError ?e_pp ?e_pe ?e_kv ?e_ne ?e_ib
    (case aB => k_is)
    (case aE => k_is)
    (case a1 => k_is)
    (case l1 => k_is)
    (case c1 => k_is)
    (case k1 => k_is)
    (case a2 => k_is)
    (case l2 => k_is)
    (case c2 => k_is)
    (case k2 => k_is)
    (case a3 => k_is)
    (case l3 => k_is)
    (case c3 => k_is)
    (case k3 => k_is)
    (case a4 => k_is)
    (case l4 => k_is)
    (case c4 => k_is)
    (case k4 => k_is)
    (case a5 => k_is)
    (case l5 => k_is)
    (case c5 => k_is)
    (case k5 => k_is)
    (case a6 => k_is)
    (case l6 => k_is)
    (case c6 => k_is)
    (case k6 => k_is)
    (case a7 => k_is)
    (case l7 => k_is)
    (case c7 => k_is)
    (case k7 => k_is)
    (case a8 => k_is)
    (case l8 => k_is)
    (case c8 => k_is)
    (case k8 => k_is)
    (case a9 => k_is)
    (case l9 => k_is)
    (case c9 => k_is)
    (case k9 => k_is)
    (case a10 => k_is)
    (case l10 => k_is)
    (case c10 => k_is)
    (case k10 => k_is)
    (case a11 => k_is)
    (case l11 => k_is)
    (case c11 => k_is)
    (case k11 => k_is)
    (case a12 => k_is)
    (case l12 => k_is)
    (case c12 => k_is)
    (case k12 => k_is)
    (case a13 => k_is)
    (case l13 => k_is)
    (case c13 => k_is)
    (case k13 => k_is)
    (case a14 => k_is)
    (case l14 => k_is)
    (case c14 => k_is)
    (case k14 => k_is)
    (case a15 => k_is)
    (case l15 => k_is)
    (case c15 => k_is)
    (case k15 => k_is)
    (case a16 => k_is)
    (case l16 => k_is)
    (case c16 => k_is)
    (case k16 => k_is)
    (case a17 => k_is)
    (case l17 => k_is)
    (case c17 => k_is)
    (case k17 => k_is)
    (case a18 => k_is)
    (case l18 => k_is)
    (case c18 => k_is)
    (case k18 => k_is)
    (case a19 => k_is)
    (case l19 => k_is)
    (case c19 => k_is)
    (case k19 => k_is)
    (case s1 => k_is)
    (case s2 => k_is)
    (case xP => k_exc)
    (case z_len => k_is)
    (case z_all => k_is)
    (case z_int => k_is)
    (case z_tuple => k_is)
    (case z_isinstance => k_is)
    (case z_bool => k_is)
    (case z_list => k_is)
    (case z_str => k_is)
    (case z_range => k_is)
    (case z_min => k_is)
    (case z_ValueError => k_is)
    (case e_pp => kts_exm)
    (case e_pe => kts_exm)
    (case e_kv => kit_is)
    (case e_ne => decide)
    (case e_ib => kit_is)

