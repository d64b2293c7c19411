import PyProof.Rows.All
import Wide.All
import OpenK.AllK
import Wide.FinOn
import Lean
import PyProof.EqAt
import PyProof.EqKinds
import PyProof.TupleCall
import PySem.Challenge.RW_ringpop_k22_whole_walks_pop_the_same
set_option Elab.async false
set_option linter.all false
set_option maxRecDepth 100000
set_option maxHeartbeats 4000000
/-! THE HAND LAYER, for ints, bools, texts, own classes, LISTS and tuples (index, slices, in, append, pop ..), calls, loops. Paste it whole ahead of your own text; what your proof does not reach may be deleted. -/
namespace L2
open PySem PySem.Spec PyProof.Rows

/-- a key: an int or a str -/
abbrev Key := Sum Int Str
def keyIs : Key → Value → Bool
  | .inl k, v => Value.isInt k v
  | .inr x, v => Value.isStrOf x v
def keyH (w : World) : Key → Int
  | .inl k => hashInt k
  | .inr x => hashStr w x
theorem keyIs_shape : ∀ {k : Key} {v : Value}, keyIs k v = true → (∃ i t, k = Sum.inl i ∧ v = Value.int i t) ∨ (∃ x t, k = Sum.inr x ∧ v = Value.str x t)
  | .inl i, v, h => by
    obtain ⟨t, e⟩ := Value.isInt_shape (k := i) (v := v) h
    exact .inl ⟨i, t, rfl, e⟩
  | .inr x, v, h => by
    obtain ⟨t, e⟩ := Value.isStrOf_shape (x := x) (v := v) h
    exact .inr ⟨x, t, rfl, e⟩
theorem keyIs_int (i : Int) (t : Tok) : keyIs (.inl i) (.int i t) = true := by simp [keyIs, Value.isInt]
theorem keyIs_str (x : Str) (t : Tok) : keyIs (.inr x) (.str x t) = true := by simp [keyIs, Value.isStrOf]
theorem key_ll (a b : Int) : decide ((Sum.inl a : Key) = Sum.inl b) = (a == b) := by
  by_cases e : a = b
  · subst e; simp
  · have h : ¬ (Sum.inl a : Key) = Sum.inl b := fun q => e (Sum.inl.inj q)
    rw [decide_eq_false h]
    exact (beq_eq_false_iff_ne.mpr e).symm
theorem key_rr (a b : Str) : decide ((Sum.inr a : Key) = Sum.inr b) = decide (a = b) := by
  by_cases e : a = b
  · subst e; simp
  · have h : ¬ (Sum.inr a : Key) = Sum.inr b := fun q => e (Sum.inr.inj q)
    rw [decide_eq_false h, decide_eq_false e]
theorem key_lr (a : Int) (b : Str) : decide ((Sum.inl a : Key) = Sum.inr b) = false := decide_eq_false (fun q => nomatch q)
theorem key_rl (a : Str) (b : Int) : decide ((Sum.inr a : Key) = Sum.inl b) = false := decide_eq_false (fun q => nomatch q)

def mixKind (prog : Program) (w : World) : PySem.KeyKind prog w Key where
  is := keyIs
  hash := keyH w
  inj := fun v a b ha hb => by
    rcases keyIs_shape ha with ⟨i, t, rfl, rfl⟩ | ⟨x, t, rfl, rfl⟩
    · rcases keyIs_shape hb with ⟨j, u, rfl, e⟩ | ⟨y, u, rfl, e⟩
      · injection e with e1 _; rw [e1]
      · exact nomatch e
    · rcases keyIs_shape hb with ⟨j, u, rfl, e⟩ | ⟨y, u, rfl, e⟩
      · exact nomatch e
      · injection e with e1 _; rw [e1]
  byValue := fun k v h => by
    rcases keyIs_shape h with ⟨i, t, rfl, rfl⟩ | ⟨x, t, rfl, rfl⟩ <;> rfl
  pyHash := fun hv h => by
    rcases keyIs_shape hv with ⟨i, t, rfl, rfl⟩ | ⟨x, t, rfl, rfl⟩
    · exact wpAny_pyHash_int h
    · exact wpAny_pyHash_str h
  eqBool := fun hu hv h => by
    rcases keyIs_shape hu with ⟨i, t, rfl, rfl⟩ | ⟨x, t, rfl, rfl⟩
    · rcases keyIs_shape hv with ⟨j, u, rfl, rfl⟩ | ⟨y, u, rfl, rfl⟩
      · rw [key_ll] at h; exact wpAny_eqBool_int h
      · rw [key_lr] at h; exact SeqAt.EqAt.int_str i t y u _ _ _ _ h
    · rcases keyIs_shape hv with ⟨j, u, rfl, rfl⟩ | ⟨y, u, rfl, rfl⟩
      · rw [key_rl] at h; exact SeqAt.EqAt.str_int x t j u _ _ _ _ h
      · rw [key_rr] at h; exact wpAny_eqBool_str h
  «strs» := fun k x t v h => by
    rcases keyIs_shape h with ⟨i, u, rfl, e⟩ | ⟨y, u, rfl, e⟩
    · exact nomatch e
    · injection e with e1 _
      subst e1
      cases v <;> rfl

theorem mixKind_int (prog : Program) (w : World) (i : Int) (t : Tok) : (mixKind prog w).is (.inl i) (.int i t) = true := keyIs_int i t
theorem mixKind_str (prog : Program) (w : World) (x : Str) (t : Tok) : (mixKind prog w).is (.inr x) (.str x t) = true := keyIs_str x t
end L2

namespace L2
open PySem PySem.Spec PyProof.Rows

/-- a value, without the heap -/
inductive V where
  | non | bl (b : Bool) | int (i : Int) | str (x : Str) | byt (b : Array UInt8) | flt (b : UInt64) | ref (a : Addr) | ty (n : String)
  deriving DecidableEq

def RelV : V → Value → Prop
  | .non, u => u = Value.none
  | .bl b, u => u = Value.bool b
  | .int i, u => ∃ t, u = Value.int i t
  | .str x, u => ∃ t, u = Value.str x t
  | .byt b, u => ∃ t, u = Value.bytes b t
  | .flt b, u => ∃ t, u = Value.float b t
  | .ref a, u => u = Value.ref a
  | .ty n, u => u = Value.type n

abbrev Vals : List V → List Value → Prop := Paired RelV
theorem Vals.length {xs : List V} {us : List Value} (r : Vals xs us) : xs.length = us.length := Paired.length r
theorem Vals.get : ∀ {xs : List V} {us : List Value} {i : Nat} {x : V}, Vals xs us → xs[i]? = some x → ∃ u, us[i]? = some u ∧ RelV x u
  | _, _, _, _, .nil, e => by simp at e
  | _, _, 0, _, .cons r _, e => by simp at e; subst e; exact ⟨_, rfl, r⟩
  | _, _, i + 1, x, .cons _ t, e => by
    obtain ⟨u, h1, h2⟩ := Vals.get (i := i) (x := x) t (by simpa using e)
    exact ⟨u, by simpa using h1, h2⟩
theorem Vals.set {x : V} {u : Value} (r : RelV x u) : ∀ {xs : List V} {us : List Value} (i : Nat), Vals xs us → Vals (xs.set i x) (us.set i u)
  | _, _, _, .nil => .nil
  | _, _, 0, .cons _ t => .cons r t
  | _, _, i + 1, .cons q t => .cons q (Vals.set r i t)
theorem Vals.append : ∀ {xs ys : List V} {us ws : List Value}, Vals xs us → Vals ys ws → Vals (xs ++ ys) (us ++ ws)
  | _, _, _, _, .nil, s => s
  | _, _, _, _, .cons r t, s => .cons r (Vals.append t s)
theorem Vals.take : ∀ {xs : List V} {us : List Value} (n : Nat), Vals xs us → Vals (xs.take n) (us.take n)
  | _, _, 0, _ => .nil
  | _, _, _ + 1, .nil => .nil
  | _, _, n + 1, .cons r t => .cons r (Vals.take n t)
theorem Vals.drop : ∀ {xs : List V} {us : List Value} (n : Nat), Vals xs us → Vals (xs.drop n) (us.drop n)
  | _, _, 0, r => r
  | _, _, _ + 1, .nil => .nil
  | _, _, n + 1, .cons _ t => Vals.drop n t
theorem Vals.none_of : ∀ {xs : List V} {us : List Value} {i : Nat}, Vals xs us → xs[i]? = none → us[i]? = none := fun {xs us i} r e => by
  have h1 := r.length
  have h2 : xs.length ≤ i := List.getElem?_eq_none_iff.mp e
  exact List.getElem?_eq_none_iff.mpr (by omega)

def RelO : Option V → Option Value → Prop
  | some v, some u => RelV v u
  | none, none => True
  | _, _ => False
def KV {κ : Type} : List (κ × V) → List (κ × Value) → Prop := Paired fun (p : κ × V) (q : κ × Value) => p.1 = q.1 ∧ RelV p.2 q.2

/-- a key of a dict (00_mix): an int or a text -/
def kV : Key → V
  | .inl i => .int i
  | .inr x => .str x

/-- what stands at a tracked address -/
inductive HO where
  /-- a list -/
  | lst (xs : List V)
  /-- a tuple (never changes) -/
  | tup (xs : List V)
  /-- a dict whose keys are ints and texts; one whose keys are tuples of ints and texts (the empty one is both) -/
  | dK (kvs : List (Key × V)) | dT (kvs : List (List Key × V))
  /-- a set of ints: its members, its size -/
  | set (S : Int → Bool) (n : Nat)
  /-- an instance of the class at C, its dict at dx, its attributes -/
  | ins (C dx : Addr) (fs : List (Str × V))
  /-- the dict of the instance at x -/
  | own (x : Addr)
  /-- the dict of an exception -/
  | xd (fs : List (Str × V))
  /-- a bound method, f of x -/
  | met (f x : Addr)
  /-- a range object lo, lo + 1, .. below hi -/
  | rng (lo hi : Int)
  /-- a thing that is known to the object (the script; a dict while a loop walks it): read, never written while it is so -/
  | frz (o : Obj) (u : HO)
  /-- a code object's table -/
  | tbl (ps : Array Value)
  /-- any other thing, by what is true of its one object (a def of one's own: SetO a S n := HO.ext fun h => ..) -/
  | ext (φ : Heap → Prop)

abbrev Hp := Addr → Option HO
def upd (H : Hp) (a : Addr) (o : HO) : Hp := fun b => if b = a then some o else H b
theorem upd_same {H : Hp} {a : Addr} {o : HO} : upd H a o a = some o := by unfold upd; rw [if_pos rfl]
theorem upd_ne {H : Hp} {a b : Addr} {o : HO} (h : b ≠ a) : upd H a o b = H b := by unfold upd; rw [if_neg h]
/-- two objects of different content stand apart -/
theorem ne_of {H : Hp} {a b : Addr} {o u : HO} (h : H a = some o) (h' : H b = some u) (d : o ≠ u) : a ≠ b := by
  intro e; subst e; rw [h] at h'; exact d (Option.some.inj h')
theorem ne_of_none {H : Hp} {a b : Addr} {o : HO} (h : H a = some o) (h' : H b = none) : a ≠ b := by
  intro e; subst e; rw [h] at h'; cases h'

section
variable (P : Program) (w : World)
def ObjOk (H : Hp) (h : Heap) (a : Addr) : HO → Prop
  | .lst xs => xs.length ≤ sizeLine ∧ ∃ (its : List Value) (n : Nat), Vals xs its ∧ h.get? a = some { cls := .type "list", data := .seq its.toArray n }
  | .tup xs => xs.length ≤ sizeLine ∧ ∃ its : List Value, Vals xs its ∧ IsTup h a its.toArray
  | .dK kvs => kvs.length ≤ sizeLine ∧ (a == sysModules) = false ∧ ∃ vs, KV kvs vs ∧ h.DictOf (mixKind P w) a vs
  | .dT kvs => kvs.length ≤ sizeLine ∧ (a == sysModules) = false ∧ ∃ xs : List (List Key × Addr × Value),
      Paired (fun (p : List Key × V) (q : List Key × Addr × Value) => p.1 = q.1 ∧ H q.2.1 = some (.tup (p.1.map kV)) ∧ RelV p.2 q.2.2) kvs xs ∧
      ∃ o es ep, h.get? a = some o ∧ o.ExactDict ∧ o.data = .dict es ep ∧ es.toList = xs.map (entryOfKey (tupleKind (mixKind P w))) ∧ (xs.map (·.1)).Nodup
  | .set S n => h.SetOf (intKind P w) a S n
  | .ins C dx fs => H dx = some (.own a) ∧ fs.length ≤ 1000 ∧ dx ≠ a ∧ h.get? a = some (PySem.W.instObj C dx) ∧
      ∃ mA, h.Ns1 dx mA ∧ (∀ f, RelO (fs.lookup f) (mA f)) ∧ PySem.Within mA (fs.map (·.1))
  | .own _ => ∃ o, h.get? a = some o
  | .xd fs => ∃ mA, h.Ns1 a mA ∧ ∀ f, RelO (fs.lookup f) (mA f)
  | .rng lo hi => ∃ t u v, h.get? a = some { cls := .type "range", data := .fields #[.int lo t, .int hi u, .int 1 v] }
  | .frz o u => h.get? a = some o ∧ ObjOk H h a u
  | .tbl ps => h.get? a = some { cls := .none, data := .fields ps }
  | .met f x => h.get? a = some (PySem.W.methodObj (.ref f) (.ref x))
  | .ext φ => φ h ∧ (∃ o, h.get? a = some o) ∧ ∀ h1 h2 : Heap, φ h1 → (∀ o, h1.get? a = some o → h2.get? a = some o) → φ h2
/-- the abstract heap is held -/
def HOk (H : Hp) (h : Heap) : Prop := ∀ a o, H a = some o → ObjOk P w H h a o
end

section
variable {P : Program} {w : World} {H H' : Hp} {h h' : Heap} {a : Addr} {o : HO}
theorem ObjOk.lt (x : ObjOk P w H h a o) : a < h.objs.size := by
  cases o with
  | lst xs => obtain ⟨_, _, _, _, e⟩ := x; exact Heap.lt_size e
  | tup xs => obtain ⟨_, _, _, p⟩ := x; exact p.lt
  | dK kvs => obtain ⟨_, _, _, _, o, _, _, e, _⟩ := x; exact Heap.lt_size e
  | dT kvs => obtain ⟨_, _, _, _, o, _, _, e, _⟩ := x; exact Heap.lt_size e
  | set S n => obtain ⟨o, _, _, _, e, _⟩ := x; exact Heap.lt_size e
  | ins C dx fs => obtain ⟨_, _, _, e, _⟩ := x; exact Heap.lt_size e
  | own y => obtain ⟨_, e⟩ := x; exact Heap.lt_size e
  | xd fs => obtain ⟨_, ⟨_, _, _, e, _⟩, _⟩ := x; exact Heap.lt_size e
  | rng lo hi => obtain ⟨_, _, _, e⟩ := x; exact Heap.lt_size e
  | frz ob u => obtain ⟨e, _⟩ := x; exact Heap.lt_size e
  | tbl ps => exact Heap.lt_size (show h.get? a = some _ from x)
  | met f y => exact Heap.lt_size (show h.get? a = some _ from x)
  | ext φ => obtain ⟨_, ⟨_, e⟩, _⟩ := x; exact Heap.lt_size e
theorem Paired.mapP {α β : Type} {F G : α → β → Prop} : ∀ {l₁ : List α} {l₂ : List β}, Paired F l₁ l₂ → (∀ a b, F a b → G a b) → Paired G l₁ l₂
  | _, _, .nil, _ => .nil
  | _, _, .cons r t, f => .cons (f _ _ r) (Paired.mapP t f)
/-- what an object's description leans on: its own object, its own dict, the tuples -/
theorem ObjOk.stay (x : ObjOk P w H h a o) (k : ∀ b u, (b = a ∨ H b = some (.own a)) → h.get? b = some u → h'.get? b = some u)
    (ho : ∀ b, H b = some (.own a) → H' b = some (.own a)) (ht : ∀ b xs, H b = some (.tup xs) → H' b = some (.tup xs)) : ObjOk P w H' h' a o := by
  induction o with
  | lst xs => obtain ⟨z, its, n, r, e⟩ := x; exact ⟨z, its, n, r, k _ _ (.inl rfl) e⟩
  | tup xs => obtain ⟨z, its, r, ob, e, c⟩ := x; exact ⟨z, its, r, ob, k _ _ (.inl rfl) e, c⟩
  | dK kvs => obtain ⟨z, y, vs, r, ob, es, ep, e, c⟩ := x; exact ⟨z, y, vs, r, ob, es, ep, k _ _ (.inl rfl) e, c⟩
  | dT kvs =>
    obtain ⟨z, y, xs, r, ob, es, ep, e, c⟩ := x
    exact ⟨z, y, xs, Paired.mapP r fun p q z => ⟨z.1, ht _ _ z.2.1, z.2.2⟩, ob, es, ep, k _ _ (.inl rfl) e, c⟩
  | set S n => obtain ⟨ob, es, ep, t, e, c⟩ := x; exact ⟨ob, es, ep, t, k _ _ (.inl rfl) e, c⟩
  | ins C dx fs =>
    obtain ⟨d, z, ne, e, mA, ⟨od, es, ep, e2, c⟩, r⟩ := x
    exact ⟨ho _ d, z, ne, k _ _ (.inl rfl) e, mA, ⟨od, es, ep, k _ _ (.inr d) e2, c⟩, r⟩
  | own y => obtain ⟨ob, e⟩ := x; exact ⟨ob, k _ _ (.inl rfl) e⟩
  | xd fs => obtain ⟨mA, ⟨od, es, ep, e, c⟩, r⟩ := x; exact ⟨mA, ⟨od, es, ep, k _ _ (.inl rfl) e, c⟩, r⟩
  | rng lo hi => obtain ⟨t, u, v, e⟩ := x; exact ⟨t, u, v, k _ _ (.inl rfl) e⟩
  | frz ob u ih => obtain ⟨e, q⟩ := x; exact ⟨k _ _ (.inl rfl) e, ih q⟩
  | tbl ps =>
    have e : h.get? a = some { cls := .none, data := .fields ps } := x
    show h'.get? a = some { cls := .none, data := .fields ps }
    exact k a _ (.inl rfl) e
  | met f y =>
    have e : h.get? a = some (PySem.W.methodObj (.ref f) (.ref y)) := x
    show h'.get? a = some (PySem.W.methodObj (.ref f) (.ref y))
    exact k a _ (.inl rfl) e
  | ext φ => obtain ⟨p, ⟨o, e⟩, st⟩ := x; exact ⟨st _ _ p fun o q => k _ _ (.inl rfl) q, ⟨o, k _ _ (.inl rfl) e⟩, st⟩
theorem HOk.lt (x : HOk P w H h) (e : H a = some o) : a < h.objs.size := (x a o e).lt
theorem HOk.fresh (x : HOk P w H h) (e : h.objs.size ≤ a) : H a = none := by
  cases q : H a with
  | none => rfl
  | some u => exact absurd (Nat.lt_of_lt_of_le (x.lt q) e) (Nat.lt_irrefl _)
/-- every object of the heap is kept -/
theorem HOk.kept (x : HOk P w H h) (k : ∀ b u, h.get? b = some u → h'.get? b = some u) : HOk P w H h' := fun a o e =>
  (x a o e).stay (fun b u _ q => k b u q) (fun _ q => q) fun _ _ q => q
/-- a new object is laid and tracked -/
theorem HOk.laid (x : HOk P w H h) (k : ∀ b u, h.get? b = some u → h'.get? b = some u) (hp : h.objs.size ≤ a) (new : ObjOk P w (upd H a o) h' a o) : HOk P w (upd H a o) h' := fun b u e => by
  have hn := x.fresh hp
  by_cases hb : b = a
  · subst hb; rw [upd_same] at e; cases e; exact new
  · rw [upd_ne hb] at e
    exact (x b u e).stay (fun c v _ q => k c v q) (fun c q => by rw [upd_ne (ne_of_none q hn)]; exact q) fun c xs q => by rw [upd_ne (ne_of_none q hn)]; exact q
end

/-- what may be read as u: it is u, or a known u -/
def Rd (H : Hp) (a : Addr) (u : HO) : Prop := H a = some u ∨ ∃ o, H a = some (.frz o u)
theorem Rd.of {H : Hp} {a : Addr} {u : HO} (h : H a = some u) : Rd H a u := .inl h
theorem Rd.ok {P : Program} {w : World} {H : Hp} {h : Heap} {a : Addr} {u : HO} (r : Rd H a u) (x : HOk P w H h) : ObjOk P w H h a u := by
  rcases r with r | ⟨o, r⟩
  · exact x a u r
  · obtain ⟨_, q⟩ := x a _ r
    exact q
/-- what may be written -/
def Mut : Option HO → Prop
  | some (.lst _) => True
  | some (.dK _) => True
  | some (.dT _) => True
  | some (.set _ _) => True
  | some (.ins _ _ _) => True
  | some (.ext _) => True
  | _ => False
section
variable {P : Program} {w : World} {H : Hp} {h h' : Heap} {x e : Addr} {o' : HO}
/-- the object at e is changed: x itself, or the dict of the instance x -/
theorem HOk.write (ok : HOk P w H h) (mu : Mut (H x)) (he : e = x ∨ H e = some (.own x)) (k : ∀ b u, b ≠ e → h.get? b = some u → h'.get? b = some u) (heo : ∃ u, h'.get? e = some u)
    (new : ObjOk P w (upd H x o') h' x o') : HOk P w (upd H x o') h' := fun b u q => by
  have nown : ∀ c y, H c = some (.own y) → c ≠ x := fun c y r z => by subst z; rw [r] at mu; exact mu
  have ntup : ∀ c xs, H c = some (.tup xs) → c ≠ x := fun c xs r z => by subst z; rw [r] at mu; exact mu
  by_cases hb : b = x
  · subst hb; rw [upd_same] at q; cases q; exact new
  · rw [upd_ne hb] at q
    by_cases hbe : b = e
    · have q' : H b = some (.own x) := by
        rcases he with z | z
        · exact absurd (hbe.trans z) hb
        · rw [hbe]; exact z
      rw [q] at q'; cases q'
      obtain ⟨v, hv⟩ := heo
      exact ⟨v, by rw [hbe]; exact hv⟩
    · refine (ok b u q).stay (fun c v hc r => k c v ?_ r) (fun c r => by rw [upd_ne (nown c b r)]; exact r) fun c xs r => by rw [upd_ne (ntup c xs r)]; exact r
      rcases hc with rfl | hc
      · exact hbe
      · rintro rfl
        rcases he with z | z
        · exact nown c b hc z
        · rw [hc] at z; cases z; exact hb rfl
end

/-! ### kept unless tracked; of the frames at fs (the callers') the slots may change (an exception that passes writes there); of the records at ex (iterators) nothing is said -/
structure Un (fs ex : List Addr) (H H' : Hp) (h h' : Heap) : Prop where
  keep : ∀ b o, h.get? b = some o → H b = none → b ∉ fs → b ∉ ex → h'.get? b = some o
  slot : ∀ b o, h.get? b = some o → H b = none → b ∈ fs → b ∉ ex → ∃ sl, h'.get? b = some { o with slots := sl }
  free : ∀ b o, h.get? b = some o → H b = none → b ∉ ex → H' b = none
  there : ∀ b o, h.get? b = some o → b ∉ ex → ∃ o', h'.get? b = some o'
  tups : ∀ b xs, H b = some (.tup xs) → H' b = some (.tup xs)
  frzs : ∀ b o u, H b = some (.frz o u) → H' b = some (.frz o u)
  tbls : ∀ b ps, H b = some (.tbl ps) → ∃ more, H' b = some (.tbl (ps ++ more))
section
variable {fs fs' ex ex' : List Addr} {H H1 H2 : Hp} {h h1 h2 h' : Heap} {a x e : Addr} {o : HO}
theorem Un.any (u : Un fs ex H H1 h h1) {b : Addr} {ob : Obj} (q : h.get? b = some ob) (n : H b = none) (hx : b ∉ ex) : ∃ sl, h1.get? b = some { ob with slots := sl } := by
  by_cases hb : b ∈ fs
  · exact u.slot b ob q n hb hx
  · exact ⟨ob.slots, u.keep b ob q n hb hx⟩
theorem Un.trans (a : Un fs ex H H1 h h1) (b : Un fs ex H1 H2 h1 h2) : Un fs ex H H2 h h2 where
  keep := fun c ob q n hc hx => b.keep c ob (a.keep c ob q n hc hx) (a.free c ob q n hx) hc hx
  slot := fun c ob q n hc hx => by
    obtain ⟨sl, e1⟩ := a.slot c ob q n hc hx
    obtain ⟨sl', e2⟩ := b.slot c _ e1 (a.free c ob q n hx) hc hx
    exact ⟨sl', e2⟩
  free := fun c ob q n hx => by
    obtain ⟨o', e1⟩ := a.there c ob q hx
    exact b.free c o' e1 (a.free c ob q n hx) hx
  there := fun c ob q hx => by
    obtain ⟨o', e1⟩ := a.there c ob q hx
    exact b.there c o' e1 hx
  tups := fun c xs q => b.tups c xs (a.tups c xs q)
  frzs := fun c ob xs q => b.frzs c ob xs (a.frzs c ob xs q)
  tbls := fun c ps q => by
    obtain ⟨m1, e1⟩ := a.tbls c ps q
    obtain ⟨m2, e2⟩ := b.tbls c _ e1
    exact ⟨m1 ++ m2, by rw [e2, Array.append_assoc]⟩
theorem Un.kept (k : ∀ b u, h.get? b = some u → h'.get? b = some u) : Un fs ex H H h h' :=
  ⟨fun b ob q _ _ _ => k b ob q, fun b ob q _ _ _ => ⟨ob.slots, k b ob q⟩, fun _ _ _ n _ => n, fun b ob q _ => ⟨ob, k b ob q⟩, fun _ _ q => q, fun _ _ _ q => q, fun _ ps q => ⟨#[], by rw [q]; simp⟩⟩
theorem Un.refl : Un fs ex H H h h := Un.kept fun _ _ q => q
theorem Un.laid (k : ∀ b u, h.get? b = some u → h'.get? b = some u) (hp : h.objs.size ≤ a) (hn : H a = none) : Un fs ex H (upd H a o) h h' where
  keep := fun b u q _ _ _ => k b u q
  slot := fun b u q _ _ _ => ⟨u.slots, k b u q⟩
  free := fun b u q n _ => by rw [upd_ne (Nat.ne_of_lt (Nat.lt_of_lt_of_le (Heap.lt_size q) hp))]; exact n
  there := fun b u q _ => ⟨u, k b u q⟩
  tups := fun b xs q => by rw [upd_ne (ne_of_none q hn)]; exact q
  frzs := fun b u xs q => by rw [upd_ne (ne_of_none q hn)]; exact q
  tbls := fun b ps q => ⟨#[], by rw [upd_ne (ne_of_none q hn), q]; simp⟩
theorem Un.write (mu : Mut (H x)) (he : e = x ∨ H e = some (.own x)) (k : ∀ b u, b ≠ e → h.get? b = some u → h'.get? b = some u) (heo : ∃ u, h'.get? e = some u) : Un fs ex H (upd H x o) h h' := by
  have hx : ∀ b, H b = none → b ≠ x := fun b n z => by subst z; rw [n] at mu; exact mu
  have hb : ∀ b, H b = none → b ≠ e := fun b n z => by
    subst z
    rcases he with r | r
    · exact hx b n r
    · rw [n] at r; cases r
  have hm : ∀ b u, H b = some u → ¬ Mut (some u) → b ≠ x := fun b u q nm z => by subst z; rw [q] at mu; exact nm mu
  refine ⟨fun b u q n _ _ => k b u (hb b n) q, fun b u q n _ _ => ⟨u.slots, k b u (hb b n) q⟩, fun b u q n _ => by rw [upd_ne (hx b n)]; exact n, fun b u q _ => ?_,
    fun b xs q => by rw [upd_ne (hm b _ q fun z => z)]; exact q, fun b u xs q => by rw [upd_ne (hm b _ q fun z => z)]; exact q, fun b ps q => ⟨#[], by rw [upd_ne (hm b _ q fun z => z), q]; simp⟩⟩
  by_cases hbe : b = e
  · subst hbe; exact heo
  · exact ⟨u, k b u hbe q⟩
theorem Un.mono (u : Un fs ex H H1 h h1) (hs : ∀ b ∈ fs, b ∈ fs') (hx : ∀ b ∈ ex, b ∈ ex') : Un fs' ex' H H1 h h1 :=
  ⟨fun b ob q n hb he => u.keep b ob q n (fun z => hb (hs b z)) fun z => he (hx b z), fun _ _ q n _ he => u.any q n fun z => he (hx _ z), fun b ob q n he => u.free b ob q n fun z => he (hx b z), fun b ob q he => u.there b ob q fun z => he (hx b z), u.tups, u.frzs, u.tbls⟩
end

/-! ### the heap without what is tracked -/
def trk (h : Heap) (H : Hp) : List Addr := (List.range h.objs.size).filter fun a => (H a).isSome
def hidT (h : Heap) (H : Hp) : Heap := PySem.W.hideAll h (trk h H)
theorem hidT_size (h : Heap) (H : Hp) : (hidT h H).objs.size = h.objs.size := PySem.W.hideAll_size _ _
theorem hidT_get {h : Heap} {H : Hp} {b : Addr} {o : Obj} (e : h.get? b = some o) (n : H b = none) : (hidT h H).get? b = some o :=
  PySem.W.hideAll_get _ e fun hm => by
    have q : (H b).isSome = true := (List.mem_filter.mp hm).2
    rw [n] at q; simp at q
theorem of_hidT {h : Heap} {H : Hp} {b : Addr} {o : Obj} (e : (hidT h H).get? b = some o) : h.get? b = some o ∧ H b = none := by
  have e' : h.get? b = some o := PySem.W.of_hideAll (trk h H) e
  refine ⟨e', ?_⟩
  cases q : H b with
  | none => rfl
  | some x =>
    have hm : b ∈ trk h H := List.mem_filter.mpr ⟨List.mem_range.mpr (Heap.lt_size e'), by simp [q]⟩
    have z : (hidT h H).get? b = none := PySem.W.hideAll_none (trk h H) hm
    rw [z] at e; cases e

/-! ### OpenK's ledger, filled with every new object but one -/
def allNews (g h : Heap) (L : Addr) : List (Addr × Obj) := (List.range h.objs.size).filterMap fun a => if a = L ∨ (g.get? a).isSome = true then none else (h.get? a).map fun o => (a, o)
def rest (g h : Heap) (L d : Addr) : List (Addr × Obj) := (allNews g h L).filter fun p => decide (p.1 ≠ d)
end L2

namespace L2
open PySem PySem.Spec PyProof.Rows

/-- the module's facts, over the base: the heap at the law's entry without what is tracked there -/
structure Mod (K : PySem.W.Frag) (mg : Str → Option Value) (base : Heap) : Prop where
  kin : K.In base
  glob : base.Ns mainGlobals mg
  blt : ∃ mb, base.Ns builtinsNs mb ∧ ∀ x : Str, x ≠ "__name__" → mb x = bootBuiltins x
  nolimit : base.NoLimit

/-- the context: a def's body (or a comprehension's block) running. base: fixed through the whole law; s₀, H₀: the entry; outer: the frames whose slots others may change (a def's callers); stack: all frames that run;
   ex: iterators that were made ahead of the entry and are walked here (a comprehension's); fn: the names whose cells were made at the entry (a def: all; a comprehension's block: its own); calm: not within an except suite; pn: pins that every state bears; xe: what is wanted of an exception that leaves the code -/
structure Cx where
  prog : Program
  w : World
  K : PySem.W.Frag
  mg : Str → Option Value
  base : Heap
  A : Around
  N : List Str
  s₀ : Shared
  H₀ : Hp
  env : Env
  outer : List Env
  stack : List Env
  ex : List Addr
  fn : Str → Bool
  calm : Bool
  pn : List (Addr × Obj)
  xe : Value → Shared → Prop
/-- the callers' frames -/
def frs (l : List Env) : List Addr := l.filterMap (·.frame)
abbrev Cx.fs (X : Cx) : List Addr := frs X.outer

def Vis (sc : Scope) (x : Str) : Prop := sc.names.lookup x = some .local ∨ sc.names.lookup x = some .cell ∨ sc.names.lookup x = some .free
def Loc (sc : Scope) (x : Str) : Prop := sc.names.lookup x = some .local ∨ sc.names.lookup x = some .cell
def Look (env : Env) (h : Heap) (m : Str → Option Value) (x : Str) (u : Value) : Prop :=
  (env.kindOf x = some .local ∧ m x = some u) ∨ ((env.kindOf x = some .cell ∨ env.kindOf x = some .free) ∧ ∃ c, env.cells.lookup x = some c ∧ h.IsCell c (some u))

structure Cx.Ok (X : Cx) : Prop where
  mod : Mod X.K X.mg X.base
  kind : X.env.scope.kind = .function
  glob : X.env.globals = mainGlobals
  blt : X.env.builtins = builtinsNs
  above : X.s₀.heap.objs.size ≤ X.env.locals
  inj : ∀ x y c, X.env.cells.lookup x = some c → X.env.cells.lookup y = some c → x = y
  has : ∀ x, (X.env.kindOf x = some .cell ∨ X.env.kindOf x = some .free) → ∃ c, X.env.cells.lookup x = some c
  cab : ∀ x c, X.fn x = true → X.env.cells.lookup x = some c → X.s₀.heap.objs.size ≤ c
  hd : X.calm = true → X.A.handled = none
  frames : X.A.frames = some X.stack
  stk : X.stack = X.outer ∨ (X.stack = X.env :: X.outer ∧ X.env.frame = some X.env.locals)
  exf : ∀ b ∈ X.ex, b ≠ X.env.locals ∧ ∀ x c, X.env.cells.lookup x = some c → c ≠ b
  bs : ∀ b o, X.base.get? b = some o → X.s₀.heap.get? b = some o ∧ X.H₀ b = none
  bsz : X.base.objs.size ≤ X.s₀.heap.objs.size
  noex : ∀ b o, X.base.get? b = some o → b ∉ X.ex
  exfs : ∀ b ∈ X.ex, b ∉ X.fs
  funs : X.s₀.heap.FunFrames X.base X.outer
  frf : ∀ b ∈ X.fs, X.H₀ b = none

structure Inv (X : Cx) (pins : List (Addr × Obj)) (σ : List (Option V)) (H : Hp) (s : Shared) : Prop where
  ok : X.Ok
  os : s.os = X.s₀.os
  bare : AllBare s.gens
  base : Un X.fs X.ex X.H₀ H X.s₀.heap s.heap
  loc : ∃ m, s.heap.Ns X.env.locals m ∧ ∀ (i : Nat) (x : Str) (v : V), X.N[i]? = some x → σ[i]? = some (some v) → Vis X.env.scope x → ∃ u, RelV v u ∧ Look X.env s.heap m x u
  cell : ∀ x c, X.env.cells.lookup x = some c → ∃ v, s.heap.IsCell c v
  free : H X.env.locals = none
  freeC : ∀ x c, X.env.cells.lookup x = some c → H c = none
  pin : ∀ p ∈ X.pn ++ pins, s.heap.get? p.1 = some p.2 ∧ H p.1 = none ∧ p.1 ≠ X.env.locals ∧ p.1 ∉ X.fs ∧ ∀ v, p.2.data ≠ .cell v
  hok : HOk X.prog X.w H s.heap
  len : σ.length = X.N.length

section
variable {X : Cx} {pins : List (Addr × Obj)} {σ : List (Option V)} {H H' : Hp} {s : Shared} {h' : Heap}

theorem Cx.Ok.nofr (ok : X.Ok) {b : Addr} {o : Obj} (e : X.base.get? b = some o) : b ∉ X.fs := fun hb => by
  have := (ok.funs.mem hb).1
  rw [e] at this; cases this
theorem Inv.bs (I : Inv X pins σ H s) : ∀ b o, X.base.get? b = some o → s.heap.get? b = some o ∧ H b = none := fun b o e =>
  ⟨I.base.keep b o (I.ok.bs b o e).1 (I.ok.bs b o e).2 (I.ok.nofr e) (I.ok.noex b o e), I.base.free b o (I.ok.bs b o e).1 (I.ok.bs b o e).2 (I.ok.noex b o e)⟩
theorem Inv.bk (I : Inv X pins σ H s) : ∀ b o, X.base.get? b = some o → s.heap.get? b = some o := fun b o e => (I.bs b o e).1
theorem Inv.mod (I : Inv X pins σ H s) : Mod X.K X.mg X.base := I.ok.mod
theorem Inv.kIn (I : Inv X pins σ H s) : X.K.In s.heap := I.ok.mod.kin.keeps I.bk
theorem Inv.nolimit (I : Inv X pins σ H s) : s.heap.NoLimit := I.ok.mod.nolimit.keeps I.bk
/-- the frame over the base: for OpenK's rules (K.In X.base is I.mod.kin) -/
theorem Inv.fr (I : Inv X pins σ H s) : ∃ m, Fr X.base X.env.locals s.heap m :=
  let ⟨m, hn, _⟩ := I.loc
  ⟨m, hn, I.bk, Nat.le_trans I.ok.bsz I.ok.above⟩
theorem Inv.lt (I : Inv X pins σ H s) : X.env.locals < s.heap.objs.size := let ⟨_, hn, _⟩ := I.loc; hn.lt
theorem Inv.sz (I : Inv X pins σ H s) : X.s₀.heap.objs.size ≤ s.heap.objs.size := Nat.le_trans I.ok.above (Nat.le_of_lt I.lt)
theorem Inv.nofs (I : Inv X pins σ H s) {a : Addr} (h : s.heap.objs.size ≤ a) : a ∉ X.fs := fun hb => by
  obtain ⟨_, o, ho, _⟩ := I.ok.funs.mem hb
  exact absurd (Nat.lt_of_lt_of_le (Heap.lt_size ho) (Nat.le_trans I.sz h)) (Nat.lt_irrefl _)
theorem Inv.cne (I : Inv X pins σ H s) : ∀ x c, X.env.cells.lookup x = some c → c ≠ X.env.locals := fun x c e z => by
  obtain ⟨v, o, ho, hd⟩ := I.cell x c e
  obtain ⟨m, ⟨o', es, ep, ho', hd', _⟩, _⟩ := I.loc
  rw [z, ho'] at ho; cases ho; rw [hd'] at hd; cases hd
theorem Inv.funs (I : Inv X pins σ H s) : s.heap.FunFrames X.base X.outer := by
  have all : ∀ (l : List Env), (∀ b ∈ frs l, b ∈ X.fs) → X.s₀.heap.FunFrames X.base l → s.heap.FunFrames X.base l := by
    intro l
    induction l with
    | nil => intro _ _; trivial
    | cons env r ih =>
      intro hs hl
      obtain ⟨hk, ⟨L, o, hf, hn, ho, hd⟩, hr⟩ := hl
      have hL : L ∈ X.fs := hs L (by unfold frs; rw [List.filterMap_cons, hf]; exact List.mem_cons_self)
      obtain ⟨sl, e⟩ := I.base.slot L o ho (I.ok.frf L hL) hL fun z => I.ok.exfs L z hL
      exact ⟨hk, ⟨L, _, hf, hn, e, hd⟩, ih (fun b hb => hs b (by unfold frs; rw [List.filterMap_cons, hf]; exact List.mem_cons_of_mem _ hb)) hr⟩
  exact all X.outer (fun _ hb => hb) I.ok.funs

/-- the frames that run, for a call -/
theorem Inv.stack (I : Inv X pins σ H s) : s.heap.FunFrames X.base X.stack := by
  rcases I.ok.stk with e | ⟨e, hf⟩
  · rw [e]; exact I.funs
  · rw [e]
    obtain ⟨m, hn, _⟩ := I.loc
    refine .cons (by rw [I.ok.kind]; decide) hf hn ?_ I.funs
    exact Heap.get?_none_of_le (Nat.le_trans I.ok.bsz I.ok.above)
theorem Inv.stkSub (I : Inv X pins σ H s) : ∀ b ∈ frs X.stack, b ∈ X.env.locals :: X.fs := fun b hb => by
  rcases I.ok.stk with e | ⟨e, hf⟩
  · rw [e] at hb; exact List.mem_cons_of_mem _ hb
  · rw [e] at hb
    unfold frs at hb
    rw [List.filterMap_cons, hf] at hb
    exact hb
theorem Inv.stkFree (I : Inv X pins σ H s) : ∀ b ∈ frs X.stack, H b = none := fun b hb => by
  rcases List.mem_cons.mp (I.stkSub b hb) with e | hb
  · rw [e]; exact I.free
  · obtain ⟨_, o, ho, _⟩ := I.ok.funs.mem hb
    exact I.base.free b o ho (I.ok.frf b hb) fun z => I.ok.exfs b z hb

/-- THE STEP: the untracked objects but the frame and the records at ch are kept (the callers' frames up to slots), the frame's map is kept, the new abstract heap is held -/
theorem Inv.step {g' : Array GenState} {t' : Nat} {d' : Drawn} {ch : List Addr} (I : Inv X pins σ H s)
    (hch : ∀ b ∈ ch, (b ∈ X.ex ∨ X.s₀.heap.objs.size ≤ b) ∧ b ≠ X.env.locals ∧ (∀ x c, X.env.cells.lookup x = some c → c ≠ b) ∧ ∀ p ∈ X.pn ++ pins, p.1 ≠ b)
    (keep : ∀ b o, b ≠ X.env.locals → b ∉ X.fs → b ∉ ch → s.heap.get? b = some o → H b = none → h'.get? b = some o)
    (slot : ∀ b o, b ≠ X.env.locals → b ∈ X.fs → b ∉ ch → s.heap.get? b = some o → H b = none → ∃ sl, h'.get? b = some { o with slots := sl }) (free : ∀ b o, b ∉ ch → s.heap.get? b = some o → H b = none → H' b = none)
    (there : ∀ b o, b ∉ ch → s.heap.get? b = some o → ∃ o', h'.get? b = some o')
    (tups : ∀ b xs, H b = some (.tup xs) → H' b = some (.tup xs)) (frzs : ∀ b o u, H b = some (.frz o u) → H' b = some (.frz o u)) (tbls : ∀ b ps, H b = some (.tbl ps) → ∃ more, H' b = some (.tbl (ps ++ more)))
    (ns : ∀ m, s.heap.Ns X.env.locals m → h'.Ns X.env.locals m) (hok : HOk X.prog X.w H' h') (hg : AllBare g') :
    Inv X pins σ H' { s with heap := h', gens := g', drawn := d', toks := t' } := by
  have neL : ∀ b o, X.s₀.heap.get? b = some o → b ≠ X.env.locals := fun b o e => Nat.ne_of_lt (Nat.lt_of_lt_of_le (Heap.lt_size e) I.ok.above)
  have neC : ∀ b o, X.s₀.heap.get? b = some o → b ∉ X.ex → b ∉ ch := fun b o e hx hb => by
    rcases (hch b hb).1 with z | z
    · exact hx z
    · exact absurd (Nat.lt_of_lt_of_le (Heap.lt_size e) z) (Nat.lt_irrefl _)
  have cellK : ∀ x c, X.env.cells.lookup x = some c → ∀ v, s.heap.IsCell c v → h'.IsCell c v := fun x c e v ⟨o, ho, hd⟩ => by
    have nch : c ∉ ch := fun z => (hch c z).2.2.1 x c e rfl
    by_cases hc : c ∈ X.fs
    · obtain ⟨sl, q⟩ := slot c o (I.cne x c e) hc nch ho (I.freeC x c e)
      exact ⟨_, q, hd⟩
    · exact ⟨o, keep c o (I.cne x c e) hc nch ho (I.freeC x c e), hd⟩
  refine ⟨I.ok, I.os, hg, ⟨fun b o e n hb hx => ?_, fun b o e n hb hx => ?_, fun b o e n hx => ?_, fun b o e hx => ?_, fun b xs e => tups b xs (I.base.tups b xs e), fun b o xs e => frzs b o xs (I.base.frzs b o xs e), fun b ps e => ?_⟩, ?_, fun x c e => ?_, ?_, fun x c e => ?_, fun p hp => ?_, hok, I.len⟩
  · exact keep b o (neL b o e) hb (neC b o e hx) (I.base.keep b o e n hb hx) (I.base.free b o e n hx)
  · obtain ⟨sl, e1⟩ := I.base.slot b o e n hb hx
    obtain ⟨sl', e2⟩ := slot b _ (neL b o e) hb (neC b o e hx) e1 (I.base.free b o e n hx)
    exact ⟨sl', e2⟩
  · obtain ⟨o', e1⟩ := I.base.there b o e hx
    exact free b o' (neC b o e hx) e1 (I.base.free b o e n hx)
  · obtain ⟨o', e1⟩ := I.base.there b o e hx
    exact there b o' (neC b o e hx) e1
  · obtain ⟨m1, e1⟩ := I.base.tbls b ps e
    obtain ⟨m2, e2⟩ := tbls b _ e1
    exact ⟨m1 ++ m2, by rw [e2, Array.append_assoc]⟩
  · obtain ⟨m, hn, hl⟩ := I.loc
    refine ⟨m, ns m hn, fun i x v e1 e2 e3 => ?_⟩
    obtain ⟨u, r, l⟩ := hl i x v e1 e2 e3
    refine ⟨u, r, ?_⟩
    rcases l with l | ⟨k, c, e, z⟩
    · exact .inl l
    · exact .inr ⟨k, c, e, cellK x c e _ z⟩
  · obtain ⟨v, z⟩ := I.cell x c e
    exact ⟨v, cellK x c e v z⟩
  · obtain ⟨m, ⟨o, _, _, ho, _⟩, _⟩ := I.loc
    exact free _ o (fun z => (hch _ z).2.1 rfl) ho I.free
  · obtain ⟨v, o, ho, hd⟩ := I.cell x c e
    exact free c o (fun z => (hch c z).2.2.1 x c e rfl) ho (I.freeC x c e)
  · obtain ⟨e, n, ne, nf, d⟩ := I.pin p hp
    have nch : p.1 ∉ ch := fun z => (hch p.1 z).2.2.2 p hp rfl
    exact ⟨keep p.1 p.2 ne nf nch e n, free p.1 p.2 nch e n, ne, nf, d⟩
/-- .. where the frame's own object is kept too -/
theorem Inv.un {t' : Nat} (I : Inv X pins σ H s) (u : Un X.fs [] H H' s.heap h') (hok : HOk X.prog X.w H' h') : Inv X pins σ H' { s with heap := h', toks := t' } := by
  obtain ⟨m, ⟨o, es, ep, ho, r⟩, _⟩ := id I.loc
  obtain ⟨sl, hL⟩ := u.any ho I.free (by simp)
  exact I.step (g' := s.gens) (d' := s.drawn) (ch := []) (fun _ z => nomatch z) (fun b o _ hb _ e n => u.keep b o e n hb (by simp)) (fun b o _ hb _ e n => u.slot b o e n hb (by simp)) (fun b o _ e n => u.free b o e n (by simp)) (fun b o _ e => u.there b o e (by simp)) u.tups u.frzs u.tbls (fun m' hm => by
    obtain ⟨o', es', ep', ho', r'⟩ := hm
    rw [ho] at ho'; cases ho'
    exact ⟨_, es', ep', hL, r'⟩) hok I.bare
/-- behind a call (or a comprehension's block): the slots of this frame may have changed too, the records at ch may have turned -/
theorem Inv.call {g' : Array GenState} {t' : Nat} {d' : Drawn} {ch : List Addr} (I : Inv X pins σ H s) (u : Un (frs X.stack) ch H H' s.heap h') (hok : HOk X.prog X.w H' h') (hg : AllBare g')
    (hch : ∀ b ∈ ch, (b ∈ X.ex ∨ X.s₀.heap.objs.size ≤ b) ∧ b ≠ X.env.locals ∧ (∀ x c, X.env.cells.lookup x = some c → c ≠ b) ∧ ∀ p ∈ X.pn ++ pins, p.1 ≠ b) :
    Inv X pins σ H' { s with heap := h', gens := g', drawn := d', toks := t' } := by
  obtain ⟨m, ⟨o, es, ep, ho, r⟩, _⟩ := id I.loc
  obtain ⟨sl, hL⟩ := u.any ho I.free fun z => (hch _ z).2.1 rfl
  exact I.step (ch := ch) hch (fun b o hL hb hc e n => u.keep b o e n (fun z => (List.mem_cons.mp (I.stkSub b z)).elim hL hb) hc) (fun b o _ _ hc e n => u.any e n hc) (fun b o hc e n => u.free b o e n hc) (fun b o hc e => u.there b o e hc) u.tups u.frzs u.tbls (fun m' hm => by
    obtain ⟨o', es', ep', ho', r'⟩ := hm
    rw [ho] at ho'; cases ho'
    exact ⟨_, es', ep', hL, r'⟩) hok hg
/-- an untracked record of ours (an iterator) has turned -/
theorem Inv.turned {t' : Nat} {it : Addr} (I : Inv X pins σ H s) (k : ∀ b o, b ≠ it → s.heap.get? b = some o → h'.get? b = some o) (hn : H it = none) (hL : it ≠ X.env.locals)
    (h1 : it ∈ X.ex ∨ X.s₀.heap.objs.size ≤ it) (h2 : ∀ x c, X.env.cells.lookup x = some c → c ≠ it) (h3 : ∀ p ∈ X.pn ++ pins, p.1 ≠ it) : Inv X pins σ H { s with heap := h', toks := t' } := by
  have nit : ∀ b u, H b = some u → b ≠ it := fun b u e z => by rw [z, hn] at e; cases e
  refine I.step (g' := s.gens) (d' := s.drawn) (ch := [it]) (fun b hb => ?_) (fun b o _ _ hc e _ => k b o (fun z => hc (by simp [z])) e) (fun b o _ _ hc e _ => ⟨o.slots, k b o (fun z => hc (by simp [z])) e⟩) (fun _ _ _ _ n => n)
    (fun b o hc e => ⟨o, k b o (fun z => hc (by simp [z])) e⟩) (fun _ _ e => e) (fun _ _ _ e => e) (fun b ps e => ⟨#[], by rw [e]; simp⟩) (fun m hm => ?_) (fun b u e => ?_) I.bare
  · have e : b = it := by simpa using hb
    subst e
    exact ⟨h1, hL, h2, h3⟩
  · obtain ⟨o, es, ep, ho, r⟩ := hm
    exact ⟨o, es, ep, k _ o (Ne.symm hL) ho, r⟩
  · refine (I.hok b u e).stay (fun c v hc q => k c v ?_ q) (fun _ q => q) fun _ _ q => q
    rcases hc with z | z
    · rw [z]; exact nit b u e
    · exact nit c _ z
theorem Inv.tok (I : Inv X pins σ H s) (t : Nat) : Inv X pins σ H { s with toks := t } := I.un (h' := s.heap) (t' := t) Un.refl I.hok
/-- all objects kept -/
theorem Inv.kept {t' : Nat} (I : Inv X pins σ H s) (k : ∀ b u, s.heap.get? b = some u → h'.get? b = some u) : Inv X pins σ H { s with heap := h', toks := t' } := I.un (Un.kept k) (I.hok.kept k)
/-- a new object laid and tracked -/
theorem Inv.laid {a : Addr} {o : HO} {t' : Nat} (I : Inv X pins σ H s) (k : ∀ b u, s.heap.get? b = some u → h'.get? b = some u) (hp : s.heap.objs.size ≤ a) (new : ObjOk X.prog X.w (upd H a o) h' a o) :
    Inv X pins σ (upd H a o) { s with heap := h', toks := t' } := I.un (Un.laid k hp (I.hok.fresh hp)) (I.hok.laid k hp new)
/-- an object written -/
theorem Inv.write {x e : Addr} {o : HO} {t' : Nat} (I : Inv X pins σ H s) (mu : Mut (H x)) (he : e = x ∨ H e = some (.own x)) (k : ∀ b u, b ≠ e → s.heap.get? b = some u → h'.get? b = some u) (heo : ∃ u, h'.get? e = some u)
    (new : ObjOk X.prog X.w (upd H x o) h' x o) : Inv X pins σ (upd H x o) { s with heap := h', toks := t' } := I.un (Un.write mu he k heo) (I.hok.write mu he k heo new)
/-- forgetting slots, pins -/
theorem Inv.weak {σ' : List (Option V)} (I : Inv X pins σ H s) (hl : σ'.length = σ.length) (w : ∀ (i : Nat) v, σ'[i]? = some (some v) → σ[i]? = some (some v)) : Inv X pins σ' H s :=
  ⟨I.ok, I.os, I.bare, I.base, let ⟨m, hn, hl'⟩ := I.loc; ⟨m, hn, fun i x v e1 e2 e3 => hl' i x v e1 (w i v e2) e3⟩, I.cell, I.free, I.freeC, I.pin, I.hok, hl.trans I.len⟩
theorem Inv.pins_of {pins' : List (Addr × Obj)} (I : Inv X pins σ H s) (h : ∀ p ∈ pins', s.heap.get? p.1 = some p.2 ∧ H p.1 = none ∧ p.1 ≠ X.env.locals ∧ p.1 ∉ X.fs ∧ ∀ v, p.2.data ≠ .cell v) : Inv X pins' σ H s :=
  ⟨I.ok, I.os, I.bare, I.base, I.loc, I.cell, I.free, I.freeC, fun p hp => (List.mem_append.mp hp).elim (fun z => I.pin p (List.mem_append_left _ z)) (h p), I.hok, I.len⟩

theorem nodup_ix {N : List Str} (hN : N.Nodup) {i j : Nat} {x : Str} (a : N[i]? = some x) (b : N[j]? = some x) : i = j := by
  obtain ⟨h1, e1⟩ := List.getElem?_eq_some_iff.mp a
  obtain ⟨h2, e2⟩ := List.getElem?_eq_some_iff.mp b
  exact (List.getElem_inj hN).mp (e1.trans e2.symm)

/-- a name is stored; what changed -/
theorem store_ok2 {M : Model} {A : Around} {E : Value → Shared → Prop} {i : Nat} {x : Str} {v : V} {u : Value} {Q : Unit → Shared → Prop} (I : Inv X pins σ H s) (hN : X.N.Nodup) (hi : X.N[i]? = some x) (hx : Loc X.env.scope x) (r : RelV v u)
    (h : ∀ s', Inv X pins (σ.set i (some v)) H s' → (∃ a, Heap.SameBut a s.heap s'.heap ∧ (a = X.env.locals ∨ X.env.cells.lookup x = some a)) → Q () s') (hf : X.fn x = true ∨ X.env.scope.names.lookup x = some .local := by first | exact .inl rfl | exact .inr rfl | assumption) : wpAny M A (storeName X.env x u) Q E s := by
  obtain ⟨m, hn, hl⟩ := id I.loc
  have hcls : (X.env.scope.kind == .class || (X.env.scope.kind == .module && X.env.locals != X.env.globals)) = false := by rw [I.ok.kind]; rfl
  have hiσ : i < σ.length := by rw [I.len]; exact (List.getElem?_eq_some_iff.mp hi).1
  have cne := I.cne
  have tracked : ∀ {a : Addr} {h' : Heap}, (∃ o, s.heap.get? a = some o ∧ H a = none) → Heap.SameBut a s.heap h' → HOk X.prog X.w H h' := fun {a h'} ha hs b ob e => by
    obtain ⟨_, _, hfree⟩ := ha
    refine (I.hok b ob e).stay (fun c w' hc q => (hs.2 c ?_).trans q) (fun _ q => q) fun _ _ q => q
    rintro rfl
    rcases hc with rfl | hc
    · rw [hfree] at e; cases e
    · rw [hfree] at hc; cases hc
  rcases hx with hk | hk
  · refine wpAny_storeName_local hk hn (fun h' hn' hs => ?_) hcls
    obtain ⟨oL, _, _, hoL, _⟩ := id hn
    refine h _ ⟨I.ok, I.os, I.bare, ⟨fun b o e n hb hx => ?_, fun b o e n hb hx => ?_, I.base.free, fun b o e hx => ?_, I.base.tups, I.base.frzs, I.base.tbls⟩, ⟨_, hn', fun j y v' e1 e2 e3 => ?_⟩, fun y c e => ?_, I.free, I.freeC, fun p hp => ?_, tracked ⟨oL, hoL, I.free⟩ hs, by simpa using I.len⟩ ⟨_, hs, .inl rfl⟩
    · exact (hs.2 b (Nat.ne_of_lt (Nat.lt_of_lt_of_le (Heap.lt_size e) I.ok.above))).trans (I.base.keep b o e n hb hx)
    · obtain ⟨sl, e1⟩ := I.base.slot b o e n hb hx
      exact ⟨sl, (hs.2 b (Nat.ne_of_lt (Nat.lt_of_lt_of_le (Heap.lt_size e) I.ok.above))).trans e1⟩
    · obtain ⟨o', e1⟩ := I.base.there b o e hx
      exact ⟨o', (hs.2 b (Nat.ne_of_lt (Nat.lt_of_lt_of_le (Heap.lt_size e) I.ok.above))).trans e1⟩
    · by_cases hj : j = i
      · subst hj
        rw [hi] at e1; cases e1
        rw [List.getElem?_set_self hiσ] at e2
        cases e2
        exact ⟨u, r, .inl ⟨hk, by simp⟩⟩
      · rw [List.getElem?_set_ne (Ne.symm hj)] at e2
        obtain ⟨u', r', q⟩ := hl j y v' e1 e2 e3
        refine ⟨u', r', ?_⟩
        rcases q with ⟨k, e⟩ | ⟨k, c, e, z⟩
        · refine .inl ⟨k, ?_⟩
          have : y ≠ x := fun e => hj (nodup_ix hN e1 (e ▸ hi))
          simp [this, e]
        · exact .inr ⟨k, c, e, z.sameBut hs (cne y c e)⟩
    · obtain ⟨w', z⟩ := I.cell y c e
      exact ⟨w', z.sameBut hs (cne y c e)⟩
    · obtain ⟨e, n, ne, nf, d⟩ := I.pin p hp
      exact ⟨(hs.2 p.1 ne).trans e, n, ne, nf, d⟩
  · have hfn : X.fn x = true := by
      rcases hf with z | z
      · exact z
      · rw [z] at hk; cases hk
    obtain ⟨c, hc⟩ := I.ok.has x (.inl hk)
    obtain ⟨w', z⟩ := I.cell x c hc
    refine wpAny_storeName_cell I.ok.kind hk hc z (fun h' hc' hs => ?_)
    obtain ⟨oc, hoc, hocd⟩ := id z
    refine h { s with heap := h' } ⟨I.ok, I.os, I.bare, ⟨fun b o e n hb hx => ?_, fun b o e n hb hx => ?_, I.base.free, fun b o e hx => ?_, I.base.tups, I.base.frzs, I.base.tbls⟩, ⟨m, hn.sameBut hs (Ne.symm (cne x c hc)), fun j y v' e1 e2 e3 => ?_⟩, fun y c' e => ?_, I.free, I.freeC, fun p hp => ?_, tracked ⟨oc, hoc, I.freeC x c hc⟩ hs, by simpa using I.len⟩ ⟨c, hs, .inr hc⟩
    · exact (hs.2 b (Nat.ne_of_lt (Nat.lt_of_lt_of_le (Heap.lt_size e) (I.ok.cab x c hfn hc)))).trans (I.base.keep b o e n hb hx)
    · obtain ⟨sl, e1⟩ := I.base.slot b o e n hb hx
      exact ⟨sl, (hs.2 b (Nat.ne_of_lt (Nat.lt_of_lt_of_le (Heap.lt_size e) (I.ok.cab x c hfn hc)))).trans e1⟩
    · obtain ⟨o', e1⟩ := I.base.there b o e hx
      exact ⟨o', (hs.2 b (Nat.ne_of_lt (Nat.lt_of_lt_of_le (Heap.lt_size e) (I.ok.cab x c hfn hc)))).trans e1⟩
    · by_cases hj : j = i
      · subst hj
        rw [hi] at e1; cases e1
        rw [List.getElem?_set_self hiσ] at e2
        cases e2
        exact ⟨u, r, .inr ⟨.inl hk, c, hc, hc'⟩⟩
      · rw [List.getElem?_set_ne (Ne.symm hj)] at e2
        obtain ⟨u', r', q⟩ := hl j y v' e1 e2 e3
        refine ⟨u', r', ?_⟩
        rcases q with q | ⟨k, c', e, z'⟩
        · exact .inl q
        · refine .inr ⟨k, c', e, z'.sameBut hs ?_⟩
          rintro rfl
          exact hj (nodup_ix hN e1 (I.ok.inj _ _ _ e hc ▸ hi))
    · by_cases hcc : c' = c
      · subst hcc; exact ⟨_, hc'⟩
      · obtain ⟨w2, z2⟩ := I.cell y c' e
        exact ⟨w2, z2.sameBut hs hcc⟩
    · obtain ⟨e, n, ne, nf, d⟩ := I.pin p hp
      refine ⟨(hs.2 p.1 ?_).trans e, n, ne, nf, d⟩
      intro q
      rw [q, hoc] at e
      have q' : oc = p.2 := Option.some.inj e
      exact d w' (by rw [← q']; exact hocd)
theorem store_ok {M : Model} {A : Around} {E : Value → Shared → Prop} {i : Nat} {x : Str} {v : V} {u : Value} {Q : Unit → Shared → Prop} (I : Inv X pins σ H s) (hN : X.N.Nodup) (hi : X.N[i]? = some x) (hx : Loc X.env.scope x) (r : RelV v u)
    (h : ∀ s', Inv X pins (σ.set i (some v)) H s' → Q () s') (hf : X.fn x = true ∨ X.env.scope.names.lookup x = some .local := by first | exact .inl rfl | exact .inr rfl | assumption) : wpAny M A (storeName X.env x u) Q E s :=
  store_ok2 I hN hi hx r (fun s' I' _ => h s' I') hf
/-- behind a call or a block, the state as it is -/
theorem Inv.call' {s' : Shared} {ch : List Addr} (I : Inv X pins σ H s) (ho : s'.os = s.os) (u : Un (frs X.stack) ch H H' s.heap s'.heap) (hok : HOk X.prog X.w H' s'.heap) (hg : AllBare s'.gens)
    (hch : ∀ b ∈ ch, (b ∈ X.ex ∨ X.s₀.heap.objs.size ≤ b) ∧ b ≠ X.env.locals ∧ (∀ x c, X.env.cells.lookup x = some c → c ≠ b) ∧ ∀ p ∈ X.pn ++ pins, p.1 ≠ b) : Inv X pins σ H' s' := by
  obtain ⟨h', g', d', t', o'⟩ := s'
  have e : o' = s.os := ho
  subst e
  exact I.call (g' := g') (t' := t') (d' := d') u hok hg hch
end

/-! ### the judgements -/
/-- an exception: its class, its own dict's address (where it has one), the abstract heap behind it -/
abbrev XK := Value → Option Addr → Hp → Prop
abbrev St := List (Option V)
abbrev VK := V → Hp → Prop
/-- an expression's reading; a test's; an argument list's -/
abbrev TE := St → Hp → VK → Prop
abbrev TT := St → Hp → (Bool → Hp → Prop) → Prop
abbrev TA := St → Hp → (List V → Hp → Prop) → Prop
/-- what is wanted behind a statement -/
structure Ends where
  nx : St → Hp → Prop
  rt : VK
  bk : St → Hp → Prop := fun _ _ => False
  ct : St → Hp → Prop := fun _ _ => False
abbrev TS := Ends → St → Hp → Prop

def EP (X : Cx) (pins : List (Addr × Obj)) (σ : St) (Q : VK) (u : Value) (s' : Shared) : Prop := ∃ v H', Inv X pins σ H' s' ∧ RelV v u ∧ Q v H'
def TP (X : Cx) (pins : List (Addr × Obj)) (σ : St) (Q : Bool → Hp → Prop) (b : Bool) (s' : Shared) : Prop := ∃ H', Inv X pins σ H' s' ∧ Q b H'
def AP (X : Cx) (pins : List (Addr × Obj)) (σ : St) (Q : List V → Hp → Prop) (us : List Value) (s' : Shared) : Prop := ∃ vs H', Inv X pins σ H' s' ∧ Vals vs us ∧ Q vs H'
def SP (X : Cx) (pins : List (Addr × Obj)) (D : Ends) (f : Flow) (s' : Shared) : Prop :=
  match f with
  | .next => ∃ σ' H', Inv X pins σ' H' s' ∧ D.nx σ' H'
  | .brk => ∃ σ' H', Inv X pins σ' H' s' ∧ D.bk σ' H'
  | .cont => ∃ σ' H', Inv X pins σ' H' s' ∧ D.ct σ' H'
  | .ret u => ∃ v σ' H', Inv X pins σ' H' s' ∧ RelV v u ∧ D.rt v H'

def PE (X : Cx) (e : Expr) (t : TE) : Prop :=
  ∀ (pins : List (Addr × Obj)) (s : Shared) (σ : St) (H : Hp) (Q : VK), Inv X pins σ H s → t σ H Q → wpAny (model X.prog X.w) X.A (eval e X.env) (EP X pins σ Q) X.xe s
def PT (X : Cx) (e : Expr) (t : TT) : Prop :=
  ∀ (pins : List (Addr × Obj)) (s : Shared) (σ : St) (H : Hp) (Q : Bool → Hp → Prop), Inv X pins σ H s → t σ H Q → wpAny (model X.prog X.w) X.A (isTrue e X.env (eval e X.env)) (TP X pins σ Q) X.xe s
/-- a test whatever its 'whole' is (and, or) -/
def PW (X : Cx) (e : Expr) (t : TT) : Prop :=
  ∀ (whole : Sem Value) (pins : List (Addr × Obj)) (s : Shared) (σ : St) (H : Hp) (Q : Bool → Hp → Prop), Inv X pins σ H s → t σ H Q → wpAny (model X.prog X.w) X.A (isTrue e X.env whole) (TP X pins σ Q) X.xe s
theorem PW.pt {X : Cx} {e : Expr} {t : TT} (h : PW X e t) : PT X e t := h _
/-- an argument list (no star), from the left -/
def PA (X : Cx) (es : List Expr) (t : TA) : Prop :=
  ∀ (pos : Pos) (pins : List (Addr × Obj)) (s : Shared) (σ : St) (H : Hp) (Q : List V → Hp → Prop), Inv X pins σ H s → t σ H Q → wpAny (model X.prog X.w) X.A (spliced (backTo pos (starEach es X.env))) (AP X pins σ Q) X.xe s
def PS (X : Cx) (st : Stmt) (t : TS) : Prop :=
  ∀ (pins : List (Addr × Obj)) (s : Shared) (σ : St) (H : Hp) (D : Ends), Inv X pins σ H s → t D σ H → wpAny (model X.prog X.w) X.A (exec st X.env) (SP X pins D) X.xe s
def PSs (X : Cx) (st : List Stmt) (t : TS) : Prop :=
  ∀ (pins : List (Addr × Obj)) (s : Shared) (σ : St) (H : Hp) (D : Ends), Inv X pins σ H s → t D σ H → wpAny (model X.prog X.w) X.A (execs st X.env) (SP X pins D) X.xe s
/-- weaken the end -/
theorem thn {α : Type} {t : Sem α} {Q Q' : α → Shared → Prop} {M : Model} {A : Around} {E : Value → Shared → Prop} {s : Shared} (h : wpAny M A t Q E s) (hQ : ∀ a s, Q a s → Q' a s) : wpAny M A t Q' E s := wpAny_mono h hQ fun _ _ x => x
end L2

namespace L2
open PySem PySem.Spec PyProof.Rows
section
variable {X : Cx}

/-! ### names and constants -/
def tVar (i : Nat) : TE := fun σ H Q => ∃ v, σ[i]? = some (some v) ∧ Q v H
def tC (v : V) : TE := fun _ H Q => Q v H
theorem pe_var {i : Nat} {x : Str} {pos : Pos} (hN : X.N[i]? = some x) (hv : Vis X.env.scope x) (hd : (x == ("__debug__" : Str)) = false := by decide) (hcd : (x == ("__classdict__" : Str)) = false := by decide) : PE X (.Name x pos) (tVar i) := by
  intro pins s σ H Q I h
  obtain ⟨v, e, h⟩ := h
  obtain ⟨m, hn, hl⟩ := I.loc
  obtain ⟨u, r, l⟩ := hl i x v hN e hv
  have fin : EP X pins σ Q u s := ⟨v, H, I, r, h⟩
  rcases l with ⟨hk, hm⟩ | ⟨hk, c, hc, hcell⟩
  · exact wpAny_Name (wpAny_loadName_local I.ok.kind hk hn hm fin) hd
  · rcases hk with hk | hk
    · exact wpAny_Name (wpAny_loadName_cell I.ok.kind hk hc hcell fin) hd
    · exact wpAny_Name (wpAny_loadName_free I.ok.kind hk hc hcell fin hcd) hd
theorem pe_int {i j pos} : PE X (.Constant (.int i) j pos) (tC (.int i)) := fun _ _ _ H _ I h => wpAny_Constant_int ⟨.int i, H, I.tok _, ⟨_, rfl⟩, h⟩
theorem pe_bl {b j pos} : PE X (.Constant (.bool b) j pos) (tC (.bl b)) := fun _ _ _ H _ I h => Constant_bool ⟨.bl b, H, I, rfl, h⟩
theorem pe_non {j pos} : PE X (.Constant .none j pos) (tC .non) := fun _ _ _ H _ I h => Constant_none ⟨.non, H, I, rfl, h⟩
/-- a global name of the def -/
def Gl (X : Cx) (x : Str) : Prop := X.env.kindOf x = some .globalImplicit
theorem ld_glob {E : Value → Shared → Prop} {pins : List (Addr × Obj)} {s : Shared} {σ : St} {H : Hp} {x : Str} {u : Value} {pos : Pos} {Q : Value → Shared → Prop} (I : Inv X pins σ H s) (hg : Gl X x) (hm : X.mg x = some u) (h : Q u s)
    (hd : (x == ("__debug__" : Str)) = false := by decide) : wpAny (model X.prog X.w) X.A (eval (.Name x pos) X.env) Q E s :=
  Calls.Name_function_global I.ok.kind hg (Calls.loadGlobal_global (by rw [I.ok.glob]; exact I.mod.glob.keeps I.bk) hm h) hd
theorem ld_blt {E : Value → Shared → Prop} {pins : List (Addr × Obj)} {s : Shared} {σ : St} {H : Hp} {x : Str} {u : Value} {pos : Pos} {Q : Value → Shared → Prop} (I : Inv X pins σ H s) (hg : Gl X x) (hm : X.mg x = none) (hv : bootBuiltins x = some u) (h : Q u s)
    (hn : x ≠ "__name__" := by decide) (hd : (x == ("__debug__" : Str)) = false := by decide) : wpAny (model X.prog X.w) X.A (eval (.Name x pos) X.env) Q E s := by
  obtain ⟨mb, h1, h2⟩ := I.mod.blt
  exact Calls.Name_function_global I.ok.kind hg (Calls.loadGlobal_builtin (by rw [I.ok.glob]; exact I.mod.glob.keeps I.bk) hm (by rw [I.ok.blt]; exact h1.keeps I.bk) ((h2 x hn).trans hv) h) hd
/-! ### arithmetic -/
/-- two ints -/
def t2I (ta tb : TE) (k : Int → Int → Hp → Prop) : St → Hp → Prop := fun σ H => ta σ H fun x H1 => tb σ H1 fun y H2 => ∃ i j, x = .int i ∧ y = .int j ∧ k i j H2
def tAdd (ta tb : TE) : TE := fun σ H Q => t2I ta tb (fun i j H2 => Q (.int (i + j)) H2) σ H
def tSub (ta tb : TE) : TE := fun σ H Q => t2I ta tb (fun i j H2 => Q (.int (i - j)) H2) σ H
/-- the left factor below 2^64 -/
def tMul (ta tb : TE) : TE := fun σ H Q => t2I ta tb (fun i j H2 => (-(2 ^ 64) < i ∧ i < 2 ^ 64) ∧ Q (.int (i * j)) H2) σ H
variable {a b : Expr} {ta tb : TE} {pos : Pos}
/-! ### comparisons -/
def PC (X : Cx) (op : CmpOp) (a b : Expr) (t : TE) : Prop :=
  ∀ (pins : List (Addr × Obj)) (s : Shared) (σ : St) (H : Hp) (Q : VK), Inv X pins σ H s → t σ H Q →
    wpAny (model X.prog X.w) X.A (eval a X.env) (fun v s₁ => wpAny (model X.prog X.w) X.A (eval b X.env) (fun u s₂ => wpAny (model X.prog X.w) X.A (compareOp op v u) (EP X pins σ Q) X.xe s₂) X.xe s₁) X.xe s
theorem nobehind (b : Expr) {op : CmpOp} (h : op ≠ .In) (h2 : op ≠ .NotIn) : behindInMarks op b = false := by
  have e1 : (op == CmpOp.In) = false := by cases op <;> first | rfl | exact absurd rfl h
  have e2 : (op == CmpOp.NotIn) = false := by cases op <;> first | rfl | exact absurd rfl h2
  cases b <;> simp [behindInMarks, e1, e2]
def tCmp (p : Int → Int → Bool) (ta tb : TE) : TE := fun σ H Q => t2I ta tb (fun i j H2 => Q (.bl (p i j)) H2) σ H
abbrev tLt : TE → TE → TE := tCmp fun i j => decide (i < j)
abbrev tLe : TE → TE → TE := tCmp fun i j => decide (i ≤ j)
abbrev tGt : TE → TE → TE := tCmp fun i j => decide (j < i)
abbrev tGe : TE → TE → TE := tCmp fun i j => decide (j ≤ i)
abbrev tEqI : TE → TE → TE := tCmp fun i j => decide (i = j)
abbrev tNeI : TE → TE → TE := tCmp fun i j => !decide (i = j)
/-- is None -/
def tIsN (ta : TE) : TE := fun σ H Q => ta σ H fun x H1 => Q (.bl (decide (x = .non))) H1
def tNotN (ta : TE) : TE := fun σ H Q => ta σ H fun x H1 => Q (.bl (!decide (x = .non))) H1
theorem RelV.none_iff {x : V} {v : Value} (r : RelV x v) : (v == Value.none) = decide (x = .non) := by
  cases x with
  | non => cases r; rfl
  | bl _ => cases r; rfl
  | int _ => obtain ⟨t, rfl⟩ := r; rfl
  | str _ => obtain ⟨t, rfl⟩ := r; rfl
  | byt _ => obtain ⟨t, rfl⟩ := r; rfl
  | flt _ => obtain ⟨t, rfl⟩ := r; rfl
  | ref _ => cases r; rfl
  | ty _ => cases r; rfl
theorem pc_isN {j pos'} (ha : PE X a ta) : PC X .Is a (.Constant .none j pos') (tIsN ta) := by
  intro pins s σ H Q I h
  refine thn (ha pins s σ H _ I h) fun v s1 ⟨x, H1, I1, r1, q1⟩ => ?_
  exact Constant_none (is_none_gen ⟨.bl _, H1, I1, by rw [r1.none_iff]; rfl, q1⟩)
theorem pc_notN {j pos'} (ha : PE X a ta) : PC X .IsNot a (.Constant .none j pos') (tNotN ta) := by
  intro pins s σ H Q I h
  refine thn (ha pins s σ H _ I h) fun v s1 ⟨x, H1, I1, r1, q1⟩ => ?_
  exact Constant_none (isnot_none_gen ⟨.bl _, H1, I1, by rw [r1.none_iff]; rfl, q1⟩)
/-- a comparison as a value, as a test -/
def tB (t : TE) : TT := fun σ H Q => t σ H fun x H1 => ∃ c, x = .bl c ∧ Q c H1
theorem pt_cmp {op : CmpOp} {t : TE} (h : PC X op a b t) (h1 : behindInMarks op b = false := by first | exact nobehind _ (by decide) (by decide) | rfl) : PT X (.Compare a [op] [b] pos) (tB t) := by
  intro pins s σ H Q I hw
  refine wpAny_isTrue_Compare1 (thn (h pins s σ H _ I hw) fun v s1 h1 => thn h1 fun u s2 h2 => thn h2 fun c s3 ⟨x, H1, I1, r1, q1⟩ => ?_) h1
  obtain ⟨d, rfl, q⟩ := q1
  cases r1
  exact wpAny_truthy_bool ⟨H1, I1, q⟩
/-- an expression whose value is a bool, as a test -/
theorem pt_val {e : Expr} {t : TE} (h : PE X e t) (he : ∀ whole, isTrue e X.env whole = (do let v ← whole; standAt e.pos; holding [v] (truthy v)) := by intro _; rfl) : PT X e (tB t) := by
  intro pins s σ H Q I hw
  refine isTrue_plain (thn (h pins s σ H _ I hw) fun v s1 ⟨x, H1, I1, r1, q1⟩ => ?_) (he _)
  obtain ⟨d, rfl, q⟩ := q1
  cases r1
  exact wpAny_truthy_bool ⟨H1, I1, q⟩

/-! ### and, or, not -/
variable {tA tB' : TT} {rest : List Expr}
def tAnd (t u : TT) : TT := fun σ H Q => t σ H fun c H1 => if c = true then u σ H1 Q else Q false H1
def tOr (t u : TT) : TT := fun σ H Q => t σ H fun c H1 => if c = true then Q true H1 else u σ H1 Q
def tNot (t : TT) : TT := fun σ H Q => t σ H fun c H1 => Q (!c) H1
theorem pw_and1 (ha : PT X a tA) : PW X (.BoolOp .And [a] pos) tA := by
  intro wh pins s σ H Q I h
  refine isTrue_and (thn (ha pins s σ H Q I h) fun c s1 e => ?_)
  cases c with
  | true => exact isTrue_and_nil e
  | false => exact e
theorem pw_or1 (ha : PT X a tA) : PW X (.BoolOp .Or [a] pos) tA := by
  intro wh pins s σ H Q I h
  refine isTrue_or (thn (ha pins s σ H Q I h) fun c s1 e => ?_)
  cases c with
  | false => exact isTrue_or_nil e
  | true => exact e
theorem pw_and (ha : PT X a tA) (hb : PW X (.BoolOp .And (b :: rest) pos) tB') : PW X (.BoolOp .And (a :: b :: rest) pos) (tAnd tA tB') := by
  intro wh pins s σ H Q I h
  refine isTrue_and (thn (ha pins s σ H _ I h) fun c s1 ⟨H1, I1, q1⟩ => ?_)
  cases c with
  | true => exact hb wh pins s1 σ H1 Q I1 q1
  | false => exact ⟨H1, I1, q1⟩
theorem pw_or (ha : PT X a tA) (hb : PW X (.BoolOp .Or (b :: rest) pos) tB') : PW X (.BoolOp .Or (a :: b :: rest) pos) (tOr tA tB') := by
  intro wh pins s σ H Q I h
  refine isTrue_or (thn (ha pins s σ H _ I h) fun c s1 ⟨H1, I1, q1⟩ => ?_)
  cases c with
  | true => exact ⟨H1, I1, q1⟩
  | false => exact hb wh pins s1 σ H1 Q I1 q1
theorem pt_not (ha : PT X a tA) : PT X (.UnaryOp .Not a pos) (tNot tA) := by
  intro pins s σ H Q I h
  exact isTrue_not (ha pins s σ H (fun c H1 => Q (!c) H1) I h)
/-- .. as values (bools) -/
def tAndV (ta tb : TE) : TE := fun σ H Q => ta σ H fun x H1 => ∃ c, x = .bl c ∧ if c = true then tb σ H1 Q else Q (.bl false) H1
def tOrV (ta tb : TE) : TE := fun σ H Q => ta σ H fun x H1 => ∃ c, x = .bl c ∧ if c = true then Q (.bl true) H1 else tb σ H1 Q
def tNotV (ta : TE) : TE := fun σ H Q => ta σ H fun x H1 => ∃ c, x = .bl c ∧ Q (.bl (!c)) H1
theorem pe_one {op} {t : TE} (h : PE X a t) : PE X (.BoolOp op [a] pos) t := fun pins s σ H Q I hw => BoolOp_one (h pins s σ H Q I hw)
theorem pe_or (ha : PE X a ta) (hb : PE X (.BoolOp .Or (b :: rest) pos) tb) : PE X (.BoolOp .Or (a :: b :: rest) pos) (tOrV ta tb) := by
  intro pins s σ H Q I h
  refine BoolOp_or (thn (ha pins s σ H _ I h) fun v s1 ⟨x, H1, I1, r1, q1⟩ => ?_)
  obtain ⟨c, rfl, q1⟩ := q1
  cases r1
  refine wpAny_truthy_bool ?_
  cases c with
  | false => exact hb pins s1 σ H1 Q I1 q1
  | true => exact ⟨.bl true, H1, I1, rfl, q1⟩
/-- a if t else b -/
def tIf (t : TT) (ta tb : TE) : TE := fun σ H Q => t σ H fun c H1 => if c = true then ta σ H1 Q else tb σ H1 Q
theorem pe_ifExp {c : Expr} (hc : PT X c tA) (ha : PE X a ta) (hb : PE X b tb) : PE X (.IfExp c a b pos) (tIf tA ta tb) := by
  intro pins s σ H Q I h
  refine wpAny_IfExp (thn (hc pins s σ H _ I h) fun d s1 ⟨H1, I1, q1⟩ => ?_)
  cases d with
  | true => exact ha pins s1 σ H1 Q I1 q1
  | false => exact hb pins s1 σ H1 Q I1 q1
end
end L2

namespace L2
open PySem PySem.Spec PyProof.Rows

/-! ### a list, a tuple that is read: tracked, frozen, or an object of the module -/
def SqL (K : PySem.W.Frag) (H : Hp) (a : Addr) (xs : List V) : Prop :=
  Rd H a (.lst xs) ∨
    ∃ (o : Obj) (its : Array Value) (n : Nat), K.lookup a = some o ∧ o.cls = .type "list" ∧ o.dict = none ∧ o.data = .seq its n ∧ its.size ≤ sizeLine ∧ Vals xs its.toList
def SqT (K : PySem.W.Frag) (H : Hp) (a : Addr) (xs : List V) : Prop :=
  Rd H a (.tup xs) ∨
    ∃ (o : Obj) (its : Array Value) (n : Nat), K.lookup a = some o ∧ o.cls = .type "tuple" ∧ o.data = .seq its n ∧ its.size ≤ sizeLine ∧ Vals xs its.toList
def absV : Value → Option V
  | .none => some .non
  | .bool b => some (.bl b)
  | .int i _ => some (.int i)
  | .str x _ => some (.str x)
  | .bytes b _ => some (.byt b)
  | .float b _ => some (.flt b)
  | .ref a => some (.ref a)
  | .type n => some (.ty n)
  | _ => none
theorem RelV.abs {x : V} {u : Value} (r : RelV x u) : absV u = some x := by
  cases x with
  | non => cases r; rfl
  | bl _ => cases r; rfl
  | int _ => obtain ⟨t, rfl⟩ := r; rfl
  | str _ => obtain ⟨t, rfl⟩ := r; rfl
  | byt _ => obtain ⟨t, rfl⟩ := r; rfl
  | flt _ => obtain ⟨t, rfl⟩ := r; rfl
  | ref _ => cases r; rfl
  | ty _ => cases r; rfl
theorem RelV.inj {x y : V} {u : Value} (r : RelV x u) (q : RelV y u) : x = y := Option.some.inj (r.abs.symm.trans q.abs)
theorem Vals.inj : ∀ {xs ys : List V} {us : List Value}, Vals xs us → Vals ys us → xs = ys
  | _, _, _, .nil, .nil => rfl
  | _, _, _, .cons r t, .cons r' t' => by rw [r.inj r', Vals.inj t t']
section
variable {X : Cx} {pins : List (Addr × Obj)} {σ : St} {H : Hp} {s : Shared} {a : Addr} {xs ys : List V}
theorem SqL.of {K : PySem.W.Frag} (h : H a = some (.lst xs)) : SqL K H a xs := .inl (.inl h)
theorem SqT.of {K : PySem.W.Frag} (h : H a = some (.tup xs)) : SqT K H a xs := .inl (.inl h)
theorem Inv.list (I : Inv X pins σ H s) (h : SqL X.K H a xs) : ∃ its : List Value, Vals xs its ∧ PlainL s.heap a its.toArray ∧ xs.length ≤ sizeLine := by
  rcases h with h | ⟨o, its, n, hk, hc, hd, hs, hz, r⟩
  · obtain ⟨z, its, n, r, e⟩ := h.ok I.hok
    exact ⟨its, r, ⟨_, n, e, rfl, rfl, rfl⟩, z⟩
  · refine ⟨its.toList, r, ⟨o, n, I.kIn a o hk, hc, hd, by simpa using hs⟩, ?_⟩
    have e := r.length
    simp only [Array.length_toList] at e
    omega
theorem Inv.tuple (I : Inv X pins σ H s) (h : SqT X.K H a xs) : ∃ its : List Value, Vals xs its ∧ IsTup s.heap a its.toArray ∧ xs.length ≤ sizeLine := by
  rcases h with h | ⟨o, its, n, hk, hc, hs, hz, r⟩
  · obtain ⟨z, its, r, p⟩ := h.ok I.hok
    exact ⟨its, r, p, z⟩
  · refine ⟨its.toList, r, ⟨o, I.kIn a o hk, hc, n, by simpa using hs⟩, ?_⟩
    have e := r.length
    simp only [Array.length_toList] at e
    omega
theorem Inv.list_inj (I : Inv X pins σ H s) (h : SqL X.K H a xs) (h' : SqL X.K H a ys) : xs = ys := by
  obtain ⟨its, r, ⟨o, n, e, _, _, d⟩, _⟩ := I.list h
  obtain ⟨its', r', ⟨o', n', e', _, _, d'⟩, _⟩ := I.list h'
  rw [e] at e'; cases e'
  rw [d] at d'
  injection d' with d1 _
  have : its = its' := by simpa using congrArg Array.toList d1
  subst this
  exact r.inj r'
end

/-! ### another wish about exceptions -/
abbrev Cx.wish (X : Cx) (E : Value → Shared → Prop) : Cx := { X with xe := E }
/-- no exception leaves -/
abbrev Cx.nox (X : Cx) : Cx := X.wish fun _ _ => False
theorem Cx.Ok.wish {X : Cx} (ok : X.Ok) (E : Value → Shared → Prop) : (X.wish E).Ok :=
  ⟨ok.mod, ok.kind, ok.glob, ok.blt, ok.above, ok.inj, ok.has, ok.cab, ok.hd, ok.frames, ok.stk, ok.exf, ok.bs, ok.bsz, ok.noex, ok.exfs, ok.funs, ok.frf⟩
theorem Cx.Ok.unwish {X : Cx} {E : Value → Shared → Prop} (ok : (X.wish E).Ok) : X.Ok :=
  ⟨ok.mod, ok.kind, ok.glob, ok.blt, ok.above, ok.inj, ok.has, ok.cab, ok.hd, ok.frames, ok.stk, ok.exf, ok.bs, ok.bsz, ok.noex, ok.exfs, ok.funs, ok.frf⟩
section
variable {X : Cx} {pins : List (Addr × Obj)} {σ : St} {H : Hp} {s : Shared} {E : Value → Shared → Prop}
theorem Inv.wish (I : Inv X pins σ H s) (E : Value → Shared → Prop) : Inv (X.wish E) pins σ H s := ⟨I.ok.wish E, I.os, I.bare, I.base, I.loc, I.cell, I.free, I.freeC, I.pin, I.hok, I.len⟩
theorem Inv.unwish (I : Inv (X.wish E) pins σ H s) : Inv X pins σ H s := ⟨I.ok.unwish, I.os, I.bare, I.base, I.loc, I.cell, I.free, I.freeC, I.pin, I.hok, I.len⟩
theorem SP.unwish {D : Ends} {f : Flow} {s' : Shared} (h : SP (X.wish E) pins D f s') : SP X pins D f s' := by
  cases f with
  | next => obtain ⟨σ', H', I, q⟩ := h; exact ⟨σ', H', I.unwish, q⟩
  | brk => obtain ⟨σ', H', I, q⟩ := h; exact ⟨σ', H', I.unwish, q⟩
  | cont => obtain ⟨σ', H', I, q⟩ := h; exact ⟨σ', H', I.unwish, q⟩
  | ret u => obtain ⟨v, σ', H', I, r, q⟩ := h; exact ⟨v, σ', H', I.unwish, r, q⟩
theorem PE.nox {e : Expr} {t : TE} (h : PE X.nox e t) : PE X e t := fun pins s σ H Q I hw =>
  wpAny_mono (h pins s σ H Q (I.wish _) hw) (fun _ _ ⟨v, H', I', r, q⟩ => ⟨v, H', I'.unwish, r, q⟩) fun _ _ z => False.elim z
theorem PT.nox {e : Expr} {t : TT} (h : PT X.nox e t) : PT X e t := fun pins s σ H Q I hw =>
  wpAny_mono (h pins s σ H Q (I.wish _) hw) (fun _ _ ⟨H', I', q⟩ => ⟨H', I'.unwish, q⟩) fun _ _ z => False.elim z
theorem PSs.nox {st : List Stmt} {t : TS} (h : PSs X.nox st t) : PSs X st t := fun pins s σ H D I hw =>
  wpAny_mono (h pins s σ H D (I.wish _) hw) (fun _ _ q => q.unwish) fun _ _ z => False.elim z
end

/-! ### blocks and small statements -/
section
variable {X : Cx} {st : Stmt} {rest : List Stmt} {t u : TS} {e : Expr} {te : TE} {pos : Pos}
def tNext : TS := fun D σ H => D.nx σ H
def tSeq (t u : TS) : TS := fun D σ H => t { D with nx := u D } σ H
theorem pss_nil : PSs X [] tNext := fun _ _ σ H _ I h => wpAny_execs_nil ⟨σ, H, I, h⟩
theorem pss_cons (h1 : PS X st t) (h2 : PSs X rest u) : PSs X (st :: rest) (tSeq t u) := by
  intro pins s σ H D I h
  refine wpAny_execs_cons (thn (h1 pins s σ H { D with nx := u D } I h) fun f s1 q => ?_)
  cases f with
  | next =>
    obtain ⟨σ', H', I', q⟩ := q
    exact h2 pins s1 σ' H' D I' q
  | ret v => exact q
  | brk => exact q
  | cont => exact q
theorem pss_one (h1 : PS X st t) : PSs X [st] t := by
  intro pins s σ H D I h
  refine wpAny_execs_cons (thn (h1 pins s σ H D I h) fun f s1 q => ?_)
  cases f with
  | next => exact wpAny_execs_nil q
  | ret v => exact q
  | brk => exact q
  | cont => exact q
def tBreak : TS := fun D σ H => D.bk σ H
def tCont : TS := fun D σ H => D.ct σ H
/-- in a def's body nothing is shown -/
theorem Inv.quiet {pins : List (Addr × Obj)} {σ : St} {H : Hp} {s : Shared} (I : Inv X pins σ H s) : interactive X.env = false := by simp [interactive, I.ok.kind]
/-- an expression whose value is dropped -/
def tDrop (te : TE) : TS := fun D σ H => te σ H fun _ H1 => D.nx σ H1
theorem ps_expr (he : PE X e te) (hs : swapsWith e none pos.line X.env = pure false := by rfl) : PS X (.Expr e pos) (tDrop te) := by
  intro pins s σ H D I h
  exact wpAny_Expr_any (thn (he pins s σ H _ I h) fun v s1 ⟨x, H1, I1, r1, q1⟩ => ⟨σ, H1, I1, q1⟩) I.quiet hs
def tRet (te : TE) : TS := fun D σ H => te σ H D.rt
theorem ps_ret (he : PE X e te) : PS X (.Return (some e) pos) (tRet te) := by
  intro pins s σ H D I h
  exact wpAny_Return_some (thn (he pins s σ H _ I h) fun v s1 ⟨x, H1, I1, r1, q1⟩ => ⟨x, σ, H1, I1, r1, q1⟩)
def tRetN : TS := fun D _ H => D.rt .non H
def tIfS (c : TT) (t u : TS) : TS := fun D σ H => c σ H fun b H1 => if b = true then t D σ H1 else u D σ H1
theorem ps_if {c : Expr} {a b : List Stmt} {tc : TT} (hc : PT X c tc) (ha : PSs X a t) (hb : PSs X b u) : PS X (.If c a b pos) (tIfS tc t u) := by
  intro pins s σ H D I h
  refine wpAny_If (thn (hc pins s σ H _ I h) fun d s1 ⟨H1, I1, q1⟩ => ?_)
  cases d with
  | true => exact ha pins s1 σ H1 D I1 q1
  | false => exact hb pins s1 σ H1 D I1 q1
/-- code that the proof never comes to -/
def tNever : TS := fun _ _ _ => False
end

/-! ### targets -/
abbrev TG := V → St → Hp → (St → Hp → Prop) → Prop
abbrev TGs := List V → St → Hp → (St → Hp → Prop) → Prop
def PG (X : Cx) (target : Expr) (t : TG) : Prop :=
  ∀ (pins : List (Addr × Obj)) (s : Shared) (σ : St) (H : Hp) (v : V) (u : Value) (Q : St → Hp → Prop), Inv X pins σ H s → RelV v u → t v σ H Q →
    wpAny (model X.prog X.w) X.A (assign target X.env u) (fun _ s' => ∃ σ' H', Inv X pins σ' H' s' ∧ Q σ' H') X.xe s
/-- several targets, one after another -/
def PGs (X : Cx) (ts : List Expr) (t : TGs) : Prop :=
  ∀ (pins : List (Addr × Obj)) (s : Shared) (σ : St) (H : Hp) (vs : List V) (us : List Value) (Q : St → Hp → Prop), Inv X pins σ H s → Vals vs us → t vs σ H Q →
    wpAny (model X.prog X.w) X.A (assignInOrder ((assignEach ts X.env).map (·.2)) us) (fun _ s' => ∃ σ' H', Inv X pins σ' H' s' ∧ Q σ' H') X.xe s
/-- o[i] = v, by values -/
abbrev TSet := V → V → V → Hp → (Hp → Prop) → Prop
def PSet (X : Cx) (t : TSet) : Prop :=
  ∀ (pins : List (Addr × Obj)) (s : Shared) (σ : St) (H : Hp) (o i v : V) (ov iv u : Value) (Q : Hp → Prop), Inv X pins σ H s → RelV o ov → RelV i iv → RelV v u → t o i v H Q →
    wpAny (model X.prog X.w) X.A (setItem ov iv u) (fun _ s' => ∃ H', Inv X pins σ H' s' ∧ Q H') X.xe s
/-- a op= b, by values -/
abbrev TIp := V → V → Hp → VK → Prop
def PIp (X : Cx) (op : Operator) (t : TIp) : Prop :=
  ∀ (pins : List (Addr × Obj)) (s : Shared) (σ : St) (H : Hp) (x y : V) (v u : Value) (Q : VK), Inv X pins σ H s → RelV x v → RelV y u → t x y H Q →
    wpAny (model X.prog X.w) X.A (inplaceOp op v u) (EP X pins σ Q) X.xe s
section
variable {X : Cx} {pos : Pos}
def gName (i : Nat) : TG := fun v σ H Q => Q (σ.set i (some v)) H
theorem pg_name {i : Nat} {x : Str} (hN : X.N.Nodup) (hi : X.N[i]? = some x) (hx : Loc X.env.scope x) (hf : X.fn x = true ∨ X.env.scope.names.lookup x = some .local := by first | exact .inl rfl | exact .inr rfl | assumption) : PG X (.Name x pos) (gName i) := by
  intro pins s σ H v u Q I r h
  exact wpAny_assign_Name (store_ok I hN hi hx r (fun s' I' => ⟨_, H, I', h⟩) hf)
def gNil : TGs := fun vs σ H Q => vs = [] ∧ Q σ H
def gCons (t : TG) (u : TGs) : TGs := fun vs σ H Q => ∃ v r, vs = v :: r ∧ t v σ H fun σ' H' => u r σ' H' Q
theorem pgs_nil : PGs X [] gNil := by
  intro pins s σ H vs us Q I r h
  obtain ⟨e, h⟩ := h
  subst e
  cases r
  exact assignInOrder_nil ⟨σ, H, I, h⟩
theorem pgs_cons {e : Expr} {es : List Expr} {t : TG} {u : TGs} (h1 : PG X e t) (h2 : PGs X es u)
    (hs : (assignEach (e :: es) X.env).map (·.2) = assign e X.env :: (assignEach es X.env).map (·.2) := by rfl) : PGs X (e :: es) (gCons t u) := by
  intro pins s σ H vs us Q I r h
  obtain ⟨v, vr, e1, h⟩ := h
  subst e1
  cases r with
  | cons r rr =>
    rw [hs]
    refine assignInOrder_cons (thn (h1 pins s σ H _ _ _ I r h) fun _ s1 ⟨σ1, H1, I1, q1⟩ => ?_)
    exact h2 pins s1 σ1 H1 _ _ Q I1 rr q1
/-- (a, b, ..) = a tuple of that length -/
def gTup (K : PySem.W.Frag) (n : Nat) (t : TGs) : TG := fun v σ H Q => ∃ a xs, v = .ref a ∧ SqT K H a xs ∧ xs.length = n ∧ t xs σ H Q
theorem pg_tup {es : List Expr} {k : Nat} {t : TGs} {n : Nat} (hc : X.calm = true) (h : PGs X es t)
    (hn : (assignEach es X.env).length = n := by rfl) (hst : (assignEach es X.env).findIdx? (·.1) = none := by rfl) : PG X (.Tuple es k pos) (gTup X.K n t) := by
  intro pins s σ H v u Q I r hw
  obtain ⟨a, xs, e1, hq, hl, hw⟩ := hw
  subst e1
  cases r
  obtain ⟨its, rv, ht, hz⟩ := I.tuple hq
  refine assign_Tuple_tuple (I.ok.hd hc) ht (by simp [hn, ← hl, rv.length]) hst fun h' hx => ?_
  have I1 : Inv X pins σ H { s with heap := h' } := I.kept (t' := s.toks) fun b o e => hx b o (Nat.ne_of_lt (Heap.lt_size e)) e
  exact h pins _ σ H xs _ Q I1 (by simpa using rv) hw
/-- o[i] = .. -/
def gSub (to ti : TE) (t : TSet) : TG := fun v σ H Q => to σ H fun o H1 => ti σ H1 fun i H2 => t o i v H2 fun H3 => Q σ H3
theorem pg_sub {o i : Expr} {to ti : TE} {t : TSet} (ho : PE X o to) (hi : PE X i ti) (hs : PSet X t)
    (ha : ∀ v, assign (.Subscript o i pos) X.env v = (do
      let ov ← holding [v] (eval o X.env)
      let iv ← holding [v, ov] (eval i X.env)
      standAt pos
      holding [v, ov, iv] (setItem ov iv v)
      release [v, ov, iv] []) := by intro _; rfl) : PG X (.Subscript o i pos) (gSub to ti t) := by
  intro pins s σ H v u Q I r h
  rw [ha]
  refine wpAny_bind (wpAny_holding (thn (ho pins s σ H _ I h) fun ov s1 ⟨x, H1, I1, r1, q1⟩ => ?_))
  refine wpAny_bind (wpAny_holding (thn (hi pins s1 σ H1 _ I1 q1) fun iv s2 ⟨y, H2, I2, r2, q2⟩ => ?_))
  refine wpAny_bind (wpAny_standAt (wpAny_bind (wpAny_holding (thn (hs pins s2 σ H2 x y v ov iv u _ I2 r1 r2 r q2) fun _ s3 ⟨H3, I3, q3⟩ => ?_))))
  exact wpAny_release ⟨σ, H3, I3, q3⟩
/-- target = value -/
def tAsg (te : TE) (g : TG) : TS := fun D σ H => te σ H fun x H1 => g x σ H1 D.nx
theorem ps_asg {tg e : Expr} {te : TE} {g : TG} (he : PE X e te) (hg : PG X tg g) (hs : swapsWithSole [tg] e pos.line X.env = pure false := by rfl) (hw : swappedStores [tg] e X.env = pure none := by rfl)
    (h1 : (assignEach [tg] X.env).map (·.2) = [assign tg X.env] := by rfl) : PS X (.Assign [tg] e pos) (tAsg te g) := by
  intro pins s σ H D I h
  refine wpAny_Assign_stores (thn (he pins s σ H _ I h) fun v s1 ⟨x, H1, I1, r1, q1⟩ => ?_) hs hw
  rw [h1]
  exact thn (hg pins s1 σ H1 x v _ I1 r1 q1) fun _ s2 q => q
/-- name = value -/
theorem ps_set {i : Nat} {x : Str} {e : Expr} {te : TE} {pos' : Pos} (hN : X.N.Nodup) (hi : X.N[i]? = some x) (hx : Loc X.env.scope x) (he : PE X e te) (hs : swapsWith e (some (.Name x pos')) pos.line X.env = pure false := by rfl) (hf : X.fn x = true ∨ X.env.scope.names.lookup x = some .local := by first | exact .inl rfl | exact .inr rfl | assumption) :
    PS X (.Assign [.Name x pos'] e pos) (tAsg te (gName i)) := by
  intro pins s σ H D I h
  refine wpAny_Assign_Name (thn (he pins s σ H _ I h) fun v s1 ⟨y, H1, I1, r1, q1⟩ => ?_) hs
  exact store_ok I1 hN hi hx r1 (fun s2 I2 => ⟨_, H1, I2, q1⟩) hf
/-- a, b = x, y with plain local names: stored from the right; the pair itself is not tracked (the opening rows as in PyProof/Rows/TupAssign.lean:23) -/
def tPar (i j : Nat) (ta : TA) : TS := fun D σ H => ta σ H fun vs H1 => ∃ v w, vs = [v, w] ∧ D.nx ((σ.set i (some v)).set j (some w)) H1
/-- name op= e -/
def tAug (i : Nat) (te : TE) (ti : TIp) : TS := fun D σ H => ∃ x, σ[i]? = some (some x) ∧ te σ H fun y H1 => ti x y H1 fun z H2 => D.nx (σ.set i (some z)) H2
/-- o[i] op= e -/
def tAugS (to ti te : TE) (tget : V → V → Hp → VK → Prop) (tip : TIp) (tset : TSet) : TS := fun D σ H => to σ H fun o H1 => ti σ H1 fun i H2 => tget o i H2 fun x H3 => te σ H3 fun y H4 => tip x y H4 fun z H5 => tset o i z H5 fun H6 => D.nx σ H6
/-- o[i], by values -/
def PGet (X : Cx) (t : V → V → Hp → VK → Prop) : Prop :=
  ∀ (pins : List (Addr × Obj)) (s : Shared) (σ : St) (H : Hp) (o i : V) (ov iv : Value) (Q : VK), Inv X pins σ H s → RelV o ov → RelV i iv → t o i H Q →
    wpAny (model X.prog X.w) X.A (getItem ov iv) (EP X pins σ Q) X.xe s
/-- ints -/
def ipI (f : Int → Int → Int) : TIp := fun x y H Q => ∃ i j, x = .int i ∧ y = .int j ∧ Q (.int (f i j)) H
end

/-! ### while -/
section
variable {X : Cx} {pos : Pos}
/-- the invariant W with its measure -/
def tWhile (c : TT) (tb : TS) : TS := fun D σ H => ∃ W : Nat → St → Hp → Prop, (∃ m, W m σ H) ∧ ∀ m σ H, W m σ H →
  c σ H fun b H1 => if b = true then ∃ N : St → Hp → Prop, (∀ σ' H', N σ' H' → ∃ m', m' < m ∧ W m' σ' H') ∧ tb { D with nx := N, ct := N, bk := D.nx } σ H1 else D.nx σ H1
theorem ps_while {c : Expr} {body : List Stmt} {tc : TT} {tb : TS} (hp : PassesOwn (model X.prog X.w) X.A X.env X.xe) (hc : PT X c tc) (hb : PSs X body tb) : PS X (.While c body [] pos) (tWhile tc tb) := by
  intro pins s σ H D I h
  obtain ⟨W, ⟨m0, w0⟩, turn⟩ := h
  refine wpAny_While (codeAny_whileLoop (fun n s' => ∃ σ' H', Inv X pins σ' H' s' ∧ W n σ' H') ?_ m0 ⟨σ, H, I, w0⟩)
  rintro n s1 ⟨σ1, H1, I1, w1⟩
  refine wpAny_passesOwn hp (thn (hc pins s1 σ1 H1 _ I1 (turn n σ1 H1 w1)) fun b s2 ⟨H2, I2, q2⟩ => ?_)
  cases b with
  | true =>
    obtain ⟨N, hN, q2⟩ := q2
    rw [if_pos rfl]
    refine wpAny_passesOwn hp (thn (hb pins s2 σ1 H2 _ I2 q2) fun f s3 q3 => ?_)
    cases f with
    | next =>
      obtain ⟨σ3, H3, I3, n3⟩ := q3
      obtain ⟨m', hm, w3⟩ := hN σ3 H3 n3
      exact ⟨m', hm, σ3, H3, I3, w3⟩
    | cont =>
      obtain ⟨σ3, H3, I3, n3⟩ := q3
      obtain ⟨m', hm, w3⟩ := hN σ3 H3 n3
      exact ⟨m', hm, σ3, H3, I3, w3⟩
    | brk => exact q3
    | ret v => exact q3
  | false =>
    rw [if_neg Bool.false_ne_true]
    exact wpAny_execs_nil ⟨σ1, H2, I2, q2⟩
end

/-! ### what a loop or a comprehension walks -/
/-- at turn i: it yields x (the heap may grow), or it stops -/
structure It where
  go : Nat → Hp → Prop
  yld : Nat → Hp → V → Hp → Prop
  stop : Nat → Hp → Prop
/-- the iterator's own objects may turn: they are not the frame's, not pinned, younger than the entry (or a comprehension's own) -/
def FpOk (X : Cx) (pins : List (Addr × Obj)) (H : Hp) (b : Addr) : Prop :=
  H b = none ∧ b ≠ X.env.locals ∧ b ∉ X.fs ∧ (b ∈ X.ex ∨ X.s₀.heap.objs.size ≤ b) ∧ (∀ x c, X.env.cells.lookup x = some c → c ≠ b) ∧ ∀ p ∈ X.pn ++ pins, p.1 ≠ b
theorem Inv.fpOk {X : Cx} {pins : List (Addr × Obj)} {σ : St} {H H' : Hp} {s : Shared} {b : Addr} (I : Inv X pins σ H s) (hb : s.heap.objs.size ≤ b) (hn : H' b = none) : FpOk X pins H' b := by
  refine ⟨hn, Nat.ne_of_gt (Nat.lt_of_lt_of_le I.lt hb), I.nofs hb, .inr (Nat.le_trans I.sz hb), fun x c e z => ?_, fun p hp z => ?_⟩
  · obtain ⟨v, q⟩ := I.cell x c e
    exact absurd (Nat.lt_of_lt_of_le q.lt (by rw [z]; exact hb)) (Nat.lt_irrefl _)
  · exact absurd (Nat.lt_of_lt_of_le (Heap.lt_size (I.pin p hp).1) (by rw [z]; exact hb)) (Nat.lt_irrefl _)
structure Turn (P : Program) (w : World) (K : PySem.W.Frag) (tg : Expr) (J : It) (fp : List Addr) (it : Addr) (tn : Nat → Heap → Prop) : Prop where
  mem : it ∈ fp
  obj : ∀ i h, tn i h → ∀ b ∈ fp, ∃ o, h.get? b = some o ∧ ∀ v, o.data ≠ .cell v
  keep : ∀ i h h', tn i h → (∀ b ∈ fp, ∀ o, h.get? b = some o → h'.get? b = some o) → tn i h'
  item : ∀ (X : Cx), X.prog = P → X.w = w → X.K = K → X.calm = true → ∀ (i : Nat) (pins : List (Addr × Obj)) (s : Shared) (σ : St) (H : Hp) (E : Value → Shared → Prop), Inv X pins σ H s → (∀ b ∈ fp, FpOk X pins H b) → tn i s.heap → J.go i H →
    wpAny (model P w) X.A (pyNext (.ref it)) (fun r s1 => ∃ u, r = some u ∧
      wpAny (model P w) X.A (letOwnedTupleGo tg (.ref it) u) (fun _ s2 => ∃ x H', Inv X pins σ H' s2 ∧ RelV x u ∧ J.yld i H x H' ∧ tn (i + 1) s2.heap ∧ ∀ b ∈ fp, H' b = none) E s1) E s
  done : ∀ (X : Cx), X.prog = P → X.w = w → X.K = K → X.calm = true → ∀ (i : Nat) (pins : List (Addr × Obj)) (s : Shared) (σ : St) (H : Hp) (E : Value → Shared → Prop), Inv X pins σ H s → (∀ b ∈ fp, FpOk X pins H b) → tn i s.heap → J.stop i H →
    wpAny (model P w) X.A (pyNext (.ref it)) (fun r s1 => r = none ∧ Inv X pins σ H s1) E s
  self : ∀ (A : Around) (i : Nat) (s : Shared) (Q : Value → Shared → Prop) (E : Value → Shared → Prop), tn i s.heap → Q (.ref it) s → wpAny (model P w) A (pyIter (.ref it)) Q E s
abbrev TI := St → Hp → (It → Hp → Prop) → Prop
/-- an iterator has come -/
def PIE (X : Cx) (pins : List (Addr × Obj)) (σ : St) (tg : Expr) (R : It → Hp → Prop) (itv : Value) (s2 : Shared) : Prop :=
  ∃ (it : Addr) (fp : List Addr) (tn : Nat → Heap → Prop) (J : It) (H' : Hp), itv = .ref it ∧ Inv X pins σ H' s2 ∧ Turn X.prog X.w X.K tg J fp it tn ∧ tn 0 s2.heap ∧ (∀ b ∈ fp, FpOk X pins H' b) ∧ R J H'
def PI (X : Cx) (tg iter : Expr) (wi : TI) : Prop :=
  ∀ (pins : List (Addr × Obj)) (s : Shared) (σ : St) (H : Hp) (R : It → Hp → Prop), Inv X pins σ H s → wi σ H R →
    wpAny (model X.prog X.w) X.A (eval iter X.env) (fun v s1 => wpAny (model X.prog X.w) X.A (pyIter v) (PIE X pins σ tg R) X.xe s1) X.xe s

/-- the step ahead of the store is nothing for an iterator that keeps no tuple -/
theorem go_of {M : Model} {A : Around} {E : Value → Shared → Prop} {s : Shared} {tg : Expr} {it : Addr} {u : Value} {o : Obj} {n : String} {vs : Array Value} {Q : Unit → Shared → Prop} (ho : s.heap.get? it = some o) (hc : o.cls = .type n) (hd : o.data = .fields vs)
    (hn : ["enumerate", "zip", "dict_itemiterator", "dict_reverseitemiterator", "odict_iterator", "itertools.zip_longest", "itertools.pairwise"].contains n = false) (hQ : Q () s) : wpAny M A (letOwnedTupleGo tg (.ref it) u) Q E s := by
  unfold letOwnedTupleGo
  cases tg <;> first
    | exact wpAny_pure hQ
    | (cases u <;> first
        | exact wpAny_pure hQ
        | (refine wpAny_bind (wpAny_load ho ?_)
           rw [hc, hd]
           show wpAny M A (if (["enumerate", "zip", "dict_itemiterator", "dict_reverseitemiterator", "odict_iterator", "itertools.zip_longest", "itertools.pairwise"].contains n && vs[0]? == some (rawInt _)) = true then _ else _) Q E s
           rw [if_neg (by intro h; rw [hn, Bool.false_and] at h; cases h)]
           exact wpAny_pure hQ))

/-- the list at a, as it stands at each turn (a loop may append to it) -/
def Itl (K : PySem.W.Frag) (a : Addr) : It :=
  ⟨fun i H => ∃ xs x, SqL K H a xs ∧ xs[i]? = some x, fun i H x H' => H' = H ∧ ∀ xs, SqL K H a xs → xs[i]? = some x, fun i H => ∃ xs, SqL K H a xs ∧ xs.length ≤ i⟩
def Itt (K : PySem.W.Frag) (a : Addr) : It :=
  ⟨fun i H => ∃ xs x, SqT K H a xs ∧ xs[i]? = some x, fun i H x H' => H' = H ∧ ∀ xs, SqT K H a xs → xs[i]? = some x, fun i H => ∃ xs, SqT K H a xs ∧ xs.length ≤ i⟩
/-- lo, lo + 1, .. (n of them) -/
def Itr (lo : Int) (n : Nat) : It := ⟨fun i _ => i < n, fun i H x H' => H' = H ∧ x = .int (lo + i), fun i _ => n ≤ i⟩
theorem turn_list {P : Program} {w : World} {K : PySem.W.Frag} {tg : Expr} (a it : Addr) : Turn P w K tg (Itl K a) [it] it (fun i h => h.IsListIter it a i) where
  mem := by simp
  obj := fun i h st b hb => by
    have e : b = it := by simpa using hb
    subst e
    obtain ⟨o, e, c, d⟩ := st
    exact ⟨o, e, fun v z => by rw [d] at z; cases z⟩
  keep := fun i h h' st k => st.at fun o e => k it (by simp) o e
  item := by
    intro X hP hw hK hc i pins s σ H E I hf st hg
    subst hP hw hK
    obtain ⟨xs, x, hq, hx⟩ := hg
    obtain ⟨its, rv, p, hz⟩ := I.list hq
    obtain ⟨u, hu, ru⟩ := rv.get hx
    obtain ⟨f0, f1, f2, f3, f4, f5⟩ := hf it (by simp)
    refine wpAny_pyNext_list_item st p.isList (x := u) (by simpa using hu) fun h' st' sb => ?_
    have I1 : Inv X pins σ H { s with heap := h' } := I.turned (t' := s.toks) (fun b o hb e => (sb.2 b hb).trans e) f0 f1 f3 f4 f5
    obtain ⟨o, e, c, d⟩ := id st'
    exact ⟨u, rfl, go_of (s := { s with heap := h' }) e c d (by decide) ⟨x, H, I1, ru, ⟨rfl, fun ys hy => by rw [I.list_inj hy hq]; exact hx⟩, st', fun b hb => (hf b hb).1⟩⟩
  done := by
    intro X hP hw hK hc i pins s σ H E I hf st hg
    subst hP hw hK
    obtain ⟨xs, hq, hx⟩ := hg
    obtain ⟨its, rv, p, hz⟩ := I.list hq
    obtain ⟨f0, f1, f2, f3, f4, f5⟩ := hf it (by simp)
    have hl := rv.length
    exact wpAny_pyNext_list_end (I.ok.hd hc) st p.isList (by simp; omega) fun h' eb => ⟨rfl, I.turned (t' := s.toks) (fun b o hb e => eb b o hb e) f0 f1 f3 f4 f5⟩
  self := fun _ _ _ _ _ st h => wpAny_pyIter_listiter st h
theorem turn_range {P : Program} {w : World} {K : PySem.W.Frag} {tg : Expr} (it : Addr) (lo : Int) (n : Nat) : Turn P w K tg (Itr lo n) [it] it (fun i h => IsRangeIter h it (lo + (i : Nat) * 1) ((n : Int) - (i : Nat)) 1) where
  mem := by simp
  obj := fun i h st b hb => by
    have e : b = it := by simpa using hb
    subst e
    exact ⟨_, st, fun v z => by
      have z' : Data.fields _ = Data.cell v := z
      cases z'⟩
  keep := fun i h h' st k => k it (by simp) _ st
  item := by
    intro X hP hw hK hc i pins s σ H E I hf st hg
    subst hP hw hK
    obtain ⟨f0, f1, f2, f3, f4, f5⟩ := hf it (by simp)
    have W := Walks.range (prog := X.prog) (w := X.w) (I.ok.hd hc) it lo 1 n
    refine W.item i s _ _ hg st fun v h' tk hv st' kk => ?_
    obtain ⟨t, rfl⟩ := hv
    have I1 : Inv X pins σ H { s with heap := h', toks := tk } := I.turned (fun b o hb e => kk b o (by simpa using hb) e) f0 f1 f3 f4 f5
    refine ⟨_, rfl, go_of (s := { s with heap := h', toks := tk }) (n := "range_iterator") st' rfl rfl (by decide) ⟨.int (lo + i), H, I1, ⟨t, ?_⟩, ⟨rfl, rfl⟩, st', fun b hb => (hf b hb).1⟩⟩
    rw [Int.mul_one]
  done := by
    intro X hP hw hK hc i pins s σ H E I hf st hg
    subst hP hw hK
    obtain ⟨f0, f1, f2, f3, f4, f5⟩ := hf it (by simp)
    exact wpAny_pyNext_range_end (I.ok.hd hc) st (by have : n ≤ i := hg; omega) fun h' eb => ⟨rfl, I.turned (t' := s.toks) (fun b o hb e => eb b o hb e) f0 f1 f3 f4 f5⟩
  self := fun _ _ _ _ _ st h => wpAny_pyIter_rangeiter st h
end L2

namespace L2
open PySem PySem.Spec PyProof.Rows
section
variable {X : Cx} {tg : Expr}
def iList (K : PySem.W.Frag) (tl : TE) : TI := fun σ H R => tl σ H fun x H1 => ∃ a, x = .ref a ∧ (∃ xs, SqL K H1 a xs) ∧ R (Itl K a) H1
def iTup (K : PySem.W.Frag) (tl : TE) : TI := fun σ H R => tl σ H fun x H1 => ∃ a, x = .ref a ∧ (∃ xs, SqT K H1 a xs) ∧ R (Itt K a) H1
theorem pi_list {l : Expr} {tl : TE} (hl : PE X l tl) : PI X tg l (iList X.K tl) := by
  intro pins s σ H R I h
  refine thn (hl pins s σ H _ I h) fun v s1 ⟨x, H1, I1, r1, q1⟩ => ?_
  obtain ⟨a, e, ⟨xs, hq⟩, q⟩ := q1
  subst e
  cases r1
  obtain ⟨its, rv, p, hz⟩ := I1.list hq
  refine wpAny_pyIter_list p.isList ?_
  refine ⟨s1.heap.objs.size, [s1.heap.objs.size], _, _, H1, rfl, I1.kept (t' := s1.toks) fun b o e => Heap.get?_push_of_some _ e, turn_list a _, ⟨_, Heap.get?_push_size _ rfl, rfl, rfl⟩, fun b hb => ?_, q⟩
  have e : b = s1.heap.objs.size := by simpa using hb
  subst e
  exact I1.fpOk (Nat.le_refl _) (I1.hok.fresh (Nat.le_refl _))
/-- a range object just made, walked -/
theorem range_it {pins : List (Addr × Obj)} {σ : St} {H : Hp} {s : Shared} {R : It → Hp → Prop} {E : Value → Shared → Prop} {lo hi : Int} {t u v : Tok} {tk : Nat} (I : Inv X pins σ H s) (h1 : -(2 ^ 62) ≤ lo) (h2 : lo < 2 ^ 62) (h3 : -(2 ^ 62) ≤ hi) (h4 : hi < 2 ^ 62)
    (q : R (Itr lo (hi - lo).toNat) H) : wpAny (model X.prog X.w) X.A (pyIter (.ref s.heap.objs.size)) (PIE X pins σ tg R) E { s with heap := s.heap.push { cls := .type "range", data := .fields #[.int lo t, .int hi u, .int 1 v] }, toks := tk } := by
  refine wpAny_pyIter_range (IsRange.new ..) (small_one h1 h2 h3 h4) ?_
  have I1 : Inv X pins σ H { s with heap := s.heap.push { cls := .type "range", data := .fields #[.int lo t, .int hi u, .int 1 v] }, toks := tk } := I.kept fun b o e => Heap.get?_push_of_some _ e
  refine ⟨(s.heap.push { cls := .type "range", data := .fields #[.int lo t, .int hi u, .int 1 v] }).objs.size, [(s.heap.push { cls := .type "range", data := .fields #[.int lo t, .int hi u, .int 1 v] }).objs.size], _, _, H, rfl,
    I1.kept (t' := tk) fun b o e => Heap.get?_push_of_some _ e, turn_range _ lo (hi - lo).toNat, ?_, fun b hb => ?_, q⟩
  · have e1 : lo + ((0 : Nat) : Int) * 1 = lo := by simp
    have e2 : (((hi - lo).toNat : Nat) : Int) - ((0 : Nat) : Int) = Builtin.Range.rangeSize lo hi 1 := by rw [rangeSize_one]; split <;> omega
    show IsRangeIter _ _ (lo + ((0 : Nat) : Int) * 1) ((((hi - lo).toNat : Nat) : Int) - ((0 : Nat) : Int)) 1
    rw [e1, e2]
    exact Heap.get?_push_size _ rfl
  · have e : b = (s.heap.push { cls := .type "range", data := .fields #[.int lo t, .int hi u, .int 1 v] }).objs.size := by simpa using hb
    subst e
    exact I1.fpOk (Nat.le_refl _) (I1.hok.fresh (Nat.le_refl _))
def iRng1 (ta : TA) : TI := fun σ H R => ta σ H fun vs H1 => ∃ j : Int, vs = [.int j] ∧ -(2 ^ 62) ≤ j ∧ j < 2 ^ 62 ∧ R (Itr 0 j.toNat) H1
def iRng2 (ta : TA) : TI := fun σ H R => ta σ H fun vs H1 => ∃ i j : Int, vs = [.int i, .int j] ∧ (-(2 ^ 62) ≤ i ∧ i < 2 ^ 62 ∧ -(2 ^ 62) ≤ j ∧ j < 2 ^ 62) ∧ R (Itr i (j - i).toNat) H1
theorem pi_range1 {a : Expr} {ta : TA} {p pos : Pos} (hg : Gl X "range") (hm : X.mg "range" = none) (ha : PA X [a] ta) (hs : starEach [a] X.env = [(false, eval a X.env)] := by rfl) : PI X tg (.Call (.Name "range" p) [a] [] pos) (iRng1 ta) := by
  intro pins s σ H R I h
  refine Call_ (ld_blt I hg hm boot_range (PyProof.Rows.callWith_type1 (thn (ha pos pins s σ H _ I h) fun us s1 ⟨vs, H1, I1, r1, q1⟩ => ?_) hs rfl))
  obtain ⟨j, e, q1, q2, q⟩ := q1
  subst e
  cases r1 with
  | cons r rr =>
    cases rr
    obtain ⟨t, rfl⟩ := r
    exact call_range_1 (range_it I1 (by omega) (by omega) q1 q2 (by simpa using q))
/-! ### for -/
/-- W: the invariant by the turn and a measure; N: what the body is to reach -/
def tFor (wi : TI) (g : TG) (tb : TS) : TS := fun D σ H => wi σ H fun J H1 => ∃ W : Nat → Nat → St → Hp → Prop, (∃ m, W 0 m σ H1) ∧ ∀ i m σ H, W i m σ H →
  (J.stop i H ∧ D.nx σ H) ∨ (J.go i H ∧ ∃ N : St → Hp → Prop, (∀ σ' H', N σ' H' → ∃ m', m' < m ∧ W (i + 1) m' σ' H') ∧ ∀ x H', J.yld i H x H' → g x σ H' fun σ2 H2 => tb { D with nx := N, ct := N, bk := D.nx } σ2 H2)
/-- the records at fp as they stand -/
def pinsAt (fp : List Addr) (h : Heap) : List (Addr × Obj) := fp.filterMap fun b => (h.get? b).map fun o => (b, o)
theorem mem_pinsAt {fp : List Addr} {h : Heap} {b : Addr} {o : Obj} (hb : b ∈ fp) (e : h.get? b = some o) : (b, o) ∈ pinsAt fp h := List.mem_filterMap.mpr ⟨b, hb, by rw [e]; rfl⟩
theorem of_pinsAt {fp : List Addr} {h : Heap} {p : Addr × Obj} (hp : p ∈ pinsAt fp h) : p.1 ∈ fp ∧ h.get? p.1 = some p.2 := by
  obtain ⟨b, hb, e⟩ := List.mem_filterMap.mp hp
  cases q : h.get? b with
  | none => rw [q] at e; cases e
  | some o =>
    rw [q] at e
    have e' : (b, o) = p := Option.some.inj e
    subst e'
    exact ⟨hb, q⟩
theorem Inv.pinned {pins : List (Addr × Obj)} {σ : St} {H : Hp} {s : Shared} {fp : List Addr} (I : Inv X pins σ H s) (hf : ∀ b ∈ fp, FpOk X pins H b) (ho : ∀ b ∈ fp, ∃ o, s.heap.get? b = some o ∧ ∀ v, o.data ≠ .cell v) : Inv X (pins ++ pinsAt fp s.heap) σ H s :=
  I.pins_of fun p hp => (List.mem_append.mp hp).elim (fun z => I.pin p (List.mem_append_right _ z)) fun z => by
    obtain ⟨hb, e⟩ := of_pinsAt z
    obtain ⟨f0, f1, f2, _⟩ := hf p.1 hb
    obtain ⟨o, e', d⟩ := ho p.1 hb
    rw [e] at e'; cases e'
    exact ⟨e, f0, f1, f2, d⟩
theorem Inv.unpinned {pins pl : List (Addr × Obj)} {σ : St} {H : Hp} {s : Shared} (I : Inv X (pins ++ pl) σ H s) : Inv X pins σ H s := I.pins_of fun p hp => I.pin p (List.mem_append_right _ (List.mem_append_left _ hp))
theorem ps_for {iter : Expr} {body : List Stmt} {wi : TI} {g : TG} {tb : TS} {pos : Pos} (hp : PassesOwn (model X.prog X.w) X.A X.env X.xe) (hc : X.calm = true) (hi : PI X tg iter wi) (hg : PG X tg g) (hb : PSs X body tb)
    (hs : ∀ x, foldedSetIterable iter X.env x = pure x := by intro _; rfl) : PS X (.For tg iter body [] pos) (tFor wi g tb) := by
  intro pins s σ H D I h
  refine wpAny_For (thn (hi pins s σ H _ I h) fun v s1 h1 => thn h1 fun itv s2 h2 => ?_) hs
  obtain ⟨it, fp, tn, J, H2, e, I2, T, st2, f2, W, ⟨m0, w0⟩, turn⟩ := h2
  subst e
  -- what stays true of the iterator's objects through the loop
  have stat : ∀ {H' : Hp}, (∀ b ∈ fp, H' b = none) → ∀ b ∈ fp, FpOk X pins H' b := fun hn b hb => ⟨hn b hb, (f2 b hb).2⟩
  refine codeAny_forLoop_any (fun n s' => ∃ i σ' H', Inv X pins σ' H' s' ∧ tn i s'.heap ∧ (∀ b ∈ fp, H' b = none) ∧ W i n σ' H') ?_ m0 ⟨0, σ, H2, I2, st2, fun b hb => (f2 b hb).1, w0⟩
  rintro n s3 ⟨i, σ3, H3, I3, st3, fr3, w3⟩
  rcases turn i n σ3 H3 w3 with ⟨stop, qn⟩ | ⟨go, N, hN, step⟩
  · refine wpAny_passesOwn hp (thn (T.done X rfl rfl rfl hc i pins s3 σ3 H3 X.xe I3 (stat fr3) st3 stop) fun r s4 ⟨hr, I4⟩ => ?_)
    subst hr
    exact wpAny_execs_nil ⟨σ3, H3, I4, qn⟩
  · refine wpAny_passesOwn hp (thn (T.item X rfl rfl rfl hc i pins s3 σ3 H3 X.xe I3 (stat fr3) st3 go) fun r s4 ⟨u, hr, h4⟩ => ?_)
    subst hr
    refine wpAny_passesOwn hp (thn h4 fun _ s5 ⟨x, H5, I5, r5, y5, st5, fr5⟩ => ?_)
    have I5' := I5.pinned (stat fr5) (T.obj _ _ st5)
    refine wpAny_passesOwn hp (thn (hg _ s5 σ3 H5 x u _ I5' r5 (step x H5 y5)) fun _ s6 ⟨σ6, H6, I6, q6⟩ => ?_)
    refine wpAny_passesOwn hp (thn (hb _ s6 σ6 H6 _ I6 q6) fun f s7 q7 => ?_)
    have again : ∀ {σ7 : St} {H7 : Hp}, Inv X (pins ++ pinsAt fp s5.heap) σ7 H7 s7 → N σ7 H7 → ∃ m, m < n ∧ ∃ i σ' H', Inv X pins σ' H' s7 ∧ tn i s7.heap ∧ (∀ b ∈ fp, H' b = none) ∧ W i m σ' H' := fun {σ7 H7} I7 n7 => by
      obtain ⟨m', hm, w7⟩ := hN σ7 H7 n7
      refine ⟨m', hm, i + 1, σ7, H7, I7.unpinned, T.keep _ _ _ st5 fun b hb o e => (I7.pin (b, o) (List.mem_append_right _ (List.mem_append_right _ (mem_pinsAt hb e)))).1, fun b hb => ?_, w7⟩
      obtain ⟨o, e, d⟩ := T.obj _ _ st5 b hb
      exact (I7.pin (b, o) (List.mem_append_right _ (List.mem_append_right _ (mem_pinsAt hb e)))).2.1
    cases f with
    | next => obtain ⟨σ7, H7, I7, n7⟩ := q7; exact again I7 n7
    | cont => obtain ⟨σ7, H7, I7, n7⟩ := q7; exact again I7 n7
    | brk => obtain ⟨σ7, H7, I7, q7⟩ := q7; exact ⟨σ7, H7, I7.unpinned, q7⟩
    | ret v => obtain ⟨x7, σ7, H7, I7, r7, q7⟩ := q7; exact ⟨x7, σ7, H7, I7.unpinned, r7, q7⟩
end

/-! ### the forms one uses -/
/-- over a list that the body leaves as it is -/
theorem for_list {K : PySem.W.Frag} {a : Addr} {xs : List V} {g : TG} {tb : TS} {D : Ends} {σ : St} {H : Hp} (Pv : Nat → St → Hp → Prop) (h0 : Pv 0 σ H) (hl : ∀ i σ H, i ≤ xs.length → Pv i σ H → SqL K H a xs)
    (hs : ∀ i x σ H, xs[i]? = some x → Pv i σ H → g x σ H fun σ2 H2 => tb { D with nx := Pv (i + 1), ct := Pv (i + 1), bk := D.nx } σ2 H2) (hd : ∀ σ H, Pv xs.length σ H → D.nx σ H) :
    ∃ W : Nat → Nat → St → Hp → Prop, (∃ m, W 0 m σ H) ∧ ∀ i m σ H, W i m σ H →
      ((Itl K a).stop i H ∧ D.nx σ H) ∨ ((Itl K a).go i H ∧ ∃ N : St → Hp → Prop, (∀ σ' H', N σ' H' → ∃ m', m' < m ∧ W (i + 1) m' σ' H') ∧ ∀ x H', (Itl K a).yld i H x H' → g x σ H' fun σ2 H2 => tb { D with nx := N, ct := N, bk := D.nx } σ2 H2) := by
  refine ⟨fun i m σ H => m = xs.length - i ∧ i ≤ xs.length ∧ Pv i σ H, ⟨xs.length, by simp, Nat.zero_le _, h0⟩, ?_⟩
  rintro i m σ H ⟨rfl, hi, p⟩
  have q := hl i σ H hi p
  by_cases hlt : i < xs.length
  · refine .inr ⟨⟨xs, xs[i], q, by simp [hlt]⟩, Pv (i + 1), fun σ' H' p' => ⟨xs.length - (i + 1), by omega, rfl, hlt, p'⟩, fun x H' y => ?_⟩
    obtain ⟨e, y⟩ := y
    subst e
    exact hs i x σ _ (y xs q) p
  · have e : i = xs.length := by omega
    subst e
    exact .inl ⟨⟨xs, q, Nat.le_refl _⟩, hd σ H p⟩
theorem for_range {lo : Int} {n : Nat} {g : TG} {tb : TS} {D : Ends} {σ : St} {H : Hp} (Pv : Nat → St → Hp → Prop) (h0 : Pv 0 σ H)
    (hs : ∀ i σ H, i < n → Pv i σ H → g (.int (lo + i)) σ H fun σ2 H2 => tb { D with nx := Pv (i + 1), ct := Pv (i + 1), bk := D.nx } σ2 H2) (hd : ∀ σ H, Pv n σ H → D.nx σ H) :
    ∃ W : Nat → Nat → St → Hp → Prop, (∃ m, W 0 m σ H) ∧ ∀ i m σ H, W i m σ H →
      ((Itr lo n).stop i H ∧ D.nx σ H) ∨ ((Itr lo n).go i H ∧ ∃ N : St → Hp → Prop, (∀ σ' H', N σ' H' → ∃ m', m' < m ∧ W (i + 1) m' σ' H') ∧ ∀ x H', (Itr lo n).yld i H x H' → g x σ H' fun σ2 H2 => tb { D with nx := N, ct := N, bk := D.nx } σ2 H2) := by
  refine ⟨fun i m σ H => m = n - i ∧ i ≤ n ∧ Pv i σ H, ⟨n, by simp, Nat.zero_le _, h0⟩, ?_⟩
  rintro i m σ H ⟨rfl, hi, p⟩
  by_cases hlt : i < n
  · refine .inr ⟨hlt, Pv (i + 1), fun σ' H' p' => ⟨n - (i + 1), by omega, rfl, hlt, p'⟩, fun x H' y => ?_⟩
    obtain ⟨e, y⟩ := y
    subst e y
    exact hs i σ _ hlt p
  · have e : i = n := by omega
    subst e
    exact .inl ⟨Nat.le_refl _, hd σ H p⟩
end L2

namespace L2
open PySem PySem.Spec PyProof.Rows

abbrev R2 := V → V → Hp → VK → Prop
/-- a two-place operation on values: f is binaryOp op, inplaceOp op or compareOp op -/
def OpR (X : Cx) (f : Value → Value → Sem Value) (r : R2) : Prop :=
  ∀ (pins : List (Addr × Obj)) (s : Shared) (σ : St) (H : Hp) (x y : V) (v u : Value) (Q : VK), Inv X pins σ H s → RelV x v → RelV y u → r x y H Q →
    wpAny (model X.prog X.w) X.A (f v u) (EP X pins σ Q) X.xe s
/-- a one-place operation -/
def UnR (X : Cx) (f : Value → Sem Value) (r : V → Hp → VK → Prop) : Prop :=
  ∀ (pins : List (Addr × Obj)) (s : Shared) (σ : St) (H : Hp) (x : V) (v : Value) (Q : VK), Inv X pins σ H s → RelV x v → r x H Q →
    wpAny (model X.prog X.w) X.A (f v) (EP X pins σ Q) X.xe s
/-- a call of a value that is known (a builtin, a type) with values -/
def CallR (X : Cx) (f : Value) (r : List V → Hp → VK → Prop) : Prop :=
  ∀ (pins : List (Addr × Obj)) (s : Shared) (σ : St) (H : Hp) (xs : List V) (us : List Value) (Q : VK), Inv X pins σ H s → Vals xs us → r xs H Q →
    wpAny (model X.prog X.w) X.A (call f us) (EP X pins σ Q) X.xe s
/-- a value's truth -/
def TruR (X : Cx) (r : V → Hp → (Bool → Hp → Prop) → Prop) : Prop :=
  ∀ (pins : List (Addr × Obj)) (s : Shared) (σ : St) (H : Hp) (x : V) (v : Value) (Q : Bool → Hp → Prop), Inv X pins σ H s → RelV x v → r x H Q →
    wpAny (model X.prog X.w) X.A (truthy v) (TP X pins σ Q) X.xe s

def tOp (r : R2) (ta tb : TE) : TE := fun σ H Q => ta σ H fun x H1 => tb σ H1 fun y H2 => r x y H2 Q
def tUn (r : V → Hp → VK → Prop) (ta : TE) : TE := fun σ H Q => ta σ H fun x H1 => r x H1 Q
/-- ints in, under C, and a value out -/
def rI (C : Int → Int → Prop) (g : Int → Int → V) : R2 := fun x y H Q => ∃ i j, x = .int i ∧ y = .int j ∧ C i j ∧ Q (g i j) H
def rI0 (g : Int → Int → V) : R2 := fun x y H Q => ∃ i j, x = .int i ∧ y = .int j ∧ Q (g i j) H
def rU (g : Int → V) : V → Hp → VK → Prop := fun x H Q => ∃ i, x = .int i ∧ Q (g i) H

section
variable {X : Cx} {a b c : Expr} {ta tb tc : TE} {pos : Pos}

theorem binT (ha : PE X a ta) (hb : PE X b tb) {pins : List (Addr × Obj)} {s : Shared} {σ : St} {H : Hp} {R : V → V → Hp → Prop} (I : Inv X pins σ H s)
    (h : ta σ H fun x H1 => tb σ H1 fun y H2 => R x y H2) {Q : Value → Shared → Prop} {f : Value → Value → Sem Value}
    (hf : ∀ v u s2 x y H2, Inv X pins σ H2 s2 → RelV x v → RelV y u → R x y H2 → wpAny (model X.prog X.w) X.A (f v u) Q X.xe s2) :
    wpAny (model X.prog X.w) X.A (eval a X.env) (fun v s₁ => wpAny (model X.prog X.w) X.A (eval b X.env) (fun u s₂ => wpAny (model X.prog X.w) X.A (f v u) Q X.xe s₂) X.xe s₁) X.xe s := by
  refine thn (ha pins s σ H _ I h) fun v s1 ⟨x, H1, I1, r1, q1⟩ => ?_
  refine thn (hb pins s1 σ H1 _ I1 q1) fun u s2 ⟨y, H2, I2, r2, q2⟩ => ?_
  exact hf v u s2 x y H2 I2 r1 r2 q2

theorem pe_op {op : Operator} {r : R2} (ho : OpR X (binaryOp op) r) (ha : PE X a ta) (hb : PE X b tb) : PE X (.BinOp a op b pos) (tOp r ta tb) := by
  intro pins s σ H Q I h
  exact wpAny_BinOp (binT ha hb I h fun v u s2 x y H2 I2 rx ry q => ho pins s2 σ H2 x y v u Q I2 rx ry q)
theorem pe_un {op : UnaryOp} {r : V → Hp → VK → Prop} (ho : UnR X (unaryOp op) r) (ha : PE X a ta) : PE X (.UnaryOp op a pos) (tUn r ta) := by
  intro pins s σ H Q I h
  exact UnaryOp_ (thn (ha pins s σ H _ I h) fun v s1 ⟨x, H1, I1, r1, q1⟩ => ho pins s1 σ H1 x v Q I1 r1 q1)
/-! ### ints -/
theorem opI {f : Value → Value → Sem Value} {C : Int → Int → Prop} {g : Int → Int → Int}
    (rule : ∀ (i j : Int) (t u : Tok) (s : Shared) (Q : Value → Shared → Prop) (E : Value → Shared → Prop), C i j → Q (.int (g i j) s.toks) { s with toks := s.toks + 1 } → wpAny (model X.prog X.w) X.A (f (.int i t) (.int j u)) Q E s) :
    OpR X f (rI C fun i j => .int (g i j)) := by
  intro pins s σ H x y v u Q I rx ry h
  obtain ⟨i, j, rfl, rfl, hc, q⟩ := h
  obtain ⟨t, rfl⟩ := rx
  obtain ⟨t', rfl⟩ := ry
  exact rule i j t t' s _ _ hc ⟨.int (g i j), H, I.tok _, ⟨_, rfl⟩, q⟩
theorem opI0 {f : Value → Value → Sem Value} {g : Int → Int → Int}
    (rule : ∀ (i j : Int) (t u : Tok) (s : Shared) (Q : Value → Shared → Prop) (E : Value → Shared → Prop), Q (.int (g i j) s.toks) { s with toks := s.toks + 1 } → wpAny (model X.prog X.w) X.A (f (.int i t) (.int j u)) Q E s) :
    OpR X f (rI0 fun i j => .int (g i j)) := by
  intro pins s σ H x y v u Q I rx ry h
  obtain ⟨i, j, rfl, rfl, q⟩ := h
  obtain ⟨t, rfl⟩ := rx
  obtain ⟨t', rfl⟩ := ry
  exact rule i j t t' s _ _ ⟨.int (g i j), H, I.tok _, ⟨_, rfl⟩, q⟩
theorem opB0 {f : Value → Value → Sem Value} {g : Int → Int → Bool}
    (rule : ∀ (i j : Int) (t u : Tok) (s : Shared) (Q : Value → Shared → Prop) (E : Value → Shared → Prop), Q (.bool (g i j)) s → wpAny (model X.prog X.w) X.A (f (.int i t) (.int j u)) Q E s) :
    OpR X f (rI0 fun i j => .bl (g i j)) := by
  intro pins s σ H x y v u Q I rx ry h
  obtain ⟨i, j, rfl, rfl, q⟩ := h
  obtain ⟨t, rfl⟩ := rx
  obtain ⟨t', rfl⟩ := ry
  exact rule i j t t' s _ _ ⟨.bl (g i j), H, I, rfl, q⟩

def CDiv (i j : Int) : Prop := 0 < j ∧ j < 1073741824
def CDivN (i j : Int) : Prop := j ≠ 0 ∧ j.natAbs < 1073741824
def CPow (i j : Int) : Prop := 0 ≤ j ∧ j ≤ 1000000 ∧ i.natAbs < 2 ^ 64
def CMul (i j : Int) : Prop := (-(2 ^ 64) < i ∧ i < 2 ^ 64) ∨ (-(2 ^ 64) < j ∧ j < 2 ^ 64)
theorem CMul.ok {i j : Int} (h : CMul i j) : IntMulOk i j := by
  rcases h with ⟨h1, h2⟩ | ⟨h1, h2⟩
  · exact .of_left (intBits_le_64 h1 h2)
  · exact .of_right (intBits_le_64 h1 h2)
theorem op_add : OpR X (binaryOp .Add) (rI0 fun i j => .int (i + j)) := opI0 fun _ _ _ _ _ _ _ q => add_int q
theorem op_mul : OpR X (binaryOp .Mult) (rI CMul fun i j => .int (i * j)) := opI fun _ _ _ _ _ _ _ hc q => mul_int q hc.ok
/-- % by a positive divisor of any size -/
theorem op_mod : OpR X (binaryOp .Mod) (rI (fun _ j => 0 < j) fun i j => .int (i % j)) := opI fun i j _ _ _ _ _ hc q => by
  have h1 : (0 : Int) < j := hc
  exact mod_int' (by omega) (by rw [Int.fmod_eq_emod_of_nonneg i (by omega)]; exact q)
theorem op_pow : OpR X (binaryOp .Pow) (rI CPow fun i j => .int (i ^ j.toNat)) := opI fun _ _ _ _ _ _ _ hc q => pow_int_small hc.1 hc.2.1 hc.2.2 q
theorem op_xor : OpR X (binaryOp .BitXor) (rI0 fun i j => .int (Builtin.bitXor i j)) := opI0 fun _ _ _ _ _ _ _ q => xor_int q

theorem unI {f : Value → Sem Value} {g : Int → Int}
    (rule : ∀ (i : Int) (t : Tok) (s : Shared) (Q : Value → Shared → Prop) (E : Value → Shared → Prop), Q (.int (g i) s.toks) { s with toks := s.toks + 1 } → wpAny (model X.prog X.w) X.A (f (.int i t)) Q E s) :
    UnR X f (rU fun i => .int (g i)) := by
  intro pins s σ H x v Q I rx h
  obtain ⟨i, rfl, q⟩ := h
  obtain ⟨t, rfl⟩ := rx
  exact rule i t s _ _ ⟨.int (g i), H, I.tok _, ⟨_, rfl⟩, q⟩
theorem un_neg : UnR X (unaryOp .USub) (rU fun i => .int (-i)) := unI fun _ _ _ _ _ q => neg_int q
/-! ### bools among ints: n += (a < b) -/
end

/-! ### comparisons -/
/-- the scalars that == tells apart as data does -/
def scal : V → V → Bool
  | .non, .non => true | .non, .int _ => true | .int _, .non => true | .non, .bl _ => true | .bl _, .non => true | .non, .str _ => true | .str _, .non => true
  | .int _, .int _ => true | .bl _, .bl _ => true | .str _, .str _ => true | .byt _, .byt _ => true
  | .int _, .str _ => true | .str _, .int _ => true | .bl _, .str _ => true | .str _, .bl _ => true
  | _, _ => false
def rEq : R2 := fun x y H Q => scal x y = true ∧ Q (.bl (decide (x = y))) H
def rNe : R2 := fun x y H Q => scal x y = true ∧ Q (.bl (!decide (x = y))) H

theorem dec_int {i j : Int} : decide (V.int i = V.int j) = (i == j) := by
  rw [Bool.eq_iff_iff]
  simp
theorem dec_bl {i j : Bool} : decide (V.bl i = V.bl j) = (i == j) := by
  rw [Bool.eq_iff_iff]
  simp
theorem dec_str {i j : Str} : decide (V.str i = V.str j) = (i == j) := by
  rw [Bool.eq_iff_iff]
  simp
theorem dec_byt {i j : Array UInt8} : decide (V.byt i = V.byt j) = (i.toList == j.toList) := by
  rw [Bool.eq_iff_iff]
  cases i
  cases j
  simp

section
variable {X : Cx} {a b c : Expr} {ta tb tc : TE} {pos : Pos}
theorem fin_bl {pins : List (Addr × Obj)} {σ : St} {H : Hp} {s : Shared} {Q : VK} {k k' : Bool} (I : Inv X pins σ H s) (q : Q (.bl k) H) (e : k = k') : EP X pins σ Q (.bool k') s := by
  subst e
  exact ⟨.bl k, H, I, rfl, q⟩
theorem op_eq : OpR X (compareOp .Eq) rEq := by
  intro pins s σ H x y v u Q I rx ry h
  obtain ⟨hs, q⟩ := h
  cases x with
  | non =>
    cases rx
    cases y with
    | non => cases ry; exact PySem.EqNone.eq_none_none (fin_bl I q (by simp))
    | bl j => cases ry; exact PySem.EqNone.eq_none_bool (fin_bl I q (by simp))
    | int j => obtain ⟨t', rfl⟩ := ry; exact PySem.EqNone.eq_none_int (fin_bl I q (by simp))
    | str j => obtain ⟨t', rfl⟩ := ry; exact PySem.EqNone.eq_none_str (fin_bl I q (by simp))
    | _ => exact absurd (show false = true from hs) Bool.false_ne_true
  | bl i =>
    cases rx
    cases y with
    | non => cases ry; exact PySem.EqNone.eq_bool_none (fin_bl I q (by simp))
    | bl j => cases ry; exact eq_bool (fin_bl I q dec_bl)
    | str j => obtain ⟨t', rfl⟩ := ry; exact PySem.EqMixed.eq_bool_str (fin_bl I q (by simp))
    | _ => exact absurd (show false = true from hs) Bool.false_ne_true
  | int i =>
    obtain ⟨t, rfl⟩ := rx
    cases y with
    | non => cases ry; exact PySem.EqNone.eq_int_none (fin_bl I q (by simp))
    | int j => obtain ⟨t', rfl⟩ := ry; exact eq_int (fin_bl I q dec_int)
    | str j => obtain ⟨t', rfl⟩ := ry; exact PySem.EqMixed.eq_int_str (fin_bl I q (by simp))
    | _ => exact absurd (show false = true from hs) Bool.false_ne_true
  | str i =>
    obtain ⟨t, rfl⟩ := rx
    cases y with
    | non => cases ry; exact PySem.EqNone.eq_str_none (fin_bl I q (by simp))
    | bl j => cases ry; exact PySem.EqMixed.eq_str_bool (fin_bl I q (by simp))
    | int j => obtain ⟨t', rfl⟩ := ry; exact PySem.EqMixed.eq_str_int (fin_bl I q (by simp))
    | str j => obtain ⟨t', rfl⟩ := ry; exact eq_str (fin_bl I q dec_str)
    | _ => exact absurd (show false = true from hs) Bool.false_ne_true
  | byt i =>
    obtain ⟨t, rfl⟩ := rx
    cases y with
    | byt j => obtain ⟨t', rfl⟩ := ry; exact PySem.W.eq_bytes (fin_bl I q dec_byt)
    | _ => exact absurd (show false = true from hs) Bool.false_ne_true
  | _ => cases y <;> exact absurd (show false = true from hs) Bool.false_ne_true
theorem op_lt : OpR X (compareOp .Lt) (rI0 fun i j => .bl (decide (i < j))) := opB0 fun _ _ _ _ _ _ _ q => lt_int q
theorem op_gt : OpR X (compareOp .Gt) (rI0 fun i j => .bl (decide (j < i))) := opB0 fun _ _ _ _ _ _ _ q => gt_int q
theorem op_ge : OpR X (compareOp .GtE) (rI0 fun i j => .bl (decide (j ≤ i))) := opB0 fun _ _ _ _ _ _ _ q => ge_int q
/-- is, is not of two objects that are tracked lists or instances -/
def isObj : HO → Bool
  | .lst _ => true
  | .ins _ _ _ => true
  | _ => false
/-- two rules for one operation: by cases -/
theorem OpR.or {f : Value → Value → Sem Value} {r r' : R2} (h : OpR X f r) (h' : OpR X f r') : OpR X f (fun x y H Q => r x y H Q ∨ r' x y H Q) := by
  intro pins s σ H x y v u Q I rx ry q
  rcases q with q | q
  · exact h pins s σ H x y v u Q I rx ry q
  · exact h' pins s σ H x y v u Q I rx ry q

theorem nomark (b : Expr) {op : CmpOp} (h : op ≠ .In := by decide) (h2 : op ≠ .NotIn := by decide) : behindInMarks op b = false := by
  have e1 : (op == CmpOp.In) = false := by cases op <;> first | rfl | exact absurd rfl h
  have e2 : (op == CmpOp.NotIn) = false := by cases op <;> first | rfl | exact absurd rfl h2
  cases b <;> simp [behindInMarks, e1, e2]
/-- a comparison as a value; hm: nomark b, or (for in, not in) by with_unfolding_all rfl -/
theorem pe_cmpR {op : CmpOp} {r : R2} (ho : OpR X (compareOp op) r) (ha : PE X a ta) (hb : PE X b tb) (hm : behindInMarks op b = false) : PE X (.Compare a [op] [b] pos) (tOp r ta tb) := by
  intro pins s σ H Q I h
  exact wpAny_Compare1 (binT ha hb I h fun v u s2 x y H2 I2 rx ry q => ho pins s2 σ H2 x y v u Q I2 rx ry q) hm
/-- a reading of a value as a test -/
def tTest (t : TE) : TT := fun σ H Q => t σ H fun x H' => ∃ k, x = .bl k ∧ Q k H'
theorem pt_cmpR {op : CmpOp} {r : R2} (ho : OpR X (compareOp op) r) (ha : PE X a ta) (hb : PE X b tb) (hm : behindInMarks op b = false) : PT X (.Compare a [op] [b] pos) (tTest (tOp r ta tb)) := by
  intro pins s σ H Q I h
  refine wpAny_isTrue_Compare1 (thn (ha pins s σ H _ I h) fun v s1 ⟨x, H1, I1, r1, q1⟩ => thn (hb pins s1 σ H1 _ I1 q1) fun u s2 ⟨y, H2, I2, r2, q2⟩ =>
    thn (ho pins s2 σ H2 x y v u _ I2 r1 r2 q2) fun c s3 ⟨z, H3, I3, r3, k, e, q3⟩ => ?_) hm
  subst e
  cases r3
  exact wpAny_truthy_bool ⟨H3, I3, q3⟩
/-- a op1 b op2 c -/
def tChain (r r' : R2) (ta tb tc : TE) : TE := fun σ H Q => ta σ H fun x H1 => tb σ H1 fun y H2 => r x y H2 fun z H3 => ∃ k, z = .bl k ∧
  (if k = true then tc σ H3 fun w' H4 => r' y w' H4 Q else Q (.bl false) H3)
theorem pt_chain {op op' : CmpOp} {r r' : R2} (ho : OpR X (compareOp op) r) (ho' : OpR X (compareOp op') r') (ha : PE X a ta) (hb : PE X b tb) (hc : PE X c tc)
    (hm : lastMarks [op, op'] [b, c] = false := by with_unfolding_all rfl) : PT X (.Compare a [op, op'] [b, c] pos) (tTest (tChain r r' ta tb tc)) := by
  intro pins s σ H Q I h
  refine isTrue_chain (thn (ha pins s σ H _ I h) fun v s1 ⟨x, H1, I1, r1, q1⟩ => test_link (thn (hb pins s1 σ H1 _ I1 q1) fun u s2 ⟨y, H2, I2, r2, q2⟩ =>
    thn (ho pins s2 σ H2 x y v u _ I2 r1 r2 q2) fun d s3 ⟨z, H3, I3, r3, k, e, q3⟩ => ?_)) hm
  subst e
  cases r3
  refine wpAny_truthy_bool ?_
  cases k with
  | false =>
    obtain ⟨k', e', q'⟩ := q3
    cases e'
    exact ite_ff ⟨H3, I3, q'⟩
  | true =>
    refine ite_tt (test_last (thn (hc pins s3 σ H3 _ I3 q3) fun w' s4 ⟨z', H4, I4, r4, q4⟩ => thn (ho' pins s4 σ H4 y z' u w' _ I4 r2 r4 q4) fun d' s5 ⟨z2, H5, I5, r5, k2, e2, q5⟩ => ?_))
    subst e2
    cases r5
    exact wpAny_truthy_bool ⟨H5, I5, q5⟩

/-! ### truth -/
/-- a value's truth by the abstract heap -/
def TruV (K : PySem.W.Frag) (x : V) (H : Hp) (k : Bool) : Prop :=
  match x with
  | .non => k = false
  | .bl b => k = b
  | .int i => k = (i != 0)
  | .str y => y.length ≤ sizeLine ∧ k = ((y.length : Int) != 0)
  | .byt y => y.size ≤ sizeLine ∧ k = ((y.size : Int) != 0)
  | .ref p => (∃ xs, SqL K H p xs ∧ k = !xs.isEmpty) ∨ (∃ xs, SqT K H p xs ∧ k = !xs.isEmpty) ∨ ∃ kvs, H p = some (.dK kvs) ∧ k = !kvs.isEmpty
  | _ => False
theorem isEmpty_kv {κ : Type} {kvs : List (κ × V)} {vs : List (κ × Value)} (r : KV kvs vs) : (!vs.isEmpty) = !kvs.isEmpty := by
  cases r <;> rfl
theorem isEmpty_of {xs : List V} {its : List Value} (r : Vals xs its) : (!its.toArray.isEmpty) = !xs.isEmpty := by
  cases r <;> simp
theorem line63 : (sizeLine : Nat) < 2 ^ 63 := by rw [sizeLine_eq]; decide
theorem tru_ok : TruR X (fun x H Q => ∃ k, TruV X.K x H k ∧ Q k H) := by
  intro pins s σ H x v Q I rx h
  obtain ⟨k, e, q⟩ := h
  have hl := line63
  have hs : sizeLine = 16777216 := sizeLine_eq
  cases x with
  | non =>
    cases rx
    have e' : k = false := e
    subst e'
    exact truthy_none ⟨H, I, q⟩
  | bl b =>
    cases rx
    have e' : k = b := e
    subst e'
    exact wpAny_truthy_bool ⟨H, I, q⟩
  | int i =>
    obtain ⟨t, rfl⟩ := rx
    have e' : k = (i != 0) := e
    subst e'
    exact PySem.P.truthy_int ⟨H, I, q⟩
  | str y =>
    obtain ⟨t, rfl⟩ := rx
    obtain ⟨hy, e'⟩ : y.length ≤ sizeLine ∧ k = ((y.length : Int) != 0) := e
    subst e'
    exact PySem.P.truthy_str (by omega) ⟨H, I.tok _, q⟩
  | byt y =>
    obtain ⟨t, rfl⟩ := rx
    obtain ⟨hy, e'⟩ : y.size ≤ sizeLine ∧ k = ((y.size : Int) != 0) := e
    subst e'
    exact PySem.W.truthy_bytes (by omega) ⟨H, I.tok _, q⟩
  | ref p =>
    cases rx
    have e' : (∃ xs, SqL X.K H p xs ∧ k = !xs.isEmpty) ∨ (∃ xs, SqT X.K H p xs ∧ k = !xs.isEmpty) ∨ ∃ kvs, H p = some (.dK kvs) ∧ k = !kvs.isEmpty := e
    rcases e' with ⟨xs, hx, e'⟩ | ⟨xs, hx, e'⟩ | ⟨kvs, hx, e'⟩
    · subst e'
      obtain ⟨its, r, pl, hz⟩ := I.list hx
      have hlen := r.length
      exact wpAny_truthy_list pl.isList (by simp only [List.size_toArray]; omega) ⟨H, I.tok _, by rw [isEmpty_of r]; exact q⟩
    · subst e'
      obtain ⟨its, r, pl, hz⟩ := I.tuple hx
      have hlen := r.length
      exact truthy_tuple pl (by simp only [List.size_toArray]; omega) ⟨H, I.tok _, by rw [isEmpty_of r]; exact q⟩
    · subst e'
      obtain ⟨hz, hS, vs, r, m⟩ : kvs.length ≤ sizeLine ∧ (p == sysModules) = false ∧ ∃ vs, KV kvs vs ∧ s.heap.DictOf (mixKind X.prog X.w) p vs := I.hok p _ hx
      have hlen : kvs.length = vs.length := Paired.length r
      exact wpAny_truthy_dict hS m (by omega) ⟨H, I.tok _, by rw [isEmpty_kv r]; exact q⟩
  | _ => exact (show False from e).elim
/-- any expression whose test is its value's truth (a name, a call, a subscript, a field ..: he by fun _ => rfl) -/
theorem pt_truth (ha : PE X a ta) (he : ∀ whole, isTrue a X.env whole = (do let v ← whole; standAt a.pos; holding [v] (truthy v))) :
    PT X a (fun σ H Q => ta σ H fun x H' => ∃ k, TruV X.K x H' k ∧ Q k H') := by
  intro pins s σ H Q I h
  exact isTrue_plain (thn (ha pins s σ H _ I h) fun v s1 ⟨x, H1, I1, r1, q1⟩ => tru_ok pins s1 σ H1 x v Q I1 r1 q1) (he _)

/-! ### strs and bytes -/
def PlainIxT (b : Expr) : Prop := ∀ o i, subscripted b false o i = operate [o, i] (getItem o i)
/-! ### scalar builtins, by CallR -/
theorem vals1 {x : V} {us : List Value} (r : Vals [x] us) : ∃ u, us = [u] ∧ RelV x u := by
  cases r with
  | cons r1 r2 => cases r2; exact ⟨_, rfl, r1⟩
theorem call_abs : CallR X (.builtin "abs") (fun xs H Q => ∃ i, xs = [.int i] ∧ Q (.int (if i < 0 then -i else i)) H) := by
  intro pins s σ H xs us Q I r h
  obtain ⟨i, rfl, q⟩ := h
  obtain ⟨u, rfl, t, rfl⟩ := vals1 r
  exact call_abs_int fun u tk => ⟨.int (if i < 0 then -i else i), H, I.tok _, ⟨_, rfl⟩, q⟩
/-- len of a str, a bytes, a list, a tuple -/
def LenV (K : PySem.W.Frag) (x : V) (H : Hp) (n : Nat) : Prop :=
  match x with
  | .str y => y.length ≤ sizeLine ∧ n = y.length
  | .byt y => y.size ≤ sizeLine ∧ n = y.size
  | .ref p => (∃ xs, SqL K H p xs ∧ n = xs.length) ∨ ∃ xs, SqT K H p xs ∧ n = xs.length
  | _ => False
end
end L2

namespace L2
open PySem PySem.Spec PyProof.Rows

/-! ### an instance, its attributes a map -/
structure ObjM (h : Heap) (x dx C : Addr) (mA : Str → Option Value) : Prop where
  obj : h.get? x = some (PySem.W.instObj C dx)
  ns : h.Ns1 dx mA
  ne : dx ≠ x

theorem lookIn_ns {h : Heap} {dx : Addr} {mA : Str → Option Value} (n : h.Ns1 dx mA) : ∃ od, h.get? dx = some od ∧ ∀ name, PySem.W.lookIn name od = some (mA name) := by
  obtain ⟨o, es, ep, ho, hd, hk, _, hm⟩ := n
  refine ⟨o, ho, fun name => ?_⟩
  have e := hm name
  unfold nsFind findBy at e
  rw [← Array.find?_toList] at e
  unfold PySem.W.lookIn
  rw [hd]
  dsimp only
  split
  · rename_i y q
    rw [q] at e
    exact congrArg some e
  · rename_i q
    rw [q] at e
    have a : es.toList.any (·.refKey) = false := by
      rw [List.any_eq_false]
      intro y hy
      obtain ⟨z, t, hkey⟩ := hk y (Array.mem_toList_iff.mp hy)
      simp [DictEntry.refKey, hkey]
    have a' : ¬ es.toList.any (·.refKey) = true := by rw [a]; exact Bool.false_ne_true
    rw [if_neg a']
    exact congrArg some e

theorem ObjM.look {h : Heap} {x dx C : Addr} {mA : Str → Option Value} (I : ObjM h x dx C mA) : ∃ od, PySem.W.InstAt h x (PySem.W.instObj C dx) C (some od) ∧ ∀ name, PySem.W.lookIn name od = some (mA name) :=
  let ⟨od, ho, hl⟩ := lookIn_ns I.ns
  ⟨od, ⟨I.obj, rfl, rfl, ho⟩, hl⟩

section
variable {prog : Program} {w : World} {A : Around} {E : Value → Shared → Prop} {s : Shared} {K : PySem.W.Frag} {x dx C f : Addr} {mA : Str → Option Value} {name : Str} {v : Value}

theorem get_map {expr : Bool} {Q : Value → Shared → Prop} (X : K.In s.heap) (I : ObjM s.heap x dx C mA) (hg : PySem.W.plainGet K C name = true) (hh : PySem.W.hasDictIn K C = true)
    (ha : PySem.W.findIn K (.ref C) name = some none) (hv : mA name = some v) (hv' : PySem.W.handedIn v = true) (h : Q v { s with toks := s.toks + 1 }) :
    wpAny (model prog w) A (getAttr (.ref x) name expr) Q E s := by
  obtain ⟨od, J, hl⟩ := I.look
  exact PySem.W.get_value X J (PySem.W.plainGet_of hg).1 (PySem.W.findObj_own hh ha rfl (by rw [hl, hv])) hv' h

theorem get_meth {pl : Sem Bool} {Q : Value × List Value → Shared → Prop} (X : K.In s.heap) (I : ObjM s.heap x dx C mA) (hg : PySem.W.plainGet K C name = true)
    (hf : PySem.W.findIn K (.ref C) name = some (some (.ref f))) (ht : PySem.W.isFn K (.ref f) = true) (hv : mA name = none) (h : Q (.ref f, [.ref x]) s) :
    wpAny (model prog w) A (getMethod (.ref x) name pl) Q E s := by
  obtain ⟨od, J, hl⟩ := I.look
  exact PySem.W.method_fn X J (PySem.W.plainGet_of hg).1 (PySem.W.plainGet_of hg).2 hf (beq_iff_eq.mp ht) (by show (PySem.W.lookIn name od).map (·.isSome) = some false; rw [hl, hv]; rfl) h

theorem set_map {ns : List Str} {Q : Unit → Shared → Prop} (X : K.In s.heap) (I : ObjM s.heap x dx C mA)
    (hs : PySem.W.findIn K (.ref C) "__setattr__" = some (some (.builtin "object.__setattr__"))) (hp : PySem.W.plainOver K C = true) (ht : PySem.W.takerIn K C name = some none) (hh : PySem.W.hasDictIn K C = true)
    (hw : PySem.Within mA ns) (hsz : ns.length ≤ sizeLine)
    (h : ∀ h', ObjM h' x dx C (fun y => if y = name then some v else mA y) → Heap.SameBut dx s.heap h' → Q () { s with heap := h', toks := s.toks + 2 }) :
    wpAny (model prog w) A (setAttr (.ref x) name v) Q E s := by
  obtain ⟨od, J, hl⟩ := I.look
  refine PySem.W.set_plain X J hs (PySem.W.osa_open (s := { s with toks := s.toks + 1 }) (r := none) X J hp ht fun b => ?_)
  obtain ⟨cd, hc, hd'⟩ := PySem.W.any_some hh
  have hx : s.heap.get? x = some ⟨.ref C, some dx, .plain, #[]⟩ := I.obj
  refine wpAny_bind (wpAny_pure (wpAny_bind (wpAny_bind (wpAny_loadPart hx (wpAny_bind (PySem.W.Looks.here (s := { s with toks := s.toks + 1 }) (PySem.W.looks_clsIn X hc) ?_))))))
  rw [hd']
  refine wpAny_pure (a := some dx) (wpAny_bind (wpAny_pure (wpAny_bind ?_)))
  refine wpAny_nsSet1 (s := { s with toks := s.toks + 1 }) I.ns fun h' hn2 hs2 => ?_
  obtain ⟨oD, esD, epD, hoD, hdD, hcD⟩ := hn2.count (PySem.Within.cons name v hw)
  refine wpAny_bind (wpAny_lookBehind hoD (by rw [hdD]; exact pastItsLine_dict (Nat.le_trans hcD (by rw [List.length_cons]; omega))) ?_)
  exact wpAny_pure (h _ ⟨(hs2.2 _ (Ne.symm I.ne)).trans I.obj, hn2, I.ne⟩ hs2)

/-- C(..): the dict at the heap's end, the instance behind it; then its __init__ -/
theorem make_map {R : Result → Shared → Prop} {vs : List Value} {kw : List (Str × Value)} (X : K.In s.heap) (hm : PySem.W.makesIn K C = true)
    (hi : PySem.W.findIn K (.ref C) "__init__" = some (some (.ref f))) (hf : PySem.W.typeIn K (.ref f) = some (.type "function"))
    (h : codeAny (model prog w) (A.under (.builtin "type.__call__" ⟨.ref C :: vs, kw⟩)) (.call (.ref f) ⟨.ref (s.heap.objs.size + 1) :: vs, kw⟩) (PySem.W.InitBack (s.heap.objs.size + 1) R)
      { s with heap := (s.heap.push PySem.W.emptyDict).push (PySem.W.instObj C s.heap.objs.size) }) :
    codeAny (model prog w) A (.call (.ref C) ⟨vs, kw⟩) R s := by
  obtain ⟨hh, g, d, t, os⟩ := s
  exact PySem.W.make_core (PySem.W.makes_of X hm) (PySem.W.looks_findIn X hi) (fun self => PySem.W.bind_fn X self hf) (.inl rfl) h
end

/-! ### the attributes as a list of pairs -/
def putF (f : Str) (v : V) : List (Str × V) → List (Str × V)
  | [] => [(f, v)]
  | (g, x) :: r => if g = f then (g, v) :: r else (g, x) :: putF f v r
theorem lookup_putF (f g : Str) (v : V) : ∀ fs : List (Str × V), (putF f v fs).lookup g = if g = f then some v else fs.lookup g
  | [] => by
    show List.lookup g [(f, v)] = _
    by_cases h : g = f
    · have hb : (g == f) = true := beq_iff_eq.mpr h
      simp only [List.lookup, hb, if_pos h]
    · have hb : (g == f) = false := beq_eq_false_iff_ne.mpr h
      simp only [List.lookup, hb, if_neg h]
  | (k, x) :: r => by
    have ih := lookup_putF f g v r
    rw [show putF f v ((k, x) :: r) = (if k = f then (k, v) :: r else (k, x) :: putF f v r) from rfl]
    by_cases hk : k = f
    · rw [if_pos hk]
      by_cases h : g = k
      · have hb : (g == k) = true := beq_iff_eq.mpr h
        simp only [List.lookup, hb, if_pos (h.trans hk)]
      · have hb : (g == k) = false := beq_eq_false_iff_ne.mpr h
        simp only [List.lookup, hb, if_neg (fun e : g = f => h (e.trans hk.symm))]
    · rw [if_neg hk]
      by_cases h : g = k
      · have hb : (g == k) = true := beq_iff_eq.mpr h
        simp only [List.lookup, hb, if_neg (fun e : g = f => hk (h.symm.trans e))]
      · have hb : (g == k) = false := beq_eq_false_iff_ne.mpr h
        simp only [List.lookup, hb]
        exact ih
theorem keys_putF (f : Str) (v : V) : ∀ fs : List (Str × V), f ∈ (putF f v fs).map (·.1) ∧ ∀ g, g ∈ fs.map (·.1) → g ∈ (putF f v fs).map (·.1)
  | [] => ⟨by simp [putF], fun g h => by simp at h⟩
  | (k, x) :: r => by
    obtain ⟨i1, i2⟩ := keys_putF f v r
    rw [show putF f v ((k, x) :: r) = (if k = f then (k, v) :: r else (k, x) :: putF f v r) from rfl]
    by_cases hk : k = f
    · rw [if_pos hk]
      subst hk
      exact ⟨by simp, fun g h => by simpa using h⟩
    · rw [if_neg hk]
      refine ⟨?_, fun g h => ?_⟩
      · rw [List.map_cons]
        exact List.mem_cons_of_mem _ i1
      · rw [List.map_cons] at h ⊢
        rcases List.mem_cons.mp h with e | e
        · exact List.mem_cons.mpr (.inl e)
        · exact List.mem_cons_of_mem _ (i2 g e)
theorem length_putF (f : Str) (v : V) : ∀ fs : List (Str × V), (putF f v fs).length ≤ fs.length + 1
  | [] => by simp [putF]
  | (k, x) :: r => by
    have ih := length_putF f v r
    rw [show putF f v ((k, x) :: r) = (if k = f then (k, v) :: r else (k, x) :: putF f v r) from rfl]
    by_cases hk : k = f
    · rw [if_pos hk, List.length_cons, List.length_cons]; omega
    · rw [if_neg hk, List.length_cons, List.length_cons]; omega

theorem RelO.some_of {v : V} {o : Option Value} (r : RelO (some v) o) : ∃ u, o = some u ∧ RelV v u := by
  cases o with
  | none => exact (show False from r).elim
  | some u => exact ⟨u, rfl, r⟩
theorem RelO.none_of {o : Option Value} (r : RelO none o) : o = none := by
  cases o with
  | none => rfl
  | some u => exact (show False from r).elim
theorem handed_of {v : V} {u : Value} (r : RelV v u) : PySem.W.handedIn u = true := by
  cases v with
  | non => cases (show u = Value.none from r); rfl
  | bl b => cases (show u = Value.bool b from r); rfl
  | int i => obtain ⟨t, e⟩ := (show ∃ t, u = Value.int i t from r); cases e; rfl
  | str x => obtain ⟨t, e⟩ := (show ∃ t, u = Value.str x t from r); cases e; rfl
  | byt b => obtain ⟨t, e⟩ := (show ∃ t, u = Value.bytes b t from r); cases e; rfl
  | flt b => obtain ⟨t, e⟩ := (show ∃ t, u = Value.float b t from r); cases e; rfl
  | ref a => cases (show u = Value.ref a from r); rfl
  | ty n => cases (show u = Value.type n from r); rfl

section
variable {P : Program} {w : World} {H H' : Hp} {h h' : Heap} {a C dx : Addr} {fs fs' : List (Str × V)}
theorem ins_get (hok : HOk P w H h) (e : H a = some (.ins C dx fs)) : ∃ mA, ObjM h a dx C mA ∧ (∀ f, RelO (fs.lookup f) (mA f)) ∧ PySem.Within mA (fs.map (·.1)) ∧ fs.length ≤ 1000 ∧ H dx = some (.own a) := by
  obtain ⟨d, z, ne, ob, mA, n, r, q⟩ := (show ObjOk P w H h a (.ins C dx fs) from hok a _ e)
  exact ⟨mA, ⟨ob, n, ne⟩, r, q, z, d⟩
end

/-! ### what of the text a class must have -/
structure Cls (K : PySem.W.Frag) (C : Addr) : Prop where
  pg : PySem.W.plainGet K C Str.empty = true
  hd : PySem.W.hasDictIn K C = true
  po : PySem.W.plainOver K C = true
  sa : PySem.W.findIn K (.ref C) "__setattr__" = some (some (.builtin "object.__setattr__"))
theorem Cls.get {K : PySem.W.Frag} {C : Addr} (c : Cls K C) (f : Str) : PySem.W.plainGet K C f = true := c.pg
/-- no class of it has the name -/
def NoAttr (K : PySem.W.Frag) (C : Addr) (f : Str) : Prop := PySem.W.findIn K (.ref C) f = some none
theorem NoAttr.taker {K : PySem.W.Frag} {C : Addr} {f : Str} (n : NoAttr K C f) : PySem.W.takerIn K C f = some none := by
  unfold PySem.W.takerIn
  rw [show PySem.W.findIn K (.ref C) f = some none from n]
  rfl
/-- a constant of the class -/
structure Con (K : PySem.W.Frag) (C : Addr) (f : Str) (v : V) (u : Value) : Prop where
  at_ : PySem.W.findIn K (.ref C) f = some (some u)
  rel : RelV v u
  get : PySem.W.specialIn K u "__get__" = some none
  cp : PySem.W.copiedNames.contains f = false
/-- a method: a plain def of the class or of one above it -/
structure Meth (K : PySem.W.Frag) (C : Addr) (m : Str) (f : Addr) : Prop where
  at_ : PySem.W.findIn K (.ref C) m = some (some (.ref f))
  fn : PySem.W.isFn K (.ref f) = true
  kp : PySem.W.keepIn K (.ref f) = true

section
variable {X : Cx} {pins : List (Addr × Obj)} {σ : St} {H : Hp} {s : Shared} {a C dx : Addr} {fs : List (Str × V)} {f : Str} {v : V} {A : Around} {E : Value → Shared → Prop}

theorem getattr_ok {b : Bool} {Q : Value → Shared → Prop} (I : Inv X pins σ H s) (e : H a = some (.ins C dx fs)) (c : Cls X.K C) (n : NoAttr X.K C f) (l : fs.lookup f = some v)
    (h : ∀ u s', Inv X pins σ H s' → RelV v u → Q u s') : wpAny (model X.prog X.w) A (getAttr (.ref a) f b) Q E s := by
  obtain ⟨mA, O, r, _, _, _⟩ := ins_get I.hok e
  obtain ⟨u, hu, ru⟩ := RelO.some_of (v := v) (o := mA f) (by rw [← l]; exact r f)
  exact get_map I.kIn O (c.get f) c.hd n hu (handed_of ru) (h u _ (I.tok _) ru)

theorem getmeth_ok {m : Str} {g : Addr} {pl : Sem Bool} {Q : Value × List Value → Shared → Prop} (I : Inv X pins σ H s) (e : H a = some (.ins C dx fs)) (c : Cls X.K C) (k : Meth X.K C m g) (l : fs.lookup m = none)
    (h : Q (.ref g, [.ref a]) s) : wpAny (model X.prog X.w) A (getMethod (.ref a) m pl) Q E s := by
  obtain ⟨mA, O, r, _, _, _⟩ := ins_get I.hok e
  have hn : mA m = none := RelO.none_of (by rw [← l]; exact r m)
  exact get_meth I.kIn O (c.get m) k.at_ k.fn hn h

theorem setattr_ok {y : V} {u : Value} {Q : Unit → Shared → Prop} (I : Inv X pins σ H s) (e : H a = some (.ins C dx fs)) (c : Cls X.K C) (n : NoAttr X.K C f) (hl : fs.length < 1000) (ry : RelV y u)
    (h : ∀ s', Inv X pins σ (upd H a (.ins C dx (putF f y fs))) s' → Q () s') : wpAny (model X.prog X.w) A (setAttr (.ref a) f u) Q E s := by
  obtain ⟨mA, O, r, wi, _, ho⟩ := ins_get I.hok e
  have hz : (fs.map (·.1)).length ≤ sizeLine := by rw [List.length_map, sizeLine_eq]; omega
  refine set_map I.kIn O c.sa c.po n.taker c.hd wi hz fun h' O' sb => h _ ?_
  have hd : ∃ o, h'.get? dx = some o := let ⟨o, _, _, e', _⟩ := O'.ns; ⟨o, e'⟩
  refine I.write (x := a) (e := dx) (by rw [e]; exact True.intro) (.inr ho) (fun b q hb z => (sb.2 b hb).trans z) hd ?_
  refine ⟨by rw [upd_ne O.ne]; exact ho, ?_, O.ne, O'.obj, _, O'.ns, fun g => ?_, fun g hg => ?_⟩
  · have := length_putF f y fs; omega
  · show RelO ((putF f y fs).lookup g) (if g = f then some u else mA g)
    rw [lookup_putF]
    by_cases q : g = f
    · rw [if_pos q, if_pos q]; exact ry
    · rw [if_neg q, if_neg q]; exact r g
  · by_cases q : g = f
    · rw [q]; exact (keys_putF f y fs).1
    · refine (keys_putF f y fs).2 g (wi g fun z => hg ?_)
      show (if g = f then some u else mA g) = none
      rw [if_neg q]; exact z

/-- a new instance, tracked, without attributes -/
theorem Inv.made (I : Inv X pins σ H s) : Inv X pins σ (upd (upd H s.heap.objs.size (.own (s.heap.objs.size + 1))) (s.heap.objs.size + 1) (.ins C s.heap.objs.size []))
    { s with heap := (s.heap.push PySem.W.emptyDict).push (PySem.W.instObj C s.heap.objs.size) } := by
  have e1 : (s.heap.push PySem.W.emptyDict).get? s.heap.objs.size = some PySem.W.emptyDict := Heap.get?_push_size s.heap rfl
  have e2 : ((s.heap.push PySem.W.emptyDict).push (PySem.W.instObj C s.heap.objs.size)).get? (s.heap.objs.size + 1) = some (PySem.W.instObj C s.heap.objs.size) := by
    have := Heap.get?_push_size (s.heap.push PySem.W.emptyDict) (o := PySem.W.instObj C s.heap.objs.size) rfl
    rwa [Heap.size_push] at this
  have e3 : (s.heap.push PySem.W.emptyDict).Ns s.heap.objs.size (fun _ => none) := ⟨PySem.W.emptyDict, #[], _, e1, rfl, (fun e he => absurd he (by simp)), fun _ => rfl⟩
  have I1 := I.laid (a := s.heap.objs.size) (o := .own (s.heap.objs.size + 1)) (h' := s.heap.push PySem.W.emptyDict) (t' := s.toks) (fun b u q => Heap.get?_push_of_some _ q) (Nat.le_refl _) ⟨_, e1⟩
  refine I1.laid (a := s.heap.objs.size + 1) (o := .ins C s.heap.objs.size []) (t' := s.toks) (fun b u q => Heap.get?_push_of_some _ q) (Nat.le_of_eq (Heap.size_push _ _)) ?_
  have ne : s.heap.objs.size ≠ s.heap.objs.size + 1 := Nat.ne_of_lt (Nat.lt_succ_self _)
  refine ⟨by rw [upd_ne ne, upd_same], Nat.zero_le _, ne, e2, fun _ => none, (Heap.Ns1.of_empty e3).at fun o q => Heap.get?_push_of_some _ q, fun _ => True.intro, fun y hy => absurd rfl hy⟩

/-- e.f where nothing but the object is asked: through attributeBase (super) and the last hold -/
theorem attr_of {prog : Program} {w : World} {env : Env} {e : Expr} {f : Str} {pos : Pos} {s : Shared} {Q : Value → Shared → Prop} (hb : attributeBase e f env (eval e env) = eval e env)
    (h : wpAny (model prog w) A (eval e env) (fun o s₁ => wpAny (model prog w) A (getAttr o f true) Q E s₁) E s) : wpAny (model prog w) A (eval (.Attribute e f pos) env) Q E s :=
  Attribute_any_ h (by rw [arm_eval_Attribute, hb])
end

/-! ### readings and rules -/
/-- e.f, an attribute of the instance -/
def tFld (K : PySem.W.Frag) (ta : TE) (f : Str) : TE := fun σ H Q => ta σ H fun x H1 => ∃ a C dx fs v, x = .ref a ∧ H1 a = some (.ins C dx fs) ∧ Cls K C ∧ NoAttr K C f ∧ fs.lookup f = some v ∧ Q v H1
/-- e.f, a constant of the class -/
def tCon (K : PySem.W.Frag) (ta : TE) (f : Str) : TE := fun σ H Q => ta σ H fun x H1 => ∃ a C dx fs v u, x = .ref a ∧ H1 a = some (.ins C dx fs) ∧ Cls K C ∧ Con K C f v u ∧ fs.lookup f = none ∧ Q v H1
/-- e.f = value -/
def sFld (K : PySem.W.Frag) (ta tv : TE) (f : Str) : TS := fun D σ H => tv σ H fun y H1 => ta σ H1 fun x H2 => ∃ a C dx fs, x = .ref a ∧ H2 a = some (.ins C dx fs) ∧ Cls K C ∧ NoAttr K C f ∧ fs.length < 1000 ∧
  D.nx σ (upd H2 a (.ins C dx (putF f y fs)))
/-- an augmented operator on two values -/
def InOp (X : Cx) (op : Operator) (rd : V → V → Hp → VK → Prop) : Prop :=
  ∀ (pins : List (Addr × Obj)) (s : Shared) (σ : St) (H : Hp) (x y : V) (u v : Value) (Q : VK), Inv X pins σ H s → RelV x u → RelV y v → rd x y H Q → wpAny (model X.prog X.w) X.A (inplaceOp op u v) (EP X pins σ Q) X.xe s
/-- e.f op= value -/
def sFldAug (K : PySem.W.Frag) (ta tv : TE) (rd : V → V → Hp → VK → Prop) (f : Str) : TS := fun D σ H => ta σ H fun x H1 => ∃ a C dx fs v, x = .ref a ∧ H1 a = some (.ins C dx fs) ∧ Cls K C ∧ NoAttr K C f ∧ fs.lookup f = some v ∧
  tv σ H1 fun y H2 => rd v y H2 fun z H3 => ∃ dx' fs', H3 a = some (.ins C dx' fs') ∧ fs'.length < 1000 ∧ D.nx σ (upd H3 a (.ins C dx' (putF f z fs')))

section
variable {X : Cx} {o e value : Expr} {f : Str} {pos pos' tpos : Pos} {ta tv : TE}
theorem pe_fld (he : PE X e ta) (hb : attributeBase e f X.env (eval e X.env) = eval e X.env) : PE X (.Attribute e f pos) (tFld X.K ta f) := by
  intro pins s σ H Q I h
  refine attr_of hb (thn (he pins s σ H _ I h) fun u s1 ⟨x, H1, I1, rx, a, C, dx, fs, v, ex, ea, c, n, l, q⟩ => ?_)
  subst ex
  obtain rfl : u = Value.ref a := rx
  exact getattr_ok I1 ea c n l fun u' s2 I2 ru => ⟨v, H1, I2, ru, q⟩
theorem ps_fld (ha : PE X o ta) (hv : PE X value tv) (hs : swapsWith value (some (.Attribute o f pos')) pos.line X.env = pure false) : PS X (.Assign [.Attribute o f pos'] value pos) (sFld X.K ta tv f) := by
  intro pins s σ H D I h
  refine plainObj_wpAny_Assign_Attribute (thn (hv pins s σ H _ I h) fun u s1 ⟨y, H1, I1, ry, q⟩ => thn (ha pins s1 σ H1 _ I1 q) fun ov s2 ⟨x, H2, I2, rx, a, C, dx, fs, ex, ea, c, n, l, q2⟩ => ?_) hs
  subst ex
  obtain rfl : ov = Value.ref a := rx
  exact setattr_ok I2 ea c n l ry fun s3 I3 => ⟨σ, _, I3, q2⟩
def rAdd : V → V → Hp → VK → Prop := fun x y H Q => ∃ i j, x = .int i ∧ y = .int j ∧ Q (.int (i + j)) H
def rSub : V → V → Hp → VK → Prop := fun x y H Q => ∃ i j, x = .int i ∧ y = .int j ∧ Q (.int (i - j)) H
end

/-! ### isinstance -/
section
variable {X : Cx} {pins : List (Addr × Obj)} {σ : St} {H : Hp} {s : Shared} {A : Around} {E : Value → Shared → Prop} {Q : Value → Shared → Prop} {c : Value} {b : Bool}
/-- the type of a value, as the fragment's deciders take it; for an instance its class -/
inductive TyOf (K : PySem.W.Frag) (H : Hp) : V → Value → Prop where
  | non : TyOf K H .non (.type "NoneType")
  | bl (x : Bool) : TyOf K H (.bl x) (.type "bool")
  | int (i : Int) : TyOf K H (.int i) (.type "int")
  | str (x : Str) : TyOf K H (.str x) (.type "str")
  | flt (x : UInt64) : TyOf K H (.flt x) (.type "float")
  | lst {a : Addr} {xs : List V} (e : H a = some (.lst xs)) : TyOf K H (.ref a) (.type "list")
  | frz {a : Addr} {o : Obj} {xs : List V} (e : H a = some (.frz o (.lst xs))) : TyOf K H (.ref a) (.type "list")
  | tup {a : Addr} {xs : List V} (e : H a = some (.tup xs)) : TyOf K H (.ref a) (.type "tuple")
  | dK {a : Addr} {kvs : List (Key × V)} (e : H a = some (.dK kvs)) : TyOf K H (.ref a) (.type "dict")
  | dT {a : Addr} {kvs : List (List Key × V)} (e : H a = some (.dT kvs)) : TyOf K H (.ref a) (.type "dict")
  | ins {a C dx : Addr} {fs : List (Str × V)} (e : H a = some (.ins C dx fs)) (cl : Cls K C) (ha : PySem.W.findIn K (.ref C) "__class__" = some (some (.builtin "object.__class__")))
      (hn : PySem.W.specialIn K (.builtin "object.__class__") "__get__" = some (some (.builtin "getset_descriptor.__get__"))) (htk : PySem.W.takesIn K (.builtin "object.__class__") = some true)
      (hm : PySem.W.mroIn K C (.type "object") = some true) : TyOf K H (.ref a) (.ref C)
end
end L2

namespace L2
open PySem PySem.Spec PyProof.Rows

/-! ### room -/
structure Room (k : Nat) (A : Around) : Prop where
  hd : A.handled = none
  dp : A.depth + 3 * k + 5 < recursionLimit
  un : A.units + 16 * k + 200 < cLine
theorem Room.mono {j k : Nat} {A : Around} (r : Room k A) (h : j ≤ k) : Room j A := ⟨r.hd, by have := r.dp; omega, by have := r.un; omega⟩
theorem Room.deeper {k : Nat} {A : Around} (r : Room (k + 1) A) (env : Env) : Room k (A.deeper env) :=
  ⟨r.hd, by have := r.dp; show A.depth + 1 + 3 * k + 5 < _; omega, by have := r.un; show A.units + 3 + 16 * k + 200 < _; omega⟩
theorem Room.in1 {k : Nat} {A : Around} (r : Room (k + 1) A) : Room k A.in1 :=
  ⟨r.hd, by have := r.dp; show A.depth + 3 * k + 5 < _; omega, by have := r.un; show A.units + 1 + 16 * k + 200 < _; omega⟩
theorem make_depth {A : Around} {C : Addr} {us : List Value} {kw : List (Str × Value)} : (A.under (.builtin "type.__call__" ⟨.ref C :: us, kw⟩)).depth = A.depth + 1 := by
  first | rfl | simp [Around.under, Code.weight, Code.isCreation, Code.isGuard, Code.isCaller, Code.frames, Code.isFrame, guardIds]
theorem make_units {A : Around} {C : Addr} {us : List Value} {kw : List (Str × Value)} : (A.under (.builtin "type.__call__" ⟨.ref C :: us, kw⟩)).units = A.units + 1 := by
  first | rfl | simp [Around.under, Code.cUnits, Code.frames, Code.isFrame]
theorem Room.make {k : Nat} {A : Around} (r : Room (k + 1) A) (C : Addr) (us : List Value) (kw : List (Str × Value)) : Room k (A.under (.builtin "type.__call__" ⟨.ref C :: us, kw⟩)) :=
  ⟨r.hd, by have := r.dp; rw [make_depth]; omega, by have := r.un; rw [make_units]; omega⟩
theorem Room.depth {k : Nat} {A : Around} (r : Room k A) : A.depth < recursionLimit := by have := r.dp; omega
theorem Room.units {k : Nat} {A : Around} (r : Room k A) : A.units + 64 < cLine := by have := r.un; omega
/-! ### argument lists and displays -/
def tNil : TA := fun _ H Q => Q [] H
def tCons (ta : TE) (tr : TA) : TA := fun σ H Q => ta σ H fun x H1 => tr σ H1 fun xs H2 => Q (x :: xs) H2
section
variable {X : Cx} {e : Expr} {es : List Expr} {te : TE} {t : TA} {pos : Pos}
theorem pa_nil : PA X [] tNil := fun _ _ _ _ H Q I h => Calls.spliced_nil ⟨[], H, I, .nil, h⟩
theorem pa_cons (ha : PE X e te) (hr : PA X es t) (hs : starEach (e :: es) X.env = (false, eval e X.env) :: starEach es X.env := by rfl) : PA X (e :: es) (tCons te t) := by
  intro pos pins s σ H Q I h
  rw [hs]
  show wpAny _ _ (spliced ((false, eval e X.env) :: backTo pos (starEach es X.env))) _ _ s
  refine Calls.spliced_cons (thn (ha pins s σ H _ I h) fun u s1 ⟨x, H1, I1, r1, q1⟩ => ?_)
  exact thn (hr pos pins s1 σ H1 _ I1 q1) fun us s2 ⟨xs, H2, I2, r2, q2⟩ => ⟨x :: xs, H2, I2, .cons r1 r2, q2⟩

/-- a tuple, a list of written items -/
def tTup (t : TA) : TE := fun σ H Q => t σ H fun xs H1 => xs.length ≤ sizeLine ∧ ∀ p, H1 p = none → Q (.ref p) (upd H1 p (.tup xs))
def tLst (t : TA) : TE := fun σ H Q => t σ H fun xs H1 => xs.length ≤ sizeLine ∧ ∀ p, H1 p = none → Q (.ref p) (upd H1 p (.lst xs))
theorem pe_tup {x1} (h : PA X es t) : PE X (.Tuple es x1 pos) (tTup t) := by
  intro pins s σ H Q I hq
  refine wpAny_Tuple_spliced (thn (h pos pins s σ H _ I hq) fun us s1 ⟨xs, H1, I1, r, z, q⟩ => ⟨by rw [← r.length]; exact z, ?_⟩)
  have hf : H1 s1.heap.objs.size = none := I1.hok.fresh (Nat.le_refl _)
  refine ⟨.ref s1.heap.objs.size, upd H1 s1.heap.objs.size (.tup xs), I1.laid (t' := s1.toks) (fun b u e => Heap.get?_push_of_some _ e) (Nat.le_refl _) ?_, rfl, q _ hf⟩
  exact ⟨z, us, r, ⟨_, Heap.get?_push_size _ rfl, rfl, _, rfl⟩⟩
theorem pe_lst (h : PA X es t) : PE X (.List es pos) (tLst t) := by
  intro pins s σ H Q I hq
  refine wpAny_List_spliced (thn (h pos pins s σ H _ I hq) fun us s1 ⟨xs, H1, I1, r, z, q⟩ => ⟨by rw [← r.length]; exact z, ?_⟩)
  have hf : H1 s1.heap.objs.size = none := I1.hok.fresh (Nat.le_refl _)
  refine ⟨.ref s1.heap.objs.size, upd H1 s1.heap.objs.size (.lst xs), I1.laid (t' := s1.toks) (fun b u e => Heap.get?_push_of_some _ e) (Nat.le_refl _) ?_, rfl, q _ hf⟩
  exact ⟨z, us, 0, r, Heap.get?_push_size _ rfl⟩
end

/-! ### what a def promises -/
/-- a def's promise: the bound arguments in the parameters' order, the heap, the wanted end, the wanted exception -/
abbrev Sp := List V → Hp → VK → XK → Prop
/-- how an exception lies behind a call (file 08 gives it): the callers' frames, abstract heap and state ahead of the call, the wish, the exception, the state -/
abbrev CXT := List Env → Hp → Shared → XK → Value → Shared → Prop

/-- the state at a call -/
structure Env0 (P : Program) (w : World) (K : PySem.W.Frag) (mg : Str → Option Value) (base : Heap) (A : Around) (outer : List Env) (s : Shared) (H : Hp) : Prop where
  frames : A.frames = some outer
  mod : Mod K mg base
  bs : ∀ b o, base.get? b = some o → s.heap.get? b = some o ∧ H b = none
  bsz : base.objs.size ≤ s.heap.objs.size
  funs : s.heap.FunFrames base outer
  frf : ∀ b ∈ frs outer, H b = none
  hok : HOk P w H s.heap
  bare : AllBare s.gens
/-- a call's end -/
def CE (outer : List Env) (P : Program) (w : World) (H : Hp) (s : Shared) (Q : VK) (u : Value) (s' : Shared) : Prop :=
  ∃ v H', s'.os = s.os ∧ AllBare s'.gens ∧ Un (frs outer) [] H H' s.heap s'.heap ∧ HOk P w H' s'.heap ∧ RelV v u ∧ Q v H'
def CR (CX : CXT) (outer : List Env) (P : Program) (w : World) (H : Hp) (s : Shared) (Q : VK) (E : XK) (r : Result) (s' : Shared) : Prop :=
  match r with
  | .ok (.ret u) => CE outer P w H s Q u s'
  | .ok _ => False
  | .error e => CX outer H s E e s'
structure FnOk (P : Program) (w : World) (K : PySem.W.Frag) (mg : Str → Option Value) (base : Heap) (CX : CXT) (k : Nat) (f : Addr) (fd : FuncData) (ps : List Str) (sp : Sp) : Prop where
  len : ∀ vs H Q E, sp vs H Q E → vs.length = ps.length
  run : ∀ (A : Around) (outer : List Env) (s : Shared) (H : Hp) (args : Args) (us : List Value) (vs : List V) (Q : VK) (E : XK), Room k A → Env0 P w K mg base A outer s H → BindsTo s fd args (ps.zip us) → Vals vs us → sp vs H Q E →
    codeAny (model P w) A (.call (.ref f) args) (CR CX outer P w H s Q E) s
theorem FnOk.mono {P : Program} {w : World} {K : PySem.W.Frag} {mg : Str → Option Value} {base : Heap} {CX : CXT} {j k : Nat} {f : Addr} {fd : FuncData} {ps : List Str} {sp : Sp} (F : FnOk P w K mg base CX j f fd ps sp) (h : j ≤ k) :
    FnOk P w K mg base CX k f fd ps sp := ⟨F.len, fun A outer s H args us vs Q E hr => F.run A outer s H args us vs Q E (hr.mono h)⟩
/-- a weaker promise -/
theorem FnOk.imp {P : Program} {w : World} {K : PySem.W.Frag} {mg : Str → Option Value} {base : Heap} {CX : CXT} {k : Nat} {f : Addr} {fd : FuncData} {ps : List Str} {sp sp' : Sp} (F : FnOk P w K mg base CX k f fd ps sp)
    (h : ∀ vs H Q E, sp' vs H Q E → sp vs H Q E) : FnOk P w K mg base CX k f fd ps sp' :=
  ⟨fun vs H Q E q => F.len vs H Q E (h _ _ _ _ q), fun A outer s H args us vs Q E hr he hb hv hs => F.run A outer s H args us vs Q E hr he hb hv (h _ _ _ _ hs)⟩

theorem Env0.make {P : Program} {w : World} {K : PySem.W.Frag} {mg : Str → Option Value} {base : Heap} {A : Around} {outer : List Env} {s : Shared} {H : Hp} (e : Env0 P w K mg base A outer s H) (C : Addr) (us : List Value) (kw : List (Str × Value)) :
    Env0 P w K mg base (A.under (.builtin "type.__call__" ⟨.ref C :: us, kw⟩)) outer s H := ⟨by first | exact e.frames | (simpa [Around.under, Code.envs, Code.isFrame, pushEnvs] using e.frames), e.mod, e.bs, e.bsz, e.funs, e.frf, e.hok, e.bare⟩
theorem Env0.in1 {P : Program} {w : World} {K : PySem.W.Frag} {mg : Str → Option Value} {base : Heap} {A : Around} {outer : List Env} {s : Shared} {H : Hp} (e : Env0 P w K mg base A outer s H) :
    Env0 P w K mg base A.in1 outer s H := ⟨e.frames, e.mod, e.bs, e.bsz, e.funs, e.frf, e.hok, e.bare⟩

section
variable {X : Cx} {pins : List (Addr × Obj)} {σ : St} {H : Hp} {s s' : Shared}
/-- from a body: what a callee wants -/
theorem Inv.env0 (I : Inv X pins σ H s) : Env0 X.prog X.w X.K X.mg X.base X.A X.stack s H :=
  ⟨I.ok.frames, I.ok.mod, I.bs, Nat.le_trans I.ok.bsz I.sz, I.stack, I.stkFree, I.hok, I.bare⟩
/-- behind a call -/
theorem Inv.after {Q : VK} {u : Value} (I : Inv X pins σ H s) (h : CE X.stack X.prog X.w H s Q u s') : EP X pins σ Q u s' := by
  obtain ⟨v, H', os, bare, un, hok, r, q⟩ := h
  obtain ⟨hh, g, d, t, os'⟩ := s'
  obtain rfl : os' = s.os := os
  exact ⟨v, H', I.call (h' := hh) (g' := g) (d' := d) (t' := t) (ch := []) un hok bare (fun b z => absurd z (by simp)), r, q⟩
end

/-! ### calls -/
/-- f(..): the written arguments, then the defaults dvs; E: what is wanted of an exception -/
def tCall (sp : Sp) (dvs : List V) (E : XK) (t : TA) : TE := fun σ H Q => t σ H fun vs H1 => sp (vs ++ dvs) H1 Q E
/-- o.m(..) of an instance of the class at C -/
def tMeth (C : Addr) (m : Str) (sp : Sp) (dvs : List V) (E : XK) (ta : TE) (t : TA) : TE := fun σ H Q => ta σ H fun x H1 => ∃ a dx fs, x = .ref a ∧ H1 a = some (.ins C dx fs) ∧ fs.lookup m = none ∧
  t σ H1 fun vs H2 => sp (x :: (vs ++ dvs)) H2 Q E
/-- C(..): a new instance and its dict, then __init__ -/
def tMake (C : Addr) (sp : Sp) (dvs : List V) (E : XK) (t : TA) : TE := fun σ H Q => t σ H fun vs H1 => ∀ x dx, H1 x = none → H1 dx = none → dx ≠ x →
  sp (.ref x :: (vs ++ dvs)) (upd (upd H1 dx (.own x)) x (.ins C dx [])) (fun v H2 => v = .non ∧ Q (.ref x) H2) E

/-- how the parameters are bound: us the positional arguments, kw the keywords' values by name, ds the defaults that fill up -/
def Binds (K : PySem.W.Frag) (fd : FuncData) (ps : List Str) (ds : List Value) : Prop :=
  ∀ (s : Shared) (us : List Value), K.In s.heap → (us ++ ds).length = ps.length → BindsTo s fd ⟨us, []⟩ (ps.zip (us ++ ds))
/-- every parameter is given -/
theorem Binds.all {K : PySem.W.Frag} {fd : FuncData} {ps : List Str} (h : ∀ us : List Value, us.length = ps.length → bindArgs fd ⟨us, []⟩ = pure (ps.zip us)) : Binds K fd ps [] := fun s us _ hl => by
  rw [List.append_nil] at hl ⊢
  exact .of_eq (h us hl)

/-- an exception of a callee reaches what this body wants of exceptions -/
def Passes (CX : CXT) (X : Cx) (E : XK) : Prop := ∀ (pins : List (Addr × Obj)) (σ : St) (H : Hp) (s : Shared) (e : Value) (s' : Shared), Inv X pins σ H s → CX X.stack H s E e s' → X.xe e s'

section
variable {X : Cx} {CX : CXT} {k : Nat} {f C : Addr} {fd : FuncData} {ps : List Str} {sp : Sp} {dvs : List V} {ds : List Value} {E : XK} {x m : Str} {p pos apos : Pos} {e o : Expr} {es : List Expr} {ta : TE} {t : TA}

/-- the callee runs -/
theorem run_fn {pins : List (Addr × Obj)} {σ : St} {H : Hp} {s : Shared} {Q : VK} {us : List Value} {vs : List V} (F : FnOk X.prog X.w X.K X.mg X.base CX k f fd ps sp) (hr : Room k X.A) (hb : Binds X.K fd ps ds) (hd : Vals dvs ds) (hx : Passes CX X E)
    (I : Inv X pins σ H s) (r : Vals vs us) (h : sp (vs ++ dvs) H Q E) : wpAny (model X.prog X.w) X.A (call (.ref f) us) (EP X pins σ Q) X.xe s := by
  have r2 : Vals (vs ++ dvs) (us ++ ds) := r.append hd
  have hl : (us ++ ds).length = ps.length := by rw [← r2.length]; exact F.len _ _ _ _ h
  refine wpAny_call (codeAny_mono (F.run X.A X.stack s H ⟨us, []⟩ (us ++ ds) (vs ++ dvs) Q E hr I.env0 (hb s us I.kIn hl) r2 h) fun r s' hq => ?_)
  cases r with
  | error e => exact hx pins σ H s e s' I hq
  | ok fl =>
    cases fl with
    | ret u => exact I.after hq
    | next => exact False.elim hq
    | brk => exact False.elim hq
    | cont => exact False.elim hq

theorem pe_call (F : FnOk X.prog X.w X.K X.mg X.base CX k f fd ps sp) (hr : Room k X.A) (hg : Gl X x) (hm : X.mg x = some (.ref f)) (hk : PySem.W.keepIn X.K (.ref f) = true) (hb : Binds X.K fd ps ds) (hd : Vals dvs ds) (hx : Passes CX X E)
    (ha : PA X (e :: es) t) (hdb : (x == ("__debug__" : Str)) = false := by decide) (he : starEach (e :: es) X.env = (false, eval e X.env) :: starEach es X.env := by rfl) (hpl : (backTo pos (starEach es X.env)).any (·.1) = false := by rfl) :
    PE X (.Call (.Name x p) (e :: es) [] pos) (tCall sp dvs E t) := by
  intro pins s σ H Q I h
  refine wpAny_Call_Name_kw (ld_glob I hg hm ?_ hdb)
  refine PySem.W.callWith_K (h₀ := X.base) I.ok.mod.kin hk (thn (ha pos pins s σ H _ I h) fun us s1 ⟨vs, H1, I1, r, q⟩ => ⟨I1.kIn, ?_⟩) he hpl
  exact run_fn F hr hb hd hx I1 r q
/-- o.m(e, ..) -/
theorem pe_meth {pl : Sem Bool} (he : PE X o ta) (c : Cls X.K C) (hm : Meth X.K C m f) (F : FnOk X.prog X.w X.K X.mg X.base CX k f fd ps sp) (hr : Room k X.A) (hb : Binds X.K fd ps ds) (hd : Vals dvs ds) (hx : Passes CX X E) (ha : PA X (e :: es) t)
    (hst : starEach (e :: es) X.env = (false, eval e X.env) :: starEach es X.env := by rfl) (hpl : (backTo pos (starEach es X.env)).any (·.1) = false := by rfl)
    (ht : eval (.Call (.Attribute o m apos) (e :: es) [] pos) X.env = (do
      let ov ← eval o X.env
      standAt apos.atName
      let (f, first) ← holding [ov] (getMethod ov m pl)
      callWith pos f first (backTo pos (starEach (e :: es) X.env)) (backToKw pos (keywordEach [] X.env))) := by rfl) :
    PE X (.Call (.Attribute o m apos) (e :: es) [] pos) (tMeth C m sp dvs E ta t) := by
  intro pins s σ H Q I h
  refine PySem.W.methodCall_KW (pl := pl) (thn (he pins s σ H _ I h) fun u s1 ⟨x, H1, I1, rx, a, dx, fs, ex, ea, l, q⟩ => ?_) ht
  subst ex
  obtain rfl : u = Value.ref a := rx
  refine getmeth_ok I1 ea c hm l ?_
  refine PySem.W.callWith_K (first := [.ref a]) (h₀ := X.base) I.ok.mod.kin hm.kp (thn (ha pos pins s1 σ H1 _ I1 q) fun us s2 ⟨vs, H2, I2, r, q2⟩ => ⟨I2.kIn, ?_⟩) hst hpl
  exact run_fn (us := .ref a :: us) (vs := .ref a :: vs) F hr hb hd hx I2 (.cons rfl r) q2
/-- what a class must have to be made -/
structure Mk (K : PySem.W.Frag) (C f : Addr) : Prop where
  makes : PySem.W.makesIn K C = true
  init : PySem.W.findIn K (.ref C) "__init__" = some (some (.ref f))
  fn : PySem.W.isFn K (.ref f) = true
  kp : PySem.W.keepIn K (.ref C) = true

theorem run_make {pins : List (Addr × Obj)} {σ : St} {H : Hp} {s : Shared} {Q : VK} {us : List Value} {vs : List V} (M : Mk X.K C f) (F : FnOk X.prog X.w X.K X.mg X.base CX k f fd ps sp) (hr : Room (k + 1) X.A) (hb : Binds X.K fd ps ds) (hd : Vals dvs ds)
    (hx : Passes CX X E) (I : Inv X pins σ H s) (r : Vals vs us)
    (h : ∀ x dx, H x = none → H dx = none → dx ≠ x → sp (.ref x :: (vs ++ dvs)) (upd (upd H dx (.own x)) x (.ins C dx [])) (fun v H2 => v = .non ∧ Q (.ref x) H2) E) :
    wpAny (model X.prog X.w) X.A (call (.ref C) us) (EP X pins σ Q) X.xe s := by
  have hq := h (s.heap.objs.size + 1) s.heap.objs.size (I.hok.fresh (Nat.le_succ _)) (I.hok.fresh (Nat.le_refl _)) (Nat.ne_of_lt (Nat.lt_succ_self _))
  have I2 := Inv.made (C := C) I
  have r2 : Vals (V.ref (s.heap.objs.size + 1) :: (vs ++ dvs)) (Value.ref (s.heap.objs.size + 1) :: (us ++ ds)) := .cons rfl (r.append hd)
  have hl : (Value.ref (s.heap.objs.size + 1) :: us ++ ds).length = ps.length := by
    have e := r2.length
    rw [F.len _ _ _ _ hq] at e
    exact e.symm
  refine wpAny_call (make_map (f := f) I.kIn M.makes M.init (beq_iff_eq.mp M.fn) (codeAny_mono (F.run _ X.stack _ _ ⟨Value.ref (s.heap.objs.size + 1) :: us, []⟩ (Value.ref (s.heap.objs.size + 1) :: (us ++ ds)) _ _ E (hr.make C us [])
    (I2.env0.make C us []) (hb _ (Value.ref (s.heap.objs.size + 1) :: us) I2.kIn hl) r2 hq) fun r s' hq' => ?_))
  cases r with
  | error e => exact hx pins σ _ _ e s' I2 hq'
  | ok fl =>
    cases fl with
    | ret u =>
      obtain ⟨v, H', I3, rv, ev, q3⟩ := I2.after hq'
      subst ev
      exact ⟨rv, ⟨V.ref (s.heap.objs.size + 1), H', I3, rfl, q3⟩⟩
    | next => exact False.elim hq'
    | brk => exact False.elim hq'
    | cont => exact False.elim hq'
theorem pe_make (M : Mk X.K C f) (F : FnOk X.prog X.w X.K X.mg X.base CX k f fd ps sp) (hr : Room (k + 1) X.A) (hg : Gl X x) (hm : X.mg x = some (.ref C)) (hb : Binds X.K fd ps ds) (hd : Vals dvs ds) (hx : Passes CX X E)
    (ha : PA X (e :: es) t) (hdb : (x == ("__debug__" : Str)) = false := by decide) (he : starEach (e :: es) X.env = (false, eval e X.env) :: starEach es X.env := by rfl) (hpl : (backTo pos (starEach es X.env)).any (·.1) = false := by rfl) :
    PE X (.Call (.Name x p) (e :: es) [] pos) (tMake C sp dvs E t) := by
  intro pins s σ H Q I h
  refine wpAny_Call_Name_kw (ld_glob I hg hm ?_ hdb)
  refine PySem.W.callWith_K (h₀ := X.base) I.ok.mod.kin M.kp (thn (ha pos pins s σ H _ I h) fun us s1 ⟨vs, H1, I1, r, q⟩ => ⟨I1.kIn, ?_⟩) he hpl
  exact run_make M F hr hb hd hx I1 r q
end

/-! ### keywords -/
/-- the values of the keywords, from the left -/
def PK (X : Cx) (kws : List Keyword) (t : TA) : Prop :=
  ∀ (pos : Pos) (pins : List (Addr × Obj)) (s : Shared) (σ : St) (H : Hp) (Q : List V → Hp → Prop), Inv X pins σ H s → t σ H Q → wpAny (model X.prog X.w) X.A (evalAll ((backToKw pos (keywordEach kws X.env)).map (·.2))) (AP X pins σ Q) X.xe s
section
variable {X : Cx} {CX : CXT} {k : Nat} {f C : Addr} {fd : FuncData} {ps ks : List Str} {sp : Sp} {E : XK} {x m : Str} {p pos apos kpos : Pos} {e o : Expr} {es : List Expr} {kws : List Keyword} {te ta : TE} {t tk : TA} {nm : Option Str}
/-- how a call with keywords binds: g puts the positional values us and the keywords' values ws (names ks) in the parameters' order, defaults among them -/
structure KBinds (K : PySem.W.Frag) (fd : FuncData) (ps ks : List Str) (g : List Value → List Value → List Value) (gV : List V → List V → List V) : Prop where
  to : ∀ (s : Shared) (us ws : List Value), K.In s.heap → (g us ws).length = ps.length → BindsTo s fd ⟨us, ks.zip ws⟩ (ps.zip (g us ws))
  rel : ∀ {vs : List V} {us : List Value} {zs : List V} {ws : List Value}, Vals vs us → Vals zs ws → Vals (gV vs zs) (g us ws)
def tCallK (sp : Sp) (gV : List V → List V → List V) (E : XK) (t tk : TA) : TE := fun σ H Q => t σ H fun vs H1 => tk σ H1 fun zs H2 => sp (gV vs zs) H2 Q E
variable {g : List Value → List Value → List Value} {gV : List V → List V → List V}
end

/-! ### a def's body keeps its promise -/
/-- names: the parameters first -/
structure FnScope (N P : List Str) (sc : Scope) : Prop where
  kind : sc.kind = .function
  co : sc.isCoroutine = false
  gen : sc.isGenerator = false
  nd : N.Nodup
  pre : N.take P.length = P
  par : ∀ x ∈ P, sc.names.lookup x = some .local ∨ sc.names.lookup x = some .cell
  nofree : ∀ y ∈ sc.names, y.2 ≠ .free

theorem bindL_out {kindOf : Str → Option NameKind} {x : Str} : ∀ {binds : List (Str × Value)} {m : Str → Option Value}, (∀ v, (x, v) ∉ binds) → bindL kindOf binds m x = m x
  | [], _, _ => rfl
  | (n, v) :: r, m, h => by
    unfold bindL
    rw [bindL_out fun w hw => h w (List.mem_cons_of_mem _ hw)]
    split
    · have : x ≠ n := by rintro rfl; exact h v List.mem_cons_self
      simp [this]
    · rfl
theorem bindC_out {kindOf : Str → Option NameKind} {x : Str} : ∀ {binds : List (Str × Value)} {m : Str → Option Value}, (∀ v, (x, v) ∉ binds) → bindC kindOf binds m x = m x
  | [], _, _ => rfl
  | (n, v) :: r, m, h => by
    unfold bindC
    rw [bindC_out fun w hw => h w (List.mem_cons_of_mem _ hw)]
    split
    · rfl
    · have : x ≠ n := by rintro rfl; exact h v List.mem_cons_self
      simp [this]
theorem bindL_get {kindOf : Str → Option NameKind} {x : Str} {v : Value} : ∀ {P : List Str} {vs : List Value} {i : Nat} {m : Str → Option Value}, P.Nodup → P[i]? = some x → vs[i]? = some v → kindOf x = some .local →
    bindL kindOf (P.zip vs) m x = some v
  | [], _, _, _, _, h, _, _ => by simp at h
  | _ :: _, [], _, _, _, _, h, _ => by simp at h
  | p :: P, w :: vs, 0, m, nd, h1, h2, hk => by
    simp at h1 h2; subst h1; subst h2
    show bindL kindOf ((p, w) :: P.zip vs) m p = _
    unfold bindL
    rw [bindL_out fun v hv => (List.nodup_cons.mp nd).1 (List.of_mem_zip hv).1, if_pos hk]
    simp
  | p :: P, w :: vs, i + 1, m, nd, h1, h2, hk => by
    show bindL kindOf ((p, w) :: P.zip vs) m x = _
    unfold bindL
    exact bindL_get (i := i) (List.nodup_cons.mp nd).2 (by simpa using h1) (by simpa using h2) hk
theorem bindC_get {kindOf : Str → Option NameKind} {x : Str} {v : Value} : ∀ {P : List Str} {vs : List Value} {i : Nat} {m : Str → Option Value}, P.Nodup → P[i]? = some x → vs[i]? = some v → kindOf x ≠ some .local →
    bindC kindOf (P.zip vs) m x = some v
  | [], _, _, _, _, h, _, _ => by simp at h
  | _ :: _, [], _, _, _, _, h, _ => by simp at h
  | p :: P, w :: vs, 0, m, nd, h1, h2, hk => by
    simp at h1 h2; subst h1; subst h2
    show bindC kindOf ((p, w) :: P.zip vs) m p = _
    unfold bindC
    rw [bindC_out fun v hv => (List.nodup_cons.mp nd).1 (List.of_mem_zip hv).1, if_neg hk]
    simp
  | p :: P, w :: vs, i + 1, m, nd, h1, h2, hk => by
    show bindC kindOf ((p, w) :: P.zip vs) m x = _
    unfold bindC
    exact bindC_get (i := i) (List.nodup_cons.mp nd).2 (by simpa using h1) (by simpa using h2) hk

/-- the names' values at the entry -/
def start (N : List Str) (vs : List V) : St := vs.map some ++ List.replicate (N.length - vs.length) none

/-- the context of a def's body, at its entry; an exception leaves the frame, then lies as CX says -/
def cxOf (CX : CXT) (P : Program) (w : World) (K : PySem.W.Frag) (mg : Str → Option Value) (base : Heap) (N : List Str) (qual : Str) (scope : Scope) (f : Addr) (cd : Value) (A : Around) (outer : List Env) (s : Shared) (H : Hp) (E : XK) : Cx where
  prog := P
  w := w
  K := K
  mg := mg
  base := base
  A := A.deeper (envOfC qual scope s.heap.objs.size f cd)
  N := N
  s₀ := s
  H₀ := H
  env := envOfC qual scope s.heap.objs.size f cd
  outer := outer
  stack := envOfC qual scope s.heap.objs.size f cd :: outer
  ex := []
  calm := true
  fn := fun _ => true
  pn := []
  xe := fun e s' => wpAny (model P w) (A.deeper (envOfC qual scope s.heap.objs.size f cd)) (leaving (envOfC qual scope s.heap.objs.size f cd) e) (fun _ s'' => CX outer H s E e s'') (fun e' s'' => CX outer H s E e' s'') s'

theorem cell_has {sc : Scope} {n : Nat} {x : Str} (h : sc.names.lookup x = some .cell) : ∃ c, (cellsFrom n sc.names []).lookup x = some c := by
  have q := PySem.W.cellsFrom_some sc.names n [] (.inl h)
  exact Option.isSome_iff_exists.mp q

theorem inv_start {CX : CXT} {P : Program} {w : World} {K : PySem.W.Frag} {mg : Str → Option Value} {base : Heap} {N ps : List Str} {qual : Str} {scope : Scope} {f : Addr} {cd : Value} {A : Around} {outer : List Env} {s s1 : Shared} {H : Hp} {E : XK} {us : List Value} {vs : List V}
    (S : FnScope N ps scope) (hd : A.handled = none) (e0 : Env0 P w K mg base A outer s H) (hl : vs.length = ps.length) (r : Vals vs us)
    (x : InCallC s s.heap.objs.size (bindL (envOfC qual scope s.heap.objs.size f cd).kindOf (ps.zip us) fun _ => none) (cellsFrom (s.heap.objs.size + 1) scope.names []) (bindC (envOfC qual scope s.heap.objs.size f cd).kindOf (ps.zip us) fun _ => none) s1) :
    Inv (cxOf CX P w K mg base N qual scope f cd A outer s H E) [] (start N vs) H s1 := by
  have hpl : ps.length ≤ N.length := by have := congrArg List.length S.pre; rw [List.length_take] at this; omega
  obtain ⟨h1, tk, rfl, hk⟩ := x.done
  have noA : ∀ b : Addr, b ∉ (cxOf CX P w K mg base N qual scope f cd A outer s H E).ex := fun b z => absurd (show b ∈ ([] : List Addr) from z) (by simp)
  refine ⟨⟨e0.mod, S.kind, rfl, rfl, Nat.le_refl _, fun y z c h1 h2 => ?_, fun y hy => ?_, fun y c _ h => ?_, fun _ => hd, Around.frames_deeper e0.frames, .inr ⟨rfl, rfl⟩, fun b z => absurd z (noA b), e0.bs, e0.bsz, fun b _ _ => noA b, fun b z => absurd z (noA b), e0.funs, e0.frf⟩,
    rfl, e0.bare, Un.kept hk, ⟨_, x.toInCall.ns, fun i y v h1 h2 h3 => ?_⟩, fun y c h => ⟨_, x.cell y c h⟩, e0.hok.fresh (Nat.le_refl _), fun y c h => ?_, fun p hp => absurd (show p ∈ ([] : List (Addr × Obj)) from hp) (by simp), e0.hok.kept hk, ?_⟩
  · exact name_of_addr x.apart (PySem.mem_of_lookup h1) (PySem.mem_of_lookup h2)
  · have hy : scope.names.lookup y = some .cell ∨ scope.names.lookup y = some .free := hy
    rcases hy with hy | hy
    · exact cell_has hy
    · exact absurd rfl (S.nofree _ (PySem.mem_of_lookup hy))
  · exact Nat.le_of_lt (x.above y c (PySem.mem_of_lookup h))
  · have hi : i < vs.length := by
      unfold start at h2
      by_cases hi : i < vs.length
      · exact hi
      · rw [List.getElem?_append_right (by simpa using hi)] at h2
        rw [List.getElem?_replicate] at h2
        split at h2 <;> cases h2
    have ha : vs[i]? = some v := by
      unfold start at h2
      rw [List.getElem?_append_left (by simpa using hi), List.getElem?_map] at h2
      cases e : vs[i]? with
      | none => rw [e] at h2; cases h2
      | some a => rw [e] at h2; cases h2; rfl
    obtain ⟨u, hu, rv⟩ := r.get ha
    have hp : ps[i]? = some y := by
      rw [← S.pre, List.getElem?_take_of_lt (by omega)]; exact h1
    have ndP : ps.Nodup := by rw [← S.pre]; exact S.nd.sublist (List.take_sublist _ _)
    refine ⟨u, rv, ?_⟩
    rcases S.par y (List.mem_of_getElem? hp) with k | k
    · exact .inl ⟨k, bindL_get ndP hp hu k⟩
    · obtain ⟨c, e⟩ := cell_has (n := s.heap.objs.size + 1) k
      refine .inr ⟨.inl k, c, e, ?_⟩
      have q := x.cell y c e
      rw [bindC_get ndP hp hu (by show scope.names.lookup y ≠ _; rw [k]; decide)] at q
      exact q
  · exact e0.hok.fresh (Nat.le_of_lt (x.above y c (PySem.mem_of_lookup h)))
  · unfold start
    show _ = N.length
    rw [List.length_append, List.length_map, List.length_replicate]
    omega

/-- THE RULE: a def (or a method) of the text, by its body. The body's reading t is chosen for each entry; it is run at the parameters' values -/
theorem fn_of {CX : CXT} {P : Program} {w : World} {K : PySem.W.Frag} {mg : Str → Option Value} {base : Heap} {k : Nat} {f : Addr} {name qual : Str} {params : Arguments} {body : List Stmt} {scope : Scope} {dV kV doc pm cdv ct oc : Value} {an od : Option Addr}
    {osl : Array (Option Value)} {N ps : List Str} {sp : Sp} (lk : K.lookup f = some ⟨oc, od, .func (PySem.W.fnOf name qual params body scope dV kV doc pm an cdv ct), osl⟩) (hcd : PySem.W.codeIn K cdv qual = true) (S : FnScope N ps scope)
    (len : ∀ vs H Q E, sp vs H Q E → vs.length = ps.length)
    (hbody : ∀ (A : Around) (outer : List Env) (s : Shared) (H : Hp) (vs : List V) (Q : VK) (E : XK), Room k (A.deeper (envOfC qual scope s.heap.objs.size f cdv)) → sp vs H Q E →
      ∃ t, PSs (cxOf CX P w K mg base N qual scope f cdv A outer s H E) body t ∧ t { nx := fun _ H' => Q .non H', rt := Q } (start N vs) H) :
    FnOk P w K mg base CX (k + 1) f (PySem.W.fnOf name qual params body scope dV kV doc pm an cdv ct) ps sp := by
  refine ⟨len, fun A outer s H args us vs Q E hr e0 hb r hsp => ?_⟩
  have hl := len _ _ _ _ hsp
  have KX : K.In s.heap := e0.mod.kin.keeps fun b o e => (e0.bs b o e).1
  have lim : s.heap.NoLimit := e0.mod.nolimit.keeps fun b o e => (e0.bs b o e).1
  have hkind : ∀ y ∈ ps.zip us, scope.names.lookup y.1 = some .local ∨ (scope.names.lookup y.1 = some .cell ∧ ((cellsFrom (s.heap.objs.size + 1) scope.names []).lookup y.1).isSome = true) := fun ⟨n, v⟩ hy => by
    rcases S.par n (List.of_mem_zip hy).1 with q | q
    · exact .inl q
    · exact .inr ⟨q, PySem.W.cellsFrom_some _ _ _ (.inl q)⟩
  refine codeAny_call_function hr.depth (KX _ _ lk) rfl S.co S.gen rfl (PySem.W.codeRec_of KX hcd) (hb _ _ _ _ ?_)
  refine wpAny_newFunctionEnv_cells S.kind hkind fun env he s1 x => ?_
  subst he
  refine ⟨lim.keeps x.toInCall.keep, codeAny_func ?_⟩
  obtain ⟨t, ht, hq⟩ := hbody A outer s H vs Q E (hr.deeper _) hsp
  have I : Inv (cxOf CX P w K mg base N qual scope f cdv A outer s H E) [] (start N vs) H s1 := inv_start S hr.hd e0 hl r x
  refine wpAny_mono (ht [] s1 (start N vs) H _ I hq) (fun fl s' hs => ?_) fun e s' hs => hs
  have fin : ∀ {σ' : St} {H' : Hp} {v : V} {u : Value}, Inv (cxOf CX P w K mg base N qual scope f cdv A outer s H E) [] σ' H' s' → RelV v u → Q v H' → CE outer P w H s Q u s' :=
    fun {σ' H' v u} J rv q => ⟨v, H', J.os, J.bare, J.base, J.hok, rv, q⟩
  cases fl with
  | ret u =>
    obtain ⟨v, σ', H', J, rv, q⟩ := hs
    exact fin J rv q
  | next =>
    obtain ⟨σ', H', J, q⟩ := hs
    exact fin (v := V.non) (u := Value.none) J rfl q
  | brk =>
    obtain ⟨_, _, _, q⟩ := hs
    exact False.elim q
  | cont =>
    obtain ⟨_, _, _, q⟩ := hs
    exact False.elim q
end L2

namespace L2
open PySem PySem.Spec PyProof.Rows
section
variable {X : Cx} {x : Str} {p pos : Pos} {e : Expr} {es : List Expr} {t : TA} {id T : String} {r : List V → Hp → VK → Prop}

def tCB (r : List V → Hp → VK → Prop) (t : TA) : TE := fun σ H Q => t σ H fun vs H1 => r vs H1 Q
/-- f(e, ..), f a built-in function -/
theorem pe_callB (hc : CallR X (.builtin id) r) (hg : Gl X x) (hm : X.mg x = none) (hv : bootBuiltins x = some (.builtin id)) (ha : PA X (e :: es) t) (hn : x ≠ "__name__" := by decide) (hdb : (x == ("__debug__" : Str)) = false := by decide)
    (he : starEach (e :: es) X.env = (false, eval e X.env) :: starEach es X.env := by rfl) (hpl : (backTo pos (starEach es X.env)).any (·.1) = false := by rfl) : PE X (.Call (.Name x p) (e :: es) [] pos) (tCB r t) := by
  intro pins s σ H Q I h
  refine wpAny_Call_Name_kw (ld_blt I hg hm hv ?_ hn hdb)
  exact PyProof.Rows.callWith_builtin1 (thn (ha pos pins s σ H _ I h) fun us s1 ⟨vs, H1, I1, r1, q1⟩ => hc pins s1 σ H1 vs us Q I1 r1 q1) he hpl
/-- T(e, ..), T a built-in type -/
theorem pe_callTy (hc : CallR X (.type T) r) (hg : Gl X x) (hm : X.mg x = none) (hv : bootBuiltins x = some (.type T)) (ha : PA X (e :: es) t) (hn : x ≠ "__name__" := by decide) (hdb : (x == ("__debug__" : Str)) = false := by decide)
    (he : starEach (e :: es) X.env = (false, eval e X.env) :: starEach es X.env := by rfl) (hpl : (backTo pos (starEach es X.env)).any (·.1) = false := by rfl) : PE X (.Call (.Name x p) (e :: es) [] pos) (tCB r t) := by
  intro pins s σ H Q I h
  refine wpAny_Call_Name_kw (ld_blt I hg hm hv ?_ hn hdb)
  exact PyProof.Rows.callWith_type1 (thn (ha pos pins s σ H _ I h) fun us s1 ⟨vs, H1, I1, r1, q1⟩ => hc pins s1 σ H1 vs us Q I1 r1 q1) he hpl
end
end L2

namespace HT
open PySem PyProof.Rows

/-- t < u of tuples of ints -/
def lexLt : List Int → List Int → Bool
  | [], [] => false
  | [], _ :: _ => true
  | _ :: _, [] => false
  | x :: xs, y :: ys => if x = y then lexLt xs ys else decide (x < y)
theorem lexLt_cons (x y : Int) (xs ys : List Int) : lexLt (x :: xs) (y :: ys) = if x = y then lexLt xs ys else decide (x < y) := rfl
theorem lexLt_nil_nil : lexLt [] [] = false := rfl
theorem lexLt_nil_cons (y : Int) (ys : List Int) : lexLt [] (y :: ys) = true := rfl
theorem lexLt_cons_nil (x : Int) (xs : List Int) : lexLt (x :: xs) [] = false := rfl

theorem eqAt_int (A : Around) (s : Shared) (a : Int) (t : Tok) (c : Int) (u : Tok) : ∃ e, SeqAt.EqAt A s (.int a t) (.int c u) e ∧ (e = true ↔ a = c) :=
  ⟨(a == c), SeqAt.EqAt.int_int a t c u, by simp⟩
theorem rcLt_int (A : Around) (s : Shared) (a : Int) (t : Tok) (c : Int) (u : Tok) (prog : Program) (w : World) (E : Value → Shared → Prop) (Q : Value → Shared → Prop) (h : Q (.bool (decide (a < c))) s) :
    wpAny (model prog w) A (richCompare .Lt (.int a t) (.int c u)) Q E s :=
  (PyProof.Rows.lt_int h : wpAny (model prog w) A (compareOp .Lt (.int a t) (.int c u)) Q E s)

section
open PySem.SeqAt
open PySem.AutoSeq1 (wpAny_loadPart')
open PySem.MeetsSeq PySem.MeetsSeq2 PySem.MeetsSeq3

theorem tuple_lt_ints (l b : Addr) (items items2 : Array Value) (n n2 : Nat) (dd dd2 : Option Addr) (sl sl2 : Array (Option Value)) (ns ms : List Int) (hi : IntsAre items.toList ns) (hj : IntsAre items2.toList ms) :
    Meets (Builtin.«tuple.__lt__» ⟨[.ref l, .ref b], []⟩)
      (fun _ R s => s.heap.get? l = some { cls := .type "tuple", dict := dd, data := .seq items n, slots := sl } ∧ s.heap.get? b = some { cls := .type "tuple", dict := dd2, data := .seq items2 n2, slots := sl2 } ∧
        R (.ok (.ret (.bool (lexLt ns ms)))) s) :=
  .of_wp fun prog w A R s h => by
    obtain ⟨hp, g, d, tk, os⟩ := s; obtain ⟨hl, hb, h⟩ := h
    have f2 := AutoSeq1.sub_tuple_tuple
    have z1 : items.size = ns.length := by rw [← hi.length]; simp
    have z2 : items2.size = ms.length := by rw [← hj.length]; simp
    wp_walk using wpAny_loadPart' hl, wpAny_loadPart' hb, wpAny_forIn_list _ (fun rest b s' => b.1 = none ∧ s' = ⟨hp, g, d, tk, os⟩ ∧ ∃ (vs ws : List Value) (ns' ms' : List Int), rest = vs.zip ws ∧
      IntsAre vs ns' ∧ IntsAre ws ms' ∧ ns'.length + items2.size = ms'.length + items.size ∧ R (.ok (.ret (.bool (lexLt ns' ms')))) ⟨hp, g, d, tk, os⟩) _
    case turn =>
      rintro ⟨y, x⟩ rest b s' ⟨hb', rfl, vs, ws, ns', ms', hz, hvi, hwi, hlen, hR⟩
      cases hvi with
      | nil => rw [List.zip_nil_left] at hz; cases hz
      | cons a t hvi' =>
        cases hwi with
        | nil => rw [List.zip_nil_right] at hz; cases hz
        | cons c u hwi' =>
          rw [List.zip_cons_cons] at hz
          injection hz with hyx hrest
          injection hyx with hy hx
          subst hy hx
          rw [lexLt_cons] at hR
          simp only [List.length_cons] at hlen
          obtain ⟨e, he, hiff⟩ := eqAt_int A.in1 ⟨hp, g, d, tk, os⟩ a t c u
          refine wpAny_bind (he prog w _ _ ?_)
          cases e with
          | true =>
            rw [if_pos (hiff.mp rfl)] at hR
            wp_walk
            exact ⟨rfl, rfl, _, _, _, _, hrest, hvi', hwi', by omega, hR⟩
          | false =>
            rw [if_neg (fun q => absurd (hiff.mpr q) Bool.false_ne_true)] at hR
            have hri := rcLt_int A.in1 ⟨hp, g, d, tk, os⟩ a t c u prog w
            wp_walk using hri
            exact ⟨_, rfl, by simpa using hR⟩
    case fin =>
      rintro ⟨b1, b2⟩ s' ⟨hb', rfl, vs, ws, ns', ms', hz, hvi, hwi, hlen, hR⟩
      simp only at hb'
      subst hb'
      have hv : lexLt ns' ms' = decide (items.size < items2.size) := by
        cases hvi with
        | nil =>
          cases hwi with
          | nil =>
            simp only [List.length_nil] at hlen
            rw [lexLt_nil_nil]
            exact (decide_eq_false (by omega)).symm
          | cons c u hw =>
            simp only [List.length_nil, List.length_cons] at hlen
            rw [lexLt_nil_cons]
            exact (decide_eq_true (by omega)).symm
        | cons a t hv =>
          cases hwi with
          | nil =>
            simp only [List.length_nil, List.length_cons] at hlen
            rw [lexLt_cons_nil]
            exact (decide_eq_false (by omega)).symm
          | cons c u hw =>
            rw [List.zip_cons_cons] at hz
            cases hz
      rw [hv] at hR
      wp_walk
      exact ⟨_, rfl, by simpa [Builtin.Tuple.tupleCompareSizes] using hR⟩
    case h =>
      exact ⟨rfl, rfl, items.toList, items2.toList, ns, ms, rfl, hi, hj, by omega, h⟩
end

section
variable {prog : Program} {w : World} {A : Around} {E : Value → Shared → Prop} {s : Shared}

theorem lt_tupInts {l b : Addr} {items items2 : Array Value} {ns ms : List Int} {Q : Value → Shared → Prop} (hl : IsTup s.heap l items) (hb : IsTup s.heap b items2) (hi : IntsAre items.toList ns) (hj : IntsAre items2.toList ms)
    (hu : A.units < cLine) (h : Q (.bool (lexLt ns ms)) s) : wpAny (model prog w) A (compareOp .Lt (.ref l) (.ref b)) Q E s := by
  obtain ⟨⟨cls, dd, data, sl⟩, ho, hc, n, hd⟩ := id hl
  obtain ⟨⟨cls2, dd2, data2, sl2⟩, ho2, hc2, n2, hd2⟩ := id hb
  simp only at hc hd hc2 hd2
  subst hc hd hc2 hd2
  exact richCompare_meets_room (op := .Lt) ⟨_, ho, rfl⟩ ⟨_, ho2, rfl⟩ PySem.F.slot_tuple_lt PySem.F.entry_tuple_lt (PySem.F.args_tuple_lt_2 _ _) (tuple_lt_ints l b items items2 n n2 dd dd2 sl sl2 ns ms hi hj)
    ⟨ho, ho2, show Value.bool (lexLt ns ms) ≠ Value.notImplemented ∧ Q (.bool (lexLt ns ms)) s from ⟨(fun x => nomatch x), h⟩⟩ hu

/-! ### t[a:b], not the whole -/
/-- a slice's bound as a place among n (d where it is left out) -/
def sIx (n d : Nat) : Option Int → Nat
  | none => d
  | some v => if v < 0 then (v + (n : Int)).toNat else min v.toNat n
theorem sIx_none (n d : Nat) : sIx n d none = d := rfl
theorem sIx_nat (n d k : Nat) : sIx n d (some (k : Int)) = min k n := by
  show (if (k : Int) < 0 then ((k : Int) + (n : Int)).toNat else min (k : Int).toNat n) = min k n
  rw [if_neg (by omega), Int.toNat_natCast]
end
end HT

namespace L2
open PySem PySem.Spec PyProof.Rows

/-! ### the parts of a slice -/
abbrev TO := St → Hp → (Option Int → Hp → Prop) → Prop
/-- a slice's part (left out, or an int) -/
def PO (X : Cx) (e : Option Expr) (t : TO) : Prop :=
  ∀ (pins : List (Addr × Obj)) (s : Shared) (σ : St) (H : Hp) (Q : Option Int → Hp → Prop), Inv X pins σ H s → t σ H Q →
    wpAny (model X.prog X.w) X.A (evalPart e X.env) (fun u s' => ∃ o H', Inv X pins σ H' s' ∧ IsPart u o ∧ Q o H') X.xe s
def tNoPart : TO := fun _ H Q => Q none H
def tPart (t : TE) : TO := fun σ H Q => t σ H fun x H1 => ∃ i, x = .int i ∧ Q (some i) H1

section
variable {X : Cx} {e : Expr} {te : TE} {lo hi : Option Expr} {tl th : TO} {pos p2 : Pos}

theorem po_none : PO X none tNoPart := by
  intro pins s σ H Q I h
  rw [evalPart_none]
  exact wpAny_pure ⟨none, H, I, .none, h⟩
theorem po_some (h : PE X e te) : PO X (some e) (tPart te) := by
  intro pins s σ H Q I hw
  rw [evalPart_some]
  refine thn (h pins s σ H _ I hw) fun u s1 ⟨x, H1, I1, r1, q1⟩ => ?_
  obtain ⟨i, rfl, q⟩ := q1
  obtain ⟨t, rfl⟩ := r1
  exact ⟨some i, H1, I1, .int i t, q⟩

/-- what a slice of a value is, by values: the slice object stands at sl -/
def SlR (X : Cx) (r : V → Option Int → Option Int → Hp → VK → Prop) : Prop :=
  ∀ (pins : List (Addr × Obj)) (s : Shared) (σ : St) (H : Hp) (x : V) (v vl vu : Value) (lo hi : Option Int) (sl : Addr) (Q : VK), Inv X pins σ H s → RelV x v → s.heap.IsSliceOf sl vl vu .none → IsPart vl lo → IsPart vu hi → r x lo hi H Q →
    ∃ T id, typeLookup (.type T) "__getitem__" = pure (some (.builtin id)) ∧ s.TypeIs v T ∧ wpAny (model X.prog X.w) X.A (getItem v (.ref sl)) (EP X pins σ Q) X.xe s
theorem SlR.or {r r' : V → Option Int → Option Int → Hp → VK → Prop} (h : SlR X r) (h' : SlR X r') : SlR X (fun x lo hi H Q => r x lo hi H Q ∨ r' x lo hi H Q) := by
  intro pins s σ H x v vl vu lo hi sl Q I rx hs pl pu q
  rcases q with q | q
  · exact h pins s σ H x v vl vu lo hi sl Q I rx hs pl pu q
  · exact h' pins s σ H x v vl vu lo hi sl Q I rx hs pl pu q
def tSl (r : V → Option Int → Option Int → Hp → VK → Prop) (te : TE) (tl th : TO) : TE := fun σ H Q => te σ H fun x H1 => tl σ H1 fun l H2 => th σ H2 fun u H3 => r x l u H3 Q
/-- a[lo:hi], any a -/
theorem pe_slice {r : V → Option Int → Option Int → Hp → VK → Prop} (hr : SlR X r) (he : PE X e te) (hl : PO X lo tl) (hu : PO X hi th) : PE X (.Subscript e (.Slice lo hi none p2) pos) (tSl r te tl th) := by
  intro pins s σ H Q I h
  refine Subscript_ (thn (he pins s σ H _ I h) fun v s1 ⟨x, H1, I1, r1, q1⟩ => ?_)
  refine wpAny_Slice (thn (hl pins s1 σ H1 _ I1 q1) fun vl s2 ⟨l, H2, I2, pl, q2⟩ => thn (hu pins s2 σ H2 _ I2 q2) fun vu s3 ⟨u, H3, I3, pu, q3⟩ => ?_)
  rw [evalPart_none]
  refine wpAny_pure ?_
  have I4 : Inv X pins σ H3 { s3 with heap := s3.heap.push { cls := .type "slice", data := .fields #[vl, vu, .none] } } := I3.kept (t' := s3.toks) fun b ob q => Heap.get?_push_of_some _ q
  obtain ⟨T, id, hT, ht, hg⟩ := hr pins { s3 with heap := s3.heap.push { cls := .type "slice", data := .fields #[vl, vu, .none] } } σ H3 x v vl vu l u s3.heap.objs.size Q I4 r1 (Heap.IsSliceOf.new ..) pl pu q3
  show wpAny (model X.prog X.w) X.A (subscriptTail e (.Slice lo hi none p2) v (.ref s3.heap.objs.size)) (EP X pins σ Q) X.xe { s3 with heap := s3.heap.push { cls := .type "slice", data := .fields #[vl, vu, .none] } }
  exact tail_any (ops := [.ref s3.heap.objs.size, v]) ht hT hg (by with_unfolding_all rfl)

/-- the items of xs[lo:hi] -/
def cutV (xs : List V) (lo hi : Option Int) : List V := (xs.drop (HT.sIx xs.length 0 lo)).take (HT.sIx xs.length xs.length hi - HT.sIx xs.length 0 lo)
theorem cutV_length (xs : List V) (lo hi : Option Int) : (cutV xs lo hi).length ≤ xs.length := by
  unfold cutV
  rw [List.length_take, List.length_drop]
  omega
/-- t[lo:hi], not the whole of it (the whole would be t itself) -/
def rSlT (K : PySem.W.Frag) : V → Option Int → Option Int → Hp → VK → Prop := fun x lo hi H Q => ∃ a xs, x = .ref a ∧ SqT K H a xs ∧
  ¬ (HT.sIx xs.length 0 lo = 0 ∧ HT.sIx xs.length xs.length hi = xs.length) ∧ ∀ p, H p = none → Q (.ref p) (upd H p (.tup (cutV xs lo hi)))
/-! ### t < u, t + u -/
def rLtT (K : PySem.W.Frag) : R2 := fun x y H Q => ∃ a b ns ms, x = .ref a ∧ y = .ref b ∧ SqT K H a (ns.map V.int) ∧ SqT K H b (ms.map V.int) ∧ Q (.bl (HT.lexLt ns ms)) H
/-- t + u, t not empty: u empty gives t itself -/
def rCatT (K : PySem.W.Frag) : R2 := fun x y H Q => ∃ a b xs ys, x = .ref a ∧ y = .ref b ∧ SqT K H a xs ∧ SqT K H b ys ∧ xs ≠ [] ∧ xs.length + ys.length ≤ sizeLine ∧
  (ys = [] → Q (.ref a) H) ∧ (ys ≠ [] → ∀ p, H p = none → Q (.ref p) (upd H p (.tup (xs ++ ys))))
end
end L2

namespace L2
open PySem PySem.Spec PyProof.Rows

/-! ### places -/
/-- the place that an index of any sign means -/
def ixN (n : Nat) (i : Int) : Option Nat := if 0 ≤ i then (if i < n then some i.toNat else none) else if -(n : Int) ≤ i then some (i + n).toNat else none
def atI {α : Type} (xs : List α) (i : Int) : Option α := (ixN xs.length i).bind fun j => xs[j]?
theorem ixN_seq {n : Nat} {i : Int} {j : Nat} (h : ixN n i = some j) : seqIndex? i n = some j ∧ j < n ∧ -(n : Int) ≤ i ∧ i < n := by
  unfold ixN at h
  by_cases h0 : 0 ≤ i
  · rw [if_pos h0] at h
    by_cases h1 : i < n
    · rw [if_pos h1] at h
      have e : i.toNat = j := Option.some.inj h
      exact ⟨by rw [seqIndex_of h0 h1, e], by omega, by omega, h1⟩
    · rw [if_neg h1] at h; cases h
  · rw [if_neg h0] at h
    by_cases h1 : -(n : Int) ≤ i
    · rw [if_pos h1] at h
      have e : (i + n).toNat = j := Option.some.inj h
      exact ⟨by rw [seqIndex_neg (by omega) h1, e], by omega, h1, by omega⟩
    · rw [if_neg h1] at h; cases h
theorem atI_get {α : Type} {xs : List α} {i : Int} {v : α} (h : atI xs i = some v) : ∃ j, seqIndex? i xs.length = some j ∧ xs[j]? = some v ∧ j < xs.length ∧ -(xs.length : Int) ≤ i ∧ i < xs.length := by
  unfold atI at h
  cases e : ixN xs.length i with
  | none => rw [e] at h; cases h
  | some j =>
    rw [e] at h
    obtain ⟨h1, h2, h3, h4⟩ := ixN_seq e
    exact ⟨j, h1, h, h2, h3, h4⟩
theorem atI_nat {α : Type} {xs : List α} {j : Nat} {v : α} (h : xs[j]? = some v) : atI xs (j : Int) = some v := by
  have hj : j < xs.length := (List.getElem?_eq_some_iff.mp h).1
  have e : ixN xs.length (j : Int) = some j := by
    unfold ixN
    rw [if_pos (by omega), if_pos (by omega)]; simp
  unfold atI; rw [e]; exact h
theorem atI_last {α : Type} (xs : List α) (v : α) : atI (xs ++ [v]) (-1) = some v := by
  have hl : (xs ++ [v]).length = xs.length + 1 := by simp
  have e : ixN (xs ++ [v]).length (-1) = some xs.length := by
    unfold ixN
    rw [hl, if_neg (by decide), if_pos (by omega)]
    congr 1
    omega
  unfold atI
  rw [e]
  show (xs ++ [v])[xs.length]? = some v
  simp

/-! ### what may be subscripted -/
/-- what stands as an index of a plain subscript -/
def PlainIx (b : Expr) : Prop := ∀ o i, subscripted b false o i = operate [o, i] (getItem o i)
/-- a subscript by values -/
def IxR (X : Cx) (r : R2) : Prop :=
  ∀ (value slice : Expr) (pins : List (Addr × Obj)) (s : Shared) (σ : St) (H : Hp) (x y : V) (v u : Value) (Q : VK), Inv X pins σ H s → RelV x v → RelV y u → r x y H Q →
    subscripted slice false v u = operate [v, u] (getItem v u) → wpAny (model X.prog X.w) X.A (subscriptTail value slice v u) (EP X pins σ Q) X.xe s
/-- a call of a builtin's method by values: the receiver, the arguments -/
def MtR (X : Cx) (id : String) (r : V → List V → Hp → VK → Prop) : Prop :=
  ∀ (pins : List (Addr × Obj)) (s : Shared) (σ : St) (H : Hp) (x : V) (xs : List V) (v : Value) (us : List Value) (Q : VK), Inv X pins σ H s → RelV x v → Vals xs us → r x xs H Q →
    wpAny (model X.prog X.w) X.A (call (.builtin id) (v :: us)) (EP X pins σ Q) X.xe s
section
variable {X : Cx} {a b : Expr} {ta tb : TE} {pos : Pos}
theorem IxR.or {r r' : R2} (h : IxR X r) (h' : IxR X r') : IxR X (fun x y H Q => r x y H Q ∨ r' x y H Q) := by
  intro value slice pins s σ H x y v u Q I rx ry q hs
  rcases q with q | q
  · exact h value slice pins s σ H x y v u Q I rx ry q hs
  · exact h' value slice pins s σ H x y v u Q I rx ry q hs
theorem MtR.or {id : String} {r r' : V → List V → Hp → VK → Prop} (h : MtR X id r) (h' : MtR X id r') : MtR X id (fun x xs H Q => r x xs H Q ∨ r' x xs H Q) := by
  intro pins s σ H x xs v us Q I rx rs q
  rcases q with q | q
  · exact h pins s σ H x xs v us Q I rx rs q
  · exact h' pins s σ H x xs v us Q I rx rs q
/-- a[b] -/
theorem pe_ix {r : R2} (hr : IxR X r) (ha : PE X a ta) (hb : PE X b tb) (hs : PlainIx b) : PE X (.Subscript a b pos) (tOp r ta tb) := by
  intro pins s σ H Q I h
  exact Subscript_ (binT ha hb I h fun v u s2 x y H2 I2 rx ry q => hr a b pins s2 σ H2 x y v u Q I2 rx ry q (hs _ _))

def rIxL (K : PySem.W.Frag) : R2 := fun x y H Q => ∃ p xs i v, x = .ref p ∧ y = .int i ∧ SqL K H p xs ∧ atI xs i = some v ∧ Q v H
def rIxT (K : PySem.W.Frag) : R2 := fun x y H Q => ∃ p xs i v, x = .ref p ∧ y = .int i ∧ SqT K H p xs ∧ atI xs i = some v ∧ Q v H
def rIxS : R2 := fun x y H Q => ∃ z i c, x = .str z ∧ y = .int i ∧ z.length ≤ sizeLine ∧ atI z.cps.toList i = some c ∧ Q (.str ⟨#[c]⟩) H
theorem ix_list : IxR X (rIxL X.K) := by
  intro value slice pins s σ H x y v u Q I rx ry h hs
  obtain ⟨p, xs, i, z, rfl, rfl, hq, he, q⟩ := h
  cases rx
  obtain ⟨t, rfl⟩ := ry
  obtain ⟨its, r, pl, hz⟩ := I.list hq
  obtain ⟨j, h1, h2, h3, h4, h5⟩ := atI_get he
  obtain ⟨w, ew, rw'⟩ := r.get h2
  have hl := r.length
  have hn := line63
  have fin : EP X pins σ Q w s := ⟨z, H, I, rw', q⟩
  by_cases h0 : 0 ≤ i
  · have hj : i.toNat = j := by
      rw [seqIndex_of h0 h5] at h1
      exact Option.some.inj h1
    exact item_listR pl.isList h0 (by omega) (by rw [hj]; simpa using ew) fin hs
  · have hj : (i + (its.toArray.size : Int)).toNat = j := by
      rw [seqIndex_neg (by omega) h4] at h1
      rw [List.size_toArray, ← hl]
      exact Option.some.inj h1
    exact subscriptTail_builtinR (x := w) pl.isList.typeIs slot_list_getitem.lookup
      (wpAny_getItem_list_neg (Q := fun r s' => r = w ∧ EP X pins σ Q r s') pl.isList (by omega) (by rw [List.size_toArray] <;> omega) (by omega) (by rw [hj]; simpa using ew) ⟨rfl, fin⟩) hs
theorem ix_tup : IxR X (rIxT X.K) := by
  intro value slice pins s σ H x y v u Q I rx ry h hs
  obtain ⟨p, xs, i, z, rfl, rfl, hq, he, q⟩ := h
  cases rx
  obtain ⟨t, rfl⟩ := ry
  obtain ⟨its, r, pl, hz⟩ := I.tuple hq
  obtain ⟨j, h1, h2, h3, h4, h5⟩ := atI_get he
  obtain ⟨w, ew, rw'⟩ := r.get h2
  have hl := r.length
  have hn := line63
  have fin : EP X pins σ Q w s := ⟨z, H, I, rw', q⟩
  exact subscriptTail_builtinR (x := w) pl.typeIs slot_tuple_getitem.lookup
    (getItem_tuple (j := j) (Q := fun r s' => r = w ∧ EP X pins σ Q r s') pl (by omega) (by omega) (by rw [List.size_toArray, ← hl]; exact h1) (by simpa using ew) ⟨rfl, fin⟩) hs
/-- list, tuple or str -/
def rIx (K : PySem.W.Frag) : R2 := fun x y H Q => rIxL K x y H Q ∨ rIxT K x y H Q ∨ rIxS x y H Q
/-! ### xs[i] = v, any sign -/
/-- the list's object behind a store -/
theorem mapSeq_set (its : List Value) (n j : Nat) (u : Value) : Obj.mapSeq (·.setIfInBounds j u) { cls := .type "list", data := .seq its.toArray n } = { cls := .type "list", data := .seq (its.set j u).toArray n } := by
  simp [Obj.mapSeq]
theorem Inv.lst {pins : List (Addr × Obj)} {σ : St} {H : Hp} {s : Shared} {p : Addr} {xs : List V} (I : Inv X pins σ H s) (h : H p = some (.lst xs)) :
    ∃ (its : List Value) (n : Nat), Vals xs its ∧ s.heap.get? p = some { cls := .type "list", data := .seq its.toArray n } ∧ xs.length ≤ sizeLine := by
  obtain ⟨z, its, n, r, e⟩ := I.hok p _ h
  exact ⟨its, n, r, e, z⟩
/-- the list at p is written by an update of its object -/
theorem Inv.lstUpd {pins : List (Addr × Obj)} {σ : St} {H : Hp} {s : Shared} {p : Addr} {xs ys : List V} {its its' : List Value} {n n' : Nat} {f : Obj → Obj} (I : Inv X pins σ H s) (h : H p = some (.lst xs))
    (ho : s.heap.get? p = some { cls := .type "list", data := .seq its.toArray n }) (hf : f { cls := .type "list", data := .seq its.toArray n } = { cls := .type "list", data := .seq its'.toArray n' }) (r : Vals ys its') (hz : ys.length ≤ sizeLine) (t : Nat) :
    Inv X pins σ (upd H p (.lst ys)) { s with heap := s.heap.update p f, toks := t } := by
  have e : (s.heap.update p f).get? p = some { cls := .type "list", data := .seq its'.toArray n' } := by
    rw [Heap.get?_update_self f ho (by rw [hf] <;> rfl), hf]
  refine I.write (x := p) (e := p) (by rw [h]; trivial) (.inl rfl) (fun b u hb q => (Heap.get?_update_other _ _ (Ne.symm hb)).trans q) ⟨_, e⟩ ?_
  exact ⟨hz, its', n', r, e⟩
def rSetL : V → V → V → Hp → (Hp → Prop) → Prop := fun o i v H Q => ∃ p xs k j, o = .ref p ∧ i = .int k ∧ H p = some (.lst xs) ∧ ixN xs.length k = some j ∧ Q (upd H p (.lst (xs.set j v)))
theorem set_list : PSet X rSetL := by
  intro pins s σ H o i v ov iv u Q I ro ri rv h
  obtain ⟨p, xs, k, j, rfl, rfl, hp, hj, q⟩ := h
  cases ro
  obtain ⟨t, rfl⟩ := ri
  obtain ⟨its, n, r, ho, hz⟩ := I.lst hp
  obtain ⟨h1, h2, h3, h4⟩ := ixN_seq hj
  have hl := r.length
  have hn := line63
  have I' : Inv X pins σ (upd H p (.lst (xs.set j v))) { s with heap := s.heap.update p (Obj.mapSeq (·.setIfInBounds j u)) } :=
    I.lstUpd hp ho (mapSeq_set its n j u) (r.set rv j) (by rw [List.length_set]; exact hz) s.toks
  by_cases h0 : 0 ≤ k
  · have hk : k.toNat = j := by
      rw [seqIndex_of h0 h4] at h1
      exact Option.some.inj h1
    exact PySem.W.ki_setAt ho h0 (by omega) (by rw [List.size_toArray, ← hl]; exact h4) (by rw [hk]; exact ⟨_, I', q⟩)
  · have hk : (k + (its.toArray.size : Int)).toNat = j := by
      rw [seqIndex_neg (by omega) h3] at h1
      rw [List.size_toArray, ← hl]
      exact Option.some.inj h1
    exact PySem.W.ki_setBack ho (by omega) (by rw [List.size_toArray, ← hl]; exact h3) (by omega) (by rw [hk]; exact ⟨_, I', q⟩)

/-! ### slices -/
theorem slice_bounds (lo hi : Option Int) (n : Nat) : (sliceBounds lo hi none n).1 = ((HT.sIx n 0 lo : Nat) : Int) ∧ (sliceBounds lo hi none n).2.1 = ((HT.sIx n n hi : Nat) : Int) ∧ (sliceBounds lo hi none n).2.2 = 1 := by
  refine ⟨?_, ?_, rfl⟩
  · cases lo with
    | none => simp [sliceBounds, HT.sIx]
    | some i =>
      simp only [sliceBounds, HT.sIx, Option.getD_none, show (1 : Int) > 0 by decide, if_true]
      by_cases h : i < 0
      · simp only [h, if_true] <;> omega
      · simp only [h, if_false] <;> omega
  · cases hi with
    | none => simp [sliceBounds, HT.sIx]
    | some i =>
      simp only [sliceBounds, HT.sIx, Option.getD_none, show (1 : Int) > 0 by decide, if_true]
      by_cases h : i < 0
      · simp only [h, if_true] <;> omega
      · simp only [h, if_false] <;> omega
theorem slicePick_cut (its : List Value) (lo hi : Option Int) : slicePick its.toArray lo hi none = ((its.drop (HT.sIx its.length 0 lo)).take (HT.sIx its.length its.length hi - HT.sIx its.length 0 lo)).toArray := by
  obtain ⟨h1, h2, h3⟩ := slice_bounds lo hi its.toArray.size
  unfold slicePick
  rw [h1, h2, h3]
  simp only [sliceRange_one, pick_run, List.size_toArray] <;> rfl
/-- xs[lo:hi] of a list: a new list -/
def rSlL (K : PySem.W.Frag) : V → Option Int → Option Int → Hp → VK → Prop := fun x lo hi H Q => ∃ a xs, x = .ref a ∧ SqL K H a xs ∧ ∀ p, H p = none → Q (.ref p) (upd H p (.lst (cutV xs lo hi)))
theorem sl_list : SlR X (rSlL X.K) := by
  intro pins s σ H x v vl vu lo hi sl Q I rx hs pl pu h
  obtain ⟨a, xs, rfl, hx, q⟩ := h
  cases rx
  obtain ⟨its, r, ht, hz⟩ := I.list hx
  have hlen := r.length
  refine ⟨"list", _, slot_list_getitem.lookup, ht.isList.typeIs, ?_⟩
  refine wpAny_getItem_list_slice ht.isList hs pl pu .none (by simp) ?_ (by rw [List.size_toArray] <;> omega)
  rw [slicePick_cut, ← hlen]
  refine ⟨.ref s.heap.objs.size, _, I.laid (t' := s.toks) (o := .lst (cutV xs lo hi)) (fun b ob q => Heap.get?_push_of_some _ q) (Nat.le_refl _) ?_, rfl, q _ (I.hok.fresh (Nat.le_refl _))⟩
  exact ⟨Nat.le_trans (cutV_length xs lo hi) hz, _, 0, (r.drop (HT.sIx xs.length 0 lo)).take (HT.sIx xs.length xs.length hi - HT.sIx xs.length 0 lo), Heap.get?_push_size _ rfl⟩

/-! ### in, not in: flat items -/
def flatV : V → Bool
  | .non => true
  | .bl _ => true
  | .int _ => true
  | .str _ => true
  | _ => false
/-- == of flat values -/
def eqV : V → V → Bool
  | .non, .non => true
  | .bl a, .bl b => a == b
  | .bl a, .int b => (if a then 1 else 0) == b
  | .int a, .bl b => a == (if b then 1 else 0)
  | .int a, .int b => a == b
  | .str a, .str b => a == b
  | _, _ => false
theorem eqAt_V {A : Around} {s : Shared} {y x : V} {u v : Value} (ry : RelV y u) (rx : RelV x v) (fy : flatV y = true) (fx : flatV x = true) : SeqAt.EqAt A s u v (eqV y x) := by
  cases y with
  | non =>
    cases ry
    cases x with
    | non => cases rx; exact SeqAt.EqAt.same _
    | bl b => cases rx; exact SeqAt.EqAt.none_bool b
    | int b => obtain ⟨t, rfl⟩ := rx; exact SeqAt.EqAt.none_int b t
    | str b => obtain ⟨t, rfl⟩ := rx; exact SeqAt.EqAt.none_str b t
    | _ => exact absurd (show false = true from fx) Bool.false_ne_true
  | bl a =>
    cases ry
    cases x with
    | non => cases rx; exact SeqAt.EqAt.bool_none a
    | bl b => cases rx; exact SeqAt.EqAt.bool_bool a b
    | int b => obtain ⟨t, rfl⟩ := rx; exact SeqAt.EqAt.bool_int a b t
    | str b => obtain ⟨t, rfl⟩ := rx; exact SeqAt.EqAt.bool_str a b t
    | _ => exact absurd (show false = true from fx) Bool.false_ne_true
  | int a =>
    obtain ⟨t', rfl⟩ := ry
    cases x with
    | non => cases rx; exact SeqAt.EqAt.int_none a t'
    | bl b => cases rx; exact SeqAt.EqAt.int_bool a t' b
    | int b => obtain ⟨t, rfl⟩ := rx; exact SeqAt.EqAt.int_int a t' b t
    | str b => obtain ⟨t, rfl⟩ := rx; exact SeqAt.EqAt.int_str a t' b t
    | _ => exact absurd (show false = true from fx) Bool.false_ne_true
  | str a =>
    obtain ⟨t', rfl⟩ := ry
    cases x with
    | non => cases rx; exact SeqAt.EqAt.str_none a t'
    | bl b => cases rx; exact SeqAt.EqAt.str_bool a t' b
    | int b => obtain ⟨t, rfl⟩ := rx; exact SeqAt.EqAt.str_int a t' b t
    | str b => obtain ⟨t, rfl⟩ := rx; exact SeqAt.EqAt.str_str a t' b t
    | _ => exact absurd (show false = true from fx) Bool.false_ne_true
  | _ => exact absurd (show false = true from fy) Bool.false_ne_true
/-- the items' answers, read off the values (a value's own answer does not lean on its token) -/
def eqU (x : V) (u : Value) : Bool := match u with
  | .none => eqV .non x
  | .bool b => eqV (.bl b) x
  | .int i _ => eqV (.int i) x
  | .str z _ => eqV (.str z) x
  | _ => false
theorem eqU_of {x y : V} {u : Value} (r : RelV y u) (f : flatV y = true) : eqU x u = eqV y x := by
  cases y with
  | non => cases r; rfl
  | bl b => cases r; rfl
  | int i => obtain ⟨t, rfl⟩ := r; rfl
  | str z => obtain ⟨t, rfl⟩ := r; rfl
  | _ => exact absurd (show false = true from f) Bool.false_ne_true
theorem any_eqU {x : V} : ∀ {xs : List V} {us : List Value}, Vals xs us → xs.all flatV = true → us.any (eqU x) = xs.any fun y => eqV y x
  | _, _, .nil, _ => rfl
  | y :: xs, u :: us, .cons r t, f => by
    rw [List.all_cons, Bool.and_eq_true] at f
    rw [List.any_cons, List.any_cons, eqU_of r f.1, any_eqU t f.2]
theorem mem_eqAt {A : Around} {s : Shared} {x : V} {v : Value} (rx : RelV x v) (fx : flatV x = true) : ∀ {xs : List V} {us : List Value}, Vals xs us → xs.all flatV = true → ∀ u ∈ us, SeqAt.EqAt A s u v (eqU x u)
  | _, _, .nil, _ => fun u hu => by cases hu
  | y :: xs, u :: us, .cons r t, f => fun u' hu => by
    rw [List.all_cons, Bool.and_eq_true] at f
    rcases List.mem_cons.mp hu with rfl | hu
    · rw [eqU_of r f.1]; exact eqAt_V r rx f.1 fx
    · exact mem_eqAt rx fx t f.2 u' hu
def inV (x : V) (xs : List V) : Bool := xs.any fun y => eqV y x
/-- x in a list or tuple of flat items -/
def rIn (K : PySem.W.Frag) (neg : Bool) : R2 := fun x y H Q => ∃ p xs, y = .ref p ∧ (SqL K H p xs ∨ SqT K H p xs) ∧ flatV x = true ∧ xs.all flatV = true ∧ Q (.bl (if neg then !inV x xs else inV x xs)) H
theorem op_in_seq : OpR X (compareOp .In) (rIn X.K false) := by
  intro pins s σ H x y v u Q I rx ry h
  obtain ⟨p, xs, rfl, hq, fx, fs, q⟩ := h
  cases ry
  rcases hq with hq | hq
  · obtain ⟨its, r, pl, hz⟩ := I.list hq
    refine SeqAt.in_listAt (eqU x) pl.isList (fun w hw => mem_eqAt rx fx r fs w (by simpa using hw)) ⟨.bl _, H, I, rfl, ?_⟩
    rw [show its.toArray.any (eqU x) = its.any (eqU x) by simp, any_eqU r fs]
    exact q
  · obtain ⟨its, r, pl, hz⟩ := I.tuple hq
    refine SeqAt.in_tupleAt (eqU x) pl (fun w hw => mem_eqAt rx fx r fs w (by simpa using hw)) ⟨.bl _, H, I, rfl, ?_⟩
    rw [show its.toArray.any (eqU x) = its.any (eqU x) by simp, any_eqU r fs]
    exact q
theorem op_notIn_seq : OpR X (compareOp .NotIn) (rIn X.K true) := by
  intro pins s σ H x y v u Q I rx ry h
  obtain ⟨p, xs, rfl, hq, fx, fs, q⟩ := h
  cases ry
  rcases hq with hq | hq
  · obtain ⟨its, r, pl, hz⟩ := I.list hq
    refine SeqAt.notIn_listAt (eqU x) pl.isList (fun w hw => mem_eqAt rx fx r fs w (by simpa using hw)) ⟨.bl _, H, I, rfl, ?_⟩
    rw [show its.toArray.any (eqU x) = its.any (eqU x) by simp, any_eqU r fs]
    exact q
  · obtain ⟨its, r, pl, hz⟩ := I.tuple hq
    refine SeqAt.notIn_tupleAt (eqU x) pl (fun w hw => mem_eqAt rx fx r fs w (by simpa using hw)) ⟨.bl _, H, I, rfl, ?_⟩
    rw [show its.toArray.any (eqU x) = its.any (eqU x) by simp, any_eqU r fs]
    exact q
/-! ### len, list(x), tuple(x) of any list or tuple that is read -/
theorem call_len_seq : CallR X (.builtin "len") (fun xs H Q => ∃ p ys, xs = [.ref p] ∧ (SqL X.K H p ys ∨ SqT X.K H p ys) ∧ Q (.int ys.length) H) := by
  intro pins s σ H xs us Q I r h
  obtain ⟨p, ys, rfl, hq, q⟩ := h
  obtain ⟨u, rfl, rx⟩ := vals1 r
  cases rx
  have hn := line63
  rcases hq with hq | hq
  · obtain ⟨its, r', pl, hz⟩ := I.list hq
    have hlen := r'.length
    exact Calls.call_len_list pl.isList (by simp only [List.size_toArray] <;> omega) ⟨.int ys.length, H, I.tok _, ⟨s.toks + 1, by rw [List.size_toArray, hlen]⟩, q⟩
  · obtain ⟨its, r', pl, hz⟩ := I.tuple hq
    have hlen := r'.length
    exact len_tuple pl (by simp only [List.size_toArray] <;> omega) ⟨.int ys.length, H, I.tok _, ⟨s.toks + 1, by rw [List.size_toArray, hlen]⟩, q⟩
theorem CallR.or {f : Value} {r r' : List V → Hp → VK → Prop} (h : CallR X f r) (h' : CallR X f r') : CallR X f (fun xs H Q => r xs H Q ∨ r' xs H Q) := by
  intro pins s σ H xs us Q I rs q
  rcases q with q | q
  · exact h pins s σ H xs us Q I rs q
  · exact h' pins s σ H xs us Q I rs q
theorem call_list_of : CallR X (.type "list") (fun xs H Q => ∃ p ys, xs = [.ref p] ∧ (SqL X.K H p ys ∨ SqT X.K H p ys) ∧ ∀ l, H l = none → Q (.ref l) (upd H l (.lst ys))) := by
  intro pins s σ H xs us Q I r h
  obtain ⟨p, ys, rfl, hq, q⟩ := h
  obtain ⟨u, rfl, rx⟩ := vals1 r
  cases rx
  have fin : ∀ (its : List Value), Vals ys its → ys.length ≤ sizeLine → ∀ (h' : Heap) (c' : Nat), (∀ b o', s.heap.get? b = some o' → h'.get? b = some o') →
      h'.get? s.heap.objs.size = some { cls := .type "list", dict := none, data := .seq its.toArray c', slots := #[] } → EP X pins σ Q (.ref s.heap.objs.size) { s with heap := h' } := fun its r' hz h' c' kp e =>
    ⟨.ref s.heap.objs.size, _, I.laid (t' := s.toks) kp (Nat.le_refl _) (show ObjOk X.prog X.w _ h' _ (.lst ys) from ⟨hz, its, c', r', e⟩), rfl, q _ (I.hok.fresh (Nat.le_refl _))⟩
  rcases hq with hq | hq
  · obtain ⟨its, r', pl, hz⟩ := I.list hq
    have hlen := r'.length
    obtain ⟨o, ho, hc, n, hd⟩ := pl.isList
    exact call_list_seq p (.inl rfl) ho hc hd (fun h' c' kp e => fin its r' hz h' c' kp e) (by simp only [List.size_toArray] <;> omega)
  · obtain ⟨its, r', pl, hz⟩ := I.tuple hq
    have hlen := r'.length
    obtain ⟨o, ho, hc, n, hd⟩ := pl
    exact call_list_seq p (.inr rfl) ho hc hd (fun h' c' kp e => fin its r' hz h' c' kp e) (by simp only [List.size_toArray] <;> omega)
/-! ### the call of a builtin's method: o.m(..) -/
/-- the value is of that builtin type -/
def tyV (K : PySem.W.Frag) (T : String) (x : V) (H : Hp) : Prop := match x with
  | .str _ => T = "str"
  | .int _ => T = "int"
  | .ref p => (T = "list" ∧ ∃ xs, SqL K H p xs) ∨ (T = "tuple" ∧ ∃ o, K.lookup p = some o ∧ o.cls = .type "tuple" ∧ o.dict = none) ∨
      (T = "dict" ∧ ((∃ kvs, H p = some (.dK kvs)) ∨ ∃ kvs, H p = some (.dT kvs))) ∨ (T = "set" ∧ ∃ S n, H p = some (.set S n))
  | _ => False
theorem tyV_is {pins : List (Addr × Obj)} {σ : St} {H : Hp} {s : Shared} {T : String} {x : V} {v : Value} (I : Inv X pins σ H s) (r : RelV x v) (ty : tyV X.K T x H) :
    s.TypeIs v T ∧ ∀ a, v = .ref a → ∃ ob, s.heap.get? a = some ob ∧ ob.dict = none := by
  cases x with
  | str z =>
    obtain ⟨t, rfl⟩ := r
    cases (show T = "str" from ty)
    exact ⟨typeIs_str s z t, fun _ e => nomatch e⟩
  | int i =>
    obtain ⟨t, rfl⟩ := r
    cases (show T = "int" from ty)
    exact ⟨typeIs_int s i t, fun _ e => nomatch e⟩
  | ref p =>
    cases r
    rcases ty with ⟨rfl, xs, hq⟩ | ⟨rfl, o, hk, hc, hd⟩ | ⟨rfl, hk⟩ | ⟨rfl, S, n, hk⟩
    · obtain ⟨its, _, pl, _⟩ := I.list hq
      refine ⟨pl.isList.typeIs, fun a e => ?_⟩
      cases e
      obtain ⟨o, n, e, c, hd, _⟩ := pl
      exact ⟨o, e, hd⟩
    · refine ⟨⟨o, I.kIn p o hk, hc⟩, fun a e => ?_⟩
      cases e
      exact ⟨o, I.kIn _ o hk, hd⟩
    · have z : ∃ o, s.heap.get? p = some o ∧ o.ExactDict := by
        rcases hk with ⟨kvs, hk⟩ | ⟨kvs, hk⟩
        · obtain ⟨_, _, _, _, o, _, _, e, ex, _⟩ := I.hok p _ hk
          exact ⟨o, e, ex⟩
        · obtain ⟨_, _, _, _, o, _, _, e, ex, _⟩ := I.hok p _ hk
          exact ⟨o, e, ex⟩
      obtain ⟨o, e, ex⟩ := z
      refine ⟨⟨o, e, ex.1⟩, fun a e2 => ?_⟩
      cases e2
      exact ⟨o, e, ex.2.1⟩
    · obtain ⟨o, _, _, _, e, ex, _⟩ := I.hok p _ hk
      refine ⟨⟨o, e, ex.1⟩, fun a e2 => ?_⟩
      cases e2
      exact ⟨o, e, ex.2.1⟩
  | _ => exact False.elim ty
def tBM0 (K : PySem.W.Frag) (T : String) (r : V → List V → Hp → VK → Prop) (to : TE) : TE := fun σ H Q => to σ H fun x H1 => tyV K T x H1 ∧ r x [] H1 Q
def tBM (K : PySem.W.Frag) (T : String) (r : V → List V → Hp → VK → Prop) (to : TE) (t : TA) : TE := fun σ H Q => to σ H fun x H1 => tyV K T x H1 ∧ t σ H1 fun xs H2 => r x xs H2 Q
variable {o e : Expr} {es : List Expr} {to : TE} {t : TA} {name : Str} {apos cpos : Pos} {T id : String} {r : V → List V → Hp → VK → Prop}
theorem pe_bm (pa : PlainAttrs T) (slot : Slot T name id) (hty : typeOf (.builtin id) = pure (.type "method_descriptor")) (hm : MtR X id r) (ho : PE X o to) (ha : PA X (e :: es) t)
    (hbase : attributeBase o name X.env (eval o X.env) = eval o X.env := by rfl)
    (hfew : ((backTo cpos (starEach (e :: es) X.env)).all (fun x => !x.1) && (backToKw cpos (keywordEach [] X.env)).all (fun x => x.1.isSome)
      && decide ((e :: es).length + ([] : List Keyword).length + (if ([] : List Keyword).isEmpty then 0 else 1) < 30)) = true := by rfl)
    (hline : (apos.endLine == cpos.line) = true := by rfl) (hs : starEach (e :: es) X.env = (false, eval e X.env) :: starEach es X.env := by rfl) (hplain : (backTo cpos (starEach es X.env)).any (·.1) = false := by rfl) :
    PE X (.Call (.Attribute o name apos) (e :: es) [] cpos) (tBM X.K T r to t) := by
  intro pins s σ H Q I h
  refine wpAny_Call_method_late hbase hfew hline rfl (thn (ho pins s σ H _ I h) fun v s1 ⟨x, H1, I1, r1, ty, q1⟩ => ?_)
  obtain ⟨h1, h2⟩ := tyV_is I1 r1 ty
  refine ⟨T, id, pa, slot, hty, h1, h2, ?_⟩
  have hA := ha cpos pins s1 σ H1 _ I1 q1
  rw [hs] at hA ⊢
  refine Calls.callWith_builtin (by show (false || (backTo cpos (starEach es X.env)).any (·.1)) = false; rw [hplain] <;> rfl) (Calls.evalArgs_plain ?_)
  exact thn hA fun us s2 ⟨vs, H2, I2, r2, q2⟩ => hm pins s2 σ H2 x vs v us Q I2 r1 r2 q2
/- xs.append(e), list.index on a module's tuple .. are MtR facts of 06m -/
end
end L2

namespace L2
open PySem PySem.Spec PyProof.Rows

def MtM (X : Cx) (id : String) (r : V → List V → Hp → VK → Prop) : Prop :=
  ∀ (pins : List (Addr × Obj)) (s : Shared) (σ : St) (H : Hp) (x : V) (xs : List V) (v : Value) (us : List Value) (Q : VK), Inv X pins σ H s → RelV x v → Vals xs us → r x xs H Q →
    wpAny (model X.prog X.w) X.A (call (.builtin id) (v :: us)) (EP X pins σ Q) X.xe s

/-! ### lists of values -/
theorem Vals.one : ∀ {x : V} {us : List Value}, Vals [x] us → ∃ u, us = [u] ∧ RelV x u
  | _, _, .cons r .nil => ⟨_, rfl, r⟩
theorem Vals.two : ∀ {x y : V} {us : List Value}, Vals [x, y] us → ∃ u v, us = [u, v] ∧ RelV x u ∧ RelV y v
  | _, _, _, .cons r (.cons q .nil) => ⟨_, _, rfl, r, q⟩
theorem Vals.zero : ∀ {us : List Value}, Vals [] us → us = []
  | _, .nil => rfl
theorem Vals.dropLast {xs : List V} {us : List Value} (h : Vals xs us) : Vals xs.dropLast us.dropLast := by
  induction h with
  | nil => exact .nil
  | cons r t ih =>
    cases t with
    | nil => exact .nil
    | cons q t' => exact .cons r ih
theorem Vals.eraseIdx : ∀ {xs : List V} {us : List Value} (i : Nat), Vals xs us → Vals (xs.eraseIdx i) (us.eraseIdx i)
  | _, _, _, .nil => .nil
  | _, _, 0, .cons _ t => t
  | _, _, i + 1, .cons r t => .cons r (Vals.eraseIdx i t)
theorem Vals.reverse {xs : List V} {us : List Value} (h : Vals xs us) : Vals xs.reverse us.reverse := by
  induction h with
  | nil => exact .nil
  | cons r t ih => rw [List.reverse_cons, List.reverse_cons]; exact Vals.append ih (.cons r .nil)
theorem Vals.rep {xs : List V} {us : List Value} (h : Vals xs us) : ∀ k : Nat, Vals (List.replicate k xs).flatten (List.replicate k us).flatten
  | 0 => .nil
  | k + 1 => by
    rw [List.replicate_succ, List.replicate_succ, List.flatten_cons, List.flatten_cons]
    exact Vals.append h (Vals.rep h k)
section
variable {X : Cx} {pins : List (Addr × Obj)} {σ : St} {H : Hp} {s : Shared} {l b : Addr} {xs ys zs : List V}

/-! ### the two steps: a tracked list is rewritten, a new list is laid -/
theorem Inv.lset {its its' : List Value} {n : Nat} {f : Array Value → Array Value} {t' : Nat} (I : Inv X pins σ H s) (hH : H l = some (.lst xs))
    (e : s.heap.get? l = some { cls := .type "list", data := .seq its.toArray n }) (hf : f its.toArray = its'.toArray) (hv : Vals ys its') (hz : ys.length ≤ sizeLine) :
    Inv X pins σ (upd H l (.lst ys)) { s with heap := s.heap.update l (Obj.mapSeq f), toks := t' } := by
  have q := PySem.IsL.update e f
  rw [hf] at q
  refine I.write (x := l) (e := l) (by rw [hH]; exact trivial) (.inl rfl) (fun b' u hb hu => (Heap.get?_update_other s.heap (Obj.mapSeq f) (Ne.symm hb)).trans hu) ⟨_, q⟩ ?_
  exact ⟨hz, its', _, hv, q⟩
theorem Inv.lnew {its : List Value} {t' : Nat} (I : Inv X pins σ H s) (hv : Vals ys its) (hz : ys.length ≤ sizeLine) :
    Inv X pins σ (upd H s.heap.objs.size (.lst ys)) { s with heap := s.heap.push { cls := .type "list", data := .seq its.toArray }, toks := t' } :=
  I.laid (fun _ _ q => Heap.get?_push_of_some _ q) (Nat.le_refl _) ⟨hz, its, 0, hv, Heap.get?_push_size _ rfl⟩
theorem Inv.fresh (I : Inv X pins σ H s) : H s.heap.objs.size = none := I.hok.fresh (Nat.le_refl _)
theorem Inv.lstM (I : Inv X pins σ H s) (hH : H l = some (.lst xs)) : xs.length ≤ sizeLine ∧ ∃ (its : List Value) (n : Nat), Vals xs its ∧ xs.length = its.length ∧ s.heap.get? l = some { cls := .type "list", data := .seq its.toArray n } := by
  obtain ⟨z, its, n, r, e⟩ := I.hok l _ hH
  exact ⟨z, its, n, r, r.length, e⟩

end

section
variable {X : Cx}

/-! ### methods -/
def rAppend : V → List V → Hp → VK → Prop := fun x vs H Q => ∃ l xs y, x = .ref l ∧ vs = [y] ∧ H l = some (.lst xs) ∧ xs.length < sizeLine ∧ Q .non (upd H l (.lst (xs ++ [y])))
theorem mt_append : MtM X "list.append" rAppend := by
  intro pins s σ H x vs v us Q I rx rv h
  obtain ⟨l, xs, y, rfl, rfl, hH, hz, q⟩ := h
  cases rx
  obtain ⟨u, rfl, ru⟩ := rv.one
  obtain ⟨z, its, n, r, hl, e⟩ := I.lstM hH
  refine call_meets F.slot_list_append ⟨_, e, rfl⟩ F.entry_list_append (F.args_list_append_2 _ _) (PySem.list_append l its.toArray n u (by rw [List.size_toArray]; omega)) ⟨e, ?_⟩
  refine ⟨.non, _, I.lset (its' := its ++ [u]) hH e (by simp) (r.append (.cons ru .nil)) ?_, rfl, q⟩
  rw [List.length_append, List.length_singleton]
  omega

def rExtend : V → List V → Hp → VK → Prop := fun x vs H Q => ∃ l b xs zs, x = .ref l ∧ vs = [.ref b] ∧ H l = some (.lst xs) ∧ H b = some (.lst zs) ∧ xs.length + zs.length ≤ sizeLine ∧ Q .non (upd H l (.lst (xs ++ zs)))
def rPop : V → List V → Hp → VK → Prop := fun x vs H Q => ∃ l xs y, x = .ref l ∧ vs = [] ∧ H l = some (.lst xs) ∧ xs[xs.length - 1]? = some y ∧ Q y (upd H l (.lst xs.dropLast))
def rPopAt : V → List V → Hp → VK → Prop := fun x vs H Q => ∃ l xs i k y, x = .ref l ∧ vs = [.int i] ∧ H l = some (.lst xs) ∧ -(2 ^ 63) ≤ i ∧ i < 2 ^ 63 ∧ seqIndex? i xs.length = some k ∧ xs[k]? = some y ∧ Q y (upd H l (.lst (xs.eraseIdx k)))
def rReverse : V → List V → Hp → VK → Prop := fun x vs H Q => ∃ l xs, x = .ref l ∧ vs = [] ∧ H l = some (.lst xs) ∧ Q .non (upd H l (.lst xs.reverse))
def rClear : V → List V → Hp → VK → Prop := fun x vs H Q => ∃ l xs, x = .ref l ∧ vs = [] ∧ H l = some (.lst xs) ∧ Q .non (upd H l (.lst []))
/-! ### list + list, list += list, list * int -/
def rCat : R2 := fun x y H Q => ∃ l b xs zs, x = .ref l ∧ y = .ref b ∧ H l = some (.lst xs) ∧ H b = some (.lst zs) ∧ xs.length + zs.length ≤ sizeLine ∧ ∀ p, H p = none → Q (.ref p) (upd H p (.lst (xs ++ zs)))
theorem op_cat : OpR X (binaryOp .Add) rCat := by
  intro pins s σ H x y v u Q I rx ry h
  obtain ⟨l, b, xs, zs, rfl, rfl, hH, hB, hz, q⟩ := h
  cases rx
  cases ry
  obtain ⟨z, its, n, r, hl, e⟩ := I.lstM hH
  obtain ⟨z2, its2, n2, r2, hl2, e2⟩ := I.lstM hB
  refine PySem.P.add_list e e2 ?_ (by rw [List.size_toArray, List.size_toArray]; omega)
  have ea : its.toArray ++ its2.toArray = (its ++ its2).toArray := by simp
  rw [ea]
  exact ⟨.ref _, _, I.lnew (t' := s.toks) (r.append r2) (by rw [List.length_append]; omega), rfl, q _ I.fresh⟩
/-- a list times an int (a negative one is nothing) -/
def rRep : R2 := fun x y H Q => ∃ l k xs, x = .ref l ∧ y = .int k ∧ H l = some (.lst xs) ∧ -(2 ^ 63) ≤ k ∧ k < 2 ^ 63 ∧ xs.length * k.toNat ≤ sizeLine ∧
  ∀ p, H p = none → Q (.ref p) (upd H p (.lst (List.replicate k.toNat xs).flatten))
/-! ### del xs[i] -/
end

/-! ### xs[a:b] = ys -/
section
variable {prog : Program} {w : World} {A : Around} {E : Value → Shared → Prop} {s : Shared}
end

section
variable {X : Cx}
end
end L2

namespace L2
open PySem PySem.Spec PyProof.Rows

/-! ### lists of pairs as tables -/
section
variable {κ : Type} [DecidableEq κ]
def valV (kvs : List (κ × V)) (k : κ) : Option V := (kvs.find? fun kv => decide (kv.1 = k)).map (·.2)
/-- in its place, or at the end -/
def putK (kvs : List (κ × V)) (k : κ) (v : V) : List (κ × V) :=
  if (kvs.any fun kv => decide (kv.1 = k)) = true then kvs.map (fun kv => if kv.1 = k then (kv.1, v) else kv) else kvs ++ [(k, v)]
def dropK (kvs : List (κ × V)) (k : κ) : List (κ × V) := kvs.filter fun kv => decide (kv.1 ≠ k)

theorem valV_pos {p : κ × V} {r : List (κ × V)} {k : κ} (e : p.1 = k) : valV (p :: r) k = some p.2 := by simp [valV, List.find?_cons, e]
theorem valV_neg {p : κ × V} {r : List (κ × V)} {k : κ} (e : ¬ p.1 = k) : valV (p :: r) k = valV r k := by simp [valV, List.find?_cons, e]
theorem valV_any (k : κ) : ∀ kvs : List (κ × V), (kvs.any fun kv => decide (kv.1 = k)) = (valV kvs k).isSome
  | [] => rfl
  | p :: r => by
    rw [List.any_cons]
    by_cases e : p.1 = k
    · simp only [valV_pos e, decide_eq_true e, Bool.true_or, Option.isSome_some]
    · rw [valV_neg e, decide_eq_false e, Bool.false_or]; exact valV_any k r
theorem valV_map (k j : κ) (y : V) : ∀ kvs : List (κ × V), valV (kvs.map fun kv => if kv.1 = k then (kv.1, y) else kv) j = (valV kvs j).map fun x => if j = k then y else x
  | [] => rfl
  | p :: r => by
    have ih := valV_map k j y r
    rw [List.map_cons]
    by_cases h : p.1 = k
    · rw [if_pos h]
      by_cases e : p.1 = j
      · rw [valV_pos (p := (p.1, y)) e, valV_pos e, Option.map_some, if_pos (e.symm.trans h)]
      · rw [valV_neg (p := (p.1, y)) e, valV_neg e, ih]
    · rw [if_neg h]
      by_cases e : p.1 = j
      · rw [valV_pos (p := p) e, valV_pos e, Option.map_some, if_neg (fun z => h (e.trans z))]
      · rw [valV_neg (p := p) e, valV_neg e, ih]
theorem valV_snoc (k j : κ) (y : V) : ∀ kvs : List (κ × V), valV kvs k = none → valV (kvs ++ [(k, y)]) j = if j = k then some y else valV kvs j
  | [], _ => by
    by_cases e : k = j
    · rw [if_pos e.symm]; exact valV_pos (p := (k, y)) e
    · rw [if_neg (fun z => e z.symm)]; exact valV_neg (p := (k, y)) e
  | p :: r, hn => by
    rw [List.cons_append]
    have hk : ¬ p.1 = k := fun z => by rw [valV_pos z] at hn; cases hn
    rw [valV_neg hk] at hn
    have ih := valV_snoc k j y r hn
    by_cases e : p.1 = j
    · rw [valV_pos e, valV_pos e, if_neg (fun z => hk (e.trans z))]
    · rw [valV_neg e, valV_neg e, ih]
theorem valV_put (kvs : List (κ × V)) (k j : κ) (y : V) : valV (putK kvs k y) j = if j = k then some y else valV kvs j := by
  unfold putK
  by_cases a : (kvs.any fun kv => decide (kv.1 = k)) = true
  · rw [if_pos a, valV_map]
    rw [valV_any] at a
    by_cases e : j = k
    · obtain ⟨x, hx⟩ := Option.isSome_iff_exists.mp a
      rw [if_pos e, e, hx, Option.map_some, if_pos rfl]
    · rw [if_neg e]
      cases valV kvs j with
      | none => rfl
      | some x => rw [Option.map_some, if_neg e]
  · rw [if_neg a]
    refine valV_snoc k j y kvs ?_
    rw [valV_any] at a
    cases q : valV kvs k with
    | none => rfl
    | some x => rw [q] at a; exact (a rfl).elim
theorem length_putK (kvs : List (κ × V)) (k : κ) (v : V) : (putK kvs k v).length ≤ kvs.length + 1 := by
  unfold putK
  split
  · rw [List.length_map]; omega
  · rw [List.length_append, List.length_cons, List.length_nil]; omega
theorem RelO.isSome_eq {o : Option V} {u : Option Value} (r : RelO o u) : o.isSome = u.isSome := by
  cases o with
  | none => cases u with
    | none => rfl
    | some _ => exact (show False from r).elim
  | some _ => cases u with
    | none => exact (show False from r).elim
    | some _ => rfl
theorem RelO.getD {o : Option V} {u : Option Value} {d : V} {d' : Value} (r : RelO o u) (rd : RelV d d') : RelV (o.getD d) (u.getD d') := by
  cases o with
  | none => cases u with
    | none => exact rd
    | some _ => exact (show False from r).elim
  | some _ => cases u with
    | none => exact (show False from r).elim
    | some _ => exact r

/-- raw tables of the same keys -/
theorem KV.val {kvs : List (κ × V)} {vs : List (κ × Value)} (r : KV kvs vs) (k : κ) : RelO (valV kvs k) (valueAt vs k) := by
  unfold KV at r
  induction r with
  | nil => exact True.intro
  | @cons p q ps qs h t ih =>
    obtain ⟨h1, h2⟩ := h
    by_cases e : p.1 = k
    · have e' : q.1 = k := h1.symm.trans e
      have b : valueAt (q :: qs) k = some q.2 := by simp [valueAt, List.find?_cons, e']
      rw [valV_pos e, b]; exact h2
    · have e' : ¬ q.1 = k := fun z => e (h1.trans z)
      have b : valueAt (q :: qs) k = valueAt qs k := by simp [valueAt, List.find?_cons, e']
      rw [valV_neg e, b]; exact ih
theorem KV.any {kvs : List (κ × V)} {vs : List (κ × Value)} (r : KV kvs vs) (k : κ) : (kvs.any fun kv => decide (kv.1 = k)) = vs.any fun kv => decide (kv.1 = k) := by
  unfold KV at r
  induction r with
  | nil => rfl
  | cons h t ih => rw [List.any_cons, List.any_cons, ih, h.1]
theorem KV.repl {kvs : List (κ × V)} {vs : List (κ × Value)} (r : KV kvs vs) (k : κ) {y : V} {u : Value} (ry : RelV y u) :
    KV (kvs.map fun kv => if kv.1 = k then (kv.1, y) else kv) (vs.map fun kv => if kv.1 = k then (kv.1, u) else kv) := by
  unfold KV at r ⊢
  induction r with
  | nil => exact .nil
  | @cons p q ps qs h t ih =>
    rw [List.map_cons, List.map_cons]
    refine .cons ?_ ih
    obtain ⟨h1, h2⟩ := h
    by_cases e : p.1 = k
    · rw [if_pos e, if_pos (h1.symm.trans e)]; exact ⟨h1, ry⟩
    · rw [if_neg e, if_neg (fun z => e (h1.trans z))]; exact ⟨h1, h2⟩
theorem KV.put {kvs : List (κ × V)} {vs : List (κ × Value)} (r : KV kvs vs) (k : κ) {y : V} {u : Value} (ry : RelV y u) : KV (putK kvs k y) (stored vs k u) := by
  unfold putK stored
  rw [r.any k]
  by_cases e : (vs.any fun kv => decide (kv.1 = k)) = true
  · rw [if_pos e, if_pos e]; exact r.repl k ry
  · rw [if_neg e, if_neg e]; exact Paired.snoc r ⟨rfl, ry⟩
theorem KV.drop {kvs : List (κ × V)} {vs : List (κ × Value)} (r : KV kvs vs) (k : κ) : KV (dropK kvs k) (without vs k) := by
  unfold KV at r ⊢
  unfold dropK without
  induction r with
  | nil => exact .nil
  | @cons p q ps qs h t ih =>
    obtain ⟨h1, h2⟩ := h
    rw [List.filter_cons, List.filter_cons]
    by_cases e : p.1 = k
    · have a : ¬ decide (p.1 ≠ k) = true := by simp [e]
      have b : ¬ decide (q.1 ≠ k) = true := by simp [h1.symm.trans e]
      rw [if_neg a, if_neg b]; exact ih
    · have e' : ¬ q.1 = k := fun z => e (h1.trans z)
      have a : decide (p.1 ≠ k) = true := by simp [e]
      have b : decide (q.1 ≠ k) = true := by simp [e']
      rw [if_pos a, if_pos b]; exact .cons ⟨h1, h2⟩ ih
theorem KV.keys {kvs : List (κ × V)} {vs : List (κ × Value)} (r : KV kvs vs) : kvs.map (·.1) = vs.map (·.1) := by
  unfold KV at r
  induction r with
  | nil => rfl
  | cons h t ih => rw [List.map_cons, List.map_cons, ih, h.1]
theorem KV.length {kvs : List (κ × V)} {vs : List (κ × Value)} (r : KV kvs vs) : kvs.length = vs.length := Paired.length r
end


/-! ### a tracked dict, its keys ints and texts or tuples of these -/
theorem kV_is {P : Program} {w : World} {k : Key} {u : Value} (r : RelV (kV k) u) : (mixKind P w).is k u = true := by
  cases k with
  | inl i => obtain ⟨t, e⟩ := (show ∃ t, u = Value.int i t from r); subst e; exact mixKind_int P w i t
  | inr x => obtain ⟨t, e⟩ := (show ∃ t, u = Value.str x t from r); subst e; exact mixKind_str P w x t
theorem items_are {P : Program} {w : World} : ∀ {ks : List Key} {us : List Value}, Vals (ks.map kV) us → ItemsAre (mixKind P w) ks us
  | [], _, r => by rw [List.map_nil] at r; cases r; exact .nil
  | k :: ks, _, r => by
    rw [List.map_cons] at r
    cases r with
    | cons h t => exact .cons (kV_is h) (items_are t)

/-- raw entries of a dict with tuple keys -/
abbrev KT (H : Hp) : List (List Key × V) → List (List Key × Addr × Value) → Prop := Paired fun p q => p.1 = q.1 ∧ H q.2.1 = some (.tup (p.1.map kV)) ∧ RelV p.2 q.2.2
theorem KT.val {H : Hp} {kvs : List (List Key × V)} {xs : List (List Key × Addr × Value)} (r : KT H kvs xs) (k : List Key) : RelO (valV kvs k) ((atKey xs k).map (·.2)) := by
  induction r with
  | nil => exact True.intro
  | @cons p q ps qs h t ih =>
    obtain ⟨h1, _, h2⟩ := h
    by_cases e : p.1 = k
    · have e' : q.1 = k := h1.symm.trans e
      have b : atKey (q :: qs) k = some q.2 := by simp [atKey, List.find?_cons, e']
      rw [valV_pos e, b]; exact h2
    · have e' : ¬ q.1 = k := fun z => e (h1.trans z)
      have b : atKey (q :: qs) k = atKey qs k := by simp [atKey, List.find?_cons, e']
      rw [valV_neg e, b]; exact ih
theorem KT.repl {H : Hp} {kvs : List (List Key × V)} {xs : List (List Key × Addr × Value)} (r : KT H kvs xs) (k : List Key) {y : V} {u : Value} (ry : RelV y u) :
    KT H (kvs.map fun kv => if kv.1 = k then (kv.1, y) else kv) (xs.map (putAt k u)) := by
  induction r with
  | nil => exact .nil
  | @cons p q ps qs h t ih =>
    rw [List.map_cons, List.map_cons]
    refine .cons ?_ ih
    obtain ⟨h1, h2, h3⟩ := h
    unfold putAt
    by_cases e : p.1 = k
    · rw [if_pos e, if_pos (h1.symm.trans e)]; exact ⟨h1, h2, ry⟩
    · rw [if_neg e, if_neg (fun z => e (h1.trans z))]; exact ⟨h1, h2, h3⟩
theorem KT.put {H : Hp} {kvs : List (List Key × V)} {xs : List (List Key × Addr × Value)} (r : KT H kvs xs) (k : List Key) {b : Addr} {y : V} {u : Value} (hb : H b = some (.tup (k.map kV))) (ry : RelV y u) :
    KT H (putK kvs k y) (storedH xs k b u) := by
  have e : (kvs.any fun kv => decide (kv.1 = k)) = (atKey xs k).isSome := by
    rw [valV_any, (r.val k).isSome_eq, Option.isSome_map]
  unfold putK storedH
  rw [e]
  by_cases q : (atKey xs k).isSome = true
  · rw [if_pos q, if_pos q]; exact r.repl k ry
  · rw [if_neg q, if_neg q]; exact Paired.snoc r ⟨rfl, hb, ry⟩
theorem KT.keeps {H H' : Hp} {kvs : List (List Key × V)} {xs : List (List Key × Addr × Value)} (r : KT H kvs xs) (ht : ∀ b ys, H b = some (.tup ys) → H' b = some (.tup ys)) : KT H' kvs xs :=
  Paired.mapP r fun _ _ z => ⟨z.1, ht _ _ z.2.1, z.2.2⟩

section
variable {P : Program} {w : World} {H : Hp} {h : Heap} {a : Addr}
theorem rd_of {u : HO} (ok : HOk P w H h) (e : Rd H a u) : ObjOk P w H h a u := e.ok ok
theorem dk_rd {kvs : List (Key × V)} (ok : HOk P w H h) (e : Rd H a (.dK kvs)) : kvs.length ≤ sizeLine ∧ (a == sysModules) = false ∧ ∃ vs, KV kvs vs ∧ h.DictOf (mixKind P w) a vs :=
  show ObjOk P w H h a (.dK kvs) from rd_of ok e
theorem dk_of {kvs : List (Key × V)} (ok : HOk P w H h) (e : H a = some (.dK kvs)) : kvs.length ≤ sizeLine ∧ (a == sysModules) = false ∧ ∃ vs, KV kvs vs ∧ h.DictOf (mixKind P w) a vs := dk_rd ok (.inl e)
/-- a tracked tuple of ints and texts is a key -/
theorem key_of {ks : List Key} (ok : HOk P w H h) (e : H a = some (.tup (ks.map kV))) : (tupleKind (mixKind P w)).is h ks a := by
  obtain ⟨_, its, r, o, h1, h2, n, h3⟩ := (show ObjOk P w H h a (.tup (ks.map kV)) from ok a _ e)
  exact ⟨o, its.toArray, n, h1, h2, h3, by simpa using items_are r⟩
theorem dt_rd {kvs : List (List Key × V)} (ok : HOk P w H h) (e : Rd H a (.dT kvs)) : kvs.length ≤ sizeLine ∧ (a == sysModules) = false ∧
    ∃ xs, KT H kvs xs ∧ h.DictOfH (tupleKind (mixKind P w)) a xs := by
  obtain ⟨z, y, xs, r, o, es, ep, h1, h2, h3, h4, h5⟩ := (show ObjOk P w H h a (.dT kvs) from rd_of ok e)
  refine ⟨z, y, xs, r, o, es, ep, h1, h2, h3, h4, fun x hx => ?_, h5⟩
  have all : ∀ {l : List (List Key × V)} {m : List (List Key × Addr × Value)}, KT H l m → ∀ x ∈ m, (tupleKind (mixKind P w)).is h x.1 x.2.1 := by
    intro l m q
    induction q with
    | nil => intro x hx; exact nomatch hx
    | @cons p q ps qs hq t ih =>
      intro x hx
      rcases List.mem_cons.mp hx with e | hx
      · subst e
        exact key_of ok (by rw [← hq.1]; exact hq.2.1)
      · exact ih x hx
  exact all r x hx
theorem dt_of {kvs : List (List Key × V)} (ok : HOk P w H h) (e : H a = some (.dT kvs)) : kvs.length ≤ sizeLine ∧ (a == sysModules) = false ∧
    ∃ xs, KT H kvs xs ∧ h.DictOfH (tupleKind (mixKind P w)) a xs := dt_rd ok (.inl e)
end

/-- what the dict at a holds at the key y -/
def DGet (H : Hp) (a : Addr) (y : V) (r : Option V) : Prop :=
  (∃ kvs k, Rd H a (.dK kvs) ∧ y = kV k ∧ r = valV kvs k) ∨ ∃ kvs k b, Rd H a (.dT kvs) ∧ y = .ref b ∧ H b = some (.tup (k.map kV)) ∧ r = valV kvs k
/-- the heap behind a[y] = v -/
def DPut (H : Hp) (a : Addr) (y v : V) (H' : Hp) : Prop :=
  (∃ kvs k, H a = some (.dK kvs) ∧ y = kV k ∧ kvs.length < sizeLine ∧ H' = upd H a (.dK (putK kvs k v))) ∨
  ∃ kvs k b, H a = some (.dT kvs) ∧ y = .ref b ∧ H b = some (.tup (k.map kV)) ∧ kvs.length < sizeLine ∧ H' = upd H a (.dT (putK kvs k v))
theorem DGet.k {H : Hp} {a : Addr} {kvs : List (Key × V)} {k : Key} (e : H a = some (.dK kvs)) : DGet H a (kV k) (valV kvs k) := .inl ⟨kvs, k, .inl e, rfl, rfl⟩
theorem DGet.t {H : Hp} {a b : Addr} {kvs : List (List Key × V)} {k : List Key} (e : H a = some (.dT kvs)) (eb : H b = some (.tup (k.map kV))) : DGet H a (.ref b) (valV kvs k) := .inr ⟨kvs, k, b, .inl e, rfl, eb, rfl⟩
theorem DPut.k {H : Hp} {a : Addr} {kvs : List (Key × V)} {k : Key} {v : V} (e : H a = some (.dK kvs)) (hl : kvs.length < sizeLine) : DPut H a (kV k) v (upd H a (.dK (putK kvs k v))) := .inl ⟨kvs, k, e, rfl, hl, rfl⟩
theorem DPut.t {H : Hp} {a b : Addr} {kvs : List (List Key × V)} {k : List Key} {v : V} (e : H a = some (.dT kvs)) (eb : H b = some (.tup (k.map kV))) (hl : kvs.length < sizeLine) :
    DPut H a (.ref b) v (upd H a (.dT (putK kvs k v))) := .inr ⟨kvs, k, b, e, rfl, eb, hl, rfl⟩


section
variable {X : Cx} {pins : List (Addr × Obj)} {σ : St} {H : Hp} {s : Shared} {a : Addr} {y v : V} {u r : Value} {o : Option V} {A : Around} {E : Value → Shared → Prop}

theorem Inv.big (I : Inv X pins σ H s) : sysModules < s.heap.objs.size := by
  have h : mainGlobals < s.heap.objs.size := (I.mod.glob.keeps I.bk).lt
  exact Nat.lt_trans (by decide) h

/-- a dict's object is replaced -/
theorem d_write {h' : Heap} {t' : Nat} {ob : HO} (I : Inv X pins σ H s) (mu : Mut (H a)) (hs : Heap.SameBut a s.heap h') (he : ∃ q, h'.get? a = some q) (new : ObjOk X.prog X.w (upd H a ob) h' a ob) :
    Inv X pins σ (upd H a ob) { s with heap := h', toks := t' } :=
  I.write (x := a) (e := a) mu (.inl rfl) (fun b q hb z => (hs.2 b hb).trans z) he new
theorem dk_new {P : Program} {w : World} {H' : Hp} {h' : Heap} {kvs : List (Key × V)} {vs : List (Key × Value)} (z : kvs.length ≤ sizeLine) (hd : (a == sysModules) = false) (rel : KV kvs vs) (dd : h'.DictOf (mixKind P w) a vs) :
    ObjOk P w H' h' a (.dK kvs) := ⟨z, hd, vs, rel, dd⟩
/-- d[y] = v -/
theorem d_setItem {H' : Hp} {Q : Unit → Shared → Prop} (hu : A.units + 1 < cLine) (I : Inv X pins σ H s) (g : DPut H a y v H') (ry : RelV y u) (rv : RelV v r) (h : ∀ s', Inv X pins σ H' s' → Q () s') :
    wpAny (model X.prog X.w) A (setItem (.ref a) u r) Q E s := by
  rcases g with ⟨kvs, k, e, ey, l, eH⟩ | ⟨kvs, k, b, e, ey, eb, l, eH⟩
  · subst ey eH
    obtain ⟨z, hd, vs, rel, dd⟩ := dk_of I.hok e
    have hz : vs.length ≤ sizeLine := by rw [← rel.length]; exact z
    have hl : (putK kvs k v).length ≤ sizeLine := by have := length_putK kvs k v; omega
    refine wpAny_setItem_pairs (hsz := hz) (kV_is ry) dd fun h' dd' hs => h _ ?_
    have he : ∃ q, h'.get? a = some q := let ⟨q, _, _, hq, _⟩ := dd'; ⟨q, hq⟩
    exact d_write I (by rw [e]; exact True.intro) hs he (dk_new hl hd (rel.put k rv) dd')
  · subst ey eH
    cases (show u = Value.ref b from ry)
    obtain ⟨z, hd, xs, rel, dd⟩ := dt_of I.hok e
    have hz : xs.length ≤ sizeLine := by rw [← Paired.length rel]; exact z
    have hl : (putK kvs k v).length ≤ sizeLine := by have := length_putK kvs k v; omega
    refine wpAny_setItem_heap (hsz := hz) (tupleKind_room_in1 hu) (key_of I.hok eb) dd fun h' dd' hs => h _ ?_
    obtain ⟨q, es, ep, hq, h2, h3, h4, _, h5⟩ := dd'
    refine d_write I (by rw [e]; exact True.intro) hs ⟨q, hq⟩ ⟨hl, hd, _, (rel.put k eb rv).keeps fun c ys ec => ?_, q, es, ep, hq, h2, h3, h4, h5⟩
    rw [upd_ne (ne_of ec e (fun z => nomatch z))]
    exact ec
end

section
variable {X : Cx} {pins : List (Addr × Obj)} {σ : St} {H : Hp} {s : Shared} {a : Addr} {kvs : List (Key × V)} {k : Key} {u : Value} {A : Around} {E : Value → Shared → Prop}
end


/-! ### readings and rules -/
/-- the element of a subscription, not a slice -/
def NoSl (i : Expr) : Prop := ∀ ov iv, subscripted i false ov iv = operate [ov, iv] (getItem ov iv)
/-- d[y] -/
def tDGet (td ty : TE) : TE := fun σ H Q => td σ H fun x H1 => ty σ H1 fun y H2 => ∃ a v, x = .ref a ∧ DGet H2 a y (some v) ∧ Q v H2
/-- y in d, y not in d -/
def tDIn (ty td : TE) : TE := fun σ H Q => ty σ H fun y H1 => td σ H1 fun x H2 => ∃ a o, x = .ref a ∧ DGet H2 a y o ∧ Q (.bl o.isSome) H2
def tDNotIn (ty td : TE) : TE := fun σ H Q => ty σ H fun y H1 => td σ H1 fun x H2 => ∃ a o, x = .ref a ∧ DGet H2 a y o ∧ Q (.bl (!o.isSome)) H2
/-- d[y] = v -/
def sDPut (td ty tv : TE) : TS := fun D σ H => tv σ H fun v H1 => td σ H1 fun x H2 => ty σ H2 fun y H3 => ∃ a H4, x = .ref a ∧ DPut H3 a y v H4 ∧ D.nx σ H4
/-- d[y] op= v -/
def sDAug (td ty tv : TE) (rd : V → V → Hp → VK → Prop) : TS := fun D σ H => td σ H fun x H1 => ty σ H1 fun y H2 => ∃ a v, x = .ref a ∧ DGet H2 a y (some v) ∧
  tv σ H2 fun y2 H3 => rd v y2 H3 fun z H4 => ∃ H5, DPut H4 a y z H5 ∧ D.nx σ H5
/-- del d[y] -/
def sDDel (td ty : TE) : TS := fun D σ H => td σ H fun x H1 => ty σ H1 fun y H2 => ∃ a kvs k, x = .ref a ∧ H2 a = some (.dK kvs) ∧ y = kV k ∧ (valV kvs k).isSome = true ∧ D.nx σ (upd H2 a (.dK (dropK kvs k)))

section
variable {X : Cx} {o i e value : Expr} {pos pos' tpos : Pos} {td ty tv : TE}
end


/-! ### displays -/
theorem dk_empty {P : Program} {w : World} {H : Hp} (h : Heap) (hb : sysModules < h.objs.size) : ObjOk P w H (h.push { cls := .type "dict", data := .dict #[] }) h.objs.size (.dK []) :=
  ⟨Nat.zero_le _, beq_eq_false_iff_ne.mpr (Ne.symm (Nat.ne_of_lt hb)), [], .nil, Heap.DictOf.new h⟩
/-- {}, to be a dict of the kind that is wanted -/
def tDNewK : TE := fun _ H Q => ∀ p, H p = none → Q (.ref p) (upd H p (.dK []))
def tDNewT : TE := fun _ H Q => ∀ p, H p = none → Q (.ref p) (upd H p (.dT []))
section
variable {X : Cx} {pos : Pos}
theorem pe_dnewK : PE X (.Dict [] [] pos) tDNewK := fun pins s σ H Q I h =>
  wpAny_Dict_empty ⟨.ref s.heap.objs.size, _, I.laid (a := s.heap.objs.size) (o := .dK []) (t' := s.toks) (fun _ _ q => Heap.get?_push_of_some _ q) (Nat.le_refl _) (dk_empty s.heap I.big), rfl, h _ (I.hok.fresh (Nat.le_refl _))⟩
end

/-- the pairs of a display, from the left -/
def tPairs : List (TE × TE) → St → Hp → (List (V × V) → Hp → Prop) → Prop
  | [], _, H, Q => Q [] H
  | (tk, tv) :: r, σ, H, Q => tk σ H fun x H1 => tv σ H1 fun y H2 => tPairs r σ H2 fun ps H3 => Q ((x, y) :: ps) H3
abbrev VV : List (V × V) → List (Value × Value) → Prop := Paired fun p q => RelV p.1 q.1 ∧ RelV p.2 q.2
def PPs (X : Cx) (pos : Pos) (keys : List (Option Expr)) (values : List Expr) (trs : List (TE × TE)) : Prop :=
  ∀ (pins : List (Addr × Obj)) (s : Shared) (σ : St) (H : Hp) (Q : List (V × V) → Hp → Prop), Inv X pins σ H s → tPairs trs σ H Q →
    wpAny (model X.prog X.w) X.A (evalPairs (pairTrees keys values X.env pos)) (fun vs s' => ∃ ps H', Inv X pins σ H' s' ∧ VV ps vs ∧ Q ps H') X.xe s
def mergeK (kvs more : List (Key × V)) : List (Key × V) := more.foldl (fun acc kv => putK acc kv.1 kv.2) kvs
/-- {k: v, ..} with keys ints and texts; the new dict stands empty while the pairs are made -/
def tDisp (trs : List (TE × TE)) : TE := fun σ H Q => ∀ p, H p = none → tPairs trs σ (upd H p (.dK [])) fun ps H2 => H2 p = some (.dK []) ∧ ∃ kvs : List (Key × V), ps = kvs.map (fun kv => (kV kv.1, kv.2)) ∧ kvs.length ≤ 15 ∧ Q (.ref p) (upd H2 p (.dK (mergeK [] kvs)))
/-! ### methods -/
/-- a method call o.m(e) of a built-in, with one argument: what must be seen of the text -/
structure M1 (X : Cx) (o : Expr) (m : Str) (apos : Pos) (e : Expr) (cpos : Pos) : Prop where
  base : attributeBase o m X.env (eval o X.env) = eval o X.env
  few : ((backTo cpos (starEach [e] X.env)).all (fun x => !x.1) && (backToKw cpos (keywordEach [] X.env)).all (fun x => x.1.isSome)
    && decide (([e] : List Expr).length + ([] : List Keyword).length + (if ([] : List Keyword).isEmpty then 0 else 1) < 30)) = true
  line : (apos.endLine == cpos.line) = true
  trees : backTo cpos (starEach [e] X.env) = [(false, eval e X.env)]
structure M2 (X : Cx) (o : Expr) (m : Str) (apos : Pos) (e f : Expr) (cpos : Pos) : Prop where
  base : attributeBase o m X.env (eval o X.env) = eval o X.env
  few : ((backTo cpos (starEach [e, f] X.env)).all (fun x => !x.1) && (backToKw cpos (keywordEach [] X.env)).all (fun x => x.1.isSome)
    && decide (([e, f] : List Expr).length + ([] : List Keyword).length + (if ([] : List Keyword).isEmpty then 0 else 1) < 30)) = true
  line : (apos.endLine == cpos.line) = true
  trees : backTo cpos (starEach [e, f] X.env) = [(false, eval e X.env), (false, eval f X.env)]

/-- a is a dict, whatever its keys -/
def IsD (H : Hp) (a : Addr) : Prop := (∃ kvs, Rd H a (.dK kvs)) ∨ ∃ kvs, Rd H a (.dT kvs)
theorem isD_at {X : Cx} {pins : List (Addr × Obj)} {σ : St} {H : Hp} {s : Shared} {a : Addr} (I : Inv X pins σ H s) (d : IsD H a) :
    s.TypeIs (.ref a) "dict" ∧ (∀ b, Value.ref a = .ref b → ∃ ob, s.heap.get? b = some ob ∧ ob.dict = none) ∧ (a == sysModules) = false := by
  rcases d with ⟨kvs, e⟩ | ⟨kvs, e⟩
  · obtain ⟨_, hd, vs, _, dd⟩ := dk_rd I.hok e
    refine ⟨dd.typeIs, fun b q => ?_, hd⟩
    cases q
    obtain ⟨ob, _, _, h1, h2, _⟩ := dd
    exact ⟨ob, h1, h2.2.1⟩
  · obtain ⟨_, hd, xs, _, dd⟩ := dt_rd I.hok e
    refine ⟨dd.typeIs, fun b q => ?_, hd⟩
    cases q
    obtain ⟨ob, _, _, h1, h2, _⟩ := dd
    exact ⟨ob, h1, h2.2.1⟩

section
variable {X : Cx} {pins : List (Addr × Obj)} {σ : St} {H : Hp} {s : Shared} {a : Addr} {y d : V} {u r : Value} {o : Option V} {A : Around} {E : Value → Shared → Prop}
/-- d.get(y, x) -/
theorem d_get2 {Q : Value → Shared → Prop} (hu : A.units + 1 < cLine) (I : Inv X pins σ H s) (g : DGet H a y o) (ry : RelV y u) (rd : RelV d r) (h : ∀ w' s', Inv X pins σ H s' → RelV (o.getD d) w' → Q w' s') :
    wpAny (model X.prog X.w) A (call (.builtin "dict.get") [.ref a, u, r]) Q E s := by
  rcases g with ⟨kvs, k, e, ey, l⟩ | ⟨kvs, k, b, e, ey, eb, l⟩
  · subst ey
    obtain ⟨z, hd, vs, rel, dd⟩ := dk_rd I.hok e
    refine call_meetsIn PySem.F.slot_dict_get dd.typeIs PySem.F.entry_dict_get (PySem.F.args_dict_get_3 _ _ _) (meets_dict_get_default (mixKind X.prog X.w) a (kV_is ry) hd r) ⟨_, dd.mapOf, h _ _ (I.tok _) ?_⟩
    rw [l]
    exact (rel.val k).getD rd
  · subst ey
    cases (show u = Value.ref b from ry)
    obtain ⟨z, hd, xs, rel, dd⟩ := dt_rd I.hok e
    refine call_meetsIn PySem.F.slot_dict_get dd.typeIs PySem.F.entry_dict_get (PySem.F.args_dict_get_3 _ _ _) (meetsH_dict_get_default (tupleKind (mixKind X.prog X.w)) a b hd r) ⟨tupleKind_room_in1 hu, k, xs, key_of I.hok eb, dd, h _ _ (I.tok _) ?_⟩
    rw [l]
    exact (rel.val k).getD rd
end

def tDGet1 (td ty : TE) : TE := fun σ H Q => td σ H fun x H1 => ∃ a, x = .ref a ∧ IsD H1 a ∧ ty σ H1 fun y H2 => ∃ o, DGet H2 a y o ∧ Q (o.getD .non) H2
def tDGet2 (td ty tx : TE) : TE := fun σ H Q => td σ H fun x H1 => ∃ a, x = .ref a ∧ IsD H1 a ∧ ty σ H1 fun y H2 => tx σ H2 fun z H3 => ∃ o, DGet H3 a y o ∧ Q (o.getD z) H3
/-- d.pop(k): there; d.pop(k, x): there or not -/
def tDPop1 (td ty : TE) : TE := fun σ H Q => td σ H fun x H1 => ∃ a, x = .ref a ∧ IsD H1 a ∧ ty σ H1 fun y H2 => ∃ kvs k v, H2 a = some (.dK kvs) ∧ y = kV k ∧ valV kvs k = some v ∧ Q v (upd H2 a (.dK (dropK kvs k)))
def tDPop2 (td ty tx : TE) : TE := fun σ H Q => td σ H fun x H1 => ∃ a, x = .ref a ∧ IsD H1 a ∧ ty σ H1 fun y H2 => tx σ H2 fun z H3 => ∃ kvs k, H3 a = some (.dK kvs) ∧ y = kV k ∧
  (∀ v, valV kvs k = some v → Q v (upd H3 a (.dK (dropK kvs k)))) ∧ (valV kvs k = none → Q z H3)
section
variable {X : Cx} {o e f : Expr} {apos cpos : Pos} {td ty tx : TE}
theorem pe_dget2 (hu : X.A.units + 1 < cLine) (ho : PE X o td) (he : PE X e ty) (hf : PE X f tx) (m : M2 X o "get" apos e f cpos) : PE X (.Call (.Attribute o "get" apos) [e, f] [] cpos) (tDGet2 td ty tx) := by
  intro pins s σ H Q I h
  refine wpAny_Call_method m.base m.few m.line PySem.F.plainAttrs_dict PySem.F.slot_dict_get PySem.F.type_dict_get (thn (ho pins s σ H _ I h) fun u s1 ⟨x, H1, I1, rx, a, ex, d, q1⟩ => ?_)
  subst ex
  obtain rfl : u = Value.ref a := rx
  obtain ⟨t1, t2, _⟩ := isD_at I1 d
  refine ⟨t1, t2, ?_⟩
  rw [m.trees]
  refine Calls.callWith_builtin rfl (Calls.evalArgs_plain (Calls.spliced_cons (thn (he pins s1 σ H1 _ I1 q1) fun iv s2 ⟨y, H2, I2, ry, q2⟩ =>
    Calls.spliced_cons (thn (hf pins s2 σ H2 _ I2 q2) fun fv s3 ⟨z, H3, I3, rz, ov, g, q3⟩ => Calls.spliced_nil ?_))))
  exact d_get2 hu I3 g ry rz fun w' s4 I4 rw' => ⟨_, H3, I4, rw', q3⟩
end

/-! ### dict(d): a copy -/
section
variable {X : Cx} {pins : List (Addr × Obj)} {σ : St} {H : Hp} {s : Shared} {a : Addr} {kvs : List (Key × V)} {A : Around} {E : Value → Shared → Prop}
end


section
variable {X : Cx} {pins : List (Addr × Obj)} {σ : St} {H : Hp} {s : Shared} {a : Addr} {y : V} {u : Value} {A : Around} {E : Value → Shared → Prop}
end
end L2


namespace Att
open PySem PySem.W PySem.Calls PyProof.Rows

/-! ### the script -/
theorem ints_of_wellAll {P : Params} {h : Heap} : ∀ (ns : List Int) (vs : List Value), WellAll P h vs (ns.map WData.int) → IntsAre vs ns := by
  intro ns
  induction ns with
  | nil =>
    intro vs w
    rw [List.map_nil] at w
    cases w
    exact .nil
  | cons n ns ih =>
    intro vs w
    rw [List.map_cons] at w
    cases w with
    | cons a b =>
      cases a
      exact .cons _ _ (ih _ b)

theorem script_of {l : OpenLaw} {n : Nat} (hn : l.most = some n) {P : Params} {h : Heap} {args : List WData} {vals : List Value}
    (hpre : l.row.toRowW.claim.pre args = true) (hwl : WellAll P h vals args) :
    ∃ a vs ns, vals = [Value.ref a] ∧ args = [WData.list (ns.map WData.int)] ∧ h.get? a = some { cls := .type "list", data := .seq vs.toArray } ∧ IntsAre vs ns ∧ ns.length ≤ n := by
  have hsh : WShape.hasAll [] args [.list .int] = true := (pre_splitW hpre).1
  have hc : l.pre.holds [] { args := args } = true := (pre_splitW hpre).2
  obtain ⟨d, r, rfl, h1, h2⟩ := hasAllW_cons hsh
  obtain rfl := hasAllW_nil h2
  obtain ⟨xs, rfl, h3⟩ := hasW_list h1
  obtain ⟨ns, rfl⟩ := items_int h3
  have hlen : ns.length ≤ n := by
    unfold OpenLaw.pre at hc
    have h4 : (WTm.not (.lt (.lit (.int (n : Int))) (.len (.arg 0)))).holds [] { args := [.list (ns.map .int)] } = true := by
      have h4 := (holds_andW hc).1
      rw [hn] at h4
      exact h4
    have h5 := condW_of h4 (w_not (w_lt w_lit (w_len_list (w_arg rfl))))
    rw [List.length_map] at h5
    refine Nat.le_of_not_lt fun q => ?_
    have q' : (n : Int) < ((ns.length : Nat) : Int) := by omega
    first
      | (rw [decide_eq_true q'] at h5; exact absurd h5 (by decide))
      | (simp at h5; omega)
  cases hwl with
  | cons w1 w2 =>
    cases w2
    cases w1 with
    | list ho hall => exact ⟨_, _, ns, rfl, rfl, ho, ints_of_wellAll ns _ hall, hlen⟩

theorem post_true (l : OpenLaw) (args : List WData) : l.row.toRowW.claim.post args (.bool true) args = true :=
  postW_of (r := l.row.toRowW) (X := (true == true))
    (show WShape.has [] (.bool true) .bool = true by first | rfl | decide | simp [WShape.has, WShape.arms, WShape.armsAll])
    (show (WTm.eq .res (.lit (.bool true))).value [] { args := args, res := some (.bool true), after := args } = some (.bool (true == true)) from w_eq_bool (w_res rfl) w_lit) rfl

/-! ### the attachment: holds_open's last premise (the goal 'hc' behind k_head) from a wpAny of the law's body -/
/-- the same from a codeAny of the CALL (for a layer whose function contracts speak of calls) -/
theorem attach_call {l : OpenLaw} {n : Nat} {q : Program} {loose : List Str} {XP : (Str → Option Value) → Heap → Prop} {YP : World → Heap → Prop} {d : DefRec}
    (hn : l.most = some n) (hdf : d.params.defaults = [])
    (call : ∀ (w : World) (s₀ s₁ : Shared) (mg mb : Str → Option Value) (fa : Addr) (o : Obj) (pm cd doc : Value) (a : Addr) (vs : List Value) (ns : List Int),
      Ground q loose [] XP w s₀ mg mb s₁.heap → YP w s₁.heap →
      s₁.heap.get? fa = some o → o.data = .func (docDef d.name d.params d.body d.scope pm cd doc) → s₁.heap.CodeRec cd d.name → mg d.name = some (.ref fa) →
      s₁.heap.get? a = some { cls := .type "list", data := .seq vs.toArray } → IntsAre vs ns → ns.length ≤ n → s₁.gens = #[] →
      codeAny (model l.prog w) callerA (.call (.ref fa) ⟨[.ref a], []⟩) (fun r s' => r = .ok (.ret (.bool true)) ∧ OldK s₁.heap s'.heap ∧ s'.os = s₁.os ∧ AllBare s'.gens) s₁) :
    WalkO q loose XP YP l.row.toRowW d [] (fun f vs => PySem.call f vs) := by
  intro w s₀ s₁ mg mb G Y fa o pm cd doc dV kV ho hd hcd hD hmg hg args vals as hpre hlay hrd hwl hlo
  obtain rfl : dV = .none := Dflts.none hD hdf
  obtain rfl : kV = .none := Dflts.noKw hD
  obtain ⟨a, vs, ns, rfl, rfl, hobj, hints, hlen⟩ := script_of hn hpre hwl
  refine enter_call (codeAny_mono (call w s₀ s₁ mg mb fa o pm cd doc a vs ns G Y ho (fd_plain hd) hcd hmg hobj hints hlen hg) fun r s' hq => ?_)
  obtain ⟨rfl, h2, h3, h4⟩ := hq
  exact ⟨.inl ⟨.bool true, .bool true, [], rfl, fun _ => rfl, .bool true, post_true l _, fun _ => ⟨List.Pairwise.nil, fun _ hm => (nomatch hm)⟩⟩, h2, h3, h4⟩

/-! ### rules over ANY heap (no ledger) from facts about the written part K: the library's own take a ledger (News) for what they write -/
section
variable {prog : Program} {w : World} {A : Around} {E : Value → Shared → Prop} {s : Shared} {K : Frag}

/-! the whole heap as the ledger: makes every rule that writes through a ledger a rule over any heap -/
def noObjs (h : Heap) : Heap := { h with objs := #[] }
def ledger (h : Heap) (L d : Addr) : List (Addr × Obj) := (List.range h.objs.size).filterMap fun a => if a = L ∨ a = d then none else (h.get? a).map fun o => (a, o)
end
end Att

namespace L2
open PySem PySem.Spec PyProof.Rows

theorem vals_ints : ∀ {vs : List Value} {ns : List Int}, IntsAre vs ns → Vals (ns.map V.int) vs
  | _, _, .nil => .nil
  | _, _, .cons n t h => .cons ⟨t, rfl⟩ (vals_ints h)

/-- nothing is tracked but the script, known to the object (or it is an object of the module) -/
def Only (H : Hp) : Prop := ∀ b, H b = none ∨ ∃ o xs, H b = some (.frz o (.lst xs))

/-- THE HEAD: the law's promise, at the heap behind the top. F, the promise of the law's def, may use that base is part of the heap (so K.In base, base.Ns mainGlobals mg stand in Mod) -/
theorem law_call {P : Program} {w : World} {K : PySem.W.Frag} {mg mb : Str → Option Value} {CX : CXT} {k : Nat} {fa a : Addr} {fd : FuncData} {x : Str} {sp : Sp} {s₁ : Shared} {vs : List Value} {ns : List Int}
    (KX : K.In s₁.heap) (hns : s₁.heap.Ns mainGlobals mg) (hb : s₁.heap.Ns builtinsNs mb) (hbb : ∀ x : Str, x ≠ "__name__" → mb x = bootBuiltins x) (hlim : s₁.heap.NoLimit) (hg : s₁.gens = #[])
    (ha : s₁.heap.get? a = some { cls := .type "list", data := .seq vs.toArray }) (hi : IntsAre vs ns) (hl : ns.length ≤ sizeLine) (hr : Room k callerA)
    (F : ∀ base : Heap, K.In base → base.Ns mainGlobals mg → FnOk P w K mg base CX k fa fd [x] sp) (hbind : ∀ (s : Shared) (u : Value), BindsTo s fd ⟨[u], []⟩ [(x, u)])
    (hsp : ∀ H : Hp, Only H → SqL K H a (ns.map V.int) → sp [.ref a] H (fun v _ => v = .bl true) fun _ _ _ => False)
    (hCX : ∀ H e s', CX [] H s₁ (fun _ _ _ => False) e s' → False) :
    codeAny (model P w) callerA (.call (.ref fa) ⟨[.ref a], []⟩) (fun r s' => r = .ok (.ret (.bool true)) ∧ OldK s₁.heap s'.heap ∧ s'.os = s₁.os ∧ AllBare s'.gens) s₁ := by
  have rv := vals_ints hi
  have lenV := hi.length
  -- from an abstract heap in which nothing but the script may be tracked
  have core : ∀ H : Hp, Only H → SqL K H a (ns.map V.int) → HOk P w H s₁.heap → (∀ b, H b ≠ none → b = a) → (H a ≠ none → K.lookup a = none) →
      codeAny (model P w) callerA (.call (.ref fa) ⟨[.ref a], []⟩) (fun r s' => r = .ok (.ret (.bool true)) ∧ OldK s₁.heap s'.heap ∧ s'.os = s₁.os ∧ AllBare s'.gens) s₁ := by
    intro H hO hS hok hA hK
    have base_of : ∀ {b : Addr} {o : Obj}, s₁.heap.get? b = some o → H b = none → (hidT s₁.heap H).get? b = some o := fun e n => hidT_get e n
    have noA : ∀ {b : Addr} {o : Obj} {es : Array DictEntry} {ep : Nat}, s₁.heap.get? b = some o → o.data = .dict es ep → H b = none := fun {b o es ep} e d => by
      cases q : H b with
      | none => rfl
      | some u =>
        have e' : b = a := hA b (by rw [q]; simp)
        subst e'
        rw [ha] at e; cases e
        have d' : Data.seq vs.toArray _ = Data.dict es ep := d
        cases d'
    have nsK : ∀ {b : Addr} {m : Str → Option Value}, s₁.heap.Ns b m → (hidT s₁.heap H).Ns b m := fun {b m} ⟨o, es, ep, e, d, r⟩ => ⟨o, es, ep, base_of e (noA e d), d, r⟩
    have hKb : K.In (hidT s₁.heap H) := fun b o e => base_of (KX b o e) (by
      cases q : H b with
      | none => rfl
      | some u =>
        have e' : b = a := hA b (by rw [q]; simp)
        subst e'
        rw [hK (by rw [q]; simp)] at e; cases e)
    have hM : Mod K mg (hidT s₁.heap H) := ⟨hKb, nsK hns, ⟨mb, nsK hb, hbb⟩, let ⟨mc, h1, h2⟩ := hlim; ⟨mc, nsK h1, h2⟩⟩
    have e0 : Env0 P w K mg (hidT s₁.heap H) callerA [] s₁ H := ⟨rfl, hM, fun b o e => of_hidT e, Nat.le_of_eq (hidT_size _ _), trivial, fun b hb => absurd (show b ∈ ([] : List Addr) from hb) (by simp), hok, .of_eq hg⟩
    refine codeAny_mono ((F _ hKb (nsK hns)).run callerA [] s₁ H ⟨[.ref a], []⟩ [.ref a] [.ref a] _ _ hr e0 (hbind s₁ (.ref a)) (.cons rfl .nil) (hsp H hO hS)) fun r s' h => ?_
    cases r with
    | error e => exact (hCX H e s' h).elim
    | ok fl =>
      cases fl with
      | next => exact False.elim h
      | brk => exact False.elim h
      | cont => exact False.elim h
      | ret u =>
        obtain ⟨v, H', os, bare, un, hok', r', q⟩ := h
        have q' : v = .bl true := q
        subst q'
        obtain rfl : u = Value.bool true := r'
        refine ⟨rfl, OldK.of_keep fun b o e => ?_, os, bare⟩
        cases q : H b with
        | none => exact un.keep b o e q (by intro z; exact absurd (show b ∈ ([] : List Addr) from z) (by simp)) (by simp)
        | some u =>
          rcases hO b with z | ⟨ob, xs, z⟩
          · rw [q] at z; cases z
          · have z2 := un.frzs b ob _ z
            obtain ⟨e1, _⟩ := hok b _ z
            obtain ⟨e2, _⟩ := hok' b _ z2
            rw [e] at e1; cases e1
            exact e2
  cases hk : K.lookup a with
  | some o =>
    -- the script is one of the module's own objects
    have e := KX a o hk
    rw [ha] at e
    cases e
    refine core (fun _ => none) (fun _ => .inl rfl) (.inr ⟨_, vs.toArray, _, hk, rfl, rfl, rfl, by rw [List.size_toArray, lenV]; exact hl, by simpa using rv⟩) (fun b u z => by have z' : (none : Option HO) = some u := z; cases z') (fun b z => absurd rfl z) fun z => absurd rfl z
  | none =>
    refine core (fun b => if b = a then some (.frz { cls := .type "list", data := .seq vs.toArray } (.lst (ns.map V.int))) else none) (fun b => ?_) (.inl (.inr ⟨{ cls := .type "list", data := .seq vs.toArray }, if_pos rfl⟩)) (fun b u z => ?_) (fun b z => ?_) fun _ => hk
    · by_cases hb : b = a
      · exact .inr ⟨_, _, if_pos hb⟩
      · exact .inl (if_neg hb)
    · by_cases hb : b = a
      · have z' := (if_pos hb).symm.trans z
        cases z'
        subst hb
        exact ⟨ha, by rw [List.length_map]; exact hl, vs, _, rv, ha⟩
      · have z' := (if_neg hb).symm.trans z
        cases z'
    · by_cases hb : b = a
      · exact hb
      · exact absurd (if_neg hb) z
end L2

namespace L2
open PySem PySem.Spec PyProof.Rows

abbrev KOf {K : PySem.W.Frag} {h : Heap} (_ : K.In h) : PySem.W.Frag := K

/-- the goal that k_head leaves (case hc), from the law's promise. F gives the function object fd (K's own) once, then the promise over every base -/
theorem walk_of {l : PySem.W.OpenLaw} {n k : Nat} {q : Program} {loose : List Str} {XP : (Str → Option Value) → Heap → Prop} {YP : World → Heap → Prop} {d : DefRec} {K : Params → PySem.W.Frag} {CX : World → CXT} {sp : World → Sp} {x : Str}
    (hn : l.most = some n) (hn2 : n ≤ sizeLine) (hdf : d.params.defaults = []) (hr : Room k callerA)
    (hY : ∀ (w : World) (h : Heap), YP w h → (K w.params).In h)
    (F : ∀ (w : World) (mg : Str → Option Value) (fa : Addr) (h : Heap), (K w.params).In h → h.Ns mainGlobals mg → mg d.name = some (.ref fa) →
      ∃ fd : FuncData, (∀ (s : Shared) (u : Value), BindsTo s fd ⟨[u], []⟩ [(x, u)]) ∧
        ∀ base : Heap, (K w.params).In base → base.Ns mainGlobals mg → FnOk l.prog w (K w.params) mg base (CX w) k fa fd [x] (sp w))
    (hsp : ∀ (w : World) (H : Hp) (a : Addr) (ns : List Int), ns.length ≤ n → Only H → SqL (K w.params) H a (ns.map V.int) → sp w [.ref a] H (fun v _ => v = .bl true) fun _ _ _ => False)
    (hCX : ∀ (w : World) (H : Hp) (s : Shared) (e : Value) (s' : Shared), CX w [] H s (fun _ _ _ => False) e s' → False) :
    PySem.W.WalkO q loose XP YP l.row.toRowW d [] (fun f vs => PySem.call f vs) := by
  refine Att.attach_call hn hdf fun w s₀ s₁ mg mb fa o pm cd doc a vs ns G Y ho hd hcd hmg hobj hints hlen hg => ?_
  have KX := hY w _ Y
  obtain ⟨fd, hb, hF⟩ := F w mg fa _ KX G.T.g hmg
  exact law_call KX G.T.g G.T.b G.T.builtins G.T.nolimit hg hobj hints (Nat.le_trans hlen hn2) hr hF hb (fun H hO hS => hsp w H a ns hlen hO hS) fun H e s' => hCX w H s₁ e s'
end L2


/-! SHORT WORDS over the layer: a def of the text, its body, what a loop and a test want. -/
namespace L2
open PySem PySem.Spec PyProof.Rows

/-! ### the text by places -/
/-- the j-th statement of a class's body -/
def inClass (s : Stmt) (j : Nat) : Stmt := match s with
  | .ClassDef _ _ _ body _ _ _ _ _ _ _ => body.getD j (.Pass ⟨0, 0, 0, 0⟩)
  | _ => .Pass ⟨0, 0, 0, 0⟩
def defArgs (s : Stmt) : Arguments := match s with
  | .FunctionDef _ a _ _ _ _ _ _ _ _ => a
  | _ => { posonlyargs := [], args := [], vararg := none, kwonlyargs := [], kw_defaults := [], kwarg := none, defaults := [] }
def defBody (s : Stmt) : List Stmt := match s with
  | .FunctionDef _ _ b _ _ _ _ _ _ _ => b
  | _ => []
def defScope (s : Stmt) : Scope := match s with
  | .FunctionDef _ _ _ _ _ _ sc _ _ _ => sc
  | _ => { kind := .function, names := [], isGenerator := false, isCoroutine := false }

/-! ### no exception leaves a def -/
abbrev CX0 : CXT := fun _ _ _ _ _ _ => False
abbrev E0 : XK := fun _ _ _ => False
theorem pass0 {X : Cx} : Passes CX0 X E0 := fun _ _ _ _ _ _ _ h => h.elim

/-! ### a def (or method) of the text as it stands behind the top -/
structure Fun (K : PySem.W.Frag) (x qual : Str) (st : Stmt) (f : Addr) (fd : FuncData) : Prop where
  ex : ∃ (oc : Value) (od : Option Addr) (kV doc pm : Value) (an : Option Addr) (cdv ct : Value) (osl : Array (Option Value)),
    fd = PySem.W.fnOf x qual (defArgs st) (defBody st) (defScope st) .none kV doc pm an cdv ct ∧ K.lookup f = some ⟨oc, od, .func fd, osl⟩ ∧ PySem.W.codeIn K cdv qual = true
  kp : PySem.W.keepIn K (.ref f) = true
section
variable {P : Program} {w : World} {K : PySem.W.Frag} {mg : Str → Option Value} {base : Heap}
/-- THE RULE for a def: its body as a term of rules, and the reading of that term -/
theorem Fun.ok {x qual : Str} {st : Stmt} {f : Addr} {fd : FuncData} {N ps : List Str} {k : Nat} {sp : Sp} (F : Fun K x qual st f fd) (S : FnScope N ps (defScope st)) (len : ∀ vs H Q E, sp vs H Q E → vs.length = ps.length)
    (hbody : ∀ (cdv : Value) (A : Around) (outer : List Env) (s : Shared) (H : Hp) (vs : List V) (Q : VK) (E : XK), Room k (A.deeper (envOfC qual (defScope st) s.heap.objs.size f cdv)) → sp vs H Q E →
      ∃ t, PSs (cxOf CX0 P w K mg base N qual (defScope st) f cdv A outer s H E).nox (defBody st) t ∧ t { nx := fun _ H' => Q .non H', rt := Q } (start N vs) H) : FnOk P w K mg base CX0 (k + 1) f fd ps sp := by
  obtain ⟨oc, od, kV, doc, pm, an, cdv, ct, osl, rfl, lk, hcd⟩ := F.ex
  refine fn_of lk hcd S len fun A outer s H vs Q E hr hsp => ?_
  obtain ⟨t, h, q⟩ := hbody cdv A outer s H vs Q E hr hsp
  exact ⟨t, h.nox, q⟩
/-- how its arguments bind (no defaults): h is «fun _ _ _ _ _ _ us hl => match us, hl with | [_, _], _ => rfl», one _ a parameter -/
theorem Fun.binds {x qual : Str} {st : Stmt} {f : Addr} {fd : FuncData} {ps : List Str} (F : Fun K x qual st f fd)
    (h : ∀ (kV doc pm : Value) (an : Option Addr) (cdv ct : Value) (us : List Value), us.length = ps.length → bindArgs (PySem.W.fnOf x qual (defArgs st) (defBody st) (defScope st) .none kV doc pm an cdv ct) ⟨us, []⟩ = pure (ps.zip us)) : Binds K fd ps [] := by
  obtain ⟨oc, od, kV, doc, pm, an, cdv, ct, osl, rfl, lk, hcd⟩ := F.ex
  exact .all (h kV doc pm an cdv ct)
theorem fun_mk {x qual : Str} {st : Stmt} {f : Addr} {oc : Value} {od an : Option Addr} {osl : Array (Option Value)} {kV doc pm cdv ct : Value} (l : K.lookup f = some ⟨oc, od, .func (PySem.W.fnOf x qual (defArgs st) (defBody st) (defScope st) .none kV doc pm an cdv ct), osl⟩)
    (c : PySem.W.codeIn K cdv qual = true) (k : PySem.W.keepIn K (.ref f) = true) : Fun K x qual st f (PySem.W.fnOf x qual (defArgs st) (defBody st) (defScope st) .none kV doc pm an cdv ct) := ⟨⟨oc, od, kV, doc, pm, an, cdv, ct, osl, rfl, l, c⟩, k⟩
end
theorem small1000 {n : Nat} (h : n ≤ 1000) : n < sizeLine := Nat.lt_of_le_of_lt h (by decide)

/-! ### expressions in short: the name that stands in the i-th slot -/
section
variable {X : Cx}
theorem pv (i : Nat) {x : Str} {pos : Pos} (hN : X.N[i]? = some x := by rfl) (hv : Vis X.env.scope x := by first | exact Or.inl rfl | exact Or.inr (Or.inl rfl) | exact Or.inr (Or.inr rfl)) (hd : (x == ("__debug__" : Str)) = false := by decide)
    (hcd : (x == ("__classdict__" : Str)) = false := by decide) : PE X (.Name x pos) (tVar i) := pe_var hN hv hd hcd
end

/-! ### tests -/
/-! ### heaps -/
/-- all that was tracked is as it was -/
def Same (H H' : Hp) : Prop := ∀ b o, H b = some o → H' b = some o
theorem Same.refl (H : Hp) : Same H H := fun _ _ h => h
theorem Same.trans {H H1 H2 : Hp} (a : Same H H1) (b : Same H1 H2) : Same H H2 := fun c o h => b c o (a c o h)
theorem Same.free {H H' : Hp} (e : Same H H') {l : Addr} (h : H' l = Option.none) : H l = Option.none := by
  cases q : H l with
  | none => rfl
  | some o =>
    rw [e l o q] at h
    cases h
theorem Same.seq {K : PySem.W.Frag} {H H' : Hp} {a : Addr} {xs : List V} (e : Same H H') (h : SqL K H a xs) : SqL K H' a xs := by
  rcases h with (h | ⟨o, h⟩) | h
  · exact .inl (.inl (e _ _ h))
  · exact .inl (.inr ⟨o, e _ _ h⟩)
  · exact .inr h

section
variable {X : Cx}
end
/-! ### a dict's pairs: keys that differ -/
section
variable {κ : Type} [DecidableEq κ]
end
end L2


/-! ## list comprehensions with one clause, over the hand layer -/
namespace L2
open PySem PySem.Spec PyProof.Rows

theorem clos_go {env : Env} {f : Str × NameKind → List (Str × Addr) → Sem (ForInStep (List (Str × Addr)))}
    (h1 : ∀ n c acc, env.cells.lookup n = some c → f (n, .free) acc = pure (.yield ((n, c) :: acc)))
    (h2 : ∀ n k acc, k ≠ .free → f (n, k) acc = pure (.yield acc)) :
    ∀ (names : List (Str × NameKind)) (acc : List (Str × Addr)), (∀ x ∈ names, x.2 = .free → ∃ c, env.cells.lookup x.1 = some c) → (∀ p ∈ acc, env.cells.lookup p.1 = some p.2) →
      ∃ cl, forIn names acc f = pure cl ∧ (∀ p ∈ cl, env.cells.lookup p.1 = some p.2) ∧ (∀ x ∈ names, x.2 = .free → ∃ c, (x.1, c) ∈ cl) ∧ ∀ p ∈ acc, p ∈ cl := by
  intro names
  induction names with
  | nil => intro acc _ ha; exact ⟨acc, rfl, ha, (fun _ z => nomatch z), fun _ z => z⟩
  | cons x r ih =>
    intro acc hx ha
    obtain ⟨n, k⟩ := x
    by_cases hk : k = .free
    · subst hk
      obtain ⟨c, hc⟩ := hx (n, .free) List.mem_cons_self rfl
      obtain ⟨cl, e, a, b, d⟩ := ih ((n, c) :: acc) (fun y hy => hx y (List.mem_cons_of_mem _ hy)) (fun p hp => by
        rcases List.mem_cons.mp hp with z | z
        · subst z; exact hc
        · exact ha p z)
      refine ⟨cl, ?_, a, fun y hy hyk => ?_, fun p hp => d p (List.mem_cons_of_mem _ hp)⟩
      · rw [List.forIn_cons, h1 n c acc hc, pure_bind]; exact e
      · rcases List.mem_cons.mp hy with z | z
        · subst z; exact ⟨c, d _ List.mem_cons_self⟩
        · exact b y z hyk
    · obtain ⟨cl, e, a, b, d⟩ := ih acc (fun y hy => hx y (List.mem_cons_of_mem _ hy)) ha
      refine ⟨cl, ?_, a, fun y hy hyk => ?_, d⟩
      · rw [List.forIn_cons, h2 n k acc hk, pure_bind]; exact e
      · rcases List.mem_cons.mp hy with z | z
        · subst z; exact absurd hyk hk
        · exact b y z hyk

theorem lookup_mem' {α : Type} : ∀ {l : List (Str × α)} {x : Str} {c : α}, l.lookup x = some c → (x, c) ∈ l
  | [], _, _, h => by simp at h
  | (n, d) :: r, x, c, h => by
    rw [List.lookup_cons] at h
    cases e : x == n with
    | true =>
      rw [e] at h
      have : x = n := by simpa using e
      subst this
      cases h; exact List.mem_cons_self
    | false =>
      rw [e] at h
      exact List.mem_cons_of_mem _ (lookup_mem' h)
theorem lookup_of_mem' {α : Type} : ∀ {l : List (Str × α)} {x : Str} {c : α}, (x, c) ∈ l → ∃ d, l.lookup x = some d
  | [], _, _, h => nomatch h
  | (n, d) :: r, x, c, h => by
    rw [List.lookup_cons]
    cases e : x == n with
    | true => exact ⟨d, rfl⟩
    | false =>
      rcases List.mem_cons.mp h with z | z
      · cases z; simp at e
      · exact lookup_of_mem' z

theorem closureFor_has {scope : Scope} {env : Env} (h : ∀ x ∈ scope.names, x.2 = .free → ∃ c, env.cells.lookup x.1 = some c) :
    ∃ cl : List (Str × Addr), closureFor scope env = pure cl ∧ (∀ x c, cl.lookup x = some c → env.cells.lookup x = some c) ∧ (∀ x ∈ scope.names, x.2 = .free → ∃ c, cl.lookup x.1 = some c) := by
  have key : ∃ cl, closureFor scope env = pure cl ∧ (∀ p ∈ cl, env.cells.lookup p.1 = some p.2) ∧ (∀ x ∈ scope.names, x.2 = .free → ∃ c, (x.1, c) ∈ cl) ∧ ∀ p ∈ ([] : List (Str × Addr)), p ∈ cl := by
    obtain ⟨cl, e, r⟩ := clos_go (env := env) (f := fun x r => match x with
        | (name, kind) => if (kind == NameKind.free) = true then (do let c ← cellOf env name; pure (ForInStep.yield ((name, c) :: r))) else pure (ForInStep.yield r))
      (fun n c acc hc => by simp [cellOf, hc]) (fun n k acc hk => by simp [hk]) scope.names [] h (fun _ z => nomatch z)
    refine ⟨cl, ?_, r⟩
    unfold closureFor
    exact (bind_pure _).trans e
  obtain ⟨cl, e, a, b, _⟩ := key
  refine ⟨cl, e, fun x c hx => a (x, c) (lookup_mem' hx), fun x hx hk => ?_⟩
  obtain ⟨c, hc⟩ := b x hx hk
  exact lookup_of_mem' hc

theorem lookup_relabel_none_or {env : Env} : ∀ {names : List (Str × NameKind)} {x : Str} {k : NameKind},
    (names.map fun (n, k) => if (k == NameKind.free && env.scope.kind == .function && env.kindOf n == some .cell) then (n, NameKind.cell) else (n, k)).lookup x = some k →
    names.lookup x = some k ∨ (k = .cell ∧ names.lookup x = some .free)
  | [], _, _, h => by simp at h
  | (n, k') :: r, x, k, h => by
    have ih := @lookup_relabel_none_or env r x k
    rw [List.map_cons] at h
    by_cases hc : (k' == NameKind.free && env.scope.kind == .function && env.kindOf n == some .cell) = true
    · simp only [hc, if_true] at h
      rw [List.lookup_cons] at h ⊢
      cases hx : x == n with
      | true =>
        rw [hx] at h
        cases h
        simp only [Bool.and_eq_true] at hc
        have : k' = .free := by simpa using hc.1.1
        exact .inr ⟨rfl, by rw [this]⟩
      | false =>
        rw [hx] at h
        exact ih h
    · simp only [hc] at h
      rw [if_neg (by simpa using hc)] at h
      rw [List.lookup_cons] at h ⊢
      cases hx : x == n with
      | true => rw [hx] at h; exact .inl h
      | false => rw [hx] at h; exact ih h
theorem lookup_relabel_free {env : Env} : ∀ {names : List (Str × NameKind)} {x : Str}, names.lookup x = some .free →
    (names.map fun (n, k) => if (k == NameKind.free && env.scope.kind == .function && env.kindOf n == some .cell) then (n, NameKind.cell) else (n, k)).lookup x = some .cell ∨
    (names.map fun (n, k) => if (k == NameKind.free && env.scope.kind == .function && env.kindOf n == some .cell) then (n, NameKind.cell) else (n, k)).lookup x = some .free
  | [], _, h => by simp at h
  | (n, k') :: r, x, h => by
    have ih := @lookup_relabel_free env r x
    rw [List.map_cons]
    dsimp only
    by_cases hc : (k' == NameKind.free && env.scope.kind == .function && env.kindOf n == some .cell) = true
    · simp only [hc, if_true]
      rw [List.lookup_cons] at h
      simp only [List.lookup_cons]
      cases hx : x == n with
      | true => exact .inl rfl
      | false => rw [hx] at h; exact ih h
    · rw [if_neg hc]
      rw [List.lookup_cons] at h
      simp only [List.lookup_cons]
      cases hx : x == n with
      | true => rw [hx] at h; exact .inr h
      | false => rw [hx] at h; exact ih h

/-- the inner slots: none is the block's own, some i the outer slot i that is read there -/
def capt (σ : St) (cap : List (Option Nat)) : St := cap.map fun o => match o with | none => none | some i => (σ[i]?).getD none
def outK (X : Cx) (x : Str) : Bool := X.env.scope.names.lookup x == some .cell || X.env.scope.names.lookup x == some .free
/-- what is asked of a comprehension's scope: a computation -/
structure CompOk (X : Cx) (scope : Scope) (N' : List Str) (cap : List (Option Nat)) : Prop where
  kind : scope.kind = .function
  names : scope.names.all (fun p => p.2 != .local || scope.names.lookup p.1 == some .local) = true
  nocell : scope.names.all (fun p => p.2 != .cell) = true
  out : scope.names.all (fun p => p.2 != .free || outK X p.1) = true
  len : N'.length = cap.length
  cap : (N'.zip cap).all (fun p => match p.2 with | none => true | some i => X.N[i]? == some p.1 && (scope.names.lookup p.1 == some .free && outK X p.1)) = true

def inner (X : Cx) (scope : Scope) (cl : List (Str × Addr)) (C : Addr) (N' : List Str) (fp : List Addr) (s₂ : Shared) (H₂ : Hp) (xe : Value → Shared → Prop) : Cx :=
  { X with N := N', s₀ := s₂, H₀ := H₂, env := compEnvC scope cl C X.env, outer := X.stack, ex := fp, fn := fun _ => false, pn := [], xe := xe }

/-- the tests of a clause -/
def PIfs (X : Cx) (ifs : List Expr) (t : TT) : Prop :=
  ∀ (pins : List (Addr × Obj)) (s : Shared) (σ : St) (H : Hp) (Q : Bool → Hp → Prop), Inv X pins σ H s → t σ H Q →
    wpAny (model X.prog X.w) X.A (forIn ifs true fun c r => if r = true then do let ok ← isTrue c X.env (eval c X.env); pure (ForInStep.yield ok) else pure (ForInStep.yield r)) (TP X pins σ Q) X.xe s
def tTrue : TT := fun _ H Q => Q true H
theorem pifs_nil {X : Cx} : PIfs X [] tTrue := fun _ _ _ H _ I h => by
  rw [List.forIn_nil]
  exact wpAny_pure ⟨H, I, h⟩
theorem pifs_one {X : Cx} {c : Expr} {t : TT} (hc : PT X c t) : PIfs X [c] t := fun pins s σ H Q I h => by
  rw [List.forIn_cons]
  refine wpAny_bind ?_
  rw [if_pos rfl]
  refine wpAny_bind (thn (hc pins s σ H Q I h) fun b s1 q => wpAny_pure ?_)
  show wpAny _ _ (forIn ([] : List Expr) b _) _ _ _
  rw [List.forIn_nil]
  exact wpAny_pure q

/-- a target that stores into the block's own slots alone -/
def KeepsCap (cap : List (Option Nat)) (g : TG) : Prop := ∀ x σ H Q, g x σ H Q → g x σ H fun σ2 H2 => Q σ2 H2 ∧ σ2.length = σ.length ∧ ∀ (j i : Nat), cap[j]? = some (some i) → σ2[j]? = σ[j]?
def KeepsCaps (cap : List (Option Nat)) (g : TGs) : Prop := ∀ xs σ H Q, g xs σ H Q → g xs σ H fun σ2 H2 => Q σ2 H2 ∧ σ2.length = σ.length ∧ ∀ (j i : Nat), cap[j]? = some (some i) → σ2[j]? = σ[j]?
theorem keeps_name {cap : List (Option Nat)} {i : Nat} (h : cap[i]? = some none) : KeepsCap cap (gName i) := fun x σ H Q q => by
  refine ⟨q, by simp, fun j k e => ?_⟩
  have : i ≠ j := by rintro rfl; rw [h] at e; cases e
  rw [List.getElem?_set_ne this]
theorem keeps_two {K : PySem.W.Frag} {cap : List (Option Nat)} {i j : Nat} (hi : cap[i]? = some none) (hj : cap[j]? = some none) : KeepsCap cap (gTup K 2 (gCons (gName i) (gCons (gName j) gNil))) := fun x σ H Q q => by
  obtain ⟨a, xs, e1, h2, h3, v, r, e4, v', r', e5, e6, q⟩ := q
  refine ⟨a, xs, e1, h2, h3, v, r, e4, v', r', e5, e6, q, by simp, fun k l e => ?_⟩
  have n1 : i ≠ k := by rintro rfl; rw [hi] at e; cases e
  have n2 : j ≠ k := by rintro rfl; rw [hj] at e; cases e
  rw [List.getElem?_set_ne n2, List.getElem?_set_ne n1]

/-- the block at an iterator J: W by the turn and a measure, D the list that grows -/
def CompAt (cap : List (Option Nat)) (g : TG) (tt : TT) (te : TE) (σ : St) (Q : VK) (J : It) (H1 : Hp) (D : Addr) : Prop :=
  ∃ W : Nat → Nat → Hp → Prop, (∃ m, W 0 m (upd H1 D (.lst []))) ∧ ∀ i m H, W i m H →
    (J.stop i H ∧ Q (.ref D) H) ∨ (J.go i H ∧ ∃ N : Hp → Prop, (∀ H', N H' → ∃ m', m' < m ∧ W (i + 1) m' H') ∧
      ∀ x H', J.yld i H x H' → g x (capt σ cap) H' fun σ2 H2 => tt σ2 H2 fun b H3 => if b = true then te σ2 H3 fun y H4 => ∃ ys, H4 D = some (.lst ys) ∧ ys.length < sizeLine ∧ N (upd H4 D (.lst (ys ++ [y]))) else N H3)
def tComp (cap : List (Option Nat)) (wi : TI) (g : TG) (tt : TT) (te : TE) : TE := fun σ H Q => wi σ H fun J H1 => ∀ D, H1 D = none → CompAt cap g tt te σ Q J H1 D

section
variable {prog : Program} {w : World} {A : Around} {R : Result → Shared → Prop} {s : Shared}
/-- the block's loop, any target -/
theorem compLoop_go {elt target iter : Expr} {ifs : List Expr} {scope : Scope} {pos : Pos} {it acc : Value} {env : Env} (I : Nat → Shared → Prop)
    (turn : ∀ n s, I n s → wpAny (model prog w) A (pyNext it) (fun r s₁ => match r with
      | none => R (.ok .next) s₁
      | some v => wpAny (model prog w) A (letOwnedTupleGo target it v) (fun _ s₁' => wpAny (model prog w) A (assign target env v) (fun _ s₂ =>
          wpAny (model prog w) A (forIn ifs true fun c r => if r = true then do let ok ← isTrue c env (eval c env); pure (ForInStep.yield ok) else pure (ForInStep.yield r)) (fun ok s₃ =>
            if ok = true then wpAny (model prog w) A (eval elt env) (fun x s₄ =>
              wpAny (model prog w) A (call (.builtin "list.append") [acc, x]) (fun _ s₅ => ∃ m, m < n ∧ I m s₅) (notedBy (model prog w) A env fun e s' => R (.error e) s') s₄) (notedBy (model prog w) A env fun e s' => R (.error e) s') s₃
            else ∃ m, m < n ∧ I m s₃) (notedBy (model prog w) A env fun e s' => R (.error e) s') s₂) (notedBy (model prog w) A env fun e s' => R (.error e) s') s₁') (notedBy (model prog w) A env fun e s' => R (.error e) s') s₁)
      (notedBy (model prog w) A env fun e s' => R (.error e) s') s)
    (n : Nat) (h : I n s) : codeAny (model prog w) A (.compLoop (.ListComp elt [⟨target, iter, ifs, 0⟩] scope pos) 0 it acc env) R s := by
  refine codeAny_loop rfl I (fun n s hI => ?_) n h
  show wpAny _ A ((compTurn (.ListComp elt [⟨target, iter, ifs, 0⟩] scope pos) 0 it acc env).onRaise (fun x => do noteFrame x env; theTreesLotGoes x)) _ _ s
  refine wpAny_noted ?_
  rw [compTurn_list]
  refine wpAny_bind (wpAny_standAt (wpAny_bind (wpAny_mono (turn n s hI) (fun r s₁ h₁ => ?_) fun _ _ h' => h')))
  cases r with
  | none => exact wpAny_pure h₁
  | some v =>
    refine wpAny_bind (wpAny_mono h₁ (fun _ s₁' h₁' => ?_) fun _ _ h' => h')
    refine wpAny_bind (wpAny_mono h₁' (fun _ s₂ h₂ => wpAny_bind (wpAny_mono h₂ (fun ok s₃ h₃ => ?_) fun _ _ h' => h')) fun _ _ h' => h')
    cases ok with
    | false => exact wpAny_pure ⟨rfl, h₃⟩
    | true =>
      exact wpAny_bind (wpAny_bind (wpAny_mono h₃ (fun x s₄ h₄ => wpAny_bind (wpAny_mono h₄ (fun _ s₅ h₅ => wpAny_pure (wpAny_pure ⟨rfl, h₅⟩)) fun _ _ h' => h')) fun _ _ h' => h'))
end

section
variable {X : Cx} {pins : List (Addr × Obj)} {σ : St} {H₂ : Hp} {s₂ : Shared} {N' : List Str} {cap : List (Option Nat)} {scope : Scope} {target iter elt : Expr} {ifs : List Expr} {pos : Pos} {it : Addr} {fp : List Addr} {tn : Nat → Heap → Prop} {J : It}
  {g : TG} {tt : TT} {te : TE} {cl : List (Str × Addr)}

theorem CompOk.nocells (ok : CompOk X scope N' cap) : ∀ y ∈ scope.names, y.2 ≠ .cell := fun y hy z => by
  have := List.all_eq_true.mp ok.nocell y hy
  rw [z] at this
  exact absurd this (by decide)
theorem CompOk.locs (ok : CompOk X scope N' cap) : ∀ y ∈ scope.names, y.2 = .local → scope.names.lookup y.1 = some .local := fun y hy z => by
  have := List.all_eq_true.mp ok.names y hy
  rw [z] at this
  simpa using this
theorem outK_or {x : Str} (h : outK X x = true) : X.env.scope.names.lookup x = some .cell ∨ X.env.scope.names.lookup x = some .free := by
  unfold outK at h
  rw [Bool.or_eq_true] at h
  rcases h with h | h
  · exact .inl (by simpa using h)
  · exact .inr (by simpa using h)
theorem CompOk.outs (ok : CompOk X scope N' cap) : ∀ y ∈ scope.names, y.2 = .free → X.env.scope.names.lookup y.1 = some .cell ∨ X.env.scope.names.lookup y.1 = some .free := fun y hy z => by
  have := List.all_eq_true.mp ok.out y hy
  rw [z] at this
  exact outK_or (by simpa using this)
theorem CompOk.caps (ok : CompOk X scope N' cap) {j i : Nat} {y : Str} (h1 : N'[j]? = some y) (h2 : cap[j]? = some (some i)) :
    X.N[i]? = some y ∧ scope.names.lookup y = some .free ∧ (X.env.scope.names.lookup y = some .cell ∨ X.env.scope.names.lookup y = some .free) := by
  have hm : (y, some i) ∈ N'.zip cap := by
    refine List.mem_of_getElem? (i := j) ?_
    rw [List.getElem?_zip_eq_some]
    exact ⟨h1, h2⟩
  have := List.all_eq_true.mp ok.cap _ hm
  simp only [Bool.and_eq_true] at this
  exact ⟨by simpa using this.1, by simpa using this.2.1, outK_or this.2.2⟩
theorem capt_len : (capt σ cap).length = cap.length := by simp [capt]
theorem capt_get {j : Nat} {v : V} (h : (capt σ cap)[j]? = some (some v)) : ∃ i, cap[j]? = some (some i) ∧ σ[i]? = some (some v) := by
  unfold capt at h
  rw [List.getElem?_map] at h
  cases e : cap[j]? with
  | none => rw [e] at h; cases h
  | some o =>
    rw [e] at h
    cases o with
    | none => cases h
    | some i =>
      refine ⟨i, rfl, ?_⟩
      have h' : (σ[i]?).getD none = some v := Option.some.inj h
      cases e' : σ[i]? with
      | none => rw [e'] at h'; cases h'
      | some z => rw [e'] at h'; exact congrArg some h'

theorem comp_block {Q : VK} {RR : Value → Addr → Result → Shared → Prop} (hc : X.calm = true) (ok : CompOk X scope N' cap) (hcl1 : ∀ x c, cl.lookup x = some c → X.env.cells.lookup x = some c)
    (hcl2 : ∀ x ∈ scope.names, x.2 = .free → ∃ c, cl.lookup x.1 = some c) (I2 : Inv X pins σ H₂ s₂) (T : Turn X.prog X.w X.K target J fp it tn) (st2 : tn 0 s₂.heap) (f2 : ∀ b ∈ fp, FpOk X pins H₂ b)
    (hin : ∀ (cl : List (Str × Addr)) (C : Addr) (fp : List Addr) (s₂ : Shared) (H₂ : Hp) (xe : Value → Shared → Prop), PG (inner X scope cl C N' fp s₂ H₂ xe) target g ∧ PIfs (inner X scope cl C N' fp s₂ H₂ xe) ifs tt ∧ PE (inner X scope cl C N' fp s₂ H₂ xe) elt te)
    (hk : KeepsCap cap g)
    (q : ∀ D, H₂ D = none → CompAt cap g tt te σ Q J H₂ D)
    (fin : ∀ D C H' s', Inv X pins σ H' s' → (∃ m, s'.heap.Ns C m) → FpOk X pins H' C → Q (.ref D) H' → RR (.ref D) C (.ok .next) s') :
    wpAny (model X.prog X.w) X.A (newList []) (fun acc s₃ => wpAny (model X.prog X.w) X.A (newFunctionEnv scope X.env.globals cl [] X.env.qual none .none (some X.env)) (fun cenv s₄ =>
      codeAny (model X.prog X.w) X.A (.compStart (.ListComp elt [⟨target, iter, ifs, 0⟩] scope pos) 0 (.ref it) acc { cenv with scope := relabel scope X.env }) (RR acc cenv.locals) s₄) X.xe s₃) X.xe s₂ := by
  refine wpAny_newObj_type (wpAny_newFunctionEnv ok.nocells (by intro y hy; simp at hy) (fun h₁ hns₁ hsb₁ => ?_) ok.kind)
  dsimp only at hns₁ hsb₁ ⊢
  generalize hH2 : s₂.heap.push { cls := .type "list", dict := none, data := .seq ([] : List Value).toArray } = hp2 at hns₁ hsb₁ ⊢
  have hC : hp2.objs.size = s₂.heap.objs.size + 1 := by rw [← hH2, Heap.size_push]
  have hDC : s₂.heap.objs.size ≠ hp2.objs.size := by rw [hC]; exact Nat.ne_of_lt (Nat.lt_succ_self _)
  have hCle : s₂.heap.objs.size ≤ hp2.objs.size := by rw [hC]; exact Nat.le_succ _
  have below : ∀ b, b < s₂.heap.objs.size → b ≠ hp2.objs.size ∧ b ≠ s₂.heap.objs.size := fun b hb => ⟨by rw [hC]; exact Nat.ne_of_lt (Nat.lt_succ_of_lt hb), Nat.ne_of_lt hb⟩
  have old : ∀ b o, s₂.heap.get? b = some o → h₁.get? b = some o := fun b o e => hsb₁.extBut b o (below b (Heap.lt_size e)).1 (Heap.get?_push_of_some _ (hH2 ▸ Heap.get?_push_of_some _ e))
  have hacc : h₁.get? s₂.heap.objs.size = some { cls := .type "list", dict := none, data := .seq ([] : List Value).toArray } := hsb₁.extBut _ _ hDC (Heap.get?_push_of_some _ (hH2 ▸ Heap.get?_push_size _ rfl))
  have fresh : H₂ s₂.heap.objs.size = none := I2.hok.fresh (Nat.le_refl _)
  have freshC : H₂ hp2.objs.size = none := I2.hok.fresh hCle
  obtain ⟨W, ⟨m0, w0⟩, turn⟩ := q s₂.heap.objs.size fresh
  have fpb : ∀ b ∈ fp, b < s₂.heap.objs.size := fun b hb => by
    obtain ⟨o, e, _⟩ := T.obj 0 _ st2 b hb
    exact Heap.lt_size e
  have ok' : ∀ xe, (inner X scope cl hp2.objs.size N' fp s₂ H₂ xe).Ok := fun xe => {
    mod := I2.ok.mod
    kind := ok.kind
    glob := I2.ok.glob
    blt := I2.ok.blt
    above := hCle
    inj := fun x y c a b => I2.ok.inj x y c (hcl1 x c a) (hcl1 y c b)
    has := fun x hx => by
      have key : ∀ k, (k = NameKind.cell ∨ k = NameKind.free) → (relabel scope X.env).names.lookup x = some k → ∃ c, cl.lookup x = some c := fun k hk hl => by
        rcases lookup_relabel_none_or hl with h | ⟨_, h⟩
        · rcases hk with rfl | rfl
          · exact absurd rfl (ok.nocells _ (lookup_mem' h))
          · exact hcl2 _ (lookup_mem' h) rfl
        · exact hcl2 _ (lookup_mem' h) rfl
      rcases hx with hx | hx
      · exact key _ (.inl rfl) hx
      · exact key _ (.inr rfl) hx
    cab := fun x c h => nomatch h
    hd := I2.ok.hd
    frames := I2.ok.frames
    stk := .inl rfl
    exf := fun b hb => ⟨(below b (fpb b hb)).1, fun x c e => (f2 b hb).2.2.2.2.1 x c (hcl1 x c e)⟩
    bs := I2.bs
    bsz := Nat.le_trans I2.ok.bsz I2.sz
    noex := fun b o e hb => by
      rcases (f2 b hb).2.2.2.1 with z | z
      · exact I2.ok.noex b o e z
      · exact absurd (Nat.lt_of_lt_of_le (Heap.lt_size e) (Nat.le_trans I2.ok.bsz z)) (Nat.lt_irrefl _)
    exfs := fun b hb hs => by
      rcases List.mem_cons.mp (I2.stkSub b hs) with z | z
      · exact (f2 b hb).2.1 z
      · exact (f2 b hb).2.2.1 z
    funs := I2.stack
    frf := I2.stkFree }
  have I4 : ∀ xe tk, Inv (inner X scope cl hp2.objs.size N' fp s₂ H₂ xe) [] (capt σ cap) (upd H₂ s₂.heap.objs.size (.lst [])) { s₂ with heap := h₁, toks := tk } := fun xe tk => {
    ok := ok' xe
    os := rfl
    bare := I2.bare
    base := Un.laid old (Nat.le_refl _) fresh
    loc := ⟨_, hns₁, fun j y v e1 e2 e3 => by
      obtain ⟨i, ec, es⟩ := capt_get e2
      obtain ⟨a1, a2, a3⟩ := ok.caps e1 ec
      obtain ⟨m, hn, hl⟩ := I2.loc
      obtain ⟨u, r, L⟩ := hl i y v a1 es (.inr a3)
      refine ⟨u, r, .inr ⟨lookup_relabel_free a2, ?_⟩⟩
      rcases L with ⟨k, _⟩ | ⟨_, c, e, z⟩
      · have k' : X.env.scope.names.lookup y = some .local := k
        rcases a3 with a3 | a3 <;> · rw [k'] at a3; cases a3
      · obtain ⟨c', hc'⟩ := hcl2 _ (lookup_mem' a2) rfl
        have : c' = c := by
          have e1 := hcl1 _ _ hc'
          have e1' : X.env.cells.lookup y = some c' := e1
          rw [e1'] at e
          exact Option.some.inj e
        subst this
        obtain ⟨o, ho, hd⟩ := z
        exact ⟨c', hc', o, old _ o ho, hd⟩⟩
    cell := fun x c e => by
      obtain ⟨v, o, ho, hd⟩ := I2.cell x c (hcl1 x c e)
      exact ⟨v, o, old _ o ho, hd⟩
    free := by
      show upd H₂ s₂.heap.objs.size (.lst []) hp2.objs.size = none
      rw [upd_ne (Ne.symm hDC)]
      exact freshC
    freeC := fun x c e => by
      obtain ⟨v, o, ho, hd⟩ := I2.cell x c (hcl1 x c e)
      rw [upd_ne (Nat.ne_of_lt (Heap.lt_size ho))]
      exact I2.freeC x c (hcl1 x c e)
    pin := fun p hp => nomatch hp
    hok := I2.hok.laid old (Nat.le_refl _) ⟨Nat.zero_le _, [], 0, .nil, hacc⟩
    len := by rw [capt_len]; exact ok.len.symm }
  have stat : ∀ {xe : Value → Shared → Prop} {H' : Hp}, (∀ b ∈ fp, H' b = none) → ∀ b ∈ fp, FpOk (inner X scope cl hp2.objs.size N' fp s₂ H₂ xe) [] H' b := fun {xe H'} hn b hb =>
    ⟨hn b hb, ((ok' xe).exf b hb).1, (ok' xe).exfs b hb, .inl hb, ((ok' xe).exf b hb).2, fun p hp => nomatch hp⟩
  have st4 : tn 0 h₁ := T.keep _ _ _ st2 fun b _ o e => old b o e
  have loop : ∀ s₃ : Shared, s₃ = { s₂ with heap := h₁, toks := s₂.toks + ([] : List (Str × Value)).length } →
      codeAny (model X.prog X.w) X.A (.compLoop (.ListComp elt [⟨target, iter, ifs, 0⟩] scope pos) 0 (.ref it) (.ref s₂.heap.objs.size) (compEnvC scope cl hp2.objs.size X.env))
        (RR (.ref s₂.heap.objs.size) hp2.objs.size) s₃ := by
    rintro s₃ rfl
    let xe : Value → Shared → Prop := notedBy (model X.prog X.w) X.A (compEnvC scope cl hp2.objs.size X.env) fun e s' => RR (.ref s₂.heap.objs.size) hp2.objs.size (.error e) s'
    obtain ⟨hg, hif, hel⟩ := hin cl hp2.objs.size fp s₂ H₂ xe
    refine compLoop_go (fun n s' => ∃ i H', Inv (inner X scope cl hp2.objs.size N' fp s₂ H₂ xe) [] (capt σ cap) H' s' ∧ tn i s'.heap ∧ (∀ b ∈ fp, H' b = none) ∧ W i n H') ?_ m0
      ⟨0, _, I4 xe _, st4, fun b hb => by rw [upd_ne (below b (fpb b hb)).2]; exact (f2 b hb).1, w0⟩
    rintro n s3 ⟨i, H3, I3, st3, fr3, w3⟩
    rcases turn i n H3 w3 with ⟨stop, qn⟩ | ⟨go, N, hN, step⟩
    · refine thn (T.done (inner X scope cl hp2.objs.size N' fp s₂ H₂ xe) rfl rfl rfl hc i [] s3 _ H3 xe I3 (stat fr3) st3 stop) fun r s4 ⟨hr, I4'⟩ => ?_
      subst hr
      obtain ⟨m, hm, _⟩ := I4'.loc
      refine fin _ _ H3 s4 (I2.call' I4'.os I4'.base I4'.hok I4'.bare fun b hb => ?_) ⟨m, hm⟩ (I2.fpOk hCle I4'.free) qn
      obtain ⟨_, a1, _, a3, a4, a5⟩ := f2 b hb
      exact ⟨a3, a1, a4, a5⟩
    · refine thn (T.item (inner X scope cl hp2.objs.size N' fp s₂ H₂ xe) rfl rfl rfl hc i [] s3 _ H3 xe I3 (stat fr3) st3 go) fun r s4 ⟨u, hr, h4⟩ => ?_
      subst hr
      refine thn h4 fun _ s5 ⟨x, H5, I5, r5, y5, st5, fr5⟩ => ?_
      have I5' := I5.pinned (stat fr5) (T.obj _ _ st5)
      have again : ∀ {σ7 : St} {H7 : Hp} {s7 : Shared}, Inv (inner X scope cl hp2.objs.size N' fp s₂ H₂ xe) ([] ++ pinsAt fp s5.heap) σ7 H7 s7 → (σ7.length = (capt σ cap).length ∧ ∀ j i, cap[j]? = some (some i) → σ7[j]? = (capt σ cap)[j]?) → N H7 →
          ∃ m, m < n ∧ ∃ i H', Inv (inner X scope cl hp2.objs.size N' fp s₂ H₂ xe) [] (capt σ cap) H' s7 ∧ tn i s7.heap ∧ (∀ b ∈ fp, H' b = none) ∧ W i m H' := fun {σ7 H7 s7} I7 k7 n7 => by
        obtain ⟨m', hm, w7⟩ := hN H7 n7
        refine ⟨m', hm, i + 1, H7, I7.unpinned.weak k7.1.symm (fun j v e => ?_), T.keep _ _ _ st5 fun b hb o e => (I7.pin (b, o) (List.mem_append_right _ (List.mem_append_right _ (mem_pinsAt hb e)))).1, fun b hb => ?_, w7⟩
        · obtain ⟨i', ec, _⟩ := capt_get e
          rw [k7.2 j i' ec]
          exact e
        · obtain ⟨o, e, d⟩ := T.obj _ _ st5 b hb
          exact (I7.pin (b, o) (List.mem_append_right _ (List.mem_append_right _ (mem_pinsAt hb e)))).2.1
      refine thn (hg _ s5 _ H5 x u _ I5' r5 (hk _ _ _ _ (step x H5 y5))) fun _ s6 ⟨σ6, H6, I6, q6, k6⟩ => ?_
      refine thn (hif _ s6 σ6 H6 _ I6 q6) fun b s7 ⟨H7, I7, q7⟩ => ?_
      cases b with
      | false =>
        rw [if_neg Bool.false_ne_true] at q7 ⊢
        exact again I7 k6 q7
      | true =>
        rw [if_pos rfl] at q7 ⊢
        refine thn (hel _ s7 σ6 H7 _ I7 q7) fun v s8 ⟨y, H8, I8, r8, ys, hD, hz, q8⟩ => ?_
        exact thn (mt_append _ s8 σ6 H8 (.ref s₂.heap.objs.size) [y] (.ref s₂.heap.objs.size) [v] (fun _ H9 => N H9) I8 rfl (.cons r8 .nil) ⟨_, ys, y, rfl, rfl, hD, hz, q8⟩) fun _ s9 ⟨_, H9, I9, _, n9⟩ => again I9 k6 n9
  exact codeAny_compStart_list (loop _ rfl) (T.self _ 0 _ _ _ st4 (loop _ rfl))

/-- [elt for target in iter if ..] as a value -/
theorem pe_comp {wi : TI} (hc : X.calm = true) (ok : CompOk X scope N' cap) (hi : PI X target iter wi)
    (hin : ∀ (cl : List (Str × Addr)) (C : Addr) (fp : List Addr) (s₂ : Shared) (H₂ : Hp) (xe : Value → Shared → Prop), PG (inner X scope cl C N' fp s₂ H₂ xe) target g ∧ PIfs (inner X scope cl C N' fp s₂ H₂ xe) ifs tt ∧ PE (inner X scope cl C N' fp s₂ H₂ xe) elt te)
    (hk : KeepsCap cap g) (hs : ∀ x, foldedSetIterable iter X.env x = pure x := by intro _; rfl) :
    PE X (.ListComp elt [⟨target, iter, ifs, 0⟩] scope pos) (tComp cap wi g tt te) := by
  intro pins s σ H Q I h
  obtain ⟨cl, hcl, c1, c2⟩ := closureFor_has (scope := scope) (env := X.env) fun x hx hf => I.ok.has x.1 (ok.outs x hx hf)
  rw [eval_ListComp]
  refine wpAny_comprehension_free (use := none) rfl hs hcl ok.kind ok.locs ?_
  refine thn (hi pins s σ H _ I h) fun v s1 h1 => thn h1 fun itv s2 h2 => ?_
  obtain ⟨it, fp, tn, J, H2, e, I2, T, st2, f2, q⟩ := h2
  subst e
  refine comp_block (RR := compPost (model X.prog X.w) X.A X.xe none (EP X pins σ Q)) hc ok c1 c2 I2 T st2 f2 hin hk q ?_
  intro D C H' s' I' hm hC q'
  obtain ⟨m, hm⟩ := hm
  refine ⟨m, hm, fun h' hs' => ⟨.ref D, H', ?_, rfl, q'⟩⟩
  obtain ⟨a0, a1, _, a3, a4, a5⟩ := hC
  exact I'.turned (t' := s'.toks) (fun b o hb e => (hs'.2 b hb).trans e) a0 a1 a3 a4 a5
end
end L2

/-! ## data as trees, ==, isinstance, all, zip, // by great numbers -/
namespace L2
open PySem PySem.Spec PyProof.Rows

/-! ### a value stands for a tree of data in an abstract heap -/
mutual
inductive Rep (G : Hp) : V → PyData → Prop
  | non : Rep G .non .none
  | bl (b : Bool) : Rep G (.bl b) (.bool b)
  | int (i : Int) : Rep G (.int i) (.int i)
  | str (x : Str) : Rep G (.str x) (.str x)
  | lst {a : Addr} {xs : List V} {ds : List PyData} : G a = some (.lst xs) → Reps G xs ds → Rep G (.ref a) (.list ds)
  | tup {a : Addr} {xs : List V} {ds : List PyData} : G a = some (.tup xs) → Reps G xs ds → Rep G (.ref a) (.tuple ds)
  | dct {a : Addr} {kvs : List (Key × V)} : G a = some (.dK kvs) → Rep G (.ref a) (.dict [])
inductive Reps (G : Hp) : List V → List PyData → Prop
  | nil : Reps G [] []
  | cons {v : V} {vs : List V} {d : PyData} {ds : List PyData} : Rep G v d → Reps G vs ds → Reps G (v :: vs) (d :: ds)
end
mutual
theorem Rep.mono {G G' : Hp} (s : Same G G') : ∀ {v : V} {d : PyData}, Rep G v d → Rep G' v d
  | _, _, .non => .non
  | _, _, .bl b => .bl b
  | _, _, .int i => .int i
  | _, _, .str x => .str x
  | _, _, .lst e r => .lst (s _ _ e) (Reps.mono s r)
  | _, _, .tup e r => .tup (s _ _ e) (Reps.mono s r)
  | _, _, .dct e => .dct (s _ _ e)
theorem Reps.mono {G G' : Hp} (s : Same G G') : ∀ {v : List V} {d : List PyData}, Reps G v d → Reps G' v d
  | _, _, .nil => .nil
  | _, _, .cons h t => .cons (Rep.mono s h) (Reps.mono s t)
end
theorem Reps.length {G : Hp} : ∀ {vs : List V} {ds : List PyData}, Reps G vs ds → vs.length = ds.length
  | _, _, .nil => rfl
  | _, _, .cons _ t => by rw [List.length_cons, List.length_cons, Reps.length t]
theorem Reps.get {G : Hp} : ∀ {vs : List V} {ds : List PyData} {i : Nat} {v : V}, Reps G vs ds → vs[i]? = some v → ∃ d, ds[i]? = some d ∧ Rep G v d
  | _, _, _, _, .nil, h => by simp at h
  | _, _, 0, _, .cons r _, h => by simp at h; subst h; exact ⟨_, rfl, r⟩
  | _, _, i + 1, v, .cons _ t, h => by
    obtain ⟨d, e, r⟩ := Reps.get (i := i) (v := v) t (by simpa using h)
    exact ⟨d, by simpa using e, r⟩
theorem Reps.append {G : Hp} : ∀ {vs ws : List V} {ds es : List PyData}, Reps G vs ds → Reps G ws es → Reps G (vs ++ ws) (ds ++ es)
  | _, _, _, _, .nil, s => s
  | _, _, _, _, .cons r t, s => .cons r (Reps.append t s)
theorem Reps.snoc {G : Hp} {vs : List V} {v : V} {ds : List PyData} {d : PyData} (h : Reps G vs ds) (r : Rep G v d) : Reps G (vs ++ [v]) (ds ++ [d]) := h.append (.cons r .nil)
mutual
theorem Rep.reads {P : Program} {w : World} {H : Hp} {h : Heap} (ok : HOk P w H h) : ∀ {v : V} {d : PyData} {u : Value}, Rep H v d → d.canLay0 = true → RelV v u → ∃ as, Reads h u d as
  | _, _, _, .non, _, r => by cases r; exact ⟨_, .none⟩
  | _, _, _, .bl b, _, r => by cases r; exact ⟨_, .bool b⟩
  | _, _, _, .int i, _, r => by obtain ⟨t, rfl⟩ := r; exact ⟨_, .int i t⟩
  | _, _, _, .str x, _, r => by obtain ⟨t, rfl⟩ := r; exact ⟨_, .str x t⟩
  | _, .list ds, _, .lst (a := a) (xs := xs) e q, c, r => by
    cases r
    obtain ⟨_, its, n, rv, g⟩ := (show ObjOk P w H h a (.lst xs) from ok a _ e)
    obtain ⟨as, ra⟩ := Reps.reads ok q (by simpa [PyData.canLay0] using c) rv
    exact ⟨_, .list g rfl rfl (by simpa using ra)⟩
  | _, .tuple ds, _, .tup (a := a) (xs := xs) e q, c, r => by
    cases r
    obtain ⟨_, its, rv, o, g, hc, n, hd⟩ := (show ObjOk P w H h a (.tup xs) from ok a _ e)
    obtain ⟨as, ra⟩ := Reps.reads ok q (by simpa [PyData.canLay0] using c) rv
    exact ⟨_, .tuple g hc hd (by simpa using ra)⟩
  | _, _, _, .dct e, c, r => by simp [PyData.canLay0] at c
theorem Reps.reads {P : Program} {w : World} {H : Hp} {h : Heap} (ok : HOk P w H h) : ∀ {vs : List V} {ds : List PyData} {us : List Value}, Reps H vs ds → PyData.canLayAll0 ds = true → Vals vs us → ∃ as, ReadsAll h us ds as
  | _, _, _, .nil, _, .nil => ⟨_, .nil⟩
  | _, _, _, .cons r t, c, .cons rv rt => by
    have c' := c
    rw [PyData.canLayAll0, Bool.and_eq_true] at c'
    obtain ⟨as, ra⟩ := Rep.reads ok r c'.1 rv
    obtain ⟨bs, rb⟩ := Reps.reads ok t c'.2 rt
    exact ⟨_, .cons ra rb⟩
end

section
variable {X : Cx}
/-- == of two trees -/
def rEqD : R2 := fun x y H Q => ∃ d e, Rep H x d ∧ Rep H y e ∧ SeqAt.shaped d = true ∧ SeqAt.shaped e = true ∧ Q (.bl (PyData.eqv d e)) H
def rNeD : R2 := fun x y H Q => ∃ d e, Rep H x d ∧ Rep H y e ∧ SeqAt.shaped d = true ∧ SeqAt.shaped e = true ∧ Q (.bl (!PyData.eqv d e)) H
theorem op_eqD {k : Nat} (hr : Room k X.A) : OpR X (compareOp .Eq) rEqD := by
  intro pins s σ H x y v u Q I rx ry ⟨d, e, rd, re, sd, se, q⟩
  obtain ⟨as, ra⟩ := rd.reads I.hok (SeqAt.canLay_of_shaped sd) rx
  obtain ⟨bs, rb⟩ := re.reads I.hok (SeqAt.canLay_of_shaped se) ry
  exact eq_dataH ra rb sd se hr.units ⟨.bl _, H, I, rfl, q⟩
theorem op_neD {k : Nat} (hr : Room k X.A) : OpR X (compareOp .NotEq) rNeD := by
  intro pins s σ H x y v u Q I rx ry ⟨d, e, rd, re, sd, se, q⟩
  obtain ⟨as, ra⟩ := rd.reads I.hok (SeqAt.canLay_of_shaped sd) rx
  obtain ⟨bs, rb⟩ := re.reads I.hok (SeqAt.canLay_of_shaped se) ry
  exact ne_dataH ra rb sd se hr.units ⟨.bl _, H, I, rfl, q⟩

/-! ### // by any positive number of at most 8000 bits -/
def CDivB (_ j : Int) : Prop := 0 < j ∧ j.natAbs.log2 < 9000
theorem op_fdivB : OpR X (binaryOp .FloorDiv) (rI CDivB fun i j => .int (i / j)) := opI fun i j _ _ _ _ _ hc q => by
  have h0 : (0 : Int) ≤ j := Int.le_of_lt hc.1
  refine floordiv_int (Int.ne_of_gt hc.1) ?_ (.inl (PyProof.noPylong_of_log2 hc.2))
  rw [Int.fdiv_eq_ediv_of_nonneg _ h0]
  exact q

/-! ### isinstance(x, T), T a built-in class -/
def tyD (H : Hp) : V → Option String
  | .non => some "NoneType"
  | .bl _ => some "bool"
  | .int _ => some "int"
  | .str _ => some "str"
  | .ref a => match H a with
    | some (.lst _) => some "list"
    | some (.frz _ (.lst _)) => some "list"
    | some (.tup _) => some "tuple"
    | some (.dK _) => some "dict"
    | _ => none
  | _ => none
def isB (t T : String) : Bool := t == T || (t == "bool" && T == "int")
def rIsi : List V → Hp → VK → Prop := fun xs H Q => ∃ x t T, xs = [x, .ty T] ∧ T ∈ ["int", "bool", "list", "tuple", "str", "dict"] ∧ tyD H x = some t ∧ Q (.bl (isB t T)) H
/-! ### all(..) of a list of bools -/
/-! ### several records turn at once, and a new object is laid -/
theorem Inv.turnedL {pins : List (Addr × Obj)} {σ : St} {H : Hp} {s : Shared} {h' : Heap} {t' : Nat} {ch : List Addr} {a : Addr} {o : HO} (I : Inv X pins σ H s) (hch : ∀ b ∈ ch, FpOk X pins H b)
    (k : ∀ b ob, b ∉ ch → s.heap.get? b = some ob → h'.get? b = some ob) (ha : s.heap.objs.size ≤ a) (new : ObjOk X.prog X.w (upd H a o) h' a o) : Inv X pins σ (upd H a o) { s with heap := h', toks := t' } := by
  have hn : H a = none := I.hok.fresh ha
  have nch : ∀ b u, H b = some u → b ∉ ch := fun b u e hb => by rw [(hch b hb).1] at e; cases e
  have lt : ∀ b ob, s.heap.get? b = some ob → b ≠ a := fun b ob e => Nat.ne_of_lt (Nat.lt_of_lt_of_le (Heap.lt_size e) ha)
  refine I.step (g' := s.gens) (d' := s.drawn) (ch := ch) (fun b hb => ?_) (fun b ob _ _ hc e _ => k b ob hc e) (fun b ob _ _ hc e _ => ⟨ob.slots, k b ob hc e⟩) (fun b ob _ e n => by rw [upd_ne (lt b ob e)]; exact n)
    (fun b ob hc e => ⟨ob, k b ob hc e⟩) (fun b xs e => by rw [upd_ne (ne_of_none e hn)]; exact e) (fun b ob u e => by rw [upd_ne (ne_of_none e hn)]; exact e) (fun b ps e => ⟨#[], by rw [upd_ne (ne_of_none e hn), e]; simp⟩) (fun m hm => ?_) (fun b u e => ?_) I.bare
  · obtain ⟨_, a1, _, a3, a4, a5⟩ := hch b hb
    exact ⟨a3, a1, a4, a5⟩
  · obtain ⟨ob, es, ep, ho, r⟩ := hm
    exact ⟨ob, es, ep, k _ ob (fun hb => (hch _ hb).2.1 rfl) ho, r⟩
  · by_cases hb : b = a
    · subst hb; rw [upd_same] at e; cases e; exact new
    · rw [upd_ne hb] at e
      refine (I.hok b u e).stay (fun c v hc q => k c v ?_ q) (fun c q => by rw [upd_ne (ne_of_none q hn)]; exact q) fun c xs q => by rw [upd_ne (ne_of_none q hn)]; exact q
      rcases hc with rfl | hc
      · exact nch _ _ e
      · exact nch _ _ hc
theorem Inv.turnedL0 {pins : List (Addr × Obj)} {σ : St} {H : Hp} {s : Shared} {h' : Heap} {t' : Nat} {ch : List Addr} (I : Inv X pins σ H s) (hch : ∀ b ∈ ch, FpOk X pins H b)
    (k : ∀ b ob, b ∉ ch → s.heap.get? b = some ob → h'.get? b = some ob) : Inv X pins σ H { s with heap := h', toks := t' } := by
  have nch : ∀ b u, H b = some u → b ∉ ch := fun b u e hb => by rw [(hch b hb).1] at e; cases e
  refine I.step (g' := s.gens) (d' := s.drawn) (ch := ch) (fun b hb => ?_) (fun b ob _ _ hc e _ => k b ob hc e) (fun b ob _ _ hc e _ => ⟨ob.slots, k b ob hc e⟩) (fun b ob _ e n => n)
    (fun b ob hc e => ⟨ob, k b ob hc e⟩) (fun b xs e => e) (fun b ob u e => e) (fun b ps e => ⟨#[], by rw [e]; simp⟩) (fun m hm => ?_) (fun b u e => ?_) I.bare
  · obtain ⟨_, a1, _, a3, a4, a5⟩ := hch b hb
    exact ⟨a3, a1, a4, a5⟩
  · obtain ⟨ob, es, ep, ho, r⟩ := hm
    exact ⟨ob, es, ep, k _ ob (fun hb => (hch _ hb).2.1 rfl) ho, r⟩
  · refine (I.hok b u e).stay (fun c v hc q => k c v ?_ q) (fun c q => q) fun c xs q => q
    rcases hc with rfl | hc
    · exact nch _ _ e
    · exact nch _ _ hc

/-! ### zip of two lists, walked with a tuple of names -/
def Itz (K : PySem.W.Frag) (a b : Addr) : It :=
  ⟨fun i H => ∃ xs ys x y, SqL K H a xs ∧ SqL K H b ys ∧ xs[i]? = some x ∧ ys[i]? = some y,
   fun i H v H' => ∃ T x y, H T = none ∧ v = .ref T ∧ H' = upd H T (.tup [x, y]) ∧ (∀ xs, SqL K H a xs → xs[i]? = some x) ∧ (∀ ys, SqL K H b ys → ys[i]? = some y),
   fun i H => ∃ xs ys, SqL K H a xs ∧ SqL K H b ys ∧ (xs.length ≤ i ∨ ys.length ≤ i)⟩
structure Zip5 (z TI TO i1 i2 : Addr) : Prop where
  TIz : TI ≠ z
  TOz : TO ≠ z
  i1z : i1 ≠ z
  i2z : i2 ≠ z
  TITO : TI ≠ TO
  TIi1 : TI ≠ i1
  TIi2 : TI ≠ i2
  TOi1 : TO ≠ i1
  TOi2 : TO ≠ i2
  i12 : i1 ≠ i2
def ZipAt (z TI TO i1 i2 a b : Addr) (i : Nat) (h : Heap) : Prop := IsZip h z TI TO .none ∧ IsPair h TI (.ref i1) (.ref i2) ∧ (∃ u v, IsPair h TO u v) ∧ h.IsListIter i1 a i ∧ h.IsListIter i2 b i
theorem ne_cls {h : Heap} {a b : Addr} {o o' : Obj} (e : h.get? a = some o) (e' : h.get? b = some o') (d : o.cls ≠ o'.cls) : a ≠ b := by
  rintro rfl
  rw [e] at e'
  cases e'
  exact d rfl
theorem ZipAt.apart {z TI TO i1 i2 a b : Addr} {i : Nat} {h : Heap} {xs ys : Array Value} (D : Zip5 z TI TO i1 i2) (st : ZipAt z TI TO i1 i2 a b i h) (ha : h.IsList a xs) (hb : h.IsList b ys) : ZipApart z TI TO i1 i2 a b := by
  obtain ⟨hz, _, ⟨u, v, hTO⟩, ⟨o1, h1, c1, _⟩, ⟨o2, h2, c2, _⟩⟩ := st
  obtain ⟨oa, ga, ca, _⟩ := ha
  obtain ⟨ob, gb, cb, _⟩ := hb
  exact ⟨D.TIz, D.TOz, D.i1z, D.i2z, D.TITO, D.TIi1, D.TIi2, D.TOi1, D.TOi2, D.i12,
    ne_cls ga hz (by rw [ca]; show Value.type "list" ≠ Value.type "zip"; decide), ne_cls ga hTO (by rw [ca]; show Value.type "list" ≠ Value.type "tuple"; decide), ne_cls ga h1 (by rw [ca, c1]; decide), ne_cls ga h2 (by rw [ca, c2]; decide),
    ne_cls gb hz (by rw [cb]; show Value.type "list" ≠ Value.type "zip"; decide), ne_cls gb hTO (by rw [cb]; show Value.type "list" ≠ Value.type "tuple"; decide), ne_cls gb h1 (by rw [cb, c1]; decide), ne_cls gb h2 (by rw [cb, c2]; decide)⟩
def iZip (K : PySem.W.Frag) (ta : TA) : TI := fun σ H R => ta σ H fun vs H1 => ∃ a b, vs = [.ref a, .ref b] ∧ (∃ xs, SqL K H1 a xs) ∧ (∃ ys, SqL K H1 b ys) ∧ R (Itz K a b) H1
end
end L2

/-! ## what the readings use: calls by a bundle, comprehensions that are stored, loops over zip, accumulators -/
namespace L2
open PySem PySem.Spec PyProof.Rows

/-- a def of the text with its promise -/
def Def (P : Program) (w : World) (K : PySem.W.Frag) (mg : Str → Option Value) (base : Heap) (x : Str) (k : Nat) (ps : List Str) (sp : Sp) : Prop :=
  ∃ f fd, FnOk P w K mg base CX0 k f fd ps sp ∧ mg x = some (.ref f) ∧ PySem.W.keepIn K (.ref f) = true ∧ Binds K fd ps []
section
variable {X : Cx} {x : Str} {k k' : Nat} {ps : List Str} {sp : Sp} {e : Expr} {es : List Expr} {t : TA} {p pos : Pos}
theorem pe_callD (D : Def X.prog X.w X.K X.mg X.base x k ps sp) (hr : Room k' X.A) (hg : Gl X x) (ha : PA X (e :: es) t) (hk : k ≤ k' := by decide) (hdb : (x == ("__debug__" : Str)) = false := by decide)
    (he : starEach (e :: es) X.env = (false, eval e X.env) :: starEach es X.env := by rfl) (hpl : (backTo pos (starEach es X.env)).any (·.1) = false := by rfl) :
    PE X (.Call (.Name x p) (e :: es) [] pos) (tCall sp [] E0 t) := by
  obtain ⟨f, fd, F, m, kp, b⟩ := D
  exact pe_call F (hr.mono hk) hg m kp b .nil pass0 ha hdb he hpl
/-! the rules whose readings name the fragment, with the fragment as a letter (within a comprehension the context is bound) -/
section
variable {K : PySem.W.Frag}
theorem ix_lt (hK : X.K = K := by rfl) : IxR X (fun x y H Q => rIxL K x y H Q ∨ rIxT K x y H Q) := by subst hK; exact ix_list.or ix_tup
theorem call_lenK (hK : X.K = K := by rfl) : CallR X (.builtin "len") (fun xs H Q => ∃ p ys, xs = [.ref p] ∧ (SqL K H p ys ∨ SqT K H p ys) ∧ Q (.int ys.length) H) := by subst hK; exact call_len_seq
theorem op_inK (hK : X.K = K := by rfl) : OpR X (compareOp .In) (rIn K false) := by subst hK; exact op_in_seq
theorem op_notInK (hK : X.K = K := by rfl) : OpR X (compareOp .NotIn) (rIn K true) := by subst hK; exact op_notIn_seq
theorem call_listK (hK : X.K = K := by rfl) : CallR X (.type "list") (fun xs H Q => ∃ p ys, xs = [.ref p] ∧ (SqL K H p ys ∨ SqT K H p ys) ∧ ∀ l, H l = none → Q (.ref l) (upd H l (.lst ys))) := by subst hK; exact call_list_of
theorem sl_listK (hK : X.K = K := by rfl) : SlR X (rSlL K) := by subst hK; exact sl_list
theorem pi_listK {l tg : Expr} {tl : TE} (hl : PE X l tl) (hK : X.K = K := by rfl) : PI X tg l (iList K tl) := by subst hK; exact pi_list hl
theorem pg_tupK {es : List Expr} {k : Nat} {t : TGs} {n : Nat} (hc : X.calm = true) (h : PGs X es t) (hK : X.K = K := by rfl)
    (hn : (assignEach es X.env).length = n := by rfl) (hst : (assignEach es X.env).findIdx? (·.1) = none := by rfl) : PG X (.Tuple es k pos) (gTup K n t) := by subst hK; exact pg_tup hc h hn hst
end
end

/-! ### a draw: n // 2 ** k % m is some number from 0 to below m -/
section
variable {X : Cx} {a m : Expr} {ta tm : TE} {k : Int} {j1 j2 : Nat} {p1 p2 p3 p4 p5 : Pos}
def tDraw (ta tm : TE) : TE := fun σ H Q => ta σ H fun x H1 => ∃ i : Int, x = .int i ∧ tm σ H1 fun y H2 => ∃ j : Int, y = .int j ∧ 0 < j ∧ ∀ r : Int, 0 ≤ r → r < j → Q (.int r) H2
theorem pow2_ok (n : Nat) (h : n < 9000) (i : Int) : CDivB i ((2 : Int) ^ n) := by
  have e : ((2 : Int) ^ n) = ((2 ^ n : Nat) : Int) := by simp
  rw [e]
  refine ⟨?_, ?_⟩
  · have := Nat.two_pow_pos n
    omega
  · rw [Int.natAbs_natCast, Nat.log2_two_pow]
    exact h
theorem pe_draw (ha : PE X a ta) (hm : PE X m tm) (h0 : 0 ≤ k := by decide) (h1 : k < 9000 := by decide) :
    PE X (.BinOp (.BinOp a .FloorDiv (.BinOp (.Constant (.int 2) j1 p1) .Pow (.Constant (.int k) j2 p2) p3) p4) .Mod m p5) (tDraw ta tm) := by
  intro pins s σ H Q I h
  refine wpAny_BinOp (wpAny_BinOp (thn (ha pins s σ H _ I h) fun v s1 ⟨x, H1, I1, r1, i, ex, q1⟩ => ?_))
  subst ex
  refine thn ((pe_op op_pow pe_int pe_int : PE X (.BinOp (.Constant (.int 2) j1 p1) .Pow (.Constant (.int k) j2 p2) p3) _) pins s1 σ H1 (fun z H' => z = .int ((2 : Int) ^ k.toNat) ∧ H' = H1) I1 ⟨_, _, rfl, rfl, ⟨h0, by omega, by decide⟩, rfl, rfl⟩) fun u s2 ⟨z, H2, I2, rz, ez, eH⟩ => ?_
  subst ez eH
  refine thn (op_fdivB pins s2 σ H2 (.int i) (.int ((2 : Int) ^ k.toNat)) v u (fun z H' => (∃ d : Int, z = .int d) ∧ H' = H2) I2 r1 rz ⟨i, _, rfl, rfl, pow2_ok _ (by omega) _, ⟨_, rfl⟩, rfl⟩) fun v3 s3 ⟨z, H3, I3, r3, ⟨d, ez⟩, eH⟩ => ?_
  subst ez eH
  refine thn (hm pins s3 σ H3 _ I3 q1) fun u4 s4 ⟨y, H4, I4, r4, j, ey, hj, q4⟩ => ?_
  subst ey
  exact op_mod pins s4 σ H4 (.int d) (.int j) v3 u4 Q I4 r3 r4 ⟨d, j, rfl, rfl, hj, q4 _ (Int.emod_nonneg _ (by omega)) (Int.emod_lt_of_pos _ hj)⟩
end

/-! ### a % m, of which only the bounds are wanted -/
section
variable {X : Cx} {a m : Expr} {ta tm : TE} {pos : Pos}
def tModA (ta tm : TE) : TE := fun σ H Q => ta σ H fun x H1 => ∃ i : Int, x = .int i ∧ tm σ H1 fun y H2 => ∃ j : Int, y = .int j ∧ 0 < j ∧ ∀ r : Int, 0 ≤ r → r < j → Q (.int r) H2
theorem pe_modA (ha : PE X a ta) (hm : PE X m tm) : PE X (.BinOp a .Mod m pos) (tModA ta tm) := by
  intro pins s σ H Q I h
  refine wpAny_BinOp (thn (ha pins s σ H _ I h) fun v s1 ⟨x, H1, I1, r1, i, ex, q1⟩ => ?_)
  subst ex
  refine thn (hm pins s1 σ H1 _ I1 q1) fun u4 s4 ⟨y, H4, I4, r4, j, ey, hj, q4⟩ => ?_
  subst ey
  exact op_mod pins s4 σ H4 (.int i) (.int j) v u4 Q I4 r1 r4 ⟨i, j, rfl, rfl, hj, q4 _ (Int.emod_nonneg _ (by omega)) (Int.emod_lt_of_pos _ hj)⟩
end

/-! ### a comprehension's value stored at once -/
section
variable {X : Cx} {N' : List Str} {cap : List (Option Nat)} {scope : Scope} {target iter elt : Expr} {ifs : List Expr} {pos spos px : Pos} {g : TG} {tt : TT} {te : TE} {wi : TI} {i : Nat} {x : Str}
theorem ps_setC (hN : X.N.Nodup) (hi : X.N[i]? = some x) (hx : X.env.scope.names.lookup x = some .local) (hc : X.calm = true) (ok : CompOk X scope N' cap) (hit : PI X target iter wi)
    (hin : ∀ (cl : List (Str × Addr)) (C : Addr) (fp : List Addr) (s₂ : Shared) (H₂ : Hp) (xe : Value → Shared → Prop), PG (inner X scope cl C N' fp s₂ H₂ xe) target g ∧ PIfs (inner X scope cl C N' fp s₂ H₂ xe) ifs tt ∧ PE (inner X scope cl C N' fp s₂ H₂ xe) elt te)
    (hk : KeepsCap cap g) (hsw : swapsWith (.ListComp elt [⟨target, iter, ifs, 0⟩] scope pos) (some (.Name x px)) spos.line X.env = pure true := by rfl) (hs : ∀ x, foldedSetIterable iter X.env x = pure x := by intro _; rfl) :
    PS X (.Assign [.Name x px] (.ListComp elt [⟨target, iter, ifs, 0⟩] scope pos) spos) (tAsg (tComp cap wi g tt te) (gName i)) := by
  intro pins s σ H D I h
  obtain ⟨cl, hcl, c1, c2⟩ := closureFor_has (scope := scope) (env := X.env) fun x hx hf => I.ok.has x.1 (ok.outs x hx hf)
  rw [exec_Assign_Name_used _ _ _ _ hsw]
  refine wpAny_bind (wpAny_standAt (wpAny_bind ?_))
  show wpAny _ X.A (do let _ ← comprehension (.ListComp elt [⟨target, iter, ifs, 0⟩] scope pos) scope X.env _ (newList []) false (eval iter X.env) (some (assign (.Name x px) X.env))) _ _ s
  refine wpAny_bind (wpAny_mono (wpAny_comprehension_free (use := some (assign (.Name x px) X.env)) (Q := fun _ s' => SP X pins D .next s') rfl hs hcl ok.kind ok.locs ?_) (fun _ s' hq => wpAny_pure (wpAny_pure hq)) fun _ _ e => e)
  refine thn (hit pins s σ H _ I h) fun v s1 h1 => thn h1 fun itv s2 h2 => ?_
  obtain ⟨it, fp, tn, J, H2, e, I2, T, st2, f2, q⟩ := h2
  subst e
  refine comp_block (Q := fun x H1 => gName i x σ H1 D.nx) (RR := compPost (model X.prog X.w) X.A X.xe (some (assign (.Name x px) X.env)) (fun _ s' => SP X pins D .next s')) hc ok c1 c2 I2 T st2 f2 hin hk q ?_
  intro D' C H' s' I' hm hC q'
  obtain ⟨m, hm⟩ := hm
  obtain ⟨a0, a1, _, a3, a4, a5⟩ := hC
  refine wpAny_assign_Name (store_ok2 I' hN hi (.inl hx) (v := .ref D') rfl (fun s'' I'' ⟨a, hsb, ha⟩ => ?_) (.inr hx))
  have hne : C ≠ a := by
    rcases ha with ha | ha
    · rw [ha]; exact a1
    · exact fun z => a4 _ _ ha z.symm
  refine ⟨m, hm.sameBut hsb hne, fun h' hs' => ⟨_, H', ?_, q'⟩⟩
  exact I''.turned (t' := s''.toks) (fun b o hb e => (hs'.2 b hb).trans e) a0 a1 a3 a4 a5
end

/-! ### for over zip -/
theorem same_upd {H : Hp} {p : Addr} (h : H p = none) (o : HO) : Same H (upd H p o) := fun b u q => by rw [upd_ne (ne_of_none q h)]; exact q
/-! ### accumulators of comprehensions -/
def del (H : Hp) (D : Addr) : Hp := fun b => if b = D then none else H b
theorem del_same {H : Hp} {D : Addr} : del H D D = none := by unfold del; rw [if_pos rfl]
theorem del_ne {H : Hp} {D b : Addr} (h : b ≠ D) : del H D b = H b := by unfold del; rw [if_neg h]
theorem upd_del {H : Hp} {D : Addr} {o : HO} : upd (del H D) D o = upd H D o := by
  funext b
  unfold upd del
  split <;> rfl
theorem upd_del_self {H : Hp} {D : Addr} {o : HO} (h : H D = some o) : upd (del H D) D o = H := by
  rw [upd_del]
  funext b
  unfold upd
  split
  · rename_i e; rw [e, h]
  · rfl
def CAcc (D : Addr) (Pn : Hp → List V → Prop) : Hp → Prop := fun H' => ∃ G ys, G D = none ∧ H' = upd G D (.lst ys) ∧ Pn G ys
def CPut (D : Addr) (Pn : Hp → List V → Prop) : VK := fun y H4 => ∃ ys, H4 D = some (.lst ys) ∧ ys.length < sizeLine ∧ CAcc D Pn (upd H4 D (.lst (ys ++ [y])))
theorem cput {D : Addr} {Pn : Hp → List V → Prop} {y : V} {H4 : Hp} {ys : List V} (h : H4 D = some (.lst ys)) (hl : ys.length ≤ 1000) (p : Pn (del H4 D) (ys ++ [y])) : CPut D Pn y H4 :=
  ⟨ys, h, small1000 hl, del H4 D, ys ++ [y], del_same, upd_del.symm, p⟩
theorem cskip {D : Addr} {Pn : Hp → List V → Prop} {H3 : Hp} {ys : List V} (h : H3 D = some (.lst ys)) (p : Pn (del H3 D) ys) : CAcc D Pn H3 := ⟨del H3 D, ys, del_same, (upd_del_self h).symm, p⟩
/-- what was there ahead of the block is there when the accumulator is left out -/
theorem same_del {H1 G H4 : Hp} {D : Addr} {o : HO} (h1 : Same H1 G) (hG : G D = none) (hs : Same (upd G D o) H4) : Same H1 (del H4 D) := fun b u e => by
  have e1 := h1 b u e
  have nb : b ≠ D := ne_of_none e1 hG
  rw [del_ne nb]
  exact hs b u (by rw [upd_ne nb]; exact e1)

section
variable {K : PySem.W.Frag} {g : TG} {tt : TT} {te : TE} {σ : St} {cap : List (Option Nat)} {Q : VK} {H1 : Hp} {D : Addr}
/-- the block, whatever it walks -/
theorem comp_it {J : It} {n : Nat} (Pv : Nat → Hp → List V → Prop) (hD : H1 D = none) (h0 : Pv 0 H1 []) (hgo : ∀ i G ys, i < n → G D = none → Pv i G ys → J.go i (upd G D (.lst ys)))
    (hst : ∀ G ys, G D = none → Pv n G ys → J.stop n (upd G D (.lst ys)))
    (step : ∀ i G ys x H', i < n → G D = none → Pv i G ys → J.yld i (upd G D (.lst ys)) x H' → g x (capt σ cap) H' fun σ2 H2 => tt σ2 H2 fun b H3 => if b = true then te σ2 H3 (CPut D (Pv (i + 1))) else CAcc D (Pv (i + 1)) H3)
    (fin : ∀ G ys, G D = none → Pv n G ys → Q (.ref D) (upd G D (.lst ys))) :
    CompAt cap g tt te σ Q J H1 D := by
  refine ⟨fun i m H => m = n - i ∧ i ≤ n ∧ CAcc D (Pv i) H, ⟨n, by simp, Nat.zero_le _, H1, [], hD, rfl, h0⟩, ?_⟩
  rintro i m H ⟨rfl, hi, G, ys, hG, rfl, p⟩
  by_cases hlt : i < n
  · exact .inr ⟨hgo i G ys hlt hG p, CAcc D (Pv (i + 1)), fun H' q => ⟨n - (i + 1), by omega, rfl, hlt, q⟩, fun x H' y => step i G ys x H' hlt hG p y⟩
  · have e : i = n := by omega
    subst e
    exact .inl ⟨hst G ys hG p, fin G ys hG p⟩
theorem comp_list {a : Addr} {xs : List V} (Pv : Nat → Hp → List V → Prop) (hD : H1 D = none) (h0 : Pv 0 H1 []) (hl : ∀ i G ys, Pv i G ys → SqL K G a xs)
    (step : ∀ i x G ys, xs[i]? = some x → G D = none → Pv i G ys → g x (capt σ cap) (upd G D (.lst ys)) fun σ2 H2 => tt σ2 H2 fun b H3 => if b = true then te σ2 H3 (CPut D (Pv (i + 1))) else CAcc D (Pv (i + 1)) H3)
    (fin : ∀ G ys, G D = none → Pv xs.length G ys → Q (.ref D) (upd G D (.lst ys))) :
    CompAt cap g tt te σ Q (Itl K a) H1 D := by
  refine comp_it (J := Itl K a) (n := xs.length) Pv hD h0 (fun i G ys hi hG p => ⟨xs, xs[i], (same_upd hG _).seq (hl i G ys p), by simp [hi]⟩) (fun G ys hG p => ⟨xs, (same_upd hG _).seq (hl _ G ys p), Nat.le_refl _⟩) (fun i G ys x H' hi hG p y => ?_) fin
  obtain ⟨e, y⟩ := y
  subst e
  exact step i x G ys (y xs ((same_upd hG _).seq (hl i G ys p))) hG p
theorem comp_range {lo : Int} {n : Nat} (Pv : Nat → Hp → List V → Prop) (hD : H1 D = none) (h0 : Pv 0 H1 [])
    (step : ∀ i G ys, i < n → G D = none → Pv i G ys → g (.int (lo + i)) (capt σ cap) (upd G D (.lst ys)) fun σ2 H2 => tt σ2 H2 fun b H3 => if b = true then te σ2 H3 (CPut D (Pv (i + 1))) else CAcc D (Pv (i + 1)) H3)
    (fin : ∀ G ys, G D = none → Pv n G ys → Q (.ref D) (upd G D (.lst ys))) :
    CompAt cap g tt te σ Q (Itr lo n) H1 D := by
  refine comp_it (J := Itr lo n) (n := n) Pv hD h0 (fun i G ys hi hG p => hi) (fun G ys hG p => Nat.le_refl _) (fun i G ys x H' hi hG p y => ?_) fin
  obtain ⟨e, y⟩ := y
  subst e
  subst y
  exact step i G ys hi hG p
end

/-! ### a block whose items are flat: fl i says the i-th item, none where a test leaves it out -/
def FlatP (H1 : Hp) (fl : Nat → Option V) : Nat → Hp → List V → Prop := fun i G ys => Same H1 G ∧ ys = (List.range i).filterMap fl
theorem FlatP.zero {H1 : Hp} {fl : Nat → Option V} : FlatP H1 fl 0 H1 [] := ⟨Same.refl _, rfl⟩
theorem FlatP.put {H1 G H4 : Hp} {D : Addr} {ys : List V} {fl : Nat → Option V} {i : Nat} {y : V} (p : FlatP H1 fl i G ys) (hG : G D = none) (hs : Same (upd G D (.lst ys)) H4) (hf : fl i = some y) (hi : i ≤ 1000) : CPut D (FlatP H1 fl (i + 1)) y H4 := by
  obtain ⟨h1, hy⟩ := p
  refine cput (hs D _ upd_same) ?_ ⟨same_del h1 hG hs, ?_⟩
  · rw [hy]
    exact Nat.le_trans (List.length_filterMap_le _ _) (by rw [List.length_range]; exact hi)
  · rw [List.range_succ, List.filterMap_append, ← hy]
    simp [hf]
theorem FlatP.skip {H1 G H4 : Hp} {D : Addr} {ys : List V} {fl : Nat → Option V} {i : Nat} (p : FlatP H1 fl i G ys) (hG : G D = none) (hs : Same (upd G D (.lst ys)) H4) (hf : fl i = none) : CAcc D (FlatP H1 fl (i + 1)) H4 := by
  obtain ⟨h1, hy⟩ := p
  refine cskip (hs D _ upd_same) ⟨same_del h1 hG hs, ?_⟩
  rw [List.range_succ, List.filterMap_append, ← hy]
  simp [hf]
theorem flat_list {α : Type} {β : Type} (xs : List α) (h : α → Option β) : (List.range xs.length).filterMap (fun i => (xs[i]?).bind h) = xs.filterMap h := by
  induction xs with
  | nil => rfl
  | cons x r ih =>
    rw [List.length_cons, List.range_succ_eq_map, List.filterMap_cons, List.filterMap_map, List.filterMap_cons]
    have e : ((fun i => ((x :: r)[i]?).bind h) ∘ Nat.succ) = fun i => (r[i]?).bind h := by
      funext i; simp
    rw [e, ih]
    simp
end L2

/-! ## ways along ends: the mathematics of point 5, in plain Lean -/
namespace Ways
theorem nodup_bound : ∀ (n : Nat) (l : List Nat), l.Nodup → (∀ x ∈ l, x < n) → l.length ≤ n
  | 0, l, _, h => by
    cases l with
    | nil => exact Nat.le_refl _
    | cons x r => exact absurd (h x List.mem_cons_self) (Nat.not_lt_zero _)
  | n + 1, l, nd, h => by
    by_cases hm : n ∈ l
    · have ih := nodup_bound n (l.erase n) (nd.erase n) fun x hx => by
        have h1 := (nd.mem_erase_iff).mp hx
        have h2 := h x h1.2
        have h3 := h1.1
        omega
      have e := List.length_erase_of_mem hm
      omega
    · have ih := nodup_bound n l nd fun x hx => by
        have h2 := h x hx
        have h3 : x ≠ n := fun q => hm (q ▸ hx)
        omega
      omega

/-- the end of the arrow at p -/
def nextE (es : List (Option Nat)) (p : Nat) : Option Nat := (es[p]?).join
def walk (es : List (Option Nat)) (p : Nat) : Nat → Nat
  | 0 => p
  | k + 1 => match nextE es (walk es p k) with
    | none => walk es p k
    | some e => e
def rootB (es : List (Option Nat)) (p : Nat) : Bool := (nextE es (walk es p es.length)).isNone
/-- all ends lie within -/
def InB (es : List (Option Nat)) : Prop := ∀ p e, nextE es p = some e → e < es.length
/-- a way: from p on, each next one the end at the one ahead, none twice -/
structure Way (es : List (Option Nat)) (p : Nat) (way : List Nat) : Prop where
  hd : way.head? = some p
  nd : way.Nodup
  bd : ∀ x ∈ way, x < es.length
  ch : ∀ i a b, way[i]? = some a → way[i + 1]? = some b → nextE es a = some b
theorem Way.one {es : List (Option Nat)} {p : Nat} (h : p < es.length) : Way es p [p] :=
  ⟨rfl, by simp, by intro x hx; simp at hx; omega, by intro i a b _ h2; simp at h2⟩
theorem Way.more {es : List (Option Nat)} {p q l : Nat} {way : List Nat} (w : Way es p way) (hl : way.getLast? = some l) (e : nextE es l = some q) (hq : q ∉ way) (hb : InB es) : Way es p (way ++ [q]) := by
  refine ⟨?_, ?_, ?_, ?_⟩
  · have := w.hd
    cases way with
    | nil => simp at this
    | cons a r => simpa using this
  · rw [List.nodup_append]
    refine ⟨w.nd, by simp, fun a ha b hb' => ?_⟩
    simp at hb'
    rintro rfl
    exact hq (hb' ▸ ha)
  · intro x hx
    rcases List.mem_append.mp hx with h | h
    · exact w.bd x h
    · simp at h
      rw [h]
      exact hb _ _ e
  · intro i a b h1 h2
    by_cases hi : i + 1 < way.length
    · rw [List.getElem?_append_left hi] at h2
      rw [List.getElem?_append_left (by omega)] at h1
      exact w.ch i a b h1 h2
    · have hlen : i + 1 = way.length := by
        have := (List.getElem?_eq_some_iff.mp h2).1
        rw [List.length_append, List.length_singleton] at this
        omega
      rw [List.getElem?_append_right (by omega)] at h2
      have hb2 : b = q := by
        rw [hlen, Nat.sub_self] at h2
        simpa using h2.symm
      rw [List.getElem?_append_left (by omega)] at h1
      have hl2 : way.getLast? = some a := by
        rw [List.getLast?_eq_getElem?]
        rw [show way.length - 1 = i by omega]
        exact h1
      rw [hl] at hl2
      cases hl2
      rw [hb2]
      exact e
theorem Way.len {es : List (Option Nat)} {p : Nat} {way : List Nat} (w : Way es p way) : way.length ≤ es.length := nodup_bound _ _ w.nd w.bd
theorem Way.pos {es : List (Option Nat)} {p : Nat} {way : List Nat} (w : Way es p way) : 0 < way.length := by
  have := w.hd
  cases way with
  | nil => simp at this
  | cons a r => simp
/-- the walk goes along the way -/
theorem Way.at {es : List (Option Nat)} {p : Nat} {way : List Nat} (w : Way es p way) : ∀ k, k < way.length → way[k]? = some (walk es p k)
  | 0, h => by
    have := w.hd
    cases way with
    | nil => simp at this
    | cons a r => simpa [walk] using this
  | k + 1, h => by
    have ih := w.at k (by omega)
    have hb : way[k + 1]? = some way[k + 1] := List.getElem?_eq_getElem h
    have e := w.ch k _ _ ih hb
    rw [hb]
    simp only [walk, e]
theorem walk_stays {es : List (Option Nat)} {p k : Nat} (h : nextE es (walk es p k) = none) : ∀ j, walk es p (k + j) = walk es p k
  | 0 => rfl
  | j + 1 => by
    have ih := walk_stays h j
    rw [show k + (j + 1) = (k + j) + 1 by omega]
    simp only [walk, ih, h]
theorem Way.root {es : List (Option Nat)} {p l : Nat} {way : List Nat} (w : Way es p way) (hl : way.getLast? = some l) (e : nextE es l = none) : rootB es p = true := by
  have hp := w.pos
  have hk := w.at (way.length - 1) (by omega)
  rw [List.getLast?_eq_getElem?, hk] at hl
  cases hl
  have := w.len
  have st := walk_stays e (es.length - (way.length - 1))
  rw [show (way.length - 1) + (es.length - (way.length - 1)) = es.length by omega] at st
  unfold rootB
  rw [st, e]
  rfl
theorem Way.ring {es : List (Option Nat)} {p l q : Nat} {way : List Nat} (w : Way es p way) (hl : way.getLast? = some l) (e : nextE es l = some q) (hq : q ∈ way) : rootB es p = false := by
  have hp := w.pos
  have some_of : ∀ x ∈ way, ∃ y ∈ way, nextE es x = some y := fun x hx => by
    obtain ⟨i, hi, rfl⟩ := List.mem_iff_getElem.mp hx
    by_cases h : i + 1 < way.length
    · exact ⟨way[i + 1], List.getElem_mem h, w.ch i _ _ (List.getElem?_eq_getElem hi) (List.getElem?_eq_getElem h)⟩
    · have : way.getLast? = some way[i] := by
        rw [List.getLast?_eq_getElem?, show way.length - 1 = i by omega]
        exact List.getElem?_eq_getElem hi
      rw [hl] at this
      cases this
      exact ⟨q, hq, e⟩
  have inw : ∀ k, walk es p k ∈ way := fun k => by
    induction k with
    | zero =>
      have := w.at 0 hp
      exact List.mem_of_getElem? this
    | succ k ih =>
      obtain ⟨y, hy, ey⟩ := some_of _ ih
      simp only [walk, ey]
      exact hy
  obtain ⟨y, _, ey⟩ := some_of _ (inw es.length)
  unfold rootB
  rw [ey]
  rfl
end Ways

/-! ## nets as data: shapes, equality, fitting -/
namespace Ring
open PySem Ways
abbrev Net := List (List (Int × Int))
def arrD (a : Int × Int) : PyData := .tuple [.int a.1, .int a.2]
def rowD (r : List (Int × Int)) : PyData := .list (r.map arrD)
def netD (n : Net) : PyData := .list (n.map rowD)
/-- a net with one to eight places whose arrows lead to places (what the laws make) -/
structure NetOk (n : Net) : Prop where
  pos : 1 ≤ n.length
  len : n.length ≤ 8
  row : ∀ r ∈ n, r.length ≤ 8 ∧ ∀ a ∈ r, 0 ≤ a.1 ∧ a.1 < n.length
/-- at most so deep, and of texts that can be laid -/
def okTo (k : Nat) (d : PyData) : Prop := d.canLay0 = true ∧ d.depth ≤ k
theorem canLayAll_of {k : Nat} : ∀ {ds : List PyData}, (∀ d ∈ ds, okTo k d) → PyData.canLayAll0 ds = true ∧ PyData.depthAll ds ≤ k
  | [], _ => ⟨by simp [PyData.canLayAll0], by simp [PyData.depthAll]⟩
  | d :: r, h => by
    have h1 := h d List.mem_cons_self
    have h2 := canLayAll_of fun x hx => h x (List.mem_cons_of_mem _ hx)
    refine ⟨by simp [PyData.canLayAll0, h1.1, h2.1], ?_⟩
    simp only [PyData.depthAll]
    have := h1.2
    have := h2.2
    omega
theorem okTo.list {k : Nat} {ds : List PyData} (h : ∀ d ∈ ds, okTo k d) : okTo (k + 1) (.list ds) := by
  have := canLayAll_of h
  exact ⟨by simp [PyData.canLay0, this.1], by simp only [PyData.depth]; omega⟩
theorem okTo.tuple {k : Nat} {ds : List PyData} (h : ∀ d ∈ ds, okTo k d) : okTo (k + 1) (.tuple ds) := by
  have := canLayAll_of h
  exact ⟨by simp [PyData.canLay0, this.1], by simp only [PyData.depth]; omega⟩
theorem okTo.mono {j k : Nat} {d : PyData} (h : okTo j d) (hk : j ≤ k) : okTo k d := ⟨h.1, Nat.le_trans h.2 hk⟩
theorem okTo.int (i : Int) : okTo 0 (.int i) := ⟨by simp [PyData.canLay0], by simp [PyData.depth]⟩
theorem okTo.none : okTo 0 .none := ⟨by simp [PyData.canLay0], by simp [PyData.depth]⟩
theorem okTo.bool (b : Bool) : okTo 0 (.bool b) := ⟨by simp [PyData.canLay0], by simp [PyData.depth]⟩
theorem okTo.shaped {k : Nat} {d : PyData} (h : okTo k d) (hk : k ≤ 64) : SeqAt.shaped d = true := by
  unfold SeqAt.shaped
  rw [h.1, decide_eq_true (Nat.le_trans h.2 hk)]
  rfl
theorem okTo_arr (a : Int × Int) : okTo 1 (arrD a) := okTo.tuple fun d hd => by
  have hd' : d = .int a.1 ∨ d = .int a.2 := by simpa using hd
  rcases hd' with rfl | rfl <;> exact okTo.int _
theorem okTo_row (r : List (Int × Int)) : okTo 2 (rowD r) := okTo.list fun d hd => by
  obtain ⟨a, _, rfl⟩ := List.mem_map.mp hd
  exact okTo_arr a
theorem okTo_net (n : Net) : okTo 3 (netD n) := okTo.list fun d hd => by
  obtain ⟨a, _, rfl⟩ := List.mem_map.mp hd
  exact okTo_row a
theorem eqv_arr (a b : Int × Int) : PyData.eqv (arrD a) (arrD b) = decide (a = b) := by
  obtain ⟨x, y⟩ := a
  obtain ⟨z, w⟩ := b
  simp only [arrD, PyData.eqv, PyData.eqvAll, Bool.and_true]
  by_cases h1 : x = z <;> by_cases h2 : y = w <;> simp [h1, h2]
theorem eqvAll_map {α : Type} [DecidableEq α] {f : α → PyData} (hf : ∀ a b, PyData.eqv (f a) (f b) = decide (a = b)) : ∀ xs ys : List α, PyData.eqvAll (xs.map f) (ys.map f) = decide (xs = ys)
  | [], [] => by simp [PyData.eqvAll]
  | [], _ :: _ => by simp [PyData.eqvAll]
  | _ :: _, [] => by simp [PyData.eqvAll]
  | a :: r, b :: t => by
    simp only [List.map_cons, PyData.eqvAll, hf, eqvAll_map hf r t]
    by_cases h : a = b <;> by_cases h' : r = t <;> simp [h, h']
theorem eqv_row (r t : List (Int × Int)) : PyData.eqv (rowD r) (rowD t) = decide (r = t) := by
  simp only [rowD, PyData.eqv]
  exact eqvAll_map eqv_arr r t
theorem eqv_net (n m : Net) : PyData.eqv (netD n) (netD m) = decide (n = m) := by
  simp only [netD, PyData.eqv]
  exact eqvAll_map eqv_row n m
theorem eqv_int (a b : Int) : PyData.eqv (.int a) (.int b) = decide (a = b) := by
  simp only [PyData.eqv]
  by_cases h : a = b <;> simp [h]
/-! ### trees -/
def optE : PyData → Option Nat
  | .int e => some e.toNat
  | _ => none
def fitsD (row : List (Int × Int)) (d : PyData) : Bool :=
  if row = [] then (match d with | .none => true | _ => false) else match d with | .int e => decide (e ∈ row.map (·.1)) | _ => false
def goodD (net : Net) : PyData → Bool
  | .list ds => decide (ds.length = net.length) && (net.zip ds).all (fun p => fitsD p.1 p.2) && (List.range net.length).all (fun p => rootB (ds.map optE) p)
  | _ => false
end Ring

/-! ## trees by hanging place on place -/
namespace Ring
open PySem Ways
def optPy : Option Nat → PyData
  | none => .none
  | some e => .int e
structure TreeOf (net : Net) (tr : List (Option Nat)) : Prop where
  len : tr.length = net.length
  fits : ∀ (p : Nat) row, net[p]? = some row → (row = [] ∧ nextE tr p = none) ∨ (row ≠ [] ∧ ∃ e : Nat, nextE tr p = some e ∧ (e : Int) ∈ row.map (·.1))
  root : ∀ p, p < net.length → rootB tr p = true
structure Hung (net : Net) (tr : List (Option Nat)) (hg : List Nat) : Prop where
  len : tr.length = net.length
  nd : hg.Nodup
  bd : ∀ p ∈ hg, p < net.length
  ok : ∀ (i p : Nat), hg[i]? = some p → (net[p]? = some [] ∧ nextE tr p = none) ∨ (∃ row e j, net[p]? = some row ∧ row ≠ [] ∧ nextE tr p = some e ∧ (e : Int) ∈ row.map (·.1) ∧ hg[j]? = some e ∧ j < i)
theorem Hung.start {net : Net} {tr : List (Option Nat)} {hg : List Nat} (hl : tr.length = net.length) (hn : ∀ p, nextE tr p = none) (nd : hg.Nodup) (hr : ∀ p ∈ hg, net[p]? = some []) : Hung net tr hg :=
  ⟨hl, nd, fun p hp => (List.getElem?_eq_some_iff.mp (hr p hp)).1, fun i p hp => .inl ⟨hr p (List.mem_of_getElem? hp), hn p⟩⟩
/-- n places below n, none twice, are all -/
theorem all_of_full : ∀ (n : Nat) (l : List Nat), l.Nodup → (∀ x ∈ l, x < n) → n ≤ l.length → ∀ p, p < n → p ∈ l := fun n l nd bd hl p hp => by
  by_cases hm : p ∈ l
  · exact hm
  · have h1 : (p :: l).Nodup := List.nodup_cons.mpr ⟨hm, nd⟩
    have h2 := nodup_bound n (p :: l) h1 fun x hx => by
      rcases List.mem_cons.mp hx with rfl | z
      · exact hp
      · exact bd x z
    rw [List.length_cons] at h2
    omega
/-- along a hung tree the places stand ever further ahead -/
theorem Hung.down {net : Net} {tr : List (Option Nat)} {hg : List Nat} (h : Hung net tr hg) : ∀ (k i p : Nat), hg[i]? = some p → nextE tr (walk tr p k) = none ∨ ∃ j, hg[j]? = some (walk tr p k) ∧ j + k ≤ i
  | 0, i, p, hp => .inr ⟨i, hp, Nat.le_refl _⟩
  | k + 1, i, p, hp => by
    rcases h.down k i p hp with z | ⟨j, hj, hk⟩
    · left
      have := walk_stays z 1
      rw [this]
      exact z
    · rcases h.ok j _ hj with ⟨_, z⟩ | ⟨row, e, j', a1, a2, a3, a4, a5, a6⟩
      · left
        have := walk_stays z 1
        rw [this]
        exact z
      · right
        refine ⟨j', ?_, by omega⟩
        simp only [walk, a3]
        exact a5
theorem Hung.tree {net : Net} {tr : List (Option Nat)} {hg : List Nat} (h : Hung net tr hg) (full : net.length ≤ hg.length) : TreeOf net tr := by
  have all := all_of_full net.length hg h.nd h.bd full
  have hlen : hg.length ≤ net.length := nodup_bound _ _ h.nd h.bd
  refine ⟨h.len, fun p row hp => ?_, fun p hp => ?_⟩
  · obtain ⟨i, hi, ei⟩ := List.mem_iff_getElem.mp (all p (List.getElem?_eq_some_iff.mp hp).1)
    rcases h.ok i p (by rw [List.getElem?_eq_getElem hi, ei]) with ⟨z, e⟩ | ⟨row', e, j, a1, a2, a3, a4, _⟩
    · rw [hp] at z
      cases z
      exact .inl ⟨rfl, e⟩
    · rw [hp] at a1
      cases a1
      exact .inr ⟨a2, e, a3, a4⟩
  · obtain ⟨i, hi, ei⟩ := List.mem_iff_getElem.mp (all p hp)
    unfold rootB
    rcases h.down tr.length i p (by rw [List.getElem?_eq_getElem hi, ei]) with z | ⟨j, _, hk⟩
    · rw [z]; rfl
    · rw [h.len] at hk
      omega
theorem optE_optPy (tr : List (Option Nat)) : (tr.map optPy).map optE = tr := by
  rw [List.map_map]
  have : (optE ∘ optPy) = id := by
    funext o
    cases o with
    | none => rfl
    | some e => simp [optE, optPy]
  rw [this, List.map_id]
theorem TreeOf.good {net : Net} {tr : List (Option Nat)} (h : TreeOf net tr) : goodD net (.list (tr.map optPy)) = true := by
  show (decide ((tr.map optPy).length = net.length) && (net.zip (tr.map optPy)).all (fun p => fitsD p.1 p.2) && (List.range net.length).all (fun p => rootB ((tr.map optPy).map optE) p)) = true
  rw [optE_optPy, List.length_map, h.len, decide_eq_true rfl, Bool.true_and, Bool.and_eq_true]
  refine ⟨List.all_eq_true.mpr fun x hx => ?_, List.all_eq_true.mpr fun p hp => h.root p (List.mem_range.mp hp)⟩
  obtain ⟨i, hi, ei⟩ := List.mem_iff_getElem.mp hx
  have hi' := hi
  rw [List.length_zip, List.length_map] at hi'
  have hn1 : i < net.length := by omega
  have hn2 : i < (tr.map optPy).length := by rw [List.length_map]; omega
  have hn3 : i < tr.length := by omega
  have e1 : x = (net[i], (tr.map optPy)[i]) := by rw [← ei, List.getElem_zip]
  rw [e1, List.getElem_map]
  have hn : nextE tr i = tr[i] := by
    unfold nextE
    rw [List.getElem?_eq_getElem (by omega)]
    rfl
  rcases h.fits i net[i] (List.getElem?_eq_getElem (by omega)) with ⟨a, b⟩ | ⟨a, e, b, c⟩
  · rw [hn] at b
    rw [a, b]
    rfl
  · rw [hn] at b
    rw [b]
    unfold fitsD
    rw [if_neg a]
    exact decide_eq_true c
end Ring

/-! ## min, max, sorted, set, len of a set, index, any -/
namespace L2
open PySem PySem.Spec PyProof.Rows
section
variable {X : Cx}
theorem best_mem (bt : Nat → Nat → Bool) : ∀ k, argBest bt k ≤ k
  | 0 => Nat.le_refl _
  | k + 1 => by
    unfold argBest
    split
    · exact Nat.le_refl _
    · exact Nat.le_succ_of_le (best_mem bt k)
theorem best_lt (val : Nat → Int) : ∀ k j, j ≤ k → val (argBest (fun i j => decide (val i < val j)) k) ≤ val j
  | 0, j, h => by
    have : j = 0 := by omega
    subst this
    exact Int.le_refl _
  | k + 1, j, h => by
    have ih := fun j hj => best_lt val k j hj
    unfold argBest
    split
    · rename_i c
      have c' : val (k + 1) < val (argBest (fun i j => decide (val i < val j)) k) := by simpa using c
      by_cases hj : j = k + 1
      · subst hj; exact Int.le_refl _
      · have := ih j (by omega); omega
    · rename_i c
      have c' : ¬ val (k + 1) < val (argBest (fun i j => decide (val i < val j)) k) := by simpa using c
      by_cases hj : j = k + 1
      · subst hj; omega
      · exact ih j (by omega)
theorem valsInts : ∀ {ns : List Int} {its : List Value}, Vals (ns.map V.int) its → IntsAre its ns
  | [], _, .nil => .nil
  | n :: r, _, .cons ⟨t, e⟩ s => by subst e; exact .cons n t (valsInts s)
theorem getD_at {ns : List Int} {i : Nat} (h : i < ns.length) : ns.getD i 0 ∈ ns := by
  rw [List.getD_eq_getElem?_getD, List.getElem?_eq_getElem h]
  exact List.getElem_mem h
def rMin (K : PySem.W.Frag) : List V → Hp → VK → Prop := fun xs H Q => ∃ (p : Addr) (ns : List Int), xs = [.ref p] ∧ SqL K H p (ns.map V.int) ∧ ns ≠ [] ∧ ∀ m, m ∈ ns → (∀ x ∈ ns, m ≤ x) → Q (.int m) H
def rMax (K : PySem.W.Frag) : List V → Hp → VK → Prop := fun xs H Q => ∃ (p : Addr) (ns : List Int), xs = [.ref p] ∧ SqL K H p (ns.map V.int) ∧ ns ≠ [] ∧ ∀ m, m ∈ ns → (∀ x ∈ ns, x ≤ m) → Q (.int m) H
theorem call_minL (hc : X.calm = true) : CallR X (.builtin "min") (rMin X.K) := by
  intro pins s σ H xs us Q I rv ⟨p, ns, e, hq, hne, q⟩
  subst e
  obtain ⟨u, rfl, ru⟩ := rv.one
  cases ru
  obtain ⟨its, r, pl, hz⟩ := I.list hq
  have hi := valsInts r
  have hl := r.length
  rw [List.length_map] at hl
  have hpos : 0 < ns.length := List.length_pos_iff.mpr hne
  refine call_min_walk (wpAny_pyIter_list pl.isList ?_)
  have hp : p ≠ s.heap.objs.size := by
    obtain ⟨_, ho, _⟩ := pl.isList
    exact Nat.ne_of_lt (Heap.lt_size ho)
  have hval : ∀ i v, its.toArray[i]? = some v → ∃ t, v = Value.int (ns.getD i 0) t := fun i v hv => hi.int_at i v (by simpa using hv)
  refine ⟨s.heap.objs.size, _, _, _, _, _, _, rfl, Walks.list (A := X.A.in1) (I.ok.hd hc) s.heap.objs.size p hp its.toArray, ⟨⟨_, Heap.get?_push_size _ rfl, rfl, rfl⟩, pl.isList.push _⟩, ?_, ?_, CmpOf.ints_lt (fun i => ns.getD i 0) hval, fun v h' tk hv hk => ?_⟩
  · intro b hb
    show b < (s.heap.push _).objs.size
    rw [Heap.size_push]
    have hb' : b = s.heap.objs.size ∨ b = p := by simpa using hb
    rcases hb' with rfl | rfl
    · exact Nat.lt_succ_self _
    · obtain ⟨_, ho, _⟩ := pl.isList
      exact Nat.lt_succ_of_lt (Heap.lt_size ho)
  · simp only [List.size_toArray]; omega
  · obtain ⟨t, rfl⟩ := hval _ _ hv
    simp only [List.size_toArray] at hv ⊢
    have hb := best_mem (fun i j => decide (ns.getD i 0 < ns.getD j 0)) (its.length - 1)
    refine ⟨.int _, H, I.kept (t' := tk) fun b o ho => hk b o ?_ (Heap.get?_push_of_some _ ho), ⟨t, rfl⟩, q _ (getD_at (by omega)) fun x hx => ?_⟩
    · intro hb
      have : b = s.heap.objs.size := by simpa using hb
      exact absurd (Heap.lt_size ho) (by rw [this]; exact Nat.lt_irrefl _)
    · obtain ⟨j, hj, rfl⟩ := List.mem_iff_getElem.mp hx
      have := best_lt (fun i => ns.getD i 0) (its.length - 1) j (by omega)
      have e : ns.getD j 0 = ns[j] := by
        rw [List.getD_eq_getElem?_getD, List.getElem?_eq_getElem hj]
        rfl
      rw [e] at this
      exact this
/-- sorted(..) of fewer than 64 ints: a new list -/
def rSorted (K : PySem.W.Frag) : List V → Hp → VK → Prop := fun xs H Q => ∃ (p : Addr) (ns : List Int), xs = [.ref p] ∧ SqL K H p (ns.map V.int) ∧ ns.length < 64 ∧
  ∀ (l : Addr) (ns' : List Int), H l = none → ns'.Perm ns → ns'.Pairwise (· ≤ ·) → Q (.ref l) (upd H l (.lst (ns'.map V.int)))
/-- set(..) of ints: a new set, whose size is told -/
def dedup (ns : List Int) : List Int := firstMet (fun i => ns.getD i 0) ns.length
def rSet (K : PySem.W.Frag) : List V → Hp → VK → Prop := fun xs H Q => ∃ (p : Addr) (ns : List Int), xs = [.ref p] ∧ SqL K H p (ns.map V.int) ∧ ns.length ≤ 1000 ∧
  ∀ l S, H l = none → Q (.ref l) (upd H l (.set S (dedup ns).length))
theorem nodup_inj {α : Type} {l : List α} {i j : Nat} (h : l.Nodup) (hi : i < l.length) (hj : j < l.length) (e : l[i] = l[j]) : i = j := by
  have h' := List.pairwise_iff_getElem.mp h
  rcases Nat.lt_trichotomy i j with z | z | z
  · exact absurd e (h' i j hi hj z)
  · exact z
  · exact absurd e.symm (h' j i hj hi z)
/-- any(..) of a list of bools -/
theorem call_any (hc : X.calm = true) : CallR X (.builtin "any") (fun xs H Q => ∃ (p : Addr) (bs : List Bool), xs = [.ref p] ∧ SqL X.K H p (bs.map V.bl) ∧ Q (.bl (bs.any id)) H) := by
  intro pins s σ H xs us Q I rv ⟨p, bs, e, hq, q⟩
  subst e
  obtain ⟨u, rfl, ru⟩ := rv.one
  cases ru
  obtain ⟨its, r, pl, hz⟩ := I.list hq
  refine call_any_walk (wpAny_pyIter_list pl.isList ?_)
  have hp : p ≠ s.heap.objs.size := by
    obtain ⟨_, ho, _⟩ := pl.isList
    exact Nat.ne_of_lt (Heap.lt_size ho)
  refine ⟨s.heap.objs.size, _, _, _, _, _, fun i => bs.getD i false, rfl, Walks.list (A := X.A.in1) (I.ok.hd hc) s.heap.objs.size p hp its.toArray, ⟨⟨_, Heap.get?_push_size _ rfl, rfl, rfl⟩, pl.isList.push _⟩, ?_, fun h' tk hk => ?_⟩
  · intro i v s' Q' E' hi hQ
    have hi' : its[i]? = some v := by simpa using hi
    have hl := r.length
    have hib : i < bs.length := by
      have := (List.getElem?_eq_some_iff.mp hi').1
      rw [List.length_map] at hl
      omega
    obtain ⟨u', e', r'⟩ := r.get (i := i) (x := .bl bs[i]) (by rw [List.getElem?_map, List.getElem?_eq_getElem hib] <;> rfl)
    rw [hi'] at e'
    cases e'
    cases r'
    refine wpAny_truthy_bool ?_
    have : bs.getD i false = bs[i] := by rw [List.getD_eq_getElem?_getD, List.getElem?_eq_getElem hib]; rfl
    have hQ' : Q' (bs.getD i false) s' := hQ
    rw [this] at hQ'
    exact hQ'
  · have hl := r.length
    rw [List.length_map] at hl
    have e : ((List.range its.toArray.size).any fun i => bs.getD i false) = bs.any id := by
      rw [List.size_toArray, ← hl]
      clear hl q r hk hq pl hz
      induction bs with
      | nil => rfl
      | cons b r ih =>
        rw [List.length_cons, List.range_succ_eq_map, List.any_cons, List.any_map, List.any_cons]
        have : ((fun i => (b :: r).getD i false) ∘ Nat.succ) = fun i => r.getD i false := by
          funext i; simp
        rw [this, ih]
        rfl
    rw [e]
    refine ⟨.bl _, H, I.kept (t' := tk) fun b o ho => hk b o ?_ (Heap.get?_push_of_some _ ho), rfl, q⟩
    intro hb
    have : b = s.heap.objs.size := by simpa using hb
    exact absurd (Heap.lt_size ho) (by rw [this]; exact Nat.lt_irrefl _)
/-- xs.index(k) of ints, where k is there -/
def rIndex (K : PySem.W.Frag) : V → List V → Hp → VK → Prop := fun x vs H Q => ∃ (l : Addr) (ns : List Int) (k : Int), x = .ref l ∧ vs = [.int k] ∧ SqL K H l (ns.map V.int) ∧ ns.length ≤ 1000 ∧ k ∈ ns ∧ Q (.int (ns.idxOf k : Nat)) H
theorem mt_index : MtR X "list.index" (rIndex X.K) := by
  intro pins s σ H x vs v us Q I rx rv ⟨l, ns, k, e1, e2, hq, hl, hk, q⟩
  subst e1 e2
  cases rx
  obtain ⟨u, rfl, t, rfl⟩ := rv.one
  obtain ⟨its, r, pl, hz⟩ := I.list hq
  have hi := valsInts r
  have hlen := hi.length
  have hj : ns.idxOf k < ns.length := List.idxOf_lt_length_iff.mpr hk
  obtain ⟨⟨cls, dd, data, sl⟩, ho, hc, n, hd⟩ := id pl.isList
  simp only at hc hd
  subst hc hd
  refine call_meets PySem.F.slot_list_index ⟨_, ho, rfl⟩ PySem.F.entry_list_index (PySem.F.args_list_index_2 _ _)
    (SeqAt.list_indexAt l its.toArray n dd sl (.int k t) (isInt k) (ns.idxOf k) (by simpa [hlen] using hj) (by omega) ?_ ?_) ⟨ho, fun y hy => (eq_isInt k t hi y (by simpa using hy)).at _ _, ⟨.int _, H, I.tok _, ⟨_, rfl⟩, q⟩⟩
  · show isInt k its[ns.idxOf k] = true
    rw [isInt_at k hi _ (by omega) hj]
    simpa using List.getElem_idxOf hj
  · intro j hjs hlt
    show isInt k its[j] = false
    rw [isInt_at k hi j (by simpa using hjs) (by omega)]
    exact ne_of_lt_idxOf hlt _
/-! with the fragment as a letter -/
section
variable {K : PySem.W.Frag}
theorem call_minK (hc : X.calm = true) (hK : X.K = K := by rfl) : CallR X (.builtin "min") (rMin K) := by subst hK; exact call_minL hc
theorem call_anyK (hc : X.calm = true) (hK : X.K = K := by rfl) : CallR X (.builtin "any") (fun xs H Q => ∃ (p : Addr) (bs : List Bool), xs = [.ref p] ∧ SqL K H p (bs.map V.bl) ∧ Q (.bl (bs.any id)) H) := by subst hK; exact call_any hc
end
end
end L2

/-! ## rings of tops: the mathematics of point 7 -/
namespace Ways
/-- the end of a way: a bare place, or a place of its own again -/
def Done (es : List (Option Nat)) (way : List Nat) : Prop := ∃ l, way.getLast? = some l ∧ (nextE es l = none ∨ ∃ q, nextE es l = some q ∧ q ∈ way)
theorem Way.last {es : List (Option Nat)} {p l : Nat} {way : List Nat} (w : Way es p way) (hl : way.getLast? = some l) : l = walk es p (way.length - 1) := by
  have hp := w.pos
  have := w.at (way.length - 1) (by omega)
  rw [List.getLast?_eq_getElem?, this] at hl
  exact (Option.some.inj hl).symm
theorem Way.short {es : List (Option Nat)} {p : Nat} {w1 w2 : List Nat} (a : Way es p w1) (b : Way es p w2) (d : Done es w1) : w2.length ≤ w1.length := by
  by_cases h : w2.length ≤ w1.length
  · exact h
  exfalso
  have hp := a.pos
  obtain ⟨l, hl, hd⟩ := d
  have e1 := a.last hl
  have e2 := b.at (w1.length - 1) (by omega)
  have e3 : w2[w1.length]? = some w2[w1.length] := List.getElem?_eq_getElem (by omega)
  have e4 := b.ch (w1.length - 1) _ _ e2 (by rw [show w1.length - 1 + 1 = w1.length by omega]; exact e3)
  rw [← e1] at e4
  rcases hd with hd | ⟨q, hq, hm⟩
  · rw [hd] at e4; cases e4
  · rw [hq] at e4
    have e5 := Option.some.inj e4
    obtain ⟨i, hi, ei⟩ := List.mem_iff_getElem.mp hm
    have e6 := a.at i hi
    rw [List.getElem?_eq_getElem hi] at e6
    have e7 := b.at i (by omega)
    rw [List.getElem?_eq_getElem (by omega)] at e7
    have e8 : w2[i] = w2[w1.length] := by
      rw [Option.some.inj e7, ← Option.some.inj e6, ei, e5]
    have := L2.nodup_inj b.nd (by omega) (by omega) e8
    omega
theorem Way.unique {es : List (Option Nat)} {p : Nat} {w1 w2 : List Nat} (a : Way es p w1) (b : Way es p w2) (d1 : Done es w1) (d2 : Done es w2) : w1 = w2 := by
  have h1 := a.short b d1
  have h2 := b.short a d2
  refine List.ext_getElem? fun i => ?_
  by_cases hi : i < w1.length
  · rw [a.at i hi, b.at i (by omega)]
  · rw [List.getElem?_eq_none (by omega), List.getElem?_eq_none (by omega)]
theorem Way.goes {es : List (Option Nat)} {p : Nat} (hb : InB es) : ∀ (k : Nat) (way : List Nat), Way es p way → es.length - way.length = k → ∃ w, Way es p w ∧ Done es w := by
  intro k
  induction k with
  | zero =>
    intro way w hk
    have hlen := w.len
    refine ⟨way, w, ?_⟩
    obtain ⟨l, hl⟩ : ∃ l, way.getLast? = some l := by
      have hp := w.pos
      exact ⟨way.getLast (by intro z; rw [z] at hp; exact Nat.lt_irrefl _ hp), List.getLast?_eq_some_getLast _⟩
    refine ⟨l, hl, ?_⟩
    cases e : nextE es l with
    | none => exact .inl rfl
    | some q =>
      right
      refine ⟨q, rfl, ?_⟩
      by_cases hq : q ∈ way
      · exact hq
      · have := (w.more hl e hq hb).len
        rw [List.length_append, List.length_singleton] at this
        omega
  | succ k ih =>
    intro way w hk
    obtain ⟨l, hl⟩ : ∃ l, way.getLast? = some l := by
      have hp := w.pos
      exact ⟨way.getLast (by intro z; rw [z] at hp; exact Nat.lt_irrefl _ hp), List.getLast?_eq_some_getLast _⟩
    cases e : nextE es l with
    | none => exact ⟨way, w, l, hl, .inl e⟩
    | some q =>
      by_cases hq : q ∈ way
      · exact ⟨way, w, l, hl, .inr ⟨q, e, hq⟩⟩
      · refine ih (way ++ [q]) (w.more hl e hq hb) ?_
        rw [List.length_append, List.length_singleton]
        omega
theorem way_has {es : List (Option Nat)} {p : Nat} (hb : InB es) (hp : p < es.length) : ∃ w, Way es p w ∧ Done es w := Way.goes hb _ [p] (Way.one hp) rfl
open Classical in
/-- the way from a place -/
noncomputable def wayOf (es : List (Option Nat)) (p : Nat) : List Nat := if h : ∃ w, Way es p w ∧ Done es w then h.choose else []
theorem wayOf_is {es : List (Option Nat)} {p : Nat} {way : List Nat} (w : Way es p way) (d : Done es way) : wayOf es p = way := by
  have h : ∃ w, Way es p w ∧ Done es w := ⟨way, w, d⟩
  unfold wayOf
  rw [dif_pos h]
  exact h.choose_spec.1.unique w h.choose_spec.2 d
theorem wayOf_way {es : List (Option Nat)} {p : Nat} (hb : InB es) (hp : p < es.length) : Way es p (wayOf es p) ∧ Done es (wayOf es p) := by
  have h := way_has hb hp
  unfold wayOf
  rw [dif_pos h]
  exact h.choose_spec
theorem walk_add (es : List (Option Nat)) (p a : Nat) : ∀ b, walk es p (a + b) = walk es (walk es p a) b
  | 0 => rfl
  | b + 1 => by
    rw [← Nat.add_assoc]
    simp only [walk, walk_add es p a b]
/-- a way's places are just those that are come to -/
theorem Way.mem {es : List (Option Nat)} {p : Nat} {way : List Nat} (w : Way es p way) (d : Done es way) (x : Nat) : x ∈ way ↔ ∃ k, walk es p k = x := by
  have hp := w.pos
  constructor
  · intro h
    obtain ⟨i, hi, rfl⟩ := List.mem_iff_getElem.mp h
    have := w.at i hi
    rw [List.getElem?_eq_getElem hi] at this
    exact ⟨i, (Option.some.inj this).symm⟩
  · rintro ⟨k, rfl⟩
    obtain ⟨l, hl, hd⟩ := d
    have inw : ∀ k, walk es p k ∈ way := fun k => by
      induction k with
      | zero => exact List.mem_of_getElem? (w.at 0 hp)
      | succ k ih =>
        obtain ⟨i, hi, ei⟩ := List.mem_iff_getElem.mp ih
        by_cases h : i + 1 < way.length
        · have := w.ch i _ _ (List.getElem?_eq_getElem hi) (List.getElem?_eq_getElem h)
          simp only [walk, ← ei, this]
          exact List.getElem_mem h
        · have hlast : way.getLast? = some way[i] := by
            rw [List.getLast?_eq_getElem?, show way.length - 1 = i by omega]
            exact List.getElem?_eq_getElem hi
          rw [hl] at hlast
          cases hlast
          rcases hd with hd | ⟨q, hq, hm⟩
          · simp only [walk, ← ei, hd]
            exact List.getElem_mem hi
          · simp only [walk, ← ei, hq]
            exact hm
    exact inw k
/-- a place from which the way along tops comes to that place again -/
def OnRing (es : List (Option Nat)) (p : Nat) : Prop := ∃ q k, nextE es p = some q ∧ walk es q k = p
theorem walk_some {es : List (Option Nat)} {p q : Nat} (e : nextE es p = some q) : ∀ k, walk es p (k + 1) = walk es q k
  | 0 => by simp only [walk, e]
  | k + 1 => by
    have := walk_some e k
    show (match nextE es (walk es p (k + 1)) with | none => walk es p (k + 1) | some e => e) = _
    rw [this]
    rfl
/-- on a ring the way ends where it began -/
theorem Way.closed {es : List (Option Nat)} {p l : Nat} {way : List Nat} (w : Way es p way) (d : Done es way) (hl : way.getLast? = some l) : OnRing es p ↔ nextE es l = some p := by
  have hp := w.pos
  have el := w.last hl
  constructor
  · rintro ⟨q, k, hq, hk⟩
    have per : walk es p (k + 1) = p := by rw [walk_some hq]; exact hk
    have pers : ∀ m, walk es p ((k + 1) * m) = p := fun m => by
      induction m with
      | zero => rfl
      | succ m ih => rw [Nat.mul_succ, walk_add, ih, per]
    obtain ⟨l', hl', hd⟩ := d
    rw [hl] at hl'
    cases hl'
    rcases hd with hd | ⟨r, hr, hm⟩
    · exfalso
      have st := walk_stays (es := es) (p := p) (k := way.length - 1) (by rw [← el]; exact hd)
      have h1 := pers way.length
      have hge : way.length - 1 ≤ (k + 1) * way.length := by
        have : way.length ≤ (k + 1) * way.length := Nat.le_mul_of_pos_left _ (Nat.succ_pos _)
        omega
      have h2 := st ((k + 1) * way.length - (way.length - 1))
      rw [show way.length - 1 + ((k + 1) * way.length - (way.length - 1)) = (k + 1) * way.length by omega, h1, ← el] at h2
      rw [← h2, hq] at hd
      cases hd
    · obtain ⟨i, hi, ei⟩ := List.mem_iff_getElem.mp hm
      have hi' := w.at i hi
      rw [List.getElem?_eq_getElem hi, ei] at hi'
      have hwi : walk es p i = r := (Option.some.inj hi').symm
      have hwl : walk es p way.length = r := by
        have : way.length = way.length - 1 + 1 := by omega
        rw [this]
        simp only [walk, ← el, hr]
      -- all that is come to from turn i on is one of the turns i to below the length
      have late : ∀ m, i ≤ m → ∃ j, i ≤ j ∧ j < way.length ∧ walk es p m = walk es p j := fun m hm => by
        obtain ⟨t, rfl⟩ := Nat.exists_eq_add_of_le hm
        clear hm
        induction t with
        | zero => exact ⟨i, Nat.le_refl _, hi, rfl⟩
        | succ t ih =>
          obtain ⟨j, h1, h2, h3⟩ := ih
          have e : walk es p (i + (t + 1)) = walk es p (j + 1) := by
            rw [← Nat.add_assoc]
            simp only [walk, h3]
          by_cases hj : j + 1 < way.length
          · exact ⟨j + 1, by omega, hj, e⟩
          · refine ⟨i, Nat.le_refl _, hi, ?_⟩
            rw [e, show j + 1 = way.length by omega, hwl, hwi]
      obtain ⟨j, h1, h2, h3⟩ := late ((k + 1) * i) (Nat.le_mul_of_pos_left _ (Nat.succ_pos _))
      rw [pers] at h3
      have e0 := w.at 0 hp
      have ej := w.at j h2
      rw [List.getElem?_eq_getElem hp] at e0
      rw [List.getElem?_eq_getElem h2] at ej
      have : way[0] = way[j] := by rw [Option.some.inj e0, Option.some.inj ej]; exact h3
      have hj0 := L2.nodup_inj w.nd hp h2 this
      have : i = 0 := by omega
      rw [hr, ← hwi, this]
      rfl
  · intro e
    cases hq : nextE es p with
    | none =>
      have st := walk_stays (es := es) (p := p) (k := 0) hq (way.length - 1)
      rw [Nat.zero_add, ← el] at st
      have : l = p := st
      rw [this, hq] at e
      cases e
    | some q =>
      refine ⟨q, way.length - 1, hq, ?_⟩
      have : walk es p (way.length - 1 + 1) = p := by
        simp only [walk, ← el, e]
      exact (walk_some hq _).symm.trans this

/-! ### rings -/
/-- turned by one -/
def rot (r : List Nat) : List Nat := r.drop 1 ++ r.take 1
/-- a ring of tops, told as in 7 -/
structure IsRing (es : List (Option Nat)) (r : List Nat) : Prop where
  ne : r ≠ []
  nd : r.Nodup
  bd : ∀ x ∈ r, x < es.length
  least : ∀ x ∈ r, r.headD 0 ≤ x
  next : r.map (nextE es) = (rot r).map some
open Classical in
/-- the ring whose least place is p, if there is one -/
noncomputable def ringAt (es : List (Option Nat)) (p : Nat) : Option (List Nat) := if OnRing es p ∧ ∀ x ∈ wayOf es p, p ≤ x then some (wayOf es p) else none
/-- the rings of tops -/
noncomputable def ringsN (es : List (Option Nat)) : List (List Nat) := (List.range es.length).filterMap (ringAt es)
theorem ringAt_some {es : List (Option Nat)} {p : Nat} {r : List Nat} (h : ringAt es p = some r) : OnRing es p ∧ (∀ x ∈ wayOf es p, p ≤ x) ∧ r = wayOf es p := by
  unfold ringAt at h
  split at h
  · rename_i c
    exact ⟨c.1, c.2, (Option.some.inj h).symm⟩
  · cases h
theorem way_ring {es : List (Option Nat)} {p : Nat} {way : List Nat} (w : Way es p way) (d : Done es way) (o : OnRing es p) : way.map (nextE es) = (rot way).map some := by
  have hp := w.pos
  obtain ⟨l, hl, _⟩ := id d
  have e := (w.closed d hl).mp o
  have el := w.last hl
  refine List.ext_getElem? fun i => ?_
  rw [List.getElem?_map, List.getElem?_map]
  by_cases hi : i < way.length
  · by_cases h : i + 1 < way.length
    · have := w.ch i _ _ (List.getElem?_eq_getElem hi) (List.getElem?_eq_getElem h)
      rw [List.getElem?_eq_getElem hi]
      unfold rot
      rw [List.getElem?_append_left (by rw [List.length_drop]; omega), List.getElem?_drop, Nat.add_comm 1 i, List.getElem?_eq_getElem h]
      simp [this]
    · have hw := w.at i hi
      have h0 := w.at 0 hp
      rw [hw]
      unfold rot
      rw [List.getElem?_append_right (by rw [List.length_drop]; omega), List.length_drop, show i - (way.length - 1) = 0 by omega, List.getElem?_take_of_lt (by omega), h0]
      have : walk es p i = l := by rw [el, show i = way.length - 1 by omega]
      simp only [Option.map_some, this, e]
      rfl
  · have hr : (rot way).length = way.length := by
      unfold rot
      rw [List.length_append, List.length_drop, List.length_take]
      omega
    rw [List.getElem?_eq_none (by omega), List.getElem?_eq_none (by omega)]
    rfl
theorem Way.head {es : List (Option Nat)} {p : Nat} {way : List Nat} (w : Way es p way) : way.headD 0 = p := by
  have := w.hd
  cases way with
  | nil => simp at this
  | cons a r => simpa using this
theorem ring_is {es : List (Option Nat)} {p : Nat} {r : List Nat} (hb : InB es) (hp : p < es.length) (h : ringAt es p = some r) : IsRing es r ∧ r.headD 0 = p := by
  obtain ⟨o, ls, rfl⟩ := ringAt_some h
  obtain ⟨w, d⟩ := wayOf_way hb hp
  have hh := w.head
  refine ⟨⟨?_, w.nd, w.bd, fun x hx => ?_, way_ring w d o⟩, hh⟩
  · intro z
    have := w.pos
    rw [z] at this
    exact Nat.lt_irrefl _ this
  · rw [hh]
    exact ls x hx
/-- along a ring one comes to each of its places -/
theorem OnRing.back {es : List (Option Nat)} {p x : Nat} (o : OnRing es p) (h : ∃ k, walk es p k = x) : OnRing es x ∧ ∃ k, walk es x k = p := by
  obtain ⟨q, k, hq, hk⟩ := o
  obtain ⟨m, rfl⟩ := h
  have per : walk es p (k + 1) = p := by rw [walk_some hq]; exact hk
  have pers : ∀ m, walk es p ((k + 1) * m) = p := fun m => by
    induction m with
    | zero => rfl
    | succ m ih => rw [Nat.mul_succ, walk_add, ih, per]
  have back : walk es (walk es p m) ((k + 1) * (m + 1) - m) = p := by
    rw [← walk_add, show m + ((k + 1) * (m + 1) - m) = (k + 1) * (m + 1) by
      have : m + 1 ≤ (k + 1) * (m + 1) := Nat.le_mul_of_pos_left _ (Nat.succ_pos _)
      omega]
    exact pers _
  refine ⟨?_, _, back⟩
  cases e : nextE es (walk es p m) with
  | none =>
    have st := walk_stays (es := es) (p := walk es p m) (k := 0) e ((k + 1) * (m + 1) - m)
    rw [Nat.zero_add, back] at st
    have : p = walk es p m := st
    rw [← this, hq] at e
    cases e
  | some r =>
    refine ⟨r, (k + 1) * (m + 1) - m - 1 + m, e, ?_⟩
    rw [walk_add]
    have h1 : 0 < (k + 1) * (m + 1) - m := by
      have : m + 1 ≤ (k + 1) * (m + 1) := Nat.le_mul_of_pos_left _ (Nat.succ_pos _)
      omega
    have h2 := walk_some e ((k + 1) * (m + 1) - m - 1)
    rw [show (k + 1) * (m + 1) - m - 1 + 1 = (k + 1) * (m + 1) - m by omega, back] at h2
    rw [← h2]
theorem minOf : ∀ (l : List Nat), l ≠ [] → ∃ m ∈ l, ∀ x ∈ l, m ≤ x
  | [a], _ => ⟨a, by simp, by simp⟩
  | a :: b :: r, _ => by
    obtain ⟨m, hm, hl⟩ := minOf (b :: r) (by simp)
    by_cases h : a ≤ m
    · refine ⟨a, by simp, fun x hx => ?_⟩
      rcases List.mem_cons.mp hx with rfl | hx
      · exact Nat.le_refl _
      · exact Nat.le_trans h (hl x hx)
    · refine ⟨m, List.mem_cons_of_mem _ hm, fun x hx => ?_⟩
      rcases List.mem_cons.mp hx with rfl | hx
      · omega
      · exact hl x hx
/-- two rings with a place in common are one -/
theorem ring_one {es : List (Option Nat)} {m n x : Nat} {r t : List Nat} (hb : InB es) (hm : m < es.length) (hn : n < es.length) (h1 : ringAt es m = some r) (h2 : ringAt es n = some t) (x1 : x ∈ r) (x2 : x ∈ t) : m = n := by
  obtain ⟨o1, l1, rfl⟩ := ringAt_some h1
  obtain ⟨o2, l2, rfl⟩ := ringAt_some h2
  obtain ⟨w, d⟩ := wayOf_way hb hm
  obtain ⟨w', d'⟩ := wayOf_way hb hn
  have hx1 := (w.mem d x).mp x1
  have hx2 := (w'.mem d' x).mp x2
  obtain ⟨_, k1, b1⟩ := o1.back hx1
  obtain ⟨_, k2, b2⟩ := o2.back hx2
  obtain ⟨i1, e1⟩ := hx1
  obtain ⟨i2, e2⟩ := hx2
  have a1 := l1 n ((w.mem d n).mpr ⟨i1 + k2, by rw [walk_add, e1, b2]⟩)
  have a2 := l2 m ((w'.mem d' m).mpr ⟨i2 + k1, by rw [walk_add, e2, b1]⟩)
  omega
theorem mem_rings {es : List (Option Nat)} {r : List Nat} : r ∈ ringsN es ↔ ∃ p, p < es.length ∧ ringAt es p = some r := by
  unfold ringsN
  rw [List.mem_filterMap]
  constructor
  · rintro ⟨p, hp, h⟩
    exact ⟨p, List.mem_range.mp hp, h⟩
  · rintro ⟨p, hp, h⟩
    exact ⟨p, List.mem_range.mpr hp, h⟩
theorem rings_is {es : List (Option Nat)} {r : List Nat} (hb : InB es) (h : r ∈ ringsN es) : IsRing es r := by
  obtain ⟨p, hp, e⟩ := mem_rings.mp h
  exact (ring_is hb hp e).1
/-- no place is on two rings -/
theorem rings_apart {es : List (Option Nat)} (hb : InB es) : (ringsN es).Pairwise fun a b => ∀ x ∈ a, x ∉ b := by
  unfold ringsN
  rw [List.pairwise_filterMap]
  refine List.Pairwise.imp_of_mem ?_ List.pairwise_lt_range
  intro a b ha hb' hab r hr t ht x h1 h2
  have := ring_one hb (List.mem_range.mp ha) (List.mem_range.mp hb') hr ht h1 h2
  omega
end Ways

/-! ## enumerate of a list, walked with two names; defs with defaults -/
namespace L2
open PySem PySem.Spec PyProof.Rows
def Ite (K : PySem.W.Frag) (a : Addr) : It :=
  ⟨fun i H => ∃ xs x, SqL K H a xs ∧ xs[i]? = some x,
   fun i H v H' => ∃ T x, H T = none ∧ v = .ref T ∧ H' = upd H T (.tup [.int (i : Int), x]) ∧ ∀ xs, SqL K H a xs → xs[i]? = some x,
   fun i H => ∃ xs, SqL K H a xs ∧ xs.length = i⟩
def EnumAt (e it a : Addr) (i : Nat) (h : Heap) : Prop := (∃ old, IsEnum h e it i old) ∧ h.IsListIter it a i
theorem turn_enum {P : Program} {w : World} {K : PySem.W.Frag} {elts : List Expr} {k : Nat} {tpos : Pos} {e it a : Addr} (hne : e ≠ it) :
    Turn P w K (.Tuple elts k tpos) (Ite K a) [e, it] e (EnumAt e it a) where
  mem := by simp
  obj := fun i h st c hc => by
    obtain ⟨⟨old, he⟩, o1, h1, c1, d1⟩ := st
    have hc' : c = e ∨ c = it := by simpa using hc
    rcases hc' with rfl | rfl
    · exact ⟨_, he, fun v q => by cases q⟩
    · exact ⟨_, h1, fun v q => by rw [d1] at q; cases q⟩
  keep := fun i h h' st k => by
    obtain ⟨⟨old, he⟩, h1⟩ := st
    exact ⟨⟨old, k e (by simp) _ he⟩, h1.at fun o q => k it (by simp) o q⟩
  item := by
    intro X hP hw hK hc i pins s σ H E I hf st hg
    subst hP hw hK
    obtain ⟨xs, x, qa, hx⟩ := hg
    obtain ⟨ia, ra, pa, za⟩ := I.list qa
    obtain ⟨u, hu, ru⟩ := ra.get hx
    obtain ⟨⟨old, he⟩, h1⟩ := st
    have hla := pa.isList
    have nai : a ≠ it := by
      obtain ⟨oa, ga, ca, _⟩ := hla
      obtain ⟨o1, g1, c1, _⟩ := h1
      exact ne_cls ga g1 (by rw [ca, c1]; decide)
    have nea : e ≠ a := by
      obtain ⟨oa, ga, ca, _⟩ := hla
      exact ne_cls he ga (by rw [ca]; show Value.type "enumerate" ≠ Value.type "list"; decide)
    have hi : i < ia.toArray.size := by
      have := (List.getElem?_eq_some_iff.mp hu).1
      simpa using this
    refine wpAny_pyNext_enum_itemD (Draws.list (A := X.A.in1) (I.ok.hd hc) it a nai ia.toArray) he ⟨h1, hla⟩ hi hne (by simp [hne, nea]) fun v h' tk hv ho hs' hT hsz hk => ⟨_, rfl, ?_⟩
    have ev : v = u := by
      have : ia[i]? = some v := by simpa using hv
      rw [hu] at this
      exact (Option.some.inj this).symm
    subst ev
    refine wpAny_letOwnedTupleGo_enum ho fun h'' b1 b2 => ?_
    have b2' : Heap.SameBut e h' h'' := b2
    have hTe : s.heap.objs.size ≠ e := Nat.ne_of_gt (Heap.lt_size he)
    have kk : ∀ c o, c ∉ [e, it] → s.heap.get? c = some o → h''.get? c = some o := fun c o hc q => by
      have hc' : ¬ (c = e ∨ c = it) := fun z => hc (by simpa using z)
      exact b2'.extBut c o (fun z => hc' (.inl z)) (hk c o (fun z => hc' (.inl z)) (fun z => hc' (.inr z)) q)
    have hT2 : h''.get? s.heap.objs.size = some { cls := .type "tuple", data := .seq #[.int (i : Int) tk, v] } := b2'.extBut _ _ hTe hT
    refine ⟨.ref s.heap.objs.size, upd H s.heap.objs.size (.tup [.int (i : Int), x]), I.turnedL (t' := tk + 1) (ch := [e, it]) hf kk (Nat.le_refl _) ?_, rfl, ?_, ?_, fun c hc => ?_⟩
    · exact ⟨by show 2 ≤ sizeLine; decide, [_, v], .cons ⟨tk, rfl⟩ (.cons ru .nil), _, hT2, rfl, _, rfl⟩
    · exact ⟨_, x, I.fresh, rfl, rfl, fun xs' q => by rw [I.list_inj q qa]; exact hx⟩
    · refine ⟨⟨v, ?_⟩, hs'.1.at fun o q => b2'.extBut _ o (Ne.symm hne) q⟩
      simpa using b1
    · have hlt : c < s.heap.objs.size := by
        have hc' : c = e ∨ c = it := by simpa using hc
        obtain ⟨o1, g1, _⟩ := h1
        rcases hc' with rfl | rfl
        · exact Heap.lt_size he
        · exact Heap.lt_size g1
      rw [upd_ne (Nat.ne_of_lt hlt)]
      exact (hf c hc).1
  done := by
    intro X hP hw hK hc i pins s σ H E I hf st hg
    subst hP hw hK
    obtain ⟨xs, qa, hx⟩ := hg
    obtain ⟨ia, ra, pa, za⟩ := I.list qa
    obtain ⟨⟨old, he⟩, h1⟩ := st
    have hla := pa.isList
    have nai : a ≠ it := by
      obtain ⟨oa, ga, ca, _⟩ := hla
      obtain ⟨o1, g1, c1, _⟩ := h1
      exact ne_cls ga g1 (by rw [ca, c1]; decide)
    have la := ra.length
    have hi : ia.toArray.size = i := by rw [List.size_toArray]; omega
    refine wpAny_pyNext_enum_endD (Draws.list (A := X.A.in1) (I.ok.hd hc) it a nai ia.toArray) he (by rw [hi]; exact ⟨h1, hla⟩) fun h' eb => ⟨rfl, I.turnedL0 (t' := s.toks) (ch := [e, it]) hf fun c o hc q => ?_⟩
    have hc' : ¬ (c = e ∨ c = it) := fun z => hc (by simpa using z)
    exact eb c o (fun z => hc' (.inr z)) q
  self := fun _ _ _ _ _ st h => by
    obtain ⟨⟨old, he⟩, _⟩ := st
    exact wpAny_pyIter_enum he h
def iEnum (K : PySem.W.Frag) (ta : TA) : TI := fun σ H R => ta σ H fun vs H1 => ∃ a, vs = [.ref a] ∧ (∃ xs, SqL K H1 a xs) ∧ R (Ite K a) H1
section
variable {X : Cx} {K : PySem.W.Frag}
theorem pi_enumK {a : Expr} {ta : TA} {p pos : Pos} {elts : List Expr} {k : Nat} {tpos : Pos} (hg : Gl X "enumerate") (hm : X.mg "enumerate" = none) (ha : PA X [a] ta) (hK : X.K = K := by rfl) (hs : starEach [a] X.env = [(false, eval a X.env)] := by rfl) :
    PI X (.Tuple elts k tpos) (.Call (.Name "enumerate" p) [a] [] pos) (iEnum K ta) := by
  subst hK
  intro pins s σ H R I h
  refine Call_ (ld_blt I hg hm boot_enumerate (PyProof.Rows.callWith_type1 (thn (ha pos pins s σ H _ I h) fun us s1 ⟨vs, H1, I1, r1, q1⟩ => ?_) (by rw [hs]; rfl) (by rfl)))
  obtain ⟨x, e, ⟨xs, qa⟩, q⟩ := q1
  subst e
  obtain ⟨u, rfl, ru⟩ := r1.one
  cases ru
  obtain ⟨ia, ra, pa, za⟩ := I1.list qa
  refine call_enumerate_list pa.isList fun h' b1 b2 b3 b4 => ?_
  refine wpAny_pyIter_enum b1 ?_
  have I2 : Inv X pins σ H1 { s1 with heap := h' } := I1.kept (t' := s1.toks) b4
  have f : ∀ c, s1.heap.objs.size ≤ c → FpOk X pins H1 c := fun c hc => I1.fpOk hc (I1.hok.fresh hc)
  refine ⟨_, _, _, _, H1, rfl, I2, turn_enum (a := x) (e := s1.heap.objs.size + 1) (it := s1.heap.objs.size) (Nat.succ_ne_self _), ⟨⟨_, b1⟩, b2⟩, fun c hc => ?_, q⟩
  have hc' : c = s1.heap.objs.size + 1 ∨ c = s1.heap.objs.size := by simpa using hc
  rcases hc' with rfl | rfl
  · exact f _ (Nat.le_add_right _ _)
  · exact f _ (Nat.le_refl _)
end
section
variable {K : PySem.W.Frag} {g : TG} {tt : TT} {te : TE} {σ : St} {cap : List (Option Nat)} {Q : VK} {H1 : Hp} {D : Addr}
theorem comp_enum {a : Addr} {xs : List V} (Pv : Nat → Hp → List V → Prop) (hD : H1 D = none) (h0 : Pv 0 H1 []) (hl : ∀ i G ys, Pv i G ys → SqL K G a xs)
    (step : ∀ i x T G ys, xs[i]? = some x → G D = none → T ≠ D → G T = none → Pv i G ys → g (.ref T) (capt σ cap) (upd (upd G D (.lst ys)) T (.tup [.int (i : Int), x])) fun σ2 H2 => tt σ2 H2 fun b H3 => if b = true then te σ2 H3 (CPut D (Pv (i + 1))) else CAcc D (Pv (i + 1)) H3)
    (fin : ∀ G ys, G D = none → Pv xs.length G ys → Q (.ref D) (upd G D (.lst ys))) :
    CompAt cap g tt te σ Q (Ite K a) H1 D := by
  refine comp_it (J := Ite K a) (n := xs.length) Pv hD h0 (fun i G ys hi hG p => ⟨xs, xs[i], (same_upd hG _).seq (hl i G ys p), by simp [hi]⟩) (fun G ys hG p => ⟨xs, (same_upd hG _).seq (hl _ G ys p), rfl⟩) (fun i G ys x H' hi hG p y => ?_) fin
  obtain ⟨T, u, hT, rfl, rfl, ya⟩ := y
  have hTD : T ≠ D := by rintro rfl; rw [upd_same] at hT; cases hT
  refine step i u T G ys (ya xs ((same_upd hG _).seq (hl i G ys p))) hG hTD ?_ p
  rw [upd_ne hTD] at hT
  exact hT
end
/-! ### truth, with the fragment as a letter -/
theorem pt_truthK {X : Cx} {K : PySem.W.Frag} {a : Expr} {ta : TE} (ha : PE X a ta) (he : ∀ whole, isTrue a X.env whole = (do let v ← whole; standAt a.pos; holding [v] (truthy v))) (hK : X.K = K := by rfl) :
    PT X a (fun σ H Q => ta σ H fun x H' => ∃ k, TruV K x H' k ∧ Q k H') := by subst hK; exact pt_truth ha he
/-! ### defs with defaults -/
structure FunD (K : PySem.W.Frag) (x qual : Str) (st : Stmt) (f : Addr) (fd : FuncData) (ds : List Value) : Prop where
  ex : ∃ (oc : Value) (od : Option Addr) (da : Addr) (dn : Nat) (kV doc pm : Value) (an : Option Addr) (cdv ct : Value) (osl dsl : Array (Option Value)),
    fd = PySem.W.fnOf x qual (defArgs st) (defBody st) (defScope st) (.ref da) kV doc pm an cdv ct ∧ K.lookup f = some ⟨oc, od, .func fd, osl⟩ ∧ K.lookup da = some ⟨.type "tuple", none, .seq ds.toArray dn, dsl⟩ ∧ PySem.W.codeIn K cdv qual = true
  kp : PySem.W.keepIn K (.ref f) = true
section
variable {P : Program} {w : World} {K : PySem.W.Frag} {mg : Str → Option Value} {base : Heap}
theorem FunD.ok {x qual : Str} {st : Stmt} {f : Addr} {fd : FuncData} {ds : List Value} {N ps : List Str} {k : Nat} {sp : Sp} (F : FunD K x qual st f fd ds) (S : FnScope N ps (defScope st)) (len : ∀ vs H Q E, sp vs H Q E → vs.length = ps.length)
    (hbody : ∀ (cdv : Value) (A : Around) (outer : List Env) (s : Shared) (H : Hp) (vs : List V) (Q : VK) (E : XK), Room k (A.deeper (envOfC qual (defScope st) s.heap.objs.size f cdv)) → sp vs H Q E →
      ∃ t, PSs (cxOf CX0 P w K mg base N qual (defScope st) f cdv A outer s H E).nox (defBody st) t ∧ t { nx := fun _ H' => Q .non H', rt := Q } (start N vs) H) : FnOk P w K mg base CX0 (k + 1) f fd ps sp := by
  obtain ⟨oc, od, da, dn, kV, doc, pm, an, cdv, ct, osl, dsl, rfl, lk, ld, hcd⟩ := F.ex
  refine fn_of lk hcd S len fun A outer s H vs Q E hr hsp => ?_
  obtain ⟨t, h, q⟩ := hbody cdv A outer s H vs Q E hr hsp
  exact ⟨t, h.nox, q⟩
theorem FunD.binds {x qual : Str} {st : Stmt} {f : Addr} {fd : FuncData} {ps : List Str} {ds es : List Value} (F : FunD K x qual st f fd ds) (k : Nat) (hk : k + es.length = ps.length)
    (h : ∀ (da : Addr) (kV doc pm : Value) (an : Option Addr) (cdv ct : Value) (us : List Value), us.length = k → ∀ (s : Shared) (o : Obj) (dn : Nat), s.heap.get? da = some o → o.data = .seq ds.toArray dn → BindsTo s (PySem.W.fnOf x qual (defArgs st) (defBody st) (defScope st) (.ref da) kV doc pm an cdv ct) ⟨us, []⟩ (ps.zip (us ++ es))) : Binds K fd ps es := by
  obtain ⟨oc, od, da, dn, kV, doc, pm, an, cdv, ct, osl, dsl, rfl, lk, ld, hcd⟩ := F.ex
  intro s us hK hl
  exact h da kV doc pm an cdv ct us (by rw [List.length_append] at hl; omega) s _ dn (hK _ _ ld) rfl
theorem funD_mk {x qual : Str} {st : Stmt} {f da : Addr} {dn : Nat} {oc : Value} {od an : Option Addr} {osl dsl : Array (Option Value)} {kV doc pm cdv ct : Value} {ds : List Value} (l : K.lookup f = some ⟨oc, od, .func (PySem.W.fnOf x qual (defArgs st) (defBody st) (defScope st) (.ref da) kV doc pm an cdv ct), osl⟩)
    (ld : K.lookup da = some ⟨.type "tuple", none, .seq ds.toArray dn, dsl⟩) (c : PySem.W.codeIn K cdv qual = true) (k : PySem.W.keepIn K (.ref f) = true) : FunD K x qual st f (PySem.W.fnOf x qual (defArgs st) (defBody st) (defScope st) (.ref da) kV doc pm an cdv ct) ds := ⟨⟨oc, od, da, dn, kV, doc, pm, an, cdv, ct, osl, dsl, rfl, l, ld, c⟩, k⟩
end
/-- a def of the text with its promise, called with the last arguments left out -/
def DefS (P : Program) (w : World) (K : PySem.W.Frag) (mg : Str → Option Value) (base : Heap) (x : Str) (k : Nat) (ps : List Str) (ds : List Value) (sp : Sp) : Prop :=
  ∃ f fd, FnOk P w K mg base CX0 k f fd ps sp ∧ mg x = some (.ref f) ∧ PySem.W.keepIn K (.ref f) = true ∧ Binds K fd ps ds
section
variable {X : Cx} {x : Str} {k k' : Nat} {ps : List Str} {sp : Sp} {e : Expr} {es : List Expr} {t : TA} {p pos : Pos} {ds : List Value} {dvs : List V}
end
/-- a def with defaults as the top has made it -/
def HereD (K : PySem.W.Frag) (mg : Str → Option Value) (x : Str) (st : Stmt) (ps : List Str) (ds : List Value) : Prop := ∃ f fd, FunD K x x st f fd ds ∧ mg x = some (.ref f) ∧ Binds K fd ps [] ∧ Binds K fd ps ds
theorem HereD.mk {P : Program} {w : World} {K : PySem.W.Frag} {mg : Str → Option Value} {base : Heap} {x : Str} {st : Stmt} {ps : List Str} {ds : List Value} {k : Nat} {sp : Sp} (h : HereD K mg x st ps ds) (ok : ∀ f fd, FunD K x x st f fd ds → FnOk P w K mg base CX0 k f fd ps sp) :
    Def P w K mg base x k ps sp ∧ DefS P w K mg base x k ps ds sp := by
  obtain ⟨f, fd, F, m, b, b'⟩ := h
  exact ⟨⟨f, fd, ok f fd F, m, F.kp, b⟩, ⟨f, fd, ok f fd F, m, F.kp, b'⟩⟩
end L2

/-! ## piles, and rings popped: the mathematics of points 6 to 9 -/
namespace Ways
abbrev Piles := List (List Nat)
def topsN (p : Piles) : List (Option Nat) := p.map List.head?
def sizeN (p : Piles) : Nat := (p.map List.length).sum
structure PilesOk (p : Piles) : Prop where
  pos : 1 ≤ p.length
  len : p.length ≤ 8
  bd : ∀ l ∈ p, ∀ x ∈ l, x < p.length
  few : sizeN p ≤ 400
theorem topsN_len (p : Piles) : (topsN p).length = p.length := List.length_map _
theorem topsN_next {p : Piles} {i : Nat} : nextE (topsN p) i = (p[i]?).bind List.head? := by
  unfold nextE topsN
  rw [List.getElem?_map]
  cases p[i]? <;> rfl
theorem inB_tops {p : Piles} (bd : ∀ l ∈ p, ∀ x ∈ l, x < p.length) : InB (topsN p) := fun i e h => by
  rw [topsN_next] at h
  rw [topsN_len]
  cases c : p[i]? with
  | none => rw [c] at h; cases h
  | some l =>
    rw [c] at h
    have h' : l.head? = some e := h
    exact bd l (List.mem_of_getElem? c) e (List.mem_of_head? h')
def popAux (r : List Nat) : Nat → Piles → Piles
  | _, [] => []
  | k, l :: t => (if k ∈ r then l.drop 1 else l) :: popAux r (k + 1) t
/-- the piles without the tops of these places -/
def popN (p : Piles) (r : List Nat) : Piles := popAux r 0 p
theorem popAux_len (r : List Nat) : ∀ (p : Piles) (k : Nat), (popAux r k p).length = p.length
  | [], _ => rfl
  | l :: t, k => by rw [popAux, List.length_cons, List.length_cons, popAux_len r t]
theorem popN_len (p : Piles) (r : List Nat) : (popN p r).length = p.length := popAux_len r p 0
theorem popAux_at (r : List Nat) : ∀ (p : Piles) (k i : Nat), (popAux r k p)[i]? = (p[i]?).map fun l => if k + i ∈ r then l.drop 1 else l
  | [], _, _ => by simp [popAux]
  | l :: t, k, 0 => by simp [popAux]
  | l :: t, k, i + 1 => by
    rw [popAux, List.getElem?_cons_succ, List.getElem?_cons_succ, popAux_at r t]
    rw [show k + 1 + i = k + (i + 1) by omega]
theorem popN_at (p : Piles) (r : List Nat) (i : Nat) : (popN p r)[i]? = (p[i]?).map fun l => if i ∈ r then l.drop 1 else l := by
  have := popAux_at r p 0 i
  rw [Nat.zero_add] at this
  exact this
theorem popAux_mem (r : List Nat) : ∀ (p : Piles) (k : Nat) (l : List Nat), l ∈ popAux r k p → ∃ m ∈ p, l = m ∨ l = m.drop 1
  | [], _, l, h => by simp [popAux] at h
  | m :: t, k, l, h => by
    rw [popAux] at h
    rcases List.mem_cons.mp h with e | h
    · refine ⟨m, List.mem_cons_self, ?_⟩
      by_cases c : k ∈ r
      · rw [if_pos c] at e; exact .inr e
      · rw [if_neg c] at e; exact .inl e
    · obtain ⟨m', hm, e⟩ := popAux_mem r t (k + 1) l h
      exact ⟨m', List.mem_cons_of_mem _ hm, e⟩
theorem popAux_size (r : List Nat) : ∀ (p : Piles) (k : Nat), sizeN (popAux r k p) ≤ sizeN p
  | [], _ => Nat.le_refl _
  | l :: t, k => by
    have ih := popAux_size r t (k + 1)
    unfold sizeN at ih ⊢
    rw [popAux, List.map_cons, List.map_cons, List.sum_cons, List.sum_cons]
    by_cases c : k ∈ r
    · rw [if_pos c, List.length_drop]; omega
    · rw [if_neg c]; omega
theorem popAux_less (r : List Nat) : ∀ (p : Piles) (k i : Nat), k + i ∈ r → (∃ l, p[i]? = some l ∧ l ≠ []) → sizeN (popAux r k p) < sizeN p
  | [], _, _, _, h => by obtain ⟨l, e, _⟩ := h; simp at e
  | l :: t, k, 0, hr, h => by
    obtain ⟨l', e, hn⟩ := h
    have e' : l = l' := by simpa using e
    subst e'
    have ih := popAux_size r t (k + 1)
    have hp : 0 < l.length := List.length_pos_iff.mpr hn
    unfold sizeN at ih ⊢
    rw [popAux, List.map_cons, List.map_cons, List.sum_cons, List.sum_cons, if_pos (by simpa using hr), List.length_drop]
    omega
  | l :: t, k, i + 1, hr, h => by
    have ih := popAux_less r t (k + 1) i (by rw [show k + 1 + i = k + (i + 1) by omega]; exact hr) (by simpa using h)
    unfold sizeN at ih ⊢
    rw [popAux, List.map_cons, List.map_cons, List.sum_cons, List.sum_cons]
    by_cases c : k ∈ r
    · rw [if_pos c, List.length_drop]; omega
    · rw [if_neg c]; omega
theorem PilesOk.pop {p : Piles} (ok : PilesOk p) (r : List Nat) : PilesOk (popN p r) := by
  refine ⟨by rw [popN_len]; exact ok.pos, by rw [popN_len]; exact ok.len, fun l hl x hx => ?_, Nat.le_trans (popAux_size r p 0) ok.few⟩
  rw [popN_len]
  obtain ⟨m, hm, e⟩ := popAux_mem r p 0 l hl
  rcases e with rfl | rfl
  · exact ok.bd _ hm x hx
  · exact ok.bd m hm x (List.mem_of_mem_drop hx)
theorem PilesOk.inB {p : Piles} (ok : PilesOk p) : InB (topsN p) := inB_tops ok.bd
theorem ring_place {p : Piles} {r : List Nat} (hb : InB (topsN p)) (h : r ∈ ringsN (topsN p)) : ∀ x ∈ r, ∃ l, p[x]? = some l ∧ l ≠ [] := fun x hx => by
  have ring := rings_is hb h
  obtain ⟨i, hi, rfl⟩ := List.mem_iff_getElem.mp hx
  have e := congrArg (fun l => l[i]?) ring.next
  simp only [List.getElem?_map, List.getElem?_eq_getElem hi, Option.map_some] at e
  have hbd := ring.bd _ hx
  rw [topsN_len] at hbd
  refine ⟨p[r[i]], List.getElem?_eq_getElem hbd, fun z => ?_⟩
  rw [topsN_next, List.getElem?_eq_getElem hbd] at e
  simp only [Option.bind_some, z, List.head?_nil] at e
  cases c : (rot r)[i]? with
  | none => rw [c] at e; cases e
  | some y => rw [c] at e; cases e
theorem pop_less {p : Piles} {r : List Nat} (hb : InB (topsN p)) (h : r ∈ ringsN (topsN p)) : sizeN (popN p r) < sizeN p := by
  have ring := rings_is hb h
  obtain ⟨x, hx⟩ := List.exists_mem_of_ne_nil r ring.ne
  exact popAux_less r p 0 x (by rw [Nat.zero_add]; exact hx) (ring_place hb h x hx)
/-! ### popped out by an order -/
noncomputable def pick (num : Nat → Int) (t : Nat) (l : List (List Nat)) : List Nat := l.getD (num t % (l.length : Int)).toNat []
theorem pick_lt {num : Nat → Int} {t : Nat} {l : List (List Nat)} (h : l ≠ []) : (num t % (l.length : Int)).toNat < l.length := by
  have hp : 0 < l.length := List.length_pos_iff.mpr h
  have h1 := Int.emod_nonneg (num t) (show (l.length : Int) ≠ 0 by omega)
  have h2 := Int.emod_lt_of_pos (num t) (show (0 : Int) < l.length by omega)
  omega
theorem pick_mem {num : Nat → Int} {t : Nat} {l : List (List Nat)} (h : l ≠ []) : pick num t l ∈ l := by
  unfold pick
  rw [List.getD_eq_getElem?_getD, List.getElem?_eq_getElem (pick_lt h)]
  exact List.getElem_mem _
inductive Steps (num : Nat → Int) (p0 : Piles) : List (List Nat) → Piles → Prop
  | nil : Steps num p0 [] p0
  | snoc {rs : List (List Nat)} {p : Piles} : Steps num p0 rs p → ringsN (topsN p) ≠ [] → Steps num p0 (rs ++ [pick num rs.length (ringsN (topsN p))]) (popN p (pick num rs.length (ringsN (topsN p))))
def Out (num : Nat → Int) (p0 : Piles) (rs : List (List Nat)) (p : Piles) : Prop := Steps num p0 rs p ∧ ringsN (topsN p) = []
theorem Steps.ok {num : Nat → Int} {p0 : Piles} (ok : PilesOk p0) {rs : List (List Nat)} {p : Piles} (h : Steps num p0 rs p) : PilesOk p ∧ p.length = p0.length ∧ rs.length + sizeN p ≤ sizeN p0 := by
  induction h with
  | nil => exact ⟨ok, rfl, by simp⟩
  | @snoc rs p h hne ih =>
    obtain ⟨a, b, c⟩ := ih
    refine ⟨a.pop _, by rw [popN_len]; exact b, ?_⟩
    have := pop_less a.inB (pick_mem (num := num) (t := rs.length) hne)
    rw [List.length_append, List.length_singleton]
    omega
theorem Steps.last {num : Nat → Int} {p0 : Piles} {rs : List (List Nat)} {p : Piles} (h : Steps num p0 rs p) : (rs = [] ∧ p = p0) ∨ ∃ rs' q, Steps num p0 rs' q ∧ ringsN (topsN q) ≠ [] ∧ rs = rs' ++ [pick num rs'.length (ringsN (topsN q))] ∧ p = popN q (pick num rs'.length (ringsN (topsN q))) := by
  cases h with
  | nil => exact .inl ⟨rfl, rfl⟩
  | snoc h hne => exact .inr ⟨_, _, h, hne, rfl, rfl⟩
theorem Steps.det {num : Nat → Int} {p0 : Piles} : ∀ (n : Nat) {rs rs' : List (List Nat)} {p p' : Piles}, rs.length = n → rs'.length = n → Steps num p0 rs p → Steps num p0 rs' p' → rs = rs' ∧ p = p'
  | 0, rs, rs', p, p', h1, h2, a, b => by
    rcases a.last with ⟨rfl, rfl⟩ | ⟨_, _, _, _, e, _⟩
    · rcases b.last with ⟨rfl, rfl⟩ | ⟨_, _, _, _, e, _⟩
      · exact ⟨rfl, rfl⟩
      · rw [e] at h2; simp at h2
    · rw [e] at h1; simp at h1
  | n + 1, rs, rs', p, p', h1, h2, a, b => by
    rcases a.last with ⟨rfl, rfl⟩ | ⟨r1, q1, a1, n1, e1, f1⟩
    · simp at h1
    · rcases b.last with ⟨rfl, rfl⟩ | ⟨r2, q2, a2, n2, e2, f2⟩
      · simp at h2
      · rw [e1] at h1
        rw [e2] at h2
        rw [List.length_append, List.length_singleton] at h1 h2
        obtain ⟨z1, z2⟩ := Steps.det n (by omega) (by omega) a1 a2
        subst z1 z2
        exact ⟨e1.trans e2.symm, f1.trans f2.symm⟩
/-- ahead of each ring -/
theorem Steps.at {num : Nat → Int} {p0 : Piles} {rs : List (List Nat)} {p : Piles} (h : Steps num p0 rs p) : ∀ k, k < rs.length → ∃ q, Steps num p0 (rs.take k) q ∧ ringsN (topsN q) ≠ [] ∧ rs[k]? = some (pick num k (ringsN (topsN q))) ∧ Steps num p0 (rs.take (k + 1)) (popN q (pick num k (ringsN (topsN q)))) := by
  induction h with
  | nil => intro k hk; simp at hk
  | @snoc rs p h hne ih =>
    intro k hk
    rw [List.length_append, List.length_singleton] at hk
    by_cases hl : k < rs.length
    · obtain ⟨q, a, b, c, d⟩ := ih k hl
      refine ⟨q, ?_, b, ?_, ?_⟩
      · rw [List.take_append_of_le_length (by omega)]; exact a
      · rw [List.getElem?_append_left hl]; exact c
      · rw [List.take_append_of_le_length (by omega)]; exact d
    · have e : k = rs.length := by omega
      subst e
      refine ⟨p, ?_, hne, ?_, ?_⟩
      · rw [List.take_append_of_le_length (Nat.le_refl _), List.take_length]; exact h
      · rw [List.getElem?_append_right (Nat.le_refl _), Nat.sub_self]; rfl
      · rw [List.take_of_length_le (by simp)]; exact .snoc h hne
theorem Out.unique {num : Nat → Int} {p0 : Piles} {rs rs' : List (List Nat)} {p p' : Piles} (a : Out num p0 rs p) (b : Out num p0 rs' p') : rs = rs' ∧ p = p' := by
  have key : ∀ {rs rs' : List (List Nat)} {p p' : Piles}, Out num p0 rs p → Out num p0 rs' p' → ¬ rs.length < rs'.length := fun {rs rs' p p'} a b h => by
    obtain ⟨q, s, hne, _⟩ := b.1.at rs.length h
    have := (Steps.det rs.length rfl (by rw [List.length_take]; omega) a.1 s).2
    subst this
    exact hne a.2
  have h1 := key a b
  have h2 := key b a
  exact Steps.det rs.length rfl (by omega) a.1 b.1
def numN (o : Option (List Int)) (t : Nat) : Int := match o with
  | none => 0
  | some l => l.getD t 0
end Ways

/-! ## isinstance of a caught error of the program's own classes -/
namespace PySem.W
open PySem PySem.Spec PySem.Calls PyProof.Rows
section
variable {prog : Program} {w : World} {A : Around} {E : Value → Shared → Prop} {s : Shared} {K : Frag} {x C : Addr} {ox : Obj}
/-- what is asked of an error class as the top has made it -/
structure ExcK (K : Frag) (C : Addr) : Prop where
  ga : findIn K (.ref C) "__getattribute__" = some (some (.builtin "BaseException.__getattribute__"))
  gt : findIn K (.ref C) "__getattr__" = some none
  cl : findIn K (.ref C) "__class__" = some (some (.builtin "object.__class__"))
  gs : specialIn K (.builtin "object.__class__") "__get__" = some (some (.builtin "getset_descriptor.__get__"))
  tk : takesIn K (.builtin "object.__class__") = some true
  mo : mroIn K C (.type "object") = some true
  mb : mroIn K C (.type "BaseException") = some true
  is : (clsIn K C).isSome = true
/-- an error that lies there, with its class -/
def ExcAt (e C : Addr) (h : Heap) : Prop := ∃ o vs, h.get? e = some o ∧ o.cls = .ref C ∧ o.dict = none ∧ o.data = .fields vs
end
end PySem.W

/-! ## errors: how one lies in the heap, how it leaves a frame, how it is noted -/
namespace L2
open PySem PySem.Spec PyProof.Rows

/-- an error with its class, its own dict, its newest record and that record's mark -/
def ErrO (h : Heap) (e : Addr) (c : Value) (d : Option Addr) (T : Addr) (fl : Value) : Prop :=
  ∃ oe vs oT ts, h.get? e = some oe ∧ oe.cls = c ∧ oe.dict = d ∧ oe.data = .fields vs ∧ vs[1]? = some (.ref T) ∧ T ≠ e ∧ h.get? T = some oT ∧ oT.data = .fields ts ∧ ts[3]? = some fl
/-- an error just made: no record yet -/
def ErrN (h : Heap) (e : Addr) (c : Value) (d : Option Addr) : Prop := ∃ oe vs, h.get? e = some oe ∧ oe.cls = c ∧ oe.dict = d ∧ oe.data = .fields vs ∧ vs[1]? = some Value.none
/-- of the frames the slots may change, of ex anything -/
def Moved (fs ex : List Addr) (h h' : Heap) : Prop :=
  (∀ b o, b ∉ fs → b ∉ ex → h.get? b = some o → h'.get? b = some o) ∧ ∀ b o, b ∈ fs → h.get? b = some o → ∃ sl, h'.get? b = some { o with slots := sl }
theorem Moved.any {fs ex : List Addr} {h h' : Heap} (m : Moved fs ex h h') {b : Addr} {o : Obj} (e : h.get? b = some o) (hx : b ∉ ex) : ∃ sl, h'.get? b = some { o with slots := sl } := by
  by_cases hb : b ∈ fs
  · exact m.2 b o hb e
  · exact ⟨o.slots, m.1 b o hb hx e⟩
theorem Moved.then {fs ex : List Addr} {h h1 h2 : Heap} {T : Addr} (a : Moved fs ex h h1) (b : Moved [] [T] h1 h2) (hT : h.get? T = none) (hf : ∀ c ∈ fs, c ∉ ex) : Moved fs ex h h2 := by
  have ne : ∀ c o, h.get? c = some o → c ∉ [T] := fun c o e z => by
    rw [List.mem_singleton.mp z, hT] at e
    cases e
  refine ⟨fun c o h1 h2 e => b.1 c o (by simp) (ne c o e) (a.1 c o h1 h2 e), fun c o hc e => ?_⟩
  obtain ⟨sl, q⟩ := a.2 c o hc e
  exact ⟨sl, b.1 c _ (by simp) (ne c o e) q⟩

section
variable {M : Model} {A : Around} {E : Value → Shared → Prop} {s : Shared} {base : Heap} {env : Env} {outer : List Env} {L e T : Addr} {c : Value} {d : Option Addr}
end

/-! ### what is tracked stays -/
section
variable {P : Program} {w : World}
theorem ObjOk.get {H : Hp} {h : Heap} {a : Addr} {o : HO} (x : ObjOk P w H h a o) : ∃ ob, h.get? a = some ob := by
  cases o with
  | lst xs => obtain ⟨_, _, _, _, e⟩ := x; exact ⟨_, e⟩
  | tup xs => obtain ⟨_, _, _, _, e, _⟩ := x; exact ⟨_, e⟩
  | dK kvs => obtain ⟨_, _, _, _, o, _, _, e, _⟩ := x; exact ⟨_, e⟩
  | dT kvs => obtain ⟨_, _, _, _, o, _, _, e, _⟩ := x; exact ⟨_, e⟩
  | set S n => obtain ⟨o, _, _, _, e, _⟩ := x; exact ⟨_, e⟩
  | ins C dx fs => obtain ⟨_, _, _, e, _⟩ := x; exact ⟨_, e⟩
  | own y => exact x
  | xd fs => obtain ⟨_, ⟨_, _, _, e, _⟩, _⟩ := x; exact ⟨_, e⟩
  | rng lo hi => obtain ⟨_, _, _, e⟩ := x; exact ⟨_, e⟩
  | frz ob u => obtain ⟨e, _⟩ := x; exact ⟨_, e⟩
  | tbl ps => exact ⟨_, x⟩
  | met f y => exact ⟨_, x⟩
  | ext φ => obtain ⟨_, e, _⟩ := x; exact e
theorem HOk.gone {H : Hp} {h : Heap} {a : Addr} (x : HOk P w H h) (e : h.get? a = none) : H a = none := by
  cases q : H a with
  | none => rfl
  | some o =>
    obtain ⟨ob, r⟩ := (x a o q).get
    rw [e] at r
    cases r
theorem HOk.moved {H : Hp} {h h' : Heap} {fs ex : List Addr} (x : HOk P w H h) (m : Moved fs ex h h') (hf : ∀ b ∈ fs, H b = none) (hx : ∀ b ∈ ex, H b = none) : HOk P w H h' := fun a o e => by
  have nn : ∀ {b : Addr} {u : HO}, H b = some u → b ∉ fs ∧ b ∉ ex := fun {b u} q => ⟨fun z => (by rw [hf b z] at q; cases q), fun z => (by rw [hx b z] at q; cases q)⟩
  refine (x a o e).stay (fun b u hb q => ?_) (fun _ q => q) fun _ _ q => q
  rcases hb with rfl | hb
  · exact m.1 _ _ (nn e).1 (nn e).2 q
  · exact m.1 _ _ (nn hb).1 (nn hb).2 q
theorem Un.moved {fs0 ex0 fs ex : List Addr} {H H' : Hp} {g h h' : Heap} (u : Un fs0 ex0 H H' g h) (m : Moved fs ex h h') (hf : ∀ b ∈ fs, b ∈ fs0 ∨ g.get? b = none) (hx : ∀ b ∈ ex, g.get? b = none) : Un fs0 ex0 H H' g h' := by
  have nx : ∀ {b : Addr} {o : Obj}, g.get? b = some o → b ∉ ex := fun {b o} q z => by rw [hx b z] at q; cases q
  refine ⟨fun b o q n h1 h2 => ?_, fun b o q n h1 h2 => ?_, u.free, fun b o q h2 => ?_, u.tups, u.frzs, u.tbls⟩
  · refine m.1 b o (fun z => ?_) (nx q) (u.keep b o q n h1 h2)
    rcases hf b z with r | r
    · exact h1 r
    · rw [r] at q; cases q
  · obtain ⟨sl, e1⟩ := u.slot b o q n h1 h2
    obtain ⟨sl', e2⟩ := m.any e1 (nx q)
    exact ⟨sl', e2⟩
  · obtain ⟨o', e1⟩ := u.there b o q h2
    obtain ⟨sl, e2⟩ := m.any e1 (nx q)
    exact ⟨_, e2⟩
/-- the state of a body behind such a move -/
theorem Inv.moved {X : Cx} {pins : List (Addr × Obj)} {σ : St} {H : Hp} {s : Shared} {h' : Heap} {ex : List Addr} {t' : Nat} (I : Inv X pins σ H s) (m : Moved (frs X.stack) ex s.heap h')
    (hx : ∀ b ∈ ex, X.s₀.heap.get? b = none ∧ H b = none ∧ b ≠ X.env.locals ∧ (∀ x c, X.env.cells.lookup x = some c → c ≠ b) ∧ ∀ p ∈ X.pn ++ pins, p.1 ≠ b) : Inv X pins σ H { s with heap := h', toks := t' } := by
  have hs : ∀ b ∈ frs X.stack, b ∈ X.fs ∨ X.s₀.heap.get? b = none := fun b hb => by
    rcases List.mem_cons.mp (I.stkSub b hb) with r | r
    · exact .inr (by rw [r]; exact Heap.get?_none_of_le I.ok.above)
    · exact .inl r
  have cK : ∀ x c, X.env.cells.lookup x = some c → ∀ v, s.heap.IsCell c v → h'.IsCell c v := fun x c e v ⟨o, ho, hd⟩ => by
    obtain ⟨sl, q⟩ := m.any ho fun z => (hx c z).2.2.2.1 x c e rfl
    exact ⟨_, q, hd⟩
  refine ⟨I.ok, I.os, I.bare, I.base.moved m hs fun b hb => (hx b hb).1, ?_, fun x c e => ?_, I.free, I.freeC, fun p hp => ?_, I.hok.moved m I.stkFree fun b hb => (hx b hb).2.1, I.len⟩
  · obtain ⟨mm, ⟨o, es, ep, ho, r⟩, hl⟩ := I.loc
    obtain ⟨sl, q⟩ := m.any ho fun z => (hx _ z).2.2.1 rfl
    refine ⟨mm, ⟨_, es, ep, q, r⟩, fun i x v e1 e2 e3 => ?_⟩
    obtain ⟨u, ru, l⟩ := hl i x v e1 e2 e3
    refine ⟨u, ru, l.imp id fun ⟨k, c, e, z⟩ => ⟨k, c, e, cK x c e _ z⟩⟩
  · obtain ⟨v, z⟩ := I.cell x c e
    exact ⟨v, cK x c e v z⟩
  · obtain ⟨e, n, ne, nf, dd⟩ := I.pin p hp
    refine ⟨m.1 _ _ (fun z => ?_) (fun z => (hx _ z).2.2.2.2 p hp rfl) e, n, ne, nf, dd⟩
    exact (List.mem_cons.mp (I.stkSub _ z)).elim ne nf
end
end L2

/-! ## errors of the program's own classes: raised, passed on, caught -/
namespace L2
open PySem PySem.Spec PyProof.Rows

def baseVE : List Value := [.type "ValueError", .type "Exception", .type "BaseException", .type "object"]
/-- an error class of the program's own, as the top has made it -/
structure Err (K : PySem.W.Frag) (mg : Str → Option Value) (x : Str) (C : Addr) : Prop where
  bound : mg x = some (.ref C)
  ex : PySem.W.excIn K C baseVE "ValueError.__new__" = true
  kx : PySem.W.ExcK K C
/-- how an error lies behind a call -/
def CX1 (P : Program) (w : World) : CXT := fun outer H s E e s' =>
  ∃ (ea T : Addr) (c : Value) (H' : Hp), e = .ref ea ∧ s'.os = s.os ∧ AllBare s'.gens ∧ Un (frs outer) [] H H' s.heap s'.heap ∧ HOk P w H' s'.heap ∧ ErrO s'.heap ea c none T .none ∧ s.heap.get? ea = none ∧ s.heap.get? T = none ∧ H' ea = none ∧ H' T = none ∧ E c none H'

theorem Inv.none0 {X : Cx} {pins : List (Addr × Obj)} {σ : St} {H : Hp} {s : Shared} {b : Addr} (I : Inv X pins σ H s) (hx : b ∉ X.ex) (e : s.heap.get? b = none) : X.s₀.heap.get? b = none := by
  cases q : X.s₀.heap.get? b with
  | none => rfl
  | some o =>
    obtain ⟨o', r⟩ := I.base.there b o q hx
    rw [e] at r
    cases r

section
variable {P : Program} {w : World} {K : PySem.W.Frag} {mg : Str → Option Value} {base : Heap} {N : List Str} {qual : Str} {scope : Scope} {f : Addr} {cdv : Value} {A : Around} {outer : List Env} {s₀ : Shared} {H₀ : Hp} {E : XK}
end

/-! ### matching -/
/-- the class at C is under the one at D -/
structure Under (K : PySem.W.Frag) (C D : Addr) : Prop where
  ex : PySem.W.excIn K C baseVE "ValueError.__new__" = true
  kx : PySem.W.ExcK K C
  sub : PySem.W.mroIn K C (.ref D) = some true
/-! ### within an except suite -/
abbrev Cx.caught (X : Cx) (e : Addr) : Cx := { X with A := X.A.mark (some (.ref e)), calm := false, xe := fun _ _ => False }
section
variable {X : Cx} {pins : List (Addr × Obj)} {σ : St} {H : Hp} {s : Shared} {e : Addr}
theorem Inv.caught (I : Inv X pins σ H s) (e : Addr) : Inv (X.caught e) pins σ H s :=
  ⟨⟨I.ok.mod, I.ok.kind, I.ok.glob, I.ok.blt, I.ok.above, I.ok.inj, I.ok.has, I.ok.cab, (fun z => by cases z), I.ok.frames, I.ok.stk, I.ok.exf, I.ok.bs, I.ok.bsz, I.ok.noex, I.ok.exfs, I.ok.funs, I.ok.frf⟩, I.os, I.bare, I.base, I.loc, I.cell, I.free, I.freeC, I.pin, I.hok, I.len⟩
/-- an object that lies there is tracked from now on -/
theorem Inv.track {o : HO} (I : Inv X pins σ H s) (hn : H e = none) (h0 : X.s₀.heap.get? e = none) (hl : e ≠ X.env.locals) (hc : ∀ x c, X.env.cells.lookup x = some c → c ≠ e) (hp : ∀ p ∈ X.pn ++ pins, p.1 ≠ e) (ob : ObjOk X.prog X.w (upd H e o) s.heap e o) : Inv X pins σ (upd H e o) s := by
  have ne : ∀ b u, X.s₀.heap.get? b = some u → b ≠ e := fun b u q z => by rw [z, h0] at q; cases q
  refine ⟨I.ok, I.os, I.bare, ⟨I.base.keep, I.base.slot, fun b u q n hx => ?_, I.base.there, fun b xs q => ?_, fun b u xs q => ?_, fun b ps q => ?_⟩, I.loc, I.cell, ?_, fun x c q => ?_, fun p hpp => ?_, fun b u q => ?_, I.len⟩
  · rw [upd_ne (ne b u q)]; exact I.base.free b u q n hx
  · have := I.base.tups b xs q
    rw [upd_ne (ne_of_none this hn)]; exact this
  · have := I.base.frzs b u xs q
    rw [upd_ne (ne_of_none this hn)]; exact this
  · obtain ⟨more, this⟩ := I.base.tbls b ps q
    exact ⟨more, by rw [upd_ne (ne_of_none this hn)]; exact this⟩
  · rw [upd_ne (Ne.symm hl)]; exact I.free
  · rw [upd_ne (hc x c q)]; exact I.freeC x c q
  · obtain ⟨a, b, c, d, f⟩ := I.pin p hpp
    exact ⟨a, by rw [upd_ne (hp p hpp)]; exact b, c, d, f⟩
  · by_cases hb : b = e
    · subst hb; rw [upd_same] at q; cases q; exact ob
    · rw [upd_ne hb] at q
      exact (I.hok b u q).stay (fun _ _ _ z => z) (fun c z => by rw [upd_ne (ne_of_none z hn)]; exact z) fun c xs z => by rw [upd_ne (ne_of_none z hn)]; exact z
end
end L2

namespace L2
open PySem PySem.Spec PyProof.Rows
/-! ### try: f(..) except D as n: suite -/
def tTry (K : PySem.W.Frag) (D : Addr) (i : Nat) (sp : Sp) (ta : TA) (th : TS) : TS := fun Ds σ H => ta σ H fun vs H1 => sp vs H1 (fun _ H2 => Ds.nx σ H2) (fun c _ H2 => ∃ C, c = .ref C ∧ Under K C D ∧
  ∀ ea, H2 ea = none → th { nx := fun σ2 H3 => Ds.nx (σ2.set i none) H3, rt := Ds.rt, bk := fun σ2 H3 => Ds.bk (σ2.set i none) H3, ct := fun σ2 H3 => Ds.ct (σ2.set i none) H3 } (σ.set i (some (.ref ea))) (upd H2 ea (.ext (PySem.W.ExcAt ea C))))
section
variable {X : Cx} {k : Nat} {f D : Addr} {fd : FuncData} {ps : List Str} {sp : Sp} {fx xd n : Str} {i : Nat} {p cpos epos np hpos pos : Pos} {e : Expr} {es : List Expr} {ta : TA} {b₀ : Stmt} {suite : List Stmt} {th : TS}
/-- what is not there is nobody's -/
theorem Inv.out {pins : List (Addr × Obj)} {σ : St} {H : Hp} {s : Shared} {b : Addr} (I : Inv X pins σ H s) (hex : X.ex = []) (hb : s.heap.get? b = none) :
    X.s₀.heap.get? b = none ∧ H b = none ∧ b ≠ X.env.locals ∧ (∀ x c, X.env.cells.lookup x = some c → c ≠ b) ∧ ∀ p ∈ X.pn ++ pins, p.1 ≠ b := by
  refine ⟨I.none0 (by rw [hex]; simp) hb, I.hok.gone hb, fun z => ?_, fun x c q z => ?_, fun p hp z => ?_⟩
  · obtain ⟨m, ⟨o, es, ep, ho, _⟩, _⟩ := I.loc
    rw [z, ho] at hb; cases hb
  · obtain ⟨v, o, ho, _⟩ := I.cell x c q
    rw [z, hb] at ho; cases ho
  · have := (I.pin p hp).1
    rw [z, hb] at this; cases this
end
end L2

/-! ## calls within an except suite; isinstance of a caught error -/
namespace L2
open PySem PySem.Spec PyProof.Rows
structure RoomH (k : Nat) (A : Around) : Prop where
  dp : A.depth + 3 * k + 5 < recursionLimit
  un : A.units + 16 * k + 200 < cLine
theorem Room.h {k : Nat} {A : Around} (r : Room k A) (e : Option Value) : RoomH k (A.mark e) := ⟨r.dp, r.un⟩
theorem RoomH.mono {j k : Nat} {A : Around} (r : RoomH k A) (h : j ≤ k) : RoomH j A := ⟨by have := r.dp; omega, by have := r.un; omega⟩
def cxH (P : Program) (w : World) (K : PySem.W.Frag) (mg : Str → Option Value) (base : Heap) (N : List Str) (qual : Str) (scope : Scope) (f : Addr) (cd : Value) (A : Around) (outer : List Env) (s : Shared) (H : Hp) : Cx :=
  { cxOf CX0 P w K mg base N qual scope f cd A outer s H E0 with calm := false, xe := fun _ _ => False }
/-- a def that raises nothing, called anywhere -/
structure FnOkH (P : Program) (w : World) (K : PySem.W.Frag) (mg : Str → Option Value) (base : Heap) (k : Nat) (f : Addr) (fd : FuncData) (ps : List Str) (sp : Sp) : Prop where
  len : ∀ vs H Q E, sp vs H Q E → vs.length = ps.length
  run : ∀ (A : Around) (outer : List Env) (s : Shared) (H : Hp) (args : Args) (us : List Value) (vs : List V) (Q : VK), RoomH k A → Env0 P w K mg base A outer s H → BindsTo s fd args (ps.zip us) → Vals vs us → sp vs H Q E0 →
    codeAny (model P w) A (.call (.ref f) args) (CR CX0 outer P w H s Q E0) s
def DefE (P : Program) (w : World) (K : PySem.W.Frag) (mg : Str → Option Value) (base : Heap) (x : Str) (k : Nat) (ps : List Str) (sp : Sp) : Prop :=
  ∃ f fd, FnOk P w K mg base (CX1 P w) k f fd ps sp ∧ mg x = some (.ref f) ∧ PySem.W.keepIn K (.ref f) = true ∧ Binds K fd ps []
def DefH (P : Program) (w : World) (K : PySem.W.Frag) (mg : Str → Option Value) (base : Heap) (x : Str) (k : Nat) (ps : List Str) (sp : Sp) : Prop :=
  ∃ f fd, FnOkH P w K mg base k f fd ps sp ∧ mg x = some (.ref f) ∧ PySem.W.keepIn K (.ref f) = true ∧ Binds K fd ps []
section
variable {X : Cx} {x : Str} {k k' : Nat} {ps : List Str} {sp : Sp} {e : Expr} {es : List Expr} {t : TA} {p pos : Pos}
end
/-! ### isinstance(e, ..) of a caught error -/
structure Not (K : PySem.W.Frag) (mg : Str → Option Value) (x : Str) (D C : Addr) : Prop where
  bound : mg x = some (.ref D)
  cl : PySem.W.isClsIn K D = true
  ty : PySem.W.typeIn K (.ref D) = some (.type "type")
  no : PySem.W.mroIn K C (.ref D) = some false
section
variable {X : Cx} {K : PySem.W.Frag}
def rIsiT (K : PySem.W.Frag) : List V → Hp → VK → Prop := fun xs H Q => ∃ (ea C tp : Addr) (ds : List Addr) (b : Bool), xs = [.ref ea, .ref tp] ∧ H ea = some (.ext (PySem.W.ExcAt ea C)) ∧ PySem.W.ExcK K C ∧ H tp = some (.tup (ds.map V.ref)) ∧ PySem.W.kitAny K (.ref C) (ds.map Value.ref) = some b ∧ Q (.bl b) H
def rIsiV (K : PySem.W.Frag) : List V → Hp → VK → Prop := fun xs H Q => ∃ ea C T b, xs = [.ref ea, .ty T] ∧ H ea = some (.ext (PySem.W.ExcAt ea C)) ∧ PySem.W.ExcK K C ∧ PySem.W.kitOne K (.ref C) (.type T) = some b ∧ Q (.bl b) H
end
end L2

/-! ## in over lists of data; list(reversed(..)); try with a def that raises -/
namespace L2
open PySem PySem.Spec PyProof.Rows
section
variable {X : Cx} {K : PySem.W.Frag}
def rInD : R2 := fun x y H Q => ∃ d es, Rep H x d ∧ Rep H y (.list es) ∧ SeqAt.shaped d = true ∧ SeqAt.shaped (.list es) = true ∧ min (PyData.depthAll es) d.depth ≤ 20 ∧ Q (.bl (es.any fun e => PyData.eqv e d)) H
end
end L2
namespace PySem
namespace F
end F
section
variable {prog : Program} {w : World} {A : Around} {E : Value → Shared → Prop} {s : Shared}
variable {R : Result → Shared → Prop}
end
end PySem
namespace L2
open PySem PySem.Spec PyProof.Rows
theorem vals_get : ∀ {xs : List V} {us : List Value}, xs.length = us.length → (∀ (i : Nat) (v : V), xs[i]? = some v → ∃ u, us[i]? = some u ∧ RelV v u) → Vals xs us
  | [], [], _, _ => .nil
  | [], _ :: _, h, _ => nomatch h
  | _ :: _, [], h, _ => nomatch h
  | x :: xs, u :: us, h, p => by
    obtain ⟨w, hw, r⟩ := p 0 x rfl
    cases hw
    exact .cons r (vals_get (Nat.succ.inj h) fun i v hv => p (i + 1) v hv)
def tLR (K : PySem.W.Frag) (ta : TA) : TE := fun σ H Q => ta σ H fun vs H1 => ∃ a xs, vs = [.ref a] ∧ SqL K H1 a xs ∧ ∀ l, H1 l = none → Q (.ref l) (upd H1 l (.lst xs.reverse))
section
variable {X : Cx} {K : PySem.W.Frag}
/-! ### try: f(..) except D as n: .. -/
section
variable {X : Cx} {x : Str} {k k' : Nat} {ps : List Str} {sp : Sp} {fx xd n : Str} {i : Nat} {p cpos epos np hpos pos : Pos} {e : Expr} {es : List Expr} {ta : TA} {b₀ : Stmt} {suite : List Stmt} {th : TS} {D : Addr}
end
end
end L2

/-! ## list(reversed(range(n))) -/
namespace PySem
namespace F
theorem rit_no_len : typeLookup (.type "range_iterator") "__len__" = pure none := by rw [typeLookup_type, builtinLookup_eq_fast]; kernel_rfl
theorem sub_rit_reversed : isSubtype (.type "range_iterator") (.type "reversed") = pure false := by rw [isSubtype_type]; kernel_rfl
end F
section
variable {prog : Program} {w : World} {A : Around} {E : Value → Shared → Prop} {s : Shared}
theorem call_rit_hint {I : Addr} {x n c : Int} {Q : Value → Shared → Prop} (hit : IsRangeIter s.heap I x n c) (h : Q (.int n s.toks) { s with toks := s.toks + 1 }) : wpAny (model prog w) A (call (.builtin "range_iterator.__length_hint__") [.ref I]) Q E s := by
  have hT : s.TypeIs (.ref I) "range_iterator" := ⟨_, hit, rfl⟩
  refine wpAny_call_entry F.slot_range_iterator_length_hint hT F.entry_range_iterator_length_hint ?_ (F.args_range_iterator_length_hint_1 _)
  obtain ⟨hp, g, d, tk, os⟩ := s
  wp_walk using wpAny_loadPart' hit
  exact ⟨_, rfl, h⟩
theorem wpAny_hint_rit {I : Addr} {x n c : Int} {Q : Bool → Shared → Prop} (hit : IsRangeIter s.heap I x n c) (hn : n.toNat ≤ sizeLine) (h : Q false { s with toks := s.toks + 1 }) : wpAny (model prog w) A (Builtin.List.listLengthHint (.ref I)) Q E s := by
  have hT : s.TypeIs (.ref I) "range_iterator" := ⟨_, hit, rfl⟩
  unfold Builtin.List.listLengthHint
  refine wpAny_bind (wpAny_specialOf hT F.rit_no_len ?_)
  show wpAny _ A (specialOf (Value.ref I) (Str.ofString "__length_hint__") >>= _) _ _ _
  refine wpAny_bind (wpAny_specialOf hT F.slot_range_iterator_length_hint.lookup ?_)
  generalize hid : ("range_iterator.__length_hint__" : String) = id0
  wp_delta
  rw [show splitId id0 = some ("range_iterator", "__length_hint__") from by subst hid; decide +kernel]
  subst hid
  refine wpAny_bind (wpAny_isInstance (T := "range_iterator") (b := true) hT (by rw [isSubtype_type]; kernel_rfl) ?_)
  refine wpAny_ite_split (fun hab => absurd hab (by decide)) (fun _ => ?_)
  refine wpAny_ite_split (fun _ => ?_) (fun hab => absurd (by decide +kernel) hab)
  refine wpAny_ite_split (fun _ => ?_) (fun hab => absurd (by decide +kernel) hab)
  refine wpAny_bind (call_rit_hint hit ?_)
  have htl : Builtin.List.listTooLong n.toNat = false := by simp [Builtin.List.listTooLong]; omega
  refine wpAny_bind (m := asInt? _) (wpAny_pure ?_)
  exact wpAny_ite_split (fun hab => absurd hab (by rw [htl]; decide)) (fun _ => wpAny_pure h)
theorem size1 (n : Nat) : Builtin.Range.rangeSize 0 (n : Int) 1 = n := by
  unfold Builtin.Range.rangeSize
  simp only [show (1 : Int) > 0 by decide, if_true]
  split <;> omega
def ritObj (n : Nat) : Obj := { cls := .type "range_iterator", data := .fields #[rawInt ((n : Int) - 1), rawInt n, rawInt (-1)] }
theorem call_range_reversed {r : Addr} {n : Nat} {t u v : Tok} {Q : Value → Shared → Prop} (hr : IsRange s.heap r 0 (n : Int) 1 t u v) (hn : n < 2 ^ 40)
    (h : Q (.ref s.heap.objs.size) { s with heap := s.heap.push (ritObj n) }) : wpAny (model prog w) A (call (.builtin "range.__reversed__") [.ref r]) Q E s := by
  have hT : s.TypeIs (.ref r) "range" := ⟨_, hr, rfl⟩
  refine wpAny_call_entry F.slot_range_reversed hT F.entry_range_reversed ?_ (F.args_range_reversed_1 _)
  have sm : (Builtin.Range.rangeFitsLong 0 && Builtin.Range.rangeFitsLong (n : Int) && Builtin.Range.rangeFitsLong 1 && Builtin.Range.rangeFitsLong (-1) && Builtin.Range.rangeFitsLong (0 - 1) && Builtin.Range.rangeFitsLong (n : Int)) = true := by
    simp only [Builtin.Range.rangeFitsLong, Bool.and_eq_true, decide_eq_true_eq]
    omega
  have e : (0 : Int) + ((n : Int) - 1) * 1 = (n : Int) - 1 := by omega
  have rf : ∀ {Q : Int × Int × Int → Shared → Prop} {E : Value → Shared → Prop} {A : Around}, Q (0, (n : Int), 1) s → wpAny (model prog w) A (Builtin.Range.rangeFields (.ref r)) Q E s := fun {Q E A} h => by
    unfold Builtin.Range.rangeFields
    refine wpAny_bind (wpAny_field hr rfl (x := .int 0 t) rfl ?_)
    refine wpAny_bind (wpAny_of_eq (a := some (0 : Int)) rfl ?_)
    refine wpAny_bind (wpAny_field hr rfl (x := .int (n : Int) u) rfl ?_)
    refine wpAny_bind (wpAny_of_eq (a := some (n : Int)) rfl ?_)
    refine wpAny_bind (wpAny_field hr rfl (x := .int 1 v) rfl ?_)
    refine wpAny_bind (wpAny_of_eq (a := some (1 : Int)) rfl ?_)
    exact wpAny_of_eq (a := ((0 : Int), (n : Int), (1 : Int))) rfl h
  unfold Builtin.«range.__reversed__»
  refine wpAny_bind (wpAny_of_eq (a := Value.ref r) rfl ?_)
  refine wpAny_bind (rf ?_)
  dsimp only
  rw [size1, sm]
  simp only [Bool.not_true, Bool.false_eq_true, if_false, if_true]
  rw [e]
  refine wpAny_bind (wpAny_newObj_type (wpAny_pure ⟨_, rfl, ?_⟩))
  exact h
theorem code_reversed_range {r : Addr} {n : Nat} {t u v : Tok} {Q₁ : Value → Shared → Prop} (hr : IsRange s.heap r 0 (n : Int) 1 t u v) (hn : n < 2 ^ 40)
    (h : Q₁ (.ref s.heap.objs.size) { s with heap := s.heap.push (ritObj n) }) :
    codeAny (model prog w) A (.call (.builtin "reversed.__new__") ⟨[.type "reversed", .ref r], []⟩) (wants Q₁ E) s := by
  have hT : s.TypeIs (.ref r) "range" := ⟨_, hr, rfl⟩
  refine codeAny_of_tree ?_
  show wpAny _ A.in1 (do checkBuiltinCall "reversed.__new__" ⟨[.type "reversed", .ref r], []⟩; again (.builtin "reversed.__new__" ⟨[.type "reversed", .ref r], []⟩)) _ _ s
  refine wpAny_bind (wpAny_of_eq (F.newCall_reversed_1 _) (wpAny_pure ⟨plainId_quiet F.plain_reversed_new _, codeAny_builtin F.entry_reversed_new ?_⟩))
  rw [Around.under_plainId F.plain_reversed_new _]
  unfold Builtin.«reversed.__new__»
  refine wpAny_bind (wpAny_of_eq (newClass_reversed _) ?_)
  try dsimp only
  refine wpAny_bind (wpAny_of_eq (a := ()) (by first | rfl | kernel_rfl) ?_)
  refine wpAny_bind (wpAny_of_eq (a := ()) (by first | rfl | kernel_rfl) ?_)
  try dsimp only
  refine wpAny_bind (wpAny_specialOf hT F.slot_range_reversed.lookup ?_)
  try dsimp only
  refine wpAny_bind (wpAny_of_eq (F.slot_range_reversed.bind _) ?_)
  try dsimp only
  first
  | rw [if_neg (show ¬ ((Value.builtin "range.__reversed__" == Value.none) = true) from Bool.false_ne_true)]
  | (show wpAny _ _ (if (Value.builtin "range.__reversed__" == Value.none) = true then _ else _) _ _ _; rw [if_neg (show ¬ ((Value.builtin "range.__reversed__" == Value.none) = true) from Bool.false_ne_true)])
  refine wpAny_bind (wpAny_rule ?_)
  refine wpAny_bind (m := runValue (.call (.builtin "range.__reversed__") ⟨[.ref r], []⟩)) (show wpAny _ _ (call (.builtin "range.__reversed__") [.ref r]) _ _ _ from call_range_reversed hr hn ?_)
  first
  | exact wpAny_pure h
  | exact wpAny_bind (wpAny_pure (wpAny_pure h))
theorem call_reversed_range {r : Addr} {n : Nat} {t u v : Tok} {Q : Value → Shared → Prop} (hr : IsRange s.heap r 0 (n : Int) 1 t u v) (hn : n < 2 ^ 40)
    (h : Q (.ref s.heap.objs.size) { s with heap := s.heap.push (ritObj n) }) : wpAny (model prog w) A (call (.type "reversed") [.ref r]) Q E s := by
  refine callType_other (U := "range_iterator") (Q₁ := fun obj s₁ => obj = .ref s.heap.objs.size ∧ s₁ = { s with heap := s.heap.push (ritObj n) }) (by decide +kernel) F.create_reversed ⟨_, _, F.mro_reversed⟩ F.made_reversed F.sub_rit_reversed (F.typeCall_reversed_1 _) (code_reversed_range hr hn ⟨rfl, rfl⟩) ?_
  rintro obj s₁ ⟨rfl, rfl⟩
  exact ⟨⟨_, Heap.get?_push_size _ rfl, rfl⟩, h⟩
variable {R : Result → Shared → Prop}
theorem wpAny_extend_rit {I : Addr} {x c : Int} {n : Nat} (hh : A.handled = none) (S : Addr) (res : Value) (c₀ : Nat) (hS1 : S ≠ I) (hit : IsRangeIter s.heap I x (n : Int) c)
    (hS : s.heap.get? S = some { cls := .type "list", data := .seq #[] c₀ })
    (hR : ∀ h' tk acc' c', (∀ b o, b ≠ S → b ≠ I → s.heap.get? b = some o → h'.get? b = some o) → h'.get? S = some { cls := .type "list", dict := none, data := .seq acc' c', slots := #[] } → ItemsOf (fun i v => ∃ t, v = .int (x + i * c) t) acc' n → R (.ok (.ret res)) { s with heap := h', toks := tk }) (hn : n ≤ sizeLine) :
    wpAny (model prog w) A.in1 (Builtin.List.listExtendWith (.ref S) (.ref I) res)
      (fun fin s' => match fin with | .done f => R (.ok f) s' | .again c' => c'.quiet = true ∧ codeAny (model prog w) A c' R s') (fun e s' => R (.error e) s') s := by
  have hT : s.TypeIs (.ref I) "range_iterator" := ⟨_, hit, rfl⟩
  have W := (Walks.range (prog := prog) (w := w) (A := A.in1) hh I x c n).toS
  unfold Builtin.List.listExtendWith
  refine wpAny_bind (wpAny_typeOf hT ?_)
  have h1 : Builtin.List.listSameRef (.ref S) (.ref I) = false := by simp [Builtin.List.listSameRef, hS1]
  have h2 : (Value.type "range_iterator" == Value.type "list") = false := by decide
  have h3 : (Value.type "range_iterator" == Value.type "tuple") = false := by decide
  simp only [h1, h2, h3, Bool.or_false, Bool.false_eq_true, if_false]
  refine wpAny_bind (wpAny_pyIter_rangeiter hit ?_)
  refine wpAny_bind (wpAny_holding (wpAny_hint_rit hit (by omega) ?_))
  refine wpAny_ite_split (fun hab => absurd hab (by decide +kernel)) (fun _ => ?_)
  refine wpAny_pure ⟨plainId_quiet F.plain_extend_loop _, codeAny_extend_loopS W hn S (by simp [hS1]) res n 0 _ #[] c₀ rfl (Nat.zero_le _) (by show IsRangeIter _ _ _ _ _; simpa using hit) hS (ItemsOf.nil _) fun s' acc' c' hm hS' hacc => ?_⟩
  rw [Moved.eq_with hm]
  refine hR s'.heap s'.toks acc' c' (fun b o hb hb2 e => hm.heap b o (fun hmem => ?_) e) hS' hacc
  rcases List.mem_cons.mp hmem with e' | hmem
  · exact hb e'
  · exact hb2 (List.mem_singleton.mp hmem)
theorem call_list_rit {I : Addr} {x c : Int} {n : Nat} {Q : Value → Shared → Prop} (hh : A.handled = none) (hit : IsRangeIter s.heap I x (n : Int) c) (hn : n ≤ sizeLine)
    (hQ : ∀ h' tk acc' c', (∀ b o, b ≠ I → s.heap.get? b = some o → h'.get? b = some o) → h'.get? s.heap.objs.size = some { cls := .type "list", dict := none, data := .seq acc' c', slots := #[] } → ItemsOf (fun i v => ∃ t, v = .int (x + i * c) t) acc' n → Q (.ref s.heap.objs.size) { s with heap := h', toks := tk }) :
    wpAny (model prog w) A (call (.type "list") [.ref I]) Q E s := by
  have nI : s.heap.objs.size ≠ I := Nat.ne_of_gt (Heap.lt_size hit)
  refine callType_codes (Q₁ := fun obj s₁ => obj = .ref s.heap.objs.size ∧ s₁ = { s with heap := s.heap.push { cls := .type "list", data := .seq #[] } }) F.called_list (F.typeCall_list_1 _) F.entry_list_init
    (code_list_new _ ⟨rfl, rfl⟩) fun obj s₁ h₁ => ?_
  obtain ⟨rfl, rfl⟩ := h₁
  have hS : (s.heap.push { cls := .type "list", data := .seq #[] }).get? s.heap.objs.size = some { cls := .type "list", data := .seq #[] } := Heap.get?_push_size _ rfl
  refine ⟨⟨_, hS, rfl⟩, F.args_list_init_2 _ _, ?_⟩
  show wpAny _ _ (do let old ← Builtin.List.listItems (.ref s.heap.objs.size); Builtin.List.listUpdate (.ref s.heap.objs.size) (fun _ => #[]); letGo old.toList.reverse; Builtin.List.listExtendWith (.ref s.heap.objs.size) (.ref I) .none) _ _ _
  refine wpAny_bind ?_
  unfold Builtin.List.listItems
  refine wpAny_bind (wpAny_seqItems hS rfl (wpAny_pure ?_))
  show wpAny _ _ (updateSeq s.heap.objs.size (fun _ => #[]) >>= fun _ => letGo (#[] : Array Value).toList.reverse >>= fun _ => Builtin.List.listExtendWith (.ref s.heap.objs.size) (.ref I) .none) _ _ _
  refine wpAny_bind (wpAny_updateSeq hS rfl ?_)
  have hS₂ := Heap.get?_update_self (Obj.mapSeq (fun _ => (#[] : Array Value))) hS rfl
  have oth : ∀ b o, s.heap.get? b = some o → ((s.heap.push { cls := .type "list", data := .seq #[] }).update s.heap.objs.size (Obj.mapSeq (fun _ => (#[] : Array Value)))).get? b = some o :=
    fun b o e => (Heap.get?_update_other _ _ (Nat.ne_of_gt (Heap.lt_size e))).trans (Heap.get?_push_of_some _ e)
  refine wpAny_bind (wpAny_letGo ?_)
  refine wpAny_extend_rit (A := A.in1) hh s.heap.objs.size .none _ nI (oth I _ hit) hS₂ (fun h' tk acc' c' kp hS' hacc => ?_) hn
  exact ⟨rfl, hQ h' tk acc' c' (fun b o hb e => kp b o (Nat.ne_of_lt (Heap.lt_size e)) hb (oth b o e)) hS' hacc⟩
end
end PySem
namespace L2
open PySem PySem.Spec PyProof.Rows
def downV (n : Nat) : List V := (List.range n).map fun (i : Nat) => V.int ((n : Int) - 1 - (i : Int))
def tLRR (ta : TA) : TE := fun σ H Q => ta σ H fun vs H1 => ∃ n : Nat, vs = [.int (n : Int)] ∧ n ≤ 1000 ∧ ∀ l, H1 l = none → Q (.ref l) (upd H1 l (.lst (downV n)))
section
variable {X : Cx} {K : PySem.W.Frag}
theorem pe_listRevR {a : Expr} {ta : TA} {p p2 p3 pos pos2 pos3 : Pos} (hc : X.calm = true) (hg : Gl X "list") (hm : X.mg "list" = none) (hg2 : Gl X "reversed") (hm2 : X.mg "reversed" = none) (hg3 : Gl X "range") (hm3 : X.mg "range" = none) (ha : PA X [a] ta) (hs : starEach [a] X.env = [(false, eval a X.env)] := by rfl)
    (hs2 : starEach [.Call (.Name "range" p3) [a] [] pos3] X.env = [(false, eval (.Call (.Name "range" p3) [a] [] pos3) X.env)] := by rfl)
    (hs3 : starEach [.Call (.Name "reversed" p2) [.Call (.Name "range" p3) [a] [] pos3] [] pos2] X.env = [(false, eval (.Call (.Name "reversed" p2) [.Call (.Name "range" p3) [a] [] pos3] [] pos2) X.env)] := by rfl) :
    PE X (.Call (.Name "list" p) [.Call (.Name "reversed" p2) [.Call (.Name "range" p3) [a] [] pos3] [] pos2] [] pos) (tLRR ta) := by
  intro pins s σ H Q I h
  refine wpAny_Call_Name_kw (ld_blt I hg hm boot_list ?_)
  refine PyProof.Rows.callWith_type1 ?_ (by rw [hs3]; rfl) (by rfl)
  rw [hs3]
  show wpAny _ _ (spliced [(false, eval (.Call (.Name "reversed" p2) [.Call (.Name "range" p3) [a] [] pos3] [] pos2) X.env)]) _ _ s
  refine Calls.spliced_cons ?_
  refine wpAny_Call_Name_kw (ld_blt I hg2 hm2 boot_reversed ?_)
  refine PyProof.Rows.callWith_type1 ?_ (by rw [hs2]; rfl) (by rfl)
  rw [hs2]
  show wpAny _ _ (spliced [(false, eval (.Call (.Name "range" p3) [a] [] pos3) X.env)]) _ _ s
  refine Calls.spliced_cons ?_
  refine Call_ (ld_blt I hg3 hm3 boot_range (PyProof.Rows.callWith_type1 (thn (ha pos3 pins s σ H _ I h) fun us s1 ⟨vs, H1, I1, r1, q1⟩ => ?_) (by rw [hs]; rfl) (by rfl)))
  obtain ⟨n, e, hn, q⟩ := q1
  subst e
  obtain ⟨u, rfl, ru⟩ := r1.one
  obtain ⟨t, rfl⟩ := ru
  refine call_range_1 (Calls.spliced_nil ?_)
  have I2 : Inv X pins σ H1 { s1 with heap := s1.heap.push { cls := .type "range", data := .fields #[.int 0 s1.toks, .int (n : Int) t, .int 1 (s1.toks + 1)] }, toks := s1.toks + 1 + 1 } := I1.kept fun b o e => Heap.get?_push_of_some _ e
  have hr := IsRange.new s1.heap 0 (n : Int) 1 s1.toks t (s1.toks + 1)
  generalize hs4 : ({ s1 with heap := s1.heap.push { cls := .type "range", data := .fields #[.int 0 s1.toks, .int (n : Int) t, .int 1 (s1.toks + 1)] }, toks := s1.toks + 1 + 1 } : Shared) = s4 at I2 ⊢
  have hr4 : IsRange s4.heap s1.heap.objs.size 0 (n : Int) 1 s1.toks t (s1.toks + 1) := by rw [← hs4]; exact hr
  refine call_reversed_range hr4 (by omega) (Calls.spliced_nil ?_)
  have hit : IsRangeIter (s4.heap.push (ritObj n)) s4.heap.objs.size ((n : Int) - 1) (n : Int) (-1) := Heap.get?_push_size _ rfl
  have I3 : Inv X pins σ H1 { s4 with heap := s4.heap.push (ritObj n) } := I2.kept (t' := s4.toks) fun b o e => Heap.get?_push_of_some _ e
  refine call_list_rit (s := { s4 with heap := s4.heap.push (ritObj n) }) (I3.ok.hd hc) hit (Nat.le_of_lt (small1000 (by omega))) fun h' tk acc' c' kp eS hacc => ?_
  obtain ⟨f0, f1, f2, f3, f4, f5⟩ := I2.fpOk (Nat.le_refl s4.heap.objs.size) (I2.hok.fresh (Nat.le_refl _))
  have hv : Vals (downV n) acc'.toList := by
    have hz := hacc.1
    unfold downV
    refine vals_get (by rw [List.length_map, List.length_range, Array.length_toList, hz]) fun i v hv => ?_
    rw [List.getElem?_map] at hv
    obtain ⟨j, hj, rfl⟩ := Option.map_eq_some_iff.mp hv
    have hi : i < n := by have := (List.getElem?_eq_some_iff.mp hj).1; rwa [List.length_range] at this
    rw [List.getElem?_range hi] at hj
    cases hj
    have hlt : i < acc'.size := by rw [hz]; exact hi
    obtain ⟨t', et⟩ := hacc.2 i acc'[i] (Array.getElem?_eq_getElem hlt)
    refine ⟨acc'[i], by rw [Array.getElem?_toList, Array.getElem?_eq_getElem hlt], t', ?_⟩
    rw [et]
    congr 1
    omega
  have I4 : Inv X pins σ H1 { s4 with heap := h', toks := tk } := Inv.turned (s := { s4 with heap := s4.heap.push (ritObj n) }) (h' := h') (t' := tk) (it := s4.heap.objs.size) I3 kp f0 f1 f3 f4 f5
  have hsz : s4.heap.objs.size ≤ (s4.heap.push (ritObj n)).objs.size := by rw [Heap.size_push]; omega
  have hnew := I2.hok.fresh hsz
  obtain ⟨g0, g1, g2, g3, g4, g5⟩ := I2.fpOk hsz hnew
  have n0 : X.s₀.heap.get? (s4.heap.push (ritObj n)).objs.size = none := Heap.get?_none_of_le (Nat.le_trans I2.sz hsz)
  exact ⟨.ref _, _, I4.track (o := .lst (downV n)) hnew n0 g1 g4 g5 (show ObjOk X.prog X.w _ h' _ (.lst (downV n)) from ⟨by unfold downV; rw [List.length_map, List.length_range]; exact Nat.le_of_lt (small1000 (by omega)), acc'.toList, c', hv, eS⟩), rfl, q _ hnew⟩
end
end L2

/-! ## what is a ring of tops -/
namespace L2
open PySem PyProof.Rows
end L2
namespace Ring
open Ways
theorem rot_at {r : List Nat} {i : Nat} (h : i + 1 < r.length) : (rot r)[i]? = r[i + 1]? := by
  unfold rot
  rw [List.getElem?_append_left (by rw [List.length_drop]; omega), List.getElem?_drop, Nat.add_comm 1 i]
theorem rot_last {r : List Nat} (h : 0 < r.length) : (rot r)[r.length - 1]? = r[0]? := by
  unfold rot
  rw [List.getElem?_append_right (by rw [List.length_drop]; omega), List.length_drop, show r.length - 1 - (r.length - 1) = 0 by omega, List.getElem?_take_of_lt (by omega)]
theorem IsRing.mem {es : List (Option Nat)} {r : List Nat} (hb : InB es) (h : IsRing es r) : r ∈ ringsN es := by
  obtain ⟨p, t, rfl⟩ : ∃ p t, r = p :: t := by
    cases r with
    | nil => exact absurd rfl h.ne
    | cons p t => exact ⟨p, t, rfl⟩
  have at_ : ∀ (i q : Nat), (p :: t)[i]? = some q → ∃ u, (rot (p :: t))[i]? = some u ∧ nextE es q = some u := fun i q hq => by
    have := congrArg (fun (l : List (Option Nat)) => l[i]?) h.next
    simp only [List.getElem?_map, hq, Option.map_some] at this
    cases e : (rot (p :: t))[i]? with
    | none => rw [e] at this; cases this
    | some u => rw [e] at this; exact ⟨u, rfl, Option.some.inj this⟩
  have wy : Way es p (p :: t) := by
    refine ⟨rfl, h.nd, h.bd, fun i a b ha hb' => ?_⟩
    obtain ⟨u, hu, e⟩ := at_ i a ha
    have hi := (List.getElem?_eq_some_iff.mp hb').1
    rw [rot_at hi, hb'] at hu
    cases hu
    exact e
  have hl : (p :: t).getLast? = (p :: t)[(p :: t).length - 1]? := by rw [List.getLast?_eq_getElem?]
  have hlt : (p :: t).length - 1 < (p :: t).length := by simp
  have hl2 : (p :: t).getLast? = some ((p :: t)[(p :: t).length - 1]) := by rw [hl, List.getElem?_eq_getElem hlt]
  obtain ⟨u, hu, e⟩ := at_ _ _ (List.getElem?_eq_getElem hlt)
  rw [rot_last (by simp)] at hu
  have hup : p = u := by simpa using hu
  subst hup
  have dn : Done es (p :: t) := ⟨_, hl2, .inr ⟨p, e, List.mem_cons_self⟩⟩
  have on : OnRing es p := (wy.closed dn hl2).mpr e
  have hw := wayOf_is wy dn
  refine mem_rings.mpr ⟨p, h.bd p List.mem_cons_self, ?_⟩
  have cc : OnRing es p ∧ ∀ x ∈ wayOf es p, p ≤ x := ⟨on, fun x hx => h.least x (hw ▸ hx)⟩
  unfold ringAt
  rw [if_pos cc, hw]
end Ring

/-! ## dict(a list of pairs) -/
namespace PySem
namespace F
end F
section
variable {prog : Program} {w : World} {A : Around} {E : Value → Shared → Prop} {s : Shared} {R : Result → Shared → Prop}
end
end PySem
namespace L2
open PySem PySem.Spec PyProof.Rows
/-- dict(row): a list of pairs of whole numbers, no first one twice -/
def rDictP : List V → Hp → VK → Prop := fun xs H Q => ∃ p ys, ∃ prs : List (Int × Int), xs = [.ref p] ∧ H p = some (.lst ys) ∧ ys.length = prs.length ∧ (∀ (i : Nat) (q : Int × Int), prs[i]? = some q → ∃ t, ys[i]? = some (.ref t) ∧ H t = some (.tup [.int q.1, .int q.2])) ∧
  (prs.map (·.1)).Nodup ∧ prs.length ≤ 15 ∧ ∀ l, H l = none → Q (.ref l) (upd H l (.dK (prs.map fun q => (Sum.inl q.1, V.int q.2))))
end L2

/-! ## a dict of ints: d[k] = v, sorted(d) -/
namespace L2
open PySem PySem.Spec PyProof.Rows
section
variable {X : Cx}
theorem set_dict (hu : X.A.units + 1 < cLine) : PSet X (fun o i v H Q => ∃ a H', o = .ref a ∧ DPut H a i v H' ∧ Q H') := by
  intro pins s σ H o i v ov iv u Q I ro ri rv ⟨a, H', e, g, q⟩
  subst e
  cases ro
  exact d_setItem hu I g ri rv fun s' I' => ⟨H', I', q⟩
def rSortedD : List V → Hp → VK → Prop := fun xs H Q => ∃ (p : Addr) (kvs : List (Key × V)) (ns : List Int), xs = [.ref p] ∧ H p = some (.dK kvs) ∧ kvs.map (·.1) = ns.map Sum.inl ∧ ns.length < 64 ∧
  ∀ (l : Addr) (ns' : List Int), H l = none → ns'.Perm ns → ns'.Pairwise (· ≤ ·) → Q (.ref l) (upd H l (.lst (ns'.map V.int)))
end
end L2

/-! ## range(a, b, 2) in a for -/
namespace L2
open PySem PySem.Spec PyProof.Rows
/-- every second number from lo on -/
def It2 (lo : Int) (n : Nat) : It := ⟨fun i _ => i < n, fun i H x H' => H' = H ∧ x = .int (lo + i * 2), fun i _ => n ≤ i⟩
theorem turn_range2 {P : Program} {w : World} {K : PySem.W.Frag} {tg : Expr} (it : Addr) (lo : Int) (n : Nat) : Turn P w K tg (It2 lo n) [it] it (fun i h => IsRangeIter h it (lo + (i : Nat) * 2) ((n : Int) - (i : Nat)) 2) where
  mem := by simp
  obj := fun i h st b hb => by
    obtain rfl : b = it := by simpa using hb
    exact ⟨_, st, fun v z => nomatch (show Data.fields _ = Data.cell v from z)⟩
  keep := fun i h h' st k => k it (by simp) _ st
  item := by
    intro X hP hw hK hc i pins s σ H E I hf st hg
    subst hP hw hK
    obtain ⟨f0, f1, f2, f3, f4, f5⟩ := hf it (by simp)
    refine (Walks.range (prog := X.prog) (w := X.w) (I.ok.hd hc) it lo 2 n).item i s _ _ hg st fun v h' tk hv st' kk => ?_
    obtain ⟨t, rfl⟩ := hv
    have I1 : Inv X pins σ H { s with heap := h', toks := tk } := I.turned (fun b o hb e => kk b o (by simpa using hb) e) f0 f1 f3 f4 f5
    exact ⟨_, rfl, go_of (s := { s with heap := h', toks := tk }) (n := "range_iterator") st' rfl rfl (by decide) ⟨.int (lo + i * 2), H, I1, ⟨t, rfl⟩, ⟨rfl, rfl⟩, st', fun b hb => (hf b hb).1⟩⟩
  done := by
    intro X hP hw hK hc i pins s σ H E I hf st hg
    subst hP hw hK
    obtain ⟨f0, f1, f2, f3, f4, f5⟩ := hf it (by simp)
    exact wpAny_pyNext_range_end (I.ok.hd hc) st (by have : n ≤ i := hg; omega) fun h' eb => ⟨rfl, I.turned (t' := s.toks) (fun b o hb e => eb b o hb e) f0 f1 f3 f4 f5⟩
  self := fun _ _ _ _ _ st h => wpAny_pyIter_rangeiter st h
section
variable {X : Cx} {tg : Expr}
theorem size2 (a b : Int) : Builtin.Range.rangeSize a b 2 = (((b - a + 1) / 2).toNat : Int) := by
  unfold Builtin.Range.rangeSize
  simp only [show (2 : Int) > 0 by decide, if_true]
  split <;> omega
theorem small2 {a b : Int} (ha : -(2 ^ 60) ≤ a) (ha' : a < 2 ^ 60) (hb : -(2 ^ 60) ≤ b) (hb' : b < 2 ^ 60) : Builtin.Range.small a b 2 = true := by
  unfold Builtin.Range.small
  rw [size2]
  simp only [Builtin.Range.rangeFitsLong, Bool.and_eq_true, Bool.or_eq_true, decide_eq_true_eq, beq_iff_eq, show (2 : Int) > 0 by decide, if_true]
  omega
def iRng3 (ta : TA) : TI := fun σ H R => ta σ H fun vs H1 => ∃ i j : Int, vs = [.int i, .int j, .int 2] ∧ (-(2 ^ 60) ≤ i ∧ i < 2 ^ 60 ∧ -(2 ^ 60) ≤ j ∧ j < 2 ^ 60) ∧ R (It2 i ((j - i + 1) / 2).toNat) H1
theorem pi_range3 {a b c : Expr} {ta : TA} {p pos : Pos} (hg : Gl X "range") (hm : X.mg "range" = none) (ha : PA X [a, b, c] ta) (hs : starEach [a, b, c] X.env = [(false, eval a X.env), (false, eval b X.env), (false, eval c X.env)] := by rfl)
    (hs2 : starEach [b, c] X.env = [(false, eval b X.env), (false, eval c X.env)] := by rfl) (hs3 : starEach [c] X.env = [(false, eval c X.env)] := by rfl) : PI X tg (.Call (.Name "range" p) [a, b, c] [] pos) (iRng3 ta) := by
  intro pins s σ H R I h
  refine Call_ (ld_blt I hg hm boot_range (PyProof.Rows.callWith_type1 (thn (ha pos pins s σ H _ I h) fun us s1 ⟨vs, H1, I1, r1, q1⟩ => ?_) (by rw [hs, hs2]) (by rw [hs2]; rfl)))
  obtain ⟨i, j, e, ⟨q1, q2, q3, q4⟩, q⟩ := q1
  subst e
  cases r1 with
  | cons r rr =>
    cases rr with
    | cons r' rr =>
      cases rr with
      | cons r2 rr =>
        cases rr
        obtain ⟨t, rfl⟩ := r
        obtain ⟨t', rfl⟩ := r'
        obtain ⟨t2, rfl⟩ := r2
        refine call_range_3 (by decide) ?_ (Or.inl (PyProof.noPylong_of_log2 (by decide +kernel)))
        refine wpAny_pyIter_range (IsRange.new ..) (small2 q1 q2 q3 q4) ?_
        have I2 : Inv X pins σ H1 { s1 with heap := s1.heap.push { cls := .type "range", data := .fields #[.int i t, .int j t', .int 2 t2] }, toks := s1.toks } := I1.kept fun b o e => Heap.get?_push_of_some _ e
        refine ⟨_, [_], _, _, H1, rfl, I2.kept (t' := s1.toks) fun b o e => Heap.get?_push_of_some _ e, turn_range2 _ i ((j - i + 1) / 2).toNat, ?_, fun b hb => ?_, q⟩
        · have e1 : i + ((0 : Nat) : Int) * 2 = i := by simp
          have e2 : ((((j - i + 1) / 2).toNat : Nat) : Int) - ((0 : Nat) : Int) = Builtin.Range.rangeSize i j 2 := by rw [size2]; omega
          show IsRangeIter _ _ (i + ((0 : Nat) : Int) * 2) (((((j - i + 1) / 2).toNat : Nat) : Int) - ((0 : Nat) : Int)) 2
          rw [e1, e2]
          exact Heap.get?_push_size _ rfl
        · obtain rfl := List.mem_singleton.mp hb
          exact I2.fpOk (Nat.le_refl _) (I2.hok.fresh (Nat.le_refl _))
end
theorem for_range2 {lo : Int} {n : Nat} {g : TG} {tb : TS} {D : Ends} {σ : St} {H : Hp} (Pv : Nat → St → Hp → Prop) (h0 : Pv 0 σ H)
    (hs : ∀ i σ H, i < n → Pv i σ H → g (.int (lo + i * 2)) σ H fun σ2 H2 => tb { D with nx := Pv (i + 1), ct := Pv (i + 1), bk := D.nx } σ2 H2) (hd : ∀ σ H, Pv n σ H → D.nx σ H) :
    ∃ W : Nat → Nat → St → Hp → Prop, (∃ m, W 0 m σ H) ∧ ∀ i m σ H, W i m σ H →
      ((It2 lo n).stop i H ∧ D.nx σ H) ∨ ((It2 lo n).go i H ∧ ∃ N : St → Hp → Prop, (∀ σ' H', N σ' H' → ∃ m', m' < m ∧ W (i + 1) m' σ' H') ∧ ∀ x H', (It2 lo n).yld i H x H' → g x σ H' fun σ2 H2 => tb { D with nx := N, ct := N, bk := D.nx } σ2 H2) := by
  refine ⟨fun i m σ H => m = n - i ∧ i ≤ n ∧ Pv i σ H, ⟨n, by simp, Nat.zero_le _, h0⟩, ?_⟩
  rintro i m σ H ⟨rfl, hi, p⟩
  by_cases hlt : i < n
  · refine .inr ⟨hlt, Pv (i + 1), fun σ' H' p' => ⟨n - (i + 1), by omega, rfl, hlt, p'⟩, fun x H' y => ?_⟩
    obtain ⟨e, y⟩ := y
    subst e y
    exact hs i σ _ hlt p
  · obtain rfl : i = n := by omega
    exact .inl ⟨Nat.le_refl _, hd σ H p⟩
end L2

/-! ## not in, over data -/
namespace L2
open PySem PySem.Spec PyProof.Rows
section
variable {X : Cx}
def rNotInD : R2 := fun x y H Q => ∃ d es, Rep H x d ∧ Rep H y (.list es) ∧ SeqAt.shaped d = true ∧ SeqAt.shaped (.list es) = true ∧ min (PyData.depthAll es) d.depth ≤ 20 ∧ Q (.bl (!es.any fun e => PyData.eqv e d)) H
end
end L2

/-! ## a class of the program's own: its methods, its making -/
namespace L2
open PySem PySem.Spec PyProof.Rows
def MDef (P : Program) (w : World) (K : PySem.W.Frag) (mg : Str → Option Value) (base : Heap) (C : Addr) (m : Str) (k : Nat) (ps : List Str) (sp : Sp) : Prop :=
  ∃ f fd, FnOk P w K mg base CX0 k f fd ps sp ∧ Meth K C m f ∧ Binds K fd ps []
def NDef (P : Program) (w : World) (K : PySem.W.Frag) (mg : Str → Option Value) (base : Heap) (C : Addr) (k : Nat) (ps : List Str) (sp : Sp) : Prop :=
  ∃ f fd, FnOk P w K mg base CX0 k f fd ps sp ∧ Mk K C f ∧ Binds K fd ps []
def MHere (K : PySem.W.Frag) (C : Addr) (m qual : Str) (st : Stmt) (ps : List Str) : Prop := ∃ f fd, Fun K m qual st f fd ∧ Meth K C m f ∧ Binds K fd ps []
def NHere (K : PySem.W.Frag) (C : Addr) (qual : Str) (st : Stmt) (ps : List Str) : Prop := ∃ f fd, Fun K "__init__" qual st f fd ∧ Mk K C f ∧ Binds K fd ps []
theorem MHere.mk {P : Program} {w : World} {K : PySem.W.Frag} {mg : Str → Option Value} {base : Heap} {C : Addr} {m qual : Str} {st : Stmt} {ps : List Str} {k : Nat} {sp : Sp} (h : MHere K C m qual st ps) (ok : ∀ f fd, Fun K m qual st f fd → FnOk P w K mg base CX0 k f fd ps sp) : MDef P w K mg base C m k ps sp := by
  obtain ⟨f, fd, F, m, b⟩ := h
  exact ⟨f, fd, ok f fd F, m, b⟩
theorem NHere.mk {P : Program} {w : World} {K : PySem.W.Frag} {mg : Str → Option Value} {base : Heap} {C : Addr} {qual : Str} {st : Stmt} {ps : List Str} {k : Nat} {sp : Sp} (h : NHere K C qual st ps) (ok : ∀ f fd, Fun K "__init__" qual st f fd → FnOk P w K mg base CX0 k f fd ps sp) : NDef P w K mg base C k ps sp := by
  obtain ⟨f, fd, F, m, b⟩ := h
  exact ⟨f, fd, ok f fd F, m, b⟩
section
variable {X : Cx} {x m : Str} {C : Addr} {k k' : Nat} {ps : List Str} {sp : Sp} {o e : Expr} {es : List Expr} {ta : TE} {t : TA} {p pos apos : Pos}
theorem pe_methD {pl : Sem Bool} (he : PE X o ta) (c : Cls X.K C) (D : MDef X.prog X.w X.K X.mg X.base C m k ps sp) (hr : Room k' X.A) (ha : PA X (e :: es) t) (hk : k ≤ k' := by decide)
    (hst : starEach (e :: es) X.env = (false, eval e X.env) :: starEach es X.env := by rfl) (hpl : (backTo pos (starEach es X.env)).any (·.1) = false := by rfl)
    (ht : eval (.Call (.Attribute o m apos) (e :: es) [] pos) X.env = (do
      let ov ← eval o X.env
      standAt apos.atName
      let (f, first) ← holding [ov] (getMethod ov m pl)
      callWith pos f first (backTo pos (starEach (e :: es) X.env)) (backToKw pos (keywordEach [] X.env))) := by rfl) :
    PE X (.Call (.Attribute o m apos) (e :: es) [] pos) (tMeth C m sp [] E0 ta t) := by
  obtain ⟨f, fd, F, mm, b⟩ := D
  exact pe_meth he c mm F (hr.mono hk) b .nil pass0 ha hst hpl ht
theorem pe_makeD (D : NDef X.prog X.w X.K X.mg X.base C k ps sp) (hr : Room k' X.A) (hg : Gl X x) (hm : X.mg x = some (.ref C)) (ha : PA X (e :: es) t) (hk : k + 1 ≤ k' := by decide) (hdb : (x == ("__debug__" : Str)) = false := by decide)
    (he : starEach (e :: es) X.env = (false, eval e X.env) :: starEach es X.env := by rfl) (hpl : (backTo pos (starEach es X.env)).any (·.1) = false := by rfl) :
    PE X (.Call (.Name x p) (e :: es) [] pos) (tMake C sp [] E0 t) := by
  obtain ⟨f, fd, F, M, b⟩ := D
  exact pe_make M F (hr.mono hk) hg hm b .nil pass0 ha hdb he hpl
theorem pe_fldK {K : PySem.W.Frag} {f : Str} (he : PE X e ta) (hb : attributeBase e f X.env (eval e X.env) = eval e X.env := by rfl) (hK : X.K = K := by rfl) : PE X (.Attribute e f pos) (tFld K ta f) := by subst hK; exact pe_fld he hb
theorem ps_fldK {K : PySem.W.Frag} {f : Str} {value : Expr} {tv : TE} {pos' : Pos} (ha : PE X o ta) (hv : PE X value tv) (hs : swapsWith value (some (.Attribute o f pos')) pos.line X.env = pure false := by rfl) (hK : X.K = K := by rfl) : PS X (.Assign [.Attribute o f pos'] value pos) (sFld K ta tv f) := by subst hK; exact ps_fld ha hv hs
end
end L2

/-! ## a comprehension over a tuple; not in, over a dict -/
namespace L2
open PySem PySem.Spec PyProof.Rows
section
variable {K : PySem.W.Frag} {g : TG} {tt : TT} {te : TE} {σ : St} {cap : List (Option Nat)} {Q : VK} {H1 : Hp} {D : Addr}
end
section
variable {X : Cx}
def rNotInM : R2 := fun x y H Q => ∃ a o, y = .ref a ∧ DGet H a x o ∧ Q (.bl (!o.isSome)) H
end
end L2

/-! ## a list taken apart: (a, b) = [x, y] -/
namespace L2
open PySem PySem.Spec PyProof.Rows
section
variable {pr : Program} {wd : World} {A : Around} {E : Value → Shared → Prop}
end
section
variable {X : Cx} {K : PySem.W.Frag} {pos : Pos}
def gLst (K : PySem.W.Frag) (n : Nat) (t : TGs) : TG := fun v σ H Q => ∃ a xs, v = .ref a ∧ SqL K H a xs ∧ xs.length = n ∧ t xs σ H Q
end
end L2

/-! Own work. sorted() of fewer than 64 things that compare, in the state as it stands, by a rank. -/
namespace SortAt
open PySem PyProof.Rows
variable {prog : Program} {w : World} {A : Around} {E : Value → Shared → Prop} {s : Shared} {a₀ : Array Keyed} {rk : Value → Int}

/-- the rank at a place -/
def R (rk : Value → Int) (xs : Array Keyed) (i : Nat) : Int := (xs[i]?.map fun p => rk p.1).getD 0
/-- rising, falling over the first k -/
def Up (f : Nat → Int) (k : Nat) : Prop := ∀ i j, i ≤ j → j < k → f i ≤ f j
def Down (f : Nat → Int) (k : Nat) : Prop := ∀ i j, i ≤ j → j < k → f j ≤ f i
theorem Up.more {f : Nat → Int} {k : Nat} (u : Up f k) (h : k = 0 ∨ f (k - 1) ≤ f k) : Up f (k + 1) := fun i j a b => by
  by_cases c : j < k
  · exact u i j a c
  · have e : j = k := by omega
    subst e
    by_cases d : i = j
    · subst d; exact Int.le_refl _
    · have := u i (j - 1) (by omega) (by omega); omega
theorem Down.more {f : Nat → Int} {k : Nat} (u : Down f k) (h : k = 0 ∨ f k ≤ f (k - 1)) : Down f (k + 1) := fun i j a b => by
  by_cases c : j < k
  · exact u i j a c
  · have e : j = k := by omega
    subst e
    by_cases d : i = j
    · subst d; exact Int.le_refl _
    · have := u i (j - 1) (by omega) (by omega); omega
theorem Up.one (f : Nat → Int) : Up f 1 := fun i j a b => by have : i = j := (by omega); subst this; exact Int.le_refl _
theorem Down.one (f : Nat → Int) : Down f 1 := fun i j a b => by have : i = j := (by omega); subst this; exact Int.le_refl _
theorem Down.same {f g : Nat → Int} {k : Nat} (u : Down f k) (h : ∀ i, g i = f i) : Down g k := fun i j a b => by rw [h, h]; exact u i j a b

theorem R_mirror {xs : Array Keyed} {i j : Nat} (hj : j ≤ xs.size) (k : Nat) :
    R rk (mirror xs i j ((j - i) / 2)) k = if i ≤ k ∧ k < j then R rk xs (i + j - 1 - k) else R rk xs k := by
  unfold R
  rw [getElem?_mirror_all hj]
  split <;> rfl
/-- equal ones turned about -/
theorem R_turn {xs : Array Keyed} {i j : Nat} (hj : j ≤ xs.size) (he : ∀ k, i ≤ k → k < j → R rk xs k = R rk xs (j - 1)) (k : Nat) :
    R rk (mirror xs i j ((j - i) / 2)) k = R rk xs k := by
  rw [R_mirror hj]
  split
  · rw [he _ (by omega) (by omega), he k (by omega) (by omega)]
  · rfl
theorem R_bubble {xs : Array Keyed} {n d : Nat} (hs : n < xs.size) (hd : d ≤ n) (k : Nat) :
    R rk (bubble xs n d) k = if k = n - d then R rk xs n else if n - d < k ∧ k ≤ n then R rk xs (k - 1) else R rk xs k := by
  unfold R
  rw [getElem?_bubble hs d hd]
  repeat' split
  all_goals rfl

/-- in this state they compare by rank -/
def Cmp (prog : Program) (w : World) (A : Around) (s : Shared) (rk : Value → Int) (a₀ : Array Keyed) : Prop :=
  ∀ p q : Keyed, p ∈ a₀.toList → q ∈ a₀.toList → ∀ {E : Value → Shared → Prop} {Q : Bool → Shared → Prop}, Q (decide (rk p.1 < rk q.1)) s → wpAny (model prog w) A (oneLt' true p.1 q.1) Q E s

theorem has {st : SortSt} (hB : SBase a₀ st) {i : Nat} (hi : i < a₀.size) : ∃ p, p ∈ a₀.toList ∧ (arrOf st)[i]? = some p ∧ R rk (arrOf st) i = rk p.1 := by
  have hi' : i < (arrOf st).size := by rw [hB.size]; exact hi
  have e : (arrOf st)[i]? = some (arrOf st)[i] := getElem?_pos _ i hi'
  exact ⟨_, (Array.perm_iff_toList_perm.mp hB.perm).mem_iff.mp (by simp), e, by unfold R; rw [e]; rfl⟩
theorem lt_at (hC : Cmp prog w A s rk a₀) {st : SortSt} (hB : SBase a₀ st) {i j : Nat} (hi : i < a₀.size) (hj : j < a₀.size) {Q : Option Bool → SortSt → Prop}
    (h : Q (some (decide (R rk (arrOf st) i < R rk (arrOf st) j))) st) : wpS (model prog w) A E s (ltAt' i j) Q st := by
  obtain ⟨p, mp, ep, rp⟩ := has (rk := rk) hB hi
  obtain ⟨q, mq, eq, rq⟩ := has (rk := rk) hB hj
  rw [rp, rq] at h
  rw [ltAt'_eq]
  refine wpS_bind (wpS_get ?_)
  show wpS _ _ _ _ (do let x ← elem' (arrOf st) i; let y ← elem' (arrOf st) j; lt' x y) Q st
  rw [elem'_eq, elem'_eq, ep, eq]
  refine wpS_bind (wpS_pure (wpS_bind (wpS_pure ?_)))
  rw [lt'_eq]
  refine wpS_bind (wpS_get ?_)
  rw [hB.kind, keyLt'_oneType]
  exact wpS_bind (wpS_lift (wpAny_attempt (hC p q mp mq ⟨rfl, wpS_pure h⟩)))

/-- the rising run from a on -/
theorem asc (hC : Cmp prog w A s rk a₀) {st : SortSt} (hB : SBase a₀ st) {a n : Nat} (hn : n ≤ a₀.size) (ha : 1 ≤ a) (an : a ≤ n) (u : Up (R rk (arrOf st)) a) {Q : AscSt → SortSt → Prop}
    (h : ∀ m, a ≤ m → m ≤ n → Up (R rk (arrOf st)) m → (m = n ∨ R rk (arrOf st) m < R rk (arrOf st) (m - 1)) → Q (none, m) st) : wpS (model prog w) A E s (ascLoop a n) Q st := by
  refine wpS_forRange (I := fun x c z => z = st ∧ c = (none, x) ∧ Up (R rk (arrOf st)) x) (fun x c z ax xn hI => ?_) (fun c z hI => ?_) ⟨rfl, rfl, u⟩
  · obtain ⟨rfl, rfl, v⟩ := hI
    refine wpS_bind (lt_at hC hB (by omega) (by omega) ?_)
    dsimp only
    by_cases c : R rk (arrOf z) x < R rk (arrOf z) (x - 1)
    · rw [decide_eq_true c, if_pos rfl]
      exact wpS_pure (h x ax (by omega) v (.inr c))
    · rw [decide_eq_false c, if_neg (by simp)]
      exact wpS_pure ⟨rfl, rfl, v.more (.inr (by omega))⟩
  · obtain ⟨rfl, rfl, v⟩ := hI
    have e : max a n = n := by omega
    rw [e] at v ⊢
    exact h n an (Nat.le_refl _) v (.inl rfl)
/-- a falling run turned about, then rising on -/
theorem turned (hC : Cmp prog w A s rk a₀) {st : SortSt} (hB : SBase a₀ st) {m n : Nat} (hn : n ≤ a₀.size) (hm : 1 ≤ m) (mn : m ≤ n) (u : Down (R rk (arrOf st)) m) {Q : Option Nat → SortSt → Prop}
    (h : ∀ k z, SBase a₀ z → 1 ≤ k → k ≤ n → Up (R rk (arrOf z)) k → Q (some k) z) : wpS (model prog w) A E s (tail3 m n) Q st := by
  have hz : m ≤ (arrOf st).size := by rw [hB.size]; omega
  have hB' : SBase a₀ (setArr st (mirror (arrOf st) 0 m ((m - 0) / 2))) := hB.setArr (mirror_perm _ _ _ _)
  refine wpS_bind (wpS_reverse (wpS_bind (asc hC hB' hn hm mn (fun i j a b => ?_) fun k ak kn v _ => wpS_pure (h k _ hB' (by omega) kn v))))
  show R rk (mirror (arrOf st) 0 m ((m - 0) / 2)) i ≤ R rk (mirror (arrOf st) 0 m ((m - 0) / 2)) j
  rw [R_mirror hz, R_mirror hz, if_pos (by omega), if_pos (by omega)]
  exact u _ _ (by omega) (by omega)
/-- the falling run: the last e + 1 of it are equal -/
theorem desc (hC : Cmp prog w A s rk a₀) {st : SortSt} (hB : SBase a₀ st) {m n : Nat} (hn : n ≤ a₀.size) (hm : 1 ≤ m) (mn : m ≤ n) (u : Down (R rk (arrOf st)) m) {Q : DescSt → SortSt → Prop}
    (h : ∀ k e z, SBase a₀ z → m ≤ k → k ≤ n → Down (R rk (arrOf z)) k → e + 1 ≤ k → (∀ i, k - (e + 1) ≤ i → i < k → R rk (arrOf z) i = R rk (arrOf z) (k - 1)) → Q (none, k, e) z) :
    wpS (model prog w) A E s (descLoop m n) Q st := by
  refine wpS_forRange (I := fun x c z => ∃ e, c = (none, x, e) ∧ SBase a₀ z ∧ Down (R rk (arrOf z)) x ∧ e + 1 ≤ x ∧ ∀ i, x - (e + 1) ≤ i → i < x → R rk (arrOf z) i = R rk (arrOf z) (x - 1))
    (fun x c z ax xn hI => ?_) (fun c z hI => ?_) ⟨0, rfl, hB, u, hm, fun i a b => by rw [show i = m - 1 by omega]⟩
  · obtain ⟨e, rfl, Bz, v, he, eq⟩ := hI
    have hz : x ≤ (arrOf z).size := by rw [Bz.size]; omega
    dsimp only
    refine wpS_bind (lt_at hC Bz (by omega) (by omega) ?_)
    dsimp only
    by_cases c : R rk (arrOf z) x < R rk (arrOf z) (x - 1)
    · rw [decide_eq_true c, if_pos rfl]
      have v' := v.more (.inr (by omega))
      by_cases d : e > 0
      · rw [if_pos d]
        exact wpS_bind (wpS_reverse (wpS_pure ⟨0, rfl, Bz.setArr (mirror_perm _ _ _ _), v'.same (R_turn hz eq), by omega, fun i a b => by rw [show i = x + 1 - 1 by omega]⟩))
      · rw [if_neg d]
        exact wpS_pure ⟨0, rfl, Bz, v', by omega, fun i a b => by rw [show i = x + 1 - 1 by omega]⟩
    · rw [decide_eq_false c, if_neg (by simp)]
      refine wpS_bind (lt_at hC Bz (by omega) (by omega) ?_)
      dsimp only
      by_cases d : R rk (arrOf z) (x - 1) < R rk (arrOf z) x
      · rw [decide_eq_true d, if_pos rfl]
        exact wpS_pure (h x e z Bz ax (by omega) v he eq)
      · rw [decide_eq_false d, if_neg (by simp)]
        refine wpS_pure ⟨e + 1, rfl, Bz, v.more (.inr (by omega)), by omega, fun i a b => ?_⟩
        rw [show x + 1 - 1 = x by omega]
        by_cases ix : i = x
        · rw [ix]
        · have := eq i (by omega) (by omega); omega
  · obtain ⟨e, rfl, Bz, v, he, eq⟩ := hI
    have q : max m n = n := by omega
    rw [q] at v he eq ⊢
    exact h n e z Bz mn (Nat.le_refl _) v he eq
theorem fall (hC : Cmp prog w A s rk a₀) {st : SortSt} (hB : SBase a₀ st) {m n : Nat} (hn : n ≤ a₀.size) (mn : m + 1 ≤ n) (u : Down (R rk (arrOf st)) (m + 1)) {Q : Option Nat → SortSt → Prop}
    (h : ∀ k z, SBase a₀ z → 1 ≤ k → k ≤ n → Up (R rk (arrOf z)) k → Q (some k) z) : wpS (model prog w) A E s (descPart m n) Q st := by
  refine wpS_bind (wpS_lift (wpAny_rule ⟨rfl, ?_⟩))
  refine wpS_bind (desc hC hB hn (by omega) mn u fun k e z Bz mk kn v he eq => ?_)
  dsimp only
  by_cases d : e > 0
  · rw [if_pos d]
    exact wpS_bind (wpS_reverse (turned hC (Bz.setArr (mirror_perm _ _ _ _)) hn (by omega) kn (v.same (R_turn (by rw [Bz.size]; omega) eq)) h))
  · rw [if_neg d]
    exact turned hC Bz hn (by omega) kn v h
theorem run (hC : Cmp prog w A s rk a₀) {st : SortSt} (hB : SBase a₀ st) {n : Nat} (hn : n ≤ a₀.size) (h1 : 1 ≤ n) {Q : Option Nat → SortSt → Prop}
    (h : ∀ k z, SBase a₀ z → 1 ≤ k → k ≤ n → Up (R rk (arrOf z)) k → Q (some k) z) : wpS (model prog w) A E s (countRun' 0 n) Q st := by
  rw [countRun0_eq]
  refine wpS_bind (asc hC hB hn (Nat.le_refl 1) h1 (Up.one _) fun m m1 mn u o => ?_)
  dsimp only
  by_cases c : m = n
  · rw [if_pos (by simpa using c)]
    exact wpS_pure (h m st hB m1 mn u)
  rw [if_neg (by simpa using c)]
  have lt : R rk (arrOf st) m < R rk (arrOf st) (m - 1) := o.resolve_left c
  by_cases d : m > 1
  · rw [if_pos d]
    refine wpS_bind (lt_at hC hB (by omega) (by omega) ?_)
    dsimp only
    by_cases e : R rk (arrOf st) 0 < R rk (arrOf st) (m - 1)
    · rw [decide_eq_true e, if_pos rfl]
      exact wpS_pure (h m st hB m1 mn u)
    · rw [decide_eq_false e, if_neg (by simp)]
      have eq : ∀ k, 0 ≤ k → k < m → R rk (arrOf st) k = R rk (arrOf st) (m - 1) := fun k _ km => by
        have p := u 0 k (by omega) km
        have q := u k (m - 1) (by omega) (by omega)
        omega
      refine wpS_bind (wpS_reverse (fall hC (hB.setArr (mirror_perm _ _ _ _)) hn (by omega) (Down.same ?_ (R_turn (by rw [hB.size]; omega) eq)) h))
      refine Down.more (fun i j a b => ?_) (.inr (by omega))
      rw [eq i (by omega) (by omega), eq j (by omega) b]
      exact Int.le_refl _
  · rw [if_neg d]
    have e : m = 1 := by omega
    subst e
    exact fall hC hB hn (by omega) ((Down.one _).more (.inr (by omega))) h
/-- putting the rest in, one by one -/
theorem ins (hC : Cmp prog w A s rk a₀) {st : SortSt} (hB : SBase a₀ st) {n k : Nat} (hn : n ≤ a₀.size) (kn : k ≤ n) (u : Up (R rk (arrOf st)) k) {Q : Bool → SortSt → Prop}
    (h : ∀ z, SBase a₀ z → Up (R rk (arrOf z)) n → Q true z) : wpS (model prog w) A E s (binarySort' 0 n k) Q st := by
  rw [binarySort'_eq]
  simp only [Nat.zero_add]
  have u1 : Up (R rk (arrOf st)) (min (max k 1) n) := fun i j a b => by
    by_cases c : k = 0
    · have : i = j := by omega
      subst this; exact Int.le_refl _
    · exact u i j a (by omega)
  refine wpS_bind (wpS_mono (wpS_forRange (I := fun x c z => c = (none, ()) ∧ SBase a₀ z ∧ Up (R rk (arrOf z)) (min x n)) (Q := fun c z => c = (none, ()) ∧ SBase a₀ z ∧ Up (R rk (arrOf z)) n)
    (fun x c z ax xn hI => ?_) (fun c z hI => ?_) ⟨rfl, hB, u1⟩) fun c z hI => ?_)
  · obtain ⟨rfl, Bz, v⟩ := hI
    rw [show min x n = x by omega] at v
    have hx : x < a₀.size := by omega
    refine wpS_bind (wpS_mono (wpS_forRange (I := fun y c z' => z' = z ∧ ∃ l r, c = (none, l, r) ∧ l ≤ r ∧ r ≤ x ∧ r - l ≤ x - y ∧ (∀ i, i < l → R rk (arrOf z) i ≤ R rk (arrOf z) x) ∧ ∀ i, r ≤ i → i < x → R rk (arrOf z) x < R rk (arrOf z) i)
      (Q := fun c z' => z' = z ∧ ∃ l, c = (none, l, l) ∧ l ≤ x ∧ (∀ i, i < l → R rk (arrOf z) i ≤ R rk (arrOf z) x) ∧ ∀ i, l ≤ i → i < x → R rk (arrOf z) x < R rk (arrOf z) i)
      (fun y c z' _ yx hJ => ?_) (fun c z' hJ => ?_) ⟨rfl, 0, x, rfl, by omega, by omega, by omega, fun i a => by omega, fun i a b => by omega⟩) fun c z' hJ => ?_)
    · obtain ⟨rfl, l, r, rfl, lr, rx, sm, lo, hi⟩ := hJ
      dsimp only
      by_cases g : l ≥ r
      · rw [if_pos g]
        have e : r = l := by omega
        subst e
        exact wpS_pure ⟨rfl, r, rfl, rx, lo, hi⟩
      · rw [if_neg g]
        refine wpS_bind (lt_at hC Bz hx (by omega) ?_)
        dsimp only
        by_cases d : R rk (arrOf z') x < R rk (arrOf z') ((l + r) / 2)
        · rw [decide_eq_true d, if_pos rfl]
          refine wpS_pure ⟨rfl, l, (l + r) / 2, rfl, by omega, by omega, by omega, lo, fun i a b => ?_⟩
          have := v _ _ a b; omega
        · rw [decide_eq_false d, if_neg (by simp)]
          refine wpS_pure ⟨rfl, (l + r) / 2 + 1, r, rfl, by omega, by omega, by omega, fun i a => ?_, hi⟩
          have := v i ((l + r) / 2) (by omega) (by omega); omega
    · obtain ⟨rfl, l, r, rfl, lr, rx, sm, lo, hi⟩ := hJ
      have e : r = l := by omega
      subst e
      exact ⟨rfl, r, rfl, rx, lo, hi⟩
    · obtain ⟨rfl, l, rfl, lx, lo, hi⟩ := hJ
      show wpS _ _ _ _ (do moveDown' x l; pure (ForInStep.yield (none, ()))) _ _
      rw [moveDown'_eq]
      refine wpS_bind (wpS_modify (wpS_pure ⟨rfl, Bz.setArr (bubble_perm _ _ _), ?_⟩))
      rw [show min (x + 1) n = x + 1 by omega]
      have hz : x < (arrOf z').size := by rw [Bz.size]; exact hx
      intro i j a b
      show R rk (bubble (arrOf z') x (x - l)) i ≤ R rk (bubble (arrOf z') x (x - l)) j
      rw [R_bubble hz (by omega), R_bubble hz (by omega), show x - (x - l) = l by omega]
      by_cases il : i = l
      · rw [if_pos il]
        by_cases jl : j = l
        · rw [if_pos jl]; exact Int.le_refl _
        · rw [if_neg jl, if_pos (by omega)]
          have := hi (j - 1) (by omega) (by omega); omega
      · rw [if_neg il]
        by_cases i2 : l < i ∧ i ≤ x
        · rw [if_pos i2, if_neg (by omega), if_pos (by omega)]
          exact v _ _ (by omega) (by omega)
        · rw [if_neg i2]
          by_cases jl : j = l
          · rw [if_pos jl]; exact lo i (by omega)
          · rw [if_neg jl]
            by_cases j2 : l < j ∧ j ≤ x
            · rw [if_pos j2]; exact v _ _ (by omega) (by omega)
            · rw [if_neg j2]; exact v _ _ a (by omega)
  · obtain ⟨rfl, Bz, v⟩ := hI
    rw [show min (max (max k 1) n) n = n by omega] at v
    exact ⟨rfl, Bz, v⟩
  · obtain ⟨rfl, Bz, v⟩ := hI
    exact wpS_pure (h z Bz v)
/-- the whole of it, fewer than 64 -/
theorem runs (hC : Cmp prog w A s rk a₀) {st : SortSt} (hB : SBase a₀ st) (h2 : 2 ≤ a₀.size) (h64 : a₀.size < 64) {Q : Unit → SortSt → Prop}
    (h : ∀ z, (arrOf z).Perm a₀ → failedOf z = none → Up (R rk (arrOf z)) a₀.size → Q () z) : wpS (model prog w) A E s sortRuns' Q st := by
  let Dn : SortSt → Prop := fun z => (arrOf z).Perm a₀ ∧ failedOf z = none ∧ pendingOf z = #[(0, a₀.size, 0)] ∧ Up (R rk (arrOf z)) a₀.size
  have dn : ∀ z, SBase a₀ z → Up (R rk (arrOf z)) a₀.size → Dn (setPending z ((pendingOf z).push (0, a₀.size, 0))) := fun z Bz u =>
    ⟨Bz.perm, Bz.failed, by show (pendingOf z).push _ = _; rw [Bz.pend]; rfl, u⟩
  rw [sortRuns'_eq]
  refine wpS_bind (wpS_get ?_)
  have mr : minRun' a₀.size a₀.size 0 = a₀.size := by
    obtain ⟨f, e⟩ : ∃ f, a₀.size = f + 1 := ⟨a₀.size - 1, by omega⟩
    have := minRun'_succ f a₀.size 0
    rw [if_pos h64, ← e] at this
    exact this
  dsimp only
  simp only [hB.size, mr]
  refine wpS_bind (wpS_mono (wpS_forRange (I := fun x c z => (x = 0 ∧ c = (none, 0) ∧ SBase a₀ z) ∨ (1 ≤ x ∧ c = (none, a₀.size) ∧ Dn z)) (Q := fun c z => c = (none, a₀.size) ∧ Dn z)
    (fun x c z _ hx hI => ?_) (fun c z hI => ?_) (.inl ⟨rfl, rfl, hB⟩)) fun c z hI => ?_)
  · rcases hI with ⟨rfl, rfl, Bz⟩ | ⟨x1, rfl, D⟩
    · dsimp only
      rw [if_neg (by omega)]
      simp only [Nat.sub_zero, Nat.min_self, Nat.zero_add]
      refine wpS_bind (run hC Bz (Nat.le_refl _) (by omega) fun m y By m1 mn u => ?_)
      dsimp only
      by_cases c : m < a₀.size
      · rw [if_pos c]
        refine wpS_bind (wpS_lift (wpAny_rule ⟨rfl, ?_⟩))
        refine wpS_bind (ins hC By (Nat.le_refl _) mn u fun x' Bx v => ?_)
        simp only [Bool.not_true, Bool.false_eq_true, if_false]
        refine wpS_bind (wpS_get ?_)
        have b : (pendingOf x').back? = none := by rw [Bx.pend]; rfl
        rw [b]
        exact wpS_bind (wpS_modify (wpS_pure (.inr ⟨by omega, rfl, dn _ Bx v⟩)))
      · rw [if_neg c]
        have e : m = a₀.size := by omega
        subst e
        refine wpS_bind (wpS_get ?_)
        have b : (pendingOf y).back? = none := by rw [By.pend]; rfl
        rw [b]
        exact wpS_bind (wpS_modify (wpS_pure (.inr ⟨by omega, rfl, dn _ By u⟩)))
    · dsimp only
      rw [if_pos (Nat.le_refl _)]
      exact wpS_pure ⟨rfl, D⟩
  · rcases hI with ⟨e, _, _⟩ | ⟨_, e, D⟩
    · omega
    · exact ⟨e, D⟩
  · obtain ⟨rfl, D⟩ := hI
    dsimp only
    refine wpS_bind (wpS_mono (wpS_forRange (I := fun _ c y => y = z ∧ c = (none, ())) (Q := fun c y => y = z ∧ c = (none, ())) (fun x c y _ _ hI => ?_) (fun _ _ q => q) ⟨rfl, rfl⟩) fun c y hI => ?_)
    · obtain ⟨rfl, rfl⟩ := hI
      refine wpS_bind (wpS_get ?_)
      rw [if_pos (by rw [D.2.2.1]; exact Nat.le_refl 1)]
      exact wpS_pure ⟨rfl, rfl⟩
    · obtain ⟨rfl, rfl⟩ := hI
      exact wpS_pure (h _ D.1 D.2.1 D.2.2.2)

/-! ### the call -/
def Kept (h h' : Heap) : Prop := ∀ b o, h.get? b = some o → h'.get? b = some o
theorem each {β : Type} {M : Model} {f : Value → Sem β} {b : β} : ∀ {vs : List Value} {E : Value → Shared → Prop} {Q : List β → Shared → Prop},
    (∀ v ∈ vs, ∀ {E : Value → Shared → Prop} {Q : β → Shared → Prop}, Q b s → wpAny M A (f v) Q E s) → Q (vs.map fun _ => b) s → wpAny M A (vs.mapM f) Q E s
  | [], _, _, _, q => by rw [List.mapM_nil]; exact wpAny_pure q
  | v :: vs, _, _, h, q => by
    rw [List.mapM_cons]
    exact wpAny_bind (h v List.mem_cons_self (wpAny_bind (each (fun x m => h x (List.mem_cons_of_mem _ m)) (wpAny_pure q))))
theorem kind {v₁ v₂ : Value} {vs : List Value} (hT : ∀ v ∈ v₁ :: v₂ :: vs, s.TypeIs v "list") {Q : SortKind → Shared → Prop} (q : Q oneType' s) :
    wpAny (model prog w) A (keyKind' (v₁ :: v₂ :: vs).toArray) Q E s := by
  rw [keyKind'_eq, List.mapM_toArray]
  refine wpAny_bind ?_
  rw [show ((fun a => a.toArray) <$> List.mapM firstOfTuple' (v₁ :: v₂ :: vs)) = (do let x ← List.mapM firstOfTuple' (v₁ :: v₂ :: vs); pure x.toArray) from rfl]
  refine wpAny_bind (each (b := none) (fun v m {E Q} q => ?_) (wpAny_pure ?_))
  · show wpAny _ _ (do
      if (← typeOf v) != Value.type "tuple" then return none
      return (← Builtin.List.listItems v)[0]?) _ _ _
    refine wpAny_bind (wpAny_typeOf (hT v m) ?_)
    rw [if_pos (by decide)]
    exact wpAny_pure q
  · rw [if_neg (by simp), if_neg (by simp), oneTypeOnly'_eq, List.mapM_toArray]
    refine wpAny_bind (wpAny_bind ?_)
    rw [show ((fun a => a.toArray) <$> List.mapM typeOf (v₁ :: v₂ :: vs)) = (do let x ← List.mapM typeOf (v₁ :: v₂ :: vs); pure x.toArray) from rfl]
    refine wpAny_bind (each (b := Value.type "list") (fun v m {E Q} q => wpAny_typeOf (hT v m) q) (wpAny_pure ?_))
    have a : ((List.map (fun _ => Value.type "list") (v₁ :: v₂ :: vs)).toArray.all fun x => x == Value.type "list") = true := by
      simp only [List.all_toArray, List.all_map, List.all_eq_true]
      intro _ _; rfl
    have z : (List.map (fun _ => Value.type "list") (v₁ :: v₂ :: vs)).toArray[0]? = some (Value.type "list") := by simp
    rw [z]
    simp only [a, if_true]
    exact wpAny_pure (wpAny_pure q)
theorem pair_mem {vs : List Value} {p : Keyed} (m : p ∈ (pairsOf vs).toList) : p.1 = p.2 ∧ p.1 ∈ vs := mem_zip_self (pairsOf_toList vs ▸ m)
/-- what comes out: the same things, by rank -/
theorem outcome {vs : List Value} {xs : Array Keyed} (hp : xs.Perm (pairsOf vs)) (u : Up (R rk xs) (pairsOf vs).size) :
    (xs.map (·.2)).toList.Perm vs ∧ ((xs.map (·.2)).toList.map rk).Pairwise (· ≤ ·) := by
  have hl : xs.toList.Perm (vs.zip vs) := pairsOf_toList vs ▸ Array.perm_iff_toList_perm.mp hp
  have e : (xs.map (·.2)).toList = xs.toList.map (·.1) := by
    rw [Array.toList_map]
    exact List.map_congr_left fun p m => (mem_zip_self (hl.mem_iff.mp m)).1.symm
  refine ⟨?_, ?_⟩
  · rw [e]
    have := hl.map (·.1)
    rwa [List.map_fst_zip (Nat.le_refl _)] at this
  · rw [e, List.map_map, List.pairwise_iff_getElem]
    intro i j hi hj ij
    simp only [List.length_map, Array.length_toList] at hi hj
    have q := u i j (by omega) (by rw [← hp.size_eq]; exact hj)
    unfold R at q
    rw [getElem?_pos xs i hi, getElem?_pos xs j hj] at q
    simpa using q
end SortAt

/-! Own work. list < list where the items' == and < are known. -/
namespace SortAt
open PySem PyProof.Rows PySem.SeqAt
open PySem.AutoSeq1 (wpAny_loadPart')
open PySem.MeetsSeq PySem.MeetsSeq2 PySem.MeetsSeq3 PySem.SeqRoads2
/-- x < y tells b -/
def LtTo (A : Around) (s : Shared) (x y : Value) (b : Bool) : Prop :=
  ∀ (prog : Program) (w : World) (E : Value → Shared → Prop) (Q : Value → Shared → Prop), Q (.bool b) s → wpAny (model prog w) A (richCompare .Lt x y) Q E s
/-- the first that differs decides, else the length: k are left from i on -/
def lexN (e c : Nat → Bool) (m n : Nat) : Nat → Nat → Bool
  | 0, _ => decide (m < n)
  | k + 1, i => if e i then lexN e c m n k (i + 1) else c i
theorem lt_loop (l b : Addr) (xs ys : Array Value) (n n2 : Nat) (dd dd2 : Option Addr) (sl sl2 : Array (Option Value)) (e c : Nat → Bool) (k : Nat) :
    ∀ i : Nat, i + k = min xs.size ys.size → Meets (Builtin.«list.__eq__.loop» ⟨[.ref l, .ref b, rawInt i, rawInt 0], []⟩)
      (fun A R s => s.heap.get? l = some { cls := .type "list", dict := dd, data := .seq xs n, slots := sl } ∧ s.heap.get? b = some { cls := .type "list", dict := dd2, data := .seq ys n2, slots := sl2 } ∧
        (∀ j (h1 : j < xs.size) (h2 : j < ys.size), EqAt A.in1 s xs[j] ys[j] (e j)) ∧ (∀ j (h1 : j < xs.size) (h2 : j < ys.size), e j = false → LtTo A.in1 s xs[j] ys[j] (c j)) ∧
        R (.ok (.ret (.bool (lexN e c xs.size ys.size k i)))) s) := by
  induction k with
  | zero =>
    intro i hk prog w A R s h
    obtain ⟨hp, g, d, tk, os⟩ := s; obtain ⟨hl, hb, he, hc, h⟩ := h
    wp_walk using wpAny_loadPart' hl, wpAny_loadPart' hb
    have o : xs[((i : Nat) : Int).toNat]? = none ∨ ys[((i : Nat) : Int).toNat]? = none := by
      rcases Nat.lt_or_ge i xs.size with a | a
      · exact .inr (by simp; omega)
      · exact .inl (by simp; omega)
    have go : wpAny (model prog w) A.in1 (do
        let x ← Builtin.List.listItems (Value.ref l)
        let y ← Builtin.List.listItems (Value.ref b)
        ret (Value.bool (decide (x.size < y.size)))) (fun fin s' => match fin with
          | Fin.done f => R (Except.ok f) s'
          | Fin.again c' => c'.quiet = true ∧ codeAny (model prog w) A c' R s') (fun e s' => R (Except.error e) s') ⟨hp, g, d, tk, os⟩ := by
      wp_walk using wpAny_loadPart' hl, wpAny_loadPart' hb
      exact h
    rcases o with o | o
    · rw [o]
      exact go
    · rw [o]
      cases xs[((i : Nat) : Int).toNat]? <;> exact go
  | succ k ih =>
    intro i hk prog w A R s h
    obtain ⟨hp, g, d, tk, os⟩ := s; obtain ⟨hl, hb, he, hc, h⟩ := h
    wp_walk using wpAny_loadPart' hl, wpAny_loadPart' hb
    have h1 : i < xs.size := by omega
    have h2 : i < ys.size := by omega
    rw [show xs[((i : Nat) : Int).toNat]? = some xs[i] by simp [h1], show ys[((i : Nat) : Int).toNat]? = some ys[i] by simp [h2]]
    refine wpAny_bind (he i h1 h2 prog w _ _ ?_)
    rw [lexN] at h
    cases q : e i with
    | true =>
      rw [q, if_pos rfl] at h
      wp_walk
      rw [show ((i : Int) + 1) = ((i + 1 : Nat) : Int) by push_cast; rfl]
      exact ⟨plainId_quiet plain_eq_loop _, codeAny_builtin entry_eq_loop (by
        rw [Around.under_plainId plain_eq_loop _]
        exact ih (i + 1) (by omega) prog w A R _ ⟨hl, hb, he, hc, h⟩)⟩
    | false =>
      rw [q, if_neg (by simp)] at h
      wp_walk using wpAny_loadPart' hl, wpAny_loadPart' hb
      rw [show xs[((i : Nat) : Int).toNat]? = some xs[i] by simp [h1], show ys[((i : Nat) : Int).toNat]? = some ys[i] by simp [h2]]
      exact wpAny_bind (hc i h1 h2 q prog w _ _ (wpAny_pure h))
theorem list_lt (l b : Addr) (xs ys : Array Value) (n n2 : Nat) (dd dd2 : Option Addr) (sl sl2 : Array (Option Value)) (e c : Nat → Bool) :
    Meets (Builtin.«list.__lt__» ⟨[.ref l, .ref b], []⟩)
      (fun A R s => s.heap.get? l = some { cls := .type "list", dict := dd, data := .seq xs n, slots := sl } ∧ s.heap.get? b = some { cls := .type "list", dict := dd2, data := .seq ys n2, slots := sl2 } ∧
        (∀ j (h1 : j < xs.size) (h2 : j < ys.size), EqAt A.in1 s xs[j] ys[j] (e j)) ∧ (∀ j (h1 : j < xs.size) (h2 : j < ys.size), e j = false → LtTo A.in1 s xs[j] ys[j] (c j)) ∧
        R (.ok (.ret (.bool (lexN e c xs.size ys.size (min xs.size ys.size) 0)))) s) := by
  intro prog w A R s h
  obtain ⟨hp, g, d, tk, os⟩ := s; obtain ⟨hl, hb, he, hc, h⟩ := h
  have f3 := AutoSeq1.sub_list_list
  wp_walk using wpAny_loadPart' hl, wpAny_loadPart' hb
  exact ⟨plainId_quiet plain_eq_loop _, codeAny_builtin entry_eq_loop (by
    rw [Around.under_plainId plain_eq_loop _]
    exact lt_loop l b xs ys n n2 dd dd2 sl sl2 e c _ 0 (by omega) prog w A R _ ⟨hl, hb, he, hc, h⟩)⟩
/-- as sort asks it -/
theorem one_lt {prog : Program} {w : World} {A : Around} {E : Value → Shared → Prop} {s : Shared} {l b : Addr} {xs ys : Array Value} {e c : Nat → Bool} (hl : s.heap.IsList l xs) (hb : s.heap.IsList b ys) (hu : A.units < cLine)
    (he : ∀ j (h1 : j < xs.size) (h2 : j < ys.size), EqAt A.in1 s xs[j] ys[j] (e j)) (hc : ∀ j (h1 : j < xs.size) (h2 : j < ys.size), e j = false → LtTo A.in1 s xs[j] ys[j] (c j)) {Q : Bool → Shared → Prop}
    (q : Q (lexN e c xs.size ys.size (min xs.size ys.size) 0) s) : wpAny (model prog w) A (oneLt' true (.ref l) (.ref b)) Q E s := by
  obtain ⟨⟨cls, dd, data, sl⟩, ho, hcl, n, hd⟩ := id hl
  obtain ⟨⟨cls2, dd2, data2, sl2⟩, ho2, hc2, n2, hd2⟩ := id hb
  simp only at hcl hd hc2 hd2
  subst hcl hd hc2 hd2
  rw [oneLt'_eq]
  simp only [if_true]
  refine wpAny_bind (wpAny_cRoomFor hu (wpAny_bind ?_))
  refine wpAny_callSpecialIfBound?_slot ⟨_, ho, rfl⟩ PySem.F.slot_list_lt (call_meets PySem.F.slot_list_lt ⟨_, ho, rfl⟩ PySem.F.entry_list_lt (PySem.F.args_list_lt_2 _ _) (list_lt l b xs ys n n2 dd dd2 sl sl2 e c) ⟨ho, ho2, he, hc, ?_⟩)
  exact wpAny_truthy_bool q
end SortAt

/-! Own work. rows of pairs in order; sorted() of fewer than 64 of them. -/
namespace SortAt
open PySem PyProof.Rows PySem.SeqAt
def pairLt (a b : Int × Int) : Bool := if a.1 = b.1 then decide (a.2 < b.2) else decide (a.1 < b.1)
def rowLt : List (Int × Int) → List (Int × Int) → Bool
  | [], [] => false
  | [], _ :: _ => true
  | _ :: _, [] => false
  | a :: r, b :: t => if a = b then rowLt r t else pairLt a b
theorem pair_iff (a b : Int × Int) : pairLt a b = true ↔ (a.1 < b.1 ∨ (a.1 = b.1 ∧ a.2 < b.2)) := by
  unfold pairLt; split <;> simp <;> omega
theorem pair_tot {a b : Int × Int} (h : pairLt a b = false) (h' : pairLt b a = false) : a = b := by
  have p : ¬ (a.1 < b.1 ∨ (a.1 = b.1 ∧ a.2 < b.2)) := fun q => by rw [← pair_iff, h] at q; cases q
  have q : ¬ (b.1 < a.1 ∨ (b.1 = a.1 ∧ b.2 < a.2)) := fun q => by rw [← pair_iff, h'] at q; cases q
  exact Prod.ext (by omega) (by omega)
theorem pair_tr {a b c : Int × Int} (h : pairLt a b = true) (h' : pairLt b c = true) : pairLt a c = true := by
  rw [pair_iff] at h h' ⊢; omega
theorem pair_ne {a b : Int × Int} (h : pairLt a b = true) : a ≠ b := by
  rw [pair_iff] at h; rintro rfl; omega
theorem row_irr : ∀ r : List (Int × Int), rowLt r r = false
  | [] => rfl
  | a :: r => by rw [rowLt, if_pos rfl]; exact row_irr r
theorem row_tot : ∀ {r t : List (Int × Int)}, rowLt r t = false → rowLt t r = false → r = t
  | [], [], _, _ => rfl
  | [], _ :: _, h, _ => by simp [rowLt] at h
  | _ :: _, [], _, h => by simp [rowLt] at h
  | a :: r, b :: t, h, h' => by
    rw [rowLt] at h h'
    by_cases e : a = b
    · subst e
      rw [if_pos rfl] at h h'
      rw [row_tot h h']
    · rw [if_neg e] at h
      rw [if_neg (Ne.symm e)] at h'
      exact absurd (pair_tot h h') e
theorem row_tr : ∀ {r t u : List (Int × Int)}, rowLt r t = true → rowLt t u = true → rowLt r u = true
  | [], [], _, h, _ => by simp [rowLt] at h
  | [], _ :: _, [], _, h => by simp [rowLt] at h
  | [], _ :: _, _ :: _, _, _ => rfl
  | _ :: _, [], _, h, _ => by simp [rowLt] at h
  | _ :: _, _ :: _, [], _, h => by simp [rowLt] at h
  | a :: r, b :: t, c :: u, h, h' => by
    rw [rowLt] at h h' ⊢
    by_cases e : a = b
    · subst e
      rw [if_pos rfl] at h
      by_cases f : a = c
      · subst f
        rw [if_pos rfl] at h' ⊢
        exact row_tr h h'
      · rw [if_neg f] at h' ⊢; exact h'
    · rw [if_neg e] at h
      by_cases f : b = c
      · subst f
        rw [if_neg e]; exact h
      · rw [if_neg f] at h'
        have g := pair_tr h h'
        rw [if_neg (pair_ne g)]; exact g
/-- how many lie ahead -/
def ahead (L : List (List (Int × Int))) (r : List (Int × Int)) : Int := ((L.countP fun u => rowLt u r : Nat) : Int)
theorem count_lt {α : Type} {p q : α → Bool} : ∀ {L : List α} {a : α}, (∀ u, p u = true → q u = true) → a ∈ L → q a = true → p a = false → L.countP p < L.countP q
  | x :: L, a, h, m, qa, pa => by
    rw [List.countP_cons, List.countP_cons]
    have mono : L.countP p ≤ L.countP q := List.countP_mono_left fun u _ => h u
    rcases List.mem_cons.mp m with rfl | m
    · rw [if_pos qa, if_neg (by simp [pa])]; omega
    · have := count_lt h m qa pa
      by_cases c : p x = true
      · rw [if_pos c, if_pos (h x c)]; omega
      · rw [if_neg c]; split <;> omega
theorem ahead_lt {L : List (List (Int × Int))} {r t : List (Int × Int)} (mr : r ∈ L) (h : rowLt r t = true) : ahead L r < ahead L t :=
  Int.ofNat_lt.mpr (count_lt (fun u hu => row_tr hu h) mr h (row_irr r))
theorem ahead_iff {L : List (List (Int × Int))} {r t : List (Int × Int)} (mr : r ∈ L) (mt : t ∈ L) : decide (ahead L r < ahead L t) = rowLt r t := by
  cases h : rowLt r t with
  | true => exact decide_eq_true (ahead_lt mr h)
  | false =>
    refine decide_eq_false fun c => ?_
    cases h' : rowLt t r with
    | true => have := ahead_lt mt h'; omega
    | false => rw [row_tot h h'] at c; omega
theorem lexN_row (r t : List (Int × Int)) : ∀ (k i : Nat), i + k = min r.length t.length →
    lexN (fun j => decide (r[j]? = t[j]?)) (fun j => pairLt (r.getD j (0, 0)) (t.getD j (0, 0))) r.length t.length k i = rowLt (r.drop i) (t.drop i)
  | 0, i, h => by
    rw [lexN]
    rcases Nat.lt_or_ge i r.length with a | a
    · have b : t.length ≤ i := by omega
      rw [List.drop_of_length_le b, List.drop_eq_getElem_cons a]
      exact decide_eq_false (by omega)
    · rw [List.drop_of_length_le a]
      rcases Nat.lt_or_ge i t.length with b | b
      · rw [List.drop_eq_getElem_cons b]
        exact decide_eq_true (by omega)
      · rw [List.drop_of_length_le b]
        exact decide_eq_false (by omega)
  | k + 1, i, h => by
    have a : i < r.length := by omega
    have b : i < t.length := by omega
    rw [lexN, List.drop_eq_getElem_cons a, List.drop_eq_getElem_cons b, rowLt, lexN_row r t k (i + 1) (by omega)]
    simp only [List.getElem?_eq_getElem a, List.getElem?_eq_getElem b, Option.some.injEq, List.getD_eq_getElem?_getD, Option.getD_some, decide_eq_true_eq]
/-! ### in the heap -/
open Ring in
theorem all_at {h : Heap} : ∀ {vs : List Value} {ds : List PyData} {as : List Addr}, ReadsAll h vs ds as → ∀ (j : Nat) (v : Value) (d : PyData), vs[j]? = some v → ds[j]? = some d → ∃ bs, Reads h v d bs
  | _, _, _, .cons r _, 0, v, d, e, f => by
    simp only [List.getElem?_cons_zero, Option.some.injEq] at e f
    subst e; subst f
    exact ⟨_, r⟩
  | _, _, _, .cons _ t, j + 1, v, d, e, f => all_at t j v d (by simpa using e) (by simpa using f)
theorem all_len {h : Heap} : ∀ {vs : List Value} {ds : List PyData} {as : List Addr}, ReadsAll h vs ds as → vs.length = ds.length
  | _, _, _, .nil => rfl
  | _, _, _, .cons _ t => by rw [List.length_cons, List.length_cons, all_len t]
/-- a pair in the heap -/
theorem pair_in {h : Heap} {v : Value} {a : Int × Int} {as : List Addr} (r : Reads h v (Ring.arrD a) as) : ∃ l items, v = .ref l ∧ IsTup h l items ∧ IntsAre items.toList [a.1, a.2] := by
  cases r with
  | tuple g hc hd ra =>
    refine ⟨_, _, rfl, ⟨_, g, hc, _, hd⟩, ?_⟩
    revert ra
    generalize Array.toList _ = vs
    intro ra
    cases ra with
    | cons r1 t1 =>
      cases t1 with
      | cons r2 t2 =>
        cases t2
        cases r1; cases r2
        exact .cons _ _ (.cons _ _ .nil)
theorem row_in {h : Heap} {v : Value} {r : List (Int × Int)} {as : List Addr} (q : Reads h v (Ring.rowD r) as) : ∃ l items bs, v = .ref l ∧ h.IsList l items ∧ ReadsAll h items.toList (r.map Ring.arrD) bs := by
  cases q with
  | list g hc hd ra => exact ⟨_, _, _, rfl, ⟨_, g, hc, _, hd⟩, ra⟩
theorem row_lt {prog : Program} {w : World} {A : Around} {E : Value → Shared → Prop} {s : Shared} {a b : Value} {r t : List (Int × Int)} {as bs : List Addr} (ra : Reads s.heap a (Ring.rowD r) as) (rb : Reads s.heap b (Ring.rowD t) bs)
    (hu : A.units + 64 < cLine) {Q : Bool → Shared → Prop} (q : Q (rowLt r t) s) : wpAny (model prog w) A (oneLt' true a b) Q E s := by
  obtain ⟨l, xs, _, rfl, hl, ax⟩ := row_in ra
  obtain ⟨m, ys, _, rfl, hm, ay⟩ := row_in rb
  have lx : xs.size = r.length := by have := all_len ax; simpa using this
  have ly : ys.size = t.length := by have := all_len ay; simpa using this
  have rd : ∀ j (h1 : j < xs.size), ∃ c cs, r[j]? = some c ∧ Reads s.heap xs[j] (Ring.arrD c) cs := fun j h1 => by
    have h2 : j < r.length := by omega
    obtain ⟨cs, rc⟩ := all_at ax j xs[j] (Ring.arrD r[j]) (by simp [h1]) (by simp [h2])
    exact ⟨r[j], cs, by simp [h2], rc⟩
  have td : ∀ j (h1 : j < ys.size), ∃ c cs, t[j]? = some c ∧ Reads s.heap ys[j] (Ring.arrD c) cs := fun j h1 => by
    have h2 : j < t.length := by omega
    obtain ⟨cs, rc⟩ := all_at ay j ys[j] (Ring.arrD t[j]) (by simp [h1]) (by simp [h2])
    exact ⟨t[j], cs, by simp [h2], rc⟩
  refine one_lt (e := fun j => decide (r[j]? = t[j]?)) (c := fun j => pairLt (r.getD j (0, 0)) (t.getD j (0, 0))) hl hm (by omega) (fun j h1 h2 => ?_) (fun j h1 h2 _ => ?_) ?_
  · obtain ⟨c, cs, ec, rc⟩ := rd j h1
    obtain ⟨d, ds, ed, rd⟩ := td j h2
    have := eqAt_reads (Ring.arrD c) (Ring.arrD d) A.in1 s _ _ _ _ rc rd (Ring.okTo_arr c).1 (Ring.okTo_arr d).1 (by
      have := (Ring.okTo_arr c).2
      show A.units + 1 + _ < _
      omega)
    rw [Ring.eqv_arr] at this
    rw [ec, ed]
    simpa using this
  · obtain ⟨c, cs, ec, rc⟩ := rd j h1
    obtain ⟨d, ds, ed, rd⟩ := td j h2
    obtain ⟨p, px, e1, hp, ip⟩ := pair_in rc
    obtain ⟨o, ox, e2, ho, io⟩ := pair_in rd
    intro prog w E Q q
    rw [e1, e2]
    refine HT.lt_tupInts hp ho ip io (by show A.units + 1 < _; omega) ?_
    rw [List.getD_eq_getElem?_getD, List.getD_eq_getElem?_getD, ec, ed] at q
    have f : HT.lexLt [c.1, c.2] [d.1, d.2] = pairLt c d := by
      simp only [HT.lexLt, pairLt]
      by_cases x : c.1 = d.1
      · rw [if_pos x, if_pos x]
        by_cases y : c.2 = d.2
        · rw [if_pos y, y]; simp
        · rw [if_neg y]
      · rw [if_neg x, if_neg x]
    rw [f]
    exact q
  · rw [lx, ly, lexN_row r t _ 0 (by omega)]
    exact q
/-! ### sorted() of rows -/
open Classical in
/-- the row that lies there -/
noncomputable def rowAt (h : Heap) (v : Value) : List (Int × Int) := if q : ∃ r as, Reads h v (Ring.rowD r) as then q.choose else []
theorem rowD_inj {r t : List (Int × Int)} (h : Ring.rowD r = Ring.rowD t) : r = t := by
  have := Ring.eqv_row r t
  rw [h] at this
  have e := Ring.eqv_row t t
  rw [e] at this
  simpa using this.symm
theorem rowAt_eq {h : Heap} {v : Value} {r : List (Int × Int)} {as : List Addr} (q : Reads h v (Ring.rowD r) as) : rowAt h v = r := by
  have x : ∃ r as, Reads h v (Ring.rowD r) as := ⟨r, as, q⟩
  unfold rowAt
  rw [dif_pos x]
  obtain ⟨bs, y⟩ := x.choose_spec
  exact rowD_inj (SeqAt.Reads.unique _ _ v _ _ (Ring.okTo_row _).1 y q)
theorem lift_perm {α β : Type} {f : α → β} : ∀ {out : List β} {ps : List α}, out.Perm (ps.map f) → ∃ qs : List α, qs.Perm ps ∧ qs.map f = out
  | [], ps, h => by
    have : ps = [] := by simpa using h.symm.eq_nil
    subst this
    exact ⟨[], .nil, rfl⟩
  | b :: out, ps, h => by
    obtain ⟨a, ma, rfl⟩ := List.mem_map.mp (h.mem_iff.mp List.mem_cons_self)
    obtain ⟨x, y, rfl⟩ := List.append_of_mem ma
    have p : ((x ++ a :: y).map f).Perm (f a :: (x ++ y).map f) := by
      have := (List.perm_middle (a := a) (l₁ := x) (l₂ := y)).map f
      simpa using this
    obtain ⟨qs, hq, e⟩ := lift_perm ((h.trans p).cons_inv)
    exact ⟨a :: qs, (hq.cons a).trans List.perm_middle.symm, by rw [List.map_cons, e]⟩
end SortAt
namespace L2
open PySem PySem.Spec PyProof.Rows
variable {X : Cx}
/-- sorted(..) of fewer than 64 rows of pairs -/
def rSortedR (K : PySem.W.Frag) : List V → Hp → VK → Prop := fun xs H Q => ∃ (p : Addr) (vs : List V) (rows : List (List (Int × Int))), xs = [.ref p] ∧ SqL K H p vs ∧ Reps H vs (rows.map Ring.rowD) ∧ rows.length < 64 ∧
  ∀ (l : Addr) (vs' : List V) (rows' : List (List (Int × Int))), H l = none → rows'.Perm rows → rows'.Pairwise (fun r t => SortAt.rowLt t r = false) → (∀ G, Reps G vs (rows.map Ring.rowD) → Reps G vs' (rows'.map Ring.rowD)) → vs'.Perm vs → Q (.ref l) (upd H l (.lst vs'))
theorem zip_reads {P : Program} {w : World} {H : Hp} {h : Heap} (ok : HOk P w H h) : ∀ {vs : List V} {its : List Value} {rows : List (List (Int × Int))}, Vals vs its → Reps H vs (rows.map Ring.rowD) →
    its.map (SortAt.rowAt h) = rows ∧ ∀ q ∈ vs.zip its, RelV q.1 q.2 ∧ Rep H q.1 (Ring.rowD (SortAt.rowAt h q.2)) ∧ ∃ as, Reads h q.2 (Ring.rowD (SortAt.rowAt h q.2)) as
  | [], [], [], .nil, _ => ⟨rfl, fun q m => absurd m (by simp)⟩
  | [], [], _ :: _, .nil, r => by cases r
  | v :: vs, u :: its, [], _, r => by cases r
  | v :: vs, u :: its, r :: rows, .cons a b, .cons c d => by
    obtain ⟨as, q⟩ := c.reads ok (Ring.okTo_row r).1 a
    have e := SortAt.rowAt_eq q
    obtain ⟨e2, z⟩ := zip_reads ok b d
    refine ⟨by rw [List.map_cons, e, e2], fun x m => ?_⟩
    rw [List.zip_cons_cons] at m
    rcases List.mem_cons.mp m with rfl | m
    · exact ⟨a, by rw [e]; exact c, as, by rw [e]; exact q⟩
    · exact z x m
theorem zip_any {G : Hp} {h : Heap} : ∀ {vs : List V} {its : List Value}, vs.length = its.length → Reps G vs ((its.map (SortAt.rowAt h)).map Ring.rowD) → ∀ q ∈ vs.zip its, Rep G q.1 (Ring.rowD (SortAt.rowAt h q.2))
  | [], [], _, _, q, m => absurd m (by simp)
  | [], _ :: _, l, _, _, _ => by cases l
  | _ :: _, [], l, _, _, _ => by cases l
  | v :: vs, u :: its, l, .cons a b, q, m => by
    rw [List.zip_cons_cons] at m
    rcases List.mem_cons.mp m with rfl | m
    · exact a
    · exact zip_any (by simpa using l) b q m
theorem vals_of {qs : List (V × Value)} (h : ∀ q ∈ qs, RelV q.1 q.2) : Vals (qs.map (·.1)) (qs.map (·.2)) := by
  induction qs with
  | nil => exact .nil
  | cons q qs ih => exact .cons (h q List.mem_cons_self) (ih fun x m => h x (List.mem_cons_of_mem _ m))
theorem reps_of {H : Hp} {f : Value → PyData} {qs : List (V × Value)} (h : ∀ q ∈ qs, Rep H q.1 (f q.2)) : Reps H (qs.map (·.1)) ((qs.map (·.2)).map f) := by
  induction qs with
  | nil => exact .nil
  | cons q qs ih => exact .cons (h q List.mem_cons_self) (ih fun x m => h x (List.mem_cons_of_mem _ m))
end L2

/-! Own work. sorted() of any number of things that compare, in the state as it stands, by a rank: the merges. -/
namespace SortAt
open PySem PyProof.Rows
variable {prog : Program} {w : World} {A : Around} {E : Value → Shared → Prop} {s : Shared} {a₀ : Array Keyed} {rk : Value → Int}
def galP : Bool → Keyed → Array Keyed → Nat → Nat → Nat → StateT SortSt Sem (Option Nat) := sortPriv% PySem.Builtin.gallop
theorem lt_two (hC : Cmp prog w A s rk a₀) {st : SortSt} (hk : kindOf st = oneType') {p q : Keyed} (mp : p ∈ a₀.toList) (mq : q ∈ a₀.toList) {Q : Option Bool → SortSt → Prop}
    (h : Q (some (decide (rk p.1 < rk q.1))) st) : wpS (model prog w) A E s (lt' p q) Q st := by
  rw [lt'_eq]
  refine wpS_bind (wpS_get ?_)
  rw [hk, keyLt'_oneType]
  exact wpS_bind (wpS_lift (wpAny_attempt (hC p q mp mq ⟨rfl, wpS_pure h⟩)))
theorem el {xs : Array Keyed} {i : Nat} {p : Keyed} {st : SortSt} {M : Model} {Q : Keyed → SortSt → Prop} (e : xs[i]? = some p) (h : Q p st) : wpS M A E s (elem' xs i) Q st := by
  rw [elem'_eq, e]
  exact wpS_pure h
/-- how many of the n things from base on lie ahead of the key: found by steps that double, then by halves -/
theorem gal (hC : Cmp prog w A s rk a₀) {st : SortSt} (hk : kindOf st = oneType') {left : Bool} {key : Keyed} {arr : Array Keyed} {base n hint : Nat} (mk : key ∈ a₀.toList)
    (ma : ∀ i, i < n → ∃ p, arr[base + i]? = some p ∧ p ∈ a₀.toList) (hn : hint < n) {B : Nat → Bool}
    (hB : ∀ i p, i < n → arr[base + i]? = some p → B i = if left = true then decide (rk p.1 < rk key.1) else !decide (rk key.1 < rk p.1)) (mono : ∀ i j, i ≤ j → j < n → B j = true → B i = true)
    {Q : Option Nat → SortSt → Prop} (h : ∀ k, k ≤ n → (∀ i, i < n → (B i = true ↔ i < k)) → Q (some k) st) : wpS (model prog w) A E s (galP left key arr base n hint) Q st := by
  have ask : ∀ {i : Nat} {Q : Option Bool → SortSt → Prop}, i < n → Q (some (B i)) st → wpS (model prog w) A E s (do let x ← elem' arr (base + i); if left = true then lt' x key else do let r ← lt' key x; pure (r.map (!·))) Q st := fun {i Q} hi q => by
    obtain ⟨p, e, m⟩ := ma i hi
    rw [hB i p hi e] at q
    refine wpS_bind (el e ?_)
    by_cases c : left = true
    · rw [if_pos c] at q ⊢
      exact lt_two hC hk m mk q
    · rw [if_neg c] at q ⊢
      exact wpS_bind (lt_two hC hk mk m (wpS_pure q))
  have off : ∀ i j, i ≤ j → j < n → B i = false → B j = false := fun i j a b c => by
    cases d : B j with
    | false => rfl
    | true => rw [mono i j a b d] at c; cases c
  have half : ∀ {lo hi : Nat}, lo ≤ hi → hi ≤ n → (∀ i, i < lo → B i = true) → (∀ i, hi ≤ i → i < n → B i = false) →
      wpS (model prog w) A E s (forIn [:n] ((none, lo, hi) : Option (Option Nat) × Nat × Nat) fun _ c => if c.2.1 ≥ c.2.2 then pure (ForInStep.done (none, c.2.1, c.2.2)) else do
        let r ← (do let x ← elem' arr (base + (c.2.1 + (c.2.2 - c.2.1) / 2)); if left = true then lt' x key else do let r ← lt' key x; pure (r.map (!·)))
        match r with
        | some b => if b = true then pure (ForInStep.yield (none, c.2.1 + (c.2.2 - c.2.1) / 2 + 1, c.2.2)) else pure (ForInStep.yield (none, c.2.1, c.2.1 + (c.2.2 - c.2.1) / 2))
        | _ => pure (ForInStep.done (some none, c.2.1, c.2.2)))
      (fun c z => z = st ∧ ∃ k, c = (none, k, k) ∧ k ≤ n ∧ ∀ i, i < n → (B i = true ↔ i < k)) st := fun {lo hi} lh hn lt ge => by
    have out : ∀ {l r : Nat}, l = r → r ≤ n → (∀ i, i < l → B i = true) → (∀ i, r ≤ i → i < n → B i = false) → ∃ k, ((none, l, r) : Option (Option Nat) × Nat × Nat) = (none, k, k) ∧ k ≤ n ∧ ∀ i, i < n → (B i = true ↔ i < k) := fun {l r} e rn a b => by
      subst e
      refine ⟨l, rfl, rn, fun i hi => ⟨fun t => ?_, a i⟩⟩
      rcases Nat.lt_or_ge i l with z | z
      · exact z
      · rw [b i z hi] at t; cases t
    refine wpS_forRange (I := fun x c z => z = st ∧ ∃ l r, c = (none, l, r) ∧ l ≤ r ∧ r ≤ n ∧ r - l ≤ n - x ∧ (∀ i, i < l → B i = true) ∧ ∀ i, r ≤ i → i < n → B i = false) (fun x d z _ xn hI => ?_) (fun d z hI => ?_) ⟨rfl, lo, hi, rfl, lh, hn, by omega, lt, ge⟩
    · obtain ⟨rfl, l, r, rfl, lr, rn, sm, a, b⟩ := hI
      dsimp only
      by_cases g : l ≥ r
      · rw [if_pos g]
        exact wpS_pure ⟨rfl, out (by omega) rn a b⟩
      · rw [if_neg g]
        refine wpS_bind (ask (by omega) ?_)
        dsimp only
        cases e : B (l + (r - l) / 2) with
        | true => exact wpS_pure ⟨rfl, _, _, rfl, by omega, rn, by omega, fun i hi => mono _ _ (by omega) (by omega) e, b⟩
        | false => exact wpS_pure ⟨rfl, _, _, rfl, by omega, by omega, by omega, a, fun i hi hn => off _ _ hi hn e⟩
    · obtain ⟨rfl, l, r, rfl, lr, rn, sm, a, b⟩ := hI
      exact ⟨rfl, out (by omega) rn a b⟩
  refine wpS_bind (ask hn ?_)
  dsimp only
  by_cases c : B hint = true
  · rw [if_pos c]
    refine wpS_bind (wpS_mono (wpS_forRange (I := fun x c z => z = st ∧ ∃ l o, c = (none, l, o) ∧ l < o ∧ l < n - hint ∧ x < o ∧ B (hint + l) = true)
      (Q := fun c z => z = st ∧ ∃ l o, c = (none, l, o) ∧ l < o ∧ l < n - hint ∧ B (hint + l) = true ∧ (o < n - hint → B (hint + o) = false)) (fun x d z _ xn hI => ?_) (fun d z hI => ?_) ⟨rfl, 0, 1, rfl, by omega, by omega, by omega, c⟩) fun d z hI => ?_)
    · obtain ⟨rfl, l, o, rfl, lo, lm, xo, b⟩ := hI
      dsimp only
      by_cases g : o ≥ n - hint
      · rw [if_pos g]
        exact wpS_pure ⟨rfl, l, o, rfl, lo, lm, b, fun z => by omega⟩
      · rw [if_neg g]
        refine wpS_bind (ask (by omega) ?_)
        dsimp only
        cases e : B (hint + o) with
        | true => exact wpS_pure ⟨rfl, o, 2 * o + 1, rfl, by omega, by omega, by omega, e⟩
        | false => exact wpS_pure ⟨rfl, l, o, rfl, lo, lm, b, fun _ => e⟩
    · obtain ⟨rfl, l, o, rfl, lo, lm, xo, b⟩ := hI
      exact ⟨rfl, l, o, rfl, lo, lm, b, fun z => by omega⟩
    · obtain ⟨rfl, l, o, rfl, lo, lm, b, f⟩ := hI
      dsimp only
      refine wpS_bind (wpS_mono (half (lo := hint + l + 1) (hi := hint + min o (n - hint)) (by omega) (by omega) (fun i hi => mono _ _ (by omega) (by omega) b) fun i a b' => off (hint + o) i (by omega) b' (f (by omega))) fun d z hI => ?_)
      obtain ⟨rfl, k, rfl, kn, q⟩ := hI
      exact wpS_pure (h k kn q)
  · rw [if_neg c]
    have c' : B hint = false := by simpa using c
    refine wpS_bind (wpS_mono (wpS_forRange (I := fun x c z => z = st ∧ ∃ l o, c = (none, l, o) ∧ l < o ∧ l < hint + 1 ∧ x < o ∧ B (hint - l) = false)
      (Q := fun c z => z = st ∧ ∃ l o, c = (none, l, o) ∧ l < o ∧ l < hint + 1 ∧ B (hint - l) = false ∧ (o < hint + 1 → B (hint - o) = true)) (fun x d z _ xn hI => ?_) (fun d z hI => ?_) ⟨rfl, 0, 1, rfl, by omega, by omega, by omega, c'⟩) fun d z hI => ?_)
    · obtain ⟨rfl, l, o, rfl, lo, lm, xo, b⟩ := hI
      dsimp only
      by_cases g : o ≥ hint + 1
      · rw [if_pos g]
        exact wpS_pure ⟨rfl, l, o, rfl, lo, lm, b, fun z => by omega⟩
      · rw [if_neg g]
        refine wpS_bind (ask (by omega) ?_)
        dsimp only
        cases e : B (hint - o) with
        | true => exact wpS_pure ⟨rfl, l, o, rfl, lo, lm, b, fun _ => e⟩
        | false => exact wpS_pure ⟨rfl, o, 2 * o + 1, rfl, by omega, by omega, by omega, e⟩
    · obtain ⟨rfl, l, o, rfl, lo, lm, xo, b⟩ := hI
      exact ⟨rfl, l, o, rfl, lo, lm, b, fun z => by omega⟩
    · obtain ⟨rfl, l, o, rfl, lo, lm, b, f⟩ := hI
      dsimp only
      refine wpS_bind (wpS_mono (half (lo := hint + 1 - min o (hint + 1)) (hi := hint - l) (by omega) (by omega) (fun i hi => mono _ _ (by omega) (by omega) (f (by omega))) fun i a b' => off (hint - l) i (by omega) b' b) fun d z hI => ?_)
      obtain ⟨rfl, k, rfl, kn, q⟩ := hI
      exact wpS_pure (h k kn q)
end SortAt

/-! Own work. two sorted arrays merged. -/
namespace SortAt
open PySem PyProof.Rows
variable {prog : Program} {w : World} {A : Around} {E : Value → Shared → Prop} {s : Shared} {a₀ : Array Keyed} {rk : Value → Int}
/-- what is out already, and what is left of both -/
structure Mg (r : Keyed → Int) (all out as bs : List Keyed) : Prop where
  perm : (out ++ as ++ bs).Perm all
  so : out.Pairwise fun x y => r x ≤ r y
  sa : as.Pairwise fun x y => r x ≤ r y
  sb : bs.Pairwise fun x y => r x ≤ r y
  le : ∀ x ∈ out, ∀ y, y ∈ as ∨ y ∈ bs → r x ≤ r y
theorem Mg.swap {r : Keyed → Int} {all out as bs : List Keyed} (m : Mg r all out as bs) : Mg r all out bs as :=
  ⟨(by rw [List.append_assoc]; exact (List.Perm.append_left out List.perm_append_comm).trans (by rw [← List.append_assoc]; exact m.perm)), m.so, m.sb, m.sa, fun x hx y hy => m.le x hx y hy.symm⟩
theorem Mg.left {r : Keyed → Int} {all out p as bs : List Keyed} (m : Mg r all out (p ++ as) bs) (h : ∀ x ∈ p, ∀ y ∈ bs, r x ≤ r y) : Mg r all (out ++ p) as bs := by
  obtain ⟨s1, s2, s3⟩ := List.pairwise_append.mp m.sa
  refine ⟨by rw [List.append_assoc out p as]; exact m.perm, List.pairwise_append.mpr ⟨m.so, s1, fun x hx y hy => m.le x hx y (.inl (List.mem_append_left _ hy))⟩, s2, m.sb, fun x hx y hy => ?_⟩
  rcases List.mem_append.mp hx with z | z
  · rcases hy with y1 | y1
    · exact m.le x z y (.inl (List.mem_append_right _ y1))
    · exact m.le x z y (.inr y1)
  · rcases hy with y1 | y1
    · exact s3 x z y y1
    · exact h x z y y1
theorem Mg.fin {r : Keyed → Int} {all out as bs : List Keyed} (m : Mg r all out as bs) (h : ∀ x ∈ as, ∀ y ∈ bs, r x ≤ r y) : (out ++ as ++ bs).Perm all ∧ (out ++ as ++ bs).Pairwise fun x y => r x ≤ r y := by
  refine ⟨m.perm, List.pairwise_append.mpr ⟨List.pairwise_append.mpr ⟨m.so, m.sa, fun x hx y hy => m.le x hx y (.inl hy)⟩, m.sb, fun x hx y hy => ?_⟩⟩
  rcases List.mem_append.mp hx with z | z
  · exact m.le x z y (.inr hy)
  · exact h x z y hy
/-- only the gallop's number may differ -/
def Alike (st z : SortSt) : Prop := ∃ g, z = SortSt.mk' (kindOf st) (arrOf st) (pendingOf st) g (failedOf st)
theorem Alike.refl (st : SortSt) : Alike st st := ⟨gallopOf st, rfl⟩
theorem Alike.set {st z : SortSt} (h : Alike st z) (g : Nat) : Alike st (SortSt.mk' (kindOf z) (arrOf z) (pendingOf z) g (failedOf z)) := by
  obtain ⟨g', rfl⟩ := h
  exact ⟨g, rfl⟩
theorem Alike.kind {st z : SortSt} (h : Alike st z) : kindOf z = kindOf st := by obtain ⟨g, rfl⟩ := h; rfl
abbrev rr (rk : Value → Int) : Keyed → Int := fun p => rk p.1
theorem ext_list (a : Array Keyed) (i j : Nat) : (a.extract i j).toList = (a.toList.drop i).take (j - i) := by rw [Array.toList_extract]
theorem ext_all (a : Array Keyed) (i : Nat) : (a.extract i).toList = a.toList.drop i := by
  rw [ext_list]
  exact List.take_of_length_le (by rw [List.length_drop, Array.length_toList]; exact Nat.le_refl _)
theorem drop_at {a : Array Keyed} {i : Nat} {p : Keyed} (e : a[i]? = some p) : a.toList.drop i = p :: a.toList.drop (i + 1) := by
  have hi : i < a.toList.length := by
    rcases Nat.lt_or_ge i a.toList.length with z | z
    · exact z
    · rw [Array.length_toList] at z; rw [Array.getElem?_eq_none z] at e; cases e
  rw [List.drop_eq_getElem_cons hi]
  congr 1
  rw [Array.length_toList] at hi
  rw [Array.getElem?_eq_getElem hi] at e
  simpa using e
theorem mem_drop_at {a : Array Keyed} {i : Nat} {x : Keyed} (h : x ∈ a.toList.drop i) : ∃ j, i + j < a.size ∧ a[i + j]? = some x := by
  obtain ⟨j, hj, e⟩ := List.mem_iff_getElem.mp h
  rw [List.length_drop, Array.length_toList] at hj
  refine ⟨j, by omega, ?_⟩
  rw [Array.getElem?_eq_getElem (by omega), ← e, List.getElem_drop]
  simp
theorem mem_take_at {a : Array Keyed} {i k : Nat} {x : Keyed} (h : x ∈ (a.toList.drop i).take k) : ∃ j, j < k ∧ i + j < a.size ∧ a[i + j]? = some x := by
  obtain ⟨j, hj, e⟩ := List.mem_iff_getElem.mp h
  rw [List.length_take, List.length_drop, Array.length_toList] at hj
  refine ⟨j, by omega, by omega, ?_⟩
  rw [Array.getElem?_eq_getElem (by omega), ← e, List.getElem_take, List.getElem_drop]
  simp
theorem sorted_at' {a : Array Keyed} (h : a.toList.Pairwise fun x y => rr rk x ≤ rr rk y) {i j : Nat} {p q : Keyed} (ij : i ≤ j) (ei : a[i]? = some p) (ej : a[j]? = some q) : rk p.1 ≤ rk q.1 := by
  by_cases c : i = j
  · subst c; rw [ei] at ej; cases ej; exact Int.le_refl _
  · have hj : j < a.size := by
      rcases Nat.lt_or_ge j a.size with z | z
      · exact z
      · rw [Array.getElem?_eq_none z] at ej; cases ej
    have := List.pairwise_iff_getElem.mp h i j (by rw [Array.length_toList]; omega) (by rw [Array.length_toList]; exact hj) (by omega)
    rw [Array.getElem?_eq_getElem (by omega)] at ei
    rw [Array.getElem?_eq_getElem hj] at ej
    cases ei; cases ej
    simpa using this
def setP : Nat → StateT SortSt Sem Unit := sortPriv% PySem.Builtin.setMinGallop
theorem setG {st z : SortSt} (al : Alike st z) {g : Nat} {M : Model} {Q : Unit → SortSt → Prop} (h : ∀ z', Alike st z' → Q () z') : wpS M A E s (setP g) Q z := wpS_modify (h _ (al.set g))
def loP : Array Keyed → Array Keyed → StateT SortSt Sem (Array Keyed) := sortPriv% PySem.Builtin.mergeLo
/-- how many of a from ia on are no greater than the key -/
theorem gal_r (hC : Cmp prog w A s rk a₀) {st : SortSt} (hk : kindOf st = oneType') {key : Keyed} {a : Array Keyed} {base n hint : Nat} (mk : key ∈ a₀.toList) (ma : ∀ p ∈ a.toList, p ∈ a₀.toList) (hn : hint < n) (hs : base + n ≤ a.size)
    (so : ∀ i j p q, base ≤ i → i ≤ j → j < base + n → a[i]? = some p → a[j]? = some q → rk p.1 ≤ rk q.1) {Q : Option Nat → SortSt → Prop}
    (h : ∀ k, k ≤ n → (∀ i p, i < k → a[base + i]? = some p → rk p.1 ≤ rk key.1) → (∀ i p, k ≤ i → i < n → a[base + i]? = some p → rk key.1 < rk p.1) → Q (some k) st) : wpS (model prog w) A E s (galP false key a base n hint) Q st := by
  have at_ : ∀ i, i < n → a[base + i]? = some a[base + i]! := fun i hi => by rw [Array.getElem?_eq_getElem (by omega), getElem!_pos a (base + i) (by omega)]
  refine gal hC hk mk (fun i hi => ⟨_, at_ i hi, ma _ (Array.mem_toList_iff.mpr (Array.mem_of_getElem? (at_ i hi)))⟩) hn (B := fun i => !decide (rk key.1 < rk a[base + i]!.1)) (fun i p hi e => ?_) (fun i j ij hj b => ?_) fun k kn q => ?_
  · rw [at_ i hi] at e
    cases e
    rfl
  · have := so (base + i) (base + j) _ _ (by omega) (by omega) (by omega) (at_ i (by omega)) (at_ j hj)
    simp only [Bool.not_eq_true', decide_eq_false_iff_not] at b ⊢
    omega
  · refine h k kn (fun i p hi e => ?_) (fun i p ki hi e => ?_)
    · have b := (q i (by omega)).mpr hi
      rw [at_ i (by omega)] at e
      cases e
      simp only [Bool.not_eq_true', decide_eq_false_iff_not] at b
      omega
    · rw [at_ i hi] at e
      cases e
      by_cases c : rk key.1 < rk a[base + i]!.1
      · exact c
      · exact absurd ((q i hi).mp (by simp only [Bool.not_eq_true', decide_eq_false_iff_not]; exact c)) (by omega)
/-- how many of a from base on are less than the key -/
theorem gal_l (hC : Cmp prog w A s rk a₀) {st : SortSt} (hk : kindOf st = oneType') {key : Keyed} {a : Array Keyed} {base n hint : Nat} (mk : key ∈ a₀.toList) (ma : ∀ p ∈ a.toList, p ∈ a₀.toList) (hn : hint < n) (hs : base + n ≤ a.size)
    (so : ∀ i j p q, base ≤ i → i ≤ j → j < base + n → a[i]? = some p → a[j]? = some q → rk p.1 ≤ rk q.1) {Q : Option Nat → SortSt → Prop}
    (h : ∀ k, k ≤ n → (∀ i p, i < k → a[base + i]? = some p → rk p.1 < rk key.1) → (∀ i p, k ≤ i → i < n → a[base + i]? = some p → rk key.1 ≤ rk p.1) → Q (some k) st) : wpS (model prog w) A E s (galP true key a base n hint) Q st := by
  have at_ : ∀ i, i < n → a[base + i]? = some a[base + i]! := fun i hi => by rw [Array.getElem?_eq_getElem (by omega), getElem!_pos a (base + i) (by omega)]
  refine gal hC hk mk (fun i hi => ⟨_, at_ i hi, ma _ (Array.mem_toList_iff.mpr (Array.mem_of_getElem? (at_ i hi)))⟩) hn (B := fun i => decide (rk a[base + i]!.1 < rk key.1)) (fun i p hi e => ?_) (fun i j ij hj b => ?_) fun k kn q => ?_
  · rw [at_ i hi] at e
    cases e
    rfl
  · have := so (base + i) (base + j) _ _ (by omega) (by omega) (by omega) (at_ i (by omega)) (at_ j hj)
    simp only [decide_eq_true_eq] at b ⊢
    omega
  · refine h k kn (fun i p hi e => ?_) (fun i p ki hi e => ?_)
    · have b := (q i (by omega)).mpr hi
      rw [at_ i (by omega)] at e
      cases e
      simpa using b
    · rw [at_ i hi] at e
      cases e
      by_cases c : rk a[base + i]!.1 < rk key.1
      · exact absurd ((q i hi).mp (by simpa using c)) (by omega)
      · omega
theorem lo (hC : Cmp prog w A s rk a₀) {st : SortSt} (hk : kindOf st = oneType') {a b : Array Keyed} (ma : ∀ p ∈ a.toList, p ∈ a₀.toList) (mb : ∀ p ∈ b.toList, p ∈ a₀.toList) (sa : a.toList.Pairwise fun x y => rr rk x ≤ rr rk y) (sb : b.toList.Pairwise fun x y => rr rk x ≤ rr rk y)
    (a1 : 0 < a.size) (b1 : 0 < b.size) (first : ∀ p, b[0]? = some p → ∀ y ∈ a.toList, rk p.1 ≤ rk y.1) (last : ∀ p, a[a.size - 1]? = some p → ∀ y ∈ b.toList, rk y.1 ≤ rk p.1) {Q : Array Keyed → SortSt → Prop}
    (h : ∀ out z, Alike st z → out.toList.Perm (a.toList ++ b.toList) → (out.toList.Pairwise fun x y => rr rk x ≤ rr rk y) → Q out z) : wpS (model prog w) A E s (loP a b) Q st := by
  let J : Array Keyed → Nat → Nat → Prop := fun out ia ib => Mg (rr rk) (a.toList ++ b.toList) out.toList (a.toList.drop ia) (b.toList.drop ib)
  let G : Array Keyed → Prop := fun out => out.toList.Perm (a.toList ++ b.toList) ∧ out.toList.Pairwise fun x y => rr rk x ≤ rr rk y
  have ata : ∀ {i : Nat}, i < a.size → ∃ p, a[i]? = some p ∧ p ∈ a₀.toList := fun {i} hi => ⟨a[i], Array.getElem?_eq_getElem hi, ma _ (by simp)⟩
  have atb : ∀ {i : Nat}, i < b.size → ∃ p, b[i]? = some p ∧ p ∈ a₀.toList := fun {i} hi => ⟨b[i], Array.getElem?_eq_getElem hi, mb _ (by simp)⟩
  -- the ways out
  have done : ∀ {out : Array Keyed} {ia ib : Nat}, J out ia ib → (a.size ≤ ia ∨ b.size ≤ ib) → G (out ++ a.extract ia ++ b.extract ib) := fun {out ia ib} j c => by
    have : (out ++ a.extract ia ++ b.extract ib).toList = out.toList ++ a.toList.drop ia ++ b.toList.drop ib := by rw [Array.toList_append, Array.toList_append, ext_all, ext_all]
    show (_ : List Keyed).Perm _ ∧ (_ : List Keyed).Pairwise _
    rw [this]
    refine j.fin fun x hx y hy => ?_
    rcases c with c | c
    · rw [List.drop_eq_nil_of_le (by rw [Array.length_toList]; exact c)] at hx; cases hx
    · rw [List.drop_eq_nil_of_le (by rw [Array.length_toList]; exact c)] at hy; cases hy
  have lastA : ∀ {out : Array Keyed} {ia ib : Nat}, J out ia ib → ia + 1 = a.size → G (out ++ b.extract ib ++ a.extract ia) := fun {out ia ib} j c => by
    have : (out ++ b.extract ib ++ a.extract ia).toList = out.toList ++ b.toList.drop ib ++ a.toList.drop ia := by rw [Array.toList_append, Array.toList_append, ext_all, ext_all]
    show (_ : List Keyed).Perm _ ∧ (_ : List Keyed).Pairwise _
    rw [this]
    refine j.swap.fin fun x hx y hy => ?_
    obtain ⟨p, ep, _⟩ := ata (i := ia) (by omega)
    rw [drop_at ep, List.drop_eq_nil_of_le (by rw [Array.length_toList]; omega)] at hy
    cases List.mem_singleton.mp hy
    exact last _ (by rw [show a.size - 1 = ia by omega]; exact ep) x (List.mem_of_mem_drop hx)
  -- the steps
  have pushB : ∀ {out : Array Keyed} {ia ib : Nat} {p : Keyed}, J out ia ib → b[ib]? = some p → (∀ y ∈ a.toList.drop ia, rk p.1 ≤ rk y.1) → J (out.push p) ia (ib + 1) := fun {out ia ib p} j e le => by
    have j' := j.swap
    rw [drop_at e] at j'
    have := (Mg.left (p := [p]) j' fun x hx y hy => by cases List.mem_singleton.mp hx; exact le y hy).swap
    show Mg _ _ (out.push p).toList _ _
    rw [Array.toList_push]; exact this
  have pushA : ∀ {out : Array Keyed} {ia ib : Nat} {p : Keyed}, J out ia ib → a[ia]? = some p → (∀ y ∈ b.toList.drop ib, rk p.1 ≤ rk y.1) → J (out.push p) (ia + 1) ib := fun {out ia ib p} j e le => by
    have j' := j
    show Mg _ _ (out.push p).toList _ _
    have j2 : Mg (rr rk) (a.toList ++ b.toList) out.toList ([p] ++ a.toList.drop (ia + 1)) (b.toList.drop ib) := by have := j'; show Mg _ _ _ (p :: a.toList.drop (ia + 1)) _; rw [← drop_at e]; exact this
    rw [Array.toList_push]
    exact Mg.left j2 fun x hx y hy => by cases List.mem_singleton.mp hx; exact le y hy
  have moveA : ∀ {out : Array Keyed} {ia ib k : Nat} {p : Keyed}, J out ia ib → b[ib]? = some p → (∀ i q, i < k → a[ia + i]? = some q → rk q.1 ≤ rk p.1) → J (out ++ a.extract ia (ia + k)) (ia + k) ib := fun {out ia ib k p} j e le => by
    show Mg _ _ (out ++ a.extract ia (ia + k)).toList _ _
    rw [Array.toList_append, ext_list, Nat.add_sub_cancel_left]
    have j2 : Mg (rr rk) (a.toList ++ b.toList) out.toList ((a.toList.drop ia).take k ++ a.toList.drop (ia + k)) (b.toList.drop ib) := by
      rw [← List.drop_drop, List.take_append_drop]; exact j
    refine Mg.left j2 fun x hx y hy => ?_
    obtain ⟨i, ik, _, ex⟩ := mem_take_at hx
    obtain ⟨l, _, ey⟩ := mem_drop_at hy
    exact Int.le_trans (le i x ik ex) (sorted_at' sb (Nat.le_add_right _ _) e ey)
  have moveB : ∀ {out : Array Keyed} {ia ib k : Nat} {p : Keyed}, J out ia ib → a[ia]? = some p → (∀ i q, i < k → b[ib + i]? = some q → rk q.1 < rk p.1) → J (out ++ b.extract ib (ib + k)) ia (ib + k) := fun {out ia ib k p} j e le => by
    show Mg _ _ (out ++ b.extract ib (ib + k)).toList _ _
    rw [Array.toList_append, ext_list, Nat.add_sub_cancel_left]
    have j2 : Mg (rr rk) (a.toList ++ b.toList) out.toList ((b.toList.drop ib).take k ++ b.toList.drop (ib + k)) (a.toList.drop ia) := by
      rw [← List.drop_drop, List.take_append_drop]; exact j.swap
    refine (Mg.left j2 fun x hx y hy => ?_).swap
    obtain ⟨i, ik, _, ex⟩ := mem_take_at hx
    obtain ⟨l, _, ey⟩ := mem_drop_at hy
    exact Int.le_trans (Int.le_of_lt (le i x ik ex)) (sorted_at' sa (Nat.le_add_right _ _) e ey)
  refine wpS_bind (wpS_lift (wpAny_rule ⟨rfl, ?_⟩))
  obtain ⟨p0, e0, _⟩ := atb b1
  refine wpS_bind (el e0 ?_)
  have j0 : J #[p0] 0 1 := by
    have z : Mg (rr rk) (a.toList ++ b.toList) [] (a.toList.drop 0) (b.toList.drop 0) := ⟨by simp, .nil, by simpa using sa, by simpa using sb, fun _ hx => by cases hx⟩
    exact pushB (out := #[]) z e0 fun y hy => first p0 e0 y (by simpa using hy)
  dsimp only
  by_cases c1 : 1 = b.size
  · rw [if_pos (by simpa using c1)]
    obtain ⟨g1, g2⟩ := done j0 (.inr (by omega))
    exact wpS_pure (h _ _ (Alike.refl _) g1 g2)
  rw [if_neg (by simpa using c1)]
  by_cases c2 : 0 + 1 = a.size
  · rw [if_pos (by simpa using c2)]
    obtain ⟨g1, g2⟩ := lastA j0 c2
    exact wpS_pure (h _ _ (Alike.refl _) g1 g2)
  rw [if_neg (by simpa using c2)]
  refine wpS_bind (wpS_get ?_)
  refine wpS_bind (wpS_mono (wpS_forRange (I := fun x c z => Alike st z ∧ ∃ out ia ib mg, c = (none, out, ia, ib, mg) ∧ J out ia ib ∧ ia + 1 < a.size ∧ ib < b.size ∧ x ≤ ia + ib)
    (Q := fun c z => Alike st z ∧ ∃ r t, c = (some r, t) ∧ G r) (fun x c z _ xn hI => ?_) (fun c z hI => ?_) ⟨Alike.refl _, _, _, _, _, rfl, j0, by omega, by omega, by omega⟩) fun c z hI => ?_)
  · obtain ⟨al, out, ia, ib, mg, rfl, j, ia1, ib1, xl⟩ := hI
    dsimp only
    -- one by one
    refine wpS_bind (wpS_mono (wpS_forRange (I := fun _ c z => Alike st z ∧ ∃ out' ia' ib' ac bc, c = (none, out', ia', ib', ac, bc) ∧ J out' ia' ib' ∧ ia' + 1 < a.size ∧ ib' < b.size ∧ ia + ib ≤ ia' + ib')
      (Q := fun c z => Alike st z ∧ ((∃ r t, c = (some r, t) ∧ G r) ∨ ∃ out' ia' ib' ac bc, c = (none, out', ia', ib', ac, bc) ∧ J out' ia' ib' ∧ ia' + 1 < a.size ∧ ib' < b.size ∧ ia + ib ≤ ia' + ib'))
      (fun y c z _ _ hI => ?_) (fun c z hI => ?_) ⟨al, _, _, _, _, _, rfl, j, ia1, ib1, Nat.le_refl _⟩) fun c z hI => ?_)
    · obtain ⟨al', out', ia', ib', ac, bc, rfl, j', ia1', ib1', le⟩ := hI
      obtain ⟨pb, eb, mpb⟩ := atb ib1'
      obtain ⟨pa, ea, mpa⟩ := ata (i := ia') (by omega)
      dsimp only
      refine wpS_bind (el eb (wpS_bind (el ea (wpS_bind (lt_two hC (al'.kind.trans hk) mpb mpa ?_)))))
      dsimp only
      by_cases d : rk pb.1 < rk pa.1
      · rw [if_pos (decide_eq_true d)]
        refine wpS_bind (el eb ?_)
        have j2 := pushB j' eb fun y hy => by
          obtain ⟨l, _, ey⟩ := mem_drop_at hy
          exact Int.le_trans (Int.le_of_lt d) (sorted_at' sa (Nat.le_add_right _ _) ea ey)
        by_cases f : ib' + 1 = b.size
        · rw [if_pos (by simpa using f)]
          exact wpS_pure ⟨al', .inl ⟨_, _, rfl, done j2 (.inr (by omega))⟩⟩
        · rw [if_neg (by simpa using f)]
          by_cases g : bc + 1 ≥ mg
          · rw [if_pos g]
            exact wpS_pure ⟨al', .inr ⟨_, _, _, _, _, rfl, j2, ia1', by omega, by omega⟩⟩
          · rw [if_neg g]
            exact wpS_pure ⟨al', _, _, _, _, _, rfl, j2, ia1', by omega, by omega⟩
      · rw [if_neg (by simpa using d)]
        refine wpS_bind (el ea ?_)
        have j2 := pushA j' ea fun y hy => by
          obtain ⟨l, _, ey⟩ := mem_drop_at hy
          exact Int.le_trans (by omega) (sorted_at' sb (Nat.le_add_right _ _) eb ey)
        by_cases f : ia' + 1 + 1 = a.size
        · rw [if_pos (by simpa using f)]
          exact wpS_pure ⟨al', .inl ⟨_, _, rfl, lastA j2 f⟩⟩
        · rw [if_neg (by simpa using f)]
          by_cases g : ac + 1 ≥ mg
          · rw [if_pos g]
            exact wpS_pure ⟨al', .inr ⟨_, _, _, _, _, rfl, j2, by omega, ib1', by omega⟩⟩
          · rw [if_neg g]
            exact wpS_pure ⟨al', _, _, _, _, _, rfl, j2, by omega, ib1', by omega⟩
    · exact ⟨hI.1, .inr hI.2⟩
    obtain ⟨al', hI⟩ := hI
    rcases hI with ⟨r, t, rfl, g⟩ | ⟨out', ia', ib', ac, bc, rfl, j', ia1', ib1', le⟩
    · exact wpS_pure ⟨al', _, _, rfl, g⟩
    dsimp only
    refine wpS_bind (wpS_lift (wpAny_rule ⟨rfl, ?_⟩))
    refine wpS_bind (wpS_mono (wpS_forRange (I := fun y c z => Alike st z ∧ ∃ o2 i2 k2 mg2 ac bc, c = (none, o2, i2, k2, mg2, ac, bc) ∧ J o2 i2 k2 ∧ i2 + 1 < a.size ∧ k2 < b.size ∧ ia + ib + min y 1 ≤ i2 + k2)
      (Q := fun c z => Alike st z ∧ ((∃ r t, c = (some r, t) ∧ G r) ∨ ∃ o2 i2 k2 mg2 ac bc, c = (none, o2, i2, k2, mg2, ac, bc) ∧ J o2 i2 k2 ∧ i2 + 1 < a.size ∧ k2 < b.size ∧ ia + ib + 1 ≤ i2 + k2))
      (fun y c z _ _ hI => ?_) (fun c z hI => ?_) ⟨al', _, _, _, _, _, _, rfl, j', ia1', ib1', by omega⟩) fun c z hI => ?_)
    · obtain ⟨al2, o2, i2, k2, mg2, ac2, bc2, rfl, j2, i21, k21, le2⟩ := hI
      obtain ⟨pb, eb, mpb⟩ := atb k21
      dsimp only
      by_cases m1 : mg2 > 1
      case' pos => rw [if_pos m1]
      case' neg => rw [if_neg m1]
      all_goals
        refine wpS_bind (setG al2 fun z3 al3 => ?_)
        refine wpS_bind (el eb (wpS_bind (gal_r hC (al3.kind.trans hk) mpb ma (by omega) (by omega) (fun i j p q _ ij _ ei ej => sorted_at' sa ij ei ej) fun k kn lt ge => ?_)))
        dsimp only
        have ge' : ∀ y ∈ a.toList.drop (i2 + k), rk pb.1 ≤ rk y.1 := fun y hy => by
          obtain ⟨l, hl, ey⟩ := mem_drop_at hy
          rw [Nat.add_assoc] at ey
          exact Int.le_of_lt (ge (k + l) y (by omega) (by omega) ey)
        have j3 := moveA j2 eb lt
        by_cases g : k > 0
        case' neg =>
          rw [if_neg g]
          have k0 : k = 0 := by omega
          subst k0
          have j3' : J o2 i2 k2 := j2
          have i31 : i2 + 1 < a.size := i21
          have ge3 : ∀ y ∈ a.toList.drop i2, rk pb.1 ≤ rk y.1 := ge'
          have le3 : ia + ib + min y 1 ≤ i2 + k2 := le2
        case' pos =>
          rw [if_pos g]
          by_cases l1 : i2 + k + 1 = a.size
          · rw [if_pos (by simpa using l1)]
            exact wpS_pure ⟨al3, .inl ⟨_, _, rfl, lastA j3 l1⟩⟩
          rw [if_neg (by simpa using l1)]
          by_cases l2 : i2 + k = a.size
          · rw [if_pos (by simpa using l2)]
            exact wpS_pure ⟨al3, .inl ⟨_, _, rfl, done j3 (.inl (by omega))⟩⟩
          rw [if_neg (by simpa using l2)]
          have j3' := j3
          have i31 : i2 + k + 1 < a.size := by omega
          have ge3 := ge'
          have le3 : ia + ib + min y 1 ≤ i2 + k + k2 := by omega
        all_goals
          refine wpS_bind (el eb ?_)
          have j4 := pushB j3' eb ge3
          by_cases f : k2 + 1 = b.size
          · rw [if_pos (by simpa using f)]
            exact wpS_pure ⟨al3, .inl ⟨_, _, rfl, done j4 (.inr (by omega))⟩⟩
          rw [if_neg (by simpa using f)]
          obtain ⟨pa, ea, mpa⟩ := ata (Nat.lt_of_succ_lt i31)
          refine wpS_bind (el ea (wpS_bind (gal_l hC (al3.kind.trans hk) mpa mb (by omega) (by omega) (fun i j p q _ ij _ ei ej => sorted_at' sb ij ei ej) fun k' kn' lt' ge'' => ?_)))
          dsimp only
          have j5 := moveB j4 ea lt'
          have ge4 : ∀ y ∈ b.toList.drop (k2 + 1 + k'), rk pa.1 ≤ rk y.1 := fun y hy => by
            obtain ⟨l, hl, ey⟩ := mem_drop_at hy
            rw [Nat.add_assoc] at ey
            exact ge'' (k' + l) y (by omega) (by omega) ey
          by_cases g' : k' > 0
          case' neg =>
            rw [if_neg g']
            have k0 : k' = 0 := by omega
            subst k0
            have j5' := j4
            have b5 : k2 + 1 < b.size := by omega
            have ge5 : ∀ y ∈ b.toList.drop (k2 + 1), rk pa.1 ≤ rk y.1 := ge4
          case' pos =>
            rw [if_pos g']
            by_cases l1 : k2 + 1 + k' = b.size
            · rw [if_pos (by simpa using l1)]
              exact wpS_pure ⟨al3, .inl ⟨_, _, rfl, done j5 (.inr (by omega))⟩⟩
            rw [if_neg (by simpa using l1)]
            have j5' := j5
            have b5 : k2 + 1 + k' < b.size := by omega
            have ge5 := ge4
          all_goals
            refine wpS_bind (el ea ?_)
            have j6 := pushA j5' ea ge5
            split
            · rename_i l1
              exact wpS_pure ⟨al3, .inl ⟨_, _, rfl, lastA j6 (by simpa using l1)⟩⟩
            · rename_i l1
              have l2 := Nat.lt_of_le_of_ne (show _ ≤ _ from i31) (by simpa using l1)
              split
              · exact wpS_pure ⟨al3, .inr ⟨_, _, _, _, _, _, rfl, j6, l2, b5, by omega⟩⟩
              · exact wpS_pure ⟨al3, _, _, _, _, _, _, rfl, j6, l2, b5, by omega⟩
    · obtain ⟨al2, o2, i2, k2, mg2, ac2, bc2, rfl, j2, i21, k21, le2⟩ := hI
      exact ⟨al2, .inr ⟨_, _, _, _, _, _, rfl, j2, i21, k21, by omega⟩⟩
    obtain ⟨al2, hI⟩ := hI
    rcases hI with ⟨r, t, rfl, g⟩ | ⟨o2, i2, k2, mg2, ac2, bc2, rfl, j2, i21, k21, le2⟩
    · exact wpS_pure ⟨al2, _, _, rfl, g⟩
    dsimp only
    exact wpS_bind (setG al2 fun z3 al3 => wpS_pure ⟨al3, _, _, _, _, rfl, j2, i21, k21, by omega⟩)
  · obtain ⟨_, out, ia, ib, mg, rfl, j, ia1, ib1, xl⟩ := hI
    omega
  · obtain ⟨al, r, t, rfl, g1, g2⟩ := hI
    exact wpS_pure (h _ _ al g1 g2)
end SortAt

/-! Own work. two sorted arrays merged, from the end on. -/
namespace SortAt
open PySem PyProof.Rows
variable {prog : Program} {w : World} {A : Around} {E : Value → Shared → Prop} {s : Shared} {a₀ : Array Keyed} {rk : Value → Int}
abbrev nr (rk : Value → Int) : Keyed → Int := fun p => - rk p.1
theorem take_at {a : Array Keyed} {i : Nat} {p : Keyed} (e : a[i]? = some p) : (a.toList.take (i + 1)).reverse = p :: (a.toList.take i).reverse := by
  have hi : i < a.toList.length := by
    rcases Nat.lt_or_ge i a.toList.length with z | z
    · exact z
    · rw [Array.length_toList] at z; rw [Array.getElem?_eq_none z] at e; cases e
  have e' : a.toList[i]? = some p := by rw [Array.getElem?_toList]; exact e
  rw [List.take_succ, e', Option.toList_some, List.reverse_append]
  rfl
theorem mem_rev_at {a : Array Keyed} {n : Nat} {x : Keyed} (h : x ∈ (a.toList.take n).reverse) : ∃ j, j < n ∧ j < a.size ∧ a[j]? = some x := by
  obtain ⟨j, hj, e⟩ := List.mem_iff_getElem.mp (List.mem_reverse.mp h)
  rw [List.length_take, Array.length_toList] at hj
  refine ⟨j, by omega, by omega, ?_⟩
  rw [Array.getElem?_eq_getElem (by omega), ← e, List.getElem_take]
  simp
theorem mem_cut_at {a : Array Keyed} {n k : Nat} {x : Keyed} (h : x ∈ (a.extract k n).reverse.toList) : ∃ j, k ≤ j ∧ j < n ∧ j < a.size ∧ a[j]? = some x := by
  rw [Array.toList_reverse, List.mem_reverse, ext_list] at h
  obtain ⟨j, jk, ja, e⟩ := mem_take_at h
  exact ⟨k + j, by omega, by omega, ja, e⟩
theorem cut_rev {a : Array Keyed} {n k : Nat} (kn : k ≤ n) : (a.toList.take n).reverse = (a.extract k n).reverse.toList ++ (a.toList.take k).reverse := by
  rw [Array.toList_reverse, ext_list, ← List.reverse_append]
  congr 1
  have := List.take_append_drop k (a.toList.take n)
  rw [List.take_take, Nat.min_eq_left kn] at this
  rw [← List.drop_take]
  exact this.symm
theorem rev_sorted {a : Array Keyed} (h : a.toList.Pairwise fun x y => rr rk x ≤ rr rk y) (n : Nat) : (a.toList.take n).reverse.Pairwise fun x y => nr rk x ≤ nr rk y := by
  rw [List.pairwise_reverse]
  exact (h.sublist (List.take_sublist _ _)).imp fun {x y} z => Int.neg_le_neg z
def hiP : Array Keyed → Array Keyed → StateT SortSt Sem (Array Keyed) := sortPriv% PySem.Builtin.mergeHi
theorem hi (hC : Cmp prog w A s rk a₀) {st : SortSt} (hk : kindOf st = oneType') {a b : Array Keyed} (ma : ∀ p ∈ a.toList, p ∈ a₀.toList) (mb : ∀ p ∈ b.toList, p ∈ a₀.toList) (sa : a.toList.Pairwise fun x y => rr rk x ≤ rr rk y) (sb : b.toList.Pairwise fun x y => rr rk x ≤ rr rk y)
    (a1 : 0 < a.size) (b1 : 0 < b.size) (first : ∀ p, b[0]? = some p → ∀ y ∈ a.toList, rk p.1 ≤ rk y.1) (last : ∀ p, a[a.size - 1]? = some p → ∀ y ∈ b.toList, rk y.1 ≤ rk p.1) {Q : Array Keyed → SortSt → Prop}
    (h : ∀ out z, Alike st z → out.toList.Perm (a.toList ++ b.toList) → (out.toList.Pairwise fun x y => rr rk x ≤ rr rk y) → Q out z) : wpS (model prog w) A E s (hiP a b) Q st := by
  let J : Array Keyed → Nat → Nat → Prop := fun out na nb => Mg (nr rk) (a.toList ++ b.toList) out.toList (a.toList.take na).reverse (b.toList.take nb).reverse
  let G : Array Keyed → Prop := fun out => out.toList.Perm (a.toList ++ b.toList) ∧ out.toList.Pairwise fun x y => rr rk x ≤ rr rk y
  have ata : ∀ {i : Nat}, i < a.size → ∃ p, a[i]? = some p ∧ p ∈ a₀.toList := fun {i} hi => ⟨a[i], Array.getElem?_eq_getElem hi, ma _ (by simp)⟩
  have atb : ∀ {i : Nat}, i < b.size → ∃ p, b[i]? = some p ∧ p ∈ a₀.toList := fun {i} hi => ⟨b[i], Array.getElem?_eq_getElem hi, mb _ (by simp)⟩
  have turn : ∀ {x : Array Keyed} {l : List Keyed}, x.toList = l.reverse → l.Perm (a.toList ++ b.toList) ∧ (l.Pairwise fun x y => nr rk x ≤ nr rk y) → G x := fun {x l} e q => by
    show (_ : List Keyed).Perm _ ∧ (_ : List Keyed).Pairwise _
    rw [e]
    refine ⟨(List.reverse_perm l).trans q.1, ?_⟩
    rw [List.pairwise_reverse]
    exact q.2.imp fun {x y} z => by have : - rk x.1 ≤ - rk y.1 := z; show rk y.1 ≤ rk x.1; omega
  -- the ways out
  have done : ∀ {out : Array Keyed} {na nb : Nat}, J out na nb → (na = 0 ∨ nb = 0) → G (a.extract 0 na ++ b.extract 0 nb ++ out.reverse) := fun {out na nb} j c => by
    refine turn ?_ (j.swap.fin fun x hx y hy => ?_)
    · rw [Array.toList_append, Array.toList_append, Array.toList_reverse, ext_list, ext_list, List.reverse_append, List.reverse_append, List.reverse_reverse, List.reverse_reverse]
      simp
    · rcases c with c | c
      · subst c; simp at hy
      · subst c; simp at hx
  have firstB : ∀ {out : Array Keyed} {na nb : Nat}, J out na nb → nb = 1 → G (b.extract 0 nb ++ a.extract 0 na ++ out.reverse) := fun {out na nb} j c => by
    refine turn ?_ (j.fin fun x hx y hy => ?_)
    · rw [Array.toList_append, Array.toList_append, Array.toList_reverse, ext_list, ext_list, List.reverse_append, List.reverse_append, List.reverse_reverse, List.reverse_reverse]
      simp
    · subst c
      obtain ⟨i, _, _, ex⟩ := mem_rev_at hx
      obtain ⟨l, hl, _, ey⟩ := mem_rev_at hy
      have l0 : l = 0 := by omega
      subst l0
      exact Int.neg_le_neg (first y ey x (Array.mem_toList_iff.mpr (Array.mem_of_getElem? ex)))
  -- the steps
  have pushB : ∀ {out : Array Keyed} {na nb : Nat} {p : Keyed}, J out na (nb + 1) → b[nb]? = some p → (∀ i y, i < na → a[i]? = some y → rk y.1 ≤ rk p.1) → J (out.push p) na nb := fun {out na nb p} j e le => by
    have j' := j.swap
    rw [take_at e] at j'
    have := (Mg.left (p := [p]) j' fun x hx y hy => by
      cases List.mem_singleton.mp hx
      obtain ⟨i, hi, _, ey⟩ := mem_rev_at hy
      exact Int.neg_le_neg (le i y hi ey)).swap
    show Mg _ _ (out.push p).toList _ _
    rw [Array.toList_push]; exact this
  have pushA : ∀ {out : Array Keyed} {na nb : Nat} {p : Keyed}, J out (na + 1) nb → a[na]? = some p → (∀ i y, i < nb → b[i]? = some y → rk y.1 ≤ rk p.1) → J (out.push p) na nb := fun {out na nb p} j e le => by
    have j' : Mg (nr rk) (a.toList ++ b.toList) out.toList (a.toList.take (na + 1)).reverse (b.toList.take nb).reverse := j
    rw [take_at e] at j'
    have := Mg.left (p := [p]) j' fun x hx y hy => by
      cases List.mem_singleton.mp hx
      obtain ⟨i, hi, _, ey⟩ := mem_rev_at hy
      exact Int.neg_le_neg (le i y hi ey)
    show Mg _ _ (out.push p).toList _ _
    rw [Array.toList_push]; exact this
  have moveA : ∀ {out : Array Keyed} {na nb k : Nat} {p : Keyed}, J out na (nb + 1) → b[nb]? = some p → k ≤ na → (∀ i q, k ≤ i → i < na → a[i]? = some q → rk p.1 ≤ rk q.1) → J (out ++ (a.extract k na).reverse) k (nb + 1) := fun {out na nb k p} j e kn le => by
    have j' : Mg (nr rk) (a.toList ++ b.toList) out.toList (a.toList.take na).reverse (b.toList.take (nb + 1)).reverse := j
    rw [cut_rev kn] at j'
    show Mg _ _ (out ++ (a.extract k na).reverse).toList _ _
    rw [Array.toList_append]
    refine Mg.left j' fun x hx y hy => ?_
    obtain ⟨i, ki, il, _, ex⟩ := mem_cut_at hx
    obtain ⟨l, hl, _, ey⟩ := mem_rev_at hy
    exact Int.neg_le_neg (Int.le_trans (sorted_at' sb (by omega) ey e) (le i x ki il ex))
  have moveB : ∀ {out : Array Keyed} {na nb k : Nat} {p : Keyed}, J out (na + 1) nb → a[na]? = some p → k ≤ nb → (∀ i q, k ≤ i → i < nb → b[i]? = some q → rk p.1 ≤ rk q.1) → J (out ++ (b.extract k nb).reverse) (na + 1) k := fun {out na nb k p} j e kn le => by
    have j' := j.swap
    rw [cut_rev kn] at j'
    show Mg _ _ (out ++ (b.extract k nb).reverse).toList _ _
    rw [Array.toList_append]
    refine (Mg.left j' fun x hx y hy => ?_).swap
    obtain ⟨i, ki, il, _, ex⟩ := mem_cut_at hx
    obtain ⟨l, hl, _, ey⟩ := mem_rev_at hy
    exact Int.neg_le_neg (Int.le_trans (sorted_at' sa (by omega) ey e) (le i x ki il ex))
  refine wpS_bind (wpS_lift (wpAny_rule ⟨rfl, ?_⟩))
  obtain ⟨p0, e0, _⟩ := ata (i := a.size - 1) (by omega)
  refine wpS_bind (el e0 ?_)
  have j0 : J #[p0] (a.size - 1) b.size := by
    have z : J #[] (a.size - 1 + 1) b.size := by
      have fa : a.toList.take (a.size - 1 + 1) = a.toList := List.take_of_length_le (by rw [Array.length_toList]; omega)
      have fb : b.toList.take b.size = b.toList := List.take_of_length_le (by rw [Array.length_toList]; omega)
      refine ⟨?_, .nil, rev_sorted sa _, rev_sorted sb _, fun _ hx => by cases hx⟩
      rw [fa, fb]
      simpa using (List.reverse_perm a.toList).append (List.reverse_perm b.toList)
    exact pushA (out := #[]) z e0 fun i y _ ey => last p0 e0 y (Array.mem_toList_iff.mpr (Array.mem_of_getElem? ey))
  dsimp only
  by_cases c1 : a.size - 1 = 0
  · rw [if_pos (by simpa using c1)]
    obtain ⟨g1, g2⟩ := done j0 (.inl c1)
    exact wpS_pure (h _ _ (Alike.refl _) g1 g2)
  rw [if_neg (by simpa using c1)]
  by_cases c2 : b.size = 1
  · rw [if_pos (by simpa using c2)]
    obtain ⟨g1, g2⟩ := firstB j0 c2
    exact wpS_pure (h _ _ (Alike.refl _) g1 g2)
  rw [if_neg (by simpa using c2)]
  refine wpS_bind (wpS_get ?_)
  refine wpS_bind (wpS_mono (wpS_forRange (I := fun x c z => Alike st z ∧ ∃ na nb out mg, c = (none, na + 1, nb + 2, out, mg) ∧ J out (na + 1) (nb + 2) ∧ na + 1 ≤ a.size ∧ nb + 2 ≤ b.size ∧ x + na + nb + 3 ≤ a.size + b.size)
    (Q := fun c z => Alike st z ∧ ∃ r t, c = (some r, t) ∧ G r) (fun x c z _ xn hI => ?_) (fun c z hI => ?_) ⟨Alike.refl _, a.size - 1 - 1, b.size - 2, #[p0], _, by rw [show a.size - 1 - 1 + 1 = a.size - 1 by omega, show b.size - 2 + 2 = b.size by omega], by rw [show a.size - 1 - 1 + 1 = a.size - 1 by omega, show b.size - 2 + 2 = b.size by omega]; exact j0, by omega, by omega, by omega⟩) fun c z hI => ?_)
  · obtain ⟨al, na, nb, out, mg, rfl, j, na1, nb1, xl⟩ := hI
    dsimp only
    -- one by one
    refine wpS_bind (wpS_mono (wpS_forRange (I := fun _ c z => Alike st z ∧ ∃ na' nb' out' ac bc, c = (none, na' + 1, nb' + 2, out', ac, bc) ∧ J out' (na' + 1) (nb' + 2) ∧ na' + 1 ≤ a.size ∧ nb' + 2 ≤ b.size ∧ na' + nb' ≤ na + nb)
      (Q := fun c z => Alike st z ∧ ((∃ r t, c = (some r, t) ∧ G r) ∨ ∃ na' nb' out' ac bc, c = (none, na' + 1, nb' + 2, out', ac, bc) ∧ J out' (na' + 1) (nb' + 2) ∧ na' + 1 ≤ a.size ∧ nb' + 2 ≤ b.size ∧ na' + nb' ≤ na + nb))
      (fun y c z _ _ hI => ?_) (fun c z hI => ?_) ⟨al, _, _, _, _, _, rfl, j, na1, nb1, Nat.le_refl _⟩) fun c z hI => ?_)
    · obtain ⟨al', na', nb', out', ac, bc, rfl, j', na1', nb1', le⟩ := hI
      obtain ⟨pb, eb, mpb⟩ := atb (i := nb' + 1) (by omega)
      obtain ⟨pa, ea, mpa⟩ := ata (i := na') (by omega)
      dsimp only
      refine wpS_bind (el eb (wpS_bind (el ea (wpS_bind (lt_two hC (al'.kind.trans hk) mpb mpa ?_)))))
      dsimp only
      by_cases d : rk pb.1 < rk pa.1
      · rw [if_pos (decide_eq_true d)]
        refine wpS_bind (el ea ?_)
        have j2 := pushA j' ea fun i y hi ey => Int.le_trans (sorted_at' sb (by omega) ey eb) (Int.le_of_lt d)
        by_cases f : na' = 0
        · rw [if_pos (by simpa using f)]
          exact wpS_pure ⟨al', .inl ⟨_, _, rfl, done j2 (.inl f)⟩⟩
        · obtain ⟨m, rfl⟩ : ∃ m, na' = m + 1 := ⟨na' - 1, by omega⟩
          rw [if_neg (by simp)]
          split
          · exact wpS_pure ⟨al', .inr ⟨m, nb', _, _, _, rfl, j2, by omega, nb1', by omega⟩⟩
          · exact wpS_pure ⟨al', m, nb', _, _, _, rfl, j2, by omega, nb1', by omega⟩
      · rw [if_neg (by simpa using d)]
        refine wpS_bind (el eb ?_)
        have j2 := pushB j' eb fun i y hi ey => Int.le_trans (sorted_at' sa (by omega) ey ea) (by omega)
        by_cases f : nb' = 0
        · subst f
          rw [if_pos (by simp)]
          exact wpS_pure ⟨al', .inl ⟨_, _, rfl, firstB j2 rfl⟩⟩
        · obtain ⟨m, rfl⟩ : ∃ m, nb' = m + 1 := ⟨nb' - 1, by omega⟩
          rw [if_neg (by simp)]
          split
          · exact wpS_pure ⟨al', .inr ⟨na', m, _, _, _, rfl, j2, na1', by omega, by omega⟩⟩
          · exact wpS_pure ⟨al', na', m, _, _, _, rfl, j2, na1', by omega, by omega⟩
    · exact ⟨hI.1, .inr hI.2⟩
    obtain ⟨al', hI⟩ := hI
    rcases hI with ⟨r, t, rfl, g⟩ | ⟨na', nb', out', ac, bc, rfl, j', na1', nb1', le⟩
    · exact wpS_pure ⟨al', _, _, rfl, g⟩
    dsimp only
    refine wpS_bind (wpS_lift (wpAny_rule ⟨rfl, ?_⟩))
    refine wpS_bind (wpS_mono (wpS_forRange (I := fun y c z => Alike st z ∧ ∃ n2 k2 o2 mg2 ac bc, c = (none, n2 + 1, k2 + 2, o2, mg2, ac, bc) ∧ J o2 (n2 + 1) (k2 + 2) ∧ n2 + 1 ≤ a.size ∧ k2 + 2 ≤ b.size ∧ n2 + k2 + min y 1 ≤ na + nb)
      (Q := fun c z => Alike st z ∧ ((∃ r t, c = (some r, t) ∧ G r) ∨ ∃ n2 k2 o2 mg2 ac bc, c = (none, n2 + 1, k2 + 2, o2, mg2, ac, bc) ∧ J o2 (n2 + 1) (k2 + 2) ∧ n2 + 1 ≤ a.size ∧ k2 + 2 ≤ b.size ∧ n2 + k2 + 1 ≤ na + nb))
      (fun y c z _ _ hI => ?_) (fun c z hI => ?_) ⟨al', _, _, _, _, _, _, rfl, j', na1', nb1', by omega⟩) fun c z hI => ?_)
    · obtain ⟨al2, n2, k2, o2, mg2, ac2, bc2, rfl, j2, n21, k21, le2⟩ := hI
      obtain ⟨pb, eb, mpb⟩ := atb (i := k2 + 1) (by omega)
      dsimp only
      by_cases m1 : mg2 > 1
      case' pos => rw [if_pos m1]
      case' neg => rw [if_neg m1]
      all_goals
        refine wpS_bind (setG al2 fun z3 al3 => ?_)
        refine wpS_bind (el eb (wpS_bind (gal_r hC (al3.kind.trans hk) mpb ma (by omega) (by omega) (fun i j p q _ ij _ ei ej => sorted_at' sa ij ei ej) fun k kn lt ge => ?_)))
        simp only [Nat.zero_add] at lt ge
        dsimp only
        have j3 := moveA j2 eb kn fun i q ki hi e => Int.le_of_lt (ge i q ki hi e)
        by_cases g : n2 + 1 - k > 0
        case' neg =>
          rw [if_neg g]
          have k0 : k = n2 + 1 := by omega
          subst k0
          have n3 : n2 + 1 ≤ a.size := n21
          have j3' : J o2 (n2 + 1) (k2 + 2) := j2
          have lt3 := lt
          have le3 : n2 + k2 + min y 1 ≤ na + nb := le2
          obtain ⟨m, hm⟩ : ∃ m, m = n2 := ⟨_, rfl⟩
          subst hm
        case' pos =>
          rw [if_pos g]
          by_cases l1 : k = 0
          · rw [if_pos (by simpa using l1)]
            exact wpS_pure ⟨al3, .inl ⟨_, _, rfl, done j3 (.inl l1)⟩⟩
          rw [if_neg (by simpa using l1)]
          obtain ⟨m, hm⟩ : ∃ m, k = m + 1 := ⟨k - 1, by omega⟩
          subst hm
          have n3 : m + 1 ≤ a.size := by omega
          have j3' := j3
          have lt3 := lt
          have le3 : m + k2 + min y 1 ≤ na + nb := by omega
        all_goals
          refine wpS_bind (el eb ?_)
          have j4 := pushB j3' eb lt3
          by_cases f : k2 = 0
          · subst f
            rw [if_pos (by simp)]
            exact wpS_pure ⟨al3, .inl ⟨_, _, rfl, firstB j4 rfl⟩⟩
          obtain ⟨k3, hk3⟩ : ∃ k3, k2 = k3 + 1 := ⟨k2 - 1, by omega⟩
          subst hk3
          rw [if_neg (by simp)]
          obtain ⟨pa, ea, mpa⟩ := ata (Nat.lt_of_succ_le n3)
          refine wpS_bind (el ea (wpS_bind (gal_l hC (al3.kind.trans hk) mpa mb (by omega) (by omega) (fun i j p q _ ij _ ei ej => sorted_at' sb ij ei ej) fun k' kn' lt' ge' => ?_)))
          simp only [Nat.zero_add] at lt' ge'
          dsimp only
          have kn'' : k' ≤ k3 + 1 + 1 := kn'
          have j5 := moveB j4 ea kn'' fun i q ki hi e => ge' i q ki hi e
          by_cases g' : k3 + 1 + 2 - 1 - k' > 0
          case' neg =>
            rw [if_neg g']
            have k0 : k' = k3 + 2 := by omega
            subst k0
            have b5 : k3 + 2 ≤ b.size := by omega
            have j5' : J _ _ (k3 + 2) := j4
            have lt5 := lt'
            have le5 : k3 ≤ k3 := Nat.le_refl _
            obtain ⟨m5, hm5⟩ : ∃ m5, m5 = k3 := ⟨_, rfl⟩
            subst hm5
          case' pos =>
            rw [if_pos g']
            by_cases l1 : k' = 1
            · rw [if_pos (by simpa using l1)]
              exact wpS_pure ⟨al3, .inl ⟨_, _, rfl, firstB j5 l1⟩⟩
            rw [if_neg (by simpa using l1)]
            by_cases l2 : k' = 0
            · rw [if_pos (by simpa using l2)]
              exact wpS_pure ⟨al3, .inl ⟨_, _, rfl, done j5 (.inr l2)⟩⟩
            rw [if_neg (by simpa using l2)]
            obtain ⟨m5, hm5⟩ : ∃ m5, k' = m5 + 2 := ⟨k' - 2, by omega⟩
            subst hm5
            have b5 : m5 + 2 ≤ b.size := by omega
            have j5' := j5
            have lt5 := lt'
            have le5 : m5 ≤ k3 := by omega
          all_goals
            refine wpS_bind (el ea ?_)
            have j6 := pushA j5' ea fun i y hi e => Int.le_of_lt (lt5 i y hi e)
            split
            · rename_i l1
              exact wpS_pure ⟨al3, .inl ⟨_, _, rfl, done j6 (.inl (by simpa using l1))⟩⟩
            · rename_i l1
              obtain ⟨m6, hm6⟩ : ∃ m6, m = m6 + 1 := ⟨m - 1, by simp at l1; omega⟩
              subst hm6
              split
              · exact wpS_pure ⟨al3, .inr ⟨m6, m5, _, _, _, _, rfl, j6, by omega, b5, by omega⟩⟩
              · exact wpS_pure ⟨al3, m6, m5, _, _, _, _, rfl, j6, by omega, b5, by omega⟩
    · obtain ⟨al2, n2, k2, o2, mg2, ac2, bc2, rfl, j2, n21, k21, le2⟩ := hI
      exact ⟨al2, .inr ⟨_, _, _, _, _, _, rfl, j2, n21, k21, by omega⟩⟩
    obtain ⟨al2, hI⟩ := hI
    rcases hI with ⟨r, t, rfl, g⟩ | ⟨n2, k2, o2, mg2, ac2, bc2, rfl, j2, n21, k21, le2⟩
    · exact wpS_pure ⟨al2, _, _, rfl, g⟩
    dsimp only
    exact wpS_bind (setG al2 fun z3 al3 => wpS_pure ⟨al3, _, _, _, _, rfl, j2, n21, k21, by omega⟩)
  · obtain ⟨_, na, nb, out, mg, rfl, j, na1, nb1, xl⟩ := hI
    omega
  · obtain ⟨al, r, t, rfl, g1, g2⟩ := hI
    exact wpS_pure (h _ _ al g1 g2)
end SortAt

/-! Own work. a run from a place on; insertion from a place on. -/
namespace SortAt
open PySem PyProof.Rows
variable {prog : Program} {w : World} {A : Around} {E : Value → Shared → Prop} {s : Shared} {a₀ : Array Keyed} {rk : Value → Int}
/-- the same things; what lies ahead of lo is as it was -/
structure PB (a₀ : Array Keyed) (lo : Nat) (st z : SortSt) : Prop where
  perm : (arrOf z).Perm a₀
  kind : kindOf z = oneType'
  failed : failedOf z = none
  pend : pendingOf z = pendingOf st
  low : ∀ k, k < lo → (arrOf z)[k]? = (arrOf st)[k]?
theorem PB.size {lo : Nat} {st z : SortSt} (h : PB a₀ lo st z) : (arrOf z).size = a₀.size := h.perm.size_eq
theorem PB.mirror {lo i j : Nat} {st z : SortSt} (h : PB a₀ lo st z) (hj : j ≤ a₀.size) (li : lo ≤ i) : PB a₀ lo st (setArr z (mirror (arrOf z) i j ((j - i) / 2))) :=
  ⟨(mirror_perm _ _ _ _).trans h.perm, h.kind, h.failed, h.pend, fun k hk => by
    show (PyProof.Rows.mirror (arrOf z) i j ((j - i) / 2))[k]? = _
    rw [getElem?_mirror_all (by rw [h.size]; exact hj), if_neg (by omega)]; exact h.low k hk⟩
theorem PB.bubble {lo i d : Nat} {st z : SortSt} (h : PB a₀ lo st z) (hi : i < a₀.size) (hd : d ≤ i) (li : lo ≤ i - d) : PB a₀ lo st (setArr z (bubble (arrOf z) i d)) :=
  ⟨(bubble_perm _ _ _).trans h.perm, h.kind, h.failed, h.pend, fun k hk => by
    show (PyProof.Rows.bubble (arrOf z) i d)[k]? = _
    rw [getElem?_bubble (by rw [h.size]; exact hi) d hd, if_neg (by omega), if_neg (by omega)]; exact h.low k hk⟩
theorem lt_ix (hC : Cmp prog w A s rk a₀) {st : SortSt} (hp : (arrOf st).Perm a₀) (hk : kindOf st = oneType') {i j : Nat} (hi : i < a₀.size) (hj : j < a₀.size) {Q : Option Bool → SortSt → Prop}
    (h : Q (some (decide (R rk (arrOf st) i < R rk (arrOf st) j))) st) : wpS (model prog w) A E s (ltAt' i j) Q st := by
  have has : ∀ {i : Nat}, i < a₀.size → ∃ p, p ∈ a₀.toList ∧ (arrOf st)[i]? = some p ∧ R rk (arrOf st) i = rk p.1 := fun {i} hi => by
    have hi' : i < (arrOf st).size := by rw [hp.size_eq]; exact hi
    have e : (arrOf st)[i]? = some (arrOf st)[i] := getElem?_pos _ i hi'
    exact ⟨_, (Array.perm_iff_toList_perm.mp hp).mem_iff.mp (by simp), e, by unfold R; rw [e]; rfl⟩
  obtain ⟨p, mp, ep, rp⟩ := has hi
  obtain ⟨q, mq, eq, rq⟩ := has hj
  rw [rp, rq] at h
  rw [ltAt'_eq]
  refine wpS_bind (wpS_get ?_)
  exact wpS_bind (el ep (wpS_bind (el eq (lt_two hC hk mp mq h))))
theorem PB.turn {lo k : Nat} {st y : SortSt} (B : PB a₀ lo st y) (hk : lo + k ≤ a₀.size) (v : Down (fun i => R rk (arrOf y) (lo + i)) k) :
    Up (fun i => R rk (arrOf (setArr y (PyProof.Rows.mirror (arrOf y) lo (lo + k) ((lo + k - lo) / 2)))) (lo + i)) k := fun i j a b => by
  have hz : lo + k ≤ (arrOf y).size := by rw [B.size]; exact hk
  show R rk (PyProof.Rows.mirror (arrOf y) lo (lo + k) ((lo + k - lo) / 2)) (lo + i) ≤ R rk (PyProof.Rows.mirror (arrOf y) lo (lo + k) ((lo + k - lo) / 2)) (lo + j)
  rw [R_mirror hz, R_mirror hz, if_pos (by omega), if_pos (by omega)]
  have := v (k - 1 - j) (k - 1 - i) (by omega) (by omega)
  dsimp only at this
  rw [show lo + (k - 1 - j) = lo + (lo + k) - 1 - (lo + j) by omega, show lo + (k - 1 - i) = lo + (lo + k) - 1 - (lo + i) by omega] at this
  exact this
theorem run_lo (hC : Cmp prog w A s rk a₀) {st : SortSt} {lo n : Nat} (hB : PB a₀ lo st st) (hn : lo + n ≤ a₀.size) (h1 : 1 ≤ n) {Q : Option Nat → SortSt → Prop}
    (h : ∀ k z, PB a₀ lo st z → 1 ≤ k → k ≤ n → Up (fun i => R rk (arrOf z) (lo + i)) k → Q (some k) z) : wpS (model prog w) A E s (countRun' lo n) Q st := by
  rw [countRun'_eq]
  refine wpS_bind (wpS_mono (wpS_forRange (I := fun x c z => z = st ∧ c = (none, x) ∧ Up (fun i => R rk (arrOf st) (lo + i)) x) (Q := fun c z => z = st ∧ ∃ m, c = (none, m) ∧ 1 ≤ m ∧ m ≤ n ∧ Up (fun i => R rk (arrOf st) (lo + i)) m ∧ (m = n ∨ R rk (arrOf st) (lo + m) < R rk (arrOf st) (lo + m - 1)))
    (fun x c z ax xn hI => ?_) (fun c z hI => ?_) ⟨rfl, rfl, Up.one _⟩) fun c z hI => ?_)
  · obtain ⟨rfl, rfl, v⟩ := hI
    refine wpS_bind (lt_ix hC hB.perm hB.kind (by omega) (by omega) ?_)
    dsimp only
    by_cases c : R rk (arrOf z) (lo + x) < R rk (arrOf z) (lo + x - 1)
    · rw [decide_eq_true c, if_pos rfl]
      exact wpS_pure ⟨rfl, x, rfl, ax, by omega, v, .inr c⟩
    · rw [decide_eq_false c, if_neg (by simp)]
      exact wpS_pure ⟨rfl, rfl, v.more (.inr (by show R rk _ (lo + (x - 1)) ≤ _; rw [show lo + (x - 1) = lo + x - 1 by omega]; omega))⟩
  · obtain ⟨rfl, rfl, v⟩ := hI
    have e : max 1 n = n := by omega
    rw [e] at v ⊢
    exact ⟨rfl, n, rfl, h1, Nat.le_refl _, v, .inl rfl⟩
  obtain ⟨rfl, m, rfl, m1, mn, u, o⟩ := hI
  dsimp only
  by_cases c : m = n
  · rw [if_pos (by simpa using c)]
    exact wpS_pure (h m z hB m1 mn u)
  rw [if_neg (by simpa using c)]
  have lt : R rk (arrOf z) (lo + m) < R rk (arrOf z) (lo + m - 1) := o.resolve_left c
  by_cases d : m > 1
  case' pos =>
    rw [if_pos d]
    refine wpS_bind (lt_ix hC hB.perm hB.kind (by omega) (by omega) ?_)
    dsimp only
    by_cases e : R rk (arrOf z) lo < R rk (arrOf z) (lo + m - 1)
    · rw [if_pos (decide_eq_true e)]
      exact wpS_pure (h m z hB m1 mn u)
    rw [if_neg (by simpa using e)]
    have eq : ∀ k, lo ≤ k → k < lo + m → R rk (arrOf z) k = R rk (arrOf z) (lo + m - 1) := fun k lk km => by
      have p := u 0 (k - lo) (by omega) (by omega)
      have q := u (k - lo) (m - 1) (by omega) (by omega)
      dsimp only at p q
      rw [show lo + 0 = lo by omega, show lo + (k - lo) = k by omega] at p
      rw [show lo + (k - lo) = k by omega, show lo + (m - 1) = lo + m - 1 by omega] at q
      omega
    refine wpS_bind (wpS_reverse ?_)
    have B2 := hB.mirror (i := lo) (j := lo + m) (by omega) (Nat.le_refl _)
    have dn : Down (fun i => R rk (arrOf (setArr z (mirror (arrOf z) lo (lo + m) ((lo + m - lo) / 2)))) (lo + i)) (m + 1) := by
      refine Down.same (f := fun i => R rk (arrOf z) (lo + i)) ?_ fun i => R_turn (by rw [hB.size]; omega) eq _
      refine Down.more (fun i j a b => ?_) (.inr (by show R rk _ (lo + m) ≤ R rk _ (lo + (m - 1)); rw [show lo + (m - 1) = lo + m - 1 by omega]; omega))
      show R rk _ (lo + j) ≤ R rk _ (lo + i)
      rw [eq (lo + i) (by omega) (by omega), eq (lo + j) (by omega) (by omega)]
      exact Int.le_refl _
  case' neg =>
    rw [if_neg d]
    have B2 := hB
    have dn : Down (fun i => R rk (arrOf z) (lo + i)) (m + 1) := by
      have e : m = 1 := by omega
      subst e
      exact (Down.one _).more (.inr (by show R rk _ (lo + 1) ≤ R rk _ (lo + (1 - 1)); rw [show lo + (1 - 1) = lo + 1 - 1 by omega]; omega))
  all_goals
    refine wpS_bind (wpS_lift (wpAny_rule ⟨rfl, ?_⟩))
    refine wpS_bind (wpS_mono (wpS_forRange (I := fun x c y => ∃ e, c = (none, x, e) ∧ PB a₀ lo z y ∧ Down (fun i => R rk (arrOf y) (lo + i)) x ∧ e + 1 ≤ x ∧ ∀ i, lo + x - (e + 1) ≤ i → i < lo + x → R rk (arrOf y) i = R rk (arrOf y) (lo + x - 1))
      (Q := fun c y => ∃ k e, c = (none, k, e) ∧ PB a₀ lo z y ∧ m + 1 ≤ k ∧ k ≤ n ∧ Down (fun i => R rk (arrOf y) (lo + i)) k ∧ e + 1 ≤ k ∧ ∀ i, lo + k - (e + 1) ≤ i → i < lo + k → R rk (arrOf y) i = R rk (arrOf y) (lo + k - 1))
      (fun x c y ax xn hI => ?_) (fun c y hI => ?_) ⟨0, rfl, B2, dn, by omega, fun i a b => by rw [show i = lo + (m + 1) - 1 by omega]⟩) fun c y hI => ?_)
    · obtain ⟨e, rfl, By, v, he, eq⟩ := hI
      have hz : lo + x ≤ (arrOf y).size := by rw [By.size]; omega
      dsimp only
      refine wpS_bind (lt_ix hC By.perm By.kind (by omega) (by omega) ?_)
      dsimp only
      by_cases c : R rk (arrOf y) (lo + x) < R rk (arrOf y) (lo + x - 1)
      · rw [if_pos (decide_eq_true c)]
        have v' := v.more (.inr (by show R rk _ (lo + x) ≤ R rk _ (lo + (x - 1)); rw [show lo + (x - 1) = lo + x - 1 by omega]; omega))
        by_cases d : e > 0
        · rw [if_pos d]
          exact wpS_bind (wpS_reverse (wpS_pure ⟨0, rfl, By.mirror (by omega) (by omega), v'.same (fun i => R_turn hz eq _), by omega, fun i a b => by rw [show i = lo + (x + 1) - 1 by omega]⟩))
        · rw [if_neg d]
          exact wpS_pure ⟨0, rfl, By, v', by omega, fun i a b => by rw [show i = lo + (x + 1) - 1 by omega]⟩
      · rw [if_neg (by simpa using c)]
        refine wpS_bind (lt_ix hC By.perm By.kind (by omega) (by omega) ?_)
        dsimp only
        by_cases d : R rk (arrOf y) (lo + x - 1) < R rk (arrOf y) (lo + x)
        · rw [if_pos (decide_eq_true d)]
          exact wpS_pure ⟨x, e, rfl, By, ax, by omega, v, he, eq⟩
        · rw [if_neg (by simpa using d)]
          refine wpS_pure ⟨e + 1, rfl, By, v.more (.inr (by show R rk _ (lo + x) ≤ R rk _ (lo + (x - 1)); rw [show lo + (x - 1) = lo + x - 1 by omega]; omega)), by omega, fun i a b => ?_⟩
          rw [show lo + (x + 1) - 1 = lo + x by omega]
          by_cases ix : i = lo + x
          · rw [ix]
          · have := eq i (by omega) (by omega); omega
    · obtain ⟨e, rfl, By, v, he, eq⟩ := hI
      have q : max (m + 1) n = n := by omega
      rw [q] at v he eq ⊢
      exact ⟨n, e, rfl, By, by omega, Nat.le_refl _, v, he, eq⟩
    obtain ⟨k, e, rfl, By, mk, kn, v, he, eq⟩ := hI
    have hz : lo + k ≤ (arrOf y).size := by rw [By.size]; omega
    dsimp only
    by_cases d' : e > 0
    case' pos =>
      rw [if_pos d']
      refine wpS_bind (wpS_reverse ?_)
      have B3 := By.mirror (i := lo + k - (e + 1)) (j := lo + k) (by omega) (by omega)
      have v3 : Down (fun i => R rk (arrOf (setArr y (mirror (arrOf y) (lo + k - (e + 1)) (lo + k) ((lo + k - (lo + k - (e + 1))) / 2)))) (lo + i)) k := v.same fun i => R_turn hz eq _
    case' neg =>
      rw [if_neg d']
      have B3 := By
      have v3 := v
    all_goals
      refine wpS_bind (wpS_reverse ?_)
      have B4 := B3.mirror (i := lo) (j := lo + k) (by omega) (Nat.le_refl _)
      have u4 := B3.turn (by omega) v3
      refine wpS_bind (wpS_mono (wpS_forRange (I := fun x c y' => c = (none, x) ∧ PB a₀ lo z y' ∧ Up (fun i => R rk (arrOf y') (lo + i)) x) (Q := fun c y' => ∃ k', c = (none, k') ∧ PB a₀ lo z y' ∧ 1 ≤ k' ∧ k' ≤ n ∧ Up (fun i => R rk (arrOf y') (lo + i)) k')
        (fun x c y' ax xn hI => ?_) (fun c y' hI => ?_) ⟨rfl, B4, u4⟩) fun c y' hI => ?_)
      · obtain ⟨rfl, B5, u5⟩ := hI
        refine wpS_bind (lt_ix hC B5.perm B5.kind (by omega) (by omega) ?_)
        dsimp only
        by_cases c : R rk (arrOf y') (lo + x) < R rk (arrOf y') (lo + x - 1)
        · rw [decide_eq_true c, if_pos rfl]
          exact wpS_pure ⟨x, rfl, B5, by omega, by omega, u5⟩
        · rw [decide_eq_false c, if_neg (by simp)]
          exact wpS_pure ⟨rfl, B5, u5.more (.inr (by show R rk _ (lo + (x - 1)) ≤ R rk _ (lo + x); rw [show lo + (x - 1) = lo + x - 1 by omega]; omega))⟩
      · obtain ⟨rfl, B5, u5⟩ := hI
        have q : max k n = n := by omega
        rw [q] at u5 ⊢
        exact ⟨n, rfl, B5, h1, Nat.le_refl _, u5⟩
      obtain ⟨k', rfl, B5, k1, kn', u5⟩ := hI
      exact wpS_pure (h k' _ B5 k1 kn' u5)
/-- putting the rest in, one by one, from lo on -/
theorem ins_lo (hC : Cmp prog w A s rk a₀) {st : SortSt} {lo n k : Nat} (hB : PB a₀ lo st st) (hn : lo + n ≤ a₀.size) (kn : k ≤ n) (u : Up (fun i => R rk (arrOf st) (lo + i)) k) {Q : Bool → SortSt → Prop}
    (h : ∀ z, PB a₀ lo st z → Up (fun i => R rk (arrOf z) (lo + i)) n → Q true z) : wpS (model prog w) A E s (binarySort' lo n k) Q st := by
  rw [binarySort'_eq]
  have u1 : Up (fun i => R rk (arrOf st) (lo + i)) (min (max k 1) n) := fun i j a b => by
    by_cases c : k = 0
    · have : i = j := by omega
      subst this; exact Int.le_refl _
    · exact u i j a (by omega)
  refine wpS_bind (wpS_mono (wpS_forRange (I := fun x c z => c = (none, ()) ∧ PB a₀ lo st z ∧ Up (fun i => R rk (arrOf z) (lo + i)) (min x n)) (Q := fun c z => c = (none, ()) ∧ PB a₀ lo st z ∧ Up (fun i => R rk (arrOf z) (lo + i)) n)
    (fun x c z ax xn hI => ?_) (fun c z hI => ?_) ⟨rfl, hB, u1⟩) fun c z hI => ?_)
  · obtain ⟨rfl, Bz, v⟩ := hI
    rw [show min x n = x by omega] at v
    have hx : lo + x < a₀.size := by omega
    refine wpS_bind (wpS_mono (wpS_forRange (I := fun y c z' => z' = z ∧ ∃ l r, c = (none, l, r) ∧ l ≤ r ∧ r ≤ x ∧ r - l ≤ x - y ∧ (∀ i, i < l → R rk (arrOf z) (lo + i) ≤ R rk (arrOf z) (lo + x)) ∧ ∀ i, r ≤ i → i < x → R rk (arrOf z) (lo + x) < R rk (arrOf z) (lo + i))
      (Q := fun c z' => z' = z ∧ ∃ l, c = (none, l, l) ∧ l ≤ x ∧ (∀ i, i < l → R rk (arrOf z) (lo + i) ≤ R rk (arrOf z) (lo + x)) ∧ ∀ i, l ≤ i → i < x → R rk (arrOf z) (lo + x) < R rk (arrOf z) (lo + i))
      (fun y c z' _ yx hJ => ?_) (fun c z' hJ => ?_) ⟨rfl, 0, x, rfl, by omega, by omega, by omega, fun i a => by omega, fun i a b => by omega⟩) fun c z' hJ => ?_)
    · obtain ⟨rfl, l, r, rfl, lr, rx, sm, lw, hg⟩ := hJ
      dsimp only
      by_cases g : l ≥ r
      · rw [if_pos g]
        have e : r = l := by omega
        subst e
        exact wpS_pure ⟨rfl, r, rfl, rx, lw, hg⟩
      · rw [if_neg g]
        refine wpS_bind (lt_ix hC Bz.perm Bz.kind hx (by omega) ?_)
        dsimp only
        by_cases d : R rk (arrOf z') (lo + x) < R rk (arrOf z') (lo + (l + r) / 2)
        · rw [decide_eq_true d, if_pos rfl]
          refine wpS_pure ⟨rfl, l, (l + r) / 2, rfl, by omega, by omega, by omega, lw, fun i a b => ?_⟩
          have := v _ _ a b
          dsimp only at this; omega
        · rw [decide_eq_false d, if_neg (by simp)]
          refine wpS_pure ⟨rfl, (l + r) / 2 + 1, r, rfl, by omega, by omega, by omega, fun i a => ?_, hg⟩
          have := v i ((l + r) / 2) (by omega) (by omega)
          dsimp only at this; omega
    · obtain ⟨rfl, l, r, rfl, lr, rx, sm, lw, hg⟩ := hJ
      have e : r = l := by omega
      subst e
      exact ⟨rfl, r, rfl, rx, lw, hg⟩
    · obtain ⟨rfl, l, rfl, lx, lw, hg⟩ := hJ
      show wpS _ _ _ _ (do moveDown' (lo + x) (lo + l); pure (ForInStep.yield (none, ()))) _ _
      rw [moveDown'_eq]
      refine wpS_bind (wpS_modify (wpS_pure ⟨rfl, Bz.bubble hx (by omega) (by omega), ?_⟩))
      rw [show min (x + 1) n = x + 1 by omega]
      have hz : lo + x < (arrOf z').size := by rw [Bz.size]; exact hx
      intro i j a b
      show R rk (bubble (arrOf z') (lo + x) (lo + x - (lo + l))) (lo + i) ≤ R rk (bubble (arrOf z') (lo + x) (lo + x - (lo + l))) (lo + j)
      rw [R_bubble hz (by omega), R_bubble hz (by omega), show lo + x - (lo + x - (lo + l)) = lo + l by omega]
      have v' : ∀ i j, i ≤ j → j < x → R rk (arrOf z') (lo + i) ≤ R rk (arrOf z') (lo + j) := v
      by_cases il : i = l
      · rw [if_pos (by omega)]
        by_cases jl : j = l
        · rw [if_pos (by omega)]; exact Int.le_refl _
        · rw [if_neg (by omega), if_pos (by omega)]
          have := hg (j - 1) (by omega) (by omega)
          rw [show lo + (j - 1) = lo + j - 1 by omega] at this; omega
      · rw [if_neg (by omega)]
        by_cases i2 : l < i ∧ i ≤ x
        · rw [if_pos (by omega), if_neg (by omega), if_pos (by omega)]
          have := v' (i - 1) (j - 1) (by omega) (by omega)
          rw [show lo + (j - 1) = lo + j - 1 by omega, show lo + (i - 1) = lo + i - 1 by omega] at this; exact this
        · rw [if_neg (by omega)]
          by_cases jl : j = l
          · rw [if_pos (by omega)]; exact lw i (by omega)
          · rw [if_neg (by omega)]
            by_cases j2 : l < j ∧ j ≤ x
            · rw [if_pos (by omega)]
              have := v' i (j - 1) (by omega) (by omega)
              rw [show lo + (j - 1) = lo + j - 1 by omega] at this; exact this
            · rw [if_neg (by omega)]; exact v' _ _ a (by omega)
  · obtain ⟨rfl, Bz, v⟩ := hI
    rw [show min (max (max k 1) n) n = n by omega] at v
    exact ⟨rfl, Bz, v⟩
  · obtain ⟨rfl, Bz, v⟩ := hI
    exact wpS_pure (h z Bz v)
end SortAt

/-! Own work. two runs merged where they lie; then all of the sort, for any number of things. -/
namespace SortAt
open PySem PyProof.Rows
variable {prog : Program} {w : World} {A : Around} {E : Value → Shared → Prop} {s : Shared} {a₀ : Array Keyed} {rk : Value → Int}
abbrev So (rk : Value → Int) (l : List Keyed) : Prop := l.Pairwise fun x y => rr rk x ≤ rr rk y
theorem wpS_put {M : Model} {σ : Type} {t st : σ} {Q : PUnit → σ → Prop} (h : Q ⟨⟩ t) : wpS M A E s (set t : StateT σ Sem PUnit) Q st := by
  unfold wpS; rw [StateT.run_set]; exact wpAny_pure ⟨rfl, h⟩
theorem put_to {M : Model} {σ : Type} {t st : σ} {Q : PUnit → σ → Prop} (h : ∀ z, z = t → Q ⟨⟩ z) : wpS M A E s (set t : StateT σ Sem PUnit) Q st := wpS_put (h _ rfl)
theorem fold_set (off : Nat) : ∀ (l : List Keyed) (arr : Array Keyed) (n : Nat), off + n + l.length ≤ arr.size →
    ((l.zipIdx n).foldl (fun a (x : Keyed × Nat) => a.setIfInBounds (off + x.2) x.1) arr).toList = arr.toList.take (off + n) ++ (l ++ arr.toList.drop (off + n + l.length))
  | [], arr, n, _ => by simp
  | p :: l, arr, n, h => by
    rw [List.length_cons] at h
    rw [List.zipIdx_cons, List.foldl_cons, fold_set off l _ (n + 1) (by rw [Array.size_setIfInBounds]; omega), Array.toList_setIfInBounds]
    have hl : off + n < arr.toList.length := by rw [Array.length_toList]; omega
    rw [show off + (n + 1) = off + n + 1 by omega, List.take_succ, List.getElem?_set_self hl, List.take_set_of_le (Nat.le_refl _), List.drop_set_of_lt (by omega), List.length_cons, show off + n + 1 + l.length = off + n + (l.length + 1) by omega]
    simp
theorem mrg (hC : Cmp prog w A s rk a₀) {st : SortSt} (hp : (arrOf st).Perm a₀) (hk : kindOf st = oneType') (hf : failedOf st = none) {pre post : List (Nat × Nat × Nat)} {sa na pw sb nb q : Nat} (e : (pendingOf st).toList = pre ++ (sa, na, pw) :: (sb, nb, q) :: post)
    {P la lb S : List Keyed} (ha : (arrOf st).toList = P ++ (la ++ (lb ++ S))) (h1 : sa = P.length) (h2 : na = la.length) (h3 : sb = sa + na) (h4 : nb = lb.length) (l1 : 0 < na) (l2 : 0 < nb) (s1 : So rk la) (s2 : So rk lb) {Q : Bool → SortSt → Prop}
    (h : ∀ z lm, (arrOf z).toList = P ++ (lm ++ S) → lm.Perm (la ++ lb) → So rk lm → (pendingOf z).toList = pre ++ (sa, na + nb, pw) :: post → kindOf z = oneType' → failedOf z = none → Q true z) : wpS (model prog w) A E s (mergeAt' pre.length) Q st := by
  have p1 : (pendingOf st)[pre.length]? = some (sa, na, pw) := by rw [← Array.getElem?_toList, e, List.getElem?_append_right (Nat.le_refl _), Nat.sub_self]; rfl
  have p2 : (pendingOf st)[pre.length + 1]? = some (sb, nb, q) := by rw [← Array.getElem?_toList, e, List.getElem?_append_right (by omega), show pre.length + 1 - pre.length = 1 by omega]; rfl
  have pz : (((pendingOf st).setIfInBounds pre.length (sa, na + nb, pw)).eraseIdxIfInBounds (pre.length + 1)).toList = pre ++ (sa, na + nb, pw) :: post := by
    have hsz : (pendingOf st).size = pre.length + (post.length + 2) := by rw [← Array.length_toList, e, List.length_append]; rfl
    rw [Array.eraseIdxIfInBounds, dif_pos (by rw [Array.size_setIfInBounds]; omega), Array.toList_eraseIdx, Array.toList_setIfInBounds, e]
    rw [List.set_append_right _ _ (Nat.le_refl _), Nat.sub_self, List.eraseIdx_append_of_length_le (by omega), show pre.length + 1 - pre.length = 1 by omega]
    rfl
  have mem : ∀ p ∈ (arrOf st).toList, p ∈ a₀.toList := fun p m => (Array.perm_iff_toList_perm.mp hp).mem_iff.mp m
  have sz : (arrOf st).size = P.length + (la.length + (lb.length + S.length)) := by rw [← Array.length_toList, ha, List.length_append, List.length_append, List.length_append]
  have ata : ∀ {j : Nat}, j < la.length → (arrOf st)[sa + j]? = la[j]? := fun {j} hj => by
    rw [← Array.getElem?_toList, ha, List.getElem?_append_right (by omega), show sa + j - P.length = j by omega, List.getElem?_append_left hj]
  have atb : ∀ {j : Nat}, j < lb.length → (arrOf st)[sb + j]? = lb[j]? := fun {j} hj => by
    rw [← Array.getElem?_toList, ha, List.getElem?_append_right (by omega), List.getElem?_append_right (by omega), show sb + j - P.length - la.length = j by omega, List.getElem?_append_left hj]
  have srt : ∀ {l : List Keyed}, So rk l → ∀ {i j : Nat} {p q : Keyed}, i ≤ j → l[i]? = some p → l[j]? = some q → rk p.1 ≤ rk q.1 := fun {l} hs {i j p q} ij ei ej => by
    by_cases c : i = j
    · subst c; rw [ei] at ej; cases ej; exact Int.le_refl _
    · obtain ⟨hi, rfl⟩ := List.getElem?_eq_some_iff.mp ei
      obtain ⟨hj, rfl⟩ := List.getElem?_eq_some_iff.mp ej
      exact List.pairwise_iff_getElem.mp hs i j hi hj (by omega)
  -- the two keys
  have eb : (arrOf st)[sb]? = some lb[0] := by have := atb (j := 0) (by omega); rw [Nat.add_zero] at this; rw [this]; exact List.getElem?_eq_getElem (by omega)
  have mb : lb[0] ∈ a₀.toList := mem _ (Array.mem_toList_iff.mpr (Array.mem_of_getElem? eb))
  have ea : (arrOf st)[sa + (na - 1)]? = some la[na - 1] := by rw [ata (by omega)]; exact List.getElem?_eq_getElem (by omega)
  have mA : la[na - 1] ∈ a₀.toList := mem _ (Array.mem_toList_iff.mpr (Array.mem_of_getElem? ea))
  have whole : ∀ z, (arrOf z) = arrOf st → (pendingOf z).toList = pre ++ (sa, na + nb, pw) :: post → kindOf z = oneType' → failedOf z = none → (∀ x ∈ la, ∀ y ∈ lb, rk x.1 ≤ rk y.1) → Q true z := fun z e1 e2 e3 e4 le =>
    h z (la ++ lb) (by rw [e1, ha, List.append_assoc la lb S]) (List.Perm.refl _) (List.pairwise_append.mpr ⟨s1, s2, le⟩) e2 e3 e4
  refine wpS_bind (wpS_get ?_)
  rw [p1, p2]
  dsimp only
  refine wpS_bind (put_to fun st1 hst => ?_)
  have t1 : arrOf st1 = arrOf st := by rw [hst]
  have t2 : (pendingOf st1).toList = pre ++ (sa, na + nb, pw) :: post := by rw [hst]; exact pz
  have t3 : kindOf st1 = oneType' := by rw [hst]; exact hk
  have t4 : failedOf st1 = none := by rw [hst]; exact hf
  refine wpS_bind (el eb (wpS_bind (gal_r (a := arrOf st) (base := sa) (n := na) (hint := 0) hC t3 mb mem l1 (by omega) (fun i j p q bi ij jn ei ej => ?_) fun k kn lt ge => ?_)))
  · rw [show i = sa + (i - sa) by omega, ata (by omega)] at ei
    rw [show j = sa + (j - sa) by omega, ata (by omega)] at ej
    exact srt s1 (by omega) ei ej
  dsimp only
  have aLe : ∀ x ∈ la.take k, ∀ y ∈ lb, rk x.1 ≤ rk y.1 := fun x hx y hy => by
    obtain ⟨i, hi, rfl⟩ := List.mem_iff_getElem.mp hx
    rw [List.length_take] at hi
    obtain ⟨j, hj, rfl⟩ := List.mem_iff_getElem.mp hy
    rw [List.getElem_take]
    have z := lt i la[i] (by omega) (by rw [ata (by omega)]; exact List.getElem?_eq_getElem (by omega))
    exact Int.le_trans z (srt s2 (Nat.zero_le j) (List.getElem?_eq_getElem (by omega)) (List.getElem?_eq_getElem hj))
  have bLt : ∀ x ∈ la.drop k, rk lb[0].1 ≤ rk x.1 := fun x hx => by
    obtain ⟨i, hi, rfl⟩ := List.mem_iff_getElem.mp hx
    rw [List.length_drop] at hi
    rw [List.getElem_drop]
    exact Int.le_of_lt (ge (k + i) la[k + i] (by omega) (by omega) (by rw [ata (by omega)]; exact List.getElem?_eq_getElem (by omega)))
  by_cases c1 : na - k = 0
  · rw [if_pos (by simpa using c1)]
    refine wpS_pure (whole st1 t1 t2 t3 t4 fun x hx y hy => aLe x (by rw [List.take_of_length_le (by omega)]; exact hx) y hy)
  rw [if_neg (by simpa using c1)]
  have ea' : (arrOf st)[sa + k + (na - k) - 1]? = some la[na - 1] := by rw [show sa + k + (na - k) - 1 = sa + (na - 1) by omega]; exact ea
  refine wpS_bind (el ea' (wpS_bind (gal_l (a := arrOf st) (base := sb) (n := nb) (hint := nb - 1) hC t3 mA mem (by omega) (by omega) (fun i j p q bi ij jn ei ej => ?_) fun k' kn' lt' ge' => ?_)))
  · rw [show i = sb + (i - sb) by omega, atb (by omega)] at ei
    rw [show j = sb + (j - sb) by omega, atb (by omega)] at ej
    exact srt s2 (by omega) ei ej
  dsimp only
  have lastA : ∀ x ∈ la, rk x.1 ≤ rk la[na - 1].1 := fun x hx => by
    obtain ⟨i, hi, rfl⟩ := List.mem_iff_getElem.mp hx
    exact srt s1 (show i ≤ na - 1 by omega) (List.getElem?_eq_getElem hi) (List.getElem?_eq_getElem (by omega))
  have bGe : ∀ y ∈ lb.drop k', rk la[na - 1].1 ≤ rk y.1 := fun y hy => by
    obtain ⟨i, hi, rfl⟩ := List.mem_iff_getElem.mp hy
    rw [List.length_drop] at hi
    rw [List.getElem_drop]
    exact ge' (k' + i) lb[k' + i] (by omega) (by omega) (by rw [atb (by omega)]; exact List.getElem?_eq_getElem (by omega))
  have bLe : ∀ y ∈ lb.take k', rk y.1 ≤ rk la[na - 1].1 := fun y hy => by
    obtain ⟨i, hi, rfl⟩ := List.mem_iff_getElem.mp hy
    rw [List.length_take] at hi
    rw [List.getElem_take]
    exact Int.le_of_lt (lt' i lb[i] (by omega) (by rw [atb (by omega)]; exact List.getElem?_eq_getElem (by omega)))
  by_cases c2 : k' = 0
  · rw [if_pos (by simpa using c2)]
    refine wpS_pure (whole st1 t1 t2 t3 t4 fun x hx y hy => Int.le_trans (lastA x hx) (bGe y (by rw [c2]; exact hy)))
  rw [if_neg (by simpa using c2)]
  have xl : ((arrOf st).extract (sa + k) sb).toList = la.drop k := by
    rw [ext_list, ha, show sa + k = P.length + k by omega, List.drop_append, List.drop_of_length_le (by omega), List.nil_append, show P.length + k - P.length = k by omega, List.drop_append_of_le_length (by omega)]
    rw [List.take_append_of_le_length (by rw [List.length_drop]; omega), List.take_of_length_le (by rw [List.length_drop]; omega)]
  have yl : ((arrOf st).extract sb (sb + k')).toList = lb.take k' := by
    rw [ext_list, ha, show sb = P.length + la.length by omega, ← List.append_assoc, List.drop_append, List.drop_of_length_le (by rw [List.length_append]; exact Nat.le_refl _), List.nil_append, List.length_append, Nat.sub_self, List.drop_zero, Nat.add_sub_cancel_left, List.take_append_of_le_length (by omega)]
  have m1 : ∀ p ∈ ((arrOf st).extract (sa + k) sb).toList, p ∈ a₀.toList := fun p m => mem p (by rw [xl] at m; rw [ha]; exact List.mem_append_right _ (List.mem_append_left _ (List.mem_of_mem_drop m)))
  have m2 : ∀ p ∈ ((arrOf st).extract sb (sb + k')).toList, p ∈ a₀.toList := fun p m => mem p (by rw [yl] at m; rw [ha]; exact List.mem_append_right _ (List.mem_append_right _ (List.mem_append_left _ (List.mem_of_mem_take m))))
  have z1 : So rk ((arrOf st).extract (sa + k) sb).toList := by rw [xl]; exact s1.sublist (List.drop_sublist _ _)
  have z2 : So rk ((arrOf st).extract sb (sb + k')).toList := by rw [yl]; exact s2.sublist (List.take_sublist _ _)
  have x1 : ((arrOf st).extract (sa + k) sb).size = na - k := by rw [← Array.length_toList, xl, List.length_drop, h2]
  have y1 : ((arrOf st).extract sb (sb + k')).size = k' := by rw [← Array.length_toList, yl, List.length_take]; omega
  have fst : ∀ p, ((arrOf st).extract sb (sb + k'))[0]? = some p → ∀ y ∈ ((arrOf st).extract (sa + k) sb).toList, rk p.1 ≤ rk y.1 := fun p ep y hy => by
    rw [← Array.getElem?_toList, yl, List.getElem?_take_of_lt (by omega), List.getElem?_eq_getElem (by omega)] at ep
    cases ep
    rw [xl] at hy
    exact bLt y hy
  have lst : ∀ p, ((arrOf st).extract (sa + k) sb)[((arrOf st).extract (sa + k) sb).size - 1]? = some p → ∀ y ∈ ((arrOf st).extract sb (sb + k')).toList, rk y.1 ≤ rk p.1 := fun p ep y hy => by
    rw [← Array.getElem?_toList, xl, x1, List.getElem?_drop, show k + (na - k - 1) = na - 1 by omega, List.getElem?_eq_getElem (by omega)] at ep
    cases ep
    rw [yl] at hy
    exact bLe y hy
  have fin : ∀ (M : Array Keyed) (z : SortSt), Alike st1 z → M.toList.Perm (((arrOf st).extract (sa + k) sb).toList ++ ((arrOf st).extract sb (sb + k')).toList) → So rk M.toList →
      Q true (SortSt.mk' (kindOf z) (M.toList.zipIdx.foldl (fun a (x : Keyed × Nat) => a.setIfInBounds (sa + k + x.2) x.1) (arrOf z)) (pendingOf z) (gallopOf z) (failedOf z)) ∧ failedOf z = none := fun M z al pm so => by
    obtain ⟨g, rfl⟩ := al
    rw [xl, yl] at pm
    refine ⟨h _ (la.take k ++ (M.toList ++ lb.drop k')) ?_ ?_ ?_ t2 t3 t4, t4⟩
    · show (M.toList.zipIdx.foldl (fun a (x : Keyed × Nat) => a.setIfInBounds (sa + k + x.2) x.1) (arrOf st1)).toList = _
      have ml : M.toList.length = na - k + k' := by rw [pm.length_eq, List.length_append, List.length_drop, List.length_take]; omega
      rw [t1, fold_set (sa + k) M.toList (arrOf st) 0 (by omega), Nat.add_zero, ml, ha]
      have d1 : (P ++ (la ++ (lb ++ S))).take (sa + k) = P ++ la.take k := by
        rw [show sa + k = P.length + k by omega, List.take_length_add_append, List.take_append_of_le_length (by omega)]
      have d2 : (P ++ (la ++ (lb ++ S))).drop (sa + k + (na - k + k')) = lb.drop k' ++ S := by
        rw [show sa + k + (na - k + k') = P.length + (la.length + k') by omega, List.drop_length_add_append, List.drop_length_add_append, List.drop_append_of_le_length (by omega)]
      rw [d1, d2]
      simp only [List.append_assoc]
    · have : (la.take k ++ (M.toList ++ lb.drop k')).Perm (la.take k ++ ((la.drop k ++ lb.take k') ++ lb.drop k')) := List.Perm.append_left _ (List.Perm.append_right _ pm)
      refine this.trans (List.Perm.of_eq ?_)
      rw [List.append_assoc, List.take_append_drop, ← List.append_assoc, List.take_append_drop]
    · have mm : ∀ x ∈ M.toList, x ∈ la.drop k ∨ x ∈ lb.take k' := fun x hx => List.mem_append.mp (pm.mem_iff.mp hx)
      refine List.pairwise_append.mpr ⟨s1.sublist (List.take_sublist _ _), List.pairwise_append.mpr ⟨so, s2.sublist (List.drop_sublist _ _), fun x hx y hy => ?_⟩, fun x hx y hy => ?_⟩
      · rcases mm x hx with m | m
        · exact Int.le_trans (lastA x (List.mem_of_mem_drop m)) (bGe y hy)
        · exact Int.le_trans (bLe x m) (bGe y hy)
      · rcases List.mem_append.mp hy with m | m
        · rcases mm y m with m' | m'
          · have := s1
            rw [← List.take_append_drop k la] at this
            exact (List.pairwise_append.mp this).2.2 x hx y m'
          · exact aLe x hx y (List.mem_of_mem_take m')
        · exact aLe x hx y (List.mem_of_mem_drop m)
  by_cases c3 : na - k ≤ k'
  · rw [if_pos c3]
    refine wpS_bind (lo hC t3 m1 m2 z1 z2 (by omega) (by omega) fst lst fun M z al pm so => ?_)
    obtain ⟨f1, f2⟩ := fin M z al pm so
    refine wpS_bind (wpS_modify (wpS_bind (wpS_get (wpS_pure ?_))))
    show Q (failedOf z).isNone _
    rw [f2]
    exact f1
  · rw [if_neg c3]
    refine wpS_bind (hi hC t3 m1 m2 z1 z2 (by omega) (by omega) fst lst fun M z al pm so => ?_)
    obtain ⟨f1, f2⟩ := fin M z al pm so
    refine wpS_bind (wpS_modify (wpS_bind (wpS_get (wpS_pure ?_))))
    show Q (failedOf z).isNone _
    rw [f2]
    exact f1
/-- the runs that are noted, and what lies in them -/
def Mt (rk : Value → Int) : Nat → List (Nat × Nat × Nat) → List (List Keyed) → Prop
  | _, [], [] => True
  | o, (s, n, _) :: t, l :: ls => s = o ∧ n = l.length ∧ 0 < n ∧ So rk l ∧ Mt rk (o + n) t ls
  | _, [], _ :: _ => False
  | _, _ :: _, [] => False
theorem Mt.len {rk : Value → Int} : ∀ {o : Nat} {ps : List (Nat × Nat × Nat)} {ls : List (List Keyed)}, Mt rk o ps ls → ps.length = ls.length ∧ ls.length ≤ ls.flatten.length
  | _, [], [], _ => ⟨rfl, Nat.le_refl _⟩
  | _, (_, _, _) :: _, l :: ls, ⟨_, e, p, _, m⟩ => by
    obtain ⟨a, b⟩ := m.len
    rw [List.flatten_cons, List.length_append, List.length_cons, List.length_cons]
    omega
theorem Mt.snoc {rk : Value → Int} : ∀ {o : Nat} {ps : List (Nat × Nat × Nat)} {ls : List (List Keyed)} {l : List Keyed} {w : Nat}, Mt rk o ps ls → 0 < l.length → So rk l → Mt rk o (ps ++ [(o + ls.flatten.length, l.length, w)]) (ls ++ [l])
  | _, [], [], l, w, _, p, so => ⟨rfl, rfl, p, so, trivial⟩
  | o, (s, n, _) :: ps, k :: ls, l, w, ⟨a, b, c, d, m⟩, p, so => by
    have := m.snoc (w := w) p so
    refine ⟨a, b, c, d, ?_⟩
    rw [List.flatten_cons, List.length_append, ← b, ← Nat.add_assoc]
    exact this
theorem Mt.last {rk : Value → Int} {w : Nat} : ∀ {o : Nat} {ps : List (Nat × Nat × Nat)} {ls : List (List Keyed)}, Mt rk o ps ls → Mt rk o (ps.modify (ps.length - 1) fun x => (x.1, x.2.1, w)) ls
  | _, [], [], m => m
  | _, [(_, _, _)], [_], m => m
  | _, (_, _, _) :: y :: ps, k :: ls, ⟨a, b, c, d, m⟩ => ⟨a, b, c, d, m.last (w := w)⟩
theorem Mt.split {rk : Value → Int} : ∀ {i o : Nat} {ps : List (Nat × Nat × Nat)} {ls : List (List Keyed)}, Mt rk o ps ls → i + 1 < ps.length →
    ∃ pre sa na pw sb nb q post sp la lb sq, ps = pre ++ (sa, na, pw) :: (sb, nb, q) :: post ∧ pre.length = i ∧ ls = sp ++ la :: lb :: sq ∧ sa = o + sp.flatten.length ∧ na = la.length ∧ sb = sa + na ∧ nb = lb.length ∧ 0 < na ∧ 0 < nb ∧ So rk la ∧ So rk lb ∧
      ∀ lm : List Keyed, lm.length = na + nb → So rk lm → Mt rk o (pre ++ (sa, na + nb, pw) :: post) (sp ++ lm :: sq)
  | 0, o, (s, n, w) :: (t, m, v) :: ps, l :: k :: ls, ⟨a, b, c, d, e, f, g, h, r⟩, _ => by
    refine ⟨[], s, n, w, t, m, v, ps, [], l, k, ls, rfl, rfl, rfl, by simpa using a, b, by omega, f, c, g, d, h, fun lm hl so => ⟨a, hl.symm, by omega, so, ?_⟩⟩
    rw [← Nat.add_assoc]; exact r
  | i + 1, o, (s, n, w) :: ps, l :: ls, ⟨a, b, c, d, m⟩, h => by
    obtain ⟨pre, sa, na, pw, sb, nb, q, post, sp, la, lb, sq, h1, h2, h3, h4, h5, h6, h7, h8, h9, h10, h11, h12⟩ := m.split (i := i) (by simpa using h)
    refine ⟨(s, n, w) :: pre, sa, na, pw, sb, nb, q, post, l :: sp, la, lb, sq, by rw [h1]; rfl, by rw [List.length_cons, h2], by rw [h3]; rfl, by rw [List.flatten_cons, List.length_append]; omega, h5, h6, h7, h8, h9, h10, h11, fun lm hl so => ⟨a, b, c, d, h12 lm hl so⟩⟩
theorem mrg_mt (hC : Cmp prog w A s rk a₀) {st : SortSt} (hp : (arrOf st).Perm a₀) (hk : kindOf st = oneType') (hf : failedOf st = none) {segs : List (List Keyed)} {T : List Keyed} (hm : Mt rk 0 (pendingOf st).toList segs) (ha : (arrOf st).toList = segs.flatten ++ T)
    {i : Nat} (hi : i + 1 < (pendingOf st).size) {Q : Bool → SortSt → Prop} (h : ∀ z segs', Mt rk 0 (pendingOf z).toList segs' → (arrOf z).toList = segs'.flatten ++ T → segs'.flatten.length = segs.flatten.length → (pendingOf z).size + 1 = (pendingOf st).size →
      (arrOf z).Perm a₀ → kindOf z = oneType' → failedOf z = none → Q true z) : wpS (model prog w) A E s (mergeAt' i) Q st := by
  obtain ⟨pre, sa, na, pw, sb, nb, q, post, sp, la, lb, sq, h1, h2, h3, h4, h5, h6, h7, h8, h9, h10, h11, h12⟩ := hm.split (i := i) (by rw [Array.length_toList]; exact hi)
  subst h2
  have ha' : (arrOf st).toList = sp.flatten ++ (la ++ (lb ++ (sq.flatten ++ T))) := by
    rw [ha, h3, List.flatten_append, List.flatten_cons, List.flatten_cons]
    simp only [List.append_assoc]
  refine mrg hC hp hk hf h1 ha' (by omega) h5 h6 h7 h8 h9 h10 h11 fun z lm e1 pm so e2 e3 e4 => ?_
  have ll : lm.length = la.length + lb.length := by rw [pm.length_eq, List.length_append]
  refine h z (sp ++ lm :: sq) (by rw [e2]; exact h12 lm (by omega) so) ?_ ?_ ?_ ?_ e3 e4
  · rw [e1, List.flatten_append, List.flatten_cons]
    simp only [List.append_assoc]
  · rw [h3, List.flatten_append, List.flatten_append, List.flatten_cons, List.flatten_cons, List.flatten_cons]
    simp only [List.length_append]
    omega
  · rw [← Array.length_toList, ← Array.length_toList, e2, h1]
    simp only [List.length_append, List.length_cons]
    omega
  · refine Array.perm_iff_toList_perm.mpr (List.Perm.trans ?_ (Array.perm_iff_toList_perm.mp hp))
    rw [e1, ha']
    refine List.Perm.append_left _ ?_
    rw [← List.append_assoc la lb]
    exact List.Perm.append_right _ pm
theorem R_list {xs : Array Keyed} {i : Nat} {p : Keyed} (e : xs.toList[i]? = some p) : R rk xs i = rk p.1 := by unfold R; rw [← Array.getElem?_toList, e]; rfl
/-- what lies behind lo, once a run of n is there -/
theorem cut_run {xs ys : Array Keyed} {P T : List Keyed} {lo n : Nat} (e : xs.toList = P ++ T) (hl : lo = P.length) (sz : ys.size = xs.size) (low : ∀ k, k < lo → ys[k]? = xs[k]?) (hn : lo + n ≤ ys.size) (u : Up (fun i => R rk ys (lo + i)) n) :
    ∃ l T', ys.toList = P ++ (l ++ T') ∧ l.length = n ∧ So rk l := by
  refine ⟨(ys.toList.drop lo).take n, (ys.toList.drop lo).drop n, ?_, ?_, ?_⟩
  · rw [List.take_append_drop]
    have : ys.toList.take lo = P := by
      refine List.ext_getElem? fun i => ?_
      by_cases c : i < lo
      · have := low i c
        rw [← Array.getElem?_toList, ← Array.getElem?_toList, e, List.getElem?_append_left (by omega)] at this
        rw [List.getElem?_take_of_lt c, this]
      · rw [List.getElem?_eq_none (by rw [List.length_take]; omega), List.getElem?_eq_none (by omega)]
    rw [← this, List.take_append_drop]
  · rw [List.length_take, List.length_drop, Array.length_toList]; omega
  · refine List.pairwise_iff_getElem.mpr fun i j hi hj ij => ?_
    rw [List.length_take, List.length_drop, Array.length_toList] at hi hj
    have := u i j (by omega) (by omega)
    dsimp only at this
    have at_ : ∀ i, i < n → ys.toList[lo + i]? = some ys.toList[lo + i]! := fun i hi => by rw [List.getElem?_eq_getElem (by rw [Array.length_toList]; omega), getElem!_pos ys.toList (lo + i) (by rw [Array.length_toList]; omega)]
    rw [R_list (at_ i (by omega)), R_list (at_ j (by omega)), getElem!_pos ys.toList (lo + i) (by rw [Array.length_toList]; omega), getElem!_pos ys.toList (lo + j) (by rw [Array.length_toList]; omega)] at this
    rw [List.getElem_take, List.getElem_take, List.getElem_drop, List.getElem_drop]
    exact this
/-- the whole of it -/
theorem runs_big (hC : Cmp prog w A s rk a₀) {st : SortSt} (hB : SBase a₀ st) (h2 : 1 ≤ a₀.size) {Q : Unit → SortSt → Prop}
    (h : ∀ z, (arrOf z).Perm a₀ → failedOf z = none → So rk (arrOf z).toList → Q () z) : wpS (model prog w) A E s sortRuns' Q st := by
  let Iv : Nat → SortSt → Prop := fun lo z => (arrOf z).Perm a₀ ∧ kindOf z = oneType' ∧ failedOf z = none ∧ ∃ segs T, Mt rk 0 (pendingOf z).toList segs ∧ (arrOf z).toList = segs.flatten ++ T ∧ lo = segs.flatten.length
  rw [sortRuns'_eq]
  refine wpS_bind (wpS_get ?_)
  dsimp only
  rw [hB.size]
  have i0 : Iv 0 st := ⟨hB.perm, hB.kind, hB.failed, [], (arrOf st).toList, by rw [hB.pend]; trivial, rfl, rfl⟩
  have le : ∀ {lo : Nat} {z : SortSt}, Iv lo z → lo ≤ a₀.size := fun {lo z} ⟨p, _, _, segs, T, _, e, l⟩ => by
    have := congrArg List.length e
    rw [Array.length_toList, p.size_eq, List.length_append] at this
    omega
  refine wpS_bind (wpS_mono (wpS_forRange (I := fun x c z => ∃ lo, c = (none, lo) ∧ x ≤ lo ∧ Iv lo z) (Q := fun c z => c = (none, a₀.size) ∧ Iv a₀.size z) (fun x c z _ xn hI => ?_) (fun c z hI => ?_) ⟨0, rfl, Nat.le_refl _, i0⟩) fun c z hI => ?_)
  · obtain ⟨lo, rfl, xl, iv⟩ := hI
    have l1 := le iv
    dsimp only
    by_cases c1 : lo ≥ a₀.size
    · rw [if_pos c1]
      have e : lo = a₀.size := by omega
      subst e
      exact wpS_pure ⟨rfl, iv⟩
    rw [if_neg c1]
    obtain ⟨pm, hk, hf, segs, T, mt, ea, el'⟩ := iv
    refine wpS_bind (run_lo hC ⟨pm, hk, hf, rfl, fun _ _ => rfl⟩ (by omega) (by omega) fun k z1 B1 k1 kn u => ?_)
    dsimp only
    -- behind the run, however long it was made
    by_cases c2 : k < minRun' a₀.size a₀.size 0
    case' pos =>
      rw [if_pos c2]
      refine wpS_bind (wpS_lift (wpAny_rule ⟨rfl, ?_⟩))
      refine wpS_bind (ins_lo (n := min (a₀.size - lo) (minRun' a₀.size a₀.size 0)) hC ⟨B1.perm, B1.kind, B1.failed, rfl, fun _ _ => rfl⟩ (by omega) (by omega) u fun z2 B2 u2 => ?_)
      have B3 : PB a₀ lo z z2 := ⟨B2.perm, B2.kind, B2.failed, B2.pend.trans B1.pend, fun i hi => (B2.low i hi).trans (B1.low i hi)⟩
      obtain ⟨n, hn⟩ : ∃ n, n = min (a₀.size - lo) (minRun' a₀.size a₀.size 0) := ⟨_, rfl⟩
      have n1 : 1 ≤ n := by omega
      have nn : lo + n ≤ a₀.size := by omega
      rw [← hn] at u2
      have u3 := u2
      simp only [Bool.not_true, Bool.false_eq_true, if_false]
      rw [← hn]
    case' neg =>
      rw [if_neg c2]
      have B3 := B1
      obtain ⟨n, hn⟩ : ∃ n, n = k := ⟨_, rfl⟩
      have n1 : 1 ≤ n := by omega
      have nn : lo + n ≤ a₀.size := by omega
      rw [← hn] at u
      have u3 := u
      rw [← hn]
    all_goals
      obtain ⟨l, T', e3, ll, so⟩ := cut_run ea el' (by rw [B3.size, pm.size_eq]) B3.low (by rw [B3.size]; exact nn) u3
      have mt3 := mt
      rw [← B3.pend] at mt3
      refine wpS_bind (wpS_get ?_)
      let Iw : SortSt → Prop := fun y => (arrOf y).Perm a₀ ∧ kindOf y = oneType' ∧ failedOf y = none ∧ ∃ segs, Mt rk 0 (pendingOf y).toList segs ∧ (arrOf y).toList = segs.flatten ++ (l ++ T') ∧ lo = segs.flatten.length
      have iw0 : Iw _ := ⟨B3.perm, B3.kind, B3.failed, segs, mt3, e3, el'⟩
      have push : ∀ y, Iw y → ∃ m, ((none, lo + n) : Option Unit × Nat) = (none, m) ∧ x + 1 ≤ m ∧ Iv m (setPending y ((pendingOf y).push (lo, n, 0))) := fun y ⟨p1, p2, p3, sg, m1, m2, m3⟩ => by
        refine ⟨lo + n, rfl, by omega, p1, p2, p3, sg ++ [l], T', ?_, ?_, ?_⟩
        · show Mt rk 0 ((pendingOf y).push (lo, n, 0)).toList _
          rw [Array.toList_push]
          have := m1.snoc (w := 0) (l := l) (by omega) so
          rw [Nat.zero_add, ← m3, ll] at this
          exact this
        · show (arrOf y).toList = _
          rw [m2, List.flatten_append, List.flatten_cons, List.flatten_nil, List.append_nil, List.append_assoc]
        · rw [List.flatten_append, List.length_append, List.flatten_cons, List.flatten_nil, List.append_nil]; omega
      split
      · rename_i s1 n1' snd hb
        generalize power' a₀.size (2 * s1 + n1') (2 * s1 + n1' + n1' + n) a₀.size = pw
        refine wpS_bind (wpS_mono (wpS_forRange (I := fun _ c y => c = (none, ()) ∧ Iw y) (Q := fun c y => c = (none, ()) ∧ Iw y) (fun x' c y _ _ hI => ?_) (fun c y hI => hI) ⟨rfl, iw0⟩) fun c y hI => ?_)
        · obtain ⟨rfl, iw⟩ := hI
          refine wpS_bind (wpS_get ?_)
          by_cases g : (pendingOf y).size > 1
          · rw [if_pos g, Array.getElem?_eq_getElem (show (pendingOf y).size - 2 < (pendingOf y).size by omega)]
            generalize (pendingOf y)[(pendingOf y).size - 2] = v
            obtain ⟨v1, v2, v3⟩ := v
            dsimp only
            by_cases g2 : v3 ≤ pw
            · rw [if_pos g2]
              exact wpS_pure ⟨rfl, iw⟩
            · rw [if_neg g2]
              obtain ⟨p1, p2, p3, sg, m1, m2, m3⟩ := iw
              refine wpS_bind (mrg_mt hC p1 p2 p3 m1 m2 (by omega) fun y' sg' q1 q2 q3 q4 q5 q6 q7 => ?_)
              exact wpS_pure ⟨rfl, q5, q6, q7, sg', q1, q2, by omega⟩
          · rw [if_neg g]
            exact wpS_pure ⟨rfl, iw⟩
        · obtain ⟨rfl, iw⟩ := hI
          dsimp only
          refine wpS_bind (wpS_modify (wpS_bind (wpS_modify (wpS_pure ?_))))
          refine push _ ?_
          obtain ⟨p1, p2, p3, sg, m1, m2, m3⟩ := iw
          refine ⟨p1, p2, p3, sg, ?_, m2, m3⟩
          show Mt rk 0 ((pendingOf y).modify ((pendingOf y).size - 1) fun x => (x.fst, x.2.fst, pw)).toList sg
          rw [Array.toList_modify, ← Array.length_toList]
          exact m1.last
      · exact wpS_bind (wpS_modify (wpS_pure (push _ iw0)))
  · obtain ⟨lo, rfl, xl, iv⟩ := hI
    have l1 := le iv
    have e : lo = a₀.size := by omega
    subst e
    exact ⟨rfl, iv⟩
  obtain ⟨rfl, iv⟩ := hI
  dsimp only
  have few : (pendingOf z).size ≤ a₀.size := by
    obtain ⟨_, _, _, sg, T, m1, m2, m3⟩ := iv
    have := m1.len
    rw [Array.length_toList] at this
    omega
  refine wpS_bind (wpS_mono (wpS_forRange (I := fun x c y => c = (none, ()) ∧ Iv a₀.size y ∧ (pendingOf y).size + x ≤ a₀.size) (Q := fun c y => c = (none, ()) ∧ Iv a₀.size y ∧ (pendingOf y).size ≤ 1) (fun x c y _ _ hI => ?_) (fun c y hI => ?_) ⟨rfl, iv, by omega⟩) fun c y hI => ?_)
  · obtain ⟨rfl, iv, le'⟩ := hI
    refine wpS_bind (wpS_get ?_)
    by_cases g : (pendingOf y).size ≤ 1
    · rw [if_pos g]
      exact wpS_pure ⟨rfl, iv, g⟩
    · rw [if_neg g]
      obtain ⟨p1, p2, p3, sg, T, m1, m2, m3⟩ := iv
      refine wpS_bind (mrg_mt hC p1 p2 p3 m1 m2 (by (repeat' split) <;> omega) fun y' sg' q1 q2 q3 q4 q5 q6 q7 => ?_)
      exact wpS_pure ⟨rfl, ⟨q5, q6, q7, sg', T, q1, q2, by omega⟩, by omega⟩
  · obtain ⟨rfl, iv, le'⟩ := hI
    exact ⟨rfl, iv, by omega⟩
  · obtain ⟨rfl, ⟨p1, p2, p3, sg, T, m1, m2, m3⟩, g⟩ := hI
    refine wpS_pure (h y p1 p3 ?_)
    have l2 := congrArg List.length m2
    rw [Array.length_toList, p1.size_eq, List.length_append] at l2
    have t0 : T = [] := List.eq_nil_of_length_eq_zero (by omega)
    subst t0
    rw [m2, List.append_nil]
    have l3 := m1.len.1
    rw [Array.length_toList] at l3
    generalize (pendingOf y).toList = ps at m1
    match sg, ps, m1, l3 with
    | [], _, _, _ => exact .nil
    | [l], [(_, _, _)], ⟨_, _, _, so, _⟩, _ => rw [List.flatten_cons, List.flatten_nil, List.append_nil]; exact so
    | _ :: _ :: _, _, _, l3 => simp only [List.length_cons] at l3; omega
end SortAt

/-! Own work. sorted() of up to 1000 things by a rank; of rows of pairs. -/
namespace SortAt
open PySem PyProof.Rows
variable {prog : Program} {w : World} {A : Around} {E : Value → Shared → Prop} {s : Shared} {a₀ : Array Keyed} {rk : Value → Int}
theorem up_of {xs : Array Keyed} (hp : xs.Perm a₀) (so : So rk xs.toList) : Up (R rk xs) a₀.size := fun i j ij hj => by
  rw [← hp.size_eq] at hj
  by_cases c : i = j
  · subst c; exact Int.le_refl _
  · have := List.pairwise_iff_getElem.mp so i j (by rw [Array.length_toList]; omega) (by rw [Array.length_toList]; exact hj) (by omega)
    rw [R_list (List.getElem?_eq_getElem (by rw [Array.length_toList]; omega)), R_list (List.getElem?_eq_getElem (by rw [Array.length_toList]; exact hj))]
    exact this
/-- the list sorts itself -/
theorem sort_big {a : Addr} {vs : List Value} {n : Nat} (ho : s.heap.get? a = some (seqObj "list" vs.toArray n)) (hm : vs.length ≤ 1000)
    (hT : ∀ h', (∀ b o, b ≠ a → s.heap.get? b = some o → h'.get? b = some o) → ∀ v ∈ vs, Shared.TypeIs { s with heap := h' } v "list")
    (hC : ∀ h', (∀ b o, b ≠ a → s.heap.get? b = some o → h'.get? b = some o) → Cmp prog w A { s with heap := h' } rk (pairsOf vs)) {P : Fin → Shared → Prop}
    (h : ∀ out : Array Value, out.toList.Perm vs → (out.toList.map rk).Pairwise (· ≤ ·) → P (.done (.ret .none)) { s with heap := sortedHeap s.heap a vs out }) :
    wpAny (model prog w) A (Builtin.«list.sort» ⟨[.ref a], []⟩) P E s := by
  rw [list_sort_plain]
  have ha : a < s.heap.objs.size := Heap.lt_size ho
  refine wpAny_bind (listItems_at ho rfl (wpAny_bind (listUpdate_at ho rfl ?_)))
  obtain ⟨e1, ho1⟩ : ∃ e1, (s.heap.update a (Obj.mapSeq fun _ => #[])).get? a = some (seqObj "list" #[] e1) := ⟨_, get?_update_seq ho (fun _ => #[])⟩
  refine wpAny_bind (seqEpoch_at ho1 rfl (wpAny_bind (wpAny_newTuple (wpAny_bind (wpAny_newList (wpAny_holding ?_))))))
  generalize hh : ((s.heap.update a (Obj.mapSeq fun _ => #[])).push (seqObj "tuple" vs.toArray 0)).push (seqObj "list" #[] 0) = H
  have old : ∀ b o, (s.heap.update a (Obj.mapSeq fun _ => #[])).get? b = some o → H.get? b = some o := fun b o q => by
    rw [← hh]; exact Heap.get?_push_of_some _ (Heap.get?_push_of_some _ q)
  have hoH : H.get? a = some (seqObj "list" #[] e1) := old _ _ ho1
  have keep : ∀ b o, b ≠ a → s.heap.get? b = some o → H.get? b = some o := fun b o ne q => old b o (by rw [Heap.get?_update_ne _ _ _ _ ne]; exact q)
  show wpAny (model prog w) A _ P E { s with heap := H }
  dsimp only
  have out : ∀ z : SortSt, (arrOf z).Perm (pairsOf vs) → Up (R rk (arrOf z)) (pairsOf vs).size → P (.done (.ret .none)) { s with heap := H.update a (Obj.mapSeq fun _ => (arrOf z).map (·.2)) } := fun z p u => by
    obtain ⟨p', u'⟩ := outcome p u
    have := h _ p' u'
    unfold sortedHeap at this
    rwa [hh] at this
  have sz : vs.toArray.size = vs.length := by simp
  by_cases h2 : vs.toArray.size < 2
  · rw [if_pos h2, if_pos h2]
    refine wpAny_bind (wpAny_pure ?_)
    rw [StateT.run_pure]
    refine wpAny_bind (wpAny_pure (wpAny_bind (seqEpoch_at hoH rfl (wpAny_bind (listUpdate_at hoH rfl ?_ (hsz2 := by rw [Array.size_map]; show (pairsOf vs).size ≤ _; rw [pairsOf_size, sizeLine_eq]; omega))))))
    simp only [bne_self_eq_false, Bool.false_eq_true, if_false]
    refine wpAny_pure (out (SortSt.mk' general' (pairsOf vs) #[] 7 none) (Array.Perm.refl _) fun i j ij hj => ?_)
    have e : i = j := by rw [pairsOf_size] at hj; omega
    subst e; exact Int.le_refl _
  · rw [if_neg h2, if_neg h2]
    obtain ⟨v₁, v₂, rest, rfl⟩ : ∃ v₁ v₂ rest, vs = v₁ :: v₂ :: rest := by
      rcases vs with _ | ⟨v₁, _ | ⟨v₂, rest⟩⟩
      · exact absurd h2 (by simp)
      · exact absurd h2 (by simp)
      · exact ⟨_, _, _, rfl⟩
    refine wpAny_bind (kind (hT H keep) ?_)
    refine wpAny_bind (wpAny_mono (runs_big (hC H keep) (st := SortSt.mk' oneType' (pairsOf (v₁ :: v₂ :: rest)) #[] 7 none) ⟨Array.Perm.refl _, rfl, rfl, rfl⟩ (by rw [pairsOf_size]; simp)
      (Q := fun _ z => (arrOf z).Perm (pairsOf (v₁ :: v₂ :: rest)) ∧ failedOf z = none ∧ Up (R rk (arrOf z)) (pairsOf (v₁ :: v₂ :: rest)).size) fun z x y u => ⟨x, y, up_of x u⟩) ?_ fun _ _ e => e)
    rintro ⟨⟨⟩, z⟩ s' ⟨rfl, p, f, u⟩
    refine wpAny_bind (seqEpoch_at hoH rfl (wpAny_bind (listUpdate_at hoH rfl ?_ (hsz2 := by refine Nat.le_trans (Nat.le_of_eq ((Array.size_map ..).trans (p.size_eq.trans (pairsOf_size _)))) ?_; rw [sizeLine_eq]; omega))))
    rw [f]
    simp only [bne_self_eq_false, Bool.false_eq_true, if_false]
    exact wpAny_pure (out z p u)
/-- sorted(..): a new list -/
theorem sorted_big {l : Addr} {vs : List Value} (hl : s.heap.IsList l vs.toArray) (hm : vs.length ≤ 1000) (hT : ∀ h', Kept s.heap h' → ∀ v ∈ vs, Shared.TypeIs { s with heap := h' } v "list")
    (hC : ∀ h', Kept s.heap h' → Cmp prog w A.in1.in1 { s with heap := h' } rk (pairsOf vs)) {Q : Value → Shared → Prop}
    (h : ∀ out : Array Value, out.toList.Perm vs → (out.toList.map rk).Pairwise (· ≤ ·) → Q (.ref (s.heap.objs.size + 1)) { s with heap := sortedAll s.heap vs out }) :
    wpAny (model prog w) A (call (.builtin "sorted") [.ref l]) Q E s := by
  refine Calls.call_function_entry kind_sorted plain_sorted entry_sorted (args_sorted1 _) ?_
  unfold Builtin.«sorted»
  refine wpAny_bind (m := checkCount "sorted" 1 1 _) (wpAny_pure (wpAny_bind (collect_list hl (wpAny_bind (wpAny_newList ?_)))))
  have sz : ((s.heap.push (seqObj "list" #[] 0)).update s.heap.objs.size (Obj.mapSeq (· ++ vs.toArray))).objs.size = s.heap.objs.size + 1 := by
    rw [Heap.size_update, size_push']
  generalize hh : ((s.heap.push (seqObj "list" #[] 0)).update s.heap.objs.size (Obj.mapSeq (· ++ vs.toArray))) = G at sz
  have kG : Kept s.heap G := fun b o q => by
    have lt : b < s.heap.objs.size := Heap.lt_size q
    rw [← hh, Heap.get?_update_ne _ _ _ _ (Nat.ne_of_lt lt)]
    exact Heap.get?_push_of_some _ q
  have hoL : (G.push (seqObj "list" vs.toArray 0)).get? (s.heap.objs.size + 1) = some (seqObj "list" vs.toArray 0) := by rw [← sz]; exact Heap.get?_push_size _ rfl
  show wpAny _ _ _ _ _ { s with heap := G.push (seqObj "list" vs.toArray 0) }
  rw [sz]
  have k2 : ∀ h', (∀ b o, b ≠ s.heap.objs.size + 1 → (G.push (seqObj "list" vs.toArray 0)).get? b = some o → h'.get? b = some o) → Kept s.heap h' := fun h' k b o q =>
    k b o (Nat.ne_of_lt (Nat.lt_succ_of_lt (Heap.lt_size q))) (Heap.get?_push_of_some _ (kG b o q))
  refine wpAny_bind (wpAny_holding (wpAny_call_entry slot_list_sort ⟨_, hoL, rfl⟩ entry_list_sort ?_ (args_list_sort _)))
  refine sort_big (rk := rk) (s := { s with heap := G.push (seqObj "list" vs.toArray 0) }) hoL hm (fun h' k => hT h' (k2 h' k)) (fun h' k => hC h' (k2 h' k)) fun out p u => ⟨_, rfl, ?_⟩
  refine wpAny_pure ⟨_, rfl, ?_⟩
  have := h out p u
  unfold sortedAll at this
  rwa [hh] at this
end SortAt
namespace L2
open PySem PySem.Spec PyProof.Rows
variable {X : Cx}
/-- sorted(..) of up to 900 rows of pairs -/
def rSortedB (K : PySem.W.Frag) : List V → Hp → VK → Prop := fun xs H Q => ∃ (p : Addr) (vs : List V) (rows : List (List (Int × Int))), xs = [.ref p] ∧ SqL K H p vs ∧ Reps H vs (rows.map Ring.rowD) ∧ rows.length ≤ 900 ∧
  ∀ (l : Addr) (vs' : List V) (rows' : List (List (Int × Int))), H l = none → rows'.Perm rows → rows'.Pairwise (fun r t => SortAt.rowLt t r = false) → (∀ G, Reps G vs (rows.map Ring.rowD) → Reps G vs' (rows'.map Ring.rowD)) → vs'.Perm vs → Q (.ref l) (upd H l (.lst vs'))
theorem call_sortedB {k : Nat} (hr : Room k X.A) : CallR X (.builtin "sorted") (rSortedB X.K) := by
  intro pins s σ H xs us Q I rv ⟨p, vs, rows, e, hq, rp, h900, q⟩
  subst e
  obtain ⟨u, rfl, ru⟩ := rv.one
  cases ru
  obtain ⟨its, r, pl, hz⟩ := I.list hq
  obtain ⟨eR, z⟩ := zip_reads I.hok r rp
  have hl := r.length
  have zl : its.length = rows.length := by rw [← eR, List.length_map]
  have zs : (vs.zip its).map (·.2) = its := List.map_snd_zip (by omega)
  have zf : (vs.zip its).map (·.1) = vs := List.map_fst_zip (by omega)
  have rd : ∀ v ∈ its, ∃ as, Reads s.heap v (Ring.rowD (SortAt.rowAt s.heap v)) as := fun v m => by
    rw [← zs] at m
    obtain ⟨x, mx, rfl⟩ := List.mem_map.mp m
    exact (z x mx).2.2
  have mem : ∀ v ∈ its, SortAt.rowAt s.heap v ∈ rows := fun v m => by rw [← eR]; exact List.mem_map_of_mem m
  refine SortAt.sorted_big (rk := fun v => SortAt.ahead rows (SortAt.rowAt s.heap v)) pl.isList (by omega) (fun h' kp v m => ?_) (fun h' kp a b ma mb E Q q => ?_) fun out pm so => ?_
  · obtain ⟨as, y⟩ := rd v m
    obtain ⟨l, _, _, rfl, ⟨o, g, c, _⟩, _⟩ := SortAt.row_in y
    exact ⟨o, kp _ _ g, c⟩
  · obtain ⟨_, y⟩ := rd a.1 (SortAt.pair_mem ma).2
    obtain ⟨_, y'⟩ := rd b.1 (SortAt.pair_mem mb).2
    rw [SortAt.ahead_iff (mem _ (SortAt.pair_mem ma).2) (mem _ (SortAt.pair_mem mb).2)] at q
    exact SortAt.row_lt (PyProof.Rows.Reads.keeps kp y) (PyProof.Rows.Reads.keeps kp y') (by have := hr.un; show X.A.units + 1 + 1 + 64 < _; omega) q
  · obtain ⟨qs, hqs, eq⟩ := SortAt.lift_perm (show out.toList.Perm ((vs.zip its).map (·.2)) by rw [zs]; exact pm)
    obtain ⟨e, he⟩ := sortedAll_at s.heap its out
    have zz := fun x (m : x ∈ qs) => z x (hqs.mem_iff.mp m)
    have ql : qs.length = rows.length := by rw [hqs.length_eq, List.length_zip]; omega
    have re : ∀ G, Reps G vs (rows.map Ring.rowD) → Reps G (qs.map (·.1)) (out.toList.map fun u => Ring.rowD (SortAt.rowAt s.heap u)) := fun G rg => by
      rw [← eR] at rg
      have := reps_of (f := fun u => Ring.rowD (SortAt.rowAt s.heap u)) (fun x m => zip_any hl rg x (hqs.mem_iff.mp m))
      rwa [eq] at this
    have va := vals_of (fun x m => (zz x m).1)
    rw [eq] at va
    refine ⟨.ref (s.heap.objs.size + 1), _, I.laid (t' := s.toks) (fun b ob q => sortedAll_old q) (Nat.le_succ _) (show ObjOk X.prog X.w _ _ _ (.lst (qs.map (·.1))) from ⟨?_, out.toList, e, va, ?_⟩), rfl,
      q _ (qs.map (·.1)) (out.toList.map (SortAt.rowAt s.heap)) (I.hok.fresh (Nat.le_succ _)) ?_ ?_ ?_ ?_⟩
    · rw [List.length_map, ql]
      exact Nat.le_of_lt (small1000 (by omega))
    · rw [he] <;> simp [seqObj]
    · have := pm.map (SortAt.rowAt s.heap)
      rwa [eR] at this
    · rw [List.pairwise_map] at so ⊢
      refine so.imp_of_mem fun {a b} ma mb h => ?_
      have x := SortAt.ahead_iff (mem b (pm.mem_iff.mp mb)) (mem a (pm.mem_iff.mp ma))
      rw [← x]
      exact decide_eq_false (by omega)
    · intro G rg; rw [List.map_map]; exact re G rg
    · rw [← zf]; exact hqs.map _
theorem call_sortedBK {K : PySem.W.Frag} {k : Nat} (hr : Room k X.A) (hK : X.K = K := by rfl) : CallR X (.builtin "sorted") (rSortedB K) := by subst hK; exact call_sortedB hr
end L2

/-! ## rounds, and the same rings in any order: the mathematics of points 3, 11 and 12 -/
namespace Ways
open Ring
/-- rings with how deep each place was popped, from d on -/
def marksF : (Nat → Nat) → List (List Nat) → List (List (Nat × Nat))
  | _, [] => []
  | d, r :: rs => (r.map fun x => (x, d x)) :: marksF (fun x => d x + r.count x) rs
/-- rings popped one by one -/
inductive Pops : Piles → List (List Nat) → Piles → Prop
  | nil {p : Piles} : Pops p [] p
  | cons {p q : Piles} {r : List Nat} {rs : List (List Nat)} : r ∈ ringsN (topsN p) → Pops (popN p r) rs q → Pops p (r :: rs) q
theorem Pops.append {p q u : Piles} {rs ts : List (List Nat)} (a : Pops p rs q) (b : Pops q ts u) : Pops p (rs ++ ts) u := by
  induction a with
  | nil => exact b
  | cons h _ ih => exact .cons h (ih b)
theorem Pops.ok {p q : Piles} {rs : List (List Nat)} (a : Pops p rs q) : PilesOk p → PilesOk q ∧ q.length = p.length ∧ rs.length + sizeN q ≤ sizeN p := by
  induction a with
  | nil => intro ok; exact ⟨ok, rfl, by simp⟩
  | cons h _ ih =>
    intro ok
    obtain ⟨o, l, s⟩ := ih (ok.pop _)
    have := pop_less ok.inB h
    exact ⟨o, l.trans (popN_len _ _), by rw [List.length_cons]; omega⟩
theorem Pops.of_steps {num : Nat → Int} {p0 p : Piles} {rs : List (List Nat)} (h : Steps num p0 rs p) : Pops p0 rs p := by
  induction h with
  | nil => exact .nil
  | snoc _ hne ih => exact ih.append (.cons (pick_mem hne) .nil)
/-- rings with a place in common are one -/
theorem rings_meet {es : List (Option Nat)} (hb : InB es) {r t : List Nat} (h1 : r ∈ ringsN es) (h2 : t ∈ ringsN es) {x : Nat} (x1 : x ∈ r) (x2 : x ∈ t) : r = t := by
  obtain ⟨m, hm, e1⟩ := mem_rings.mp h1
  obtain ⟨n, hn, e2⟩ := mem_rings.mp h2
  have := ring_one hb hm hn e1 e2 x1 x2
  subst this
  rw [e1] at e2
  exact Option.some.inj e2
/-- tops where nothing was popped -/
theorem ring_keeps {p q : Piles} (ok : PilesOk p) (okq : PilesOk q) (hl : q.length = p.length) {r : List Nat} (h : r ∈ ringsN (topsN p)) (same : ∀ x ∈ r, q[x]? = p[x]?) : r ∈ ringsN (topsN q) := by
  have i := rings_is ok.inB h
  refine IsRing.mem okq.inB ⟨i.ne, i.nd, fun x hx => ?_, i.least, ?_⟩
  · rw [topsN_len, hl, ← topsN_len p]; exact i.bd x hx
  · rw [← i.next]
    refine List.map_congr_left fun x hx => ?_
    rw [topsN_next, topsN_next, same x hx]
theorem pop_off {p : Piles} {r : List Nat} {x : Nat} (h : x ∉ r) : (popN p r)[x]? = p[x]? := by
  rw [popN_at]
  cases p[x]? with
  | none => rfl
  | some l => rw [Option.map_some, if_neg h]
theorem ring_stays {p : Piles} (ok : PilesOk p) {r t : List Nat} (h : r ∈ ringsN (topsN p)) (ap : ∀ x ∈ r, x ∉ t) : r ∈ ringsN (topsN (popN p t)) :=
  ring_keeps ok (ok.pop t) (popN_len _ _) h fun x hx => pop_off (ap x hx)
theorem pop_comm (p : Piles) (r t : List Nat) : popN (popN p r) t = popN (popN p t) r := by
  refine List.ext_getElem? fun i => ?_
  rw [popN_at, popN_at, popN_at, popN_at]
  cases p[i]? with
  | none => rfl
  | some l => by_cases h1 : i ∈ r <;> by_cases h2 : i ∈ t <;> simp [h1, h2]
theorem marks_off {r t : List Nat} {d : Nat → Nat} (ap : ∀ x ∈ r, x ∉ t) : (r.map fun x => (x, d x + t.count x)) = r.map fun x => (x, d x) :=
  List.map_congr_left fun x hx => by rw [List.count_eq_zero.mpr (ap x hx)]; rfl
/-- a ring that is there can be popped first -/
theorem Pops.front {r : List Nat} : ∀ {ts : List (List Nat)} {p u : Piles}, PilesOk p → Pops p ts u → ringsN (topsN u) = [] → r ∈ ringsN (topsN p) →
    ∃ ts', Pops (popN p r) ts' u ∧ ∀ d, (marksF d ts).Perm ((r.map fun x => (x, d x)) :: marksF (fun x => d x + r.count x) ts')
  | [], p, u, ok, a, e, h => by
    cases a
    rw [e] at h
    cases h
  | t :: ts, p, u, ok, a, e, h => by
    cases a with
    | cons ht a =>
      by_cases c : r = t
      · subst c
        exact ⟨ts, a, fun d => List.Perm.refl _⟩
      · have ap : ∀ x ∈ r, x ∉ t := fun x x1 x2 => c (rings_meet ok.inB h ht x1 x2)
        have ap' : ∀ x ∈ t, x ∉ r := fun x x1 x2 => ap x x2 x1
        obtain ⟨ts', b, pm⟩ := Pops.front (ok.pop t) a e (ring_stays ok h ap)
        rw [pop_comm] at b
        refine ⟨t :: ts', .cons (ring_stays ok ht ap') b, fun d => ?_⟩
        have z := (pm fun x => d x + t.count x).cons (t.map fun x => (x, d x))
        rw [marks_off ap] at z
        refine (z.trans (List.Perm.swap _ _ _)).trans (List.Perm.of_eq ?_)
        show _ = (r.map fun x => (x, d x)) :: (t.map fun x => (x, d x + r.count x)) :: _
        rw [marks_off ap']
        have e2 : (fun x => d x + t.count x + r.count x) = fun x => d x + r.count x + t.count x := by funext x; omega
        rw [e2]
/-- the same rings, marked, in any order; and the same piles -/
theorem Pops.same : ∀ {rs ts : List (List Nat)} {p q u : Piles}, PilesOk p → Pops p rs q → ringsN (topsN q) = [] → Pops p ts u → ringsN (topsN u) = [] → (∀ d, (marksF d rs).Perm (marksF d ts)) ∧ q = u
  | [], ts, p, q, u, ok, a, e, b, f => by
    cases a
    cases b with
    | nil => exact ⟨fun _ => List.Perm.refl _, rfl⟩
    | cons h _ => rw [e] at h; cases h
  | r :: rs, ts, p, q, u, ok, a, e, b, f => by
    cases a with
    | cons h a =>
      obtain ⟨ts', b', pm⟩ := Pops.front ok b f h
      obtain ⟨pm2, eq⟩ := Pops.same (ok.pop r) a e b' f
      exact ⟨fun d => ((pm2 _).cons _).trans (pm d).symm, eq⟩
/-! ### rounds -/
noncomputable def stN (p : Piles) : Nat → Piles
  | 0 => p
  | k + 1 => (ringsN (topsN (stN p k))).foldl popN (stN p k)
noncomputable def rndN (p : Piles) (k : Nat) : List (List Nat) := ringsN (topsN (stN p k))
theorem foldl_ok : ∀ (l : List (List Nat)) {q : Piles}, PilesOk q → PilesOk (l.foldl popN q)
  | [], _, ok => ok
  | r :: l, _, ok => foldl_ok l (ok.pop r)
theorem stN_ok {p : Piles} (ok : PilesOk p) : ∀ k, PilesOk (stN p k)
  | 0 => ok
  | k + 1 => foldl_ok _ (stN_ok ok k)
theorem Pops.all : ∀ {l : List (List Nat)} {q : Piles}, PilesOk q → (∀ r ∈ l, r ∈ ringsN (topsN q)) → (l.Pairwise fun a b => ∀ x ∈ a, x ∉ b) → Pops q l (l.foldl popN q)
  | [], _, _, _, _ => .nil
  | r :: l, q, ok, h, ap => by
    obtain ⟨a1, a2⟩ := List.pairwise_cons.mp ap
    exact .cons (h r List.mem_cons_self) (Pops.all (ok.pop r) (fun t ht => ring_stays ok (h t (List.mem_cons_of_mem _ ht)) fun x x1 x2 => a1 t ht x x2 x1) a2)
theorem Pops.rounds {p : Piles} (ok : PilesOk p) : ∀ n, Pops p ((List.range n).map (rndN p)).flatten (stN p n)
  | 0 => .nil
  | n + 1 => by
    rw [List.range_succ, List.map_append, List.flatten_append]
    refine (Pops.rounds ok n).append ?_
    rw [List.map_cons, List.map_nil, List.flatten_cons, List.flatten_nil, List.append_nil]
    exact Pops.all (stN_ok ok n) (fun _ h => h) (rings_apart (stN_ok ok n).inB)
/-- as many rounds as there are -/
structure RndTo (p : Piles) (n : Nat) : Prop where
  some' : ∀ k, k < n → rndN p k ≠ []
  last : rndN p n = []
theorem RndTo.one {p : Piles} {m n : Nat} (a : RndTo p m) (b : RndTo p n) : m = n := by
  rcases Nat.lt_trichotomy m n with h | h | h
  · exact absurd a.last (b.some' m h)
  · exact h
  · exact absurd b.last (a.some' n h)
end Ways

/-! ## what was popped at a place -/
namespace Ways
open Ring
/-- the ends of a place's popped arrows -/
def endAt (r : List Nat) (x : Nat) : Option Nat := if x ∈ r then (r ++ r.take 1)[r.idxOf x + 1]? else none
def endsN (rs : List (List Nat)) (x : Nat) : List Nat := rs.filterMap fun r => endAt r x
theorem rot_next {r : List Nat} (h : r ≠ []) (i : Nat) : (r ++ r.take 1)[i + 1]? = (rot r)[i]? := by
  cases r with
  | nil => exact absurd rfl h
  | cons a r => rfl
theorem ring_end {p : Piles} (ok : PilesOk p) {r : List Nat} (h : r ∈ ringsN (topsN p)) {x : Nat} (hx : x ∈ r) {l : List Nat} (hl : p[x]? = some l) : ∃ e, endAt r x = some e ∧ l = e :: l.drop 1 := by
  have i := rings_is ok.inB h
  have hi := List.idxOf_lt_length_of_mem hx
  have hx2 : r[r.idxOf x]? = some x := by rw [List.getElem?_eq_getElem hi, List.getElem_idxOf]
  have e := congrArg (fun z => z[r.idxOf x]?) i.next
  simp only [List.getElem?_map, hx2, Option.map_some] at e
  rw [topsN_next, hl, Option.bind_some] at e
  unfold endAt
  rw [if_pos hx, rot_next i.ne]
  cases c : (rot r)[r.idxOf x]? with
  | none => rw [c] at e; cases e
  | some y =>
    rw [c] at e
    have e' : l.head? = some y := Option.some.inj e
    refine ⟨y, rfl, ?_⟩
    cases l with
    | nil => cases e'
    | cons b l => cases e'; rfl
theorem Pops.ends {p q : Piles} {rs : List (List Nat)} (a : Pops p rs q) : PilesOk p → ∀ (x : Nat) (l : List Nat), p[x]? = some l → ∃ m, q[x]? = some m ∧ endsN rs x ++ m = l := by
  induction a with
  | nil => intro _ x l h; exact ⟨l, h, rfl⟩
  | @cons p q r rs h _ ih =>
    intro ok x l hl
    have hpop := popN_at p r x
    rw [hl, Option.map_some] at hpop
    obtain ⟨m, hm, e⟩ := ih (ok.pop r) x _ hpop
    refine ⟨m, hm, ?_⟩
    unfold endsN at e ⊢
    by_cases c : x ∈ r
    · obtain ⟨y, ey, el⟩ := ring_end ok h c hl
      rw [List.filterMap_cons_some (f := fun r => endAt r x) ey, List.cons_append, e, if_pos c]
      exact el.symm
    · have : endAt r x = none := by unfold endAt; rw [if_neg c]
      rw [List.filterMap_cons_none (f := fun r => endAt r x) this, e, if_neg c]
end Ways
namespace Ways
/-- piles can be popped to the end -/
theorem Pops.total : ∀ (n : Nat) {p : Piles}, PilesOk p → sizeN p ≤ n → ∃ rs q, Pops p rs q ∧ ringsN (topsN q) = []
  | 0, p, ok, h => by
    refine ⟨[], p, .nil, ?_⟩
    cases e : ringsN (topsN p) with
    | nil => rfl
    | cons r t => have := pop_less ok.inB (show r ∈ ringsN (topsN p) by rw [e]; exact List.mem_cons_self); omega
  | n + 1, p, ok, h => by
    cases e : ringsN (topsN p) with
    | nil => exact ⟨[], p, .nil, e⟩
    | cons r t =>
      have hr : r ∈ ringsN (topsN p) := by rw [e]; exact List.mem_cons_self
      have := pop_less ok.inB hr
      obtain ⟨rs, q, a, b⟩ := Pops.total n (ok.pop r) (by omega)
      exact ⟨r :: rs, q, .cons hr a, b⟩
end Ways

/-! ## fewer arrows pop fewer rings: point 11 -/
namespace Ways
open Ring
/-- each pile the beginning of the other's -/
structure PreP (p' p : Piles) : Prop where
  len : p'.length = p.length
  pre : ∀ (x : Nat) (l : List Nat), p'[x]? = some l → ∃ s, p[x]? = some (l ++ s)
theorem PreP.ring {p' p : Piles} (h : PreP p' p) (ok' : PilesOk p') (ok : PilesOk p) {r : List Nat} (hr : r ∈ ringsN (topsN p')) : r ∈ ringsN (topsN p) := by
  have i := rings_is ok'.inB hr
  refine IsRing.mem ok.inB ⟨i.ne, i.nd, fun x hx => ?_, i.least, ?_⟩
  · have := i.bd x hx
    rw [topsN_len] at this ⊢
    rw [← h.len]; exact this
  · rw [← i.next]
    refine List.map_congr_left fun x hx => ?_
    obtain ⟨l, hl, ne⟩ := ring_place ok'.inB hr x hx
    obtain ⟨s, hs⟩ := h.pre x l hl
    rw [topsN_next, topsN_next, hl, hs, Option.bind_some, Option.bind_some]
    cases l with
    | nil => exact absurd rfl ne
    | cons a l => rfl
theorem PreP.pop {p' p : Piles} (h : PreP p' p) (ok' : PilesOk p') {r : List Nat} (hr : r ∈ ringsN (topsN p')) : PreP (popN p' r) (popN p r) where
  len := by rw [popN_len, popN_len, h.len]
  pre := fun x l hl => by
    rw [popN_at] at hl
    obtain ⟨l', hl', e⟩ := Option.map_eq_some_iff.mp hl
    obtain ⟨s, hs⟩ := h.pre x l' hl'
    refine ⟨s, ?_⟩
    rw [popN_at, hs, Option.map_some]
    by_cases c : x ∈ r
    · rw [if_pos c] at e ⊢
      obtain ⟨l2, hl2, ne⟩ := ring_place ok'.inB hr x c
      rw [hl'] at hl2
      cases hl2
      cases l' with
      | nil => exact absurd rfl ne
      | cons a l' => cases e; rfl
    · rw [if_neg c] at e ⊢
      rw [e]
theorem PreP.pops {p' q' : Piles} {rs : List (List Nat)} (a : Pops p' rs q') : ∀ {p : Piles}, PreP p' p → PilesOk p' → PilesOk p → ∃ q, Pops p rs q := by
  induction a with
  | nil => intro p _ _ _; exact ⟨p, .nil⟩
  | @cons p' q' r rs hr _ ih =>
    intro p h ok' ok
    obtain ⟨q, b⟩ := ih (h.pop ok' hr) (ok'.pop r) (ok.pop r)
    exact ⟨q, .cons (h.ring ok' ok hr) b⟩
theorem marks_append : ∀ (rs ts : List (List Nat)) (d : Nat → Nat), ∃ d', marksF d (rs ++ ts) = marksF d rs ++ marksF d' ts
  | [], ts, d => ⟨d, rfl⟩
  | r :: rs, ts, d => by
    obtain ⟨d', e⟩ := marks_append rs ts (fun x => d x + r.count x)
    exact ⟨d', by rw [List.cons_append, marksF, marksF, e, List.cons_append]⟩
/-- what fewer arrows tell is told by more, and no more is lost anywhere -/
theorem PreP.within {p' q' p q : Piles} {rs' rs : List (List Nat)} (h : PreP p' p) (ok' : PilesOk p') (ok : PilesOk p) (a : Pops p' rs' q') (b : Pops p rs q) (e : ringsN (topsN q) = []) :
    (∀ m ∈ marksF (fun _ => 0) rs', m ∈ marksF (fun _ => 0) rs) ∧ ∀ (x : Nat) (l' m' l m : List Nat), p'[x]? = some l' → q'[x]? = some m' → p[x]? = some l → q[x]? = some m → l'.length + m.length ≤ l.length + m'.length := by
  obtain ⟨g, pg⟩ := PreP.pops a h ok' ok
  have okg := (pg.ok ok).1
  obtain ⟨ts, u, pt, ue⟩ := Pops.total _ okg (Nat.le_refl _)
  obtain ⟨same, eq⟩ := Pops.same ok (pg.append pt) ue b e
  subst eq
  refine ⟨fun m hm => ?_, fun x l' m' l m h1 h2 h3 h4 => ?_⟩
  · obtain ⟨d', ed⟩ := marks_append rs' ts (fun _ => 0)
    refine (same (fun _ => 0)).mem_iff.mp ?_
    rw [ed]
    exact List.mem_append_left _ hm
  · obtain ⟨n1, hn1, e1⟩ := a.ends ok' x l' h1
    rw [h2] at hn1
    cases hn1
    obtain ⟨n2, hn2, e2⟩ := (pg.append pt).ends ok x l h3
    rw [h4] at hn2
    cases hn2
    have l1 : (endsN rs' x).length + m'.length = l'.length := by rw [← List.length_append, e1]
    have l2 : (endsN (rs' ++ ts) x).length + m.length = l.length := by rw [← List.length_append, e2]
    have l3 : (endsN rs' x).length ≤ (endsN (rs' ++ ts) x).length := by unfold endsN; rw [List.filterMap_append, List.length_append]; omega
    omega
theorem PreP.set {p : Piles} {j : Nat} {l l' s : List Nat} (h : p[j]? = some l) (e : l = l' ++ s) : PreP (p.set j l') p where
  len := List.length_set
  pre := fun x m hm => by
    by_cases c : x = j
    · subst c
      rw [List.getElem?_set_self (List.getElem?_eq_some_iff.mp h).1] at hm
      cases hm
      exact ⟨s, by rw [h, e]⟩
    · rw [List.getElem?_set_ne (Ne.symm c)] at hm
      exact ⟨[], by rw [hm, List.append_nil]⟩
theorem PreP.grow {p : Piles} {j : Nat} {l s : List Nat} (h : p[j]? = some l) : PreP p (p.set j (l ++ s)) where
  len := List.length_set.symm
  pre := fun x m hm => by
    by_cases c : x = j
    · subst c
      rw [h] at hm
      cases hm
      exact ⟨s, by rw [List.getElem?_set_self (List.getElem?_eq_some_iff.mp h).1]⟩
    · exact ⟨[], by rw [List.getElem?_set_ne (Ne.symm c), hm, List.append_nil]⟩
end Ways

/-! ## walks: the mathematics of point 13 -/
namespace Ways
open Ring
/-- turned so that the least is first -/
def minN (r : List Nat) : Nat := r.foldl min (r.headD 0)
def leastN (r : List Nat) : List Nat := r.drop (r.idxOf (minN r)) ++ r.take (r.idxOf (minN r))
theorem fold_min : ∀ (l : List Nat) (a : Nat), (l.foldl min a = a ∨ l.foldl min a ∈ l) ∧ l.foldl min a ≤ a ∧ ∀ x ∈ l, l.foldl min a ≤ x
  | [], a => ⟨.inl rfl, Nat.le_refl _, fun _ m => nomatch m⟩
  | b :: l, a => by
    obtain ⟨h1, h2, h3⟩ := fold_min l (min a b)
    rw [List.foldl_cons]
    refine ⟨?_, by omega, fun x m => ?_⟩
    · rcases h1 with e | e
      · rw [e]
        by_cases c : a ≤ b
        · exact .inl (by omega)
        · exact .inr (by rw [show min a b = b by omega]; exact List.mem_cons_self)
      · exact .inr (List.mem_cons_of_mem _ e)
    · rcases List.mem_cons.mp m with e | m
      · subst e; omega
      · exact h3 x m
theorem min_is {r : List Nat} {m : Nat} (hm : m ∈ r) (le : ∀ x ∈ r, m ≤ x) : minN r = m := by
  obtain ⟨h1, h2, h3⟩ := fold_min r (r.headD 0)
  have hh : r.headD 0 ∈ r := by
    cases r with
    | nil => cases hm
    | cons a r => exact List.mem_cons_self
  have : minN r ∈ r := by
    rcases h1 with e | e
    · unfold minN; rw [e]; exact hh
    · exact e
  have a := le _ this
  have b := h3 m hm
  unfold minN at *
  omega
abbrev WS := List Nat × List (List Nat) × Piles
def lastN (road : List Nat) : Nat := road.getLastD 0
def endedW (early : List Nat) (s : WS) : Prop := s.2.2.getD (lastN s.1) [] = [] ∨ lastN s.1 ∈ early
def toN (s : WS) : Nat := (s.2.2.getD (lastN s.1) []).headD 0
def nextW (s : WS) : WS := if toN s ∈ s.1 then (s.1.take (s.1.idxOf (toN s) + 1), s.2.1 ++ [leastN (s.1.drop (s.1.idxOf (toN s)))], popN s.2.2 (s.1.drop (s.1.idxOf (toN s)))) else (s.1 ++ [toN s], s.2.1, s.2.2)
/-- a walk to its end -/
inductive WRun (early : List Nat) : WS → WS → Prop
  | stop {s : WS} : endedW early s → WRun early s s
  | go {s t : WS} : ¬ endedW early s → WRun early (nextW s) t → WRun early s t
theorem WRun.det {early : List Nat} {s t u : WS} (a : WRun early s t) (b : WRun early s u) : t = u := by
  induction a with
  | stop h =>
    cases b with
    | stop _ => rfl
    | go h' _ => exact absurd h h'
  | go h _ ih =>
    cases b with
    | stop h' => exact absurd h' h
    | go _ b => exact ih b
structure GoodW (s : WS) : Prop where
  ne : s.1 ≠ []
  nd : s.1.Nodup
  bd : ∀ x ∈ s.1, x < s.2.2.length
  ok : PilesOk s.2.2
theorem last_mem {l : List Nat} (h : l ≠ []) : lastN l ∈ l := by
  unfold lastN
  rw [List.getLastD_eq_getLast?, List.getLast?_eq_some_getLast h]
  exact List.getLast_mem h
theorem GoodW.to {s : WS} (g : GoodW s) (h : s.2.2.getD (lastN s.1) [] ≠ []) : toN s < s.2.2.length := by
  have hl := g.bd _ (last_mem g.ne)
  unfold toN
  rw [List.getD_eq_getElem?_getD, List.getElem?_eq_getElem hl] at h ⊢
  have : (s.2.2[lastN s.1]) ≠ [] := h
  show (s.2.2[lastN s.1]).headD 0 < _
  cases e : s.2.2[lastN s.1] with
  | nil => exact absurd e this
  | cons a r => exact g.ok.bd _ (List.getElem_mem hl) a (by rw [e]; exact List.mem_cons_self)
theorem GoodW.next {early : List Nat} {s : WS} (g : GoodW s) (h : ¬ endedW early s) : GoodW (nextW s) ∧ 9 * sizeN (nextW s).2.2 + (8 - (nextW s).1.length) < 9 * sizeN s.2.2 + (8 - s.1.length) ∧ (nextW s).2.2.length = s.2.2.length := by
  have hne : s.2.2.getD (lastN s.1) [] ≠ [] := fun z => h (.inl z)
  have ht := g.to hne
  have l8 : s.1.length ≤ 8 := Nat.le_trans (nodup_bound _ s.1 g.nd g.bd) g.ok.len
  unfold nextW
  by_cases c : toN s ∈ s.1
  · rw [if_pos c]
    have hi := List.idxOf_lt_length_of_mem c
    refine ⟨⟨?_, g.nd.sublist (List.take_sublist _ _), fun x hx => ?_, g.ok.pop _⟩, ?_, popN_len _ _⟩
    · intro z
      have := congrArg List.length z
      rw [List.length_take, List.length_nil] at this
      omega
    · show x < (popN _ _).length
      rw [popN_len]
      exact g.bd x (List.mem_of_mem_take hx)
    · show 9 * sizeN (popN _ _) + (8 - (s.1.take _).length) < _
      have hl : lastN s.1 ∈ s.1.drop (s.1.idxOf (toN s)) := by
        have := last_mem (l := s.1.drop (s.1.idxOf (toN s))) (by intro z; have := congrArg List.length z; rw [List.length_drop] at this; simp at this; omega)
        have e : lastN (s.1.drop (s.1.idxOf (toN s))) = lastN s.1 := by
          unfold lastN
          rw [List.getLastD_eq_getLast?, List.getLastD_eq_getLast?, List.getLast?_drop, if_neg (by omega)]
        rw [e] at this
        exact this
      have lt := g.bd _ (last_mem g.ne)
      have := popAux_less (s.1.drop (s.1.idxOf (toN s))) s.2.2 0 (lastN s.1) (by rw [Nat.zero_add]; exact hl) ⟨_, List.getElem?_eq_getElem lt, by
        rw [List.getD_eq_getElem?_getD, List.getElem?_eq_getElem lt] at hne
        exact hne⟩
      have : sizeN (popN s.2.2 (s.1.drop (s.1.idxOf (toN s)))) < sizeN s.2.2 := this
      have : 0 < s.1.length := List.length_pos_iff.mpr g.ne
      rw [List.length_take]
      omega
  · rw [if_neg c]
    have nd' : (s.1 ++ [toN s]).Nodup := by
      rw [List.nodup_append]
      refine ⟨g.nd, by simp, fun x hx y hy e => ?_⟩
      have : y = toN s := by simpa using hy
      rw [e, this] at hx
      exact c hx
    have bd' : ∀ x ∈ s.1 ++ [toN s], x < s.2.2.length := fun x hx => by
      rcases List.mem_append.mp hx with z | z
      · exact g.bd x z
      · have : x = toN s := by simpa using z
        rw [this]; exact ht
    refine ⟨⟨by simp, nd', bd', g.ok⟩, ?_, rfl⟩
    have l8' : (s.1 ++ [toN s]).length ≤ 8 := Nat.le_trans (nodup_bound _ _ nd' bd') g.ok.len
    show 9 * sizeN s.2.2 + (8 - (s.1 ++ [toN s]).length) < _
    rw [List.length_append, List.length_singleton] at l8' ⊢
    omega
theorem GoodW.start {p : Piles} (ok : PilesOk p) {s : Nat} (h : s < p.length) : GoodW ([s], [], p) where
  ne := by simp
  nd := by simp
  bd := fun x hx => by
    have e : x = s := by simpa using hx
    rw [e]; exact h
  ok := ok
/-- start by start -/
inductive WSteps (p0 : Piles) : List Nat → List (List Nat) → List (List Nat) → Piles → Prop
  | nil : WSteps p0 [] [] [] p0
  | snoc {ss : List Nat} {roads rings rs : List (List Nat)} {p p' : Piles} {s : Nat} {road : List Nat} : WSteps p0 ss roads rings p → WRun roads.flatten ([s], [], p) (road, rs, p') → WSteps p0 (ss ++ [s]) (roads ++ [road]) (rings ++ rs) p'
theorem WSteps.last {p0 p : Piles} {ss : List Nat} {roads rings : List (List Nat)} (h : WSteps p0 ss roads rings p) : (ss = [] ∧ roads = [] ∧ rings = [] ∧ p = p0) ∨
    ∃ ss' s r' g' q road rs, ss = ss' ++ [s] ∧ roads = r' ++ [road] ∧ rings = g' ++ rs ∧ WSteps p0 ss' r' g' q ∧ WRun r'.flatten ([s], [], q) (road, rs, p) := by
  cases h with
  | nil => exact .inl ⟨rfl, rfl, rfl, rfl⟩
  | snoc a b => exact .inr ⟨_, _, _, _, _, _, _, rfl, rfl, rfl, a, b⟩
theorem WSteps.det {p0 : Piles} : ∀ (n : Nat) {ss : List Nat} {roads rings roads' rings' : List (List Nat)} {p p' : Piles}, ss.length = n → WSteps p0 ss roads rings p → WSteps p0 ss roads' rings' p' → roads = roads' ∧ rings = rings' ∧ p = p'
  | 0, ss, roads, rings, roads', rings', p, p', e, a, b => by
    have e0 := List.eq_nil_of_length_eq_zero e
    subst e0
    rcases a.last with ⟨_, rfl, rfl, rfl⟩ | ⟨_, _, _, _, _, _, _, z, _⟩
    · rcases b.last with ⟨_, rfl, rfl, rfl⟩ | ⟨_, _, _, _, _, _, _, z, _⟩
      · exact ⟨rfl, rfl, rfl⟩
      · simp at z
    · simp at z
  | n + 1, ss, roads, rings, roads', rings', p, p', e, a, b => by
    rcases a.last with ⟨rfl, _⟩ | ⟨ss1, s1, r1, g1, q1, road1, rs1, e1, rfl, rfl, a1, w1⟩
    · simp at e
    · rcases b.last with ⟨rfl, _⟩ | ⟨ss2, s2, r2, g2, q2, road2, rs2, e2, rfl, rfl, a2, w2⟩
      · simp at e
      · rw [e1] at e2
        obtain ⟨x1, x2⟩ := List.append_inj' e2 rfl
        cases x2
        subst x1
        rw [e1, List.length_append, List.length_singleton] at e
        obtain ⟨rfl, rfl, rfl⟩ := WSteps.det n (by omega) a1 a2
        have := w1.det w2
        cases this
        exact ⟨rfl, rfl, rfl⟩
end Ways

/-! ## walks lose rings of the tops, and all of them -/
namespace Ways
open Ring
theorem turn_one {es : List (Option Nat)} {t : List Nat} (h : t.map (nextE es) = (rot t).map some) : (rot t).map (nextE es) = (rot (rot t)).map some := by
  have e : ∀ {β : Type} (g : Nat → β) (u : List Nat), (rot u).map g = (u.map g).drop 1 ++ (u.map g).take 1 := fun g u => by
    unfold rot
    rw [List.map_append, List.map_drop, List.map_take]
  rw [e (nextE es) t, h, ← e some (rot t)]
theorem turn_more {es : List (Option Nat)} {r : List Nat} (h : r.map (nextE es) = (rot r).map some) : ∀ k, k ≤ r.length → (r.drop k ++ r.take k).map (nextE es) = (rot (r.drop k ++ r.take k)).map some
  | 0, _ => by rw [List.drop_zero, List.take_zero, List.append_nil]; exact h
  | k + 1, hk => by
    have ih := turn_one (turn_more h k (by omega))
    have e : rot (r.drop k ++ r.take k) = r.drop (k + 1) ++ r.take (k + 1) := by
      have hk' : k < r.length := by omega
      rw [List.drop_eq_getElem_cons hk', List.take_succ, List.getElem?_eq_getElem hk']
      show (r.drop (k + 1) ++ r.take k) ++ [r[k]] = _
      rw [List.append_assoc]; rfl
    rw [e] at ih
    exact ih
theorem least_mem {r : List Nat} {k : Nat} {x : Nat} : x ∈ r.drop k ++ r.take k ↔ x ∈ r := by
  rw [List.mem_append, Or.comm, ← List.mem_append, List.take_append_drop]
theorem least_nd {r : List Nat} (k : Nat) (h : r.Nodup) : (r.drop k ++ r.take k).Nodup := by
  have : (r.drop k ++ r.take k).Perm r := List.perm_append_comm.trans (List.Perm.of_eq (List.take_append_drop k r))
  exact this.nodup_iff.mpr h
theorem ring_least {es : List (Option Nat)} (hb : InB es) {r : List Nat} (ne : r ≠ []) (nd : r.Nodup) (bd : ∀ x ∈ r, x < es.length) (h : r.map (nextE es) = (rot r).map some) : leastN r ∈ ringsN es := by
  obtain ⟨m, hm, le⟩ := minOf r ne
  have em := min_is hm le
  have hi := List.idxOf_lt_length_of_mem hm
  unfold leastN
  rw [em]
  refine IsRing.mem hb ⟨fun z => ?_, least_nd _ nd, fun x hx => bd x (least_mem.mp hx), fun x hx => ?_, turn_more h _ (by omega)⟩
  · have := (least_mem (r := r) (k := r.idxOf m) (x := m)).mpr hm
    rw [z] at this
    cases this
  · rw [List.drop_eq_getElem_cons hi, List.getElem_idxOf]
    exact le x (least_mem.mp hx)
theorem pop_by {p : Piles} {r t : List Nat} (h : ∀ x, x ∈ r ↔ x ∈ t) : popN p r = popN p t := by
  refine List.ext_getElem? fun i => ?_
  rw [popN_at, popN_at]
  cases p[i]? with
  | none => rfl
  | some l => simp only [h i]
/-- a ring that touches a closed part lies in it -/
theorem ring_within {es : List (Option Nat)} {r A : List Nat} (i : IsRing es r) (cl : ∀ x ∈ A, ∀ y, nextE es x = some y → y ∈ A) {x : Nat} (hr : x ∈ r) (hA : x ∈ A) : ∀ y ∈ r, y ∈ A := by
  have hi := List.idxOf_lt_length_of_mem hr
  have e := turn_more i.next (r.idxOf x) (by omega)
  intro y hy
  have hy' := (least_mem (k := r.idxOf x)).mpr hy
  have h0 : (r.drop (r.idxOf x) ++ r.take (r.idxOf x))[0]? = some x := by
    rw [List.drop_eq_getElem_cons hi, List.getElem_idxOf]; rfl
  generalize r.drop (r.idxOf x) ++ r.take (r.idxOf x) = t at e hy' h0
  have key : ∀ (j z : Nat), t[j]? = some z → z ∈ A := by
    intro j
    induction j with
    | zero => intro z hz; rw [h0] at hz; cases hz; exact hA
    | succ j ih =>
      intro z hz
      have hj := (List.getElem?_eq_some_iff.mp hz).1
      have hw : t[j]? = some t[j] := List.getElem?_eq_getElem (by omega)
      have := congrArg (fun l => l[j]?) e
      simp only [List.getElem?_map, hw, Option.map_some, rot_at hj, hz] at this
      exact cl _ (ih _ hw) z (Option.some.inj this)
  obtain ⟨j, hj, rfl⟩ := List.mem_iff_getElem.mp hy'
  exact key j _ (List.getElem?_eq_getElem hj)
theorem ring_on {es : List (Option Nat)} {r : List Nat} (i : IsRing es r) {x : Nat} (hx : x ∈ r) : ∃ y, nextE es x = some y ∧ y ∈ r := by
  have hi := List.idxOf_lt_length_of_mem hx
  have hx2 : r[r.idxOf x]? = some x := by rw [List.getElem?_eq_getElem hi, List.getElem_idxOf]
  have e := congrArg (fun z => z[r.idxOf x]?) i.next
  simp only [List.getElem?_map, hx2, Option.map_some] at e
  cases c : (rot r)[r.idxOf x]? with
  | none => rw [c] at e; cases e
  | some y =>
    rw [c] at e
    refine ⟨y, Option.some.inj e, ?_⟩
    have := List.mem_of_getElem? c
    unfold rot at this
    rcases List.mem_append.mp this with z | z
    · exact List.mem_of_mem_drop z
    · exact List.mem_of_mem_take z
/-- a road follows the tops -/
def Chain (p : Piles) (road : List Nat) : Prop := ∀ i a b, road[i]? = some a → road[i + 1]? = some b → nextE (topsN p) a = some b
theorem last_at {l : List Nat} (h : l ≠ []) : l[l.length - 1]? = some (lastN l) := by
  unfold lastN
  rw [List.getLastD_eq_getLast?, List.getLast?_eq_getElem?]
  have : 0 < l.length := List.length_pos_iff.mpr h
  rw [List.getElem?_eq_getElem (by omega)]; rfl
theorem next_to {s : WS} (hl : lastN s.1 < s.2.2.length) (h : s.2.2.getD (lastN s.1) [] ≠ []) : nextE (topsN s.2.2) (lastN s.1) = some (toN s) := by
  unfold toN
  rw [topsN_next]
  rw [List.getD_eq_getElem?_getD, List.getElem?_eq_getElem hl] at h ⊢
  have h' : s.2.2[lastN s.1] ≠ [] := h
  show (s.2.2[lastN s.1]).head? = some ((s.2.2[lastN s.1]).headD 0)
  cases e : s.2.2[lastN s.1] with
  | nil => exact absurd e h'
  | cons a r => rfl
structure OnWay (early : List Nat) (s : WS) : Prop where
  good : GoodW s
  ch : Chain s.2.2 s.1
  off : ∀ i a, i + 1 < s.1.length → s.1[i]? = some a → a ∉ early
theorem OnWay.next {early : List Nat} {s : WS} (o : OnWay early s) (h : ¬ endedW early s) : OnWay early (nextW s) ∧ (nextW s).1[0]? = s.1[0]? ∧ ∃ rs, (nextW s).2.1 = s.2.1 ++ rs ∧ Pops s.2.2 rs (nextW s).2.2 ∧ ∀ x ∈ early, (nextW s).2.2[x]? = s.2.2[x]? := by
  have g := o.good
  have gn := (g.next h).1
  have hne : s.2.2.getD (lastN s.1) [] ≠ [] := fun z => h (.inl z)
  have hle : lastN s.1 ∉ early := fun z => h (.inr z)
  have hl := g.bd _ (last_mem g.ne)
  have nx := next_to hl hne
  have la := last_at g.ne
  have pos : 0 < s.1.length := List.length_pos_iff.mpr g.ne
  have off : ∀ a ∈ s.1, a ∉ early := fun a ma => by
    obtain ⟨i, hi, rfl⟩ := List.mem_iff_getElem.mp ma
    by_cases c : i + 1 < s.1.length
    · exact o.off i _ c (List.getElem?_eq_getElem hi)
    · have : i = s.1.length - 1 := by omega
      subst this
      rw [List.getElem?_eq_getElem hi] at la
      rw [Option.some.inj la]
      exact hle
  revert gn
  unfold nextW
  by_cases c : toN s ∈ s.1
  · rw [if_pos c]
    intro gn
    have hi := List.idxOf_lt_length_of_mem c
    have hx : s.1[s.1.idxOf (toN s)]? = some (toN s) := by rw [List.getElem?_eq_getElem hi, List.getElem_idxOf]
    generalize s.1.idxOf (toN s) = k at hi hx gn ⊢
    have nd' : (s.1.drop k).Nodup := g.nd.sublist (List.drop_sublist _ _)
    have dm : ∀ x ∈ s.1.drop k, x ∈ s.1 := fun x m => List.mem_of_mem_drop m
    have cyc : (s.1.drop k).map (nextE (topsN s.2.2)) = (rot (s.1.drop k)).map some := by
      have dl : (s.1.drop k).length = s.1.length - k := List.length_drop
      refine List.ext_getElem? fun i => ?_
      rw [List.getElem?_map, List.getElem?_map]
      by_cases h1 : i + 1 < (s.1.drop k).length
      · rw [rot_at h1, List.getElem?_drop, List.getElem?_drop]
        have a1 : k + i < s.1.length := by omega
        have a2 : k + i + 1 < s.1.length := by omega
        rw [show k + (i + 1) = k + i + 1 by omega, List.getElem?_eq_getElem a1, List.getElem?_eq_getElem a2, Option.map_some, Option.map_some]
        exact congrArg some (o.ch _ _ _ (List.getElem?_eq_getElem a1) (List.getElem?_eq_getElem a2))
      · by_cases h2 : i < (s.1.drop k).length
        · have ei : i = (s.1.drop k).length - 1 := by omega
          rw [ei, rot_last (by omega), List.getElem?_drop, List.getElem?_drop, dl, show k + (s.1.length - k - 1) = s.1.length - 1 by omega, la, Nat.add_zero, hx, Option.map_some, Option.map_some, nx]
        · have rl : (rot (s.1.drop k)).length = (s.1.drop k).length := by unfold rot; rw [List.length_append, List.length_drop, List.length_take]; omega
          rw [List.getElem?_eq_none (by omega), List.getElem?_eq_none (by omega)]; rfl
    have hr : leastN (s.1.drop k) ∈ ringsN (topsN s.2.2) := ring_least g.ok.inB (fun z => by have := congrArg List.length z; rw [List.length_drop, List.length_nil] at this; omega) nd' (fun x m => by rw [topsN_len]; exact g.bd x (dm x m)) cyc
    refine ⟨⟨gn, fun i a b ha hb => ?_, fun i a hi2 ha => ?_⟩, ?_, [leastN (s.1.drop k)], rfl, .cons hr ?_, fun x hx2 => pop_off fun z => off x (dm x z) hx2⟩
    · have ib : i + 1 < (s.1.take (k + 1)).length := (List.getElem?_eq_some_iff.mp hb).1
      rw [List.length_take] at ib
      have ha' : (s.1.take (k + 1))[i]? = some a := ha
      have hb' : (s.1.take (k + 1))[i + 1]? = some b := hb
      rw [List.getElem?_take_of_lt (by omega)] at ha' hb'
      have := o.ch i a b ha' hb'
      rw [topsN_next] at this ⊢
      show ((popN s.2.2 (s.1.drop k))[a]?).bind _ = _
      rw [pop_off fun z => ?_]
      · exact this
      · obtain ⟨j, hj, ej⟩ := List.mem_iff_getElem.mp z
        rw [List.length_drop] at hj
        rw [List.getElem_drop] at ej
        obtain ⟨hi3, ea⟩ := List.getElem?_eq_some_iff.mp ha'
        exact List.pairwise_iff_getElem.mp g.nd i (k + j) hi3 (by omega) (by omega) (ea.trans ej.symm)
    · have ha' : (s.1.take (k + 1))[i]? = some a := ha
      exact off a (List.mem_of_mem_take (List.mem_of_getElem? ha'))
    · show (s.1.take (k + 1))[0]? = _
      rw [List.getElem?_take_of_lt (by omega)]
    · have : popN s.2.2 (leastN (s.1.drop k)) = popN s.2.2 (s.1.drop k) := pop_by fun x => least_mem
      rw [this]
      exact .nil
  · rw [if_neg c]
    intro gn
    refine ⟨⟨gn, fun i a b ha hb => ?_, fun i a hi2 ha => ?_⟩, ?_, [], (List.append_nil _).symm, .nil, fun x _ => rfl⟩
    · have ha' : (s.1 ++ [toN s])[i]? = some a := ha
      have hb' : (s.1 ++ [toN s])[i + 1]? = some b := hb
      have ib := (List.getElem?_eq_some_iff.mp hb').1
      rw [List.length_append, List.length_singleton] at ib
      rw [List.getElem?_append_left (by omega)] at ha'
      by_cases e : i + 1 < s.1.length
      · rw [List.getElem?_append_left e] at hb'
        exact o.ch i a b ha' hb'
      · rw [List.getElem?_append_right (by omega), show i + 1 - s.1.length = 0 by omega] at hb'
        rw [show i = s.1.length - 1 by omega, la] at ha'
        cases ha'
        have hb2 : toN s = b := Option.some.inj hb'
        rw [← hb2]
        exact nx
    · have ha' : (s.1 ++ [toN s])[i]? = some a := ha
      have hi3 : i + 1 < (s.1 ++ [toN s]).length := hi2
      rw [List.length_append, List.length_singleton] at hi3
      rw [List.getElem?_append_left (by omega)] at ha'
      exact off a (List.mem_of_getElem? ha')
    · show (s.1 ++ [toN s])[0]? = _
      rw [List.getElem?_append_left pos]
theorem WRun.way {early : List Nat} {s t : WS} (w : WRun early s t) : OnWay early s → OnWay early t ∧ endedW early t ∧ t.1[0]? = s.1[0]? ∧ ∃ rs, t.2.1 = s.2.1 ++ rs ∧ Pops s.2.2 rs t.2.2 ∧ ∀ x ∈ early, t.2.2[x]? = s.2.2[x]? := by
  induction w with
  | stop h => exact fun o => ⟨o, h, rfl, [], (List.append_nil _).symm, .nil, fun _ _ => rfl⟩
  | go h _ ih =>
    intro o
    obtain ⟨o1, e1, rs1, a1, b1, c1⟩ := o.next h
    obtain ⟨o2, en, e2, rs2, a2, b2, c2⟩ := ih o1
    exact ⟨o2, en, e2.trans e1, rs1 ++ rs2, by rw [a2, a1, List.append_assoc], b1.append b2, fun x hx => (c2 x hx).trans (c1 x hx)⟩
/-- no ring is left on the roads -/
structure Cl (p : Piles) (A : List Nat) : Prop where
  cl : ∀ x ∈ A, ∀ y, nextE (topsN p) x = some y → y ∈ A
  no : ∀ r ∈ ringsN (topsN p), ∀ x ∈ r, x ∉ A
theorem Cl.step {q p : Piles} {A road : List Nat} {rs : List (List Nat)} (okq : PilesOk q) (okp : PilesOk p) (hl : q.length = p.length) (c : Cl q A) (same : ∀ x ∈ A, p[x]? = q[x]?) (o : OnWay A (road, rs, p)) (en : endedW A (road, rs, p)) : Cl p (A ++ road) := by
  have la := last_at o.good.ne
  have cA : ∀ x ∈ A, ∀ y, nextE (topsN p) x = some y → y ∈ A := fun x hx y hy => by
    rw [topsN_next, same x hx, ← topsN_next] at hy
    exact c.cl x hx y hy
  have noA : ∀ r ∈ ringsN (topsN p), ∀ x ∈ r, x ∉ A := fun r hr x hx hA => by
    have w := ring_within (rings_is okp.inB hr) cA hx hA
    exact c.no r (ring_keeps okp okq hl hr fun y hy => (same y (w y hy)).symm) x hx hA
  have lastn : ∀ y, nextE (topsN p) (lastN road) = some y → lastN road ∈ A := fun y hy => by
    rcases en with z | z
    · have z' : p.getD (lastN road) [] = [] := z
      have hb := o.good.bd _ (last_mem o.good.ne)
      have hb' : lastN road < p.length := hb
      rw [List.getD_eq_getElem?_getD, List.getElem?_eq_getElem hb'] at z'
      have z2 : p[lastN road] = [] := z'
      rw [topsN_next, List.getElem?_eq_getElem hb', Option.bind_some, z2] at hy
      cases hy
    · exact z
  refine ⟨fun x hx y hy => ?_, fun r hr x hx hA => ?_⟩
  · rcases List.mem_append.mp hx with z | z
    · exact List.mem_append_left _ (cA x z y hy)
    · obtain ⟨i, hi, rfl⟩ := List.mem_iff_getElem.mp z
      by_cases e : i + 1 < road.length
      · have := o.ch i _ _ (List.getElem?_eq_getElem hi) (List.getElem?_eq_getElem e)
        have e2 := this.symm.trans hy
        rw [← Option.some.inj e2]
        exact List.mem_append_right _ (List.getElem_mem e)
      · have ei : i = road.length - 1 := by omega
        subst ei
        have e3 : road[road.length - 1] = lastN road := by
          have la' : road[road.length - 1]? = some (lastN road) := la
          rw [List.getElem?_eq_getElem hi] at la'
          exact Option.some.inj la'
        rw [e3] at hy
        exact List.mem_append_left _ (cA _ (lastn y hy) y hy)
  · rcases List.mem_append.mp hA with z | z
    · exact noA r hr x hx z
    · have ir := rings_is okp.inB hr
      obtain ⟨i, hi, rfl⟩ := List.mem_iff_getElem.mp z
      have key : ∀ (j z : Nat), road[i + j]? = some z → z ∈ r := by
        intro j
        induction j with
        | zero => intro z hz; rw [Nat.add_zero, List.getElem?_eq_getElem hi] at hz; rw [← Option.some.inj hz]; exact hx
        | succ j ih =>
          intro z hz
          have hj := (List.getElem?_eq_some_iff.mp hz).1
          have hw : road[i + j]? = some (road[i + j]'(by omega)) := List.getElem?_eq_getElem (by omega)
          obtain ⟨y, hy, my⟩ := ring_on ir (ih _ hw)
          have := o.ch (i + j) _ z hw hz
          have e2 := this.symm.trans hy
          rw [Option.some.inj e2]
          exact my
      have lr : lastN road ∈ r := key (road.length - 1 - i) _ (by rw [show i + (road.length - 1 - i) = road.length - 1 by omega]; exact la)
      obtain ⟨y, hy, _⟩ := ring_on ir lr
      exact noA r hr _ lr (lastn y hy)
theorem WSteps.pops {p0 p : Piles} {ss : List Nat} {roads rings : List (List Nat)} (h : WSteps p0 ss roads rings p) : PilesOk p0 → (∀ s ∈ ss, s < p0.length) → Pops p0 rings p ∧ (∀ s ∈ ss, s ∈ roads.flatten) ∧ Cl p roads.flatten := by
  induction h with
  | nil => exact fun _ _ => ⟨.nil, fun _ m => (nomatch m), ⟨fun _ m => (nomatch m), fun _ _ _ _ m => (nomatch m)⟩⟩
  | @snoc ss roads rings rs p p' s road _ w ih =>
    intro ok hb
    obtain ⟨a, b, c⟩ := ih ok fun s m => hb s (List.mem_append_left _ m)
    obtain ⟨okp, lp, _⟩ := a.ok ok
    have hs : s < p.length := by rw [lp]; exact hb s (List.mem_append_right _ (by simp))
    obtain ⟨o, en, hd, rs', e1, a1, sm⟩ := w.way ⟨GoodW.start okp hs, fun i a b ha hb => by
      have hb' : [s][i + 1]? = some b := hb
      simp at hb', fun i a hi _ => by
      have hi' : i + 1 < [s].length := hi
      simp at hi'⟩
    have e1' : rs = rs' := by
      have : rs = [] ++ rs' := e1
      rw [this, List.nil_append]
    subst e1'
    have hd' : road[0]? = some s := hd
    have fl : (roads ++ [road]).flatten = roads.flatten ++ road := by rw [List.flatten_append, List.flatten_cons, List.flatten_nil, List.append_nil]
    rw [fl]
    refine ⟨a.append a1, fun x hx => ?_, c.step okp o.good.ok (by exact (a1.ok okp).2.1.symm) sm o en⟩
    rcases List.mem_append.mp hx with z | z
    · exact List.mem_append_left _ (b x z)
    · have : x = s := by simpa using z
      rw [this]
      exact List.mem_append_right _ (List.mem_of_getElem? hd')
theorem WSteps.out {p0 p : Piles} {ss : List Nat} {roads rings : List (List Nat)} (h : WSteps p0 ss roads rings p) (ok : PilesOk p0) (hb : ∀ s ∈ ss, s < p0.length) (all : ∀ x, x < p0.length → x ∈ ss) : Pops p0 rings p ∧ ringsN (topsN p) = [] := by
  obtain ⟨a, b, c⟩ := h.pops ok hb
  obtain ⟨okp, lp, _⟩ := a.ok ok
  refine ⟨a, List.eq_nil_iff_forall_not_mem.mpr fun r hr => ?_⟩
  have i := rings_is okp.inB hr
  obtain ⟨x, hx⟩ := List.exists_mem_of_ne_nil r i.ne
  have bx := i.bd x hx
  rw [topsN_len, lp] at bx
  exact c.no r hr x hx (b x (all x bx))
end Ways

/-! ## the text, its defs one by one -/
namespace L2
open PySem PySem.Spec PyProof.Rows
/-- a def of the text as the top has made it -/
def Here (K : PySem.W.Frag) (mg : Str → Option Value) (x : Str) (st : Stmt) (ps : List Str) : Prop := ∃ f fd, Fun K x x st f fd ∧ mg x = some (.ref f) ∧ Binds K fd ps []
theorem Here.mk {P : Program} {w : World} {K : PySem.W.Frag} {mg : Str → Option Value} {base : Heap} {x : Str} {st : Stmt} {ps : List Str} {k : Nat} {sp : Sp} (h : Here K mg x st ps) (ok : ∀ f fd, Fun K x x st f fd → FnOk P w K mg base CX0 k f fd ps sp) : Def P w K mg base x k ps sp := by
  obtain ⟨f, fd, F, m, b⟩ := h
  exact ⟨f, fd, ok f fd F, m, F.kp, b⟩
end L2
namespace Law
open PySem L2 Ways Ring PyProof.Rows
def top (i : Nat) : Stmt := PySem.Challenge.pw_ringpop_k22_whole_walks_pop_the_same.main.body.getD i (.Pass ⟨0, 0, 0, 0⟩)
abbrev s_way_along : Stmt := top 1
theorem sc_way_along : FnScope ["ends", "place", "way"] ["ends", "place"] (defScope s_way_along) := ⟨rfl, rfl, rfl, by decide +kernel, rfl, by decide +kernel, by decide +kernel⟩
abbrev s_copied : Stmt := top 3
theorem sc_copied : FnScope ["piles"] ["piles"] (defScope s_copied) := ⟨rfl, rfl, rfl, by decide +kernel, rfl, by decide +kernel, by decide +kernel⟩
abbrev s_tops_of : Stmt := top 4
theorem sc_tops_of : FnScope ["piles"] ["piles"] (defScope s_tops_of) := ⟨rfl, rfl, rfl, by decide +kernel, rfl, by decide +kernel, by decide +kernel⟩
abbrev s_rings_of : Stmt := top 5
theorem sc_rings_of : FnScope ["tops", "ways"] ["tops"] (defScope s_rings_of) := ⟨rfl, rfl, rfl, by decide +kernel, rfl, by decide +kernel, by decide +kernel⟩
abbrev s_least_first : Stmt := top 6
theorem sc_least_first : FnScope ["ring", "at"] ["ring"] (defScope s_least_first) := ⟨rfl, rfl, rfl, by decide +kernel, rfl, by decide +kernel, by decide +kernel⟩
abbrev s_without_tops : Stmt := top 7
theorem sc_without_tops : FnScope ["piles", "places"] ["piles", "places"] (defScope s_without_tops) := ⟨rfl, rfl, rfl, by decide +kernel, rfl, by decide +kernel, by decide +kernel⟩
abbrev s_walk_out : Stmt := top 10
theorem sc_walk_out : FnScope ["piles", "starts", "asked", "others", "walker", "start"] ["piles", "starts"] (defScope s_walk_out) := ⟨rfl, rfl, rfl, by decide +kernel, rfl, by decide +kernel, by decide +kernel⟩
abbrev s_top_rings : Stmt := top 12
theorem sc_top_rings : FnScope ["piles"] ["piles"] (defScope s_top_rings) := ⟨rfl, rfl, rfl, by decide +kernel, rfl, by decide +kernel, by decide +kernel⟩
abbrev s_number_at : Stmt := top 13
theorem sc_number_at : FnScope ["order", "turn"] ["order", "turn"] (defScope s_number_at) := ⟨rfl, rfl, rfl, by decide +kernel, rfl, by decide +kernel, by decide +kernel⟩
abbrev s_pop_out : Stmt := top 14
theorem sc_pop_out : FnScope ["piles", "order", "rings", "rest", "found", "ring"] ["piles", "order"] (defScope s_pop_out) := ⟨rfl, rfl, rfl, by decide +kernel, rfl, by decide +kernel, by decide +kernel⟩
abbrev s_marked_rings : Stmt := top 15
theorem sc_marked_rings : FnScope ["rings", "marked", "depths", "ring", "place"] ["rings"] (defScope s_marked_rings) := ⟨rfl, rfl, rfl, by decide +kernel, rfl, by decide +kernel, by decide +kernel⟩
abbrev s__law_fold : Stmt := top 17
theorem sc__law_fold : FnScope ["_law_script", "_law_number", "_law_cell"] ["_law_script", "_law_number"] (defScope s__law_fold) := ⟨rfl, rfl, rfl, by decide +kernel, rfl, by decide +kernel, by decide +kernel⟩
abbrev s__law_next : Stmt := top 18
theorem sc__law_next : FnScope ["_law_number"] ["_law_number"] (defScope s__law_next) := ⟨rfl, rfl, rfl, by decide +kernel, rfl, by decide +kernel, by decide +kernel⟩
abbrev s__law_numbers : Stmt := top 19
theorem sc__law_numbers : FnScope ["_law_script", "_law_seed", "_law_number", "_law_found", "_law_k"] ["_law_script", "_law_seed"] (defScope s__law_numbers) := ⟨rfl, rfl, rfl, by decide +kernel, rfl, by decide +kernel, by decide +kernel⟩
abbrev s__law_digits : Stmt := top 20
theorem sc__law_digits : FnScope ["_law_number", "_law_base", "_law_most", "_law_found"] ["_law_number", "_law_base", "_law_most"] (defScope s__law_digits) := ⟨rfl, rfl, rfl, by decide +kernel, rfl, by decide +kernel, by decide +kernel⟩
abbrev s__law_any : Stmt := top 21
theorem sc__law_any : FnScope ["_law_numbers_here", "_law_first", "_law_many", "_law_piles", "_law_bare", "_law_k", "_law_digit", "_law_place"] ["_law_numbers_here"] (defScope s__law_any) := ⟨rfl, rfl, rfl, by decide +kernel, rfl, by decide +kernel, by decide +kernel⟩
abbrev s__law_order : Stmt := top 22
theorem sc__law_order : FnScope ["_law_numbers_here", "_law_found", "_law_k"] ["_law_numbers_here"] (defScope s__law_order) := ⟨rfl, rfl, rfl, by decide +kernel, rfl, by decide +kernel, by decide +kernel⟩
abbrev s__law_each_a_ring : Stmt := top 23
theorem sc__law_each_a_ring : FnScope ["_law_piles", "_law_rings", "_law_rest", "_law_left", "_law_ring", "_law_place"] ["_law_piles", "_law_rings", "_law_rest"] (defScope s__law_each_a_ring) := ⟨rfl, rfl, rfl, by decide +kernel, rfl, by decide +kernel, by decide +kernel⟩
abbrev s_law : Stmt := top 24
theorem sc_law : FnScope ["_law_script", "_law_numbers_here", "_law_piles", "_law_order_here", "_law_starts", "_law_rings", "_law_rest", "_law_marks", "_law_some", "_law_roads", "_law_lost", "_law_left"] ["_law_script"] (defScope s_law) := ⟨rfl, rfl, rfl, by decide +kernel, rfl, by decide +kernel, by decide +kernel⟩
abbrev s_Walker___init__ : Stmt := inClass (top 9) 0
theorem sc_Walker___init__ : FnScope ["self", "piles"] ["self", "piles"] (defScope s_Walker___init__) := ⟨rfl, rfl, rfl, by decide +kernel, rfl, by decide +kernel, by decide +kernel⟩
abbrev s_Walker_ends_at : Stmt := inClass (top 9) 1
theorem sc_Walker_ends_at : FnScope ["self", "place"] ["self", "place"] (defScope s_Walker_ends_at) := ⟨rfl, rfl, rfl, by decide +kernel, rfl, by decide +kernel, by decide +kernel⟩
abbrev s_Walker_lose : Stmt := inClass (top 9) 2
theorem sc_Walker_lose : FnScope ["self", "ring"] ["self", "ring"] (defScope s_Walker_lose) := ⟨rfl, rfl, rfl, by decide +kernel, rfl, by decide +kernel, by decide +kernel⟩
abbrev s_Walker_walk_from : Stmt := inClass (top 9) 3
theorem sc_Walker_walk_from : FnScope ["self", "start", "road", "to", "at"] ["self", "start"] (defScope s_Walker_walk_from) := ⟨rfl, rfl, rfl, by decide +kernel, rfl, by decide +kernel, by decide +kernel⟩
structure OwnWalker (K : PySem.W.Frag) (mg : Str → Option Value) (C : Addr) : Prop where
  cl : L2.Cls K C
  g : mg "Walker" = some (.ref C)
  n_rest : NoAttr K C "rest"
  n_rings : NoAttr K C "rings"
  n_roads : NoAttr K C "roads"
structure Txt (mg : Str → Option Value) : Prop where
  z_abs : mg "abs" = none
  z_any : mg "any" = none
  z_enumerate : mg "enumerate" = none
  z_len : mg "len" = none
  z_list : mg "list" = none
  z_min : mg "min" = none
  z_range : mg "range" = none
  z_reversed : mg "reversed" = none
  z_sorted : mg "sorted" = none
section
variable {P : Program} {w : World} {K : PySem.W.Frag} {mg : Str → Option Value} {base : Heap}
def tyData : PyData → String
  | .none => "NoneType"
  | .bool _ => "bool"
  | .int _ => "int"
  | .str _ => "str"
  | .list _ => "list"
  | .tuple _ => "tuple"
  | .dict _ => "dict"
def isIntD : PyData → Bool
  | .int _ => true
  | _ => false

/-! ### taking data apart -/
theorem fm_some {α β : Type} (f : α → β) (l : List α) : l.filterMap (fun a => some (f a)) = l.map f := by
  induction l with
  | nil => rfl
  | cons a r ih => rw [List.filterMap_cons, List.map_cons, ih]
theorem rep_int {H : Hp} {x : V} {i : Int} (r : Rep H x (.int i)) : x = .int i := by cases r; rfl
theorem rep_list {H : Hp} {x : V} {ds : List PyData} (r : Rep H x (.list ds)) : ∃ a xs, x = .ref a ∧ H a = some (.lst xs) ∧ Reps H xs ds := by
  cases r with
  | @lst a xs _ e rs => exact ⟨a, xs, rfl, e, rs⟩
theorem reps_map {α : Type} {H : Hp} {f : α → PyData} {l : List α} {xs : List V} {i : Nat} {x : V} (rs : Reps H xs (l.map f)) (hx : xs[i]? = some x) : ∃ a, l[i]? = some a ∧ Rep H x (f a) := by
  obtain ⟨d, hd, r⟩ := rs.get hx
  rw [List.getElem?_map] at hd
  cases e : l[i]? with
  | none => rw [e] at hd; cases hd
  | some a =>
    rw [e] at hd
    cases hd
    exact ⟨a, rfl, r⟩
theorem iteB {b : Bool} {A B : Prop} (h1 : b = true → A) (h2 : b = false → B) : if b = true then A else B := by
  cases b with
  | true => rw [if_pos rfl]; exact h1 rfl
  | false => rw [if_neg Bool.false_ne_true]; exact h2 rfl
theorem iteD {c A B : Prop} [Decidable c] (h1 : c → A) (h2 : ¬ c → B) : if decide c = true then A else B := iteB (fun h => h1 (of_decide_eq_true h)) (fun h => h2 (of_decide_eq_false h))
theorem atI0 {α : Type} (x : α) (r : List α) : atI (x :: r) 0 = some x := atI_nat (j := 0) rfl
theorem lt_of_get {α : Type} {l : List α} {i : Nat} {x : α} (h : l[i]? = some x) : i < l.length := (List.getElem?_eq_some_iff.mp h).1

theorem inV_ints (e : Int) (l : List Int) : inV (.int e) (l.map V.int) = decide (e ∈ l) := by
  unfold inV
  rw [List.any_map]
  induction l with
  | nil => rfl
  | cons a r ih =>
    rw [List.any_cons, ih]
    show (a == e || decide (e ∈ r)) = decide (e ∈ a :: r)
    by_cases h : a = e
    · simp [h]
    · have h' : ¬ e = a := fun q => h q.symm
      simp [h, h']
/-! ### ways -/
def optV : Option Nat → V
  | none => .non
  | some e => .int e
def natsV (l : List Nat) : List V := l.map fun (n : Nat) => V.int (n : Int)
theorem optV_at {es : List (Option Nat)} {p : Nat} (h : p < es.length) : (es.map optV)[p]? = some (optV (nextE es p)) := by
  rw [List.getElem?_map, List.getElem?_eq_getElem h]
  unfold nextE
  rw [List.getElem?_eq_getElem h]
  rfl
theorem last_of {es : List (Option Nat)} {p : Nat} {way : List Nat} (wy : Way es p way) : ∃ l, way.getLast? = some l ∧ l < es.length ∧ atI (natsV way) (-1) = some (.int l) := by
  have hp := wy.pos
  obtain ⟨r, l, rfl⟩ : ∃ r l, way = r ++ [l] := by
    refine ⟨way.dropLast, way.getLast (by intro z; rw [z] at hp; exact Nat.lt_irrefl _ hp), ?_⟩
    exact (List.dropLast_concat_getLast _).symm
  refine ⟨l, by simp, wy.bd l (by simp), ?_⟩
  unfold natsV
  rw [List.map_append]
  exact atI_last _ _
theorem inV_nats (e : Nat) (l : List Nat) : inV (.int e) (natsV l) = decide (e ∈ l) := by
  have : natsV l = (l.map fun (n : Nat) => (n : Int)).map V.int := by unfold natsV; rw [List.map_map]; rfl
  rw [this, inV_ints]
  congr 1
  apply propext
  constructor
  · intro h
    obtain ⟨a, ha, e'⟩ := List.mem_map.mp h
    have : a = e := by omega
    exact this ▸ ha
  · intro h
    exact List.mem_map.mpr ⟨e, h, rfl⟩
theorem flat_nats (l : List Nat) : (natsV l).all flatV = true := by
  unfold natsV
  rw [List.all_map]
  exact List.all_eq_true.mpr fun _ _ => rfl
structure New (H F H' : Hp) : Prop where
  keep : Same H H'
  sub : Same F H'
  fresh : ∀ b o, F b = some o → H b = none
/-! ### flat lists -/
def flD : V → PyData
  | .bl b => .bool b
  | .int i => .int i
  | .str x => .str x
  | _ => .none
theorem ixN_nat {n j : Nat} (h : j < n) : ixN n (j : Int) = some j := by
  unfold ixN
  rw [if_pos (Int.natCast_nonneg j), if_pos (by omega)]
  simp
/-! ### lists of places -/
def natsD (l : List Nat) : PyData := .list (l.map fun (n : Nat) => .int (n : Int))
def ringsD (l : List (List Nat)) : PyData := .list (l.map natsD)
theorem reps_nats {H : Hp} : ∀ {l : List Nat} {xs : List V}, Reps H xs (l.map fun (n : Nat) => .int (n : Int)) → xs = natsV l
  | [], _, .nil => rfl
  | a :: l, _, .cons r t => by
    rw [rep_int r, reps_nats t]
    rfl
theorem nats_reps {H : Hp} : ∀ (l : List Nat), Reps H (natsV l) (l.map fun (n : Nat) => .int (n : Int))
  | [] => .nil
  | _ :: l => .cons (.int _) (nats_reps l)
theorem rep_nats {H : Hp} {x : V} {l : List Nat} (r : Rep H x (natsD l)) : ∃ b, x = .ref b ∧ H b = some (.lst (natsV l)) := by
  obtain ⟨b, xs, rfl, e, rs⟩ := rep_list r
  exact ⟨b, rfl, by rw [e, reps_nats rs]⟩
theorem nats_rep {H : Hp} {b : Addr} {l : List Nat} (h : H b = some (.lst (natsV l))) : Rep H (.ref b) (natsD l) := .lst h (nats_reps l)
theorem okTo_nats (l : List Nat) : okTo 1 (natsD l) := okTo.list fun d hd => by
  obtain ⟨a, _, rfl⟩ := List.mem_map.mp hd
  exact okTo.int _
theorem okTo_rings (l : List (List Nat)) : okTo 2 (ringsD l) := okTo.list fun d hd => by
  obtain ⟨a, _, rfl⟩ := List.mem_map.mp hd
  exact okTo_nats a
theorem eqv_nat (a b : Nat) : PyData.eqv (.int (a : Int)) (.int (b : Int)) = decide (a = b) := by
  rw [eqv_int]
  by_cases h : a = b
  · simp [h]
  · have : ¬ (a : Int) = b := by omega
    simp [h, this]
theorem eqv_nats (a b : List Nat) : PyData.eqv (natsD a) (natsD b) = decide (a = b) := by
  simp only [natsD, PyData.eqv]
  exact eqvAll_map eqv_nat a b
theorem eqv_rings (a b : List (List Nat)) : PyData.eqv (ringsD a) (ringsD b) = decide (a = b) := by
  simp only [ringsD, PyData.eqv]
  exact eqvAll_map eqv_nats a b
theorem optV_rep {H : Hp} : ∀ (o : Option Nat), Rep H (optV o) (optPy o)
  | none => .non
  | some e => .int e
theorem okTo_opt : ∀ (o : Option Nat), okTo 0 (optPy o)
  | none => okTo.none
  | some _ => okTo.int _
theorem eqv_opt (a b : Option Nat) : PyData.eqv (optPy a) (optPy b) = decide (a = b) := by
  cases a with
  | none => cases b <;> simp [optPy, PyData.eqv]
  | some a =>
    cases b with
    | none => simp [optPy, PyData.eqv]
    | some b =>
      rw [optPy, optPy, eqv_nat]
      simp
theorem natsV_len (l : List Nat) : (natsV l).length = l.length := by unfold natsV; rw [List.length_map]
theorem natsV_ints (l : List Nat) : natsV l = (l.map fun (n : Nat) => (n : Int)).map V.int := by unfold natsV; rw [List.map_map]; rfl
theorem natsV_append (a b : List Nat) : natsV (a ++ b) = natsV a ++ natsV b := by unfold natsV; rw [List.map_append]
theorem natsV_get {l : List Nat} {i : Nat} {x : V} (h : (natsV l)[i]? = some x) : ∃ n, l[i]? = some n ∧ x = .int (n : Int) := by
  unfold natsV at h
  rw [List.getElem?_map] at h
  cases e : l[i]? with
  | none => rw [e] at h; cases h
  | some n => rw [e] at h; exact ⟨n, rfl, (Option.some.inj h).symm⟩
/-- a new object joins what a view knows, while a block's list grows -/
theorem New.grow {H F G H4 : Hp} {D r : Addr} {ys : List V} {o : HO} (n : New H F G) (hG : G D = none) (hs : Same (upd G D (.lst ys)) H4) (hr : (upd G D (.lst ys)) r = none) (h4 : H4 r = some o) : New H (upd F r o) (del H4 D) := by
  have hrD : r ≠ D := by rintro rfl; rw [upd_same] at hr; cases hr
  have hGr : G r = none := by rw [upd_ne hrD] at hr; exact hr
  refine ⟨same_del n.keep hG hs, fun b u e => ?_, fun b u e => ?_⟩
  · by_cases hb : b = r
    · subst hb
      rw [upd_same] at e
      cases e
      rw [del_ne hrD]
      exact h4
    · rw [upd_ne hb] at e
      have e1 := n.sub b u e
      have nb : b ≠ D := ne_of_none e1 hG
      rw [del_ne nb]
      exact hs b u (by rw [upd_ne nb]; exact e1)
  · by_cases hb : b = r
    · subst hb
      exact n.keep.free hGr
    · rw [upd_ne hb] at e
      exact n.fresh b u e
theorem New.bare {H F G : Hp} {r : Addr} (n : New H F G) (h : G r = none) : F r = none := n.sub.free h
theorem New.start (H : Hp) : New H (fun _ => none) H := ⟨Same.refl _, (fun _ _ e => nomatch e), (fun _ _ e => nomatch e)⟩
/-- .. and the block's own list at its end -/
theorem New.done {H F G : Hp} {D : Addr} {o : HO} (n : New H F G) (hG : G D = none) : New H (upd F D o) (upd G D o) := by
  refine ⟨n.keep.trans (same_upd hG _), fun b u e => ?_, fun b u e => ?_⟩
  · by_cases hb : b = D
    · subst hb; rw [upd_same] at e ⊢; exact e
    · rw [upd_ne hb] at e ⊢; exact n.sub b u e
  · by_cases hb : b = D
    · subst hb; exact n.keep.free hG
    · rw [upd_ne hb] at e; exact n.fresh b u e
theorem New.more {H F G G' : Hp} (n : New H F G) (h : Same G G') : New H F G' := ⟨n.keep.trans h, n.sub.trans h, n.fresh⟩
end
end Law

namespace Law
open PySem L2 Ways Ring PyProof.Rows
section
variable {P : Program} {w : World} {K : PySem.W.Frag} {mg : Str → Option Value} {base : Heap}
def sp_way_along : Sp := fun vs H Q _ => ∃ a es p, vs = [.ref a, .int ((p : Nat) : Int)] ∧ H a = some (.lst (es.map optV)) ∧ InB es ∧ p < es.length ∧ es.length ≤ 8 ∧
  ∀ r H' way, Same H H' → H r = none → H' r = some (.lst (natsV way)) → Way es p way → Done es way → Q (.ref r) H'
theorem def_way_along (T : Txt mg) (h : Here K mg "way_along" s_way_along ["ends", "place"]) : Def P w K mg base "way_along" 1 ["ends", "place"] sp_way_along := h.mk fun f fd F => by
  have nd := sc_way_along.nd
  refine F.ok sc_way_along (fun vs H Q E h => ?_) (fun cdv A outer s H vs Q E hr h => ?_)
  · obtain ⟨a, es, p, rfl, _⟩ := h
    rfl
  obtain ⟨a, es, p, rfl, ha, hb, hp, hl, q⟩ := h
  refine ⟨_, pss_cons (ps_set (i := 2) nd rfl (Or.inl rfl) (pe_lst (pa_cons (pv 1) pa_nil)))
    (pss_cons (ps_while PassesOwn.never (PW.pt (pw_and (pt_cmp (pc_notN (pe_ix (ix_lt (K := K)) (pv 0) (pe_ix (ix_lt (K := K)) (pv 2) (pe_un un_neg pe_int) (fun _ _ => rfl)) (fun _ _ => rfl)))) (pw_and1 (pt_cmpR (op_notInK (K := K)) (pe_ix (ix_lt (K := K)) (pv 0) (pe_ix (ix_lt (K := K)) (pv 2) (pe_un un_neg pe_int) (fun _ _ => rfl)) (fun _ _ => rfl)) (pv 2) rfl))))
      (pss_one (ps_expr (pe_bm PySem.F.plainAttrs_list PySem.F.slot_list_append PySem.F.type_list_append mt_append (pv 2) (pa_cons (pe_ix (ix_lt (K := K)) (pv 0) (pe_ix (ix_lt (K := K)) (pv 2) (pe_un un_neg pe_int) (fun _ _ => rfl)) (fun _ _ => rfl)) pa_nil)))))
    (pss_one (ps_ret (pv 2)))), ?_⟩
  refine ⟨_, rfl, (by show 1 ≤ sizeLine; decide), fun r hr => ?_⟩
  have hne : ∀ {H' : Hp}, Same H H' → H' a = some (.lst (es.map optV)) := fun hs => hs _ _ ha
  refine ⟨fun m σ' H' => ∃ way, σ' = [some (.ref a), some (.int p), some (.ref r)] ∧ Same H H' ∧ H' r = some (.lst (natsV way)) ∧ Way es p way ∧ m = es.length - way.length,
    ⟨es.length - 1, [p], rfl, same_upd hr _, upd_same, Way.one hp, rfl⟩, ?_⟩
  rintro m σ' H' ⟨way, rfl, hs, hw, wy, rfl⟩
  obtain ⟨l, hlast, hlt, hat⟩ := last_of wy
  have ha' := hne hs
  have hen := optV_at hlt
  refine ⟨_, rfl, _, rfl, _, rfl, .inl ⟨r, _, -1, _, rfl, rfl, SqL.of hw, hat, .inl ⟨a, _, _, _, rfl, rfl, SqL.of ha', atI_nat hen, _, rfl, ?_⟩⟩⟩
  cases hn : nextE es l with
  | none => exact ⟨_, rfl, q r H' way hs hr hw wy ⟨l, hlast, .inl hn⟩⟩
  | some e =>
    rw [hn] at hen
    refine ⟨_, rfl, _, rfl, _, rfl, .inl ⟨r, _, -1, _, rfl, rfl, SqL.of hw, hat, .inl ⟨a, _, _, _, rfl, rfl, SqL.of ha', atI_nat hen, _, rfl, r, _, rfl, .inl (SqL.of hw), rfl, flat_nats _, _, rfl, ?_⟩⟩⟩
    show if (!inV (.int e) (natsV way)) = true then _ else _
    rw [inV_nats]
    refine iteB (fun c => ?_) (fun c => ?_)
    · have hq : e ∉ way := by simpa using c
      have wy2 := wy.more hlast hn hq hb
      have hl2 := wy2.len
      rw [List.length_append, List.length_singleton] at hl2
      refine ⟨fun σ' H' => ∃ way', σ' = [some (.ref a), some (.int p), some (.ref r)] ∧ Same H H' ∧ H' r = some (.lst (natsV way')) ∧ Way es p way' ∧ way'.length = way.length + 1, ?_, ?_⟩
      · rintro σ2 H2 ⟨way', e1, e2, e3, e4, e5⟩
        exact ⟨_, by omega, way', e1, e2, e3, e4, rfl⟩
      · refine ⟨_, rfl, .inl ⟨rfl, _, SqL.of hw⟩, _, rfl, _, rfl, _, rfl, .inl ⟨r, _, -1, _, rfl, rfl, SqL.of hw, hat, .inl ⟨a, _, _, _, rfl, rfl, SqL.of ha', atI_nat hen, r, _, _, rfl, rfl, hw, ?_, ?_⟩⟩⟩
        · unfold natsV
          rw [List.length_map]
          exact small1000 (by omega)
        · refine ⟨way ++ [e], rfl, ?_, ?_, wy2, by simp⟩
          · intro b o hbo
            rw [upd_ne (ne_of_none hbo hr)]
            exact hs b o hbo
          · rw [upd_same]
            unfold natsV
            rw [List.map_append]
            rfl
    · have hq : e ∈ way := by simpa using c
      exact ⟨_, rfl, q r H' way hs hr hw wy ⟨l, hlast, .inr ⟨e, hn, hq⟩⟩⟩

end
end Law

namespace Law
open PySem L2 Ways Ring PyProof.Rows
section
variable {P : Program} {w : World} {K : PySem.W.Frag} {mg : Str → Option Value} {base : Heap}
/-! ### the rings of tops -/
def sp_rings_of : Sp := fun vs H Q _ => ∃ a es, vs = [.ref a] ∧ H a = some (.lst (es.map optV)) ∧ InB es ∧ es.length ≤ 8 ∧ ∀ r F H', New H F H' → Rep F r (ringsD (ringsN es)) → Q r H'
theorem head_at {es : List (Option Nat)} {p : Nat} {way : List Nat} (w : Way es p way) : atI (natsV way) 0 = some (.int (p : Int)) := by
  have h := w.at 0 w.pos
  refine atI_nat (j := 0) ?_
  unfold natsV
  rw [List.getElem?_map, h]
  rfl
theorem def_rings_of (T : Txt mg) (D_way_along : Def P w K mg base "way_along" 1 ["ends", "place"] sp_way_along) (h : Here K mg "rings_of" s_rings_of ["tops"]) : Def P w K mg base "rings_of" 2 ["tops"] sp_rings_of := h.mk fun f fd F => by
  have nd := sc_rings_of.nd
  refine F.ok sc_rings_of (fun vs H Q E h => ?_) (fun cdv A outer s H vs Q E hr h => ?_)
  · obtain ⟨a, es, rfl, _⟩ := h
    rfl
  obtain ⟨a, es, rfl, ha, hb, hl, q⟩ := h
  refine ⟨_, pss_cons (ps_setC (i := 1) nd rfl rfl (N' := ["place", "tops"]) (cap := [none, some 0]) rfl ⟨rfl, rfl, rfl, rfl, rfl, rfl⟩ (pi_range1 rfl T.z_range (pa_cons (pe_callB (call_lenK (K := K)) rfl T.z_len PySem.boot_len (pa_cons (pv 0) pa_nil)) pa_nil)) (fun _ _ _ _ _ _ => ⟨pg_name (i := 0) (show (["place", "tops"] : List Str).Nodup by decide +kernel) rfl (Or.inl rfl) (Or.inr rfl), pifs_nil, pe_callD D_way_along hr rfl (pa_cons (pv 1) (pa_cons (pv 0) pa_nil))⟩) (keeps_name rfl))
    (pss_one (ps_ret (pe_comp (N' := ["way", "tops"]) (cap := [none, some 0]) rfl ⟨rfl, rfl, rfl, rfl, rfl, rfl⟩ (pi_listK (K := K) (pv 1)) (fun _ _ _ _ _ _ => ⟨pg_name (i := 0) (show (["way", "tops"] : List Str).Nodup by decide +kernel) rfl (Or.inl rfl) (Or.inr rfl), pifs_one (pt_chain (op_eqD hr) op_eq (pe_ix (ix_lt (K := K)) (pv 1) (pe_ix (ix_lt (K := K)) (pv 0) (pe_un un_neg pe_int) (fun _ _ => rfl)) (fun _ _ => rfl)) (pe_ix (ix_lt (K := K)) (pv 0) pe_int (fun _ _ => rfl)) (pe_callB (call_minK (K := K) rfl) rfl T.z_min boot_min (pa_cons (pv 0) pa_nil))), pv 0⟩) (keeps_name rfl)))), ?_⟩
  have hlen : (es.map optV).length = es.length := List.length_map _
  refine ⟨_, rfl, a, _, rfl, .inl (SqL.of ha), _, rfl, by omega, by omega, fun D hD => ?_⟩
  refine comp_range (lo := 0) (fun i G ys => ∃ F, New H F G ∧ Reps F ys ((List.range i).map fun p => natsD (wayOf es p))) hD ⟨_, New.start H, .nil⟩ (fun i G ys hi hG p => ?_) (fun G ys hG p => ?_)
  · obtain ⟨F, nw, rs⟩ := p
    rw [Int.zero_add]
    have hi' : i < es.length := by omega
    refine ⟨_, rfl, _, rfl, a, es, i, rfl, (nw.keep.trans (same_upd hG _)) _ _ ha, hb, hi', hl, fun r H' way hs hn hw wy dn => ?_⟩
    refine cput (ys := ys) (hs _ _ upd_same) (by have := rs.length; rw [List.length_map, List.length_range] at this; omega) ⟨_, nw.grow hG hs hn hw, ?_⟩
    have hrD : r ≠ D := by rintro rfl; rw [upd_same] at hn; cases hn
    rw [upd_ne hrD] at hn
    rw [List.range_succ, List.map_append, List.map_singleton, wayOf_is wy dn]
    exact (rs.mono (same_upd (nw.bare hn) _)).snoc (nats_rep upd_same)
  · obtain ⟨F, nw, rs⟩ := p
    have e : ((es.length : Nat) : Int).toNat = es.length := by omega
    rw [hlen, e] at rs
    have yl : ys.length = es.length := by rw [rs.length, List.length_map, List.length_range]
    refine ⟨_, rfl, D, rfl, ⟨ys, SqL.of upd_same⟩, fun D2 hD2 => ?_⟩
    have hG2 : G D2 = none := (same_upd hG _).free hD2
    refine comp_list (K := K) (xs := ys) (fun i G' ys' => Same (upd G D (.lst ys)) G' ∧ Reps F ys' (((List.range i).filterMap (ringAt es)).map natsD)) hD2 ⟨Same.refl _, .nil⟩ (fun i G' ys' p => SqL.of (p.1 _ _ upd_same)) (fun i x G' ys' hx hG' p => ?_) (fun G' ys' hG' p => ?_)
    · have hi : i < es.length := by have := lt_of_get hx; omega
      have hx' := rs.get hx
      rw [List.getElem?_map, List.getElem?_range hi] at hx'
      obtain ⟨d, hd, rx⟩ := hx'
      cases hd
      obtain ⟨b, rfl, eb⟩ := rep_nats rx
      obtain ⟨wy, dn⟩ := wayOf_way hb hi
      obtain ⟨l, hlast, hlt, hat⟩ := last_of wy
      have s1 : Same (upd G D (.lst ys)) (upd G' D2 (.lst ys')) := p.1.trans (same_upd hG' _)
      have sF : Same F (upd G' D2 (.lst ys')) := (nw.sub.trans (same_upd hG _)).trans s1
      have eb' := sF _ _ eb
      have ea' : (upd G' D2 (.lst ys')) a = some (.lst (es.map optV)) := s1 _ _ (same_upd hG _ _ _ (nw.keep _ _ ha))
      refine ⟨_, rfl, _, rfl, _, rfl, .inl ⟨b, _, -1, _, rfl, rfl, SqL.of eb', hat, .inl ⟨a, _, _, _, rfl, rfl, SqL.of ea', atI_nat (optV_at hlt), ?_⟩⟩⟩
      refine ⟨_, rfl, .inl ⟨b, _, 0, _, rfl, rfl, SqL.of eb', head_at wy, ?_⟩⟩
      refine ⟨optPy (nextE es l), .int (i : Int), optV_rep _, .int _, (okTo_opt _).shaped (by decide), (okTo.int _).shaped (by decide), _, rfl, ?_⟩
      have hc := wy.closed dn hlast
      rw [show (PyData.int (i : Int)) = optPy (some i) from rfl, eqv_opt]
      have yl' : ys'.length ≤ i := by
        rw [p.2.length, List.length_map]
        exact Nat.le_trans (List.length_filterMap_le _ _) (by rw [List.length_range]; exact Nat.le_refl _)
      have skip : ringAt es i = none → CAcc D2 (fun G' ys' => Same (upd G D (.lst ys)) G' ∧ Reps F ys' (((List.range (i + 1)).filterMap (ringAt es)).map natsD)) (upd G' D2 (.lst ys')) := fun hn => by
        refine cskip (ys := ys') upd_same ⟨same_del p.1 hG' (Same.refl _), ?_⟩
        rw [List.range_succ, List.filterMap_append]
        simp [hn]
        exact p.2
      refine iteD (fun c => ?_) (fun c => ?_)
      · have on := hc.mpr c
        refine ⟨_, rfl, b, (wayOf es i).map (fun (n : Nat) => (n : Int)), rfl, ?_, ?_, fun m hm hle => ?_⟩
        · rw [← natsV_ints]; exact SqL.of eb'
        · have := wy.pos
          intro z
          rw [List.map_eq_nil_iff] at z
          rw [z] at this
          exact Nat.lt_irrefl _ this
        obtain ⟨m, hm', rfl⟩ := List.mem_map.mp hm
        refine ⟨rfl, _, rfl, iteD (fun c2 => ?_) (fun c2 => ?_)⟩
        · have em : i = m := by injection c2 with z; omega
          subst em
          have hring : ringAt es i = some (wayOf es i) := by
            have cc : OnRing es i ∧ ∀ x ∈ wayOf es i, i ≤ x := ⟨on, fun x hx => by have := hle x (List.mem_map.mpr ⟨x, hx, rfl⟩); omega⟩
            unfold ringAt
            rw [if_pos cc]
          refine ⟨_, rfl, cput (ys := ys') upd_same (by omega) ⟨same_del p.1 hG' (Same.refl _), ?_⟩⟩
          rw [List.range_succ, List.filterMap_append]
          simp only [List.filterMap_cons, List.filterMap_nil, hring, List.map_append, List.map_cons, List.map_nil]
          exact p.2.snoc rx
        · refine skip ?_
          cases e : ringAt es i with
          | none => rfl
          | some r =>
            exfalso
            obtain ⟨_, ls, _⟩ := ringAt_some e
            have h1 := ls m hm'
            have h2 := hle i (List.mem_map.mpr ⟨i, List.mem_of_getElem? (wy.at 0 wy.pos), rfl⟩)
            exact c2 (by congr 1; omega)
      · refine ⟨_, rfl, skip ?_⟩
        cases e : ringAt es i with
        | none => rfl
        | some r => exact absurd (hc.mp (ringAt_some e).1) c
    · rw [yl] at p
      refine q _ (upd F D2 (.lst ys')) _ ?_ (.lst upd_same (p.2.mono (same_upd (nw.bare hG2) _)))
      exact (nw.more ((same_upd hG _).trans p.1)).done hG'
end
end Law

namespace Law
open PySem L2 Ways Ring PyProof.Rows
section
variable {P : Program} {w : World} {K : PySem.W.Frag} {mg : Str → Option Value} {base : Heap}
theorem reps_at {H : Hp} {xs : List V} {l : List (List Nat)} (rs : Reps H xs (l.map natsD)) {i : Nat} {x : V} (hx : xs[i]? = some x) : ∃ t b, l[i]? = some t ∧ x = .ref b ∧ H b = some (.lst (natsV t)) := by
  obtain ⟨t, ht, rt⟩ := reps_map rs hx
  obtain ⟨b, rfl, eb⟩ := rep_nats rt
  exact ⟨t, b, ht, rfl, eb⟩
/-! ### copied -/
def sp_copied : Sp := fun vs H Q _ => ∃ x l, vs = [x] ∧ Rep H x (ringsD l) ∧ l.length ≤ 900 ∧ ∀ r F H', New H F H' → Rep F r (ringsD l) → Q r H'
/-- a block of copies -/
theorem copies {cap : List (Option Nat)} {σ : L2.St} {Q : VK} {H : Hp} {a D : Addr} {xs : List V} {l : List (List Nat)} {te : TE} (ea : H a = some (.lst xs)) (rs : Reps H xs (l.map natsD)) (hl : l.length ≤ 900) (hD : H D = none)
    (ht : ∀ x G Q', (∃ b t, x = .ref b ∧ G b = some (.lst (natsV t)) ∧ ∀ c, G c = none → Q' (.ref c) (upd G c (.lst (natsV t)))) → te ((capt σ cap).set 0 (some x)) G Q')
    (fin : ∀ F G ys, G D = none → New H F G → Reps F ys (l.map natsD) → Q (.ref D) (upd G D (.lst ys))) : CompAt cap (gName 0) tTrue te σ Q (Itl K a) H D := by
  have xl : xs.length = l.length := by rw [rs.length, List.length_map]
  refine comp_list (K := K) (xs := xs) (fun i G ys => ∃ F', New H F' G ∧ Reps F' ys ((l.take i).map natsD)) hD ⟨_, New.start _, .nil⟩ (fun i G ys ⟨_, p, _⟩ => SqL.of (p.keep _ _ ea)) (fun i x G ys hx hG p => ?_) (fun G ys hG p => ?_)
  · obtain ⟨F', n', rs'⟩ := p
    obtain ⟨t, b, ht', rfl, eb⟩ := reps_at rs hx
    refine ht _ _ _ ⟨b, t, rfl, same_upd hG _ _ _ (n'.keep _ _ eb), fun c hc => ?_⟩
    refine cput (ys := ys) (same_upd hc _ _ _ upd_same) (by have := rs'.length; rw [List.length_map, List.length_take] at this; omega) ⟨_, n'.grow hG (same_upd hc _) hc upd_same, ?_⟩
    have hcD : c ≠ D := by rintro rfl; rw [upd_same] at hc; cases hc
    rw [upd_ne hcD] at hc
    rw [List.take_succ, ht', Option.toList_some, List.map_append, List.map_singleton]
    exact (rs'.mono (same_upd (n'.bare hc) _)).snoc (nats_rep upd_same)
  · obtain ⟨F', n', rs'⟩ := p
    rw [xl, List.take_length] at rs'
    exact fin F' G ys hG n' rs'
theorem def_copied (T : Txt mg) (h : Here K mg "copied" s_copied ["piles"]) : Def P w K mg base "copied" 1 ["piles"] sp_copied := h.mk fun f fd F => by
  have nd := sc_copied.nd
  refine F.ok sc_copied (fun vs H Q E h => ?_) (fun cdv A outer s H vs Q E hr h => ?_)
  · obtain ⟨x, l, rfl, _⟩ := h
    rfl
  obtain ⟨x, l, rfl, r, hl, q⟩ := h
  refine ⟨_, pss_one (ps_ret (pe_comp (N' := ["pile"]) (cap := [none]) rfl ⟨rfl, rfl, rfl, rfl, rfl, rfl⟩ (pi_listK (K := K) (pv 0)) (fun _ _ _ _ _ _ => ⟨pg_name (i := 0) (show (["pile"] : List Str).Nodup by decide +kernel) rfl (Or.inl rfl) (Or.inr rfl), pifs_nil, pe_callTy (call_listK (K := K)) rfl T.z_list boot_list (pa_cons (pv 0) pa_nil)⟩) (keeps_name rfl))), ?_⟩
  obtain ⟨a, xs, rfl, ea, rs⟩ := rep_list r
  refine ⟨_, rfl, a, rfl, ⟨xs, SqL.of ea⟩, fun D hD => ?_⟩
  refine copies ea rs hl hD (fun x G Q' ⟨b, t, e, eb, q'⟩ => ?_) (fun F G ys hG nw rs' => ?_)
  · subst e
    exact ⟨_, rfl, b, _, rfl, .inl (SqL.of eb), q'⟩
  · exact q _ (upd F D (.lst ys)) _ (nw.done hG) (.lst upd_same (rs'.mono (same_upd (nw.bare hG) _)))
/-! ### tops -/
def sp_tops_of : Sp := fun vs H Q _ => ∃ x l, vs = [x] ∧ Rep H x (ringsD l) ∧ l.length ≤ 900 ∧ ∀ r H', Same H H' → H r = none → H' r = some (.lst ((topsN l).map optV)) → Q (.ref r) H'
theorem def_tops_of (T : Txt mg) (h : Here K mg "tops_of" s_tops_of ["piles"]) : Def P w K mg base "tops_of" 1 ["piles"] sp_tops_of := h.mk fun f fd F => by
  have nd := sc_tops_of.nd
  refine F.ok sc_tops_of (fun vs H Q E h => ?_) (fun cdv A outer s H vs Q E hr h => ?_)
  · obtain ⟨x, l, rfl, _⟩ := h
    rfl
  obtain ⟨x, l, rfl, r, hl, q⟩ := h
  refine ⟨_, pss_one (ps_ret (pe_comp (N' := ["pile"]) (cap := [none]) rfl ⟨rfl, rfl, rfl, rfl, rfl, rfl⟩ (pi_listK (K := K) (pv 0)) (fun _ _ _ _ _ _ => ⟨pg_name (i := 0) (show (["pile"] : List Str).Nodup by decide +kernel) rfl (Or.inl rfl) (Or.inr rfl), pifs_nil, pe_ifExp (pt_truthK (K := K) (pv 0) (fun _ => rfl)) (pe_ix (ix_lt (K := K)) (pv 0) pe_int (fun _ _ => rfl)) pe_non⟩) (keeps_name rfl))), ?_⟩
  obtain ⟨a, xs, rfl, ea, rs⟩ := rep_list r
  have xl : xs.length = l.length := by rw [rs.length, List.length_map]
  refine ⟨_, rfl, a, rfl, ⟨xs, SqL.of ea⟩, fun D hD => ?_⟩
  refine comp_list (K := K) (xs := xs) (FlatP H fun i => (l[i]?).bind fun t => some (optV t.head?)) hD FlatP.zero (fun i G ys p => SqL.of (p.1 _ _ ea)) (fun i x G ys hx hG p => ?_) (fun G ys hG p => ?_)
  · obtain ⟨t, b, ht, rfl, eb⟩ := reps_at rs hx
    have eb' := same_upd hG (.lst ys) _ _ (p.1 _ _ eb)
    have hi := lt_of_get ht
    refine ⟨_, rfl, _, .inl ⟨_, SqL.of eb', rfl⟩, ?_⟩
    cases t with
    | nil => exact p.put hG (Same.refl _) (by rw [ht]; rfl) (by omega)
    | cons c t => exact ⟨_, rfl, .inl ⟨b, _, 0, _, rfl, rfl, SqL.of eb', atI0 _ _, p.put hG (Same.refl _) (by rw [ht]; rfl) (by omega)⟩⟩
  · refine q D _ (p.1.trans (same_upd hG _)) hD ?_
    rw [upd_same, p.2, xl, flat_list, fm_some]
    unfold topsN
    rw [List.map_map]
    rfl
/-! ### without the tops of some places -/
theorem cut_one (r : List Nat) : cutV (natsV r) (some 1) none = natsV (r.drop 1) := by
  cases r with
  | nil => rfl
  | cons a r =>
    unfold cutV HT.sIx natsV
    simp
    exact List.take_of_length_le (by simp)
def sp_without_tops : Sp := fun vs H Q _ => ∃ x y l c, vs = [x, y] ∧ Rep H x (ringsD l) ∧ Rep H y (natsD c) ∧ l.length ≤ 900 ∧ ∀ r F H', New H F H' → Rep F r (ringsD (popN l c)) → Q r H'
theorem def_without_tops (T : Txt mg) (h : Here K mg "without_tops" s_without_tops ["piles", "places"]) : Def P w K mg base "without_tops" 1 ["piles", "places"] sp_without_tops := h.mk fun f fd F => by
  have nd := sc_without_tops.nd
  refine F.ok sc_without_tops (fun vs H Q E h => ?_) (fun cdv A outer s H vs Q E hr h => ?_)
  · obtain ⟨x, y, l, c, rfl, _⟩ := h
    rfl
  obtain ⟨x, y, l, c, rfl, r, ry, hl, q⟩ := h
  refine ⟨_, pss_one (ps_ret (pe_comp (N' := ["place", "pile", "places"]) (cap := [none, none, some 1]) rfl ⟨rfl, rfl, rfl, rfl, rfl, rfl⟩ (pi_enumK (K := K) rfl T.z_enumerate (pa_cons (pv 0) pa_nil)) (fun _ _ _ _ _ _ => ⟨pg_tupK (K := K) rfl (pgs_cons (pg_name (i := 0) (show (["place", "pile", "places"] : List Str).Nodup by decide +kernel) rfl (Or.inl rfl) (Or.inr rfl)) (pgs_cons (pg_name (i := 1) (show (["place", "pile", "places"] : List Str).Nodup by decide +kernel) rfl (Or.inl rfl) (Or.inr rfl)) pgs_nil)), pifs_nil, pe_ifExp (pt_cmpR (op_inK (K := K)) (pv 0) (pv 2) rfl) (pe_slice (sl_listK (K := K)) (pv 1) (po_some pe_int) po_none) (pe_callTy (call_listK (K := K)) rfl T.z_list boot_list (pa_cons (pv 1) pa_nil))⟩) (keeps_two rfl rfl))), ?_⟩
  obtain ⟨a, xs, rfl, ea, rs⟩ := rep_list r
  obtain ⟨d, rfl, ed⟩ := rep_nats ry
  have xl : xs.length = l.length := by rw [rs.length, List.length_map]
  refine ⟨_, rfl, a, rfl, ⟨xs, SqL.of ea⟩, fun D hD => ?_⟩
  refine comp_enum (K := K) (xs := xs) (fun i G ys => ∃ F', New H F' G ∧ Reps F' ys (((popN l c).take i).map natsD)) hD ⟨_, New.start _, .nil⟩ (fun i G ys ⟨_, p, _⟩ => SqL.of (p.keep _ _ ea)) (fun i x U G ys hx hG hUD hU p => ?_) (fun G ys hG p => ?_)
  · obtain ⟨F', n', rs'⟩ := p
    obtain ⟨t, b, ht, rfl, eb⟩ := reps_at rs hx
    have hU1 : (upd G D (.lst ys)) U = none := by rw [upd_ne hUD]; exact hU
    have s1 : Same G (upd (upd G D (.lst ys)) U (.tup [.int (i : Int), .ref b])) := (same_upd hG _).trans (same_upd hU1 _)
    have hi := lt_of_get ht
    have yl : ys.length ≤ i := by have := rs'.length; rw [List.length_map, List.length_take, popN_len] at this; omega
    have hat := popN_at l c i
    rw [ht] at hat
    have fin : ∀ e, (upd (upd G D (.lst ys)) U (.tup [.int (i : Int), .ref b])) e = none → ∀ u, (popN l c)[i]? = some u → CPut D (fun G ys => ∃ F', New H F' G ∧ Reps F' ys (((popN l c).take (i + 1)).map natsD)) (.ref e) (upd (upd (upd G D (.lst ys)) U (.tup [.int (i : Int), .ref b])) e (.lst (natsV u))) := fun e he u hu => by
      have he1 : (upd G D (.lst ys)) e = none := (same_upd hU1 _).free he
      have hs : Same (upd G D (.lst ys)) (upd (upd (upd G D (.lst ys)) U (.tup [.int (i : Int), .ref b])) e (.lst (natsV u))) := (same_upd hU1 _).trans (same_upd he _)
      refine cput (ys := ys) (hs _ _ upd_same) (by omega) ⟨_, n'.grow hG hs he1 upd_same, ?_⟩
      have heD : e ≠ D := by rintro rfl; rw [upd_same] at he1; cases he1
      rw [upd_ne heD] at he1
      rw [List.take_succ, hu, Option.toList_some, List.map_append, List.map_singleton]
      exact (rs'.mono (same_upd (n'.bare he1) _)).snoc (nats_rep upd_same)
    refine ⟨U, _, rfl, SqT.of upd_same, rfl, _, _, rfl, _, _, rfl, rfl, ?_⟩
    have ed' := s1 _ _ (n'.keep _ _ ed)
    have eb' := s1 _ _ (n'.keep _ _ eb)
    refine ⟨_, rfl, _, rfl, d, _, rfl, .inl (SqL.of ed'), rfl, flat_nats _, _, rfl, ?_⟩
    show if inV (.int (i : Int)) (natsV c) = true then _ else _
    rw [inV_nats]
    refine iteD (fun hc => ?_) (fun hc => ?_)
    · refine ⟨_, rfl, _, rfl, b, _, rfl, SqL.of eb', fun e he => ?_⟩
      rw [cut_one]
      exact fin e he _ (by rw [hat, Option.map_some, if_pos hc])
    · refine ⟨_, rfl, b, _, rfl, .inl (SqL.of eb'), fun e he => ?_⟩
      exact fin e he _ (by rw [hat, Option.map_some, if_neg hc])
  · obtain ⟨F', n', rs'⟩ := p
    rw [xl, ← popN_len l c, List.take_length] at rs'
    exact q _ (upd F' D (.lst ys)) _ (n'.done hG) (.lst upd_same (rs'.mono (same_upd (n'.bare hG) _)))
/-! ### the rings of the tops of piles -/
theorem New.after {H H1 F H2 : Hp} (s : Same H H1) (n : New H1 F H2) : New H F H2 := ⟨s.trans n.keep, n.sub, fun b o e => s.free (n.fresh b o e)⟩
def sp_top_rings : Sp := fun vs H Q _ => ∃ x p, vs = [x] ∧ Rep H x (ringsD p) ∧ PilesOk p ∧ ∀ r F H', New H F H' → Rep F r (ringsD (ringsN (topsN p))) → Q r H'
theorem def_top_rings (T : Txt mg) (D_rings_of : Def P w K mg base "rings_of" 2 ["tops"] sp_rings_of) (D_tops_of : Def P w K mg base "tops_of" 1 ["piles"] sp_tops_of) (h : Here K mg "top_rings" s_top_rings ["piles"]) : Def P w K mg base "top_rings" 3 ["piles"] sp_top_rings := h.mk fun f fd F => by
  have nd := sc_top_rings.nd
  refine F.ok sc_top_rings (fun vs H Q E h => ?_) (fun cdv A outer s H vs Q E hr h => ?_)
  · obtain ⟨x, p, rfl, _⟩ := h
    rfl
  obtain ⟨x, p, rfl, r, ok, q⟩ := h
  refine ⟨_, pss_one (ps_ret (pe_callD D_rings_of hr rfl (pa_cons (pe_callD D_tops_of hr rfl (pa_cons (pv 0) pa_nil)) pa_nil))), ?_⟩
  have len8 := ok.len
  refine ⟨_, rfl, x, p, rfl, r, by omega, fun a H1 s1 hn ea => ?_⟩
  exact ⟨a, topsN p, rfl, ea, ok.inB, by rw [topsN_len]; exact ok.len, fun t F H2 nw rt => q t F H2 (New.after s1 nw) rt⟩
/-! ### the order's next number -/
def OrdV (H : Hp) (v : V) (o : Option (List Int)) : Prop := match o with
  | none => v = .non
  | some l => ∃ a, v = .ref a ∧ H a = some (.lst (l.map V.int))
theorem OrdV.mono {H H' : Hp} {v : V} {o : Option (List Int)} (s : Same H H') (h : OrdV H v o) : OrdV H' v o := by
  cases o with
  | none => exact h
  | some l =>
    obtain ⟨a, e, ea⟩ := h
    exact ⟨a, e, s _ _ ea⟩
def sp_number_at : Sp := fun vs H Q _ => ∃ v o t, vs = [v, .int ((t : Nat) : Int)] ∧ OrdV H v o ∧ Q (.int (numN o t)) H
theorem def_number_at (T : Txt mg) (h : Here K mg "number_at" s_number_at ["order", "turn"]) : Def P w K mg base "number_at" 1 ["order", "turn"] sp_number_at := h.mk fun f fd F => by
  have nd := sc_number_at.nd
  refine F.ok sc_number_at (fun vs H Q E h => ?_) (fun cdv A outer s H vs Q E hr h => ?_)
  · obtain ⟨v, o, t, rfl, _⟩ := h
    rfl
  obtain ⟨v, o, t, rfl, ho, q⟩ := h
  refine ⟨_, pss_cons (ps_if (PW.pt (pw_or (pt_cmp (pc_isN (pv 0))) (pw_or1 (pt_cmpR op_ge (pv 1) (pe_callB (call_lenK (K := K)) rfl T.z_len PySem.boot_len (pa_cons (pv 0) pa_nil)) (nomark _)))))
      (pss_one (ps_ret pe_int))
      (pss_nil))
    (pss_one (ps_ret (pe_ix (ix_lt (K := K)) (pv 0) (pv 1) (fun _ _ => rfl)))), ?_⟩
  cases o with
  | none =>
    cases (show v = .non from ho)
    exact ⟨_, rfl, _, rfl, q⟩
  | some l =>
    obtain ⟨a, rfl, ea⟩ := ho
    refine ⟨_, rfl, _, rfl, ?_⟩
    refine ⟨_, rfl, _, rfl, a, _, rfl, .inl (SqL.of ea), _, _, rfl, rfl, _, rfl, ?_⟩
    rw [List.length_map]
    have q' : Q (.int (l.getD t 0)) H := q
    refine iteD (fun c => ?_) (fun c => ?_)
    · rw [List.getD_eq_getElem?_getD, List.getElem?_eq_none (by omega)] at q'
      exact q'
    · have ht : t < l.length := by omega
      rw [List.getD_eq_getElem?_getD, List.getElem?_eq_getElem ht] at q'
      exact ⟨_, rfl, _, rfl, .inl ⟨a, _, _, _, rfl, rfl, SqL.of ea, atI_nat (j := t) (by rw [List.getElem?_map, List.getElem?_eq_getElem ht]; rfl), q'⟩⟩
end
end Law

namespace Law
open PySem L2 Ways Ring PyProof.Rows
section
variable {P : Program} {w : World} {K : PySem.W.Frag} {mg : Str → Option Value} {base : Heap}
/-! ### two views in one -/
def both (F G : Hp) : Hp := fun b => match F b with
  | some o => some o
  | none => G b
theorem both_left {F G : Hp} : Same F (both F G) := fun b o e => by unfold both; rw [e]
theorem both_right {F G : Hp} (h : ∀ b o, G b = some o → F b = none) : Same G (both F G) := fun b o e => by unfold both; rw [h b o e]; exact e
theorem both_none {F G : Hp} {b : Addr} (h1 : F b = none) (h2 : G b = none) : both F G b = none := by unfold both; rw [h1]; exact h2
theorem both_or {F G : Hp} {b : Addr} {o : HO} (h : both F G b = some o) : F b = some o ∨ (F b = none ∧ G b = some o) := by
  unfold both at h
  cases e : F b with
  | some u => rw [e] at h; exact .inl h
  | none => rw [e] at h; exact .inr ⟨rfl, h⟩
theorem New.join {H F H1 F2 H2 : Hp} (n : New H F H1) (m : New H1 F2 H2) : New H (both F F2) H2 ∧ Same F2 (both F F2) := by
  have dis : ∀ b o, F2 b = some o → F b = none := fun b o e => n.sub.free (m.fresh b o e)
  refine ⟨⟨n.keep.trans m.keep, fun b o e => ?_, fun b o e => ?_⟩, both_right dis⟩
  · rcases both_or e with z | ⟨_, z⟩
    · exact m.keep _ _ (n.sub _ _ z)
    · exact m.sub _ _ z
  · rcases both_or e with z | ⟨_, z⟩
    · exact n.fresh _ _ z
    · exact n.keep.free (m.fresh _ _ z)
theorem New.write {H F G : Hp} {p : Addr} (n : New H F G) (hF : F p = none) (hH : H p = none) (o : HO) : New H F (upd G p o) :=
  ⟨fun b u e => by rw [upd_ne (ne_of_none e hH)]; exact n.keep b u e, fun b u e => by rw [upd_ne (ne_of_none e hF)]; exact n.sub b u e, n.fresh⟩
theorem New.see {H F G : Hp} {p : Addr} {o : HO} (n : New H F G) (hG : G p = some o) (hF : F p = none) (hH : H p = none) : New H (upd F p o) G := by
  refine ⟨n.keep, fun b u e => ?_, fun b u e => ?_⟩
  · by_cases hb : b = p
    · subst hb; rw [upd_same] at e; cases e; exact hG
    · rw [upd_ne hb] at e; exact n.sub b u e
  · by_cases hb : b = p
    · subst hb; exact hH
    · rw [upd_ne hb] at e; exact n.fresh b u e
theorem New.lay {H F G : Hp} {p : Addr} (n : New H F G) (hG : G p = none) (o : HO) : New H F (upd G p o) := n.more (same_upd hG o)
/-! ### popped out -/
def outD (rs : List (List Nat)) (p : Piles) : PyData := .tuple [ringsD rs, ringsD p]
structure PopAt (H H' : Hp) (num : Nat → Int) (p0 : Piles) (pR : Addr) (rest found : V) (F : Hp) (ys : List V) (rs : List (List Nat)) (p : Piles) : Prop where
  nw : New H F H'
  at' : H' pR = some (.lst ys)
  no : F pR = none
  hno : H pR = none
  rep : Reps F ys (rs.map natsD)
  rest : Rep F rest (ringsD p)
  found : Rep F found (ringsD (ringsN (topsN p)))
  steps : Steps num p0 rs p
def sp_pop_out : Sp := fun vs H Q _ => ∃ x v p o, vs = [x, v] ∧ Rep H x (ringsD p) ∧ PilesOk p ∧ OrdV H v o ∧ ∀ rs rest r F H', Out (numN o) p rs rest → New H F H' → Rep F r (outD rs rest) → Q r H'
theorem def_pop_out (T : Txt mg) (D_copied : Def P w K mg base "copied" 1 ["piles"] sp_copied) (D_top_rings : Def P w K mg base "top_rings" 3 ["piles"] sp_top_rings) (D_number_at : Def P w K mg base "number_at" 1 ["order", "turn"] sp_number_at)
    (D_without_tops : Def P w K mg base "without_tops" 1 ["piles", "places"] sp_without_tops) (h : HereD K mg "pop_out" s_pop_out ["piles", "order"] [.none]) : Def P w K mg base "pop_out" 4 ["piles", "order"] sp_pop_out ∧ DefS P w K mg base "pop_out" 4 ["piles", "order"] [.none] sp_pop_out := h.mk fun f fd F => by
  have nd := sc_pop_out.nd
  refine F.ok sc_pop_out (fun vs H Q E h => ?_) (fun cdv A outer s H vs Q E hr h => ?_)
  · obtain ⟨x, v, p, o, rfl, _⟩ := h
    rfl
  obtain ⟨x, v, p0, o, rfl, r, ok, ho, q⟩ := h
  refine ⟨_, pss_cons (ps_set (i := 2) nd rfl (Or.inl rfl) (pe_lst pa_nil))
    (pss_cons (ps_set (i := 3) nd rfl (Or.inl rfl) (pe_callD D_copied hr rfl (pa_cons (pv 0) pa_nil)))
    (pss_cons (ps_set (i := 4) nd rfl (Or.inl rfl) (pe_callD D_top_rings hr rfl (pa_cons (pv 3) pa_nil)))
    (pss_cons (ps_while PassesOwn.never (pt_truthK (K := K) (pv 4) (fun _ => rfl))
      (pss_cons (ps_set (i := 5) nd rfl (Or.inl rfl) (pe_ix (ix_lt (K := K)) (pv 4) (pe_op op_mod (pe_callD D_number_at hr rfl (pa_cons (pv 1) (pa_cons (pe_callB (call_lenK (K := K)) rfl T.z_len PySem.boot_len (pa_cons (pv 2) pa_nil)) pa_nil))) (pe_callB (call_lenK (K := K)) rfl T.z_len PySem.boot_len (pa_cons (pv 4) pa_nil))) (fun _ _ => rfl)))
      (pss_cons (ps_expr (pe_bm PySem.F.plainAttrs_list PySem.F.slot_list_append PySem.F.type_list_append mt_append (pv 2) (pa_cons (pv 5) pa_nil)))
      (pss_cons (ps_set (i := 3) nd rfl (Or.inl rfl) (pe_callD D_without_tops hr rfl (pa_cons (pv 3) (pa_cons (pv 5) pa_nil))))
      (pss_one (ps_set (i := 4) nd rfl (Or.inl rfl) (pe_callD D_top_rings hr rfl (pa_cons (pv 3) pa_nil))))))))
    (pss_one (ps_ret (pe_tup (pa_cons (pv 2) (pa_cons (pv 3) pa_nil)))))))), ?_⟩
  have len8 := ok.len
  refine ⟨Nat.zero_le _, fun pR hR => ?_⟩
  have s1 := same_upd hR (HO.lst [])
  refine ⟨_, rfl, x, p0, rfl, r.mono s1, by omega, fun rv F1 H1 n1 r1 => ?_⟩
  have eR1 := n1.keep pR (HO.lst []) upd_same
  refine ⟨_, rfl, rv, p0, rfl, r1.mono n1.sub, ok, fun fv F2 H2 n2 r2 => ?_⟩
  obtain ⟨n12, k2⟩ := n1.join n2
  have start : PopAt H H2 (numN o) p0 pR rv fv (both F1 F2) [] [] p0 := by
    refine ⟨New.after s1 n12, n2.keep _ _ eR1, ?_, hR, .nil, r1.mono both_left, r2.mono k2, .nil⟩
    refine both_none ?_ ?_
    · cases e : F1 pR with
      | none => rfl
      | some u => have := n1.fresh _ _ e; rw [upd_same] at this; cases this
    · cases e : F2 pR with
      | none => rfl
      | some u => have := n2.fresh _ _ e; rw [eR1] at this; cases this
  refine ⟨fun m σ' H' => ∃ (rest found : V) (c5 : Option V) (F : Hp) (ys : List V) (rs : List (List Nat)) (p : Piles), σ' = [some x, some v, some (.ref pR), some rest, some found, c5] ∧ PopAt H H' (numN o) p0 pR rest found F ys rs p ∧ m = sizeN p,
    ⟨sizeN p0, rv, fv, none, _, _, _, _, rfl, start, rfl⟩, ?_⟩
  clear start n12 k2 r2 n2 eR1 r1 n1 F1 F2 H1 H2
  rintro m σ' H' ⟨rest, found, c5, F, ys, rs, p, rfl, B, rfl⟩
  obtain ⟨okp, _, hsz⟩ := B.steps.ok ok
  obtain ⟨fa, fx, rfl, ef, rf⟩ := rep_list B.found
  have ef' := B.nw.sub _ _ ef
  have fl : fx.length = (ringsN (topsN p)).length := by rw [rf.length, List.length_map]
  have few := ok.few
  have rsl : ys.length = rs.length := by rw [B.rep.length, List.length_map]
  refine ⟨_, rfl, _, .inl ⟨_, SqL.of ef', rfl⟩, ?_⟩
  refine iteB (fun c => ?_) (fun c => ?_)
  · have hne : ringsN (topsN p) ≠ [] := by
      intro z
      rw [z] at fl
      cases fx with
      | nil => simp at c
      | cons _ _ => simp at fl
    have hlt := pick_lt (num := numN o) (t := rs.length) hne
    have hpos : 0 < (ringsN (topsN p)).length := List.length_pos_iff.mpr hne
    refine ⟨fun σ' H' => ∃ (rest found : V) (c5 : Option V) (F : Hp) (ys : List V) (rs : List (List Nat)) (p' : Piles), σ' = [some x, some v, some (.ref pR), some rest, some found, c5] ∧ PopAt H H' (numN o) p0 pR rest found F ys rs p' ∧ sizeN p' < sizeN p, ?_, ?_⟩
    · rintro σ2 H2 ⟨rest, found, c5, F, ys, rs, p', e, B', hl⟩
      exact ⟨_, hl, rest, found, c5, F, ys, rs, p', e, B', rfl⟩
    · refine ⟨_, rfl, _, rfl, _, rfl, pR, _, rfl, .inl (SqL.of B.at'), v, o, _, rfl, ho.mono B.nw.keep, ?_⟩
      refine ⟨_, rfl, fa, _, rfl, .inl (SqL.of ef'), _, _, rfl, rfl, by omega, ?_⟩
      have hidx : numN o ys.length % (fx.length : Int) = (((numN o rs.length % ((ringsN (topsN p)).length : Int)).toNat : Nat) : Int) := by
        rw [rsl, fl]
        have := Int.emod_nonneg (numN o rs.length) (show ((ringsN (topsN p)).length : Int) ≠ 0 by omega)
        omega
      have hx : fx[(numN o rs.length % ((ringsN (topsN p)).length : Int)).toNat]? = some fx[(numN o rs.length % ((ringsN (topsN p)).length : Int)).toNat] := List.getElem?_eq_getElem (by omega)
      obtain ⟨t, b, ht, hb, eb⟩ := reps_at rf hx
      have hpick : pick (numN o) rs.length (ringsN (topsN p)) = t := by
        unfold pick
        rw [List.getD_eq_getElem?_getD, ht]
        rfl
      have hat : atI fx (numN o ys.length % (fx.length : Int)) = some (.ref b) := by rw [hidx, ← hb]; exact atI_nat hx
      refine .inl ⟨fa, _, _, _, rfl, rfl, SqL.of ef', hat, ?_⟩
      -- rings.append(ring)
      refine ⟨_, rfl, .inl ⟨rfl, _, SqL.of B.at'⟩, _, rfl, pR, _, _, rfl, rfl, B.at', small1000 (by omega), ?_⟩
      have nA := B.nw.write B.no B.hno (.lst (ys ++ [.ref b]))
      have eA : (upd H' pR (.lst (ys ++ [.ref b]))) pR = some (.lst (ys ++ [.ref b])) := upd_same
      -- rest
      refine ⟨_, rfl, _, rfl, rest, .ref b, p, t, rfl, B.rest.mono nA.sub, nats_rep (nA.sub _ _ eb), by have := okp.len; omega, fun rv F1 H1 n1 r1 => ?_⟩
      obtain ⟨n2, k2⟩ := nA.join n1
      have okt : PilesOk (popN p t) := okp.pop t
      refine ⟨_, rfl, rv, popN p t, rfl, r1.mono n1.sub, okt, fun fv F3 H3 n3 r3 => ?_⟩
      obtain ⟨n4, k4⟩ := n2.join n3
      refine ⟨rv, fv, _, both (both F F1) F3, _, rs ++ [t], popN p t, rfl, ⟨n4, n3.keep _ _ (n1.keep _ _ eA), ?_, B.hno, ?_, r1.mono (k2.trans both_left), r3.mono k4, ?_⟩, ?_⟩
      · refine both_none (both_none B.no ?_) ?_
        · cases e : F1 pR with
          | none => rfl
          | some u => have := n1.fresh _ _ e; rw [eA] at this; cases this
        · cases e : F3 pR with
          | none => rfl
          | some u => have := n3.fresh _ _ e; rw [n1.keep _ _ eA] at this; cases this
      · rw [List.map_append]
        exact (B.rep.mono (both_left.trans both_left)).snoc ((nats_rep eb).mono (both_left.trans both_left))
      · have := B.steps.snoc hne
        rw [hpick] at this
        exact this
      · have := pop_less okp.inB (pick_mem (num := numN o) (t := rs.length) hne)
        rw [hpick] at this
        exact this
  · have hnil : ringsN (topsN p) = [] := by
      have : fx = [] := by
        cases fx with
        | nil => rfl
        | cons _ _ => simp at c
      rw [this] at fl
      exact List.eq_nil_of_length_eq_zero fl.symm
    refine ⟨_, rfl, _, rfl, (by show 2 ≤ sizeLine; decide), fun t ht => ?_⟩
    have htR : t ≠ pR := fun z => by rw [z, B.at'] at ht; cases ht
    have htF : F t = none := B.nw.sub.free ht
    have n1 := (B.nw.lay ht (.tup [.ref pR, rest])).see upd_same htF (B.nw.keep.free ht)
    have n2 := n1.see (p := pR) (o := .lst ys) (by rw [upd_ne (Ne.symm htR)]; exact B.at') (by rw [upd_ne (Ne.symm htR)]; exact B.no) B.hno
    have k1 : Same F (upd (upd F t (.tup [.ref pR, rest])) pR (.lst ys)) := (same_upd htF _).trans (same_upd (by rw [upd_ne (Ne.symm htR)]; exact B.no) _)
    refine q rs p (.ref t) _ _ ⟨B.steps, hnil⟩ n2 (.tup (by rw [upd_ne htR]; exact upd_same) (.cons (.lst upd_same (B.rep.mono k1)) (.cons (B.rest.mono k1) .nil)))
end
end Law

namespace Law
open PySem L2 Ways Ring PyProof.Rows
section
variable {P : Program} {w : World} {K : PySem.W.Frag} {mg : Str → Option Value} {base : Heap}
/-! ### piles that are being filled: each in a list of its own -/
structure AnyAt (H H' : Hp) (pP : Addr) (ad : List Addr) (p : Piles) : Prop where
  keep : Same H H'
  at' : H' pP = some (.lst (ad.map V.ref))
  hp : H pP = none
  nd : ad.Nodup
  np : pP ∉ ad
  hn : ∀ b ∈ ad, H b = none
  len : ad.length = p.length
  rep : ∀ (i : Nat) (b : Addr) (t : List Nat), ad[i]? = some b → p[i]? = some t → H' b = some (.lst (natsV t))
theorem AnyAt.put {H H' : Hp} {pP b : Addr} {ad : List Addr} {p : Piles} {j : Nat} {t t' : List Nat} (B : AnyAt H H' pP ad p) (hb : ad[j]? = some b) (ht : p[j]? = some t) : AnyAt H (upd H' b (.lst (natsV t'))) pP ad (p.set j t') := by
  have hm := List.mem_of_getElem? hb
  have hbp : pP ≠ b := fun z => B.np (z ▸ hm)
  refine ⟨fun c u e => ?_, ?_, B.hp, B.nd, B.np, B.hn, by rw [List.length_set]; exact B.len, fun i c u hc hu => ?_⟩
  · rw [upd_ne (ne_of_none e (B.hn b hm))]; exact B.keep c u e
  · rw [upd_ne hbp]; exact B.at'
  · by_cases hij : i = j
    · subst hij
      rw [hb] at hc
      cases hc
      rw [List.getElem?_set_self (lt_of_get ht)] at hu
      cases hu
      rw [upd_same]
    · rw [List.getElem?_set_ne (Ne.symm hij)] at hu
      have hcb : c ≠ b := by
        rintro rfl
        have h1 := lt_of_get hc
        have h2 := lt_of_get hb
        rw [List.getElem?_eq_getElem h1] at hc
        rw [List.getElem?_eq_getElem h2] at hb
        exact hij (nodup_inj B.nd h1 h2 ((Option.some.inj hc).trans (Option.some.inj hb).symm))
      rw [upd_ne hcb]
      exact B.rep i c u hc hu
theorem AnyAt.write {H H' : Hp} {pP b : Addr} {ad : List Addr} {p : Piles} {j k : Nat} {t : List Nat} (B : AnyAt H H' pP ad p) (hb : ad[j]? = some b) (ht : p[j]? = some t) : AnyAt H (upd H' b (.lst (natsV t ++ [.int (k : Int)]))) pP ad (p.set j (t ++ [k])) := by
  have := B.put (t' := t ++ [k]) hb ht
  rw [natsV_append] at this
  exact this
theorem AnyAt.more {H H' H'' : Hp} {pP : Addr} {ad : List Addr} {p : Piles} (B : AnyAt H H' pP ad p) (s : Same H' H'') : AnyAt H H'' pP ad p :=
  ⟨B.keep.trans s, s _ _ B.at', B.hp, B.nd, B.np, B.hn, B.len, fun i b t h1 h2 => s _ _ (B.rep i b t h1 h2)⟩
theorem reps_of {F : Hp} : ∀ {ad : List Addr} {p : Piles}, ad.length = p.length → (∀ (i : Nat) (b : Addr) (t : List Nat), ad[i]? = some b → p[i]? = some t → F b = some (.lst (natsV t))) → Reps F (ad.map V.ref) (p.map natsD)
  | [], [], _, _ => .nil
  | [], _ :: _, h, _ => by simp at h
  | _ :: _, [], h, _ => by simp at h
  | a :: ad, t :: p, h, r => .cons (nats_rep (r 0 a t rfl rfl)) (reps_of (by simpa using h) fun i b t h1 h2 => r (i + 1) b t (by simpa using h1) (by simpa using h2))
open Classical in
theorem AnyAt.view {H H' : Hp} {pP : Addr} {ad : List Addr} {p : Piles} (B : AnyAt H H' pP ad p) : ∃ F, New H F H' ∧ Rep F (.ref pP) (ringsD p) := by
  refine ⟨fun c => if c = pP ∨ c ∈ ad then H' c else none, ⟨B.keep, fun c u e => ?_, fun c u e => ?_⟩, .lst (xs := ad.map V.ref) ?_ (reps_of B.len fun i b t h1 h2 => ?_)⟩
  · by_cases h : c = pP ∨ c ∈ ad
    · simp only [if_pos h] at e; exact e
    · simp only [if_neg h] at e; cases e
  · by_cases h : c = pP ∨ c ∈ ad
    · rcases h with rfl | h
      · exact B.hp
      · exact B.hn c h
    · simp only [if_neg h] at e; cases e
  · simp only [true_or, if_true]; exact B.at'
  · simp only [List.mem_of_getElem? h1, or_true, if_true]; exact B.rep i b t h1 h2

end
end Law

namespace Law
open PySem L2 Ways Ring PyProof.Rows
section
variable {P : Program} {w : World} {K : PySem.W.Frag} {mg : Str → Option Value} {base : Heap}
/-! ### the law's numbers: any number will do -/
def sp_next : Sp := fun vs H Q _ => ∃ n : Int, vs = [.int n] ∧ ∀ m : Int, Q (.int m) H
theorem def__law_next (T : Txt mg) (h : Here K mg "_law_next" s__law_next ["_law_number"]) : Def P w K mg base "_law_next" 1 ["_law_number"] sp_next := h.mk fun f fd F => by
  have nd := sc__law_next.nd
  refine F.ok sc__law_next (fun vs H Q E h => ?_) (fun cdv A outer s H vs Q E hr h => ?_)
  · obtain ⟨n, rfl, _⟩ := h
    rfl
  obtain ⟨n, rfl, q⟩ := h
  refine ⟨_, pss_one (ps_ret (pe_op op_mod (pe_op op_mul (pe_op op_xor (pv 0) (pe_op op_fdivB (pv 0) (pe_op op_pow pe_int pe_int))) pe_int) (pe_op op_pow pe_int pe_int))), ?_⟩
  exact ⟨_, rfl, _, rfl, _, _, rfl, rfl, ⟨by decide, by decide, by decide⟩, _, _, rfl, rfl, pow2_ok _ (by decide) _, _, _, rfl, rfl, _, _, rfl, rfl, .inr ⟨by decide, by decide⟩, _, _, rfl, rfl, ⟨by decide, by decide, by decide⟩, _, _, rfl, rfl, (pow2_ok _ (by decide) 0).1, q _⟩
def sp_fold (K : PySem.W.Frag) : Sp := fun vs H Q _ => ∃ (a : Addr) (ns : List Int) (n : Int), vs = [.ref a, .int n] ∧ SqL K H a (ns.map V.int) ∧ ∀ m : Int, Q (.int m) H
theorem def__law_fold (T : Txt mg) (h : Here K mg "_law_fold" s__law_fold ["_law_script", "_law_number"]) : Def P w K mg base "_law_fold" 1 ["_law_script", "_law_number"] (sp_fold K) := h.mk fun f fd F => by
  have nd := sc__law_fold.nd
  refine F.ok sc__law_fold (fun vs H Q E h => ?_) (fun cdv A outer s H vs Q E hr h => ?_)
  · obtain ⟨a, ns, n, rfl, _⟩ := h
    rfl
  obtain ⟨a, ns, n, rfl, hS, q⟩ := h
  refine ⟨_, pss_cons (ps_for PassesOwn.never rfl (pi_listK (K := K) (pv 0)) (pg_name (i := 2) nd rfl (Or.inl rfl))
      (pss_cons (ps_set (i := 1) nd rfl (Or.inl rfl) (pe_op op_mod (pe_op op_mul (pe_op op_add (pv 1) (pe_op op_mod (pv 2) (pe_op op_pow pe_int pe_int))) pe_int) (pe_op op_pow pe_int pe_int)))
      (pss_one (ps_set (i := 1) nd rfl (Or.inl rfl) (pe_op op_xor (pv 1) (pe_op op_fdivB (pv 1) (pe_op op_pow pe_int pe_int)))))))
    (pss_one (ps_ret (pv 1))), ?_⟩
  refine ⟨_, rfl, a, rfl, ⟨_, hS⟩, for_list (xs := ns.map V.int) (fun i σ' H' => ∃ (n : Int) (c : Option V), σ' = [some (.ref a), some (.int n), c] ∧ H' = H) ⟨n, none, rfl, rfl⟩ (fun i σ' H' _ ⟨_, _, _, e⟩ => e ▸ hS) ?_ ?_⟩
  · rintro i x σ' H' hx ⟨n, c, rfl, rfl⟩
    obtain ⟨z, rfl⟩ : ∃ z : Int, x = V.int z := by
      rw [List.getElem?_map] at hx
      cases e : ns[i]? with
      | none => rw [e] at hx; cases hx
      | some z => rw [e] at hx; exact ⟨z, (Option.some.inj hx).symm⟩
    refine ⟨_, rfl, _, rfl, _, _, rfl, rfl, ⟨by decide, by decide, by decide⟩, _, _, rfl, rfl, (pow2_ok _ (by decide) 0).1, _, _, rfl, rfl, _, _, rfl, rfl, .inr ⟨by decide, by decide⟩, _, _, rfl, rfl, ⟨by decide, by decide, by decide⟩, _, _, rfl, rfl, (pow2_ok _ (by decide) 0).1, ?_⟩
    exact ⟨_, rfl, _, rfl, _, _, rfl, rfl, ⟨by decide, by decide, by decide⟩, _, _, rfl, rfl, pow2_ok _ (by decide) _, _, _, rfl, rfl, _, _, rfl, rfl⟩
  · rintro σ' H' ⟨n, c, rfl, rfl⟩
    exact ⟨_, rfl, q _⟩
end
end Law

namespace Law
open PySem L2 Ways Ring PyProof.Rows
section
/-- what a net of the law's making is being built as: views of the heap without the two lists that still grow -/
structure Bld (H F H' : Hp) (pN : Addr) (rowsV : List V) (net : Net) : Prop where
  keep : Same H H'
  at' : H' pN = some (.lst rowsV)
  sub : Same F H'
  no : F pN = none
  fresh : ∀ b o, F b = some o → H b = none
  reps : Reps F rowsV (net.map rowD)
theorem Bld.len {H F H' : Hp} {pN : Addr} {rowsV : List V} {net : Net} (B : Bld H F H' pN rowsV net) : rowsV.length = net.length := by rw [B.reps.length, List.length_map]
theorem Bld.more {H F H' H'' : Hp} {pN : Addr} {rowsV : List V} {net : Net} (B : Bld H F H' pN rowsV net) (s : Same H' H'') : Bld H F H'' pN rowsV net where
  keep := B.keep.trans s
  at' := s _ _ B.at'
  sub := B.sub.trans s
  no := B.no
  fresh := B.fresh
  reps := B.reps
theorem Bld.seen {H F H' : Hp} {pN p : Addr} {rowsV : List V} {net : Net} {o : HO} (B : Bld H F H' pN rowsV net) (hp : H' p = some o) (hn : F p = none) (hpN : p ≠ pN) (hf : H p = none) : Bld H (upd F p o) H' pN rowsV net where
  keep := B.keep
  at' := B.at'
  sub := fun b u e => by
    by_cases hb : b = p
    · subst hb; rw [upd_same] at e; cases e; exact hp
    · rw [upd_ne hb] at e; exact B.sub b u e
  no := by rw [upd_ne (Ne.symm hpN)]; exact B.no
  fresh := fun b u e => by
    by_cases hb : b = p
    · subst hb; exact hf
    · rw [upd_ne hb] at e; exact B.fresh b u e
  reps := B.reps.mono (same_upd hn o)
theorem Bld.wrote {H F H' : Hp} {pN p : Addr} {rowsV : List V} {net : Net} (B : Bld H F H' pN rowsV net) (hn : F p = none) (hpN : p ≠ pN) (hf : H p = none) (o : HO) : Bld H F (upd H' p o) pN rowsV net where
  keep := fun b u e => by rw [upd_ne (ne_of_none e hf)]; exact B.keep b u e
  at' := by rw [upd_ne (Ne.symm hpN)]; exact B.at'
  sub := fun b u e => by rw [upd_ne (ne_of_none e hn)]; exact B.sub b u e
  no := B.no
  fresh := B.fresh
  reps := B.reps
theorem Bld.push {H F H' : Hp} {pN : Addr} {rowsV : List V} {net : Net} {v : V} {r : List (Int × Int)} (B : Bld H F H' pN rowsV net) (hf : H pN = none) (rv : Rep F v (rowD r)) : Bld H F (upd H' pN (.lst (rowsV ++ [v]))) pN (rowsV ++ [v]) (net ++ [r]) where
  keep := fun b u e => by rw [upd_ne (ne_of_none e hf)]; exact B.keep b u e
  at' := upd_same
  sub := fun b u e => by rw [upd_ne (ne_of_none e B.no)]; exact B.sub b u e
  no := B.no
  fresh := B.fresh
  reps := by rw [List.map_append]; exact B.reps.snoc rv
theorem Bld.join {H F H' F2 H'' : Hp} {pN : Addr} {rowsV : List V} {net : Net} (B : Bld H F H' pN rowsV net) (n : New H' F2 H'') :
    Bld H (both F F2) H'' pN rowsV net ∧ Same F2 (both F F2) ∧ ∀ b, F b = none → F2 b = none → both F F2 b = none := by
  obtain ⟨N, sF⟩ := New.join (⟨B.keep, B.sub, B.fresh⟩ : New H F H') n
  have no : ∀ b, F b = none → F2 b = none → both F F2 b = none := fun b e f => by unfold both; rw [e]; exact f
  have n2 : F2 pN = none := by
    cases e : F2 pN with
    | none => rfl
    | some o => have := n.fresh _ _ e; rw [B.at'] at this; cases this
  exact ⟨⟨N.keep, n.keep _ _ B.at', N.sub, no _ B.no n2, N.fresh, B.reps.mono both_left⟩, sF, no⟩
end
end Law

namespace Law
open PySem L2 Ways Ring PyProof.Rows
section
variable {P : Program} {w : World} {K : PySem.W.Frag} {mg : Str → Option Value} {base : Heap}
theorem room_un {k : Nat} {A : Around} (r : Room k A) : A.units + 1 < cLine := by have := r.un; omega
/-! ### marks -/
def lineD (l : List Int) : PyData := .list (l.map .int)
/-- how often a place stands in the rings -/
def hits (rs : List (List Int)) (p : Int) : Int := ((rs.flatten.count p : Nat) : Int)
/-- a dict that counts -/
structure Cnts (kvs : List (Key × V)) (c : Int → Int) (n : Nat) : Prop where
  at' : ∀ p : Int, (valV kvs (Sum.inl p)).getD (.int 0) = .int (c p)
  few : kvs.length ≤ n
theorem Cnts.put {kvs : List (Key × V)} {c : Int → Int} {n : Nat} (h : Cnts kvs c n) (p : Int) : Cnts (putK kvs (Sum.inl p) (.int (c p + 1))) (fun q => if q = p then c q + 1 else c q) (n + 1) where
  at' := fun q => by
    rw [valV_put]
    by_cases e : q = p
    · subst e; rw [if_pos rfl, if_pos rfl]; rfl
    · rw [if_neg (fun z => e (Sum.inl.inj z)), if_neg e]; exact h.at' q
  few := by
    have := h.few
    unfold putK
    split
    · rw [List.length_map]; omega
    · rw [List.length_append, List.length_singleton]; omega
def markN (rs : List (List Int)) (i : Nat) : List (Int × Int) := (rs.getD i []).map fun p => (p, hits (rs.take i) p)
def marksN (rs : List (List Int)) : List (List (Int × Int)) := (List.range rs.length).map (markN rs)
def sp_marked : Sp := fun vs H Q _ => ∃ (v : V) (rings : List (List Int)), vs = [v] ∧ Rep H v (.list (rings.map lineD)) ∧ rings.length ≤ 900 ∧ (∀ r ∈ rings, r.length ≤ 8) ∧
  ∀ (r : V) (F H' : Hp) (rows : List (List (Int × Int))), New H F H' → rows.Perm (marksN rings) → rows.Pairwise (fun a b => SortAt.rowLt b a = false) → Rep F r (.list (rows.map rowD)) → Q r H'
theorem line_at {H : Hp} {v : V} {l : List Int} (r : Rep H v (lineD l)) : ∃ a, v = .ref a ∧ H a = some (.lst (l.map V.int)) := by
  obtain ⟨a, xs, rfl, e, rs⟩ := rep_list r
  refine ⟨a, rfl, ?_⟩
  rw [e]
  congr 2
  clear e r
  induction l generalizing xs with
  | nil => cases rs; rfl
  | cons i l ih =>
    cases rs with
    | cons p q =>
      cases p
      rw [ih _ q]; rfl
theorem def_marked_rings (T : Txt mg) (h : Here K mg "marked_rings" s_marked_rings ["rings"]) : Def P w K mg base "marked_rings" 1 ["rings"] sp_marked := h.mk fun f fd F => by
  have nd := sc_marked_rings.nd
  refine F.ok sc_marked_rings (fun vs H Q E h => ?_) (fun cdv A outer s H vs Q E hr h => ?_)
  · obtain ⟨v, rings, rfl, _⟩ := h
    rfl
  obtain ⟨v, rings, rfl, rv, r64, r8, k⟩ := h
  refine ⟨_, pss_cons (ps_set (i := 1) nd rfl (Or.inl rfl) (pe_lst pa_nil))
    (pss_cons (ps_set (i := 2) nd rfl (Or.inr rfl) pe_dnewK)
    (pss_cons (ps_for PassesOwn.never rfl (pi_listK (K := K) (pv 0)) (pg_name (i := 3) nd rfl (Or.inl rfl))
      (pss_cons (ps_expr (pe_bm PySem.F.plainAttrs_list PySem.F.slot_list_append PySem.F.type_list_append mt_append (pv 1) (pa_cons (pe_comp (N' := ["place", "depths"]) (cap := [none, some 2]) rfl ⟨rfl, rfl, rfl, rfl, rfl, rfl⟩ (pi_listK (K := K) (pv 3)) (fun _ _ _ _ _ _ => ⟨pg_name (i := 0) (show (["place", "depths"] : List Str).Nodup by decide +kernel) rfl (Or.inl rfl) (Or.inr rfl), pifs_nil, pe_tup (pa_cons (pv 0) (pa_cons (pe_dget2 (room_un hr) (pv 1) (pv 0) pe_int ⟨rfl, rfl, rfl, rfl⟩) pa_nil))⟩) (keeps_name rfl)) pa_nil)))
      (pss_one (ps_for PassesOwn.never rfl (pi_listK (K := K) (pv 3)) (pg_name (i := 4) nd rfl (Or.inl rfl))
        (pss_one (ps_asg (pe_op op_add (pe_dget2 (room_un hr) (pv 2) (pv 4) pe_int ⟨rfl, rfl, rfl, rfl⟩) pe_int) (pg_sub (pv 2) (pv 4) (set_dict (room_un hr)))))))))
    (pss_one (ps_ret (pe_callB (call_sortedBK (K := K) hr) rfl T.z_sorted boot_sorted (pa_cons (pv 1) pa_nil)))))), ?_⟩
  obtain ⟨ra, rx, rfl, er, rr⟩ := rep_list rv
  have rl : rx.length = rings.length := by rw [rr.length, List.length_map]
  refine ⟨(by decide), fun pM hM => ?_⟩
  refine fun pD hD => ?_
  have nMD : pD ≠ pM := by rintro rfl; rw [upd_same] at hD; cases hD
  have hD' : H pD = none := by rw [upd_ne nMD] at hD; exact hD
  have s0 : Same H (upd (upd H pM (HO.lst [])) pD (HO.dK [])) := (same_upd hM _).trans (same_upd hD _)
  refine ⟨_, rfl, ra, rfl, ⟨rx, SqL.of (s0 _ _ er)⟩, for_list (K := K) (xs := rx) (fun i σ' H' => ∃ (F : Hp) (ms : List V) (kvs : List (Key × V)) (c3 c4 : Option V), σ' = [some (.ref ra), some (.ref pM), some (.ref pD), c3, c4] ∧
    Bld H F H' pM ms ((List.range i).map (markN rings)) ∧ H' pD = some (.dK kvs) ∧ F pD = none ∧ Cnts kvs (hits (rings.take i)) (8 * i))
    ⟨fun _ => none, [], [], none, none, rfl, ⟨s0, by rw [upd_ne (Ne.symm nMD), upd_same], (fun _ _ e => nomatch e), rfl, (fun _ _ e => nomatch e), .nil⟩, upd_same, rfl, ⟨fun p => rfl, Nat.le_refl _⟩⟩
    (fun i σ' H' _ ⟨_, _, _, _, _, _, B, _⟩ => SqL.of (B.keep _ _ er)) ?_ ?_⟩
  · rintro i x σ' H' hx ⟨F, ms, kvs, c3, c4, rfl, B, eD, fD, C⟩
    obtain ⟨ring, hr2, rx2⟩ := reps_map rr hx
    obtain ⟨b, rfl, eb⟩ := line_at rx2
    have eb' : H' b = some (.lst (ring.map V.int)) := B.keep _ _ eb
    have l8 : ring.length ≤ 8 := r8 ring (List.mem_of_getElem? hr2)
    have hg : rings.getD i [] = ring := by rw [List.getD_eq_getElem?_getD, hr2]; rfl
    have il : i < 900 := by have := lt_of_get hr2; omega
    refine ⟨_, rfl, .inl ⟨rfl, _, SqL.of B.at'⟩, ?_⟩
    refine ⟨_, rfl, b, rfl, ⟨_, SqL.of eb'⟩, fun D hDl => ?_⟩
    refine comp_list (K := K) (xs := ring.map V.int) (fun j G ys => ∃ F', New H' F' G ∧ Reps F' ys (((markN rings i).take j).map arrD)) hDl ⟨_, New.start _, .nil⟩ (fun j G ys ⟨_, n, _⟩ => SqL.of (n.keep _ _ eb')) (fun j x G ys hx2 hG pq => ?_) (fun G ys hG pq => ?_)
    · obtain ⟨F', n', rs'⟩ := pq
      rw [List.getElem?_map] at hx2
      obtain ⟨p, hp, rfl⟩ := Option.map_eq_some_iff.mp hx2
      have nD : pD ≠ D := fun z => by rw [z, hDl] at eD; cases eD
      have eD2 : (upd G D (.lst ys)) pD = some (.dK kvs) := by rw [upd_ne nD]; exact n'.keep _ _ eD
      have hj := lt_of_get hp
      have ml : (markN rings i)[j]? = some (p, hits (rings.take i) p) := by unfold markN; rw [hg, List.getElem?_map, hp]; rfl
      have yl : ys.length ≤ 8 := by
        have := rs'.length
        rw [List.length_map, List.length_take] at this
        omega
      refine ⟨_, rfl, _, rfl, pD, rfl, .inl ⟨_, .inl eD2⟩, _, rfl, _, DGet.k (k := Sum.inl p) eD2, ?_⟩
      rw [C.at' p]
      refine ⟨(by show 2 ≤ sizeLine; decide), fun t ht => ?_⟩
      have tD : t ≠ D := fun z => by rw [z, upd_same] at ht; cases ht
      have ht' : G t = none := by rw [upd_ne tD] at ht; exact ht
      refine cput (ys := ys) ((same_upd ht _) _ _ upd_same) (by omega) ⟨_, n'.grow hG (same_upd ht _) ht upd_same, ?_⟩
      rw [List.take_succ, ml, Option.toList_some, List.map_append]
      exact (rs'.mono (same_upd (n'.sub.free ht') _)).snoc (.tup upd_same (.cons (.int _) (.cons (.int _) .nil)))
    · obtain ⟨F', n', rs'⟩ := pq
      rw [List.length_map, List.take_of_length_le (by unfold markN; rw [hg, List.length_map]; exact Nat.le_refl _)] at rs'
      have n1 : New H' (upd F' D (.lst ys)) (upd G D (.lst ys)) := n'.done hG
      have rD : Rep (upd F' D (.lst ys)) (.ref D) (rowD (markN rings i)) := .lst upd_same (rs'.mono (same_upd (n'.sub.free hG) _))
      obtain ⟨B2, sF, nF⟩ := B.join n1
      generalize upd G D (HO.lst ys) = G1 at n1 B2 ⊢
      generalize upd F' D (HO.lst ys) = F1 at n1 B2 rD sF nF
      have f1D : F1 pD = none := by
        cases e : F1 pD with
        | none => rfl
        | some o => rw [n1.fresh _ _ e] at eD; cases eD
      have B3 := B2.push hM (rD.mono sF)
      rw [show (List.range i).map (markN rings) ++ [markN rings i] = (List.range (i + 1)).map (markN rings) by rw [List.range_succ, List.map_append]; rfl] at B3
      refine ⟨pM, ms, .ref D, rfl, rfl, B2.at', by have := B.len; rw [List.length_map, List.length_range] at this; exact Nat.lt_of_le_of_lt (by omega : ms.length ≤ 1000) (by decide), ?_⟩
      have e3D : (upd G1 pM (.lst (ms ++ [.ref D]))) pD = some (.dK kvs) := by rw [upd_ne nMD]; exact n1.keep _ _ eD
      refine ⟨_, rfl, b, rfl, ⟨_, SqL.of (B3.keep _ _ eb)⟩, for_list (K := K) (xs := ring.map V.int) (fun j σ2 H2 => ∃ (kvs2 : List (Key × V)) (c4 : Option V), σ2 = [some (.ref ra), some (.ref pM), some (.ref pD), some (.ref b), c4] ∧
        Bld H (both F F1) H2 pM (ms ++ [.ref D]) ((List.range (i + 1)).map (markN rings)) ∧ H2 pD = some (.dK kvs2) ∧ Cnts kvs2 (fun q => hits (rings.take i) q + (((ring.take j).count q : Nat) : Int)) (8 * i + j))
        ⟨kvs, c4, rfl, B3, e3D, ⟨fun q => by rw [C.at' q]; simp, C.few⟩⟩ (fun j σ2 H2 _ ⟨_, _, _, B4, _⟩ => SqL.of (B4.keep _ _ eb)) ?_ ?_⟩
      · rintro j x σ2 H2 hx2 ⟨kvs2, c4', rfl, B4, e4, C4⟩
        rw [List.getElem?_map] at hx2
        obtain ⟨p, hp, rfl⟩ := Option.map_eq_some_iff.mp hx2
        have hj := lt_of_get hp
        refine ⟨_, rfl, pD, rfl, .inl ⟨_, .inl e4⟩, _, rfl, _, DGet.k (k := Sum.inl p) e4, ?_⟩
        rw [C4.at' p]
        refine ⟨_, _, rfl, rfl, _, rfl, _, rfl, pD, _, rfl, .inl ⟨kvs2, Sum.inl p, e4, rfl, Nat.lt_of_le_of_lt (by have := C4.few; omega : kvs2.length ≤ 100000) (by decide), rfl⟩, _, _, rfl, B4.wrote (nF _ fD f1D) nMD hD' _, upd_same, ?_⟩
        have := C4.put p
        refine ⟨fun q => ?_, this.few⟩
        rw [this.at' q, List.take_succ, hp, Option.toList_some, List.count_append]
        by_cases e : q = p
        · subst e; simp; omega
        · rw [if_neg e, List.count_singleton, if_neg (by simpa using Ne.symm e)]; simp
      · rintro σ2 H2 ⟨kvs2, c4', rfl, B4, e4, C4⟩
        rw [List.length_map, List.take_length] at C4
        refine ⟨_, _, kvs2, _, _, rfl, B4, e4, nF _ fD f1D, ⟨fun q => ?_, by have := C4.few; omega⟩⟩
        rw [C4.at' q]
        unfold hits
        rw [List.take_succ, hr2, Option.toList_some, List.flatten_append, List.count_append]
        simp
  · rintro σ' H' ⟨F, ms, kvs, c3, c4, rfl, B, eD, fD, C⟩
    rw [rl] at B
    refine ⟨_, rfl, pM, ms, _, rfl, SqL.of B.at', B.reps.mono B.sub, by rw [List.length_map, List.length_range]; exact r64, fun l vs' rows' hl pm so re pv => ?_⟩
    have n : New H F H' := ⟨B.keep, B.sub, B.fresh⟩
    have hFl : F l = none := B.sub.free hl
    exact k _ _ _ rows' (n.done hl) pm so (.lst upd_same ((re F B.reps).mono (same_upd hFl _)))
end
end Law

namespace Law
open PySem L2 Ways Ring PyProof.Rows
section
variable {P : Program} {w : World} {K : PySem.W.Frag} {mg : Str → Option Value} {base : Heap}
/-! ### numbers of the script, their digits -/
theorem int_at {ns : List Int} {i : Nat} {x : V} (h : (ns.map V.int)[i]? = some x) : ∃ z : Int, x = V.int z := by
  rw [List.getElem?_map] at h
  obtain ⟨z, _, e⟩ := Option.map_eq_some_iff.mp h
  exact ⟨z, e.symm⟩
def sp_numbers (K : PySem.W.Frag) : Sp := fun vs H Q _ => ∃ (a : Addr) (ns : List Int) (n : Int), vs = [.ref a, .int n] ∧ SqL K H a (ns.map V.int) ∧ ns.length ≤ 63 ∧ ∀ (r : Addr) (ms : List Int) (H' : Hp), Same H H' → H r = none → H' r = some (.lst (ms.map V.int)) → ms.length ≤ 63 → Q (.ref r) H'
theorem def__law_numbers (T : Txt mg) (D__law_fold : Def P w K mg base "_law_fold" 1 ["_law_script", "_law_number"] (sp_fold K)) (D__law_next : Def P w K mg base "_law_next" 1 ["_law_number"] sp_next)
    (h : Here K mg "_law_numbers" s__law_numbers ["_law_script", "_law_seed"]) : Def P w K mg base "_law_numbers" 2 ["_law_script", "_law_seed"] (sp_numbers K) := h.mk fun f fd F => by
  have nd := sc__law_numbers.nd
  refine F.ok sc__law_numbers (fun vs H Q E h => ?_) (fun cdv A outer s H vs Q E hr h => ?_)
  · obtain ⟨a, ns, n, rfl, _⟩ := h
    rfl
  obtain ⟨a, ns, n, rfl, hS, h63, q⟩ := h
  refine ⟨_, pss_cons (ps_set (i := 2) nd rfl (Or.inl rfl) (pe_callD D__law_fold hr rfl (pa_cons (pv 0) (pa_cons (pv 1) pa_nil))))
    (pss_cons (ps_set (i := 3) nd rfl (Or.inl rfl) (pe_lst pa_nil))
    (pss_cons (ps_for PassesOwn.never rfl (pi_range1 rfl T.z_range (pa_cons (pe_callB (call_lenK (K := K)) rfl T.z_len PySem.boot_len (pa_cons (pv 0) pa_nil)) pa_nil)) (pg_name (i := 4) nd rfl (Or.inl rfl))
      (pss_cons (ps_set (i := 2) nd rfl (Or.inl rfl) (pe_callD D__law_next hr rfl (pa_cons (pe_op op_add (pe_callD D__law_next hr rfl (pa_cons (pe_op op_add (pv 2) (pe_modA (pe_ix (ix_lt (K := K)) (pv 0) (pv 4) (fun _ _ => rfl)) (pe_op op_pow pe_int pe_int))) pa_nil)) (pe_op op_mul (pv 4) (pv 4))) pa_nil)))
      (pss_one (ps_expr (pe_bm PySem.F.plainAttrs_list PySem.F.slot_list_append PySem.F.type_list_append mt_append (pv 3) (pa_cons (pe_ix (ix_lt (K := K)) (pe_lst (pa_cons (pe_draw (pv 2) pe_int) (pa_cons (pe_callB call_abs rfl T.z_abs boot_abs (pa_cons (pe_ix (ix_lt (K := K)) (pv 0) (pv 4) (fun _ _ => rfl)) pa_nil)) pa_nil))) (pe_modA (pe_ix (ix_lt (K := K)) (pv 0) pe_int (fun _ _ => rfl)) pe_int) (fun _ _ => rfl)) pa_nil))))))
    (pss_one (ps_ret (pv 3))))), ?_⟩
  refine ⟨_, rfl, _, rfl, a, ns, _, rfl, hS, fun m => ?_⟩
  refine ⟨Nat.zero_le _, fun pF hF => ?_⟩
  have s0 := same_upd hF (HO.lst [])
  refine ⟨_, rfl, a, _, rfl, .inl (s0.seq hS), _, rfl, by omega, by rw [List.length_map]; omega, for_range (lo := 0) (fun i σ' H' => ∃ (n' : Int) (ms : List Int) (c4 : Option V), σ' = [some (.ref a), some (.int n), some (.int n'), some (.ref pF), c4] ∧ Same H H' ∧ H' pF = some (.lst (ms.map V.int)) ∧ ms.length = i)
    ⟨m, [], none, rfl, s0, upd_same, rfl⟩ ?_ ?_⟩
  · rintro i σ' H' hi ⟨n', ms, c4, rfl, k, eF, ml⟩
    rw [Int.zero_add]
    rw [List.length_map, Int.toNat_natCast] at hi
    have hx : (ns.map V.int)[i]? = some (V.int ns[i]) := by rw [List.getElem?_map, List.getElem?_eq_getElem hi]; rfl
    have hS' := k.seq hS
    refine ⟨_, rfl, _, rfl, _, rfl, .inl ⟨a, _, _, _, rfl, rfl, hS', atI_nat hx, ?_⟩⟩
    refine ⟨_, rfl, _, _, rfl, rfl, ⟨by decide, by decide, by decide⟩, _, rfl, (by decide), fun u _ _ => ⟨_, _, rfl, rfl, ?_⟩⟩
    refine ⟨_, rfl, fun m1 => ?_⟩
    refine ⟨_, rfl, _, rfl, _, _, rfl, rfl, .inl ⟨by omega, by omega⟩, _, _, rfl, rfl, _, rfl, fun m2 => ?_⟩
    refine ⟨_, rfl, .inl ⟨rfl, _, SqL.of eF⟩, ?_⟩
    have h0 : (ns.map V.int)[0]? = some (V.int ns[0]) := by rw [List.getElem?_map, List.getElem?_eq_getElem (by omega)]; rfl
    refine ⟨_, rfl, _, rfl, _, rfl, (by decide), fun d _ _ => ?_⟩
    refine ⟨_, rfl, _, rfl, .inl ⟨a, _, _, _, rfl, rfl, hS', atI_nat hx, _, rfl, (by show 2 ≤ sizeLine; decide), fun l hl => ?_⟩⟩
    have sl := same_upd hl (HO.lst [V.int d, .int (if ns[i] < 0 then -ns[i] else ns[i])])
    have eF' := sl _ _ eF
    refine ⟨_, rfl, .inl ⟨a, _, ((0 : Nat) : Int), _, rfl, rfl, sl.seq hS', atI_nat h0, _, rfl, _, rfl, (by decide), fun u u0 u1 => ?_⟩⟩
    obtain ⟨v, hv⟩ : ∃ v : Int, atI [V.int d, .int (if ns[i] < 0 then -ns[i] else ns[i])] u = some (V.int v) := by
      rcases (by omega : u = 0 ∨ u = 1) with e | e
      · subst e; exact ⟨_, rfl⟩
      · subst e; exact ⟨_, rfl⟩
    refine .inl ⟨l, _, u, _, rfl, rfl, SqL.of upd_same, hv, pF, _, _, rfl, rfl, eF', small1000 (by rw [List.length_map]; omega), ?_⟩
    refine ⟨m2, ms ++ [v], _, rfl, fun b o e => ?_, by rw [upd_same, List.map_append]; rfl, by rw [List.length_append, List.length_singleton, ml]⟩
    rw [upd_ne (ne_of_none e hF)]
    exact sl _ _ (k _ _ e)
  · rintro σ' H' ⟨n', ms, c4, rfl, k, eF, ml⟩
    rw [List.length_map, Int.toNat_natCast] at ml
    exact ⟨_, rfl, q _ ms H' k hF eF (by omega)⟩
/-! ### digits -/
def sp_digits : Sp := fun vs H Q _ => ∃ n b m : Int, vs = [.int n, .int b, .int m] ∧ 0 < b ∧ b ≤ 5000 ∧ m ≤ 12 ∧ ∀ (r : Addr) (ds : List Int) (H' : Hp), Same H H' → H r = none → H' r = some (.lst (ds.map V.int)) → ds.length ≤ 12 → Q (.ref r) H'
theorem def__law_digits (T : Txt mg) (h : Here K mg "_law_digits" s__law_digits ["_law_number", "_law_base", "_law_most"]) : Def P w K mg base "_law_digits" 1 ["_law_number", "_law_base", "_law_most"] sp_digits := h.mk fun f fd F => by
  have nd := sc__law_digits.nd
  refine F.ok sc__law_digits (fun vs H Q E h => ?_) (fun cdv A outer s H vs Q E hr h => ?_)
  · obtain ⟨n, b, m, rfl, _⟩ := h
    rfl
  obtain ⟨n, b, m, rfl, b0, b5, m12, q⟩ := h
  have hb : ∀ i, CDivB i b := fun i => by
    refine ⟨b0, ?_⟩
    have h2 : b.natAbs.log2 < 13 := (Nat.log2_lt (by omega)).mpr (by omega)
    omega
  refine ⟨_, pss_cons (ps_set (i := 3) nd rfl (Or.inl rfl) (pe_lst (pa_cons (pe_modA (pv 0) (pv 1)) pa_nil)))
    (pss_cons (ps_set (i := 0) nd rfl (Or.inl rfl) (pe_op op_fdivB (pv 0) (pv 1)))
    (pss_cons (ps_while PassesOwn.never (PW.pt (pw_and (pt_cmpR op_gt (pv 0) pe_int (nomark _)) (pw_and1 (pt_cmpR op_lt (pe_callB (call_lenK (K := K)) rfl T.z_len PySem.boot_len (pa_cons (pv 3) pa_nil)) (pv 2) (nomark _)))))
      (pss_cons (ps_expr (pe_bm PySem.F.plainAttrs_list PySem.F.slot_list_append PySem.F.type_list_append mt_append (pv 3) (pa_cons (pe_modA (pv 0) (pv 1)) pa_nil)))
      (pss_one (ps_set (i := 0) nd rfl (Or.inl rfl) (pe_op op_fdivB (pv 0) (pv 1))))))
    (pss_one (ps_ret (pv 3))))), ?_⟩
  refine ⟨_, rfl, _, rfl, _, rfl, _, rfl, b0, fun u _ _ => ⟨(by show 1 ≤ sizeLine; decide), fun pF hF => ?_⟩⟩
  have s0 := same_upd hF (HO.lst [V.int u])
  refine ⟨_, rfl, _, rfl, _, _, rfl, rfl, hb _, ?_⟩
  refine ⟨fun k σ' H' => ∃ (n' : Int) (ds : List Int), σ' = [some (.int n'), some (.int b), some (.int m), some (.ref pF)] ∧ Same H H' ∧ H' pF = some (.lst (ds.map V.int)) ∧ ds.length ≤ 12 ∧ k = 12 - ds.length,
    ⟨_, _, [u], rfl, s0, upd_same, by simp, rfl⟩, ?_⟩
  rintro k σ' H' ⟨n', ds, rfl, k1, eF, dl, rfl⟩
  refine ⟨_, rfl, _, _, rfl, rfl, _, rfl, iteB (fun _ => ?_) (fun _ => ⟨_, rfl, q _ ds H' k1 hF eF dl⟩)⟩
  refine ⟨_, rfl, pF, _, rfl, .inl (SqL.of eF), _, rfl, _, _, rfl, rfl, _, rfl, iteD (fun c => ?_) (fun _ => ⟨_, rfl, q _ ds H' k1 hF eF dl⟩)⟩
  rw [List.length_map] at c
  refine ⟨fun σ' H' => ∃ (n' : Int) (ds' : List Int), σ' = [some (.int n'), some (.int b), some (.int m), some (.ref pF)] ∧ Same H H' ∧ H' pF = some (.lst (ds'.map V.int)) ∧ ds'.length ≤ 12 ∧ ds'.length = ds.length + 1, ?_, ?_⟩
  · rintro σ2 H2 ⟨n2, ds2, e, a1, a2, a3, a4⟩
    exact ⟨_, (by omega : 12 - ds2.length < 12 - ds.length), n2, ds2, e, a1, a2, a3, rfl⟩
  · refine ⟨_, rfl, .inl ⟨rfl, _, SqL.of eF⟩, _, rfl, _, rfl, _, rfl, _, rfl, b0, fun u _ _ => ?_⟩
    refine ⟨pF, _, _, rfl, rfl, eF, small1000 (by rw [List.length_map]; omega), ?_⟩
    refine ⟨_, rfl, _, rfl, _, _, rfl, rfl, hb _, _, ds ++ [u], rfl, fun c o e => ?_, by rw [upd_same, List.map_append]; rfl, by rw [List.length_append, List.length_singleton]; omega, by rw [List.length_append, List.length_singleton]⟩
    rw [upd_ne (ne_of_none e hF)]
    exact k1 _ _ e
end
end Law

namespace Law
open PySem L2 Ways Ring PyProof.Rows
section
variable {P : Program} {w : World} {K : PySem.W.Frag} {mg : Str → Option Value} {base : Heap}
/-! ### an order, and piles, of such numbers -/
theorem log_500 {j : Int} (h0 : 0 < j) (h1 : j ≤ 5000) (i : Int) : CDivB i j := by
  refine ⟨h0, ?_⟩
  have : j.natAbs < 2 ^ 13 := by omega
  have h2 : j.natAbs.log2 < 13 := (Nat.log2_lt (by omega)).mpr this
  omega
def sp_order17 : Sp := fun vs H Q _ => ∃ (a : Addr) (ms : List Int), vs = [.ref a] ∧ H a = some (.lst (ms.map V.int)) ∧ ms.length ≤ 63 ∧ ∀ (r : Addr) (ds : List Int) (H' : Hp), Same H H' → H r = none → H' r = some (.lst (ds.map V.int)) → ds.length ≤ 400 → Q (.ref r) H'
theorem def__law_order (T : Txt mg) (D__law_digits : Def P w K mg base "_law_digits" 1 ["_law_number", "_law_base", "_law_most"] sp_digits) (h : Here K mg "_law_order" s__law_order ["_law_numbers_here"]) : Def P w K mg base "_law_order" 2 ["_law_numbers_here"] sp_order17 := h.mk fun f fd F => by
  have nd := sc__law_order.nd
  refine F.ok sc__law_order (fun vs H Q E h => ?_) (fun cdv A outer s H vs Q E hr h => ?_)
  · obtain ⟨a, ms, rfl, _⟩ := h
    rfl
  obtain ⟨a, ms, rfl, ea, h63, q⟩ := h
  refine ⟨_, pss_cons (ps_set (i := 1) nd rfl (Or.inl rfl) (pe_lst pa_nil))
    (pss_cons (ps_for PassesOwn.never rfl (pi_range3 rfl T.z_range (pa_cons pe_int (pa_cons (pe_callB (call_lenK (K := K)) rfl T.z_len PySem.boot_len (pa_cons (pv 0) pa_nil)) (pa_cons pe_int pa_nil)))) (pg_name (i := 2) nd rfl (Or.inl rfl))
      (pss_one (ps_set (i := 1) nd rfl (Or.inl rfl) (pe_op op_cat (pv 1) (pe_callD D__law_digits hr rfl (pa_cons (pe_ix (ix_lt (K := K)) (pv 0) (pv 2) (fun _ _ => rfl)) (pa_cons pe_int (pa_cons pe_int pa_nil))))))))
    (pss_one (ps_ret (pv 1)))), ?_⟩
  refine ⟨Nat.zero_le _, fun pF hF => ?_⟩
  have s0 := same_upd hF (HO.lst [])
  refine ⟨_, rfl, a, _, rfl, .inl (SqL.of (s0 _ _ ea)), _, _, rfl, ⟨by decide, by decide, by omega, by rw [List.length_map]; omega⟩, for_range2 (lo := 2) (fun i σ' H' => ∃ (r : Addr) (ds : List Int) (c2 : Option V), σ' = [some (.ref a), some (.ref r), c2] ∧ Same H H' ∧ H r = none ∧ H' r = some (.lst (ds.map V.int)) ∧ ds.length ≤ 12 * i)
    ⟨pF, [], none, rfl, s0, hF, upd_same, Nat.le_refl _⟩ ?_ ?_⟩
  · rintro i σ' H' hi ⟨r, ds, c2, rfl, k, hr', er, dl⟩
    rw [List.length_map] at hi
    have hi2 : 2 + i * 2 < ms.length := by omega
    have hx : (ms.map V.int)[2 + i * 2]? = some (V.int ms[2 + i * 2]) := by rw [List.getElem?_map, List.getElem?_eq_getElem hi2]; rfl
    have hat : atI (ms.map V.int) (2 + (i : Int) * 2) = some (V.int ms[2 + i * 2]) := by rw [show (2 + (i : Int) * 2) = ((2 + i * 2 : Nat) : Int) by omega]; exact atI_nat hx
    refine ⟨_, rfl, _, rfl, _, rfl, .inl ⟨a, _, _, _, rfl, rfl, SqL.of (k _ _ ea), hat, ?_⟩⟩
    refine ⟨_, _, _, rfl, by decide, by decide, by decide, fun r2 d2 H2 k2 h2 e2 l2 => ?_⟩
    refine ⟨r, r2, _, _, rfl, rfl, k2 _ _ er, e2, Nat.le_of_lt (small1000 (by rw [List.length_map, List.length_map]; omega)), fun r3 h3 => ?_⟩
    refine ⟨r3, ds ++ d2, _, rfl, k.trans (k2.trans (same_upd h3 _)), k.free (k2.free h3), by rw [upd_same, List.map_append], by rw [List.length_append]; omega⟩
  · rintro σ' H' ⟨r, ds, c2, rfl, k, hr', er, dl⟩
    rw [List.length_map] at dl
    exact ⟨_, rfl, q _ ds H' k hr' er (by omega)⟩
theorem size_few : ∀ {p : Piles}, (∀ l ∈ p, l.length ≤ 40) → sizeN p ≤ 40 * p.length
  | [], _ => Nat.le_refl _
  | l :: p, h => by
    have := size_few (p := p) fun x m => h x (List.mem_cons_of_mem _ m)
    have := h l List.mem_cons_self
    unfold sizeN at *
    rw [List.map_cons, List.sum_cons, List.length_cons]
    omega
def sp_any17 : Sp := fun vs H Q _ => ∃ (a : Addr) (ms : List Int), vs = [.ref a] ∧ H a = some (.lst (ms.map V.int)) ∧ ms.length ≤ 63 ∧ ∀ p r F H', PilesOk p → (∀ l ∈ p, l.length ≤ 40) → New H F H' → Rep F r (ringsD p) → Q r H'
theorem def__law_any (T : Txt mg) (D__law_digits : Def P w K mg base "_law_digits" 1 ["_law_number", "_law_base", "_law_most"] sp_digits) (h : Here K mg "_law_any" s__law_any ["_law_numbers_here"]) : Def P w K mg base "_law_any" 2 ["_law_numbers_here"] sp_any17 := h.mk fun f fd F => by
  have nd := sc__law_any.nd
  refine F.ok sc__law_any (fun vs H Q E h => ?_) (fun cdv A outer s H vs Q E hr h => ?_)
  · obtain ⟨a, ms, rfl, _⟩ := h
    rfl
  obtain ⟨a, ms, rfl, ea0, h63, q⟩ := h
  refine ⟨_, pss_cons (ps_set (i := 1) nd rfl (Or.inr rfl) (pe_ix (ix_lt (K := K)) (pe_op op_cat (pv 0) (pe_lst (pa_cons pe_int pa_nil))) pe_int (fun _ _ => rfl)))
    (pss_cons (ps_set (i := 2) nd rfl (Or.inl rfl) (pe_op op_add pe_int (pe_modA (pe_op op_fdivB (pv 1) pe_int) pe_int)))
    (pss_cons (ps_setC (i := 3) nd rfl rfl (N' := ["_law_place"]) (cap := [none]) rfl ⟨rfl, rfl, rfl, rfl, rfl, rfl⟩ (pi_range1 rfl T.z_range (pa_cons (pv 2) pa_nil)) (fun _ _ _ _ _ _ => ⟨pg_name (i := 0) (show (["_law_place"] : List Str).Nodup by decide +kernel) rfl (Or.inl rfl) (Or.inr rfl), pifs_nil, pe_lst pa_nil⟩) (keeps_name rfl))
    (pss_cons (ps_setC (i := 4) nd rfl rfl (N' := ["_law_place", "_law_first"]) (cap := [none, some 1]) rfl ⟨rfl, rfl, rfl, rfl, rfl, rfl⟩ (pi_range1 rfl T.z_range (pa_cons (pv 2) pa_nil)) (fun _ _ _ _ _ _ => ⟨pg_name (i := 0) (show (["_law_place", "_law_first"] : List Str).Nodup by decide +kernel) rfl (Or.inl rfl) (Or.inr rfl), pifs_one (PW.pt (pw_and (pt_cmpR op_eq (pe_modA (pv 1) pe_int) pe_int (nomark _)) (pw_and1 (pt_cmpR op_eq (pe_modA (pe_op op_fdivB (pv 1) (pe_op op_add pe_int (pe_op op_mul pe_int (pv 0)))) pe_int) pe_int (nomark _))))), pv 0⟩) (keeps_name rfl))
    (pss_cons (ps_for PassesOwn.never rfl (pi_range3 rfl T.z_range (pa_cons pe_int (pa_cons (pe_callB (call_lenK (K := K)) rfl T.z_len PySem.boot_len (pa_cons (pv 0) pa_nil)) (pa_cons pe_int pa_nil)))) (pg_name (i := 5) nd rfl (Or.inl rfl))
      (pss_one (ps_for PassesOwn.never rfl (pi_listK (K := K) (pe_callD D__law_digits hr rfl (pa_cons (pe_ix (ix_lt (K := K)) (pv 0) (pv 5) (fun _ _ => rfl)) (pa_cons pe_int (pa_cons pe_int pa_nil))))) (pg_name (i := 6) nd rfl (Or.inl rfl))
        (pss_cons (ps_set (i := 7) nd rfl (Or.inl rfl) (pe_modA (pe_modA (pv 6) pe_int) (pv 2)))
        (pss_one (ps_if (PW.pt (pw_and (pt_cmpR (op_notInK (K := K)) (pv 7) (pv 4) rfl) (pw_and1 (pt_cmpR op_lt (pe_callB (call_lenK (K := K)) rfl T.z_len PySem.boot_len (pa_cons (pe_ix (ix_lt (K := K)) (pv 3) (pv 7) (fun _ _ => rfl)) pa_nil)) pe_int (nomark _)))))
          (pss_one (ps_expr (pe_bm PySem.F.plainAttrs_list PySem.F.slot_list_append PySem.F.type_list_append mt_append (pe_ix (ix_lt (K := K)) (pv 3) (pv 7) (fun _ _ => rfl)) (pa_cons (pe_modA (pe_op op_fdivB (pv 6) pe_int) (pv 2)) pa_nil))))
          (pss_nil)))))))
    (pss_one (ps_ret (pv 3))))))), ?_⟩
  -- the first number
  obtain ⟨fst, hfst⟩ : ∃ z : Int, atI (ms.map V.int ++ [V.int 0]) 0 = some (V.int z) := by
    cases ms with
    | nil => exact ⟨_, rfl⟩
    | cons z r => exact ⟨z, atI0 _ _⟩
  refine ⟨_, rfl, (by show 1 ≤ sizeLine; decide), fun c1 hc1 => ⟨a, c1, _, _, rfl, rfl, same_upd hc1 _ _ _ ea0, upd_same, Nat.le_of_lt (small1000 (by rw [List.length_map, List.length_singleton]; omega)), fun c2 hc2 => ?_⟩⟩
  have sA : Same H (upd (upd H c1 (.lst [V.int 0])) c2 (.lst (ms.map V.int ++ [V.int 0]))) := (same_upd hc1 _).trans (same_upd hc2 _)
  refine .inl ⟨c2, _, 0, _, rfl, rfl, SqL.of upd_same, hfst, ?_⟩
  have ea : (upd (upd H c1 (.lst [V.int 0])) c2 (.lst (ms.map V.int ++ [V.int 0]))) a = some (.lst (ms.map V.int)) := sA _ _ ea0
  generalize upd (upd H c1 (.lst [V.int 0])) c2 (.lst (ms.map V.int ++ [V.int 0])) = HA at sA ea ⊢
  refine ⟨_, rfl, _, _, rfl, rfl, log_500 (by decide) (by decide) _, _, rfl, _, rfl, (by decide), fun r hr0 hr1 => ⟨_, _, rfl, rfl, ?_⟩⟩
  -- piles
  refine ⟨_, rfl, 1 + r, rfl, by omega, by omega, fun pP hP => ?_⟩
  refine comp_range (lo := 0) (fun i G ys => ∃ ad : List Addr, ys = ad.map V.ref ∧ ad.length = i ∧ ad.Nodup ∧ Same HA G ∧ ∀ b ∈ ad, HA b = none ∧ G b = some (.lst [])) hP ⟨[], rfl, rfl, .nil, Same.refl _, by simp⟩ (fun i G ys hi hG p => ?_) (fun G ys hG p => ?_)
  · obtain ⟨ad, rfl, hl, hnd, hs, had⟩ := p
    refine ⟨Nat.zero_le _, fun l hln => ?_⟩
    have hlD : l ≠ pP := by rintro rfl; rw [upd_same] at hln; cases hln
    have hlG : G l = none := by rw [upd_ne hlD] at hln; exact hln
    refine cput (ys := ad.map V.ref) (same_upd hln _ _ _ upd_same) (by rw [List.length_map]; omega) ⟨ad ++ [l], by simp, by simp [hl], ?_, same_del hs hG (same_upd hln _), fun b hb => ?_⟩
    · rw [List.nodup_append]
      refine ⟨hnd, by simp, fun x hx y hy e => ?_⟩
      have hy' : y = l := by simpa using hy
      rw [e, hy'] at hx
      have := (had l hx).2
      rw [hlG] at this
      cases this
    · rcases List.mem_append.mp hb with z | z
      · obtain ⟨h1, h2⟩ := had b z
        refine ⟨h1, ?_⟩
        have hbD : b ≠ pP := ne_of_none h2 hG
        rw [del_ne hbD]
        exact same_upd hln _ _ _ (by rw [upd_ne hbD]; exact h2)
      · have z' : b = l := by simpa using z
        subst z'
        exact ⟨hs.free hlG, by rw [del_ne hlD]; exact upd_same⟩
  obtain ⟨ad, rfl, hl, hnd, hs, had⟩ := p
  have B0 : AnyAt HA (upd G pP (.lst (ad.map V.ref))) pP ad (List.replicate (1 + r).toNat []) := by
    have np : pP ∉ ad := fun z => by have := (had pP z).2; rw [hG] at this; cases this
    refine ⟨hs.trans (same_upd hG _), upd_same, hP, hnd, np, fun b hb => (had b hb).1, by rw [List.length_replicate]; exact hl, fun i b t h1 h2 => ?_⟩
    have hb := List.mem_of_getElem? h1
    have ht := (List.mem_replicate.mp (List.mem_of_getElem? h2)).2
    have hbp : b ≠ pP := fun z => np (z ▸ hb)
    rw [upd_ne hbp, (had b hb).2, ht]
    rfl
  -- bare
  refine ⟨_, rfl, 1 + r, rfl, by omega, by omega, fun pB hB => ?_⟩
  refine comp_range (lo := 0) (fun i G' ys => Same (upd G pP (.lst (ad.map V.ref))) G' ∧ ∃ bare : List Nat, ys = natsV bare ∧ bare.length ≤ i) hB ⟨Same.refl _, [], rfl, Nat.le_refl _⟩ (fun i G' ys hi hG' p => ?_) (fun G' ys hG' p => ?_)
  · obtain ⟨hs', bare, rfl, hbl⟩ := p
    have hi8 : i < 8 := by omega
    have skip : CAcc pB (fun G' ys => Same (upd G pP (.lst (ad.map V.ref))) G' ∧ ∃ bare : List Nat, ys = natsV bare ∧ bare.length ≤ i + 1) (upd G' pB (.lst (natsV bare))) := cskip (ys := natsV bare) upd_same ⟨same_del hs' hG' (Same.refl _), bare, rfl, by omega⟩
    refine ⟨_, rfl, _, rfl, _, rfl, (by decide), fun z0 _ _ => ⟨rfl, _, rfl, iteB (fun _ => ?_) (fun _ => skip)⟩⟩
    refine ⟨_, rfl, _, rfl, _, _, rfl, rfl, .inl ⟨by decide, by decide⟩, _, _, rfl, rfl, _, _, rfl, rfl, log_500 (by omega) (by omega) _, _, rfl, _, rfl, by decide, fun z _ _ => ⟨rfl, _, rfl, iteB (fun _ => ?_) (fun _ => skip)⟩⟩
    refine ⟨_, rfl, cput (ys := natsV bare) upd_same (by rw [natsV_len]; omega) ⟨same_del hs' hG' (Same.refl _), bare ++ [i], ?_, by simp; omega⟩⟩
    rw [natsV_append, Int.zero_add]
    rfl
  obtain ⟨hs', bare, rfl, hbl⟩ := p
  have B1 := B0.more (hs'.trans (same_upd hG' (.lst (natsV bare))))
  have hB2 : pB ≠ pP := by rintro rfl; rw [upd_same] at hB; cases hB
  have hBad : pB ∉ ad := fun z => by
    have := (had pB z).2
    have e : (upd G pP (.lst (ad.map V.ref))) pB = some (.lst []) := by rw [upd_ne hB2]; exact this
    rw [e] at hB
    cases hB
  have ea1 := B1.keep _ _ ea
  -- k by k
  refine ⟨_, rfl, a, _, rfl, .inl (SqL.of ea1), _, _, rfl, ⟨by decide, by decide, by omega, by rw [List.length_map]; omega⟩, for_range2 (lo := 1) (fun i σ' H' => ∃ (p : Piles) (c5 c6 c7 : Option V), σ' = [some (.ref a), some (.int fst), some (.int (1 + r)), some (.ref pP), some (.ref pB), c5, c6, c7] ∧ AnyAt HA H' pP ad p ∧ H' pB = some (.lst (natsV bare)) ∧
    p.length = (1 + r).toNat ∧ (∀ l ∈ p, ∀ x ∈ l, x < (1 + r).toNat) ∧ ∀ l ∈ p, l.length ≤ 40) ?_ ?_ ?_⟩
  · refine ⟨_, none, none, none, rfl, B1, upd_same, List.length_replicate, fun l hl x hx => ?_, fun l hl => ?_⟩
    · rw [(List.mem_replicate.mp hl).2] at hx
      cases hx
    · rw [(List.mem_replicate.mp hl).2]; exact Nat.zero_le _
  · rintro i σ' H' hi ⟨p, c5, c6, c7, rfl, B, hpB, hpl, hpb, h40⟩
    rw [List.length_map] at hi
    have hi2 : 1 + i * 2 < ms.length := by omega
    have hx : (ms.map V.int)[1 + i * 2]? = some (V.int ms[1 + i * 2]) := by rw [List.getElem?_map, List.getElem?_eq_getElem hi2]; rfl
    have hat : atI (ms.map V.int) (1 + (i : Int) * 2) = some (V.int ms[1 + i * 2]) := by rw [show (1 + (i : Int) * 2) = ((1 + i * 2 : Nat) : Int) by omega]; exact atI_nat hx
    refine ⟨_, rfl, _, rfl, .inl ⟨a, _, _, _, rfl, rfl, SqL.of (B.keep _ _ ea), hat, ?_⟩⟩
    refine ⟨_, _, _, rfl, by decide, by decide, by decide, fun rd ds H2 k2 hd ed dl => ?_⟩
    have B2 := B.more k2
    have hdp : rd ≠ pP := fun z => by rw [z, B.at'] at hd; cases hd
    have hdad : rd ∉ ad := fun z => by
      obtain ⟨j, hj, ej⟩ := List.mem_iff_getElem.mp z
      have := B.rep j rd _ (by rw [List.getElem?_eq_getElem hj, ej]) (List.getElem?_eq_getElem (by rw [← B.len]; exact hj))
      rw [hd] at this; cases this
    refine ⟨rd, rfl, ⟨_, SqL.of ed⟩, for_list (K := K) (xs := ds.map V.int) (fun j σ' H' => ∃ (p : Piles) (c6 c7 : Option V), σ' = [some (.ref a), some (.int fst), some (.int (1 + r)), some (.ref pP), some (.ref pB), some (.int (1 + (i : Int) * 2)), c6, c7] ∧ AnyAt HA H' pP ad p ∧ H' pB = some (.lst (natsV bare)) ∧ H' rd = some (.lst (ds.map V.int)) ∧
      p.length = (1 + r).toNat ∧ (∀ l ∈ p, ∀ x ∈ l, x < (1 + r).toNat) ∧ ∀ l ∈ p, l.length ≤ 40) ⟨p, c6, c7, rfl, B2, k2 _ _ hpB, ed, hpl, hpb, h40⟩ (fun j σ' H' _ ⟨_, _, _, _, _, _, e, _⟩ => SqL.of e) ?_ ?_⟩
    · rintro j x σ' H3 hx3 ⟨p, c6, c7, rfl, B, hpB, ed3, hpl, hpb, h40⟩
      obtain ⟨z, rfl⟩ := int_at hx3
      refine ⟨_, rfl, _, rfl, _, rfl, (by decide), fun v0 _ _ => ⟨_, rfl, _, rfl, _, rfl, by omega, fun v hv0 hv1 => ?_⟩⟩
      obtain ⟨j', rfl⟩ := Int.eq_ofNat_of_zero_le hv0
      have same : ∃ (p' : Piles) (c6 c7 : Option V), [some (V.ref a), some (V.int fst), some (V.int (1 + r)), some (V.ref pP), some (V.ref pB), some (V.int (1 + (i : Int) * 2)), some (V.int z), some (V.int (j' : Int))] = [some (.ref a), some (.int fst), some (.int (1 + r)), some (.ref pP), some (.ref pB), some (.int (1 + (i : Int) * 2)), c6, c7] ∧ AnyAt HA H3 pP ad p' ∧ H3 pB = some (.lst (natsV bare)) ∧ H3 rd = some (.lst (ds.map V.int)) ∧
          p'.length = (1 + r).toNat ∧ (∀ l ∈ p', ∀ x ∈ l, x < (1 + r).toNat) ∧ ∀ l ∈ p', l.length ≤ 40 := ⟨p, _, _, rfl, B, hpB, ed3, hpl, hpb, h40⟩
      refine ⟨_, rfl, _, rfl, pB, _, rfl, .inl (SqL.of hpB), rfl, flat_nats _, _, rfl, iteB (fun _ => ?_) (fun _ => same)⟩
      have hja : j' < ad.length := by rw [B.len, hpl]; omega
      have hjp : j' < p.length := by rw [hpl]; omega
      have hb : ad[j']? = some ad[j'] := List.getElem?_eq_getElem hja
      have ht : p[j']? = some p[j'] := List.getElem?_eq_getElem hjp
      have eb := B.rep j' _ _ hb ht
      have hat' : atI (ad.map V.ref) (j' : Int) = some (.ref ad[j']) := atI_nat (by rw [List.getElem?_map, hb]; rfl)
      refine ⟨_, rfl, _, rfl, .inl ⟨pP, _, _, _, rfl, rfl, SqL.of B.at', hat', ad[j'], _, rfl, .inl (SqL.of eb), _, _, rfl, rfl, _, rfl, iteD (fun hlt => ?_) (fun _ => same)⟩⟩
      refine ⟨_, rfl, _, rfl, .inl ⟨pP, _, _, _, rfl, rfl, SqL.of B.at', hat', .inl ⟨rfl, _, SqL.of eb⟩, ?_⟩⟩
      refine ⟨_, rfl, _, _, rfl, rfl, log_500 (by decide) (by decide) _, _, rfl, _, rfl, _, rfl, by omega, fun u hu0 hu1 => ?_⟩
      obtain ⟨k, rfl⟩ := Int.eq_ofNat_of_zero_le hu0
      have hl40 : p[j'].length < 40 := by rw [natsV_len] at hlt; omega
      refine ⟨ad[j'], _, _, rfl, rfl, eb, small1000 (by rw [natsV_len]; omega), p.set j' (p[j'] ++ [k]), _, _, rfl, B.write hb ht, ?_, ?_, by rw [List.length_set]; exact hpl, fun l hl x hx => ?_, fun l hl => ?_⟩
      · have hBj : pB ≠ ad[j'] := fun z => hBad (z ▸ List.getElem_mem hja)
        rw [upd_ne hBj]; exact hpB
      · have hBj : rd ≠ ad[j'] := fun z => hdad (z ▸ List.getElem_mem hja)
        rw [upd_ne hBj]; exact ed3
      · rcases List.mem_or_eq_of_mem_set hl with z | z
        · exact hpb l z x hx
        · rw [z] at hx
          rcases List.mem_append.mp hx with y | y
          · exact hpb _ (List.getElem_mem hjp) x y
          · have : x = k := by simpa using y
            omega
      · rcases List.mem_or_eq_of_mem_set hl with z | z
        · exact h40 l z
        · rw [z, List.length_append, List.length_singleton]; omega
    · rintro σ' H3 ⟨p, c6, c7, rfl, B, hpB, ed3, hpl, hpb, h40⟩
      exact ⟨p, _, _, _, rfl, B, hpB, hpl, hpb, h40⟩
  · rintro σ' H' ⟨p, c5, c6, c7, rfl, B, hpB, hpl, hpb, h40⟩
    obtain ⟨F, nw, rp⟩ := B.view
    have := size_few h40
    exact ⟨_, rfl, q p _ F H' ⟨by omega, by omega, fun l hl x hx => by rw [hpl]; exact hpb l hl x hx, by omega⟩ h40 (New.after sA nw) rp⟩
end
end Law

namespace Law
open PySem L2 Ways Ring PyProof.Rows
section
/-! ### marks of rings of places -/
def castI (l : List Nat) : List Int := l.map fun (n : Nat) => (n : Int)
def castM (l : List (Nat × Nat)) : List (Int × Int) := l.map fun a => ((a.1 : Int), (a.2 : Int))
theorem rings_lines (rs : List (List Nat)) : ringsD rs = .list ((rs.map castI).map lineD) := by
  unfold ringsD
  rw [List.map_map]
  congr 1
  refine List.map_congr_left fun r _ => ?_
  show natsD r = lineD (castI r)
  unfold natsD lineD castI
  rw [List.map_map]
  rfl
theorem count_cast (x : Nat) : ∀ l : List Nat, (castI l).count (x : Int) = l.count x
  | [] => rfl
  | a :: l => by
    show (((a : Nat) : Int) :: castI l).count (x : Int) = _
    rw [List.count_cons, List.count_cons, count_cast x l]
    by_cases c : a = x
    · simp [c]
    · have : ¬ (a : Int) = (x : Int) := by omega
      simp [c, this]
theorem flat_cast : ∀ rs : List (List Nat), (rs.map castI).flatten = castI rs.flatten
  | [] => rfl
  | r :: rs => by rw [List.map_cons, List.flatten_cons, flat_cast rs, List.flatten_cons]; unfold castI; rw [List.map_append]
theorem hits_cast (rs : List (List Nat)) (x : Nat) : hits (rs.map castI) (x : Int) = ((rs.flatten.count x : Nat) : Int) := by
  unfold hits
  rw [flat_cast, count_cast]
theorem marks_at : ∀ (rs ps : List (List Nat)), (List.range rs.length).map (fun i => ((rs.map castI).getD i []).map fun p => (p, hits (((ps ++ rs).take (ps.length + i)).map castI) p)) = (marksF (fun x => ps.flatten.count x) rs).map castM
  | [], _ => rfl
  | r :: rs, ps => by
    rw [List.length_cons, List.range_succ_eq_map, List.map_cons, List.map_map, marksF, List.map_cons]
    congr 1
    · show ((r.map fun (n : Nat) => (n : Int))).map _ = _
      unfold castM
      rw [List.map_map, List.map_map]
      refine List.map_congr_left fun x _ => ?_
      show (((x : Nat) : Int), hits _ (x : Int)) = ((x : Int), ((ps.flatten.count x : Nat) : Int))
      rw [Nat.add_zero, List.take_left' rfl, hits_cast]
    · have ih := marks_at rs (ps ++ [r])
      have e1 : (fun x => (ps ++ [r]).flatten.count x) = fun x => ps.flatten.count x + r.count x := by
        funext x
        rw [List.flatten_append, List.count_append, List.flatten_cons, List.flatten_nil, List.append_nil]
      rw [e1] at ih
      rw [← ih]
      refine List.map_congr_left fun i _ => ?_
      show ((castI r :: rs.map castI).getD (i + 1) []).map _ = _
      rw [List.getD_cons_succ, List.append_assoc, List.length_append, List.length_singleton, List.singleton_append, show ps.length + 1 + i = ps.length + (i + 1) by omega]
theorem marks_F (rs : List (List Nat)) : marksN (rs.map castI) = (marksF (fun _ => 0) rs).map castM := by
  have := marks_at rs []
  unfold marksN
  rw [List.length_map]
  refine Eq.trans ?_ this
  refine List.map_congr_left fun i _ => ?_
  unfold markN
  rw [List.nil_append, List.length_nil, Nat.zero_add, List.map_take]
theorem rows_one {a b : List (List (Int × Int))} (p : a.Perm b) (ha : a.Pairwise fun x y => SortAt.rowLt y x = false) (hb : b.Pairwise fun x y => SortAt.rowLt y x = false) : a = b :=
  p.eq_of_pairwise (fun x y _ _ h h' => SortAt.row_tot h' h) ha hb
theorem marks_same {p q u : Piles} {rs ts : List (List Nat)} (ok : PilesOk p) (a : Pops p rs q) (e : ringsN (topsN q) = []) (b : Pops p ts u) (f : ringsN (topsN u) = []) : (marksN (rs.map castI)).Perm (marksN (ts.map castI)) := by
  rw [marks_F, marks_F]
  exact ((Pops.same ok a e b f).1 _).map _
theorem pops_len {p q : Piles} {rs : List (List Nat)} (a : Pops p rs q) : PilesOk p → ∀ r ∈ rs, r.length ≤ 8 := by
  induction a with
  | nil => intro _ r m; cases m
  | @cons p q t rs h _ ih =>
    intro ok r m
    rcases List.mem_cons.mp m with e | m
    · subst e
      have hring := rings_is ok.inB h
      exact Nat.le_trans (nodup_bound p.length r hring.nd fun x hx => by have := hring.bd x hx; rw [topsN_len] at this; exact this) ok.len
    · exact ih (ok.pop _) r m
end
end Law

namespace Law
open PySem L2 Ways Ring PyProof.Rows
section
variable {P : Program} {w : World} {K : PySem.W.Frag} {mg : Str → Option Value} {base : Heap} {C : Addr}
theorem nats_cast (l : List Nat) : natsV l = (castI l).map V.int := by unfold natsV castI; rw [List.map_map]; rfl
theorem idx_cast (x : Nat) : ∀ l : List Nat, (castI l).idxOf (x : Int) = l.idxOf x
  | [] => rfl
  | a :: l => by
    show (((a : Nat) : Int) :: castI l).idxOf (x : Int) = _
    rw [List.idxOf_cons, List.idxOf_cons, idx_cast x l]
    by_cases c : a = x
    · simp [c]
    · have c' : ¬ (a : Int) = (x : Int) := by omega
      have d1 : ((a : Int) == (x : Int)) = false := by simpa using c'
      have d2 : (a == x) = false := by simpa using c
      rw [d1, d2]
theorem mem_cast {x : Nat} {l : List Nat} (h : x ∈ l) : (x : Int) ∈ castI l := List.mem_map.mpr ⟨x, h, rfl⟩
theorem cut_dr (t : List Nat) (n : Nat) (h : n ≤ t.length) : cutV (natsV t) (some (n : Int)) none = natsV (t.drop n) := by
  unfold cutV
  rw [HT.sIx_none, HT.sIx_nat _ 0 n, natsV_len, Nat.min_eq_left h]
  unfold natsV
  rw [List.map_drop]
  exact List.take_of_length_le (by rw [List.length_drop, List.length_map]; omega)
theorem cut_tk (t : List Nat) (n : Nat) (h : n ≤ t.length) : cutV (natsV t) none (some (n : Int)) = natsV (t.take n) := by
  unfold cutV
  rw [HT.sIx_none, HT.sIx_nat _ _ n, natsV_len, Nat.min_eq_left h, List.drop_zero, Nat.sub_zero]
  unfold natsV
  rw [List.map_take]
theorem min_cast {r : List Nat} {m : Int} (hm : m ∈ castI r) (le : ∀ x ∈ castI r, m ≤ x) : (castI r).idxOf m = r.idxOf (minN r) := by
  obtain ⟨n, hn, rfl⟩ := List.mem_map.mp hm
  have e : minN r = n := min_is hn fun x hx => by have := le _ (mem_cast hx); omega
  rw [e]
  exact idx_cast n r
/-! ### the least first -/
def sp_least : Sp := fun vs H Q _ => ∃ b r, vs = [.ref b] ∧ H b = some (.lst (natsV r)) ∧ r ≠ [] ∧ r.length ≤ 400 ∧ ∀ c H', Same H H' → H c = none → H' c = some (.lst (natsV (leastN r))) → Q (.ref c) H'
theorem def_least_first (T : Txt mg) (h : Here K mg "least_first" s_least_first ["ring"]) : Def P w K mg base "least_first" 1 ["ring"] sp_least := h.mk fun f fd F => by
  have nd := sc_least_first.nd
  refine F.ok sc_least_first (fun vs H Q E h => ?_) (fun cdv A outer s H vs Q E hr h => ?_)
  · obtain ⟨b, r, rfl, _⟩ := h
    rfl
  obtain ⟨b, r, rfl, eb, ne, rl, q⟩ := h
  refine ⟨_, pss_cons (ps_set (i := 1) nd rfl (Or.inl rfl) (pe_bm PySem.F.plainAttrs_list PySem.F.slot_list_index PySem.F.type_list_index mt_index (pv 0) (pa_cons (pe_callB (call_minK (K := K) rfl) rfl T.z_min boot_min (pa_cons (pv 0) pa_nil)) pa_nil)))
    (pss_one (ps_ret (pe_op op_cat (pe_slice (sl_listK (K := K)) (pv 0) (po_some (pv 1)) po_none) (pe_slice (sl_listK (K := K)) (pv 0) po_none (po_some (pv 1)))))), ?_⟩
  have eb' : SqL K H b ((castI r).map V.int) := by rw [← nats_cast]; exact SqL.of eb
  have cl : (castI r).length = r.length := by unfold castI; rw [List.length_map]
  refine ⟨_, rfl, .inl ⟨rfl, _, SqL.of eb⟩, _, rfl, b, castI r, rfl, eb', fun z => ne (by have := congrArg List.length z; rw [cl] at this; exact List.eq_nil_of_length_eq_zero this), fun m hm hle => ?_⟩
  refine ⟨b, castI r, m, rfl, rfl, eb', by omega, hm, ?_⟩
  rw [min_cast hm hle]
  have hi : r.idxOf (minN r) ≤ r.length := List.idxOf_le_length
  refine ⟨_, rfl, _, rfl, _, rfl, b, _, rfl, SqL.of eb, fun q1 h1 => ?_⟩
  rw [cut_dr _ _ hi]
  have s1 := same_upd h1 (HO.lst (natsV (r.drop (r.idxOf (minN r)))))
  refine ⟨_, rfl, _, rfl, _, rfl, b, _, rfl, SqL.of (s1 _ _ eb), fun q2 h2 => ?_⟩
  rw [cut_tk _ _ hi]
  have s2 := same_upd h2 (HO.lst (natsV (r.take (r.idxOf (minN r)))))
  refine ⟨q1, q2, _, _, rfl, rfl, s2 _ _ upd_same, upd_same, Nat.le_of_lt (small1000 (by rw [natsV_len, natsV_len, List.length_drop, List.length_take]; omega)), fun q3 h3 => ?_⟩
  refine q q3 _ (s1.trans (s2.trans (same_upd h3 _))) (s1.free (s2.free h3)) ?_
  rw [upd_same, ← natsV_append]
  rfl
/-! ### the walker -/
def fsW (rA gA : Addr) (v : V) : List (Str × V) := [("roads", .ref rA), ("rings", .ref gA), ("rest", v)]
theorem fs_roads (rA gA : Addr) (v : V) : (fsW rA gA v).lookup ("roads" : Str) = some (.ref rA) := by
  unfold fsW
  simp only [List.lookup, beq_self_eq_true]
theorem fs_rings (rA gA : Addr) (v : V) : (fsW rA gA v).lookup ("rings" : Str) = some (.ref gA) := by
  unfold fsW
  have e1 : (("rings" : Str) == ("roads" : Str)) = false := by decide +kernel
  simp only [List.lookup, e1, beq_self_eq_true]
theorem fs_rest (rA gA : Addr) (v : V) : (fsW rA gA v).lookup ("rest" : Str) = some v := by
  unfold fsW
  have e1 : (("rest" : Str) == ("roads" : Str)) = false := by decide +kernel
  have e2 : (("rest" : Str) == ("rings" : Str)) = false := by decide +kernel
  simp only [List.lookup, e1, e2, beq_self_eq_true]
theorem fs_no (rA gA : Addr) (v : V) {m : Str} (e1 : (m == ("roads" : Str)) = false) (e2 : (m == ("rings" : Str)) = false) (e3 : (m == ("rest" : Str)) = false) : (fsW rA gA v).lookup m = none := by
  unfold fsW
  simp only [List.lookup, e1, e2, e3]
theorem fs_put (rA gA : Addr) (v v' : V) : putF "rest" v' (fsW rA gA v) = fsW rA gA v' := by
  unfold fsW putF putF putF
  rw [if_neg (by decide +kernel), if_neg (by decide +kernel), if_pos rfl]
structure WK (C : Addr) (H0 F H' : Hp) (x dx rA gA : Addr) (v : V) (rx gx : List V) (roads rings : List (List Nat)) (p : Piles) : Prop where
  nw : New H0 F H'
  ob : H' x = some (.ins C dx (fsW rA gA v))
  ro : H' rA = some (.lst rx)
  gi : H' gA = some (.lst gx)
  fx : F x = none
  fr : F rA = none
  fg : F gA = none
  hx : H0 x = none
  hr : H0 rA = none
  hg : H0 gA = none
  xr : x ≠ rA
  xg : x ≠ gA
  rg : rA ≠ gA
  rr : Reps F rx (roads.map natsD)
  gr : Reps F gx (rings.map natsD)
  re : Rep F v (ringsD p)
section
variable {H0 F H' H2 F2 : Hp} {x dx rA gA : Addr} {v v' : V} {rx gx : List V} {roads rings : List (List Nat)} {p p' : Piles}
theorem WK.more (W : WK C H0 F H' x dx rA gA v rx gx roads rings p) (s : Same H' H2) : WK C H0 F H2 x dx rA gA v rx gx roads rings p :=
  ⟨W.nw.more s, s _ _ W.ob, s _ _ W.ro, s _ _ W.gi, W.fx, W.fr, W.fg, W.hx, W.hr, W.hg, W.xr, W.xg, W.rg, W.rr, W.gr, W.re⟩
theorem not_new {H1 F2 H2 : Hp} {b : Addr} {o : HO} (n : New H1 F2 H2) (e : H1 b = some o) : F2 b = none := by
  cases z : F2 b with
  | none => rfl
  | some u => have := n.fresh _ _ z; rw [e] at this; cases this
theorem WK.join (W : WK C H0 F H' x dx rA gA v rx gx roads rings p) (n : New H' F2 H2) : WK C H0 (both F F2) H2 x dx rA gA v rx gx roads rings p ∧ Same F2 (both F F2) := by
  obtain ⟨N, k⟩ := W.nw.join n
  exact ⟨⟨N, n.keep _ _ W.ob, n.keep _ _ W.ro, n.keep _ _ W.gi, both_none W.fx (not_new n W.ob), both_none W.fr (not_new n W.ro), both_none W.fg (not_new n W.gi), W.hx, W.hr, W.hg, W.xr, W.xg, W.rg, W.rr.mono both_left, W.gr.mono both_left, W.re.mono both_left⟩, k⟩
theorem WK.rest (W : WK C H0 F H' x dx rA gA v rx gx roads rings p) (r : Rep F v' (ringsD p')) : WK C H0 F (upd H' x (.ins C dx (putF "rest" v' (fsW rA gA v)))) x dx rA gA v' rx gx roads rings p' :=
  ⟨W.nw.write W.fx W.hx _, by rw [upd_same, fs_put], by rw [upd_ne (Ne.symm W.xr)]; exact W.ro, by rw [upd_ne (Ne.symm W.xg)]; exact W.gi, W.fx, W.fr, W.fg, W.hx, W.hr, W.hg, W.xr, W.xg, W.rg, W.rr, W.gr, r⟩
theorem WK.ring (W : WK C H0 F H' x dx rA gA v rx gx roads rings p) {u : V} {t : List Nat} (r : Rep F u (natsD t)) : WK C H0 F (upd H' gA (.lst (gx ++ [u]))) x dx rA gA v rx (gx ++ [u]) roads (rings ++ [t]) p :=
  ⟨W.nw.write W.fg W.hg _, by rw [upd_ne W.xg]; exact W.ob, by rw [upd_ne W.rg]; exact W.ro, upd_same, W.fx, W.fr, W.fg, W.hx, W.hr, W.hg, W.xr, W.xg, W.rg, W.rr, by rw [List.map_append]; exact W.gr.snoc r, W.re⟩
theorem WK.road (W : WK C H0 F H' x dx rA gA v rx gx roads rings p) {u : V} {t : List Nat} (r : Rep F u (natsD t)) : WK C H0 F (upd H' rA (.lst (rx ++ [u]))) x dx rA gA v (rx ++ [u]) gx (roads ++ [t]) rings p :=
  ⟨W.nw.write W.fr W.hr _, by rw [upd_ne W.xr]; exact W.ob, upd_same, by rw [upd_ne (Ne.symm W.rg)]; exact W.gi, W.fx, W.fr, W.fg, W.hx, W.hr, W.hg, W.xr, W.xg, W.rg, by rw [List.map_append]; exact W.rr.snoc r, W.gr, W.re⟩
theorem WK.see (W : WK C H0 F H' x dx rA gA v rx gx roads rings p) {b : Addr} {o : HO} (e : H' b = some o) (h0 : H0 b = none) (fb : F b = none) (n1 : b ≠ x) (n2 : b ≠ rA) (n3 : b ≠ gA) : WK C H0 (upd F b o) H' x dx rA gA v rx gx roads rings p :=
  ⟨W.nw.see e fb h0, W.ob, W.ro, W.gi, by rw [upd_ne (Ne.symm n1)]; exact W.fx, by rw [upd_ne (Ne.symm n2)]; exact W.fr, by rw [upd_ne (Ne.symm n3)]; exact W.fg, W.hx, W.hr, W.hg, W.xr, W.xg, W.rg, W.rr.mono (same_upd fb _), W.gr.mono (same_upd fb _), W.re.mono (same_upd fb _)⟩
end
def sp_init (C : Addr) : Sp := fun vs H Q _ => ∃ x pv H0 dx p, vs = [.ref x, pv] ∧ Same H0 H ∧ H0 x = none ∧ H x = some (.ins C dx []) ∧ Rep H0 pv (ringsD p) ∧ p.length ≤ 900 ∧ ∀ F rA gA v H', WK C H0 F H' x dx rA gA v [] [] [] [] p → Q .non H'
theorem def_Walker___init__ (T : Txt mg) (W : OwnWalker K mg C) (D_copied : Def P w K mg base "copied" 1 ["piles"] sp_copied) (h : NHere K C "Walker.__init__" s_Walker___init__ ["self", "piles"]) : NDef P w K mg base C 2 ["self", "piles"] (sp_init C) := h.mk fun f fd F => by
  have nd := sc_Walker___init__.nd
  refine F.ok sc_Walker___init__ (fun vs H Q E h => ?_) (fun cdv A outer s H vs Q E hr h => ?_)
  · obtain ⟨x, pz, H0, dx, p, rfl, _⟩ := h
    rfl
  obtain ⟨x, pz, H0, dx, p, rfl, s0, hx, ox, rp, pl, q⟩ := h
  refine ⟨_, pss_cons (ps_fldK (K := K) (pv 0) (pe_lst pa_nil))
    (pss_cons (ps_fldK (K := K) (pv 0) (pe_lst pa_nil))
    (pss_one (ps_fldK (K := K) (pv 0) (pe_callD D_copied hr rfl (pa_cons (pv 1) pa_nil))))), ?_⟩
  refine ⟨Nat.zero_le _, fun rA hA => ⟨_, rfl, x, C, dx, _, rfl, same_upd hA _ _ _ ox, W.cl, W.n_roads, by decide, ?_⟩⟩
  have xA : x ≠ rA := ne_of_none ox hA
  have s1 : Same H0 (upd (upd H rA (.lst [])) x (.ins C dx (putF "roads" (.ref rA) []))) := fun b o e => by rw [upd_ne (ne_of_none e hx)]; exact same_upd hA _ _ _ (s0 b o e)
  have eA : (upd (upd H rA (.lst [])) x (.ins C dx (putF "roads" (.ref rA) []))) rA = some (.lst []) := by rw [upd_ne (Ne.symm xA)]; exact upd_same
  have ox1 : (upd (upd H rA (.lst [])) x (.ins C dx (putF "roads" (.ref rA) []))) x = some (.ins C dx (putF "roads" (.ref rA) [])) := upd_same
  have hA0 : H0 rA = none := s0.free hA
  generalize upd (upd H rA (HO.lst [])) x (HO.ins C dx (putF "roads" (V.ref rA) [])) = H1 at s1 eA ox1 ⊢
  refine ⟨Nat.zero_le _, fun gA hG => ⟨_, rfl, x, C, dx, _, rfl, same_upd hG _ _ _ ox1, W.cl, W.n_rings, by show 1 < 1000; decide, ?_⟩⟩
  have xG : x ≠ gA := ne_of_none ox1 hG
  have rG : rA ≠ gA := ne_of_none eA hG
  have s2 : Same H0 (upd (upd H1 gA (.lst [])) x (.ins C dx (putF "rings" (.ref gA) (putF "roads" (.ref rA) [])))) := fun b o e => by rw [upd_ne (ne_of_none e hx)]; exact same_upd hG _ _ _ (s1 b o e)
  have eA2 : (upd (upd H1 gA (.lst [])) x (.ins C dx (putF "rings" (.ref gA) (putF "roads" (.ref rA) [])))) rA = some (.lst []) := by rw [upd_ne (Ne.symm xA), upd_ne rG]; exact eA
  have eG2 : (upd (upd H1 gA (.lst [])) x (.ins C dx (putF "rings" (.ref gA) (putF "roads" (.ref rA) [])))) gA = some (.lst []) := by rw [upd_ne (Ne.symm xG)]; exact upd_same
  have ox2 : (upd (upd H1 gA (.lst [])) x (.ins C dx (putF "rings" (.ref gA) (putF "roads" (.ref rA) [])))) x = some (.ins C dx (putF "rings" (.ref gA) (putF "roads" (.ref rA) []))) := upd_same
  have hG0 : H0 gA = none := s1.free hG
  generalize upd (upd H1 gA (HO.lst [])) x (HO.ins C dx (putF "rings" (V.ref gA) (putF "roads" (V.ref rA) []))) = H3 at s2 eA2 eG2 ox2 ⊢
  refine ⟨_, rfl, pz, p, rfl, rp.mono s2, pl, fun rv F4 H4 n4 r4 => ⟨_, rfl, x, C, dx, _, rfl, n4.keep _ _ ox2, W.cl, W.n_rest, by show 2 < 1000; decide, ?_⟩⟩
  have n5 := New.after s2 n4
  have fx := not_new n4 ox2
  have ef : putF "rest" rv (putF "rings" (.ref gA) (putF "roads" (.ref rA) [])) = fsW rA gA rv := by
    unfold fsW
    show putF "rest" rv (if ("roads" : Str) = "rings" then _ else _) = _
    rw [if_neg (by decide +kernel)]
    show (if ("roads" : Str) = "rest" then _ else _) = _
    rw [if_neg (by decide +kernel)]
    show (("roads" : Str), V.ref rA) :: (if ("rings" : Str) = "rest" then _ else (("rings" : Str), V.ref gA) :: putF "rest" rv []) = _
    rw [if_neg (by decide +kernel)]
    rfl
  rw [ef]
  exact q F4 rA gA rv _ ⟨n5.write fx hx _, upd_same, by rw [upd_ne (Ne.symm xA)]; exact n4.keep _ _ eA2, by rw [upd_ne (Ne.symm xG)]; exact n4.keep _ _ eG2, fx, not_new n4 eA2, not_new n4 eG2, hx, hA0, hG0, xA, xG, rG, .nil, .nil, r4⟩
end
end Law

namespace Law
open PySem L2 Ways Ring PyProof.Rows
section
variable {P : Program} {w : World} {K : PySem.W.Frag} {mg : Str → Option Value} {base : Heap} {C : Addr}
def sp_ends (C : Addr) : Sp := fun vs H Q _ => ∃ H0 F x dx rA gA v rx gx roads rings p m, vs = [.ref x, .int ((m : Nat) : Int)] ∧ WK C H0 F H x dx rA gA v rx gx roads rings p ∧ m < p.length ∧ roads.length ≤ 400 ∧ ∀ H', Same H H' → Q (.bl (decide (p.getD m [] = [] ∨ m ∈ roads.flatten))) H'
theorem def_Walker_ends_at (T : Txt mg) (W : OwnWalker K mg C) (h : MHere K C "ends_at" "Walker.ends_at" s_Walker_ends_at ["self", "place"]) : MDef P w K mg base C "ends_at" 1 ["self", "place"] (sp_ends C) := h.mk fun f fd F => by
  have nd := sc_Walker_ends_at.nd
  refine F.ok sc_Walker_ends_at (fun vs H Q E h => ?_) (fun cdv A outer s H vs Q E hr h => ?_)
  · obtain ⟨H0, F, x, dx, rA, gA, v, rx, gx, roads, rings, p, m, rfl, _⟩ := h
    rfl
  obtain ⟨H0, F, x, dx, rA, gA, v, rx, gx, roads, rings, p, m, rfl, B, hm, rl, q⟩ := h
  refine ⟨_, pss_one (ps_ret (pe_or (pe_cmpR (op_eqD hr) (pe_ix (ix_lt (K := K)) (pe_fldK (K := K) (pv 0)) (pv 1) (fun _ _ => rfl)) (pe_lst pa_nil) (nomark _)) (pe_one (pe_callB (call_anyK (K := K) rfl) rfl T.z_any boot_any (pa_cons (pe_comp (N' := ["road", "place"]) (cap := [none, some 1]) rfl ⟨rfl, rfl, rfl, rfl, rfl, rfl⟩ (pi_listK (K := K) (pe_fldK (K := K) (pv 0))) (fun _ _ _ _ _ _ => ⟨pg_name (i := 0) (show (["road", "place"] : List Str).Nodup by decide +kernel) rfl (Or.inl rfl) (Or.inr rfl), pifs_nil, pe_cmpR (op_inK (K := K)) (pv 1) (pv 0) rfl⟩) (keeps_name rfl)) pa_nil))))), ?_⟩
  obtain ⟨va, vx, rfl, ev, rv⟩ := rep_list B.re
  have vl : vx.length = p.length := by rw [rv.length, List.length_map]
  have hvm : vx[m]? = some vx[m] := List.getElem?_eq_getElem (by omega)
  obtain ⟨l, b, hl, hb, eb⟩ := reps_at rv hvm
  have hat : atI vx (m : Int) = some (.ref b) := by rw [← hb]; exact atI_nat hvm
  have hg : p.getD m [] = l := by rw [List.getD_eq_getElem?_getD, hl]; rfl
  refine ⟨_, rfl, x, C, dx, _, _, rfl, B.ob, W.cl, W.n_rest, fs_rest _ _ _, _, rfl, .inl ⟨va, _, _, _, rfl, rfl, SqL.of (B.nw.sub _ _ ev), hat, Nat.zero_le _, fun p1 hp1 => ?_⟩⟩
  have s1 := same_upd hp1 (HO.lst [])
  refine ⟨natsD l, natsD [], nats_rep (s1 _ _ (B.nw.sub _ _ eb)), .lst upd_same .nil, (okTo_nats _).shaped (by decide), (okTo_nats _).shaped (by decide), ?_⟩
  rw [eqv_nats]
  have B1 := B.more s1
  have q1 : ∀ H', Same (upd H p1 (.lst [])) H' → Q (.bl (decide (p.getD m [] = [] ∨ m ∈ roads.flatten))) H' := fun H' k => q H' (s1.trans k)
  generalize upd H p1 (HO.lst []) = H1 at B1 q1 ⊢
  rw [hg] at q1
  refine ⟨_, rfl, iteD (fun c => ?_) (fun c => ?_)⟩
  · have := q1 H1 (Same.refl _)
    rw [decide_eq_true (.inl c)] at this
    exact this
  refine ⟨_, rfl, x, C, dx, _, _, rfl, B1.ob, W.cl, W.n_roads, fs_roads _ _ _, rA, rfl, ⟨_, SqL.of B1.ro⟩, fun D hD => ?_⟩
  have rlen : rx.length = roads.length := by rw [B.rr.length, List.length_map]
  refine comp_list (K := K) (xs := rx) (FlatP H1 fun i => (roads[i]?).bind fun t => some (V.bl (decide (m ∈ t)))) hD FlatP.zero (fun i G ys pf => SqL.of (pf.1 _ _ B1.ro)) (fun i y G ys hy hG pf => ?_) (fun G ys hG pf => ?_)
  · obtain ⟨t, c, ht, rfl, ec⟩ := reps_at B1.rr hy
    have hi := lt_of_get ht
    refine ⟨_, rfl, _, rfl, c, _, rfl, .inl (SqL.of (same_upd hG _ _ _ (pf.1 _ _ (B1.nw.sub _ _ ec)))), rfl, flat_nats _, ?_⟩
    show CPut _ _ (V.bl (inV (.int (m : Int)) (natsV t))) _
    rw [inV_nats]
    exact pf.put hG (Same.refl _) (by rw [ht]; rfl) (by omega)
  · have ey : ys = (roads.map fun t => decide (m ∈ t)).map V.bl := by
      rw [pf.2, rlen, flat_list, fm_some, List.map_map]
      rfl
    subst ey
    refine ⟨D, roads.map fun t => decide (m ∈ t), rfl, SqL.of upd_same, ?_⟩
    have e : ((roads.map fun t => decide (m ∈ t)).any id) = decide (l = [] ∨ m ∈ roads.flatten) := by
      rw [Bool.eq_iff_iff, List.any_eq_true, decide_eq_true_eq]
      constructor
      · rintro ⟨b, hb, e⟩
        obtain ⟨t, ht, rfl⟩ := List.mem_map.mp hb
        exact .inr (List.mem_flatten.mpr ⟨t, ht, of_decide_eq_true e⟩)
      · rintro (z | z)
        · exact absurd z c
        · obtain ⟨t, ht, hmt⟩ := List.mem_flatten.mp z
          exact ⟨_, List.mem_map_of_mem ht, by simpa using hmt⟩
    rw [e]
    exact q1 _ (pf.1.trans (same_upd hG _))
def sp_lose (C : Addr) : Sp := fun vs H Q _ => ∃ H0 F x dx rA gA v rx gx roads rings p b r, vs = [.ref x, .ref b] ∧ WK C H0 F H x dx rA gA v rx gx roads rings p ∧ H b = some (.lst (natsV r)) ∧ b ≠ gA ∧ r ≠ [] ∧ r.length ≤ 8 ∧ PilesOk p ∧ rings.length ≤ 400 ∧
  ∀ F' v' gx' H', WK C H0 F' H' x dx rA gA v' rx gx' roads (rings ++ [leastN r]) (popN p r) → (∀ c o, c ≠ x → c ≠ gA → H c = some o → H' c = some o) → Same F F' → Q .non H'
theorem def_Walker_lose (T : Txt mg) (W : OwnWalker K mg C) (D_least_first : Def P w K mg base "least_first" 1 ["ring"] sp_least) (D_without_tops : Def P w K mg base "without_tops" 1 ["piles", "places"] sp_without_tops)
    (h : MHere K C "lose" "Walker.lose" s_Walker_lose ["self", "ring"]) : MDef P w K mg base C "lose" 2 ["self", "ring"] (sp_lose C) := h.mk fun f fd F => by
  have nd := sc_Walker_lose.nd
  refine F.ok sc_Walker_lose (fun vs H Q E h => ?_) (fun cdv A outer s H vs Q E hr h => ?_)
  · obtain ⟨H0, F, x, dx, rA, gA, v, rx, gx, roads, rings, p, b, r, rfl, _⟩ := h
    rfl
  obtain ⟨H0, F, x, dx, rA, gA, v, rx, gx, roads, rings, p, b, r, rfl, B, eb, bg, ne, r8, ok, gl, q⟩ := h
  refine ⟨_, pss_cons (ps_expr (pe_bm PySem.F.plainAttrs_list PySem.F.slot_list_append PySem.F.type_list_append mt_append (pe_fldK (K := K) (pv 0)) (pa_cons (pe_callD D_least_first hr rfl (pa_cons (pv 1) pa_nil)) pa_nil)))
    (pss_one (ps_fldK (K := K) (pv 0) (pe_callD D_without_tops hr rfl (pa_cons (pe_fldK (K := K) (pv 0)) (pa_cons (pv 1) pa_nil))))), ?_⟩
  have glen : gx.length = rings.length := by rw [B.gr.length, List.length_map]
  have len8 := ok.len
  refine ⟨_, rfl, x, C, dx, _, _, rfl, B.ob, W.cl, W.n_rings, fs_rings _ _ _, .inl ⟨rfl, _, SqL.of B.gi⟩, _, rfl, b, r, rfl, eb, ne, by omega, fun c H1 k1 hc ec => ?_⟩
  have B1 := B.more k1
  have c0 : H0 c = none := B.nw.keep.free hc
  have fc : F c = none := B.nw.bare hc
  have B2 := B1.see ec c0 fc (Ne.symm (ne_of_none B.ob hc)) (Ne.symm (ne_of_none B.ro hc)) (Ne.symm (ne_of_none B.gi hc))
  have B3 := B2.ring (u := .ref c) (t := leastN r) (nats_rep upd_same)
  refine ⟨gA, gx, _, rfl, rfl, B1.gi, small1000 (by omega), ?_⟩
  have eb3 : (upd H1 gA (.lst (gx ++ [.ref c]))) b = some (.lst (natsV r)) := by rw [upd_ne bg]; exact k1 _ _ eb
  have kk : ∀ c' o, c' ≠ gA → H c' = some o → (upd H1 gA (.lst (gx ++ [.ref c]))) c' = some o := fun c' o n e => by rw [upd_ne n]; exact k1 _ _ e
  generalize upd H1 gA (HO.lst (gx ++ [V.ref c])) = H3 at B3 eb3 kk ⊢
  refine ⟨_, rfl, x, C, dx, _, _, rfl, B3.ob, W.cl, W.n_rest, fs_rest _ _ _, _, rfl, v, .ref b, p, r, rfl, B3.re.mono B3.nw.sub, nats_rep eb3, by omega, fun rv F4 H4 n4 r4 => ?_⟩
  obtain ⟨B4, k4⟩ := B3.join n4
  refine ⟨_, rfl, x, C, dx, _, rfl, B4.ob, W.cl, W.n_rest, by show 3 < 1000; decide, ?_⟩
  refine q _ _ _ _ (B4.rest (r4.mono k4)) (fun c' o n1 n2 e => ?_) ((same_upd fc _).trans both_left)
  rw [upd_ne n1]
  exact n4.keep _ _ (kk c' o n2 e)
end
end Law

namespace Law
open PySem L2 Ways Ring PyProof.Rows
section
variable {P : Program} {w : World} {K : PySem.W.Frag} {mg : Str → Option Value} {base : Heap} {C : Addr}
theorem WK.wr {H0 F H' : Hp} {x dx rA gA b : Addr} {v : V} {rx gx : List V} {roads rings : List (List Nat)} {p : Piles} (W : WK C H0 F H' x dx rA gA v rx gx roads rings p) (fb : F b = none) (h0 : H0 b = none) (n1 : b ≠ x) (n2 : b ≠ rA) (n3 : b ≠ gA) (o : HO) : WK C H0 F (upd H' b o) x dx rA gA v rx gx roads rings p :=
  ⟨W.nw.write fb h0 o, by rw [upd_ne (Ne.symm n1)]; exact W.ob, by rw [upd_ne (Ne.symm n2)]; exact W.ro, by rw [upd_ne (Ne.symm n3)]; exact W.gi, W.fx, W.fr, W.fg, W.hx, W.hr, W.hg, W.xr, W.xg, W.rg, W.rr, W.gr, W.re⟩
theorem last_at {l : List Nat} (h : l ≠ []) : atI (natsV l) (-1) = some (.int ((lastN l : Nat) : Int)) := by
  have e : l = l.dropLast ++ [lastN l] := by
    unfold lastN
    rw [List.getLastD_eq_getLast?, List.getLast?_eq_some_getLast h]
    exact (List.dropLast_concat_getLast h).symm
  rw [e, natsV_append]
  have e2 : lastN (l.dropLast ++ [lastN l]) = lastN l := by rw [← e]
  rw [e2]
  exact atI_last _ _
def sp_walk_from (C : Addr) : Sp := fun vs H Q _ => ∃ H0 F x dx rA gA v rx gx roads rings p s, vs = [.ref x, .int ((s : Nat) : Int)] ∧ WK C H0 F H x dx rA gA v rx gx roads rings p ∧ s < p.length ∧ PilesOk p ∧ roads.length ≤ 100 ∧ rings.length + sizeN p ≤ 400 ∧
  ∀ F' v' rx' gx' road rs p' H', WK C H0 F' H' x dx rA gA v' rx' gx' (roads ++ [road]) (rings ++ rs) p' → WRun roads.flatten ([s], [], p) (road, rs, p') → (∀ c o, c ≠ x → c ≠ rA → c ≠ gA → H c = some o → H' c = some o) → PilesOk p' → p'.length = p.length → (rings ++ rs).length + sizeN p' ≤ 400 → Q .non H'
theorem def_Walker_walk_from (T : Txt mg) (W : OwnWalker K mg C) (D_Walker_ends_at : MDef P w K mg base C "ends_at" 1 ["self", "place"] (sp_ends C)) (D_Walker_lose : MDef P w K mg base C "lose" 2 ["self", "ring"] (sp_lose C))
    (h : MHere K C "walk_from" "Walker.walk_from" s_Walker_walk_from ["self", "start"]) : MDef P w K mg base C "walk_from" 3 ["self", "start"] (sp_walk_from C) := h.mk fun f fd F => by
  have nd := sc_Walker_walk_from.nd
  have W_Walker := W.cl
  refine F.ok sc_Walker_walk_from (fun vs H Q E h => ?_) (fun cdv A outer s H vs Q E hr h => ?_)
  · obtain ⟨H0, F, x, dx, rA, gA, v, rx, gx, roads, rings, p, s, rfl, _⟩ := h
    rfl
  obtain ⟨H0, F0, x, dx, rA, gA, v0, rx, gx0, roads, rings, p0, st, rfl, B0, hst, ok0, rl, few, q⟩ := h
  refine ⟨_, pss_cons (ps_set (i := 2) nd rfl (Or.inl rfl) (pe_lst (pa_cons (pv 1) pa_nil)))
    (pss_cons (ps_while PassesOwn.never (pt_not (pt_val (pe_methD (pv 0) W_Walker D_Walker_ends_at hr (pa_cons (pe_ix (ix_lt (K := K)) (pv 2) (pe_un un_neg pe_int) (fun _ _ => rfl)) pa_nil))))
      (pss_cons (ps_set (i := 3) nd rfl (Or.inl rfl) (pe_ix (ix_lt (K := K)) (pe_ix (ix_lt (K := K)) (pe_fldK (K := K) (pv 0)) (pe_ix (ix_lt (K := K)) (pv 2) (pe_un un_neg pe_int) (fun _ _ => rfl)) (fun _ _ => rfl)) pe_int (fun _ _ => rfl)))
      (pss_one (ps_if (pt_cmpR (op_inK (K := K)) (pv 3) (pv 2) rfl)
        (pss_cons (ps_set (i := 4) nd rfl (Or.inl rfl) (pe_bm PySem.F.plainAttrs_list PySem.F.slot_list_index PySem.F.type_list_index mt_index (pv 2) (pa_cons (pv 3) pa_nil)))
        (pss_cons (ps_expr (pe_methD (pv 0) W_Walker D_Walker_lose hr (pa_cons (pe_slice (sl_listK (K := K)) (pv 2) (po_some (pv 4)) po_none) pa_nil)))
        (pss_one (ps_set (i := 2) nd rfl (Or.inl rfl) (pe_slice (sl_listK (K := K)) (pv 2) po_none (po_some (pe_op op_add (pv 4) pe_int)))))))
        (pss_one (ps_expr (pe_bm PySem.F.plainAttrs_list PySem.F.slot_list_append PySem.F.type_list_append mt_append (pv 2) (pa_cons (pv 3) pa_nil))))))))
    (pss_one (ps_expr (pe_bm PySem.F.plainAttrs_list PySem.F.slot_list_append PySem.F.type_list_append mt_append (pe_fldK (K := K) (pv 0)) (pa_cons (pv 2) pa_nil))))), ?_⟩
  refine ⟨_, rfl, (by show 1 ≤ sizeLine; decide), fun ra0 hra0 => ?_⟩
  have s0 := same_upd hra0 (HO.lst [V.int ((st : Nat) : Int)])
  refine ⟨fun m σ' H' => ∃ (F : Hp) (v : V) (gx : List V) (ra : Addr) (road : List Nat) (rs : List (List Nat)) (p : Piles) (c3 c4 : Option V), σ' = [some (.ref x), some (.int ((st : Nat) : Int)), some (.ref ra), c3, c4] ∧ WK C H0 F H' x dx rA gA v rx gx roads (rings ++ rs) p ∧
    H' ra = some (.lst (natsV road)) ∧ ra ≠ x ∧ ra ≠ rA ∧ ra ≠ gA ∧ F ra = none ∧ H0 ra = none ∧ H ra = none ∧ GoodW (road, rs, p) ∧ (∀ t, WRun roads.flatten (road, rs, p) t → WRun roads.flatten ([st], [], p0) t) ∧ m = 9 * sizeN p + (8 - road.length) ∧
    (∀ c o, c ≠ x → c ≠ gA → H c = some o → H' c = some o) ∧ p.length = p0.length ∧ (rings ++ rs).length + sizeN p ≤ 400,
    ⟨_, F0, v0, gx0, ra0, [st], [], p0, none, none, rfl, by rw [List.append_nil]; exact B0.more s0, upd_same, Ne.symm (ne_of_none B0.ob hra0), Ne.symm (ne_of_none B0.ro hra0), Ne.symm (ne_of_none B0.gi hra0), B0.nw.bare hra0, B0.nw.keep.free hra0, hra0, GoodW.start ok0 hst, fun t z => z, rfl, fun c o _ _ e => s0 _ _ e, rfl, by rw [List.append_nil]; exact few⟩, ?_⟩
  rintro m σ' H' ⟨F, v, gx, ra, road, rs, p, c3, c4, rfl, B, era, nx, nr, ng, fra, h0ra, hra, good, wr, rfl, kept, pl, fw⟩
  have lastlt := good.bd _ (last_mem good.ne)
  have road8 : road.length ≤ 8 := Nat.le_trans (nodup_bound _ road good.nd good.bd) good.ok.len
  refine ⟨_, rfl, x, dx, _, rfl, B.ob, fs_no _ _ _ (by decide +kernel) (by decide +kernel) (by decide +kernel), _, rfl, _, rfl, .inl ⟨ra, _, -1, _, rfl, rfl, SqL.of era, last_at good.ne, ?_⟩⟩
  refine ⟨H0, F, x, dx, rA, gA, v, rx, gx, roads, rings ++ rs, p, lastN road, rfl, B, lastlt, by omega, fun H1 k1 => ⟨_, rfl, ?_⟩⟩
  have B1 := B.more k1
  have era1 := k1 _ _ era
  have kept1 : ∀ c o, c ≠ x → c ≠ gA → H c = some o → H1 c = some o := fun c o a b e => k1 _ _ (kept c o a b e)
  by_cases en : endedW roads.flatten (road, rs, p)
  · rw [decide_eq_true (show p.getD (lastN road) [] = [] ∨ lastN road ∈ roads.flatten from en)]
    have rlen : rx.length = roads.length := by rw [B.rr.length, List.length_map]
    refine ⟨_, rfl, x, C, dx, _, _, rfl, B1.ob, W.cl, W.n_roads, fs_roads _ _ _, .inl ⟨rfl, _, SqL.of B1.ro⟩, _, rfl, rA, rx, _, rfl, rfl, B1.ro, small1000 (by omega), ?_⟩
    have B2 := (B1.see era1 h0ra fra nx nr ng).road (u := .ref ra) (t := road) (nats_rep upd_same)
    refine q _ _ _ _ road rs p _ B2 (wr _ (.stop en)) (fun c o n1 n2 n3 e => ?_) good.ok pl fw
    rw [upd_ne n2]
    exact kept1 c o n1 n3 e
  · rw [decide_eq_false (show ¬ (p.getD (lastN road) [] = [] ∨ lastN road ∈ roads.flatten) from en)]
    have hne : p.getD (lastN road) [] ≠ [] := fun z => en (.inl z)
    obtain ⟨good', less, len'⟩ := good.next en
    obtain ⟨va, vx, rfl, ev, rv⟩ := rep_list B1.re
    have vl : vx.length = p.length := by rw [rv.length, List.length_map]
    have hvm : vx[lastN road]? = some vx[lastN road] := List.getElem?_eq_getElem (by rw [vl]; exact lastlt)
    obtain ⟨l, bl, hl, hbl, ebl⟩ := reps_at rv hvm
    have hatv : atI vx ((lastN road : Nat) : Int) = some (.ref bl) := by rw [← hbl]; exact atI_nat hvm
    have hg : p.getD (lastN road) [] = l := by rw [List.getD_eq_getElem?_getD, hl]; rfl
    have hto : atI (natsV l) 0 = some (.int ((toN (road, rs, p) : Nat) : Int)) := by
      unfold toN
      show atI (natsV l) 0 = some (.int (((p.getD (lastN road) []).headD 0 : Nat) : Int))
      rw [hg] at hne ⊢
      cases l with
      | nil => exact absurd rfl hne
      | cons a l => exact atI0 _ _
    refine ⟨fun σ' H' => ∃ (F : Hp) (v : V) (gx : List V) (ra : Addr) (c3 c4 : Option V), σ' = [some (.ref x), some (.int ((st : Nat) : Int)), some (.ref ra), c3, c4] ∧ WK C H0 F H' x dx rA gA v rx gx roads (rings ++ (nextW (road, rs, p)).2.1) (nextW (road, rs, p)).2.2 ∧
      H' ra = some (.lst (natsV (nextW (road, rs, p)).1)) ∧ ra ≠ x ∧ ra ≠ rA ∧ ra ≠ gA ∧ F ra = none ∧ H0 ra = none ∧ H ra = none ∧ (∀ c o, c ≠ x → c ≠ gA → H c = some o → H' c = some o) ∧ (rings ++ (nextW (road, rs, p)).2.1).length + sizeN (nextW (road, rs, p)).2.2 ≤ 400, ?_, ?_⟩
    · rintro σ2 H2 ⟨F2, v2, gx2, ra2, c3', c4', e, B2, e2, n1, n2, n3, f2, g2, h2, kp2, fw2⟩
      exact ⟨_, less, F2, v2, gx2, ra2, _, _, _, c3', c4', e, B2, e2, n1, n2, n3, f2, g2, h2, good', fun t z => wr t (.go en z), rfl, kp2, len'.trans pl, fw2⟩
    · refine ⟨_, rfl, x, C, dx, _, _, rfl, B1.ob, W.cl, W.n_rest, fs_rest _ _ _, _, rfl, _, rfl, .inl ⟨ra, _, -1, _, rfl, rfl, SqL.of era1, last_at good.ne, .inl ⟨va, _, _, _, rfl, rfl, SqL.of (B1.nw.sub _ _ ev), hatv, .inl ⟨bl, _, 0, _, rfl, rfl, SqL.of (B1.nw.sub _ _ ebl), hto, ?_⟩⟩⟩⟩
      refine ⟨_, rfl, _, rfl, ra, _, rfl, .inl (SqL.of era1), rfl, flat_nats _, _, rfl, ?_⟩
      show if inV (.int ((toN (road, rs, p) : Nat) : Int)) (natsV road) = true then _ else _
      rw [inV_nats]
      generalize hT : toN (road, rs, p) = to at *
      refine iteD (fun c => ?_) (fun c => ?_)
      · have hi := List.idxOf_lt_length_of_mem c
        have enx : nextW (road, rs, p) = (road.take (road.idxOf to + 1), rs ++ [leastN (road.drop (road.idxOf to))], popN p (road.drop (road.idxOf to))) := by unfold nextW; rw [hT]; exact if_pos c
        rw [enx] at len' less
        have rsl : rs.length + 1 + sizeN (popN p (road.drop (road.idxOf to))) ≤ rs.length + sizeN p := by
          have : 9 * sizeN (popN p (road.drop (road.idxOf to))) + (8 - (road.take (road.idxOf to + 1)).length) < 9 * sizeN p + (8 - road.length) := less
          rw [List.length_take] at this
          omega
        refine ⟨_, rfl, .inl ⟨rfl, _, SqL.of era1⟩, _, rfl, ra, castI road, _, rfl, rfl, by rw [← nats_cast]; exact SqL.of era1, by unfold castI; rw [List.length_map]; omega, mem_cast c, ?_⟩
        rw [idx_cast]
        refine ⟨_, rfl, x, dx, _, rfl, B1.ob, fs_no _ _ _ (by decide +kernel) (by decide +kernel) (by decide +kernel), _, rfl, _, rfl, _, rfl, ra, _, rfl, SqL.of era1, fun q1 h1 => ?_⟩
        rw [cut_dr _ _ (by omega)]
        have s2 := same_upd h1 (HO.lst (natsV (road.drop (road.idxOf to))))
        have era2 := s2 _ _ era1
        have B2 := B1.more s2
        have eq2 : (upd H1 q1 (.lst (natsV (road.drop (road.idxOf to))))) q1 = some (.lst (natsV (road.drop (road.idxOf to)))) := upd_same
        have kept2 : ∀ c o, c ≠ x → c ≠ gA → H c = some o → (upd H1 q1 (.lst (natsV (road.drop (road.idxOf to))))) c = some o := fun c o a b e => s2 _ _ (kept1 c o a b e)
        have ngq : q1 ≠ gA := Ne.symm (ne_of_none B1.gi h1)
        generalize upd H1 q1 (HO.lst (natsV (road.drop (road.idxOf to)))) = H2 at B2 era2 eq2 kept2 ⊢
        refine ⟨H0, F, x, dx, rA, gA, _, rx, gx, roads, rings ++ rs, p, q1, _, rfl, B2, eq2, ngq, ?_, by rw [List.length_drop]; omega, good.ok, by omega, fun F' v' gx' H3 B3 kp3 fs3 => ?_⟩
        · intro z
          have := congrArg List.length z
          rw [List.length_drop, List.length_nil] at this
          omega
        have era3 := kp3 _ _ nx ng era2
        refine ⟨_, rfl, _, rfl, _, _, rfl, rfl, _, rfl, ra, _, rfl, SqL.of era3, fun q2 h2 => ?_⟩
        rw [show ((road.idxOf to : Nat) : Int) + 1 = ((road.idxOf to + 1 : Nat) : Int) by omega, cut_tk _ _ (by omega)]
        have s4 := same_upd h2 (HO.lst (natsV (road.take (road.idxOf to + 1))))
        have hHq : H q2 = none := by
          cases z : H q2 with
          | none => rfl
          | some o =>
            exfalso
            have a : q2 ≠ x := Ne.symm (ne_of_none B3.ob h2)
            have b : q2 ≠ gA := Ne.symm (ne_of_none B3.gi h2)
            have := kp3 _ _ a b (kept2 q2 o a b z)
            rw [h2] at this; cases this
        rw [enx]
        refine ⟨F', v', gx', q2, _, _, rfl, ?_, upd_same, Ne.symm (ne_of_none B3.ob h2), Ne.symm (ne_of_none B3.ro h2), Ne.symm (ne_of_none B3.gi h2), B3.nw.bare h2, B3.nw.keep.free h2, hHq, fun c o a b e => s4 _ _ (kp3 _ _ a b (kept2 c o a b e)), ?_⟩
        · have := B3.more s4
          rw [List.append_assoc] at this
          exact this
        · show (rings ++ (rs ++ [_])).length + sizeN (popN p (road.drop (road.idxOf to))) ≤ 400
          rw [List.length_append, List.length_append, List.length_singleton]
          rw [List.length_append] at fw
          omega
      · have enx : nextW (road, rs, p) = (road ++ [to], rs, p) := by unfold nextW; rw [hT]; exact if_neg c
        rw [enx]
        refine ⟨_, rfl, .inl ⟨rfl, _, SqL.of era1⟩, _, rfl, ra, _, _, rfl, rfl, era1, small1000 (by rw [natsV_len]; omega), ?_⟩
        refine ⟨F, _, gx, ra, _, _, rfl, B1.wr fra h0ra nx nr ng _, by rw [upd_same, natsV_append]; rfl, nx, nr, ng, fra, h0ra, hra, fun c o a b e => ?_, fw⟩
        rw [upd_ne (ne_of_none e hra)]
        exact kept1 c o a b e
end
end Law

namespace Law
open PySem L2 Ways Ring PyProof.Rows
section
variable {P : Program} {w : World} {K : PySem.W.Frag} {mg : Str → Option Value} {base : Heap} {C : Addr}
def tripD (roads rings : List (List Nat)) (p : Piles) : PyData := .tuple [ringsD roads, ringsD rings, ringsD p]
theorem rep_trip {H : Hp} {x : V} {a b : List (List Nat)} {p : Piles} (r : Rep H x (tripD a b p)) : ∃ t u v z, x = .ref t ∧ H t = some (.tup [u, v, z]) ∧ Rep H u (ringsD a) ∧ Rep H v (ringsD b) ∧ Rep H z (ringsD p) := by
  unfold tripD at r
  cases r with
  | @tup c xs _ e qs =>
    cases qs with
    | cons r1 qs =>
      cases qs with
      | cons r2 qs =>
        cases qs with
        | cons r3 qs =>
          cases qs
          exact ⟨c, _, _, _, rfl, e, r1, r2, r3⟩
theorem keep_out (as : List Nat) : ∀ l : List Nat, (l.filterMap fun i => if i ∉ as then some (V.int (i : Int)) else none) = natsV (l.filter fun x => decide (x ∉ as))
  | [] => rfl
  | a :: l => by
    by_cases c : a ∈ as
    · rw [List.filterMap_cons_none (by rw [if_neg (fun z => z c)]), List.filter_cons_of_neg (by simpa using c), keep_out as l]
    · rw [List.filterMap_cons_some (b := V.int (a : Int)) (by rw [if_pos c]), List.filter_cons_of_pos (by simpa using c), keep_out as l]
      rfl
def startsN (n : Nat) (as : List Nat) : List Nat := as ++ (List.range n).filter fun x => decide (x ∉ as)
/-- what is handed in as starts -/
def StV (H : Hp) (v : V) (o : Option (List Nat)) : Prop := match o with
  | none => v = .non
  | some l => ∃ a, v = .ref a ∧ H a = some (.lst (natsV l))
def sp_walk_out : Sp := fun vs H Q _ => ∃ x v p o, vs = [x, v] ∧ Rep H x (ringsD p) ∧ PilesOk p ∧ StV H v o ∧ (o.getD []).length ≤ 63 ∧ (∀ s ∈ o.getD [], s < p.length) ∧
  ∀ roads rings p' r F H', WSteps p (startsN p.length (o.getD [])) roads rings p' → PilesOk p' → p'.length = p.length → rings.length + sizeN p' ≤ 400 → New H F H' → Rep F r (tripD roads rings p') → Q r H'
theorem def_walk_out (T : Txt mg) (W : OwnWalker K mg C) (D_Walker___init__ : NDef P w K mg base C 2 ["self", "piles"] (sp_init C)) (D_Walker_walk_from : MDef P w K mg base C "walk_from" 3 ["self", "start"] (sp_walk_from C))
    (h : HereD K mg "walk_out" s_walk_out ["piles", "starts"] [.none]) : Def P w K mg base "walk_out" 4 ["piles", "starts"] sp_walk_out ∧ DefS P w K mg base "walk_out" 4 ["piles", "starts"] [.none] sp_walk_out := h.mk fun f fd F => by
  have nd := sc_walk_out.nd
  have W_Walker := W.cl
  have M_Walker := W.g
  refine F.ok sc_walk_out (fun vs H Q E h => ?_) (fun cdv A outer s H vs Q E hr h => ?_)
  · obtain ⟨x, v, p, o, rfl, _⟩ := h
    rfl
  obtain ⟨x, v, p, o, rfl, rx, ok, ho, o63, ob, q⟩ := h
  obtain ⟨U, hU, rest⟩ : ∃ U, PSs (cxOf CX0 P w K mg base ["piles", "starts", "asked", "others", "walker", "start"] "walk_out" (defScope s_walk_out) f cdv A outer s H E).nox ((defBody s_walk_out).drop 1) U ∧
      ∀ (aA : Addr) (H1 : Hp), Same H H1 → H1 aA = some (.lst (natsV (o.getD []))) → U { nx := fun _ H' => Q .non H', rt := Q } [some x, some v, some (.ref aA), none, none, none] H1 := by
    refine ⟨_, pss_cons (ps_setC (i := 3) nd rfl rfl (N' := ["place", "asked"]) (cap := [none, some 2]) rfl ⟨rfl, rfl, rfl, rfl, rfl, rfl⟩ (pi_range1 rfl T.z_range (pa_cons (pe_callB (call_lenK (K := K)) rfl T.z_len PySem.boot_len (pa_cons (pv 0) pa_nil)) pa_nil)) (fun _ _ _ _ _ _ => ⟨pg_name (i := 0) (show (["place", "asked"] : List Str).Nodup by decide +kernel) rfl (Or.inl rfl) (Or.inr rfl), pifs_one (pt_cmpR (op_notInK (K := K)) (pv 0) (pv 1) rfl), pv 0⟩) (keeps_name rfl))
    (pss_cons (ps_set (i := 4) nd rfl (Or.inl rfl) (pe_makeD D_Walker___init__ hr rfl M_Walker (pa_cons (pv 0) pa_nil)))
    (pss_cons (ps_for PassesOwn.never rfl (pi_listK (K := K) (pe_op op_cat (pv 2) (pv 3))) (pg_name (i := 5) nd rfl (Or.inl rfl))
      (pss_one (ps_expr (pe_methD (pv 4) W_Walker D_Walker_walk_from hr (pa_cons (pv 5) pa_nil)))))
    (pss_one (ps_ret (pe_tup (pa_cons (pe_fldK (K := K) (pv 4)) (pa_cons (pe_fldK (K := K) (pv 4)) (pa_cons (pe_fldK (K := K) (pv 4)) pa_nil)))))))), fun aA H1 k1 eA => ?_⟩
    have len8 := ok.len
    have few := ok.few
    generalize o.getD [] = as at o63 ob eA q
    obtain ⟨xa, xx, rfl, ex, rxx⟩ := rep_list rx
    have xl : xx.length = p.length := by rw [rxx.length, List.length_map]
    have rx1 := rx.mono k1
    -- others
    refine ⟨_, rfl, xa, _, rfl, .inl (SqL.of (k1 _ _ ex)), _, rfl, by omega, by omega, fun D hD => ?_⟩
    refine comp_range (lo := 0) (n := ((xx.length : Nat) : Int).toNat) (FlatP H1 fun i => if i ∉ as then some (V.int (i : Int)) else none) hD FlatP.zero (fun i G ys hi hG pf => ?_) (fun G ys hG pf => ?_)
    · rw [Int.zero_add]
      refine ⟨_, rfl, _, rfl, aA, _, rfl, .inl (SqL.of (same_upd hG _ _ _ (pf.1 _ _ eA))), rfl, flat_nats _, _, rfl, ?_⟩
      show if (!inV (.int (i : Int)) (natsV as)) = true then _ else _
      rw [inV_nats]
      by_cases c : i ∈ as
      · rw [decide_eq_true c]
        exact pf.skip hG (Same.refl _) (if_neg (fun z => z c))
      · rw [decide_eq_false c]
        exact ⟨_, rfl, pf.put hG (Same.refl _) (if_pos c) (by omega)⟩
    have ey : ys = natsV ((List.range p.length).filter fun x => decide (x ∉ as)) := by
      rw [pf.2, xl, show ((p.length : Nat) : Int).toNat = p.length by omega]
      exact keep_out as _
    subst ey
    have fl : ((List.range p.length).filter fun x => decide (x ∉ as)).length ≤ 8 := Nat.le_trans (List.length_filter_le _ _) (by rw [List.length_range]; exact len8)
    have k2 := k1.trans (pf.1.trans (same_upd hG (.lst (natsV ((List.range p.length).filter fun x => decide (x ∉ as))))))
    have eA2 := (pf.1.trans (same_upd hG (.lst (natsV ((List.range p.length).filter fun x => decide (x ∉ as)))))) _ _ eA
    have eO : (upd G D (.lst (natsV ((List.range p.length).filter fun x => decide (x ∉ as))))) D = some (.lst (natsV ((List.range p.length).filter fun x => decide (x ∉ as)))) := upd_same
    generalize upd G D (HO.lst (natsV ((List.range p.length).filter fun x => decide (x ∉ as)))) = H2 at k2 eA2 eO ⊢
    -- the walker
    refine ⟨_, rfl, fun wx dx hx hdx ndx => ?_⟩
    have sM : Same H2 (upd (upd H2 dx (.own wx)) wx (.ins C dx [])) := fun b o e => by rw [upd_ne (ne_of_none e hx), upd_ne (ne_of_none e hdx)]; exact e
    refine ⟨wx, .ref xa, H2, dx, p, rfl, sM, hx, upd_same, rx.mono k2, by omega, fun F3 rA gA v3 H3 B3 => ⟨rfl, ?_⟩⟩
    refine ⟨_, rfl, _, rfl, aA, D, _, _, rfl, rfl, B3.nw.keep _ _ eA2, B3.nw.keep _ _ eO, Nat.le_of_lt (small1000 (by rw [natsV_len, natsV_len]; omega)), fun l hl => ?_⟩
    rw [← natsV_append]
    have eS : as ++ (List.range p.length).filter (fun x => decide (x ∉ as)) = startsN p.length as := rfl
    rw [eS]
    have Sl : (startsN p.length as).length ≤ 71 := by unfold startsN; rw [List.length_append]; omega
    have Sb : ∀ s ∈ startsN p.length as, s < p.length := fun s hs => by
      rcases List.mem_append.mp hs with z | z
      · exact ob s z
      · exact List.mem_range.mp (List.mem_filter.mp z).1
    generalize startsN p.length as = S at Sl Sb q ⊢
    have s4 := same_upd hl (HO.lst (natsV S))
    have el4 : (upd H3 l (.lst (natsV S))) l = some (.lst (natsV S)) := upd_same
    have nlx : l ≠ wx := Ne.symm (ne_of_none B3.ob hl)
    have nlr : l ≠ rA := Ne.symm (ne_of_none B3.ro hl)
    have nlg : l ≠ gA := Ne.symm (ne_of_none B3.gi hl)
    have B4 := B3.more s4
    generalize upd H3 l (HO.lst (natsV S)) = H4 at B4 el4 ⊢
    refine ⟨l, rfl, ⟨_, SqL.of el4⟩, for_list (K := K) (xs := natsV S) (fun i σ' H' => ∃ (F : Hp) (vv : V) (rx gx : List V) (roads rings : List (List Nat)) (p' : Piles) (c5 : Option V), σ' = [some (.ref xa), some v, some (.ref aA), some (.ref D), some (.ref wx), c5] ∧ WK C H2 F H' wx dx rA gA vv rx gx roads rings p' ∧
      WSteps p (S.take i) roads rings p' ∧ PilesOk p' ∧ p'.length = p.length ∧ rings.length + sizeN p' ≤ 400 ∧ roads.length = i ∧ H' l = some (.lst (natsV S)))
      ⟨F3, v3, [], [], [], [], p, none, rfl, B4, .nil, ok, rfl, by rw [List.length_nil]; omega, rfl, el4⟩ (fun i σ' H' _ ⟨_, _, _, _, _, _, _, _, _, _, _, _, _, _, _, e⟩ => SqL.of e) ?_ ?_⟩
    · rintro i y σ' H' hy ⟨F, vv, rx', gx, roads, rings, p', c5, rfl, B, ws, ok', pl, fw, rl, el⟩
      obtain ⟨st, hst, rfl⟩ := natsV_get hy
      have hi := lt_of_get hst
      refine ⟨_, rfl, wx, dx, _, rfl, B.ob, fs_no _ _ _ (by decide +kernel) (by decide +kernel) (by decide +kernel), _, rfl, ?_⟩
      refine ⟨H2, F, wx, dx, rA, gA, vv, rx', gx, roads, rings, p', st, rfl, B, by rw [pl]; exact Sb st (List.mem_of_getElem? hst), ok', by omega, fw, fun F' v' rx2 gx2 road rs p2 H5 B5 wr kept ok2 pl2 fw2 => ?_⟩
      refine ⟨F', v', rx2, gx2, roads ++ [road], rings ++ rs, p2, _, rfl, B5, ?_, ok2, pl2.trans pl, fw2, by rw [List.length_append, List.length_singleton, rl], kept _ _ nlx nlr nlg el⟩
      rw [List.take_succ, hst, Option.toList_some]
      exact .snoc ws wr
    · rintro σ' H' ⟨F, vv, rx', gx, roads, rings, p', c5, rfl, B, ws, ok', pl, fw, rl, el⟩
      rw [natsV_len, List.take_length] at ws
      refine ⟨_, rfl, wx, C, dx, _, _, rfl, B.ob, W.cl, W.n_roads, fs_roads _ _ _, _, rfl, wx, C, dx, _, _, rfl, B.ob, W.cl, W.n_rings, fs_rings _ _ _, _, rfl, wx, C, dx, _, _, rfl, B.ob, W.cl, W.n_rest, fs_rest _ _ _, (by show 3 ≤ sizeLine; decide), fun t ht => ?_⟩
      have n1 := B.nw.see B.ro B.fr B.hr
      have fg1 : (upd F rA (.lst rx')) gA = none := by rw [upd_ne (Ne.symm B.rg)]; exact B.fg
      have n2 := n1.see B.gi fg1 B.hg
      have n3 := (n2.lay ht (.tup [.ref rA, .ref gA, vv])).see upd_same (n2.bare ht) (n2.keep.free ht)
      have sF1 : Same F (upd F rA (.lst rx')) := same_upd B.fr _
      have sF2 : Same (upd F rA (.lst rx')) (upd (upd F rA (.lst rx')) gA (.lst gx)) := same_upd fg1 _
      have sF3 : Same (upd (upd F rA (.lst rx')) gA (.lst gx)) (upd (upd (upd F rA (.lst rx')) gA (.lst gx)) t (.tup [.ref rA, .ref gA, vv])) := same_upd (n2.bare ht) _
      have all := sF1.trans (sF2.trans sF3)
      refine q roads rings p' (.ref t) _ _ ws ok' pl fw (New.after k2 n3) (.tup upd_same (.cons (.lst (sF3 _ _ (sF2 _ _ upd_same)) (B.rr.mono all)) (.cons (.lst (sF3 _ _ upd_same) (B.gr.mono all)) (.cons (B.re.mono all) .nil))))
  refine ⟨_, pss_cons (ps_set (i := 2) nd rfl (Or.inr rfl) (pe_ifExp (pt_cmp (pc_isN (pv 1))) (pe_lst pa_nil) (pe_callTy (call_listK (K := K)) rfl T.z_list boot_list (pa_cons (pv 1) pa_nil))))
    (hU), ?_⟩
  cases o with
  | none =>
    have ev : v = .non := ho
    subst ev
    refine ⟨_, rfl, _, rfl, Nat.zero_le _, fun aA hA => ?_⟩
    exact rest aA _ (same_upd hA _) upd_same
  | some l =>
    obtain ⟨a, rfl, ea⟩ := ho
    refine ⟨_, rfl, _, rfl, _, rfl, a, _, rfl, .inl (SqL.of ea), fun aA hA => ?_⟩
    exact rest aA _ (same_upd hA _) upd_same
end
end Law

namespace Law
open PySem L2 Ways Ring PyProof.Rows
section
variable {P : Program} {w : World} {K : PySem.W.Frag} {mg : Str → Option Value} {base : Heap}
/-- a comprehension that lays one new list for each place -/
theorem fresh_comp {cap : List (Option Nat)} {σ : L2.St} {Q : VK} {H : Hp} {b D : Addr} {l : List Nat} {te : TE} (f : Nat → List Nat) (eb : H b = some (.lst (natsV l))) (hl : l.length ≤ 900) (hD : H D = none)
    (ht : ∀ (x : Nat) G Q', x ∈ l → Same H G → (∀ c, G c = none → Q' (.ref c) (upd G c (.lst (natsV (f x))))) → te ((capt σ cap).set 0 (some (.int (x : Int)))) G Q')
    (fin : ∀ G, Same H G → Rep G (.ref D) (ringsD (l.map f)) → Q (.ref D) G) : CompAt cap (gName 0) tTrue te σ Q (Itl K b) H D := by
  refine comp_list (K := K) (xs := natsV l) (fun i G ys => Same H G ∧ Reps G ys (((l.take i).map f).map natsD)) hD ⟨Same.refl _, .nil⟩ (fun i G ys ⟨k, _⟩ => SqL.of (k _ _ eb)) (fun i x G ys hx hG p => ?_) (fun G ys hG p => ?_)
  · obtain ⟨k, ry⟩ := p
    obtain ⟨n, hn, rfl⟩ := natsV_get hx
    have hi := lt_of_get hn
    refine ht _ _ _ (List.mem_of_getElem? hn) (k.trans (same_upd hG _)) fun c hc => ?_
    have hcD : c ≠ D := by rintro rfl; rw [upd_same] at hc; cases hc
    have sG : Same G (del (upd (upd G D (.lst ys)) c (.lst (natsV (f n)))) D) := same_del (Same.refl _) hG (same_upd hc _)
    refine cput (ys := ys) (same_upd hc _ _ _ upd_same) (by have := ry.length; rw [List.length_map, List.length_map, List.length_take] at this; omega) ⟨k.trans sG, ?_⟩
    rw [List.take_succ, hn, Option.toList_some, List.map_append, List.map_append, List.map_singleton, List.map_singleton]
    exact (ry.mono sG).snoc (nats_rep (by rw [del_ne hcD, upd_same]))
  · obtain ⟨k, ry⟩ := p
    rw [natsV_len, List.take_length] at ry
    exact fin _ (k.trans (same_upd hG _)) (.lst upd_same (ry.mono (same_upd hG _)))
/-- the tops at a ring's places are the ring turned by one -/
theorem heads_eq {q : Piles} (ok : PilesOk q) {r : List Nat} (h : r ∈ ringsN (topsN q)) : r.map (fun x => (q.getD x []).take 1) = (rot r).map fun x => [x] := by
  have i := rings_is ok.inB h
  have e : r.map (fun x => (q.getD x []).take 1) = (r.map (nextE (topsN q))).map Option.toList := by
    rw [List.map_map]
    refine List.map_congr_left fun x _ => ?_
    show _ = (nextE (topsN q) x).toList
    rw [topsN_next, List.getD_eq_getElem?_getD]
    cases q[x]? with
    | none => rfl
    | some l => cases l <;> rfl
  rw [e, i.next, List.map_map]
  rfl
/-- places popped one by one -/
theorem pop_snoc {q : Piles} {t : List Nat} {x : Nat} (hx : x ∉ t) : popN q (t ++ [x]) = (popN q t).set x ((q.getD x []).drop 1) := by
  refine List.ext_getElem? fun i => ?_
  rw [popN_at, List.getElem?_set, popN_len, popN_at, List.getD_eq_getElem?_getD]
  by_cases c : x = i
  · subst c
    rw [if_pos rfl]
    by_cases hl : x < q.length
    · rw [if_pos hl, List.getElem?_eq_getElem hl]
      simp
    · rw [if_neg hl, List.getElem?_eq_none (by omega)]; rfl
  · rw [if_neg c]
    have : (i ∈ t ++ [x]) ↔ i ∈ t := by simp; intro z; exact absurd z.symm c
    cases q[i]? with
    | none => rfl
    | some l => simp only [Option.map_some, this]
end
end Law

namespace Law
open PySem L2 Ways Ring PyProof.Rows
section
variable {P : Program} {w : World} {K : PySem.W.Frag} {mg : Str → Option Value} {base : Heap}
theorem cut_fst (r : List Nat) : cutV (natsV r) none (some 1) = natsV (r.take 1) := by
  cases r with
  | nil => rfl
  | cons a r =>
    unfold cutV HT.sIx natsV
    simp
theorem cut_rest (r : List Nat) : cutV (natsV r) (some 1) none = natsV (r.drop 1) := by
  cases r with
  | nil => rfl
  | cons a r =>
    unfold cutV HT.sIx natsV
    simp
    exact List.take_of_length_le (by simp)
theorem reps_put {F : Hp} {x : V} {d : PyData} : ∀ {xs : List V} {ds : List PyData} (i : Nat), Reps F xs ds → Rep F x d → Reps F (xs.set i x) (ds.set i d)
  | _, _, _, .nil, _ => .nil
  | _, _, 0, .cons _ t, r => .cons r t
  | _, _, i + 1, .cons a t, r => .cons a (reps_put i t r)
theorem pop_none (q : Piles) : popN q [] = q := by
  refine List.ext_getElem? fun i => ?_
  rw [popN_at]
  cases q[i]? with
  | none => rfl
  | some l => simp
def sp_each : Sp := fun vs H Q _ => ∃ x y z p rs q, vs = [x, y, z] ∧ Rep H x (ringsD p) ∧ Rep H y (ringsD rs) ∧ Rep H z (ringsD q) ∧ PilesOk p ∧ Pops p rs q ∧ ∀ H', Same H H' → Q (.bl true) H'
theorem def__law_each_a_ring (T : Txt mg) (h : Here K mg "_law_each_a_ring" s__law_each_a_ring ["_law_piles", "_law_rings", "_law_rest"]) : Def P w K mg base "_law_each_a_ring" 1 ["_law_piles", "_law_rings", "_law_rest"] sp_each := h.mk fun f fd F => by
  have nd := sc__law_each_a_ring.nd
  refine F.ok sc__law_each_a_ring (fun vs H Q E h => ?_) (fun cdv A outer s H vs Q E hr h => ?_)
  · obtain ⟨x, y, z, p, rs, q, rfl, _⟩ := h
    rfl
  obtain ⟨x, y, z, p, rs, rest, rfl, rx, ry, rz, ok, pops, qq⟩ := h
  refine ⟨_, pss_cons (ps_set (i := 3) nd rfl (Or.inr rfl) (pe_comp (N' := ["_law_pile"]) (cap := [none]) rfl ⟨rfl, rfl, rfl, rfl, rfl, rfl⟩ (pi_listK (K := K) (pv 0)) (fun _ _ _ _ _ _ => ⟨pg_name (i := 0) (show (["_law_pile"] : List Str).Nodup by decide +kernel) rfl (Or.inl rfl) (Or.inr rfl), pifs_nil, pe_callTy (call_listK (K := K)) rfl T.z_list boot_list (pa_cons (pv 0) pa_nil)⟩) (keeps_name rfl)))
    (pss_cons (ps_for PassesOwn.never rfl (pi_listK (K := K) (pv 1)) (pg_name (i := 4) nd rfl (Or.inl rfl))
      (pss_cons (ps_if (pt_cmpR (op_neD hr) (pe_comp (N' := ["_law_place", "_law_left"]) (cap := [none, some 3]) rfl ⟨rfl, rfl, rfl, rfl, rfl, rfl⟩ (pi_listK (K := K) (pv 4)) (fun _ _ _ _ _ _ => ⟨pg_name (i := 0) (show (["_law_place", "_law_left"] : List Str).Nodup by decide +kernel) rfl (Or.inl rfl) (Or.inr rfl), pifs_nil, pe_slice (sl_listK (K := K)) (pe_ix (ix_lt (K := K)) (pv 1) (pv 0) (fun _ _ => rfl)) po_none (po_some pe_int)⟩) (keeps_name rfl)) (pe_comp (N' := ["_law_place"]) (cap := [none]) rfl ⟨rfl, rfl, rfl, rfl, rfl, rfl⟩ (pi_listK (K := K) (pe_op op_cat (pe_slice (sl_listK (K := K)) (pv 4) (po_some pe_int) po_none) (pe_slice (sl_listK (K := K)) (pv 4) po_none (po_some pe_int)))) (fun _ _ _ _ _ _ => ⟨pg_name (i := 0) (show (["_law_place"] : List Str).Nodup by decide +kernel) rfl (Or.inl rfl) (Or.inr rfl), pifs_nil, pe_lst (pa_cons (pv 0) pa_nil)⟩) (keeps_name rfl)) (nomark _))
        (pss_one (ps_ret pe_bl))
        (pss_nil))
      (pss_one (ps_for PassesOwn.never rfl (pi_listK (K := K) (pv 4)) (pg_name (i := 5) nd rfl (Or.inl rfl))
        (pss_one (ps_asg (pe_slice (sl_listK (K := K)) (pe_ix (ix_lt (K := K)) (pv 3) (pv 5) (fun _ _ => rfl)) (po_some pe_int) po_none) (pg_sub (pv 3) (pv 5) set_list)))))))
    (pss_one (ps_ret (pe_cmpR (op_eqD hr) (pv 3) (pv 2) (nomark _))))), ?_⟩
  have len8 := ok.len
  obtain ⟨xa, xx, rfl, ex, rxx⟩ := rep_list rx
  obtain ⟨ya, yx, rfl, ey, ryx⟩ := rep_list ry
  have yl : yx.length = rs.length := by rw [ryx.length, List.length_map]
  refine ⟨_, rfl, xa, rfl, ⟨xx, SqL.of ex⟩, fun D hD => ?_⟩
  refine copies ex rxx (by omega) hD (fun x G Q' ⟨b, t, e, eb, q'⟩ => ?_) (fun F0 G ys hG nw0 rs0 => ?_)
  · subst e
    exact ⟨_, rfl, b, _, rfl, .inl (SqL.of eb), q'⟩
  have nD := nw0.lay hG (.lst ys)
  have fD := nw0.bare hG
  have eD : (upd G D (.lst ys)) D = some (.lst ys) := upd_same
  generalize upd G D (HO.lst ys) = H5 at nD eD ⊢
  clear nw0 hG
  refine ⟨_, rfl, ya, rfl, ⟨yx, SqL.of (nD.keep _ _ ey)⟩, for_list (K := K) (xs := yx) (fun i σ' H' => ∃ (F : Hp) (q : Piles) (zs : List V) (c4 c5 : Option V), σ' = [some (.ref xa), some (.ref ya), some z, some (.ref D), c4, c5] ∧ New H F H' ∧ F D = none ∧ H' D = some (.lst zs) ∧ Reps F zs (q.map natsD) ∧ PilesOk q ∧ q.length = p.length ∧ Pops q (rs.drop i) rest)
    ⟨F0, p, ys, none, none, rfl, nD, fD, eD, rs0, ok, rfl, pops⟩ (fun i σ' H' _ ⟨_, _, _, _, _, _, n, _⟩ => SqL.of (n.keep _ _ ey)) ?_ ?_⟩
  · rintro i y σ' H' hy ⟨F, q, zs, c4, c5, rfl, n, fD, eD, rzs, okq, ql, pq⟩
    obtain ⟨r, b, hr', rfl, eb⟩ := reps_at ryx hy
    have hi := lt_of_get hr'
    have er : rs[i] = r := by rw [List.getElem?_eq_getElem hi] at hr'; exact Option.some.inj hr'
    rw [List.drop_eq_getElem_cons hi, er] at pq
    cases pq with
    | cons hm pq =>
    have ir := rings_is okq.inB hm
    have rl : r.length ≤ 8 := Nat.le_trans (nodup_bound _ r ir.nd fun x hx => by have := ir.bd x hx; rwa [topsN_len] at this) okq.len
    have zl : zs.length = q.length := by rw [rzs.length, List.length_map]
    have eb1 := n.keep _ _ eb
    refine ⟨_, rfl, b, rfl, ⟨natsV r, SqL.of eb1⟩, fun D1 hD1 => fresh_comp (fun x => (q.getD x []).take 1) eb1 (by omega) hD1 (fun x G Q' hx kG c => ?_) (fun G1 k1 r1 => ?_)⟩
    · have hxq : x < q.length := by have := ir.bd x hx; rwa [topsN_len] at this
      have hzx : zs[x]? = some zs[x] := List.getElem?_eq_getElem (by omega)
      obtain ⟨lx, bx, hlx, hbx, ebx⟩ := reps_at rzs hzx
      have hat : atI zs (x : Int) = some (.ref bx) := by rw [← hbx]; exact atI_nat hzx
      have elx : q.getD x [] = lx := by rw [List.getD_eq_getElem?_getD, hlx]; rfl
      refine ⟨_, rfl, _, rfl, .inl ⟨D, _, _, _, rfl, rfl, SqL.of (kG _ _ eD), hat, _, rfl, bx, _, rfl, SqL.of (kG _ _ (n.sub _ _ ebx)), fun d hd => ?_⟩⟩
      have := c d hd
      rw [cut_fst]
      rw [elx] at this
      exact this
    · have n1 := n.more k1
      have eb2 := k1 _ _ eb1
      refine ⟨_, rfl, _, rfl, b, _, rfl, SqL.of eb2, fun c1 hc1 => ⟨_, rfl, _, rfl, b, _, rfl, SqL.of (same_upd hc1 _ _ _ eb2), fun c2 hc2 => ?_⟩⟩
      rw [cut_rest, cut_fst] at *
      have s2 := (same_upd hc1 (HO.lst (natsV (r.drop 1)))).trans (same_upd hc2 (HO.lst (natsV (r.take 1))))
      have ec1 : (upd (upd G1 c1 (.lst (natsV (r.drop 1)))) c2 (.lst (natsV (r.take 1)))) c1 = some (.lst (natsV (r.drop 1))) := same_upd hc2 _ _ _ upd_same
      have ec2 : (upd (upd G1 c1 (.lst (natsV (r.drop 1)))) c2 (.lst (natsV (r.take 1)))) c2 = some (.lst (natsV (r.take 1))) := upd_same
      generalize upd (upd G1 c1 (HO.lst (natsV (r.drop 1)))) c2 (HO.lst (natsV (r.take 1))) = G2 at s2 ec1 ec2 ⊢
      refine ⟨c1, c2, _, _, rfl, rfl, ec1, ec2, Nat.le_of_lt (small1000 (by rw [natsV_len, natsV_len, List.length_drop, List.length_take]; omega)), fun l hl => ?_⟩
      rw [← natsV_append]
      have s3 := same_upd hl (HO.lst (natsV (rot r)))
      have el : (upd G2 l (.lst (natsV (rot r)))) l = some (.lst (natsV (rot r))) := upd_same
      have k3 := k1.trans (s2.trans s3)
      have rl2 : (rot r).length ≤ 8 := by unfold rot; rw [List.length_append, List.length_drop, List.length_take]; omega
      refine ⟨l, rfl, ⟨_, SqL.of el⟩, fun D2 hD2 => fresh_comp (fun x => [x]) el (by omega) hD2 (fun x G Q' hx kG c => ?_) (fun G3 k4 r2 => ?_)⟩
      · exact ⟨_, rfl, (by show 1 ≤ sizeLine; decide), c⟩
      · have k3 := k3.trans k4
        have n3 := n.more k3
        refine ⟨ringsD _, ringsD _, r1.mono (s2.trans (s3.trans k4)), r2, (okTo_rings _).shaped (by decide), (okTo_rings _).shaped (by decide), _, rfl, ?_⟩
        rw [eqv_rings, decide_eq_true (heads_eq okq hm)]
        have eD3 := k3 _ _ eD
        have eb3 := k3 _ _ eb1
        generalize G3 = H3 at n3 eD3 eb3 ⊢
        refine ⟨_, rfl, b, rfl, ⟨natsV r, SqL.of eb3⟩, for_list (K := K) (xs := natsV r) (fun j σ' H' => ∃ (F' : Hp) (zs' : List V) (c5 : Option V), σ' = [some (.ref xa), some (.ref ya), some z, some (.ref D), some (.ref b), c5] ∧ New H F' H' ∧ F' D = none ∧ H' D = some (.lst zs') ∧ Reps F' zs' ((popN q (r.take j)).map natsD))
          ⟨F, zs, c5, rfl, n3, fD, eD3, by rw [List.take_zero, pop_none]; exact rzs⟩ (fun j σ' H' _ ⟨_, _, _, _, n, _⟩ => SqL.of (n.keep _ _ eb)) ?_ ?_⟩
        · rintro j y σ' H' hy ⟨F', zs', c5', rfl, n', fD', eD', rz'⟩
          obtain ⟨x, hx, rfl⟩ := natsV_get hy
          have hj := lt_of_get hx
          have hxr : x ∈ r := List.mem_of_getElem? hx
          have hxq : x < q.length := by have := ir.bd x hxr; rwa [topsN_len] at this
          have zl' : zs'.length = q.length := by rw [rz'.length, List.length_map, popN_len]
          have hxt : x ∉ r.take j := fun z => by
            obtain ⟨m, hm2, em⟩ := List.mem_iff_getElem.mp z
            rw [List.length_take] at hm2
            rw [List.getElem_take] at em
            have ex2 : r[j] = x := by rw [List.getElem?_eq_getElem hj] at hx; exact Option.some.inj hx
            exact List.pairwise_iff_getElem.mp ir.nd m j (by omega) hj (by omega) (em.trans ex2.symm)
          have hzx : zs'[x]? = some zs'[x] := List.getElem?_eq_getElem (by omega)
          obtain ⟨lx, bx, hlx, hbx, ebx⟩ := reps_at rz' hzx
          have hat : atI zs' (x : Int) = some (.ref bx) := by rw [← hbx]; exact atI_nat hzx
          rw [pop_off hxt] at hlx
          have elx : q.getD x [] = lx := by rw [List.getD_eq_getElem?_getD, hlx]; rfl
          refine ⟨_, rfl, _, rfl, .inl ⟨D, _, _, _, rfl, rfl, SqL.of eD', hat, _, rfl, bx, _, rfl, SqL.of (n'.sub _ _ ebx), fun d hd => ?_⟩⟩
          rw [cut_rest]
          have hdD : D ≠ d := ne_of_none eD' hd
          have fd : F' d = none := n'.bare hd
          refine ⟨_, rfl, _, rfl, D, zs', _, x, rfl, rfl, (by rw [upd_ne hdD]; exact eD'), ixN_nat (by omega), ?_⟩
          have fD2 : (upd F' d (.lst (natsV (lx.drop 1)))) D = none := by rw [upd_ne hdD]; exact fD'
          have n2 := ((n'.lay hd (.lst (natsV (lx.drop 1)))).see upd_same fd (n'.keep.free hd)).write (p := D) fD2 hD (.lst (zs'.set x (.ref d)))
          refine ⟨_, zs'.set x (.ref d), _, rfl, n2, fD2, upd_same, ?_⟩
          rw [List.take_succ, hx, Option.toList_some, pop_snoc hxt, elx, List.map_set]
          exact reps_put x (rz'.mono (same_upd fd _)) (nats_rep upd_same)
        · rintro σ' H' ⟨F', zs', c5', rfl, n', fD', eD', rz'⟩
          rw [natsV_len, List.take_length] at rz'
          exact ⟨F', popN q r, zs', _, _, rfl, n', fD', eD', rz', okq.pop r, (popN_len _ _).trans ql, pq⟩
  · rintro σ' H' ⟨F, q, zs, c4, c5, rfl, n, fD, eD, rzs, okq, ql, pq⟩
    rw [yl, List.drop_length] at pq
    cases pq
    refine ⟨_, rfl, _, rfl, ringsD rest, ringsD rest, .lst eD (rzs.mono n.sub), rz.mono n.keep, (okTo_rings _).shaped (by decide), (okTo_rings _).shaped (by decide), ?_⟩
    rw [eqv_rings, decide_eq_true rfl]
    exact qq _ n.keep
end
end Law

namespace Law
open PySem L2 Ways Ring PyProof.Rows
section
variable {P : Program} {w : World} {K : PySem.W.Frag} {mg : Str → Option Value} {base : Heap}
theorem rep_out {H : Hp} {x : V} {rs : List (List Nat)} {p : Piles} (r : Rep H x (outD rs p)) : ∃ t u v, x = .ref t ∧ H t = some (.tup [u, v]) ∧ Rep H u (ringsD rs) ∧ Rep H v (ringsD p) := by
  unfold outD at r
  cases r with
  | @tup b xs _ e qs =>
    cases qs with
    | cons r1 qs =>
      cases qs with
      | cons r2 qs =>
        cases qs
        exact ⟨b, _, _, rfl, e, r1, r2⟩
theorem line8 {p q : Piles} {rs : List (List Nat)} (ok : PilesOk p) (h : Pops p rs q) : ∀ l ∈ rs.map castI, l.length ≤ 8 := fun l ml => by
  obtain ⟨t, mt, rfl⟩ := List.mem_map.mp ml
  unfold castI
  rw [List.length_map]
  exact pops_len h ok t mt
theorem few9 {p q : Piles} {rs : List (List Nat)} (ok : PilesOk p) (h : Pops p rs q) : (rs.map castI).length ≤ 900 := by
  have := (h.ok ok).2.2
  have := ok.few
  rw [List.length_map]
  omega
theorem cut_few (ds : List Int) {z : Int} (h0 : 0 ≤ z) (h1 : z < 20) : ∃ es : List Int, cutV (ds.map V.int) none (some z) = es.map V.int ∧ es.length ≤ 20 := by
  obtain ⟨k, rfl⟩ := Int.eq_ofNat_of_zero_le h0
  refine ⟨ds.take (min k (ds.map V.int).length), ?_, by rw [List.length_take]; omega⟩
  unfold cutV
  rw [HT.sIx_none, HT.sIx_nat (ds.map V.int).length (ds.map V.int).length k, List.drop_zero, Nat.sub_zero, List.map_take]
theorem down_nats (n : Nat) : ∃ l : List Nat, downV n = natsV l ∧ l.length = n ∧ ∀ s ∈ l, s < n := by
  refine ⟨(List.range n).map fun i => n - 1 - i, ?_, by rw [List.length_map, List.length_range], fun s hs => ?_⟩
  · unfold downV natsV
    rw [List.map_map]
    refine List.map_congr_left fun i hi => ?_
    have := List.mem_range.mp hi
    show V.int _ = V.int ((n - 1 - i : Nat) : Int)
    congr 1
    omega
  · obtain ⟨i, hi, rfl⟩ := List.mem_map.mp hs
    have := List.mem_range.mp hi
    omega
theorem starts_out {p p' : Piles} {as : List Nat} {roads rings : List (List Nat)} (ok : PilesOk p) (ob : ∀ s ∈ as, s < p.length) (ws : WSteps p (startsN p.length as) roads rings p') : Pops p rings p' ∧ ringsN (topsN p') = [] := by
  refine ws.out ok (fun s hs => ?_) (fun x hx => ?_)
  · rcases List.mem_append.mp hs with z | z
    · exact ob s z
    · exact List.mem_range.mp (List.mem_filter.mp z).1
  · by_cases c : x ∈ as
    · exact List.mem_append_left _ c
    · exact List.mem_append_right _ (List.mem_filter.mpr ⟨List.mem_range.mpr hx, by simpa using c⟩)
end
end Law

namespace Law
open PySem L2 Ways Ring PyProof.Rows
section
variable {P : Program} {w : World} {K : PySem.W.Frag} {mg : Str → Option Value} {base : Heap}
def spLaw (K : PySem.W.Frag) : Sp := fun vs H Q _ => ∃ (a : Addr) (ns : List Int), vs = [.ref a] ∧ SqL K H a (ns.map V.int) ∧ ns.length ≤ 63 ∧ ∀ H', Q (.bl true) H'
theorem ok_law {f : Addr} {fd : FuncData} (F : Fun K "law" "law" s_law f fd) (T : Txt mg)
    (D__law_numbers : Def P w K mg base "_law_numbers" 2 ["_law_script", "_law_seed"] (sp_numbers K)) (D__law_any : Def P w K mg base "_law_any" 2 ["_law_numbers_here"] sp_any17) (D__law_order : Def P w K mg base "_law_order" 2 ["_law_numbers_here"] sp_order17)
    (D_marked_rings : Def P w K mg base "marked_rings" 1 ["rings"] sp_marked) (D__law_each_a_ring : Def P w K mg base "_law_each_a_ring" 1 ["_law_piles", "_law_rings", "_law_rest"] sp_each)
    (D_pop_out : Def P w K mg base "pop_out" 4 ["piles", "order"] sp_pop_out) (D_walk_out : Def P w K mg base "walk_out" 4 ["piles", "starts"] sp_walk_out) : FnOk P w K mg base CX0 5 f fd ["_law_script"] (spLaw K) := by
  have nd := sc_law.nd
  refine F.ok sc_law (fun vs H Q E h => ?_) (fun cdv A outer s H vs Q E hr h => ?_)
  · obtain ⟨a, ns, rfl, _⟩ := h
    rfl
  obtain ⟨a, ns, rfl, hS, h63, qq⟩ := h
  refine ⟨_, pss_cons (ps_set (i := 1) nd rfl (Or.inl rfl) (pe_callD D__law_numbers hr rfl (pa_cons (pv 0) (pa_cons pe_int pa_nil))))
    (pss_cons (ps_set (i := 2) nd rfl (Or.inr rfl) (pe_callD D__law_any hr rfl (pa_cons (pv 1) pa_nil)))
    (pss_cons (ps_set (i := 3) nd rfl (Or.inl rfl) (pe_callD D__law_order hr rfl (pa_cons (pv 1) pa_nil)))
    (pss_cons (ps_setC (i := 4) nd rfl rfl (N' := ["_law_digit", "_law_piles"]) (cap := [none, some 2]) rfl ⟨rfl, rfl, rfl, rfl, rfl, rfl⟩ (pi_listK (K := K) (pe_slice (sl_listK (K := K)) (pv 3) po_none (po_some (pe_modA (pe_op op_fdivB (pe_ix (ix_lt (K := K)) (pe_op op_cat (pv 1) (pe_lst (pa_cons pe_int pa_nil))) pe_int (fun _ _ => rfl)) pe_int) pe_int)))) (fun _ _ _ _ _ _ => ⟨pg_name (i := 0) (show (["_law_digit", "_law_piles"] : List Str).Nodup by decide +kernel) rfl (Or.inl rfl) (Or.inr rfl), pifs_nil, pe_modA (pv 0) (pe_callB (call_lenK (K := K)) rfl T.z_len PySem.boot_len (pa_cons (pv 1) pa_nil))⟩) (keeps_name rfl))
    (pss_cons (ps_asg (pe_callD D_pop_out hr rfl (pa_cons (pv 2) (pa_cons (pv 3) pa_nil))) (pg_tupK (K := K) rfl (pgs_cons (pg_name (i := 5) nd rfl (Or.inl rfl)) (pgs_cons (pg_name (i := 6) nd rfl (Or.inl rfl)) pgs_nil))))
    (pss_cons (ps_set (i := 7) nd rfl (Or.inl rfl) (pe_callD D_marked_rings hr rfl (pa_cons (pv 5) pa_nil)))
    (pss_cons (ps_for PassesOwn.never rfl (pi_listK (K := K) (pe_lst (pa_cons (pv 4) (pa_cons (pe_lst pa_nil) (pa_cons (pe_listRevR rfl rfl T.z_list rfl T.z_reversed rfl T.z_range (pa_cons (pe_callB (call_lenK (K := K)) rfl T.z_len PySem.boot_len (pa_cons (pv 2) pa_nil)) pa_nil)) pa_nil))))) (pg_name (i := 8) nd rfl (Or.inl rfl))
      (pss_cons (ps_asg (pe_callD D_walk_out hr rfl (pa_cons (pe_comp (N' := ["_law_pile"]) (cap := [none]) rfl ⟨rfl, rfl, rfl, rfl, rfl, rfl⟩ (pi_listK (K := K) (pv 2)) (fun _ _ _ _ _ _ => ⟨pg_name (i := 0) (show (["_law_pile"] : List Str).Nodup by decide +kernel) rfl (Or.inl rfl) (Or.inr rfl), pifs_nil, pe_callTy (call_listK (K := K)) rfl T.z_list boot_list (pa_cons (pv 0) pa_nil)⟩) (keeps_name rfl)) (pa_cons (pv 8) pa_nil))) (pg_tupK (K := K) rfl (pgs_cons (pg_name (i := 9) nd rfl (Or.inl rfl)) (pgs_cons (pg_name (i := 10) nd rfl (Or.inl rfl)) (pgs_cons (pg_name (i := 11) nd rfl (Or.inl rfl)) pgs_nil)))))
      (pss_one (ps_if (PW.pt (pw_or (pt_not (pt_val (pe_callD D__law_each_a_ring hr rfl (pa_cons (pv 2) (pa_cons (pv 10) (pa_cons (pv 11) pa_nil)))))) (pw_or (pt_cmpR (op_neD hr) (pe_callD D_marked_rings hr rfl (pa_cons (pv 10) pa_nil)) (pv 7) (nomark _)) (pw_or1 (pt_cmpR (op_neD hr) (pv 11) (pv 6) (nomark _))))))
        (pss_one (ps_ret pe_bl))
        (pss_nil)))))
    (pss_one (ps_ret pe_bl)))))))), ?_⟩
  refine ⟨_, rfl, a, ns, _, rfl, hS, h63, fun r1 ms H1 k1 hr1 e1 ml => ?_⟩
  refine ⟨_, rfl, r1, ms, rfl, e1, ml, fun p pv F2 H2 ok h40 n2 rp2 => ?_⟩
  refine ⟨_, rfl, r1, ms, rfl, n2.keep _ _ e1, ml, fun r3 ds H3 k3 hr3 e3 dl => ?_⟩
  have e13 := k3 _ _ (n2.keep _ _ e1)
  have rp3 := rp2.mono (n2.sub.trans k3)
  have len8 := ok.len
  have pos := ok.pos
  obtain ⟨pa, px, rfl, ep, rpx⟩ := rep_list rp3
  have pxl : px.length = p.length := by rw [rpx.length, List.length_map]
  obtain ⟨fst, hfst⟩ : ∃ z : Int, atI (ms.map V.int ++ [V.int 0]) 0 = some (V.int z) := by
    cases ms with
    | nil => exact ⟨_, rfl⟩
    | cons z r => exact ⟨z, atI0 _ _⟩
  refine ⟨_, rfl, _, rfl, (by show 1 ≤ sizeLine; decide), fun c1 hc1 => ⟨r1, c1, _, _, rfl, rfl, same_upd hc1 _ _ _ e13, upd_same, Nat.le_of_lt (small1000 (by rw [List.length_map, List.length_singleton]; omega)), fun c2 hc2 => ?_⟩⟩
  have sA : Same H3 (upd (upd H3 c1 (.lst [V.int 0])) c2 (.lst (ms.map V.int ++ [V.int 0]))) := (same_upd hc1 _).trans (same_upd hc2 _)
  refine .inl ⟨c2, _, 0, _, rfl, rfl, SqL.of upd_same, hfst, _, _, rfl, rfl, log_500 (by decide) (by decide) _, _, rfl, _, rfl, (by decide), fun z0 z1 z2 => ?_⟩
  generalize upd (upd H3 c1 (HO.lst [V.int 0])) c2 (HO.lst (ms.map V.int ++ [V.int 0])) = H4 at sA ⊢
  obtain ⟨es, ees, el20⟩ := cut_few ds z1 z2
  refine ⟨_, rfl, r3, _, rfl, SqL.of (sA _ _ e3), fun l hl => ?_⟩
  rw [ees]
  have sl := sA.trans (same_upd hl (HO.lst (es.map V.int)))
  have el : (upd H4 l (.lst (es.map V.int))) l = some (.lst (es.map V.int)) := upd_same
  generalize upd H4 l (HO.lst (es.map V.int)) = H5 at sl el ⊢
  have ep5 := sl _ _ ep
  refine ⟨l, rfl, ⟨_, SqL.of el⟩, fun S hS => ?_⟩
  refine comp_list (K := K) (xs := es.map V.int) (fun i G ys => Same H5 G ∧ ∃ as : List Nat, ys = natsV as ∧ as.length = i ∧ ∀ s ∈ as, s < p.length) hS ⟨Same.refl _, [], rfl, rfl, (fun _ m => nomatch m)⟩ (fun i G ys ⟨k, _⟩ => SqL.of (k _ _ el)) (fun i x G ys hx hG pq => ?_) (fun G ys hG pq => ?_)
  · obtain ⟨k, as, rfl, al, ab⟩ := pq
    have hi := lt_of_get hx
    rw [List.length_map] at hi
    obtain ⟨z, rfl⟩ := int_at hx
    refine ⟨_, rfl, _, rfl, _, rfl, pa, _, rfl, .inl (SqL.of (same_upd hG _ _ _ (k _ _ ep5))), _, rfl, by omega, fun u u0 u1 => ?_⟩
    obtain ⟨m, rfl⟩ := Int.eq_ofNat_of_zero_le u0
    refine cput (ys := natsV as) upd_same (by rw [natsV_len]; omega) ⟨same_del k hG (Same.refl _), as ++ [m], by rw [natsV_append]; rfl, by rw [List.length_append, List.length_singleton, al], fun s hs => ?_⟩
    rcases List.mem_append.mp hs with z | z
    · exact ab s z
    · have : s = m := by simpa using z
      omega
  obtain ⟨k2, as, rfl, al, ab⟩ := pq
  rw [List.length_map] at al
  have kS := sl.trans (k2.trans (same_upd hG (HO.lst (natsV as))))
  have eS : (upd G S (.lst (natsV as))) S = some (.lst (natsV as)) := upd_same
  generalize upd G S (HO.lst (natsV as)) = H6 at kS eS ⊢
  have rp6 := rp3.mono kS
  refine ⟨_, rfl, _, rfl, .ref pa, .ref r3, p, some ds, rfl, rp6, ok, ⟨r3, rfl, kS _ _ e3⟩, fun rs rest fv F7 H7 out n7 r7 => ?_⟩
  obtain ⟨ft, u, v, rfl, et, ru, rv⟩ := rep_out r7
  have pops := Pops.of_steps out.1
  have ru7 := ru.mono n7.sub
  rw [rings_lines] at ru7
  refine ⟨ft, _, rfl, SqT.of (n7.sub _ _ et), rfl, _, _, rfl, _, _, rfl, rfl, ?_⟩
  refine ⟨_, rfl, u, _, rfl, ru7, few9 ok pops, line8 ok pops, fun mv F8 H8 rows n8 pm8 so8 re8 => ?_⟩
  have k68 := n7.keep.trans n8.keep
  have rp8 := rp6.mono k68
  have ep8 := k68 _ _ (kS _ _ ep)
  have rpx8 := rpx.mono (kS.trans k68)
  have eS8 := k68 _ _ eS
  have rv8 := rv.mono (n7.sub.trans n8.keep)
  have re8' := re8.mono n8.sub
  obtain ⟨dn, edn, dnl, dnb⟩ := down_nats p.length
  refine ⟨_, rfl, Nat.zero_le _, fun pN hN => ?_⟩
  have sN := same_upd hN (HO.lst [])
  have eN : (upd H8 pN (.lst [])) pN = some (.lst (natsV [])) := upd_same
  generalize upd H8 pN (HO.lst []) = H9 at sN eN ⊢
  refine ⟨_, rfl, pa, _, rfl, .inl (SqL.of (sN _ _ ep8)), px.length, rfl, by omega, fun pR hR => ?_⟩
  rw [pxl, edn]
  have sR := same_upd hR (HO.lst (natsV dn))
  have eR : (upd H9 pR (.lst (natsV dn))) pR = some (.lst (natsV dn)) := upd_same
  generalize upd H9 pR (HO.lst (natsV dn)) = H10 at sR eR ⊢
  refine ⟨(by show 3 ≤ sizeLine; decide), fun pL hL => ?_⟩
  have sL := same_upd hL (HO.lst [V.ref S, .ref pN, .ref pR])
  have eL : (upd H10 pL (.lst [V.ref S, .ref pN, .ref pR])) pL = some (.lst [V.ref S, .ref pN, .ref pR]) := upd_same
  generalize upd H10 pL (HO.lst [V.ref S, .ref pN, .ref pR]) = HA at sL eL ⊢
  have kA := sN.trans (sR.trans sL)
  have lists : ∀ {i : Nat} {x : V}, [V.ref S, V.ref pN, V.ref pR][i]? = some x → ∃ b l, x = .ref b ∧ HA b = some (.lst (natsV l)) ∧ l.length ≤ 63 ∧ ∀ s ∈ l, s < p.length := fun {i x} hx => by
    match i, hx with
    | 0, hx => cases hx; exact ⟨S, as, rfl, kA _ _ eS8, by omega, ab⟩
    | 1, hx => cases hx; exact ⟨pN, [], rfl, sL _ _ (sR _ _ eN), by decide, (fun _ m => nomatch m)⟩
    | 2, hx => cases hx; exact ⟨pR, dn, rfl, sL _ _ eR, by omega, dnb⟩
    | i + 3, hx => simp at hx
  refine ⟨pL, rfl, ⟨_, SqL.of eL⟩, for_list (K := K) (xs := [V.ref S, .ref pN, .ref pR]) (fun i σ' H' => ∃ c8 c9 c10 c11 : Option V, σ' = [some (.ref a), some (.ref r1), some (.ref pa), some (.ref r3), some (.ref S), some u, some v, some mv, c8, c9, c10, c11] ∧ Same HA H')
    ⟨none, none, none, none, rfl, Same.refl _⟩ (fun i σ' H' _ ⟨_, _, _, _, _, k⟩ => SqL.of (k _ _ eL)) ?_ ?_⟩
  · rintro i x σ' H' hx ⟨c8, c9, c10, c11, rfl, k⟩
    obtain ⟨b, l, rfl, eb, ll, lb⟩ := lists hx
    have k8 := kA.trans k
    refine ⟨_, rfl, pa, rfl, ⟨px, SqL.of (k8 _ _ ep8)⟩, fun D2 hD2 => ?_⟩
    refine copies (k8 _ _ ep8) (rpx8.mono k8) (by omega) hD2 (fun x G Q' ⟨b, t, e, eb, q'⟩ => ?_) (fun F0 G2 ys hG2 nw0 rs0 => ?_)
    · subst e
      exact ⟨_, rfl, b, _, rfl, .inl (SqL.of eb), q'⟩
    have nD := nw0.done (o := .lst ys) hG2
    have rD : Rep (upd F0 D2 (.lst ys)) (.ref D2) (ringsD p) := .lst upd_same (rs0.mono (same_upd (nw0.bare hG2) _))
    generalize upd G2 D2 (HO.lst ys) = HB at nD ⊢
    generalize upd F0 D2 (HO.lst ys) = FB at nD rD
    refine ⟨_, rfl, .ref D2, .ref b, p, some l, rfl, rD.mono nD.sub, ok, ⟨b, rfl, nD.keep _ _ (k _ _ eb)⟩, ll, lb, fun roads lost left tv FC HC ws okl ll2 fw nC rC => ?_⟩
    have ws' : WSteps p (startsN p.length l) roads lost left := ws
    obtain ⟨popsL, endL⟩ := starts_out ok lb ws'
    obtain ⟨t2, u1, u2, u3, rfl, et2, ru1, ru2, ru3⟩ := rep_trip rC
    obtain ⟨same, erest⟩ := Pops.same ok popsL endL pops out.2
    subst erest
    refine ⟨t2, _, rfl, SqT.of (nC.sub _ _ et2), rfl, _, _, rfl, _, _, rfl, _, _, rfl, rfl, ?_⟩
    have k8C := k8.trans (nD.keep.trans nC.keep)
    refine ⟨_, rfl, _, rfl, _, rfl, .ref pa, u2, u3, p, lost, left, rfl, rp8.mono k8C, ru2.mono nC.sub, ru3.mono nC.sub, ok, popsL, fun HE kE => ⟨_, rfl, ?_⟩⟩
    have ru2E := ru2.mono (nC.sub.trans kE)
    rw [rings_lines] at ru2E
    refine ⟨_, rfl, u2, _, rfl, ru2E, few9 ok popsL, line8 ok popsL, fun mvD FD HD rowsD nD' pmD soD reD => ?_⟩
    have eD8 : rowsD = rows := rows_one ((pmD.trans (marks_same ok popsL endL pops out.2)).trans pm8.symm) soD so8
    subst eD8
    have k8D := k8C.trans (kE.trans nD'.keep)
    refine ⟨_, rfl, netD rowsD, netD rowsD, reD.mono nD'.sub, re8'.mono k8D, (okTo_net _).shaped (by decide), (okTo_net _).shaped (by decide), _, rfl, ?_⟩
    rw [eqv_net, decide_eq_true rfl]
    refine ⟨_, rfl, _, rfl, ringsD left, ringsD left, ru3.mono (nC.sub.trans (kE.trans nD'.keep)), rv8.mono k8D, (okTo_rings _).shaped (by decide), (okTo_rings _).shaped (by decide), _, rfl, ?_⟩
    rw [eqv_rings, decide_eq_true rfl]
    exact ⟨_, _, _, _, rfl, k.trans (nD.keep.trans (nC.keep.trans (kE.trans nD'.keep)))⟩
  · rintro σ' H' ⟨c8, c9, c10, c11, rfl, k⟩
    exact qq _
end
theorem law_all {P : Program} {w : World} {K : PySem.W.Frag} {mg : Str → Option Value} {base : Heap} {f : Addr} {fd : FuncData} {C : Addr} (T : Txt mg) (W : OwnWalker K mg C)
    (m_init : NHere K C "Walker.__init__" s_Walker___init__ ["self", "piles"]) (m_ends_at : MHere K C "ends_at" "Walker.ends_at" s_Walker_ends_at ["self", "place"]) (m_lose : MHere K C "lose" "Walker.lose" s_Walker_lose ["self", "ring"]) (m_walk_from : MHere K C "walk_from" "Walker.walk_from" s_Walker_walk_from ["self", "start"])
    (h_way_along : Here K mg "way_along" s_way_along ["ends", "place"]) (h_copied : Here K mg "copied" s_copied ["piles"]) (h_tops_of : Here K mg "tops_of" s_tops_of ["piles"]) (h_rings_of : Here K mg "rings_of" s_rings_of ["tops"]) (h_least_first : Here K mg "least_first" s_least_first ["ring"]) (h_without_tops : Here K mg "without_tops" s_without_tops ["piles", "places"])
    (h_walk_out : HereD K mg "walk_out" s_walk_out ["piles", "starts"] [.none]) (h_top_rings : Here K mg "top_rings" s_top_rings ["piles"]) (h_number_at : Here K mg "number_at" s_number_at ["order", "turn"]) (h_pop_out : HereD K mg "pop_out" s_pop_out ["piles", "order"] [.none]) (h_marked_rings : Here K mg "marked_rings" s_marked_rings ["rings"])
    (h__law_fold : Here K mg "_law_fold" s__law_fold ["_law_script", "_law_number"]) (h__law_next : Here K mg "_law_next" s__law_next ["_law_number"]) (h__law_numbers : Here K mg "_law_numbers" s__law_numbers ["_law_script", "_law_seed"]) (h__law_digits : Here K mg "_law_digits" s__law_digits ["_law_number", "_law_base", "_law_most"])
    (h__law_any : Here K mg "_law_any" s__law_any ["_law_numbers_here"]) (h__law_order : Here K mg "_law_order" s__law_order ["_law_numbers_here"]) (h__law_each_a_ring : Here K mg "_law_each_a_ring" s__law_each_a_ring ["_law_piles", "_law_rings", "_law_rest"])
    (F : Fun K "law" "law" s_law f fd) : FnOk P w K mg base CX0 5 f fd ["_law_script"] (spLaw K) :=
  have tr := def_top_rings (P := P) (w := w) (base := base) T (def_rings_of T (def_way_along T h_way_along) h_rings_of) (def_tops_of T h_tops_of) h_top_rings
  have po := def_pop_out (P := P) (w := w) (base := base) T (def_copied T h_copied) tr (def_number_at T h_number_at) (def_without_tops T h_without_tops) h_pop_out
  have wf := def_Walker_walk_from (P := P) (w := w) (base := base) T W (def_Walker_ends_at T W m_ends_at) (def_Walker_lose T W (def_least_first T h_least_first) (def_without_tops T h_without_tops) m_lose) m_walk_from
  have wo := def_walk_out (P := P) (w := w) (base := base) T W (def_Walker___init__ T W (def_copied T h_copied) m_init) wf h_walk_out
  have fo := def__law_fold (P := P) (w := w) (base := base) T h__law_fold
  have dg := def__law_digits (P := P) (w := w) (base := base) T h__law_digits
  ok_law F T (def__law_numbers T fo (def__law_next T h__law_next) h__law_numbers) (def__law_any T dg h__law_any) (def__law_order T dg h__law_order) (def_marked_rings T h_marked_rings) (def__law_each_a_ring T h__law_each_a_ring) po.1 wo.1
theorem all_mk {l : PySem.W.OpenLaw} {w : World} {K : PySem.W.Frag} {h : Heap} {mg : Str → Option Value} {fa f0 f1 f2 f3 f4 f5 f6 f7 f8 f9 f10 f11 f12 f13 f14 f15 f16 f17 f18 : Addr} (X : K.In h) (G : h.Ns mainGlobals mg) (hfa : mg "law" = some (.ref fa))
    {od0 an0 : Option Addr} {sl0 : Array (Option Value)} {oc0 kV0 dc0 pm0 cd0 ct0 : Value}
    (a0 : PySem.W.nsIn K mainGlobals "way_along" = some (some (.ref f0))) (l0 : K.lookup f0 = some ⟨oc0, od0, .func (PySem.W.fnOf "way_along" "way_along" (defArgs s_way_along) (defBody s_way_along) (defScope s_way_along) (.none) kV0 dc0 pm0 an0 cd0 ct0), sl0⟩) (c0 : PySem.W.codeIn K cd0 "way_along" = true) (k0 : PySem.W.keepIn K (.ref f0) = true)
    {od1 an1 : Option Addr} {sl1 : Array (Option Value)} {oc1 kV1 dc1 pm1 cd1 ct1 : Value}
    (a1 : PySem.W.nsIn K mainGlobals "copied" = some (some (.ref f1))) (l1 : K.lookup f1 = some ⟨oc1, od1, .func (PySem.W.fnOf "copied" "copied" (defArgs s_copied) (defBody s_copied) (defScope s_copied) (.none) kV1 dc1 pm1 an1 cd1 ct1), sl1⟩) (c1 : PySem.W.codeIn K cd1 "copied" = true) (k1 : PySem.W.keepIn K (.ref f1) = true)
    {od2 an2 : Option Addr} {sl2 : Array (Option Value)} {oc2 kV2 dc2 pm2 cd2 ct2 : Value}
    (a2 : PySem.W.nsIn K mainGlobals "tops_of" = some (some (.ref f2))) (l2 : K.lookup f2 = some ⟨oc2, od2, .func (PySem.W.fnOf "tops_of" "tops_of" (defArgs s_tops_of) (defBody s_tops_of) (defScope s_tops_of) (.none) kV2 dc2 pm2 an2 cd2 ct2), sl2⟩) (c2 : PySem.W.codeIn K cd2 "tops_of" = true) (k2 : PySem.W.keepIn K (.ref f2) = true)
    {od3 an3 : Option Addr} {sl3 : Array (Option Value)} {oc3 kV3 dc3 pm3 cd3 ct3 : Value}
    (a3 : PySem.W.nsIn K mainGlobals "rings_of" = some (some (.ref f3))) (l3 : K.lookup f3 = some ⟨oc3, od3, .func (PySem.W.fnOf "rings_of" "rings_of" (defArgs s_rings_of) (defBody s_rings_of) (defScope s_rings_of) (.none) kV3 dc3 pm3 an3 cd3 ct3), sl3⟩) (c3 : PySem.W.codeIn K cd3 "rings_of" = true) (k3 : PySem.W.keepIn K (.ref f3) = true)
    {od4 an4 : Option Addr} {sl4 : Array (Option Value)} {oc4 kV4 dc4 pm4 cd4 ct4 : Value}
    (a4 : PySem.W.nsIn K mainGlobals "least_first" = some (some (.ref f4))) (l4 : K.lookup f4 = some ⟨oc4, od4, .func (PySem.W.fnOf "least_first" "least_first" (defArgs s_least_first) (defBody s_least_first) (defScope s_least_first) (.none) kV4 dc4 pm4 an4 cd4 ct4), sl4⟩) (c4 : PySem.W.codeIn K cd4 "least_first" = true) (k4 : PySem.W.keepIn K (.ref f4) = true)
    {od5 an5 : Option Addr} {sl5 : Array (Option Value)} {oc5 kV5 dc5 pm5 cd5 ct5 : Value}
    (a5 : PySem.W.nsIn K mainGlobals "without_tops" = some (some (.ref f5))) (l5 : K.lookup f5 = some ⟨oc5, od5, .func (PySem.W.fnOf "without_tops" "without_tops" (defArgs s_without_tops) (defBody s_without_tops) (defScope s_without_tops) (.none) kV5 dc5 pm5 an5 cd5 ct5), sl5⟩) (c5 : PySem.W.codeIn K cd5 "without_tops" = true) (k5 : PySem.W.keepIn K (.ref f5) = true)
    {od6 an6 : Option Addr} {sl6 : Array (Option Value)} {oc6 kV6 dc6 pm6 cd6 ct6 : Value}
    {da6 : Addr} {dn6 : Nat} {dsl6 : Array (Option Value)}
    (a6 : PySem.W.nsIn K mainGlobals "walk_out" = some (some (.ref f6))) (l6 : K.lookup f6 = some ⟨oc6, od6, .func (PySem.W.fnOf "walk_out" "walk_out" (defArgs s_walk_out) (defBody s_walk_out) (defScope s_walk_out) (.ref da6) kV6 dc6 pm6 an6 cd6 ct6), sl6⟩) (c6 : PySem.W.codeIn K cd6 "walk_out" = true) (k6 : PySem.W.keepIn K (.ref f6) = true)
    (d6 : K.lookup da6 = some ⟨.type "tuple", none, .seq #[.none] dn6, dsl6⟩)
    {od7 an7 : Option Addr} {sl7 : Array (Option Value)} {oc7 kV7 dc7 pm7 cd7 ct7 : Value}
    (a7 : PySem.W.nsIn K mainGlobals "top_rings" = some (some (.ref f7))) (l7 : K.lookup f7 = some ⟨oc7, od7, .func (PySem.W.fnOf "top_rings" "top_rings" (defArgs s_top_rings) (defBody s_top_rings) (defScope s_top_rings) (.none) kV7 dc7 pm7 an7 cd7 ct7), sl7⟩) (c7 : PySem.W.codeIn K cd7 "top_rings" = true) (k7 : PySem.W.keepIn K (.ref f7) = true)
    {od8 an8 : Option Addr} {sl8 : Array (Option Value)} {oc8 kV8 dc8 pm8 cd8 ct8 : Value}
    (a8 : PySem.W.nsIn K mainGlobals "number_at" = some (some (.ref f8))) (l8 : K.lookup f8 = some ⟨oc8, od8, .func (PySem.W.fnOf "number_at" "number_at" (defArgs s_number_at) (defBody s_number_at) (defScope s_number_at) (.none) kV8 dc8 pm8 an8 cd8 ct8), sl8⟩) (c8 : PySem.W.codeIn K cd8 "number_at" = true) (k8 : PySem.W.keepIn K (.ref f8) = true)
    {od9 an9 : Option Addr} {sl9 : Array (Option Value)} {oc9 kV9 dc9 pm9 cd9 ct9 : Value}
    {da9 : Addr} {dn9 : Nat} {dsl9 : Array (Option Value)}
    (a9 : PySem.W.nsIn K mainGlobals "pop_out" = some (some (.ref f9))) (l9 : K.lookup f9 = some ⟨oc9, od9, .func (PySem.W.fnOf "pop_out" "pop_out" (defArgs s_pop_out) (defBody s_pop_out) (defScope s_pop_out) (.ref da9) kV9 dc9 pm9 an9 cd9 ct9), sl9⟩) (c9 : PySem.W.codeIn K cd9 "pop_out" = true) (k9 : PySem.W.keepIn K (.ref f9) = true)
    (d9 : K.lookup da9 = some ⟨.type "tuple", none, .seq #[.none] dn9, dsl9⟩)
    {od10 an10 : Option Addr} {sl10 : Array (Option Value)} {oc10 kV10 dc10 pm10 cd10 ct10 : Value}
    (a10 : PySem.W.nsIn K mainGlobals "marked_rings" = some (some (.ref f10))) (l10 : K.lookup f10 = some ⟨oc10, od10, .func (PySem.W.fnOf "marked_rings" "marked_rings" (defArgs s_marked_rings) (defBody s_marked_rings) (defScope s_marked_rings) (.none) kV10 dc10 pm10 an10 cd10 ct10), sl10⟩) (c10 : PySem.W.codeIn K cd10 "marked_rings" = true) (k10 : PySem.W.keepIn K (.ref f10) = true)
    {od11 an11 : Option Addr} {sl11 : Array (Option Value)} {oc11 kV11 dc11 pm11 cd11 ct11 : Value}
    (a11 : PySem.W.nsIn K mainGlobals "_law_fold" = some (some (.ref f11))) (l11 : K.lookup f11 = some ⟨oc11, od11, .func (PySem.W.fnOf "_law_fold" "_law_fold" (defArgs s__law_fold) (defBody s__law_fold) (defScope s__law_fold) (.none) kV11 dc11 pm11 an11 cd11 ct11), sl11⟩) (c11 : PySem.W.codeIn K cd11 "_law_fold" = true) (k11 : PySem.W.keepIn K (.ref f11) = true)
    {od12 an12 : Option Addr} {sl12 : Array (Option Value)} {oc12 kV12 dc12 pm12 cd12 ct12 : Value}
    (a12 : PySem.W.nsIn K mainGlobals "_law_next" = some (some (.ref f12))) (l12 : K.lookup f12 = some ⟨oc12, od12, .func (PySem.W.fnOf "_law_next" "_law_next" (defArgs s__law_next) (defBody s__law_next) (defScope s__law_next) (.none) kV12 dc12 pm12 an12 cd12 ct12), sl12⟩) (c12 : PySem.W.codeIn K cd12 "_law_next" = true) (k12 : PySem.W.keepIn K (.ref f12) = true)
    {od13 an13 : Option Addr} {sl13 : Array (Option Value)} {oc13 kV13 dc13 pm13 cd13 ct13 : Value}
    (a13 : PySem.W.nsIn K mainGlobals "_law_numbers" = some (some (.ref f13))) (l13 : K.lookup f13 = some ⟨oc13, od13, .func (PySem.W.fnOf "_law_numbers" "_law_numbers" (defArgs s__law_numbers) (defBody s__law_numbers) (defScope s__law_numbers) (.none) kV13 dc13 pm13 an13 cd13 ct13), sl13⟩) (c13 : PySem.W.codeIn K cd13 "_law_numbers" = true) (k13 : PySem.W.keepIn K (.ref f13) = true)
    {od14 an14 : Option Addr} {sl14 : Array (Option Value)} {oc14 kV14 dc14 pm14 cd14 ct14 : Value}
    (a14 : PySem.W.nsIn K mainGlobals "_law_digits" = some (some (.ref f14))) (l14 : K.lookup f14 = some ⟨oc14, od14, .func (PySem.W.fnOf "_law_digits" "_law_digits" (defArgs s__law_digits) (defBody s__law_digits) (defScope s__law_digits) (.none) kV14 dc14 pm14 an14 cd14 ct14), sl14⟩) (c14 : PySem.W.codeIn K cd14 "_law_digits" = true) (k14 : PySem.W.keepIn K (.ref f14) = true)
    {od15 an15 : Option Addr} {sl15 : Array (Option Value)} {oc15 kV15 dc15 pm15 cd15 ct15 : Value}
    (a15 : PySem.W.nsIn K mainGlobals "_law_any" = some (some (.ref f15))) (l15 : K.lookup f15 = some ⟨oc15, od15, .func (PySem.W.fnOf "_law_any" "_law_any" (defArgs s__law_any) (defBody s__law_any) (defScope s__law_any) (.none) kV15 dc15 pm15 an15 cd15 ct15), sl15⟩) (c15 : PySem.W.codeIn K cd15 "_law_any" = true) (k15 : PySem.W.keepIn K (.ref f15) = true)
    {od16 an16 : Option Addr} {sl16 : Array (Option Value)} {oc16 kV16 dc16 pm16 cd16 ct16 : Value}
    (a16 : PySem.W.nsIn K mainGlobals "_law_order" = some (some (.ref f16))) (l16 : K.lookup f16 = some ⟨oc16, od16, .func (PySem.W.fnOf "_law_order" "_law_order" (defArgs s__law_order) (defBody s__law_order) (defScope s__law_order) (.none) kV16 dc16 pm16 an16 cd16 ct16), sl16⟩) (c16 : PySem.W.codeIn K cd16 "_law_order" = true) (k16 : PySem.W.keepIn K (.ref f16) = true)
    {od17 an17 : Option Addr} {sl17 : Array (Option Value)} {oc17 kV17 dc17 pm17 cd17 ct17 : Value}
    (a17 : PySem.W.nsIn K mainGlobals "_law_each_a_ring" = some (some (.ref f17))) (l17 : K.lookup f17 = some ⟨oc17, od17, .func (PySem.W.fnOf "_law_each_a_ring" "_law_each_a_ring" (defArgs s__law_each_a_ring) (defBody s__law_each_a_ring) (defScope s__law_each_a_ring) (.none) kV17 dc17 pm17 an17 cd17 ct17), sl17⟩) (c17 : PySem.W.codeIn K cd17 "_law_each_a_ring" = true) (k17 : PySem.W.keepIn K (.ref f17) = true)
    {od18 an18 : Option Addr} {sl18 : Array (Option Value)} {oc18 kV18 dc18 pm18 cd18 ct18 : Value}
    (a18 : PySem.W.nsIn K mainGlobals "law" = some (some (.ref f18))) (l18 : K.lookup f18 = some ⟨oc18, od18, .func (PySem.W.fnOf "law" "law" (defArgs s_law) (defBody s_law) (defScope s_law) (.none) kV18 dc18 pm18 an18 cd18 ct18), sl18⟩) (c18 : PySem.W.codeIn K cd18 "law" = true) (k18 : PySem.W.keepIn K (.ref f18) = true)
    {C_Walker : Addr}
    (oa_Walker : PySem.W.nsIn K mainGlobals "Walker" = some (some (.ref C_Walker)))
    (op_Walker : PySem.W.plainGet K C_Walker Str.empty = true)
    (oh_Walker : PySem.W.hasDictIn K C_Walker = true)
    (oo_Walker : PySem.W.plainOver K C_Walker = true)
    (os_Walker : PySem.W.findIn K (.ref C_Walker) "__setattr__" = some (some (.builtin "object.__setattr__")))
    (om_Walker : PySem.W.makesIn K C_Walker = true)
    (ok_Walker : PySem.W.keepIn K (.ref C_Walker) = true)
    (on_rest_Walker : PySem.W.findIn K (.ref C_Walker) "rest" = some none)
    (on_rings_Walker : PySem.W.findIn K (.ref C_Walker) "rings" = some none)
    (on_roads_Walker : PySem.W.findIn K (.ref C_Walker) "roads" = some none)
    {f_Walker___init__ : Addr} {od_Walker___init__ an_Walker___init__ : Option Addr} {sl_Walker___init__ : Array (Option Value)} {oc_Walker___init__ kV_Walker___init__ dc_Walker___init__ pm_Walker___init__ cd_Walker___init__ ct_Walker___init__ : Value}
    (ma_Walker___init__ : PySem.W.findIn K (.ref C_Walker) "__init__" = some (some (.ref f_Walker___init__))) (mi_Walker___init__ : PySem.W.isFn K (.ref f_Walker___init__) = true) (ml_Walker___init__ : K.lookup f_Walker___init__ = some ⟨oc_Walker___init__, od_Walker___init__, .func (PySem.W.fnOf "__init__" "Walker.__init__" (defArgs s_Walker___init__) (defBody s_Walker___init__) (defScope s_Walker___init__) .none kV_Walker___init__ dc_Walker___init__ pm_Walker___init__ an_Walker___init__ cd_Walker___init__ ct_Walker___init__), sl_Walker___init__⟩) (mc_Walker___init__ : PySem.W.codeIn K cd_Walker___init__ "Walker.__init__" = true) (mk_Walker___init__ : PySem.W.keepIn K (.ref f_Walker___init__) = true)
    {f_Walker_ends_at : Addr} {od_Walker_ends_at an_Walker_ends_at : Option Addr} {sl_Walker_ends_at : Array (Option Value)} {oc_Walker_ends_at kV_Walker_ends_at dc_Walker_ends_at pm_Walker_ends_at cd_Walker_ends_at ct_Walker_ends_at : Value}
    (ma_Walker_ends_at : PySem.W.findIn K (.ref C_Walker) "ends_at" = some (some (.ref f_Walker_ends_at))) (mi_Walker_ends_at : PySem.W.isFn K (.ref f_Walker_ends_at) = true) (ml_Walker_ends_at : K.lookup f_Walker_ends_at = some ⟨oc_Walker_ends_at, od_Walker_ends_at, .func (PySem.W.fnOf "ends_at" "Walker.ends_at" (defArgs s_Walker_ends_at) (defBody s_Walker_ends_at) (defScope s_Walker_ends_at) .none kV_Walker_ends_at dc_Walker_ends_at pm_Walker_ends_at an_Walker_ends_at cd_Walker_ends_at ct_Walker_ends_at), sl_Walker_ends_at⟩) (mc_Walker_ends_at : PySem.W.codeIn K cd_Walker_ends_at "Walker.ends_at" = true) (mk_Walker_ends_at : PySem.W.keepIn K (.ref f_Walker_ends_at) = true)
    {f_Walker_lose : Addr} {od_Walker_lose an_Walker_lose : Option Addr} {sl_Walker_lose : Array (Option Value)} {oc_Walker_lose kV_Walker_lose dc_Walker_lose pm_Walker_lose cd_Walker_lose ct_Walker_lose : Value}
    (ma_Walker_lose : PySem.W.findIn K (.ref C_Walker) "lose" = some (some (.ref f_Walker_lose))) (mi_Walker_lose : PySem.W.isFn K (.ref f_Walker_lose) = true) (ml_Walker_lose : K.lookup f_Walker_lose = some ⟨oc_Walker_lose, od_Walker_lose, .func (PySem.W.fnOf "lose" "Walker.lose" (defArgs s_Walker_lose) (defBody s_Walker_lose) (defScope s_Walker_lose) .none kV_Walker_lose dc_Walker_lose pm_Walker_lose an_Walker_lose cd_Walker_lose ct_Walker_lose), sl_Walker_lose⟩) (mc_Walker_lose : PySem.W.codeIn K cd_Walker_lose "Walker.lose" = true) (mk_Walker_lose : PySem.W.keepIn K (.ref f_Walker_lose) = true)
    {f_Walker_walk_from : Addr} {od_Walker_walk_from an_Walker_walk_from : Option Addr} {sl_Walker_walk_from : Array (Option Value)} {oc_Walker_walk_from kV_Walker_walk_from dc_Walker_walk_from pm_Walker_walk_from cd_Walker_walk_from ct_Walker_walk_from : Value}
    (ma_Walker_walk_from : PySem.W.findIn K (.ref C_Walker) "walk_from" = some (some (.ref f_Walker_walk_from))) (mi_Walker_walk_from : PySem.W.isFn K (.ref f_Walker_walk_from) = true) (ml_Walker_walk_from : K.lookup f_Walker_walk_from = some ⟨oc_Walker_walk_from, od_Walker_walk_from, .func (PySem.W.fnOf "walk_from" "Walker.walk_from" (defArgs s_Walker_walk_from) (defBody s_Walker_walk_from) (defScope s_Walker_walk_from) .none kV_Walker_walk_from dc_Walker_walk_from pm_Walker_walk_from an_Walker_walk_from cd_Walker_walk_from ct_Walker_walk_from), sl_Walker_walk_from⟩) (mc_Walker_walk_from : PySem.W.codeIn K cd_Walker_walk_from "Walker.walk_from" = true) (mk_Walker_walk_from : PySem.W.keepIn K (.ref f_Walker_walk_from) = true)
    (z_abs : PySem.W.nsIn K mainGlobals "abs" = some none)
    (z_any : PySem.W.nsIn K mainGlobals "any" = some none)
    (z_enumerate : PySem.W.nsIn K mainGlobals "enumerate" = some none)
    (z_len : PySem.W.nsIn K mainGlobals "len" = some none)
    (z_list : PySem.W.nsIn K mainGlobals "list" = some none)
    (z_min : PySem.W.nsIn K mainGlobals "min" = some none)
    (z_range : PySem.W.nsIn K mainGlobals "range" = some none)
    (z_reversed : PySem.W.nsIn K mainGlobals "reversed" = some none)
    (z_sorted : PySem.W.nsIn K mainGlobals "sorted" = some none)
    : ∃ fd : FuncData, (∀ (s : Shared) (v : Value), BindsTo s fd ⟨[v], []⟩ [("_law_script", v)]) ∧ ∀ base : Heap, K.In base → base.Ns mainGlobals mg → FnOk l.prog w K mg base CX0 5 fa fd ["_law_script"] (spLaw K) := by
  have e := hfa.symm.trans (PySem.W.mg_of X G a18)
  cases e
  have T : Txt mg := ⟨PySem.W.mg_none_of X G z_abs, PySem.W.mg_none_of X G z_any, PySem.W.mg_none_of X G z_enumerate, PySem.W.mg_none_of X G z_len, PySem.W.mg_none_of X G z_list, PySem.W.mg_none_of X G z_min, PySem.W.mg_none_of X G z_range, PySem.W.mg_none_of X G z_reversed, PySem.W.mg_none_of X G z_sorted⟩
  have F0 := fun_mk (st := s_way_along) l0 c0 k0
  have h_way_along : Here K mg "way_along" s_way_along ["ends", "place"] := ⟨_, _, F0, PySem.W.mg_of X G a0, F0.binds (ps := ["ends", "place"]) fun _ _ _ _ _ _ us hl => match us, hl with | [_, _], _ => rfl⟩
  have F1 := fun_mk (st := s_copied) l1 c1 k1
  have h_copied : Here K mg "copied" s_copied ["piles"] := ⟨_, _, F1, PySem.W.mg_of X G a1, F1.binds (ps := ["piles"]) fun _ _ _ _ _ _ us hl => match us, hl with | [_], _ => rfl⟩
  have F2 := fun_mk (st := s_tops_of) l2 c2 k2
  have h_tops_of : Here K mg "tops_of" s_tops_of ["piles"] := ⟨_, _, F2, PySem.W.mg_of X G a2, F2.binds (ps := ["piles"]) fun _ _ _ _ _ _ us hl => match us, hl with | [_], _ => rfl⟩
  have F3 := fun_mk (st := s_rings_of) l3 c3 k3
  have h_rings_of : Here K mg "rings_of" s_rings_of ["tops"] := ⟨_, _, F3, PySem.W.mg_of X G a3, F3.binds (ps := ["tops"]) fun _ _ _ _ _ _ us hl => match us, hl with | [_], _ => rfl⟩
  have F4 := fun_mk (st := s_least_first) l4 c4 k4
  have h_least_first : Here K mg "least_first" s_least_first ["ring"] := ⟨_, _, F4, PySem.W.mg_of X G a4, F4.binds (ps := ["ring"]) fun _ _ _ _ _ _ us hl => match us, hl with | [_], _ => rfl⟩
  have F5 := fun_mk (st := s_without_tops) l5 c5 k5
  have h_without_tops : Here K mg "without_tops" s_without_tops ["piles", "places"] := ⟨_, _, F5, PySem.W.mg_of X G a5, F5.binds (ps := ["piles", "places"]) fun _ _ _ _ _ _ us hl => match us, hl with | [_, _], _ => rfl⟩
  have F6 := funD_mk (st := s_walk_out) (ds := [.none]) l6 d6 c6 k6
  have h_walk_out : HereD K mg "walk_out" s_walk_out ["piles", "starts"] [.none] := ⟨_, _, F6, PySem.W.mg_of X G a6, F6.binds (ps := ["piles", "starts"]) (es := []) 2 rfl (fun _ _ _ _ _ _ _ us hl _ _ _ e1 e2 => match us, hl with | [_, _], _ => .of_defaults rfl e1 e2 rfl rfl), F6.binds (ps := ["piles", "starts"]) (es := [.none]) 1 rfl (fun _ _ _ _ _ _ _ us hl _ _ _ e1 e2 => match us, hl with | [_], _ => .of_defaults rfl e1 e2 rfl rfl)⟩
  have F7 := fun_mk (st := s_top_rings) l7 c7 k7
  have h_top_rings : Here K mg "top_rings" s_top_rings ["piles"] := ⟨_, _, F7, PySem.W.mg_of X G a7, F7.binds (ps := ["piles"]) fun _ _ _ _ _ _ us hl => match us, hl with | [_], _ => rfl⟩
  have F8 := fun_mk (st := s_number_at) l8 c8 k8
  have h_number_at : Here K mg "number_at" s_number_at ["order", "turn"] := ⟨_, _, F8, PySem.W.mg_of X G a8, F8.binds (ps := ["order", "turn"]) fun _ _ _ _ _ _ us hl => match us, hl with | [_, _], _ => rfl⟩
  have F9 := funD_mk (st := s_pop_out) (ds := [.none]) l9 d9 c9 k9
  have h_pop_out : HereD K mg "pop_out" s_pop_out ["piles", "order"] [.none] := ⟨_, _, F9, PySem.W.mg_of X G a9, F9.binds (ps := ["piles", "order"]) (es := []) 2 rfl (fun _ _ _ _ _ _ _ us hl _ _ _ e1 e2 => match us, hl with | [_, _], _ => .of_defaults rfl e1 e2 rfl rfl), F9.binds (ps := ["piles", "order"]) (es := [.none]) 1 rfl (fun _ _ _ _ _ _ _ us hl _ _ _ e1 e2 => match us, hl with | [_], _ => .of_defaults rfl e1 e2 rfl rfl)⟩
  have F10 := fun_mk (st := s_marked_rings) l10 c10 k10
  have h_marked_rings : Here K mg "marked_rings" s_marked_rings ["rings"] := ⟨_, _, F10, PySem.W.mg_of X G a10, F10.binds (ps := ["rings"]) fun _ _ _ _ _ _ us hl => match us, hl with | [_], _ => rfl⟩
  have F11 := fun_mk (st := s__law_fold) l11 c11 k11
  have h__law_fold : Here K mg "_law_fold" s__law_fold ["_law_script", "_law_number"] := ⟨_, _, F11, PySem.W.mg_of X G a11, F11.binds (ps := ["_law_script", "_law_number"]) fun _ _ _ _ _ _ us hl => match us, hl with | [_, _], _ => rfl⟩
  have F12 := fun_mk (st := s__law_next) l12 c12 k12
  have h__law_next : Here K mg "_law_next" s__law_next ["_law_number"] := ⟨_, _, F12, PySem.W.mg_of X G a12, F12.binds (ps := ["_law_number"]) fun _ _ _ _ _ _ us hl => match us, hl with | [_], _ => rfl⟩
  have F13 := fun_mk (st := s__law_numbers) l13 c13 k13
  have h__law_numbers : Here K mg "_law_numbers" s__law_numbers ["_law_script", "_law_seed"] := ⟨_, _, F13, PySem.W.mg_of X G a13, F13.binds (ps := ["_law_script", "_law_seed"]) fun _ _ _ _ _ _ us hl => match us, hl with | [_, _], _ => rfl⟩
  have F14 := fun_mk (st := s__law_digits) l14 c14 k14
  have h__law_digits : Here K mg "_law_digits" s__law_digits ["_law_number", "_law_base", "_law_most"] := ⟨_, _, F14, PySem.W.mg_of X G a14, F14.binds (ps := ["_law_number", "_law_base", "_law_most"]) fun _ _ _ _ _ _ us hl => match us, hl with | [_, _, _], _ => rfl⟩
  have F15 := fun_mk (st := s__law_any) l15 c15 k15
  have h__law_any : Here K mg "_law_any" s__law_any ["_law_numbers_here"] := ⟨_, _, F15, PySem.W.mg_of X G a15, F15.binds (ps := ["_law_numbers_here"]) fun _ _ _ _ _ _ us hl => match us, hl with | [_], _ => rfl⟩
  have F16 := fun_mk (st := s__law_order) l16 c16 k16
  have h__law_order : Here K mg "_law_order" s__law_order ["_law_numbers_here"] := ⟨_, _, F16, PySem.W.mg_of X G a16, F16.binds (ps := ["_law_numbers_here"]) fun _ _ _ _ _ _ us hl => match us, hl with | [_], _ => rfl⟩
  have F17 := fun_mk (st := s__law_each_a_ring) l17 c17 k17
  have h__law_each_a_ring : Here K mg "_law_each_a_ring" s__law_each_a_ring ["_law_piles", "_law_rings", "_law_rest"] := ⟨_, _, F17, PySem.W.mg_of X G a17, F17.binds (ps := ["_law_piles", "_law_rings", "_law_rest"]) fun _ _ _ _ _ _ us hl => match us, hl with | [_, _, _], _ => rfl⟩
  have F18 := fun_mk (st := s_law) l18 c18 k18
  refine ⟨PySem.W.fnOf "law" "law" (defArgs s_law) (defBody s_law) (defScope s_law) .none kV18 dc18 pm18 an18 cd18 ct18, fun s v => .of_eq rfl, fun base _ _ => ?_⟩
  have W_Walker : OwnWalker K mg C_Walker := ⟨⟨op_Walker, oh_Walker, oo_Walker, os_Walker⟩, PySem.W.mg_of X G oa_Walker, on_rest_Walker, on_rings_Walker, on_roads_Walker⟩
  have FM_Walker___init__ := fun_mk (st := s_Walker___init__) ml_Walker___init__ mc_Walker___init__ mk_Walker___init__
  have m_Walker___init__ : NHere K C_Walker "Walker.__init__" s_Walker___init__ ["self", "piles"] := ⟨_, _, FM_Walker___init__, ⟨om_Walker, ma_Walker___init__, mi_Walker___init__, ok_Walker⟩, FM_Walker___init__.binds (ps := ["self", "piles"]) fun _ _ _ _ _ _ us hl => match us, hl with | [_, _], _ => rfl⟩
  have FM_Walker_ends_at := fun_mk (st := s_Walker_ends_at) ml_Walker_ends_at mc_Walker_ends_at mk_Walker_ends_at
  have m_Walker_ends_at : MHere K C_Walker "ends_at" "Walker.ends_at" s_Walker_ends_at ["self", "place"] := ⟨_, _, FM_Walker_ends_at, ⟨ma_Walker_ends_at, mi_Walker_ends_at, mk_Walker_ends_at⟩, FM_Walker_ends_at.binds (ps := ["self", "place"]) fun _ _ _ _ _ _ us hl => match us, hl with | [_, _], _ => rfl⟩
  have FM_Walker_lose := fun_mk (st := s_Walker_lose) ml_Walker_lose mc_Walker_lose mk_Walker_lose
  have m_Walker_lose : MHere K C_Walker "lose" "Walker.lose" s_Walker_lose ["self", "ring"] := ⟨_, _, FM_Walker_lose, ⟨ma_Walker_lose, mi_Walker_lose, mk_Walker_lose⟩, FM_Walker_lose.binds (ps := ["self", "ring"]) fun _ _ _ _ _ _ us hl => match us, hl with | [_, _], _ => rfl⟩
  have FM_Walker_walk_from := fun_mk (st := s_Walker_walk_from) ml_Walker_walk_from mc_Walker_walk_from mk_Walker_walk_from
  have m_Walker_walk_from : MHere K C_Walker "walk_from" "Walker.walk_from" s_Walker_walk_from ["self", "start"] := ⟨_, _, FM_Walker_walk_from, ⟨ma_Walker_walk_from, mi_Walker_walk_from, mk_Walker_walk_from⟩, FM_Walker_walk_from.binds (ps := ["self", "start"]) fun _ _ _ _ _ _ us hl => match us, hl with | [_, _], _ => rfl⟩
  exact law_all T W_Walker m_Walker___init__ m_Walker_ends_at m_Walker_lose m_Walker_walk_from h_way_along h_copied h_tops_of h_rings_of h_least_first h_without_tops h_walk_out h_top_rings h_number_at h_pop_out h_marked_rings h__law_fold h__law_next h__law_numbers h__law_digits h__law_any h__law_order h__law_each_a_ring F18
theorem walk {l : PySem.W.OpenLaw} {q : Program} {loose : List Str} {XP : (Str → Option Value) → Heap → Prop} {YP : World → Heap → Prop} {d : DefRec} {K : Params → PySem.W.Frag} (hn : l.most = some 63) (hdf : d.params.defaults = [])
    (hY : ∀ (w : World) (h : Heap), YP w h → (K w.params).In h)
    (F : ∀ (w : World) (mg : Str → Option Value) (fa : Addr) (h : Heap), (K w.params).In h → h.Ns mainGlobals mg → mg d.name = some (.ref fa) →
      ∃ fd : FuncData, (∀ (s : Shared) (u : Value), BindsTo s fd ⟨[u], []⟩ [("_law_script", u)]) ∧ ∀ base : Heap, (K w.params).In base → base.Ns mainGlobals mg → FnOk l.prog w (K w.params) mg base CX0 5 fa fd ["_law_script"] (spLaw (K w.params))) :
    PySem.W.WalkO q loose XP YP l.row.toRowW d [] (fun f vs => PySem.call f vs) :=
  L2.walk_of (n := 63) (k := 5) (x := "_law_script") (CX := fun _ => CX0) (sp := fun w => spLaw (K w.params)) hn (by decide) hdf ⟨rfl, by decide, by decide⟩ hY F (fun _ _ a ns hl _ hS => ⟨a, ns, rfl, hS, hl, fun _ => rfl⟩) fun _ _ _ _ _ z => z
end Law
open PySem PySem.W PyProof.Rows
set_option maxRecDepth 100000 in
set_option maxHeartbeats 0 in
theorem PySem.Challenge.cw_ringpop_k22_whole_walks_pop_the_same_holds : PySem.Challenge.rw_ringpop_k22_whole_walks_pop_the_same.Holds := by
  w_on; o_law; k_head; (case hw => w_witness2)
  k_fill
  refine Law.walk (l := PySem.Challenge.rw_ringpop_k22_whole_walks_pop_the_same) rfl rfl (fun w h Y => PySem.W.kIn_of Y) ?F
  case F =>
    intro w mg fa h KX G hmg
    refine' Law.all_mk KX G hmg ?a0 ?l0 ?c0 ?k0 ?a1 ?l1 ?c1 ?k1 ?a2 ?l2 ?c2 ?k2 ?a3 ?l3 ?c3 ?k3 ?a4 ?l4 ?c4 ?k4 ?a5 ?l5 ?c5 ?k5 ?a6 ?l6 ?c6 ?k6 ?d6 ?a7 ?l7 ?c7 ?k7 ?a8 ?l8 ?c8 ?k8 ?a9 ?l9 ?c9 ?k9 ?d9 ?a10 ?l10 ?c10 ?k10 ?a11 ?l11 ?c11 ?k11 ?a12 ?l12 ?c12 ?k12 ?a13 ?l13 ?c13 ?k13 ?a14 ?l14 ?c14 ?k14 ?a15 ?l15 ?c15 ?k15 ?a16 ?l16 ?c16 ?k16 ?a17 ?l17 ?c17 ?k17 ?a18 ?l18 ?c18 ?k18 ?oa_Walker ?op_Walker ?oh_Walker ?oo_Walker ?os_Walker ?om_Walker ?ok_Walker ?on_rest_Walker ?on_rings_Walker ?on_roads_Walker ?ma_Walker___init__ ?mi_Walker___init__ ?ml_Walker___init__ ?mc_Walker___init__ ?mk_Walker___init__ ?ma_Walker_ends_at ?mi_Walker_ends_at ?ml_Walker_ends_at ?mc_Walker_ends_at ?mk_Walker_ends_at ?ma_Walker_lose ?mi_Walker_lose ?ml_Walker_lose ?mc_Walker_lose ?mk_Walker_lose ?ma_Walker_walk_from ?mi_Walker_walk_from ?ml_Walker_walk_from ?mc_Walker_walk_from ?mk_Walker_walk_from ?z_abs ?z_any ?z_enumerate ?z_len ?z_list ?z_min ?z_range ?z_reversed ?z_sorted
    (case a0 => k_is); (case l0 => k_is); (case c0 => k_is); (case k0 => k_is)
    (case a1 => k_is); (case l1 => k_is); (case c1 => k_is); (case k1 => k_is)
    (case a2 => k_is); (case l2 => k_is); (case c2 => k_is); (case k2 => k_is)
    (case a3 => k_is); (case l3 => k_is); (case c3 => k_is); (case k3 => k_is)
    (case a4 => k_is); (case l4 => k_is); (case c4 => k_is); (case k4 => k_is)
    (case a5 => k_is); (case l5 => k_is); (case c5 => k_is); (case k5 => k_is)
    (case a6 => k_is); (case l6 => k_is); (case c6 => k_is); (case k6 => k_is); (case d6 => k_is)
    (case a7 => k_is); (case l7 => k_is); (case c7 => k_is); (case k7 => k_is)
    (case a8 => k_is); (case l8 => k_is); (case c8 => k_is); (case k8 => k_is)
    (case a9 => k_is); (case l9 => k_is); (case c9 => k_is); (case k9 => k_is); (case d9 => k_is)
    (case a10 => k_is); (case l10 => k_is); (case c10 => k_is); (case k10 => k_is)
    (case a11 => k_is); (case l11 => k_is); (case c11 => k_is); (case k11 => k_is)
    (case a12 => k_is); (case l12 => k_is); (case c12 => k_is); (case k12 => k_is)
    (case a13 => k_is); (case l13 => k_is); (case c13 => k_is); (case k13 => k_is)
    (case a14 => k_is); (case l14 => k_is); (case c14 => k_is); (case k14 => k_is)
    (case a15 => k_is); (case l15 => k_is); (case c15 => k_is); (case k15 => k_is)
    (case a16 => k_is); (case l16 => k_is); (case c16 => k_is); (case k16 => k_is)
    (case a17 => k_is); (case l17 => k_is); (case c17 => k_is); (case k17 => k_is)
    (case a18 => k_is); (case l18 => k_is); (case c18 => k_is); (case k18 => k_is)
    (case oa_Walker => k_is)
    (case op_Walker => k_is)
    (case oh_Walker => k_is)
    (case oo_Walker => k_is)
    (case os_Walker => k_is)
    (case om_Walker => k_is)
    (case ok_Walker => k_is)
    (case on_rest_Walker => k_is)
    (case on_rings_Walker => k_is)
    (case on_roads_Walker => k_is)
    (case ma_Walker___init__ => k_is)
    (case mi_Walker___init__ => k_is)
    (case ml_Walker___init__ => k_is)
    (case mc_Walker___init__ => k_is)
    (case mk_Walker___init__ => k_is)
    (case ma_Walker_ends_at => k_is)
    (case mi_Walker_ends_at => k_is)
    (case ml_Walker_ends_at => k_is)
    (case mc_Walker_ends_at => k_is)
    (case mk_Walker_ends_at => k_is)
    (case ma_Walker_lose => k_is)
    (case mi_Walker_lose => k_is)
    (case ml_Walker_lose => k_is)
    (case mc_Walker_lose => k_is)
    (case mk_Walker_lose => k_is)
    (case ma_Walker_walk_from => k_is)
    (case mi_Walker_walk_from => k_is)
    (case ml_Walker_walk_from => k_is)
    (case mc_Walker_walk_from => k_is)
    (case mk_Walker_walk_from => k_is)
    (case z_abs => k_is)
    (case z_any => k_is)
    (case z_enumerate => k_is)
    (case z_len => k_is)
    (case z_list => k_is)
    (case z_min => k_is)
    (case z_range => k_is)
    (case z_reversed => k_is)
    (case z_sorted => k_is)

